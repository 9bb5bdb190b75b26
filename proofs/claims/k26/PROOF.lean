import PyProof.Rows.All
import Wide.All
import OpenK.AllK
import Wide.FinOn
import Lean
import PyProof.EqAt
import PyProof.EqKinds
import PyProof.TupleCall
import PyProof.ListRange
import PyProof.NeKinds
import KE.KUnpack
import KE.KSortTup
import PyProof.ZipIter
import PyProof.Rows.CallKwBuiltin
import KE.KFind
import PySem.Challenge.RW_signpoly_k26_most_looked_at
set_option Elab.async false
set_option linter.all false
set_option maxRecDepth 100000
set_option genSizeOf false
noncomputable section
namespace L2
open PySem PySem.Spec PyProof.Rows
abbrev Key:=Sum Int Str
noncomputable def yU:Key->Value->Bool
 | .inl k,v=>Value.isInt k v
 | .inr x,v=>Value.isStrOf x v
noncomputable def Cg (w:World):Key->Int
 | .inl k=>hashInt k
 | .inr x=>hashStr w x
theorem cN:∀ {k:Key}{v:Value},yU k v=true->(∃ i t,k=Sum.inl i/\v=Value.int i t)\/(∃ x t,k=Sum.inr x/\v=Value.str x t)
 | .inl i,v,h=>by
  obtain⟨t,e⟩:=Value.isInt_shape (k:=i) (v:=v) h
  exact .inl ⟨i,t,rfl,e⟩
 | .inr x,v,h=>by
  obtain⟨t,e⟩:=Value.isStrOf_shape (x:=x) (v:=v) h
  exact .inr ⟨x,t,rfl,e⟩
theorem Av (a b:Int):decide ((Sum.inl a:Key)=Sum.inl b)=(a==b):=by
 by_cases e:a=b
 ·subst e;simp
 ·have h:¬ (Sum.inl a:Key)=Sum.inl b:=λq=>e (Sum.inl.inj q)
  rw [decide_eq_false h]
  exact (beq_eq_false_iff_ne.mpr e).symm
theorem zR (a b:Str):decide ((Sum.inr a:Key)=Sum.inr b)=decide (a=b):=by
 by_cases e:a=b
 ·subst e;simp
 ·have h:¬ (Sum.inr a:Key)=Sum.inr b:=λq=>e (Sum.inr.inj q)
  rw [decide_eq_false h,decide_eq_false e]
theorem Ax (a:Int) (b:Str):decide ((Sum.inl a:Key)=Sum.inr b)=false:=decide_eq_false (λq=>nomatch q)
theorem za (a:Str) (b:Int):decide ((Sum.inr a:Key)=Sum.inl b)=false:=decide_eq_false (λq=>nomatch q)
noncomputable def qk (prog:Program) (w:World):PySem.KeyKind prog w Key where
 is:=yU
 hash:=Cg w
 inj:=λv a b ha hb=>by
  rcases cN ha with⟨i,t,rfl,rfl⟩ | ⟨x,t,rfl,rfl⟩
  ·rcases cN hb with⟨j,u,rfl,e⟩ | ⟨y,u,rfl,e⟩
   ·injection e with e1 _;rw [e1]
   ·exact nomatch e
  ·rcases cN hb with⟨j,u,rfl,e⟩ | ⟨y,u,rfl,e⟩
   ·exact nomatch e
   ·injection e with e1 _;rw [e1]
 byValue:=λk v h=>by
  rcases cN h with⟨i,t,rfl,rfl⟩ | ⟨x,t,rfl,rfl⟩<;>rfl
 pyHash:=λhv h=>by
  rcases cN hv with⟨i,t,rfl,rfl⟩ | ⟨x,t,rfl,rfl⟩
  ·exact wpAny_pyHash_int h
  ·exact wpAny_pyHash_str h
 eqBool:=λhu hv h=>by
  rcases cN hu with⟨i,t,rfl,rfl⟩ | ⟨x,t,rfl,rfl⟩
  ·rcases cN hv with⟨j,u,rfl,rfl⟩ | ⟨y,u,rfl,rfl⟩
   ·rw [Av] at h;exact wpAny_eqBool_int h
   ·rw [Ax] at h;exact SeqAt.EqAt.int_str i t y u _ _ _ _ h
  ·rcases cN hv with⟨j,u,rfl,rfl⟩ | ⟨y,u,rfl,rfl⟩
   ·rw [za] at h;exact SeqAt.EqAt.str_int x t j u _ _ _ _ h
   ·rw [zR] at h;exact wpAny_eqBool_str h
 «strs»:=λk x t v h=>by
  rcases cN h with⟨i,u,rfl,e⟩ | ⟨y,u,rfl,e⟩
  ·exact nomatch e
  ·injection e with e1 _
   subst e1
   cases v<;>rfl
end L2
namespace L2
open PySem PySem.Spec PyProof.Rows
inductive V where
 | non | bl (b:Bool) | int (i:Int) | str (x:Str) | byt (b:Array UInt8) | flt (b:UInt64) | ref (a:Addr) | ty (n:String)
 deriving DecidableEq
noncomputable def bJ:V->Value->Prop
 | .non,u=>u=Value.none
 | .bl b,u=>u=Value.bool b
 | .int i,u=>∃ t,u=Value.int i t
 | .str x,u=>∃ t,u=Value.str x t
 | .byt b,u=>∃ t,u=Value.bytes b t
 | .flt b,u=>∃ t,u=Value.float b t
 | .ref a,u=>u=Value.ref a
 | .ty n,u=>u=Value.type n
abbrev aV:List V->List Value->Prop:=Paired bJ
theorem aV.length {xs:List V}{us:List Value} (r:aV xs us):xs.length=us.length:=Paired.length r
theorem aV.get:∀ {xs:List V}{us:List Value}{i:Nat}{x:V},aV xs us->xs[i]?=some x->∃ u,us[i]?=some u/\bJ x u
 | _,_,_,_,.nil,e=>by simp at e
 | _,_,0,_,.cons r _,e=>by simp at e;subst e;exact⟨_,rfl,r⟩
 | _,_,i+1,x,.cons _ t,e=>by
  obtain⟨u,h1,h2⟩:=aV.get (i:=i) (x:=x) t (by simpa using e)
  exact⟨u,by simpa using h1,h2⟩
theorem aV.set {x:V}{u:Value} (r:bJ x u):∀ {xs:List V}{us:List Value} (i:Nat),aV xs us->aV (xs.set i x) (us.set i u)
 | _,_,_,.nil=>.nil
 | _,_,0,.cons _ t=>.cons r t
 | _,_,i+1,.cons q t=>.cons q (aV.set r i t)
theorem aV.append:∀ {xs ys:List V}{us ws:List Value},aV xs us->aV ys ws->aV (xs++ys) (us++ws)
 | _,_,_,_,.nil,s=>s
 | _,_,_,_,.cons r t,s=>.cons r (aV.append t s)
theorem aV.take:∀ {xs:List V}{us:List Value} (n:Nat),aV xs us->aV (xs.take n) (us.take n)
 | _,_,0,_=>.nil
 | _,_,_+1,.nil=>.nil
 | _,_,n+1,.cons r t=>.cons r (aV.take n t)
theorem aV.drop:∀ {xs:List V}{us:List Value} (n:Nat),aV xs us->aV (xs.drop n) (us.drop n)
 | _,_,0,r=>r
 | _,_,_+1,.nil=>.nil
 | _,_,n+1,.cons _ t=>aV.drop n t
noncomputable def sX:Option V->Option Value->Prop
 | some v,some u=>bJ v u
 | none,none=>True
 | _,_=>False
noncomputable def KV {κ:Type}:List (κ×V)->List (κ×Value)->Prop:=Paired λ(p:κ×V) (q:κ×Value)=>p.1=q.1/\bJ p.2 q.2
noncomputable def kV:Key->V
 | .inl i=>.int i
 | .inr x=>.str x
inductive HO where
 | lst (xs:List V)
 | tup (xs:List V)
 | dK (kvs:List (Key×V)) | dT (kvs:List (List Key×V))
 | set (S:Int->Bool) (n:Nat)
 | ins (C dx:Addr) (fs:List (Str×V))
 | own (x:Addr)
 | xd (fs:List (Str×V))
 | met (f x:Addr)
 | rng (lo hi:Int)
 | frz (o:Obj) (u:HO)
 | tbl (ps:Array Value)
 | ext (φ:Heap->Prop)
abbrev Hp:=Addr->Option HO
noncomputable def upd (H:Hp) (a:Addr) (o:HO):Hp:=λb=>if b=a then some o else H b
theorem upd_same {H:Hp}{a:Addr}{o:HO}:upd H a o a=some o:=by unfold upd;rw [if_pos rfl]
theorem upd_ne {H:Hp}{a b:Addr}{o:HO} (h:b≠a):upd H a o b=H b:=by unfold upd;rw [if_neg h]
theorem aS {H:Hp}{a b:Addr}{o:HO} (h:H a=some o) (h':H b=none):a≠b:=by
 intro e;subst e;rw [h] at h';cases h'
noncomputable def eP (h:Heap) (a:Addr) (its:Array Value):Prop:=∃ o:Obj,h.get? a=some o/\o.cls=.type "tuple"/\(∃ n,o.data=.seq its n)/\o.dict=none
theorem eP.tup {h:Heap}{a:Addr}{its:Array Value} (x:eP h a its):IsTup h a its:=let ⟨o,e,c,n,_⟩:=x;⟨o,e,c,n⟩
theorem eP.new (h:Heap) (its:Array Value):eP (h.push { cls:=.type "tuple",data:=.seq its }) h.objs.size its:=⟨_,Heap.get?_push_size _ rfl,rfl,⟨_,rfl⟩,rfl⟩
section
variable (P:Program) (w:World)
noncomputable def dB (H:Hp) (h:Heap) (a:Addr):HO->Prop
 | .lst xs=>xs.length<=sizeLine/\∃ (its:List Value) (n:Nat),aV xs its/\h.get? a=some { cls:=.type "list",data:=.seq its.toArray n }
 | .tup xs=>xs.length<=sizeLine/\∃ its:List Value,aV xs its/\eP h a its.toArray
 | .dK kvs=>kvs.length<=sizeLine/\(a==sysModules)=false/\∃ vs,KV kvs vs/\h.DictOf (qk P w) a vs
 | .dT kvs=>kvs.length<=sizeLine/\(a==sysModules)=false/\∃ xs:List (List Key×Addr×Value),
   Paired (λ(p:List Key×V) (q:List Key×Addr×Value)=>p.1=q.1/\H q.2.1=some (.tup (p.1.map kV))/\bJ p.2 q.2.2) kvs xs/\
   ∃ o es ep,h.get? a=some o/\o.ExactDict/\o.data=.dict es ep/\es.toList=xs.map (entryOfKey (tupleKind (qk P w)))/\(xs.map (·.1)).Nodup
 | .set S n=>h.SetOf (intKind P w) a S n
 | .ins C dx fs=>H dx=some (.own a)/\fs.length<=1000/\dx≠a/\h.get? a=some (PySem.W.instObj C dx)/\
   ∃ mA,h.Ns1 dx mA/\(∀ f,sX (fs.lookup f) (mA f))/\PySem.Within mA (fs.map (·.1))
 | .own _=>∃ o,h.get? a=some o
 | .xd fs=>∃ mA,h.Ns1 a mA/\∀ f,sX (fs.lookup f) (mA f)
 | .rng lo hi=>∃ t u v,h.get? a=some { cls:=.type "range",data:=.fields #[.int lo t,.int hi u,.int 1 v] }
 | .frz o u=>h.get? a=some o/\dB H h a u
 | .tbl ps=>h.get? a=some { cls:=.none,data:=.fields ps }
 | .met f x=>h.get? a=some (PySem.W.methodObj (.ref f) (.ref x))
 | .ext φ=>φ h/\(∃ o,h.get? a=some o)/\∀ h1 h2:Heap,φ h1->(∀ o,h1.get? a=some o->h2.get? a=some o)->φ h2
noncomputable def HOk (H:Hp) (h:Heap):Prop:=∀ a o,H a=some o->dB P w H h a o
end
section
variable {P:Program}{w:World}{H H':Hp}{h h':Heap}{a:Addr}{o:HO}
theorem dB.lt (x:dB P w H h a o):a < h.objs.size:=by
 cases o with
 | lst xs=>obtain⟨_,_,_,_,e⟩:=x;exact Heap.lt_size e
 | tup xs=>obtain⟨_,_,_,p⟩:=x;exact p.tup.lt
 | dK kvs=>obtain⟨_,_,_,_,o,_,_,e,_⟩:=x;exact Heap.lt_size e
 | dT kvs=>obtain⟨_,_,_,_,o,_,_,e,_⟩:=x;exact Heap.lt_size e
 | set S n=>obtain⟨o,_,_,_,e,_⟩:=x;exact Heap.lt_size e
 | ins C dx fs=>obtain⟨_,_,_,e,_⟩:=x;exact Heap.lt_size e
 | own y=>obtain⟨_,e⟩:=x;exact Heap.lt_size e
 | xd fs=>obtain⟨_,⟨_,_,_,e,_⟩,_⟩:=x;exact Heap.lt_size e
 | rng lo hi=>obtain⟨_,_,_,e⟩:=x;exact Heap.lt_size e
 | frz ob u=>obtain⟨e,_⟩:=x;exact Heap.lt_size e
 | tbl ps=>exact Heap.lt_size (show h.get? a=some _ from x)
 | met f y=>exact Heap.lt_size (show h.get? a=some _ from x)
 | ext φ=>obtain⟨_,⟨_,e⟩,_⟩:=x;exact Heap.lt_size e
theorem Paired.mapP {α β:Type}{F G:α->β->Prop}:∀ {l₁:List α}{l₂:List β},Paired F l₁ l₂->(∀ a b,F a b->G a b)->Paired G l₁ l₂
 | _,_,.nil,_=>.nil
 | _,_,.cons r t,f=>.cons (f _ _ r) (Paired.mapP t f)
theorem dB.stay (x:dB P w H h a o) (k:∀ b u,(b=a\/H b=some (.own a))->h.get? b=some u->h'.get? b=some u)
  (ho:∀ b,H b=some (.own a)->H' b=some (.own a)) (ht:∀ b xs,H b=some (.tup xs)->H' b=some (.tup xs)):dB P w H' h' a o:=by
 induction o with
 | lst xs=>obtain⟨z,its,n,r,e⟩:=x;exact⟨z,its,n,r,k _ _ (.inl rfl) e⟩
 | tup xs=>obtain⟨z,its,r,ob,e,c⟩:=x;exact⟨z,its,r,ob,k _ _ (.inl rfl) e,c⟩
 | dK kvs=>obtain⟨z,y,vs,r,ob,es,ep,e,c⟩:=x;exact⟨z,y,vs,r,ob,es,ep,k _ _ (.inl rfl) e,c⟩
 | dT kvs=>
  obtain⟨z,y,xs,r,ob,es,ep,e,c⟩:=x
  exact⟨z,y,xs,Paired.mapP r λp q z=>⟨z.1,ht _ _ z.2.1,z.2.2⟩,ob,es,ep,k _ _ (.inl rfl) e,c⟩
 | set S n=>obtain⟨ob,es,ep,t,e,c⟩:=x;exact⟨ob,es,ep,t,k _ _ (.inl rfl) e,c⟩
 | ins C dx fs=>
  obtain⟨d,z,ne,e,mA,⟨od,es,ep,e2,c⟩,r⟩:=x
  exact⟨ho _ d,z,ne,k _ _ (.inl rfl) e,mA,⟨od,es,ep,k _ _ (.inr d) e2,c⟩,r⟩
 | own y=>obtain⟨ob,e⟩:=x;exact⟨ob,k _ _ (.inl rfl) e⟩
 | xd fs=>obtain⟨mA,⟨od,es,ep,e,c⟩,r⟩:=x;exact⟨mA,⟨od,es,ep,k _ _ (.inl rfl) e,c⟩,r⟩
 | rng lo hi=>obtain⟨t,u,v,e⟩:=x;exact⟨t,u,v,k _ _ (.inl rfl) e⟩
 | frz ob u ih=>obtain⟨e,q⟩:=x;exact⟨k _ _ (.inl rfl) e,ih q⟩
 | tbl ps=>
  have e:h.get? a=some { cls:=.none,data:=.fields ps }:=x
  show h'.get? a=some { cls:=.none,data:=.fields ps }
  exact k a _ (.inl rfl) e
 | met f y=>
  have e:h.get? a=some (PySem.W.methodObj (.ref f) (.ref y)):=x
  show h'.get? a=some (PySem.W.methodObj (.ref f) (.ref y))
  exact k a _ (.inl rfl) e
 | ext φ=>obtain⟨p,⟨o,e⟩,st⟩:=x;exact⟨st _ _ p λo q=>k _ _ (.inl rfl) q,⟨o,k _ _ (.inl rfl) e⟩,st⟩
theorem HOk.lt (x:HOk P w H h) (e:H a=some o):a < h.objs.size:=(x a o e).lt
theorem HOk.fresh (x:HOk P w H h) (e:h.objs.size<=a):H a=none:=by
 cases q:H a with
 | none=>rfl
 | some u=>exact absurd (Nat.lt_of_lt_of_le (x.lt q) e) (Nat.lt_irrefl _)
theorem HOk.kept (x:HOk P w H h) (k:∀ b u,h.get? b=some u->h'.get? b=some u):HOk P w H h':=λa o e=>
 (x a o e).stay (λb u _ q=>k b u q) (λ_ q=>q) λ_ _ q=>q
theorem HOk.laid (x:HOk P w H h) (k:∀ b u,h.get? b=some u->h'.get? b=some u) (hp:h.objs.size<=a) (new:dB P w (upd H a o) h' a o):HOk P w (upd H a o) h':=λb u e=>by
 have hn:=x.fresh hp
 by_cases hb:b=a
 ·subst hb;rw [upd_same] at e;cases e;exact new
 ·rw [upd_ne hb] at e
  exact (x b u e).stay (λc v _ q=>k c v q) (λc q=>by rw [upd_ne (aS q hn)];exact q) λc xs q=>by rw [upd_ne (aS q hn)];exact q
end
noncomputable def Rd (H:Hp) (a:Addr) (u:HO):Prop:=H a=some u\/∃ o,H a=some (.frz o u)
theorem Rd.of {H:Hp}{a:Addr}{u:HO} (h:H a=some u):Rd H a u:=.inl h
theorem Rd.ok {P:Program}{w:World}{H:Hp}{h:Heap}{a:Addr}{u:HO} (r:Rd H a u) (x:HOk P w H h):dB P w H h a u:=by
 rcases r with r | ⟨o,r⟩
 ·exact x a u r
 ·obtain⟨_,q⟩:=x a _ r
  exact q
noncomputable def Mut:Option HO->Prop
 | some (.lst _)=>True
 | some (.dK _)=>True
 | some (.dT _)=>True
 | some (.set _ _)=>True
 | some (.ins _ _ _)=>True
 | some (.ext _)=>True
 | _=>False
section
variable {P:Program}{w:World}{H:Hp}{h h':Heap}{x e:Addr}{o':HO}
theorem HOk.write (ok:HOk P w H h) (mu:Mut (H x)) (he:e=x\/H e=some (.own x)) (k:∀ b u,b≠e->h.get? b=some u->h'.get? b=some u) (heo:∃ u,h'.get? e=some u)
  (new:dB P w (upd H x o') h' x o'):HOk P w (upd H x o') h':=λb u q=>by
 have nown:∀ c y,H c=some (.own y)->c≠x:=λc y r z=>by subst z;rw [r] at mu;exact mu
 have ntup:∀ c xs,H c=some (.tup xs)->c≠x:=λc xs r z=>by subst z;rw [r] at mu;exact mu
 by_cases hb:b=x
 ·subst hb;rw [upd_same] at q;cases q;exact new
 ·rw [upd_ne hb] at q
  by_cases hbe:b=e
  ·have q':H b=some (.own x):=by
    rcases he with z | z
    ·exact absurd (hbe.trans z) hb
    ·rw [hbe];exact z
   rw [q] at q';cases q'
   obtain⟨v,hv⟩:=heo
   exact⟨v,by rw [hbe];exact hv⟩
  ·refine (ok b u q).stay (λc v hc r=>k c v ?_ r) (λc r=>by rw [upd_ne (nown c b r)];exact r) λc xs r=>by rw [upd_ne (ntup c xs r)];exact r
   rcases hc with rfl | hc
   ·exact hbe
   ·rintro rfl
    rcases he with z | z
    ·exact nown c b hc z
    ·rw [hc] at z;cases z;exact hb rfl
end
structure Un (fs ex:List Addr) (H H':Hp) (h h':Heap):Prop where
 keep:∀ b o,h.get? b=some o->H b=none->b ∉ fs->b ∉ ex->h'.get? b=some o
 slot:∀ b o,h.get? b=some o->H b=none->b ∈ fs->b ∉ ex->∃ sl,h'.get? b=some { o with slots:=sl }
 free:∀ b o,h.get? b=some o->H b=none->b ∉ ex->H' b=none
 there:∀ b o,h.get? b=some o->b ∉ ex->∃ o',h'.get? b=some o'
 tups:∀ b xs,H b=some (.tup xs)->H' b=some (.tup xs)
 frzs:∀ b o u,H b=some (.frz o u)->H' b=some (.frz o u)
 tbls:∀ b ps,H b=some (.tbl ps)->∃ more,H' b=some (.tbl (ps++more))
section
variable {fs fs' ex ex':List Addr}{H H1 H2:Hp}{h h1 h2 h':Heap}{a x e:Addr}{o:HO}
theorem Un.any (u:Un fs ex H H1 h h1) {b:Addr}{ob:Obj} (q:h.get? b=some ob) (n:H b=none) (hx:b ∉ ex):∃ sl,h1.get? b=some { ob with slots:=sl }:=by
 by_cases hb:b ∈ fs
 ·exact u.slot b ob q n hb hx
 ·exact⟨ob.slots,u.keep b ob q n hb hx⟩
theorem Un.kept (k:∀ b u,h.get? b=some u->h'.get? b=some u):Un fs ex H H h h':=
 ⟨λb ob q _ _ _=>k b ob q,λb ob q _ _ _=>⟨ob.slots,k b ob q⟩,λ_ _ _ n _=>n,λb ob q _=>⟨ob,k b ob q⟩,λ_ _ q=>q,λ_ _ _ q=>q,λ_ ps q=>⟨#[],by rw [q];simp⟩⟩
theorem Un.refl:Un fs ex H H h h:=Un.kept λ_ _ q=>q
theorem Un.laid (k:∀ b u,h.get? b=some u->h'.get? b=some u) (hp:h.objs.size<=a) (hn:H a=none):Un fs ex H (upd H a o) h h' where
 keep:=λb u q _ _ _=>k b u q
 slot:=λb u q _ _ _=>⟨u.slots,k b u q⟩
 free:=λb u q n _=>by rw [upd_ne (Nat.ne_of_lt (Nat.lt_of_lt_of_le (Heap.lt_size q) hp))];exact n
 there:=λb u q _=>⟨u,k b u q⟩
 tups:=λb xs q=>by rw [upd_ne (aS q hn)];exact q
 frzs:=λb u xs q=>by rw [upd_ne (aS q hn)];exact q
 tbls:=λb ps q=>⟨#[],by rw [upd_ne (aS q hn),q];simp⟩
theorem Un.write (mu:Mut (H x)) (he:e=x\/H e=some (.own x)) (k:∀ b u,b≠e->h.get? b=some u->h'.get? b=some u) (heo:∃ u,h'.get? e=some u):Un fs ex H (upd H x o) h h':=by
 have hx:∀ b,H b=none->b≠x:=λb n z=>by subst z;rw [n] at mu;exact mu
 have hb:∀ b,H b=none->b≠e:=λb n z=>by
  subst z
  rcases he with r | r
  ·exact hx b n r
  ·rw [n] at r;cases r
 have hm:∀ b u,H b=some u->¬ Mut (some u)->b≠x:=λb u q nm z=>by subst z;rw [q] at mu;exact nm mu
 refine⟨λb u q n _ _=>k b u (hb b n) q,λb u q n _ _=>⟨u.slots,k b u (hb b n) q⟩,λb u q n _=>by rw [upd_ne (hx b n)];exact n,λb u q _=>?_,
  λb xs q=>by rw [upd_ne (hm b _ q λz=>z)];exact q,λb u xs q=>by rw [upd_ne (hm b _ q λz=>z)];exact q,λb ps q=>⟨#[],by rw [upd_ne (hm b _ q λz=>z),q];simp⟩⟩
 by_cases hbe:b=e
 ·subst hbe;exact heo
 ·exact⟨u,k b u hbe q⟩
end
noncomputable def trk (h:Heap) (H:Hp):List Addr:=(List.range h.objs.size).filter λa=>(H a).isSome
noncomputable def pU (h:Heap) (H:Hp):Heap:=PySem.W.hideAll h (trk h H)
theorem vk (h:Heap) (H:Hp):(pU h H).objs.size=h.objs.size:=PySem.W.hideAll_size _ _
theorem wk {h:Heap}{H:Hp}{b:Addr}{o:Obj} (e:h.get? b=some o) (n:H b=none):(pU h H).get? b=some o:=
 PySem.W.hideAll_get _ e λhm=>by
  have q:(H b).isSome=true:=(List.mem_filter.mp hm).2
  rw [n] at q;simp at q
theorem yB {h:Heap}{H:Hp}{b:Addr}{o:Obj} (e:(pU h H).get? b=some o):h.get? b=some o/\H b=none:=by
 have e':h.get? b=some o:=PySem.W.of_hideAll (trk h H) e
 refine⟨e',?_⟩
 cases q:H b with
 | none=>rfl
 | some x=>
  have hm:b ∈ trk h H:=List.mem_filter.mpr ⟨List.mem_range.mpr (Heap.lt_size e'),by simp [q]⟩
  have z:(pU h H).get? b=none:=PySem.W.hideAll_none (trk h H) hm
  rw [z] at e;cases e
end L2
namespace L2
open PySem PySem.Spec PyProof.Rows
structure Mod (K:PySem.W.Frag) (mg:Str->Option Value) (base:Heap):Prop where
 kin:K.In base
 glob:base.Ns mainGlobals mg
 blt:∃ mb,base.Ns builtinsNs mb/\∀ x:Str,x≠"__name__"->mb x=bootBuiltins x
 nolimit:base.NoLimit
structure Cx where
 prog:Program
 w:World
 K:PySem.W.Frag
 mg:Str->Option Value
 base:Heap
 A:Around
 N:List Str
 s₀:Shared
 H₀:Hp
 env:Env
 outer:List Env
 stack:List Env
 ex:List Addr
 fn:Str->Bool
 calm:Bool
 pn:List (Addr×Obj)
 xe:Value->Shared->Prop
noncomputable def frs (l:List Env):List Addr:=l.filterMap (·.frame)
abbrev Cx.fs (X:Cx):List Addr:=frs X.outer
noncomputable def Vis (sc:Scope) (x:Str):Prop:=sc.names.lookup x=some .local\/sc.names.lookup x=some .cell\/sc.names.lookup x=some .free
noncomputable def Loc (sc:Scope) (x:Str):Prop:=sc.names.lookup x=some .local\/sc.names.lookup x=some .cell
noncomputable def Co (env:Env) (h:Heap) (m:Str->Option Value) (x:Str) (u:Value):Prop:=
 (env.kindOf x=some .local/\m x=some u)\/((env.kindOf x=some .cell\/env.kindOf x=some .free)/\∃ c,env.cells.lookup x=some c/\h.IsCell c (some u))
structure Cx.Ok (X:Cx):Prop where
 mod:Mod X.K X.mg X.base
 kind:X.env.scope.kind=.function
 glob:X.env.globals=mainGlobals
 blt:X.env.builtins=builtinsNs
 above:X.s₀.heap.objs.size<=X.env.locals
 inj:∀ x y c,X.env.cells.lookup x=some c->X.env.cells.lookup y=some c->x=y
 has:∀ x,(X.env.kindOf x=some .cell\/X.env.kindOf x=some .free)->∃ c,X.env.cells.lookup x=some c
 cab:∀ x c,X.fn x=true->X.env.cells.lookup x=some c->X.s₀.heap.objs.size<=c
 hd:X.calm=true->X.A.handled=none
 frames:X.A.frames=some X.stack
 stk:X.stack=X.outer\/(X.stack=X.env::X.outer/\X.env.frame=some X.env.locals)
 exf:∀ b ∈ X.ex,b≠X.env.locals/\∀ x c,X.env.cells.lookup x=some c->c≠b
 bs:∀ b o,X.base.get? b=some o->X.s₀.heap.get? b=some o/\X.H₀ b=none
 bsz:X.base.objs.size<=X.s₀.heap.objs.size
 noex:∀ b o,X.base.get? b=some o->b ∉ X.ex
 exfs:∀ b ∈ X.ex,b ∉ X.fs
 funs:X.s₀.heap.FunFrames X.base X.outer
 frf:∀ b ∈ X.fs,X.H₀ b=none
structure Inv (X:Cx) (pins:List (Addr×Obj)) (σ:List (Option V)) (H:Hp) (s:Shared):Prop where
 ok:X.Ok
 os:s.os=X.s₀.os
 bare:AllBare s.gens
 base:Un X.fs X.ex X.H₀ H X.s₀.heap s.heap
 loc:∃ m,s.heap.Ns X.env.locals m/\∀ (i:Nat) (x:Str) (v:V),X.N[i]?=some x->σ[i]?=some (some v)->Vis X.env.scope x->∃ u,bJ v u/\Co X.env s.heap m x u
 cell:∀ x c,X.env.cells.lookup x=some c->∃ v,s.heap.IsCell c v
 free:H X.env.locals=none
 freeC:∀ x c,X.env.cells.lookup x=some c->H c=none
 pin:∀ p ∈ X.pn++pins,s.heap.get? p.1=some p.2/\H p.1=none/\p.1≠X.env.locals/\p.1 ∉ X.fs/\∀ v,p.2.data≠.cell v
 hok:HOk X.prog X.w H s.heap
 len:σ.length=X.N.length
section
variable {X:Cx}{pins:List (Addr×Obj)}{σ:List (Option V)}{H H':Hp}{s:Shared}{h':Heap}
theorem Cx.Ok.nofr (ok:X.Ok) {b:Addr}{o:Obj} (e:X.base.get? b=some o):b ∉ X.fs:=λhb=>by
 have:=(ok.funs.mem hb).1
 rw [e] at this;cases this
theorem Inv.bs (I:Inv X pins σ H s):∀ b o,X.base.get? b=some o->s.heap.get? b=some o/\H b=none:=λb o e=>
 ⟨I.base.keep b o (I.ok.bs b o e).1 (I.ok.bs b o e).2 (I.ok.nofr e) (I.ok.noex b o e),I.base.free b o (I.ok.bs b o e).1 (I.ok.bs b o e).2 (I.ok.noex b o e)⟩
theorem Inv.bk (I:Inv X pins σ H s):∀ b o,X.base.get? b=some o->s.heap.get? b=some o:=λb o e=>(I.bs b o e).1
theorem Inv.mod (I:Inv X pins σ H s):Mod X.K X.mg X.base:=I.ok.mod
theorem Inv.kIn (I:Inv X pins σ H s):X.K.In s.heap:=I.ok.mod.kin.keeps I.bk
theorem Inv.fr (I:Inv X pins σ H s):∃ m,Fr X.base X.env.locals s.heap m:=
 let ⟨m,hn,_⟩:=I.loc
 ⟨m,hn,I.bk,Nat.le_trans I.ok.bsz I.ok.above⟩
theorem Inv.lt (I:Inv X pins σ H s):X.env.locals < s.heap.objs.size:=let ⟨_,hn,_⟩:=I.loc;hn.lt
theorem Inv.sz (I:Inv X pins σ H s):X.s₀.heap.objs.size<=s.heap.objs.size:=Nat.le_trans I.ok.above (Nat.le_of_lt I.lt)
theorem Inv.nofs (I:Inv X pins σ H s) {a:Addr} (h:s.heap.objs.size<=a):a ∉ X.fs:=λhb=>by
 obtain⟨_,o,ho,_⟩:=I.ok.funs.mem hb
 exact absurd (Nat.lt_of_lt_of_le (Heap.lt_size ho) (Nat.le_trans I.sz h)) (Nat.lt_irrefl _)
theorem Inv.cne (I:Inv X pins σ H s):∀ x c,X.env.cells.lookup x=some c->c≠X.env.locals:=λx c e z=>by
 obtain⟨v,o,ho,hd⟩:=I.cell x c e
 obtain⟨m,⟨o',es,ep,ho',hd',_⟩,_⟩:=I.loc
 rw [z,ho'] at ho;cases ho;rw [hd'] at hd;cases hd
theorem Inv.funs (I:Inv X pins σ H s):s.heap.FunFrames X.base X.outer:=by
 have all:∀ (l:List Env),(∀ b ∈ frs l,b ∈ X.fs)->X.s₀.heap.FunFrames X.base l->s.heap.FunFrames X.base l:=by
  intro l
  induction l with
  | nil=>intro _ _;trivial
  | cons env r ih=>
   intro hs hl
   obtain⟨hk,⟨L,o,hf,hn,ho,hd⟩,hr⟩:=hl
   have hL:L ∈ X.fs:=hs L (by unfold frs;rw [List.filterMap_cons,hf];exact List.mem_cons_self)
   obtain⟨sl,e⟩:=I.base.slot L o ho (I.ok.frf L hL) hL λz=>I.ok.exfs L z hL
   exact⟨hk,⟨L,_,hf,hn,e,hd⟩,ih (λb hb=>hs b (by unfold frs;rw [List.filterMap_cons,hf];exact List.mem_cons_of_mem _ hb)) hr⟩
 exact all X.outer (λ_ hb=>hb) I.ok.funs
theorem Inv.stack (I:Inv X pins σ H s):s.heap.FunFrames X.base X.stack:=by
 rcases I.ok.stk with e | ⟨e,hf⟩
 ·rw [e];exact I.funs
 ·rw [e]
  obtain⟨m,hn,_⟩:=I.loc
  refine .cons (by rw [I.ok.kind];decide) hf hn ?_ I.funs
  exact Heap.get?_none_of_le (Nat.le_trans I.ok.bsz I.ok.above)
theorem Inv.stkSub (I:Inv X pins σ H s):∀ b ∈ frs X.stack,b ∈ X.env.locals::X.fs:=λb hb=>by
 rcases I.ok.stk with e | ⟨e,hf⟩
 ·rw [e] at hb;exact List.mem_cons_of_mem _ hb
 ·rw [e] at hb
  unfold frs at hb
  rw [List.filterMap_cons,hf] at hb
  exact hb
theorem Inv.stkFree (I:Inv X pins σ H s):∀ b ∈ frs X.stack,H b=none:=λb hb=>by
 rcases List.mem_cons.mp (I.stkSub b hb) with e | hb
 ·rw [e];exact I.free
 ·obtain⟨_,o,ho,_⟩:=I.ok.funs.mem hb
  exact I.base.free b o ho (I.ok.frf b hb) λz=>I.ok.exfs b z hb
theorem Inv.step {g':Array GenState}{t':Nat}{d':Drawn}{ch:List Addr} (I:Inv X pins σ H s)
  (hch:∀ b ∈ ch,(b ∈ X.ex\/X.s₀.heap.objs.size<=b)/\b≠X.env.locals/\(∀ x c,X.env.cells.lookup x=some c->c≠b)/\∀ p ∈ X.pn++pins,p.1≠b)
  (keep:∀ b o,b≠X.env.locals->b ∉ X.fs->b ∉ ch->s.heap.get? b=some o->H b=none->h'.get? b=some o)
  (slot:∀ b o,b≠X.env.locals->b ∈ X.fs->b ∉ ch->s.heap.get? b=some o->H b=none->∃ sl,h'.get? b=some { o with slots:=sl }) (free:∀ b o,b ∉ ch->s.heap.get? b=some o->H b=none->H' b=none)
  (there:∀ b o,b ∉ ch->s.heap.get? b=some o->∃ o',h'.get? b=some o')
  (tups:∀ b xs,H b=some (.tup xs)->H' b=some (.tup xs)) (frzs:∀ b o u,H b=some (.frz o u)->H' b=some (.frz o u)) (tbls:∀ b ps,H b=some (.tbl ps)->∃ more,H' b=some (.tbl (ps++more)))
  (ns:∀ m,s.heap.Ns X.env.locals m->h'.Ns X.env.locals m) (hok:HOk X.prog X.w H' h') (hg:AllBare g') :
  Inv X pins σ H' { s with heap:=h',gens:=g',drawn:=d',toks:=t' }:=by
 have neL:∀ b o,X.s₀.heap.get? b=some o->b≠X.env.locals:=λb o e=>Nat.ne_of_lt (Nat.lt_of_lt_of_le (Heap.lt_size e) I.ok.above)
 have neC:∀ b o,X.s₀.heap.get? b=some o->b ∉ X.ex->b ∉ ch:=λb o e hx hb=>by
  rcases (hch b hb).1 with z | z
  ·exact hx z
  ·exact absurd (Nat.lt_of_lt_of_le (Heap.lt_size e) z) (Nat.lt_irrefl _)
 have cellK:∀ x c,X.env.cells.lookup x=some c->∀ v,s.heap.IsCell c v->h'.IsCell c v:=λx c e v ⟨o,ho,hd⟩=>by
  have nch:c ∉ ch:=λz=>(hch c z).2.2.1 x c e rfl
  by_cases hc:c ∈ X.fs
  ·obtain⟨sl,q⟩:=slot c o (I.cne x c e) hc nch ho (I.freeC x c e)
   exact⟨_,q,hd⟩
  ·exact⟨o,keep c o (I.cne x c e) hc nch ho (I.freeC x c e),hd⟩
 refine⟨I.ok,I.os,hg,⟨λb o e n hb hx=>?_,λb o e n hb hx=>?_,λb o e n hx=>?_,λb o e hx=>?_,λb xs e=>tups b xs (I.base.tups b xs e),λb o xs e=>frzs b o xs (I.base.frzs b o xs e),λb ps e=>?_⟩,?_,λx c e=>?_,?_,λx c e=>?_,λp hp=>?_,hok,I.len⟩
 ·exact keep b o (neL b o e) hb (neC b o e hx) (I.base.keep b o e n hb hx) (I.base.free b o e n hx)
 ·obtain⟨sl,e1⟩:=I.base.slot b o e n hb hx
  obtain⟨sl',e2⟩:=slot b _ (neL b o e) hb (neC b o e hx) e1 (I.base.free b o e n hx)
  exact⟨sl',e2⟩
 ·obtain⟨o',e1⟩:=I.base.there b o e hx
  exact free b o' (neC b o e hx) e1 (I.base.free b o e n hx)
 ·obtain⟨o',e1⟩:=I.base.there b o e hx
  exact there b o' (neC b o e hx) e1
 ·obtain⟨m1,e1⟩:=I.base.tbls b ps e
  obtain⟨m2,e2⟩:=tbls b _ e1
  exact⟨m1++m2,by rw [e2,Array.append_assoc]⟩
 ·obtain⟨m,hn,hl⟩:=I.loc
  refine⟨m,ns m hn,λi x v e1 e2 e3=>?_⟩
  obtain⟨u,r,l⟩:=hl i x v e1 e2 e3
  refine⟨u,r,?_⟩
  rcases l with l | ⟨k,c,e,z⟩
  ·exact .inl l
  ·exact .inr ⟨k,c,e,cellK x c e _ z⟩
 ·obtain⟨v,z⟩:=I.cell x c e
  exact⟨v,cellK x c e v z⟩
 ·obtain⟨m,⟨o,_,_,ho,_⟩,_⟩:=I.loc
  exact free _ o (λz=>(hch _ z).2.1 rfl) ho I.free
 ·obtain⟨v,o,ho,hd⟩:=I.cell x c e
  exact free c o (λz=>(hch c z).2.2.1 x c e rfl) ho (I.freeC x c e)
 ·obtain⟨e,n,ne,nf,d⟩:=I.pin p hp
  have nch:p.1 ∉ ch:=λz=>(hch p.1 z).2.2.2 p hp rfl
  exact⟨keep p.1 p.2 ne nf nch e n,free p.1 p.2 nch e n,ne,nf,d⟩
theorem Inv.un {t':Nat} (I:Inv X pins σ H s) (u:Un X.fs [] H H' s.heap h') (hok:HOk X.prog X.w H' h'):Inv X pins σ H' { s with heap:=h',toks:=t' }:=by
 obtain⟨m,⟨o,es,ep,ho,r⟩,_⟩:=id I.loc
 obtain⟨sl,hL⟩:=u.any ho I.free (by simp)
 exact I.step (g':=s.gens) (d':=s.drawn) (ch:=[]) (λ_ z=>nomatch z) (λb o _ hb _ e n=>u.keep b o e n hb (by simp)) (λb o _ hb _ e n=>u.slot b o e n hb (by simp)) (λb o _ e n=>u.free b o e n (by simp)) (λb o _ e=>u.there b o e (by simp)) u.tups u.frzs u.tbls (λm' hm=>by
  obtain⟨o',es',ep',ho',r'⟩:=hm
  rw [ho] at ho';cases ho'
  exact⟨_,es',ep',hL,r'⟩) hok I.bare
theorem Inv.call {g':Array GenState}{t':Nat}{d':Drawn}{ch:List Addr} (I:Inv X pins σ H s) (u:Un (frs X.stack) ch H H' s.heap h') (hok:HOk X.prog X.w H' h') (hg:AllBare g')
  (hch:∀ b ∈ ch,(b ∈ X.ex\/X.s₀.heap.objs.size<=b)/\b≠X.env.locals/\(∀ x c,X.env.cells.lookup x=some c->c≠b)/\∀ p ∈ X.pn++pins,p.1≠b) :
  Inv X pins σ H' { s with heap:=h',gens:=g',drawn:=d',toks:=t' }:=by
 obtain⟨m,⟨o,es,ep,ho,r⟩,_⟩:=id I.loc
 obtain⟨sl,hL⟩:=u.any ho I.free λz=>(hch _ z).2.1 rfl
 exact I.step (ch:=ch) hch (λb o hL hb hc e n=>u.keep b o e n (λz=>(List.mem_cons.mp (I.stkSub b z)).elim hL hb) hc) (λb o _ _ hc e n=>u.any e n hc) (λb o hc e n=>u.free b o e n hc) (λb o hc e=>u.there b o e hc) u.tups u.frzs u.tbls (λm' hm=>by
  obtain⟨o',es',ep',ho',r'⟩:=hm
  rw [ho] at ho';cases ho'
  exact⟨_,es',ep',hL,r'⟩) hok hg
theorem Inv.turned {t':Nat}{it:Addr} (I:Inv X pins σ H s) (k:∀ b o,b≠it->s.heap.get? b=some o->h'.get? b=some o) (hn:H it=none) (hL:it≠X.env.locals)
  (h1:it ∈ X.ex\/X.s₀.heap.objs.size<=it) (h2:∀ x c,X.env.cells.lookup x=some c->c≠it) (h3:∀ p ∈ X.pn++pins,p.1≠it):Inv X pins σ H { s with heap:=h',toks:=t' }:=by
 have nit:∀ b u,H b=some u->b≠it:=λb u e z=>by rw [z,hn] at e;cases e
 refine I.step (g':=s.gens) (d':=s.drawn) (ch:=[it]) (λb hb=>?_) (λb o _ _ hc e _=>k b o (λz=>hc (by simp [z])) e) (λb o _ _ hc e _=>⟨o.slots,k b o (λz=>hc (by simp [z])) e⟩) (λ_ _ _ _ n=>n)
  (λb o hc e=>⟨o,k b o (λz=>hc (by simp [z])) e⟩) (λ_ _ e=>e) (λ_ _ _ e=>e) (λb ps e=>⟨#[],by rw [e];simp⟩) (λm hm=>?_) (λb u e=>?_) I.bare
 ·have e:b=it:=by simpa using hb
  subst e
  exact⟨h1,hL,h2,h3⟩
 ·obtain⟨o,es,ep,ho,r⟩:=hm
  exact⟨o,es,ep,k _ o (Ne.symm hL) ho,r⟩
 ·refine (I.hok b u e).stay (λc v hc q=>k c v ?_ q) (λ_ q=>q) λ_ _ q=>q
  rcases hc with z | z
  ·rw [z];exact nit b u e
  ·exact nit c _ z
theorem Inv.tok (I:Inv X pins σ H s) (t:Nat):Inv X pins σ H { s with toks:=t }:=I.un (h':=s.heap) (t':=t) Un.refl I.hok
theorem Inv.kept {t':Nat} (I:Inv X pins σ H s) (k:∀ b u,s.heap.get? b=some u->h'.get? b=some u):Inv X pins σ H { s with heap:=h',toks:=t' }:=I.un (Un.kept k) (I.hok.kept k)
theorem Inv.laid {a:Addr}{o:HO}{t':Nat} (I:Inv X pins σ H s) (k:∀ b u,s.heap.get? b=some u->h'.get? b=some u) (hp:s.heap.objs.size<=a) (new:dB X.prog X.w (upd H a o) h' a o) :
  Inv X pins σ (upd H a o) { s with heap:=h',toks:=t' }:=I.un (Un.laid k hp (I.hok.fresh hp)) (I.hok.laid k hp new)
theorem Inv.write {x e:Addr}{o:HO}{t':Nat} (I:Inv X pins σ H s) (mu:Mut (H x)) (he:e=x\/H e=some (.own x)) (k:∀ b u,b≠e->s.heap.get? b=some u->h'.get? b=some u) (heo:∃ u,h'.get? e=some u)
  (new:dB X.prog X.w (upd H x o) h' x o):Inv X pins σ (upd H x o) { s with heap:=h',toks:=t' }:=I.un (Un.write mu he k heo) (I.hok.write mu he k heo new)
theorem Inv.weak {σ':List (Option V)} (I:Inv X pins σ H s) (hl:σ'.length=σ.length) (w:∀ (i:Nat) v,σ'[i]?=some (some v)->σ[i]?=some (some v)):Inv X pins σ' H s:=
 ⟨I.ok,I.os,I.bare,I.base,let ⟨m,hn,hl'⟩:=I.loc;⟨m,hn,λi x v e1 e2 e3=>hl' i x v e1 (w i v e2) e3⟩,I.cell,I.free,I.freeC,I.pin,I.hok,hl.trans I.len⟩
theorem Inv.pins_of {pins':List (Addr×Obj)} (I:Inv X pins σ H s) (h:∀ p ∈ pins',s.heap.get? p.1=some p.2/\H p.1=none/\p.1≠X.env.locals/\p.1 ∉ X.fs/\∀ v,p.2.data≠.cell v):Inv X pins' σ H s:=
 ⟨I.ok,I.os,I.bare,I.base,I.loc,I.cell,I.free,I.freeC,λp hp=>(List.mem_append.mp hp).elim (λz=>I.pin p (List.mem_append_left _ z)) (h p),I.hok,I.len⟩
theorem qY {N:List Str} (hN:N.Nodup) {i j:Nat}{x:Str} (a:N[i]?=some x) (b:N[j]?=some x):i=j:=by
 obtain⟨h1,e1⟩:=List.getElem?_eq_some_iff.mp a
 obtain⟨h2,e2⟩:=List.getElem?_eq_some_iff.mp b
 exact (List.getElem_inj hN).mp (e1.trans e2.symm)
theorem uV {M:Model}{A:Around}{E:Value->Shared->Prop}{i:Nat}{x:Str}{v:V}{u:Value}{Q:Unit->Shared->Prop} (I:Inv X pins σ H s) (hN:X.N.Nodup) (hi:X.N[i]?=some x) (hx:Loc X.env.scope x) (r:bJ v u)
  (h:∀ s',Inv X pins (σ.set i (some v)) H s'->(∃ a,Heap.SameBut a s.heap s'.heap/\(a=X.env.locals\/X.env.cells.lookup x=some a))->Q () s') (hf:X.fn x=true\/X.env.scope.names.lookup x=some .local:=by first | exact .inl rfl | exact .inr rfl | assumption):wpAny M A (storeName X.env x u) Q E s:=by
 obtain⟨m,hn,hl⟩:=id I.loc
 have hcls:(X.env.scope.kind==.class || (X.env.scope.kind==.module && X.env.locals != X.env.globals))=false:=by rw [I.ok.kind];rfl
 have hiσ:i < σ.length:=by rw [I.len];exact (List.getElem?_eq_some_iff.mp hi).1
 have cne:=I.cne
 have tracked:∀ {a:Addr}{h':Heap},(∃ o,s.heap.get? a=some o/\H a=none)->Heap.SameBut a s.heap h'->HOk X.prog X.w H h':=λ{a h'} ha hs b ob e=>by
  obtain⟨_,_,hfree⟩:=ha
  refine (I.hok b ob e).stay (λc w' hc q=>(hs.2 c ?_).trans q) (λ_ q=>q) λ_ _ q=>q
  rintro rfl
  rcases hc with rfl | hc
  ·rw [hfree] at e;cases e
  ·rw [hfree] at hc;cases hc
 rcases hx with hk | hk
 ·refine wpAny_storeName_local hk hn (λh' hn' hs=>?_) hcls
  obtain⟨oL,_,_,hoL,_⟩:=id hn
  refine h _ ⟨I.ok,I.os,I.bare,⟨λb o e n hb hx=>?_,λb o e n hb hx=>?_,I.base.free,λb o e hx=>?_,I.base.tups,I.base.frzs,I.base.tbls⟩,⟨_,hn',λj y v' e1 e2 e3=>?_⟩,λy c e=>?_,I.free,I.freeC,λp hp=>?_,tracked ⟨oL,hoL,I.free⟩ hs,by simpa using I.len⟩ ⟨_,hs,.inl rfl⟩
  ·exact (hs.2 b (Nat.ne_of_lt (Nat.lt_of_lt_of_le (Heap.lt_size e) I.ok.above))).trans (I.base.keep b o e n hb hx)
  ·obtain⟨sl,e1⟩:=I.base.slot b o e n hb hx
   exact⟨sl,(hs.2 b (Nat.ne_of_lt (Nat.lt_of_lt_of_le (Heap.lt_size e) I.ok.above))).trans e1⟩
  ·obtain⟨o',e1⟩:=I.base.there b o e hx
   exact⟨o',(hs.2 b (Nat.ne_of_lt (Nat.lt_of_lt_of_le (Heap.lt_size e) I.ok.above))).trans e1⟩
  ·by_cases hj:j=i
   ·subst hj
    rw [hi] at e1;cases e1
    rw [List.getElem?_set_self hiσ] at e2
    cases e2
    exact⟨u,r,.inl ⟨hk,by simp⟩⟩
   ·rw [List.getElem?_set_ne (Ne.symm hj)] at e2
    obtain⟨u',r',q⟩:=hl j y v' e1 e2 e3
    refine⟨u',r',?_⟩
    rcases q with⟨k,e⟩ | ⟨k,c,e,z⟩
    ·refine .inl ⟨k,?_⟩
     have:y≠x:=λe=>hj (qY hN e1 (e ▸ hi))
     simp [this,e]
    ·exact .inr ⟨k,c,e,z.sameBut hs (cne y c e)⟩
  ·obtain⟨w',z⟩:=I.cell y c e
   exact⟨w',z.sameBut hs (cne y c e)⟩
  ·obtain⟨e,n,ne,nf,d⟩:=I.pin p hp
   exact⟨(hs.2 p.1 ne).trans e,n,ne,nf,d⟩
 ·have hfn:X.fn x=true:=by
   rcases hf with z | z
   ·exact z
   ·rw [z] at hk;cases hk
  obtain⟨c,hc⟩:=I.ok.has x (.inl hk)
  obtain⟨w',z⟩:=I.cell x c hc
  refine wpAny_storeName_cell I.ok.kind hk hc z (λh' hc' hs=>?_)
  obtain⟨oc,hoc,hocd⟩:=id z
  refine h { s with heap:=h' } ⟨I.ok,I.os,I.bare,⟨λb o e n hb hx=>?_,λb o e n hb hx=>?_,I.base.free,λb o e hx=>?_,I.base.tups,I.base.frzs,I.base.tbls⟩,⟨m,hn.sameBut hs (Ne.symm (cne x c hc)),λj y v' e1 e2 e3=>?_⟩,λy c' e=>?_,I.free,I.freeC,λp hp=>?_,tracked ⟨oc,hoc,I.freeC x c hc⟩ hs,by simpa using I.len⟩ ⟨c,hs,.inr hc⟩
  ·exact (hs.2 b (Nat.ne_of_lt (Nat.lt_of_lt_of_le (Heap.lt_size e) (I.ok.cab x c hfn hc)))).trans (I.base.keep b o e n hb hx)
  ·obtain⟨sl,e1⟩:=I.base.slot b o e n hb hx
   exact⟨sl,(hs.2 b (Nat.ne_of_lt (Nat.lt_of_lt_of_le (Heap.lt_size e) (I.ok.cab x c hfn hc)))).trans e1⟩
  ·obtain⟨o',e1⟩:=I.base.there b o e hx
   exact⟨o',(hs.2 b (Nat.ne_of_lt (Nat.lt_of_lt_of_le (Heap.lt_size e) (I.ok.cab x c hfn hc)))).trans e1⟩
  ·by_cases hj:j=i
   ·subst hj
    rw [hi] at e1;cases e1
    rw [List.getElem?_set_self hiσ] at e2
    cases e2
    exact⟨u,r,.inr ⟨.inl hk,c,hc,hc'⟩⟩
   ·rw [List.getElem?_set_ne (Ne.symm hj)] at e2
    obtain⟨u',r',q⟩:=hl j y v' e1 e2 e3
    refine⟨u',r',?_⟩
    rcases q with q | ⟨k,c',e,z'⟩
    ·exact .inl q
    ·refine .inr ⟨k,c',e,z'.sameBut hs ?_⟩
     rintro rfl
     exact hj (qY hN e1 (I.ok.inj _ _ _ e hc ▸ hi))
  ·by_cases hcc:c'=c
   ·subst hcc;exact⟨_,hc'⟩
   ·obtain⟨w2,z2⟩:=I.cell y c' e
    exact⟨w2,z2.sameBut hs hcc⟩
  ·obtain⟨e,n,ne,nf,d⟩:=I.pin p hp
   refine⟨(hs.2 p.1 ?_).trans e,n,ne,nf,d⟩
   intro q
   rw [q,hoc] at e
   have q':oc=p.2:=Option.some.inj e
   exact d w' (by rw [<-q'];exact hocd)
theorem ng {M:Model}{A:Around}{E:Value->Shared->Prop}{i:Nat}{x:Str}{v:V}{u:Value}{Q:Unit->Shared->Prop} (I:Inv X pins σ H s) (hN:X.N.Nodup) (hi:X.N[i]?=some x) (hx:Loc X.env.scope x) (r:bJ v u)
  (h:∀ s',Inv X pins (σ.set i (some v)) H s'->Q () s') (hf:X.fn x=true\/X.env.scope.names.lookup x=some .local:=by first | exact .inl rfl | exact .inr rfl | assumption):wpAny M A (storeName X.env x u) Q E s:=
 uV I hN hi hx r (λs' I' _=>h s' I') hf
theorem Inv.call' {s':Shared}{ch:List Addr} (I:Inv X pins σ H s) (ho:s'.os=s.os) (u:Un (frs X.stack) ch H H' s.heap s'.heap) (hok:HOk X.prog X.w H' s'.heap) (hg:AllBare s'.gens)
  (hch:∀ b ∈ ch,(b ∈ X.ex\/X.s₀.heap.objs.size<=b)/\b≠X.env.locals/\(∀ x c,X.env.cells.lookup x=some c->c≠b)/\∀ p ∈ X.pn++pins,p.1≠b):Inv X pins σ H' s':=by
 obtain⟨h',g',d',t',o'⟩:=s'
 have e:o'=s.os:=ho
 subst e
 exact I.call (g':=g') (t':=t') (d':=d') u hok hg hch
end
abbrev XK:=Value->Option Addr->Hp->Prop
abbrev St:=List (Option V)
abbrev VK:=V->Hp->Prop
abbrev TE:=St->Hp->VK->Prop
abbrev TT:=St->Hp->(Bool->Hp->Prop)->Prop
abbrev TA:=St->Hp->(List V->Hp->Prop)->Prop
structure n6 where
 nx:St->Hp->Prop
 rt:VK
 bk:St->Hp->Prop:=λ_ _=>False
 ct:St->Hp->Prop:=λ_ _=>False
abbrev TS:=n6->St->Hp->Prop
noncomputable def EP (X:Cx) (pins:List (Addr×Obj)) (σ:St) (Q:VK) (u:Value) (s':Shared):Prop:=∃ v H',Inv X pins σ H' s'/\bJ v u/\Q v H'
noncomputable def TP (X:Cx) (pins:List (Addr×Obj)) (σ:St) (Q:Bool->Hp->Prop) (b:Bool) (s':Shared):Prop:=∃ H',Inv X pins σ H' s'/\Q b H'
noncomputable def AP (X:Cx) (pins:List (Addr×Obj)) (σ:St) (Q:List V->Hp->Prop) (us:List Value) (s':Shared):Prop:=∃ vs H',Inv X pins σ H' s'/\aV vs us/\Q vs H'
noncomputable def SP (X:Cx) (pins:List (Addr×Obj)) (D:n6) (f:Flow) (s':Shared):Prop:=
 match f with
 | .next=>∃ σ' H',Inv X pins σ' H' s'/\D.nx σ' H'
 | .brk=>∃ σ' H',Inv X pins σ' H' s'/\D.bk σ' H'
 | .cont=>∃ σ' H',Inv X pins σ' H' s'/\D.ct σ' H'
 | .ret u=>∃ v σ' H',Inv X pins σ' H' s'/\bJ v u/\D.rt v H'
noncomputable def PE (X:Cx) (e:Expr) (t:TE):Prop:=
 ∀ (pins:List (Addr×Obj)) (s:Shared) (σ:St) (H:Hp) (Q:VK),Inv X pins σ H s->t σ H Q->wpAny (model X.prog X.w) X.A (eval e X.env) (EP X pins σ Q) X.xe s
noncomputable def PT (X:Cx) (e:Expr) (t:TT):Prop:=
 ∀ (pins:List (Addr×Obj)) (s:Shared) (σ:St) (H:Hp) (Q:Bool->Hp->Prop),Inv X pins σ H s->t σ H Q->wpAny (model X.prog X.w) X.A (isTrue e X.env (eval e X.env)) (TP X pins σ Q) X.xe s
noncomputable def PW (X:Cx) (e:Expr) (t:TT):Prop:=
 ∀ (whole:Sem Value) (pins:List (Addr×Obj)) (s:Shared) (σ:St) (H:Hp) (Q:Bool->Hp->Prop),Inv X pins σ H s->t σ H Q->wpAny (model X.prog X.w) X.A (isTrue e X.env whole) (TP X pins σ Q) X.xe s
theorem PW.pt {X:Cx}{e:Expr}{t:TT} (h:PW X e t):PT X e t:=h _
noncomputable def PA (X:Cx) (es:List Expr) (t:TA):Prop:=
 ∀ (pos:Pos) (pins:List (Addr×Obj)) (s:Shared) (σ:St) (H:Hp) (Q:List V->Hp->Prop),Inv X pins σ H s->t σ H Q->wpAny (model X.prog X.w) X.A (spliced (backTo pos (starEach es X.env))) (AP X pins σ Q) X.xe s
noncomputable def PS (X:Cx) (st:Stmt) (t:TS):Prop:=
 ∀ (pins:List (Addr×Obj)) (s:Shared) (σ:St) (H:Hp) (D:n6),Inv X pins σ H s->t D σ H->wpAny (model X.prog X.w) X.A (exec st X.env) (SP X pins D) X.xe s
noncomputable def PSs (X:Cx) (st:List Stmt) (t:TS):Prop:=
 ∀ (pins:List (Addr×Obj)) (s:Shared) (σ:St) (H:Hp) (D:n6),Inv X pins σ H s->t D σ H->wpAny (model X.prog X.w) X.A (execs st X.env) (SP X pins D) X.xe s
theorem thn {α:Type}{t:Sem α}{Q Q':α->Shared->Prop}{M:Model}{A:Around}{E:Value->Shared->Prop}{s:Shared} (h:wpAny M A t Q E s) (hQ:∀ a s,Q a s->Q' a s):wpAny M A t Q' E s:=wpAny_mono h hQ λ_ _ x=>x
end L2
namespace L2
open PySem PySem.Spec PyProof.Rows
section
variable {X:Cx}
noncomputable def qH (i:Nat):TE:=λσ H Q=>∃ v,σ[i]?=some (some v)/\Q v H
noncomputable def tC (v:V):TE:=λ_ H Q=>Q v H
theorem kq {i:Nat}{x:Str}{pos:Pos} (hN:X.N[i]?=some x) (hv:Vis X.env.scope x) (hd:(x==("__debug__" : Str))=false:=by decide) (hcd:(x==("__classdict__" : Str))=false:=by decide):PE X (.Name x pos) (qH i):=by
 intro pins s σ H Q I h
 obtain⟨v,e,h⟩:=h
 obtain⟨m,hn,hl⟩:=I.loc
 obtain⟨u,r,l⟩:=hl i x v hN e hv
 have fin:EP X pins σ Q u s:=⟨v,H,I,r,h⟩
 rcases l with⟨hk,hm⟩ | ⟨hk,c,hc,hcell⟩
 ·exact wpAny_Name (wpAny_loadName_local I.ok.kind hk hn hm fin) hd
 ·rcases hk with hk | hk
  ·exact wpAny_Name (wpAny_loadName_cell I.ok.kind hk hc hcell fin) hd
  ·exact wpAny_Name (wpAny_loadName_free I.ok.kind hk hc hcell fin hcd) hd
theorem zm {i j pos}:PE X (.Constant (.int i) j pos) (tC (.int i)):=λ_ _ _ H _ I h=>wpAny_Constant_int ⟨.int i,H,I.tok _,⟨_,rfl⟩,h⟩
theorem BQ {b j pos}:PE X (.Constant (.bool b) j pos) (tC (.bl b)):=λ_ _ _ H _ I h=>Constant_bool ⟨.bl b,H,I,rfl,h⟩
theorem zX {j pos}:PE X (.Constant .none j pos) (tC .non):=λ_ _ _ H _ I h=>Constant_none ⟨.non,H,I,rfl,h⟩
theorem y4 {x j pos}:PE X (.Constant (.str x) j pos) (tC (.str x)):=λ_ _ _ H _ I h=>Calls.Constant_str ⟨.str x,H,I.tok _,⟨_,rfl⟩,h⟩
noncomputable def Gl (X:Cx) (x:Str):Prop:=X.env.kindOf x=some .globalImplicit
theorem uc {E:Value->Shared->Prop}{pins:List (Addr×Obj)}{s:Shared}{σ:St}{H:Hp}{x:Str}{u:Value}{pos:Pos}{Q:Value->Shared->Prop} (I:Inv X pins σ H s) (hg:Gl X x) (hm:X.mg x=some u) (h:Q u s)
  (hd:(x==("__debug__" : Str))=false:=by decide):wpAny (model X.prog X.w) X.A (eval (.Name x pos) X.env) Q E s:=
 Calls.Name_function_global I.ok.kind hg (Calls.loadGlobal_global (by rw [I.ok.glob];exact I.mod.glob.keeps I.bk) hm h) hd
theorem kC {E:Value->Shared->Prop}{pins:List (Addr×Obj)}{s:Shared}{σ:St}{H:Hp}{x:Str}{u:Value}{pos:Pos}{Q:Value->Shared->Prop} (I:Inv X pins σ H s) (hg:Gl X x) (hm:X.mg x=none) (hv:bootBuiltins x=some u) (h:Q u s)
  (hn:x≠"__name__":=by decide) (hd:(x==("__debug__" : Str))=false:=by decide):wpAny (model X.prog X.w) X.A (eval (.Name x pos) X.env) Q E s:=by
 obtain⟨mb,h1,h2⟩:=I.mod.blt
 exact Calls.Name_function_global I.ok.kind hg (Calls.loadGlobal_builtin (by rw [I.ok.glob];exact I.mod.glob.keeps I.bk) hm (by rw [I.ok.blt];exact h1.keeps I.bk) ((h2 x hn).trans hv) h) hd
theorem yt {x:Str}{v:V}{u:Value}{pos:Pos} (hg:Gl X x) (hm:X.mg x=none) (hv:bootBuiltins x=some u) (r:bJ v u) (hn:x≠"__name__":=by decide) (hd:(x==("__debug__" : Str))=false:=by decide):PE X (.Name x pos) (tC v):=
 λ_ _ _ H _ I h=>kC I hg hm hv ⟨v,H,I,r,h⟩ hn hd
variable {a b:Expr}{ta tb:TE}{pos:Pos}
variable {tA tB':TT}{rest:List Expr}
noncomputable def Cc (t u:TT):TT:=λσ H Q=>t σ H λc H1=>if c=true then u σ H1 Q else Q false H1
noncomputable def tOr (t u:TT):TT:=λσ H Q=>t σ H λc H1=>if c=true then Q true H1 else u σ H1 Q
noncomputable def Ce (t:TT):TT:=λσ H Q=>t σ H λc H1=>Q (!c) H1
theorem xA (ha:PT X a tA):PW X (.BoolOp .And [a] pos) tA:=by
 intro wh pins s σ H Q I h
 refine isTrue_and (thn (ha pins s σ H Q I h) λc s1 e=>?_)
 cases c with
 | true=>exact isTrue_and_nil e
 | false=>exact e
theorem yZ (ha:PT X a tA):PW X (.BoolOp .Or [a] pos) tA:=by
 intro wh pins s σ H Q I h
 refine isTrue_or (thn (ha pins s σ H Q I h) λc s1 e=>?_)
 cases c with
 | false=>exact isTrue_or_nil e
 | true=>exact e
theorem vR (ha:PT X a tA) (hb:PW X (.BoolOp .And (b::rest) pos) tB'):PW X (.BoolOp .And (a::b::rest) pos) (Cc tA tB'):=by
 intro wh pins s σ H Q I h
 refine isTrue_and (thn (ha pins s σ H _ I h) λc s1 ⟨H1,I1,q1⟩=>?_)
 cases c with
 | true=>exact hb wh pins s1 σ H1 Q I1 q1
 | false=>exact⟨H1,I1,q1⟩
theorem yX (ha:PT X a tA) (hb:PW X (.BoolOp .Or (b::rest) pos) tB'):PW X (.BoolOp .Or (a::b::rest) pos) (tOr tA tB'):=by
 intro wh pins s σ H Q I h
 refine isTrue_or (thn (ha pins s σ H _ I h) λc s1 ⟨H1,I1,q1⟩=>?_)
 cases c with
 | true=>exact⟨H1,I1,q1⟩
 | false=>exact hb wh pins s1 σ H1 Q I1 q1
theorem zi (ha:PT X a tA):PT X (.UnaryOp .Not a pos) (Ce tA):=by
 intro pins s σ H Q I h
 exact isTrue_not (ha pins s σ H (λc H1=>Q (!c) H1) I h)
noncomputable def A9 (ta tb:TE):TE:=λσ H Q=>ta σ H λx H1=>∃ c,x=.bl c/\if c=true then tb σ H1 Q else Q (.bl false) H1
noncomputable def Bn (ta:TE):TE:=λσ H Q=>ta σ H λx H1=>∃ c,x=.bl c/\Q (.bl (!c)) H1
theorem Al {op}{t:TE} (h:PE X a t):PE X (.BoolOp op [a] pos) t:=λpins s σ H Q I hw=>BoolOp_one (h pins s σ H Q I hw)
theorem wV (ha:PE X a ta) (hb:PE X (.BoolOp .And (b::rest) pos) tb):PE X (.BoolOp .And (a::b::rest) pos) (A9 ta tb):=by
 intro pins s σ H Q I h
 refine BoolOp_and (thn (ha pins s σ H _ I h) λv s1 ⟨x,H1,I1,r1,q1⟩=>?_)
 obtain⟨c,rfl,q1⟩:=q1
 cases r1
 refine wpAny_truthy_bool ?_
 cases c with
 | true=>exact hb pins s1 σ H1 Q I1 q1
 | false=>exact⟨.bl false,H1,I1,rfl,q1⟩
theorem zp (ha:PE X a ta):PE X (.UnaryOp .Not a pos) (Bn ta):=by
 intro pins s σ H Q I h
 refine UnaryOp_ (thn (ha pins s σ H _ I h) λv s1 ⟨x,H1,I1,r1,q1⟩=>?_)
 obtain⟨c,rfl,q1⟩:=q1
 cases r1
 exact not_of (wpAny_truthy_bool ⟨.bl (!c),H1,I1,rfl,q1⟩)
noncomputable def tIf (t:TT) (ta tb:TE):TE:=λσ H Q=>t σ H λc H1=>if c=true then ta σ H1 Q else tb σ H1 Q
theorem rz {c:Expr} (hc:PT X c tA) (ha:PE X a ta) (hb:PE X b tb):PE X (.IfExp c a b pos) (tIf tA ta tb):=by
 intro pins s σ H Q I h
 refine wpAny_IfExp (thn (hc pins s σ H _ I h) λd s1 ⟨H1,I1,q1⟩=>?_)
 cases d with
 | true=>exact ha pins s1 σ H1 Q I1 q1
 | false=>exact hb pins s1 σ H1 Q I1 q1
end
end L2
namespace L2
open PySem PySem.Spec PyProof.Rows
noncomputable def SqL (K:PySem.W.Frag) (H:Hp) (a:Addr) (xs:List V):Prop:=
 Rd H a (.lst xs)\/
  ∃ (o:Obj) (its:Array Value) (n:Nat),K.lookup a=some o/\o.cls=.type "list"/\o.dict=none/\o.data=.seq its n/\its.size<=sizeLine/\aV xs its.toList
noncomputable def SqT (K:PySem.W.Frag) (H:Hp) (a:Addr) (xs:List V):Prop:=
 H a=some (.tup xs)\/
  ∃ (o:Obj) (its:Array Value) (n:Nat),K.lookup a=some o/\o.cls=.type "tuple"/\o.data=.seq its n/\its.size<=sizeLine/\aV xs its.toList/\o.dict=none
noncomputable def Cn:Value->Option V
 | .none=>some .non
 | .bool b=>some (.bl b)
 | .int i _=>some (.int i)
 | .str x _=>some (.str x)
 | .bytes b _=>some (.byt b)
 | .float b _=>some (.flt b)
 | .ref a=>some (.ref a)
 | .type n=>some (.ty n)
 | _=>none
theorem bJ.abs {x:V}{u:Value} (r:bJ x u):Cn u=some x:=by
 cases x with
 | non=>cases r;rfl
 | bl _=>cases r;rfl
 | int _=>obtain⟨t,rfl⟩:=r;rfl
 | str _=>obtain⟨t,rfl⟩:=r;rfl
 | byt _=>obtain⟨t,rfl⟩:=r;rfl
 | flt _=>obtain⟨t,rfl⟩:=r;rfl
 | ref _=>cases r;rfl
 | ty _=>cases r;rfl
theorem bJ.inj {x y:V}{u:Value} (r:bJ x u) (q:bJ y u):x=y:=Option.some.inj (r.abs.symm.trans q.abs)
theorem aV.inj:∀ {xs ys:List V}{us:List Value},aV xs us->aV ys us->xs=ys
 | _,_,_,.nil,.nil=>rfl
 | _,_,_,.cons r t,.cons r' t'=>by rw [r.inj r',aV.inj t t']
section
variable {X:Cx}{pins:List (Addr×Obj)}{σ:St}{H:Hp}{s:Shared}{a:Addr}{xs ys:List V}
theorem SqL.of {K:PySem.W.Frag} (h:H a=some (.lst xs)):SqL K H a xs:=.inl (.inl h)
theorem SqT.of {K:PySem.W.Frag} (h:H a=some (.tup xs)):SqT K H a xs:=.inl h
theorem Inv.list (I:Inv X pins σ H s) (h:SqL X.K H a xs):∃ its:List Value,aV xs its/\PlainL s.heap a its.toArray/\xs.length<=sizeLine:=by
 rcases h with h | ⟨o,its,n,hk,hc,hd,hs,hz,r⟩
 ·obtain⟨z,its,n,r,e⟩:=h.ok I.hok
  exact⟨its,r,⟨_,n,e,rfl,rfl,rfl⟩,z⟩
 ·refine⟨its.toList,r,⟨o,n,I.kIn a o hk,hc,hd,by simpa using hs⟩,?_⟩
  have e:=r.length
  simp only [Array.length_toList] at e
  lia
theorem Inv.tuple (I:Inv X pins σ H s) (h:SqT X.K H a xs):∃ its:List Value,aV xs its/\IsTup s.heap a its.toArray/\xs.length<=sizeLine:=by
 rcases h with h | ⟨o,its,n,hk,hc,hs,hz,r,_⟩
 ·obtain⟨z,its,r,p⟩:=(Rd.of h).ok I.hok
  exact⟨its,r,p.tup,z⟩
 ·refine⟨its.toList,r,⟨o,I.kIn a o hk,hc,n,by simpa using hs⟩,?_⟩
  have e:=r.length
  simp only [Array.length_toList] at e
  lia
theorem Inv.tuple1 (I:Inv X pins σ H s) (h:SqT X.K H a xs):∃ o:Obj,s.heap.get? a=some o/\o.cls=.type "tuple"/\o.dict=none:=by
 rcases h with h | ⟨o,its,n,hk,hc,hs,hz,r,hd⟩
 ·obtain⟨z,its,r,o,e,c,_,hd⟩:=(Rd.of h).ok I.hok
  exact⟨o,e,c,hd⟩
 ·exact⟨o,I.kIn a o hk,hc,hd⟩
theorem Inv.list_inj (I:Inv X pins σ H s) (h:SqL X.K H a xs) (h':SqL X.K H a ys):xs=ys:=by
 obtain⟨its,r,⟨o,n,e,_,_,d⟩,_⟩:=I.list h
 obtain⟨its',r',⟨o',n',e',_,_,d'⟩,_⟩:=I.list h'
 rw [e] at e';cases e'
 rw [d] at d'
 injection d' with d1 _
 have:its=its':=by simpa using congrArg Array.toList d1
 subst this
 exact r.inj r'
theorem Inv.tuple_inj (I:Inv X pins σ H s) (h:SqT X.K H a xs) (h':SqT X.K H a ys):xs=ys:=by
 obtain⟨its,r,⟨o,e,_,n,d⟩,_⟩:=I.tuple h
 obtain⟨its',r',⟨o',e',_,n',d'⟩,_⟩:=I.tuple h'
 rw [e] at e';cases e'
 rw [d] at d'
 injection d' with d1 _
 have:its=its':=by simpa using congrArg Array.toList d1
 subst this
 exact r.inj r'
end
abbrev Cx.wish (X:Cx) (E:Value->Shared->Prop):Cx:={ X with xe:=E }
abbrev Cx.nox (X:Cx):Cx:=X.wish λ_ _=>False
theorem Cx.Ok.wish {X:Cx} (ok:X.Ok) (E:Value->Shared->Prop):(X.wish E).Ok:=
 ⟨ok.mod,ok.kind,ok.glob,ok.blt,ok.above,ok.inj,ok.has,ok.cab,ok.hd,ok.frames,ok.stk,ok.exf,ok.bs,ok.bsz,ok.noex,ok.exfs,ok.funs,ok.frf⟩
theorem Cx.Ok.unwish {X:Cx}{E:Value->Shared->Prop} (ok:(X.wish E).Ok):X.Ok:=
 ⟨ok.mod,ok.kind,ok.glob,ok.blt,ok.above,ok.inj,ok.has,ok.cab,ok.hd,ok.frames,ok.stk,ok.exf,ok.bs,ok.bsz,ok.noex,ok.exfs,ok.funs,ok.frf⟩
section
variable {X:Cx}{pins:List (Addr×Obj)}{σ:St}{H:Hp}{s:Shared}{E:Value->Shared->Prop}
theorem Inv.wish (I:Inv X pins σ H s) (E:Value->Shared->Prop):Inv (X.wish E) pins σ H s:=⟨I.ok.wish E,I.os,I.bare,I.base,I.loc,I.cell,I.free,I.freeC,I.pin,I.hok,I.len⟩
theorem Inv.unwish (I:Inv (X.wish E) pins σ H s):Inv X pins σ H s:=⟨I.ok.unwish,I.os,I.bare,I.base,I.loc,I.cell,I.free,I.freeC,I.pin,I.hok,I.len⟩
theorem SP.unwish {D:n6}{f:Flow}{s':Shared} (h:SP (X.wish E) pins D f s'):SP X pins D f s':=by
 cases f with
 | next=>obtain⟨σ',H',I,q⟩:=h;exact⟨σ',H',I.unwish,q⟩
 | brk=>obtain⟨σ',H',I,q⟩:=h;exact⟨σ',H',I.unwish,q⟩
 | cont=>obtain⟨σ',H',I,q⟩:=h;exact⟨σ',H',I.unwish,q⟩
 | ret u=>obtain⟨v,σ',H',I,r,q⟩:=h;exact⟨v,σ',H',I.unwish,r,q⟩
theorem PSs.nox {st:List Stmt}{t:TS} (h:PSs X.nox st t):PSs X st t:=λpins s σ H D I hw=>
 wpAny_mono (h pins s σ H D (I.wish _) hw) (λ_ _ q=>q.unwish) λ_ _ z=>False.elim z
end
section
variable {X:Cx}{st:Stmt}{rest:List Stmt}{t u:TS}{e:Expr}{te:TE}{pos:Pos}
noncomputable def Bv:TS:=λD σ H=>D.nx σ H
noncomputable def Cp (t u:TS):TS:=λD σ H=>t { D with nx:=u D } σ H
theorem yv:PSs X [] Bv:=λ_ _ σ H _ I h=>wpAny_execs_nil ⟨σ,H,I,h⟩
theorem fP (h1:PS X st t) (h2:PSs X rest u):PSs X (st::rest) (Cp t u):=by
 intro pins s σ H D I h
 refine wpAny_execs_cons (thn (h1 pins s σ H { D with nx:=u D } I h) λf s1 q=>?_)
 cases f with
 | next=>
  obtain⟨σ',H',I',q⟩:=q
  exact h2 pins s1 σ' H' D I' q
 | ret v=>exact q
 | brk=>exact q
 | cont=>exact q
theorem uy (h1:PS X st t):PSs X [st] t:=by
 intro pins s σ H D I h
 refine wpAny_execs_cons (thn (h1 pins s σ H D I h) λf s1 q=>?_)
 cases f with
 | next=>exact wpAny_execs_nil q
 | ret v=>exact q
 | brk=>exact q
 | cont=>exact q
noncomputable def zj:TS:=λD σ H=>D.bk σ H
noncomputable def A0:TS:=λD σ H=>D.ct σ H
theorem wQ:PS X (.Break pos) zj:=λ_ _ σ H _ I h=>wpAny_Break ⟨σ,H,I,h⟩
theorem qJ:PS X (.Continue pos) A0:=λ_ _ σ H _ I h=>wpAny_Continue ⟨σ,H,I,h⟩
theorem Inv.quiet {pins:List (Addr×Obj)}{σ:St}{H:Hp}{s:Shared} (I:Inv X pins σ H s):interactive X.env=false:=by simp [interactive,I.ok.kind]
noncomputable def AF (te:TE):TS:=λD σ H=>te σ H λ_ H1=>D.nx σ H1
theorem x6 (he:PE X e te) (hs:swapsWith e none pos.line X.env=pure false:=by rfl):PS X (.Expr e pos) (AF te):=by
 intro pins s σ H D I h
 exact wpAny_Expr_any (thn (he pins s σ H _ I h) λv s1 ⟨x,H1,I1,r1,q1⟩=>⟨σ,H1,I1,q1⟩) I.quiet hs
noncomputable def Cd (te:TE):TS:=λD σ H=>te σ H D.rt
theorem zA (he:PE X e te):PS X (.Return (some e) pos) (Cd te):=by
 intro pins s σ H D I h
 exact wpAny_Return_some (thn (he pins s σ H _ I h) λv s1 ⟨x,H1,I1,r1,q1⟩=>⟨x,σ,H1,I1,r1,q1⟩)
noncomputable def B7 (c:TT) (t u:TS):TS:=λD σ H=>c σ H λb H1=>if b=true then t D σ H1 else u D σ H1
theorem yR {c:Expr}{a b:List Stmt}{tc:TT} (hc:PT X c tc) (ha:PSs X a t) (hb:PSs X b u):PS X (.If c a b pos) (B7 tc t u):=by
 intro pins s σ H D I h
 refine wpAny_If (thn (hc pins s σ H _ I h) λd s1 ⟨H1,I1,q1⟩=>?_)
 cases d with
 | true=>exact ha pins s1 σ H1 D I1 q1
 | false=>exact hb pins s1 σ H1 D I1 q1
noncomputable def Ab:TS:=λ_ _ _=>False
theorem iF {sts:List Stmt}:PSs X sts Ab:=λ_ _ _ _ _ _ h=>h.elim
end
abbrev TG:=V->St->Hp->(St->Hp->Prop)->Prop
abbrev TGs:=List V->St->Hp->(St->Hp->Prop)->Prop
noncomputable def PG (X:Cx) (target:Expr) (t:TG):Prop:=
 ∀ (pins:List (Addr×Obj)) (s:Shared) (σ:St) (H:Hp) (v:V) (u:Value) (Q:St->Hp->Prop),Inv X pins σ H s->bJ v u->t v σ H Q->
  wpAny (model X.prog X.w) X.A (assign target X.env u) (λ_ s'=>∃ σ' H',Inv X pins σ' H' s'/\Q σ' H') X.xe s
noncomputable def PGs (X:Cx) (ts:List Expr) (t:TGs):Prop:=
 ∀ (pins:List (Addr×Obj)) (s:Shared) (σ:St) (H:Hp) (vs:List V) (us:List Value) (Q:St->Hp->Prop),Inv X pins σ H s->aV vs us->t vs σ H Q->
  wpAny (model X.prog X.w) X.A (assignInOrder ((assignEach ts X.env).map (·.2)) us) (λ_ s'=>∃ σ' H',Inv X pins σ' H' s'/\Q σ' H') X.xe s
abbrev As:=V->V->V->Hp->(Hp->Prop)->Prop
noncomputable def A3 (X:Cx) (t:As):Prop:=
 ∀ (pins:List (Addr×Obj)) (s:Shared) (σ:St) (H:Hp) (o i v:V) (ov iv u:Value) (Q:Hp->Prop),Inv X pins σ H s->bJ o ov->bJ i iv->bJ v u->t o i v H Q->
  wpAny (model X.prog X.w) X.A (setItem ov iv u) (λ_ s'=>∃ H',Inv X pins σ H' s'/\Q H') X.xe s
section
variable {X:Cx}{pos:Pos}
noncomputable def qD (i:Nat):TG:=λv σ H Q=>Q (σ.set i (some v)) H
theorem ax {i:Nat}{x:Str} (hN:X.N.Nodup) (hi:X.N[i]?=some x) (hx:Loc X.env.scope x) (hf:X.fn x=true\/X.env.scope.names.lookup x=some .local:=by first | exact .inl rfl | exact .inr rfl | assumption):PG X (.Name x pos) (qD i):=by
 intro pins s σ H v u Q I r h
 exact wpAny_assign_Name (ng I hN hi hx r (λs' I'=>⟨_,H,I',h⟩) hf)
noncomputable def Cr:TGs:=λvs σ H Q=>vs=[]/\Q σ H
noncomputable def A2 (t:TG) (u:TGs):TGs:=λvs σ H Q=>∃ v r,vs=v::r/\t v σ H λσ' H'=>u r σ' H' Q
theorem xx:PGs X [] Cr:=by
 intro pins s σ H vs us Q I r h
 obtain⟨e,h⟩:=h
 subst e
 cases r
 exact assignInOrder_nil ⟨σ,H,I,h⟩
theorem vS {e:Expr}{es:List Expr}{t:TG}{u:TGs} (h1:PG X e t) (h2:PGs X es u)
  (hs:(assignEach (e::es) X.env).map (·.2)=assign e X.env::(assignEach es X.env).map (·.2):=by rfl):PGs X (e::es) (A2 t u):=by
 intro pins s σ H vs us Q I r h
 obtain⟨v,vr,e1,h⟩:=h
 subst e1
 cases r with
 | cons r rr=>
  rw [hs]
  refine assignInOrder_cons (thn (h1 pins s σ H _ _ _ I r h) λ_ s1 ⟨σ1,H1,I1,q1⟩=>?_)
  exact h2 pins s1 σ1 H1 _ _ Q I1 rr q1
noncomputable def B8 (K:PySem.W.Frag) (n:Nat) (t:TGs):TG:=λv σ H Q=>∃ a xs,v=.ref a/\SqT K H a xs/\xs.length=n/\t xs σ H Q
theorem zW {es:List Expr}{k:Nat}{t:TGs}{n:Nat} (hc:X.calm=true) (h:PGs X es t)
  (hn:(assignEach es X.env).length=n:=by rfl) (hst:(assignEach es X.env).findIdx? (·.1)=none:=by rfl):PG X (.Tuple es k pos) (B8 X.K n t):=by
 intro pins s σ H v u Q I r hw
 obtain⟨a,xs,e1,hq,hl,hw⟩:=hw
 subst e1
 cases r
 obtain⟨its,rv,ht,hz⟩:=I.tuple hq
 refine assign_Tuple_tuple (I.ok.hd hc) ht (by simp [hn,<-hl,rv.length]) hst λh' hx=>?_
 have I1:Inv X pins σ H { s with heap:=h' }:=I.kept (t':=s.toks) λb o e=>hx b o (Nat.ne_of_lt (Heap.lt_size e)) e
 exact h pins _ σ H xs _ Q I1 (by simpa using rv) hw
noncomputable def BU (to ti:TE) (t:As):TG:=λv σ H Q=>to σ H λo H1=>ti σ H1 λi H2=>t o i v H2 λH3=>Q σ H3
theorem tV {o i:Expr}{to ti:TE}{t:As} (ho:PE X o to) (hi:PE X i ti) (hs:A3 X t)
  (ha:∀ v,assign (.Subscript o i pos) X.env v=(do
    let ov <-holding [v] (eval o X.env)
    let iv <-holding [v,ov] (eval i X.env)
    standAt pos
    holding [v,ov,iv] (setItem ov iv v)
    release [v,ov,iv] []):=by intro _;rfl):PG X (.Subscript o i pos) (BU to ti t):=by
 intro pins s σ H v u Q I r h
 rw [ha]
 refine wpAny_bind (wpAny_holding (thn (ho pins s σ H _ I h) λov s1 ⟨x,H1,I1,r1,q1⟩=>?_))
 refine wpAny_bind (wpAny_holding (thn (hi pins s1 σ H1 _ I1 q1) λiv s2 ⟨y,H2,I2,r2,q2⟩=>?_))
 refine wpAny_bind (wpAny_standAt (wpAny_bind (wpAny_holding (thn (hs pins s2 σ H2 x y v ov iv u _ I2 r1 r2 r q2) λ_ s3 ⟨H3,I3,q3⟩=>?_))))
 exact wpAny_release ⟨σ,H3,I3,q3⟩
noncomputable def zn (te:TE) (g:TG):TS:=λD σ H=>te σ H λx H1=>g x σ H1 D.nx
theorem qo {tg e:Expr}{te:TE}{g:TG} (he:PE X e te) (hg:PG X tg g) (hs:swapsWithSole [tg] e pos.line X.env=pure false:=by rfl) (hw:swappedStores [tg] e X.env=pure none:=by rfl)
  (h1:(assignEach [tg] X.env).map (·.2)=[assign tg X.env]:=by rfl):PS X (.Assign [tg] e pos) (zn te g):=by
 intro pins s σ H D I h
 refine wpAny_Assign_stores (thn (he pins s σ H _ I h) λv s1 ⟨x,H1,I1,r1,q1⟩=>?_) hs hw
 rw [h1]
 exact thn (hg pins s1 σ H1 x v _ I1 r1 q1) λ_ s2 q=>q
theorem zC {i:Nat}{x:Str}{e:Expr}{te:TE}{pos':Pos} (hN:X.N.Nodup) (hi:X.N[i]?=some x) (hx:Loc X.env.scope x) (he:PE X e te) (hs:swapsWith e (some (.Name x pos')) pos.line X.env=pure false:=by rfl) (hf:X.fn x=true\/X.env.scope.names.lookup x=some .local:=by first | exact .inl rfl | exact .inr rfl | assumption) :
  PS X (.Assign [.Name x pos'] e pos) (zn te (qD i)):=by
 intro pins s σ H D I h
 refine wpAny_Assign_Name (thn (he pins s σ H _ I h) λv s1 ⟨y,H1,I1,r1,q1⟩=>?_) hs
 exact ng I1 hN hi hx r1 (λs2 I2=>⟨_,H1,I2,q1⟩) hf
end
section
variable {X:Cx}{pos:Pos}
noncomputable def Aa (c:TT) (tb:TS):TS:=λD σ H=>∃ W:Nat->St->Hp->Prop,(∃ m,W m σ H)/\∀ m σ H,W m σ H->
 c σ H λb H1=>if b=true then ∃ N:St->Hp->Prop,(∀ σ' H',N σ' H'->∃ m',m' < m/\W m' σ' H')/\tb { D with nx:=N,ct:=N,bk:=D.nx } σ H1 else D.nx σ H1
theorem wv {c:Expr}{body:List Stmt}{tc:TT}{tb:TS} (hp:PassesOwn (model X.prog X.w) X.A X.env X.xe) (hc:PT X c tc) (hb:PSs X body tb):PS X (.While c body [] pos) (Aa tc tb):=by
 intro pins s σ H D I h
 obtain⟨W,⟨m0,w0⟩,turn⟩:=h
 refine wpAny_While (codeAny_whileLoop (λn s'=>∃ σ' H',Inv X pins σ' H' s'/\W n σ' H') ?_ m0 ⟨σ,H,I,w0⟩)
 rintro n s1 ⟨σ1,H1,I1,w1⟩
 refine wpAny_passesOwn hp (thn (hc pins s1 σ1 H1 _ I1 (turn n σ1 H1 w1)) λb s2 ⟨H2,I2,q2⟩=>?_)
 cases b with
 | true=>
  obtain⟨N,hN,q2⟩:=q2
  rw [if_pos rfl]
  refine wpAny_passesOwn hp (thn (hb pins s2 σ1 H2 _ I2 q2) λf s3 q3=>?_)
  cases f with
  | next=>
   obtain⟨σ3,H3,I3,n3⟩:=q3
   obtain⟨m',hm,w3⟩:=hN σ3 H3 n3
   exact⟨m',hm,σ3,H3,I3,w3⟩
  | cont=>
   obtain⟨σ3,H3,I3,n3⟩:=q3
   obtain⟨m',hm,w3⟩:=hN σ3 H3 n3
   exact⟨m',hm,σ3,H3,I3,w3⟩
  | brk=>exact q3
  | ret v=>exact q3
 | false=>
  rw [if_neg Bool.false_ne_true]
  exact wpAny_execs_nil ⟨σ1,H2,I2,q2⟩
end
structure It where
 go:Nat->Hp->Prop
 yld:Nat->Hp->V->Hp->Prop
 stop:Nat->Hp->Prop
noncomputable def j6 (X:Cx) (pins:List (Addr×Obj)) (H:Hp) (b:Addr):Prop:=
 H b=none/\b≠X.env.locals/\b ∉ X.fs/\(b ∈ X.ex\/X.s₀.heap.objs.size<=b)/\(∀ x c,X.env.cells.lookup x=some c->c≠b)/\∀ p ∈ X.pn++pins,p.1≠b
theorem Inv.fpOk {X:Cx}{pins:List (Addr×Obj)}{σ:St}{H H':Hp}{s:Shared}{b:Addr} (I:Inv X pins σ H s) (hb:s.heap.objs.size<=b) (hn:H' b=none):j6 X pins H' b:=by
 refine⟨hn,Nat.ne_of_gt (Nat.lt_of_lt_of_le I.lt hb),I.nofs hb,.inr (Nat.le_trans I.sz hb),λx c e z=>?_,λp hp z=>?_⟩
 ·obtain⟨v,q⟩:=I.cell x c e
  exact absurd (Nat.lt_of_lt_of_le q.lt (by rw [z];exact hb)) (Nat.lt_irrefl _)
 ·exact absurd (Nat.lt_of_lt_of_le (Heap.lt_size (I.pin p hp).1) (by rw [z];exact hb)) (Nat.lt_irrefl _)
structure sM (P:Program) (w:World) (K:PySem.W.Frag) (tg:Expr) (J:It) (fp:List Addr) (it:Addr) (tn:Nat->Heap->Prop):Prop where
 mem:it ∈ fp
 obj:∀ i h,tn i h->∀ b ∈ fp,∃ o,h.get? b=some o/\∀ v,o.data≠.cell v
 keep:∀ i h h',tn i h->(∀ b ∈ fp,∀ o,h.get? b=some o->h'.get? b=some o)->tn i h'
 item:∀ (X:Cx),X.prog=P->X.w=w->X.K=K->X.calm=true->∀ (i:Nat) (pins:List (Addr×Obj)) (s:Shared) (σ:St) (H:Hp) (E:Value->Shared->Prop),Inv X pins σ H s->(∀ b ∈ fp,j6 X pins H b)->tn i s.heap->J.go i H->
  wpAny (model P w) X.A (pyNext (.ref it)) (λr s1=>∃ u,r=some u/\
   wpAny (model P w) X.A (letOwnedTupleGo tg (.ref it) u) (λ_ s2=>∃ x H',Inv X pins σ H' s2/\bJ x u/\J.yld i H x H'/\tn (i+1) s2.heap/\∀ b ∈ fp,H' b=none) E s1) E s
 done:∀ (X:Cx),X.prog=P->X.w=w->X.K=K->X.calm=true->∀ (i:Nat) (pins:List (Addr×Obj)) (s:Shared) (σ:St) (H:Hp) (E:Value->Shared->Prop),Inv X pins σ H s->(∀ b ∈ fp,j6 X pins H b)->tn i s.heap->J.stop i H->
  wpAny (model P w) X.A (pyNext (.ref it)) (λr s1=>r=none/\Inv X pins σ H s1) E s
 self:∀ (A:Around) (i:Nat) (s:Shared) (Q:Value->Shared->Prop) (E:Value->Shared->Prop),tn i s.heap->Q (.ref it) s->wpAny (model P w) A (pyIter (.ref it)) Q E s
abbrev TI:=St->Hp->(It->Hp->Prop)->Prop
noncomputable def PIE (X:Cx) (pins:List (Addr×Obj)) (σ:St) (tg:Expr) (R:It->Hp->Prop) (itv:Value) (s2:Shared):Prop:=
 ∃ (it:Addr) (fp:List Addr) (tn:Nat->Heap->Prop) (J:It) (H':Hp),itv=.ref it/\Inv X pins σ H' s2/\sM X.prog X.w X.K tg J fp it tn/\tn 0 s2.heap/\(∀ b ∈ fp,j6 X pins H' b)/\R J H'
noncomputable def PI (X:Cx) (tg iter:Expr) (wi:TI):Prop:=
 ∀ (pins:List (Addr×Obj)) (s:Shared) (σ:St) (H:Hp) (R:It->Hp->Prop),Inv X pins σ H s->wi σ H R->
  wpAny (model X.prog X.w) X.A (eval iter X.env) (λv s1=>wpAny (model X.prog X.w) X.A (pyIter v) (PIE X pins σ tg R) X.xe s1) X.xe s
theorem xi {M:Model}{A:Around}{E:Value->Shared->Prop}{s:Shared}{tg:Expr}{it:Addr}{u:Value}{o:Obj}{n:String}{vs:Array Value}{Q:Unit->Shared->Prop} (ho:s.heap.get? it=some o) (hc:o.cls=.type n) (hd:o.data=.fields vs)
  (hn:["enumerate","zip","dict_itemiterator","dict_reverseitemiterator","odict_iterator","itertools.zip_longest","itertools.pairwise"].contains n=false) (hQ:Q () s):wpAny M A (letOwnedTupleGo tg (.ref it) u) Q E s:=by
 unfold letOwnedTupleGo
 cases tg<;>first
  | exact wpAny_pure hQ
  | (cases u<;>first
      | exact wpAny_pure hQ
      | (refine wpAny_bind (wpAny_load ho ?_)
         rw [hc,hd]
         show wpAny M A (if (["enumerate","zip","dict_itemiterator","dict_reverseitemiterator","odict_iterator","itertools.zip_longest","itertools.pairwise"].contains n && vs[0]?==some (rawInt _))=true then _ else _) Q E s
         rw [if_neg (by intro h;rw [hn,Bool.false_and] at h;cases h)]
         exact wpAny_pure hQ))
noncomputable def Itl (K:PySem.W.Frag) (a:Addr):It:=
 ⟨λi H=>∃ xs x,SqL K H a xs/\xs[i]?=some x,λi H x H'=>H'=H/\∀ xs,SqL K H a xs->xs[i]?=some x,λi H=>∃ xs,SqL K H a xs/\xs.length<=i⟩
noncomputable def Itt (K:PySem.W.Frag) (a:Addr):It:=
 ⟨λi H=>∃ xs x,SqT K H a xs/\xs[i]?=some x,λi H x H'=>H'=H/\∀ xs,SqT K H a xs->xs[i]?=some x,λi H=>∃ xs,SqT K H a xs/\xs.length<=i⟩
noncomputable def Itr (lo:Int) (n:Nat):It:=⟨λi _=>i < n,λi H x H'=>H'=H/\x=.int (lo+i),λi _=>n<=i⟩
theorem vB {P:Program}{w:World}{K:PySem.W.Frag}{tg:Expr} (a it:Addr):sM P w K tg (Itl K a) [it] it (λi h=>h.IsListIter it a i) where
 mem:=by simp
 obj:=λi h st b hb=>by
  have e:b=it:=by simpa using hb
  subst e
  obtain⟨o,e,c,d⟩:=st
  exact⟨o,e,λv z=>by rw [d] at z;cases z⟩
 keep:=λi h h' st k=>st.at λo e=>k it (by simp) o e
 item:=by
  intro X hP hw hK hc i pins s σ H E I hf st hg
  subst hP hw hK
  obtain⟨xs,x,hq,hx⟩:=hg
  obtain⟨its,rv,p,hz⟩:=I.list hq
  obtain⟨u,hu,ru⟩:=rv.get hx
  obtain⟨f0,f1,f2,f3,f4,f5⟩:=hf it (by simp)
  refine wpAny_pyNext_list_item st p.isList (x:=u) (by simpa using hu) λh' st' sb=>?_
  have I1:Inv X pins σ H { s with heap:=h' }:=I.turned (t':=s.toks) (λb o hb e=>(sb.2 b hb).trans e) f0 f1 f3 f4 f5
  obtain⟨o,e,c,d⟩:=id st'
  exact⟨u,rfl,xi (s:={ s with heap:=h' }) e c d (by decide) ⟨x,H,I1,ru,⟨rfl,λys hy=>by rw [I.list_inj hy hq];exact hx⟩,st',λb hb=>(hf b hb).1⟩⟩
 done:=by
  intro X hP hw hK hc i pins s σ H E I hf st hg
  subst hP hw hK
  obtain⟨xs,hq,hx⟩:=hg
  obtain⟨its,rv,p,hz⟩:=I.list hq
  obtain⟨f0,f1,f2,f3,f4,f5⟩:=hf it (by simp)
  have hl:=rv.length
  exact wpAny_pyNext_list_end (I.ok.hd hc) st p.isList (by simp;lia) λh' eb=>⟨rfl,I.turned (t':=s.toks) (λb o hb e=>eb b o hb e) f0 f1 f3 f4 f5⟩
 self:=λ_ _ _ _ _ st h=>wpAny_pyIter_listiter st h
theorem tD {P:Program}{w:World}{K:PySem.W.Frag}{tg:Expr} (a it:Addr):sM P w K tg (Itt K a) [it] it (λi h=>h.IsTupleIter it a i) where
 mem:=by simp
 obj:=λi h st b hb=>by
  have e:b=it:=by simpa using hb
  subst e
  obtain⟨o,e,c,d⟩:=st
  exact⟨o,e,λv z=>by rw [d] at z;cases z⟩
 keep:=λi h h' st k=>st.at λo e=>k it (by simp) o e
 item:=by
  intro X hP hw hK hc i pins s σ H E I hf st hg
  subst hP hw hK
  obtain⟨xs,x,hq,hx⟩:=hg
  obtain⟨its,rv,p,hz⟩:=I.tuple hq
  obtain⟨u,hu,ru⟩:=rv.get hx
  obtain⟨f0,f1,f2,f3,f4,f5⟩:=hf it (by simp)
  refine wpAny_pyNext_tuple_item st (show s.heap.IsTuple a its.toArray from p) (x:=u) (by simpa using hu) λh' st' sb=>?_
  have I1:Inv X pins σ H { s with heap:=h' }:=I.turned (t':=s.toks) (λb o hb e=>(sb.2 b hb).trans e) f0 f1 f3 f4 f5
  obtain⟨o,e,c,d⟩:=id st'
  exact⟨u,rfl,xi (s:={ s with heap:=h' }) e c d (by decide) ⟨x,H,I1,ru,⟨rfl,λys hy=>by rw [I.tuple_inj hy hq];exact hx⟩,st',λb hb=>(hf b hb).1⟩⟩
 done:=by
  intro X hP hw hK hc i pins s σ H E I hf st hg
  subst hP hw hK
  obtain⟨xs,hq,hx⟩:=hg
  obtain⟨its,rv,p,hz⟩:=I.tuple hq
  obtain⟨f0,f1,f2,f3,f4,f5⟩:=hf it (by simp)
  have hl:=rv.length
  exact wpAny_pyNext_tuple_end (I.ok.hd hc) st (show s.heap.IsTuple a its.toArray from p) (by simp;lia) λh' eb=>⟨rfl,I.turned (t':=s.toks) (λb o hb e=>eb b o hb e) f0 f1 f3 f4 f5⟩
 self:=λ_ _ _ _ _ st h=>wpAny_pyIter_tupleiter st h
theorem si {P:Program}{w:World}{K:PySem.W.Frag}{tg:Expr} (it:Addr) (lo:Int) (n:Nat):sM P w K tg (Itr lo n) [it] it (λi h=>IsRangeIter h it (lo+(i:Nat)*1) ((n:Int) - (i:Nat)) 1) where
 mem:=by simp
 obj:=λi h st b hb=>by
  have e:b=it:=by simpa using hb
  subst e
  exact⟨_,st,λv z=>by
   have z':Data.fields _=Data.cell v:=z
   cases z'⟩
 keep:=λi h h' st k=>k it (by simp) _ st
 item:=by
  intro X hP hw hK hc i pins s σ H E I hf st hg
  subst hP hw hK
  obtain⟨f0,f1,f2,f3,f4,f5⟩:=hf it (by simp)
  have W:=Walks.range (prog:=X.prog) (w:=X.w) (I.ok.hd hc) it lo 1 n
  refine W.item i s _ _ hg st λv h' tk hv st' kk=>?_
  obtain⟨t,rfl⟩:=hv
  have I1:Inv X pins σ H { s with heap:=h',toks:=tk }:=I.turned (λb o hb e=>kk b o (by simpa using hb) e) f0 f1 f3 f4 f5
  refine⟨_,rfl,xi (s:={ s with heap:=h',toks:=tk }) (n:="range_iterator") st' rfl rfl (by decide) ⟨.int (lo+i),H,I1,⟨t,?_⟩,⟨rfl,rfl⟩,st',λb hb=>(hf b hb).1⟩⟩
  rw [Int.mul_one]
 done:=by
  intro X hP hw hK hc i pins s σ H E I hf st hg
  subst hP hw hK
  obtain⟨f0,f1,f2,f3,f4,f5⟩:=hf it (by simp)
  exact wpAny_pyNext_range_end (I.ok.hd hc) st (by have:n<=i:=hg;lia) λh' eb=>⟨rfl,I.turned (t':=s.toks) (λb o hb e=>eb b o hb e) f0 f1 f3 f4 f5⟩
 self:=λ_ _ _ _ _ st h=>wpAny_pyIter_rangeiter st h
end L2
namespace L2
open PySem PySem.Spec PyProof.Rows
section
variable {X:Cx}{tg:Expr}
noncomputable def BI (K:PySem.W.Frag) (tl:TE):TI:=λσ H R=>tl σ H λx H1=>∃ a,x=.ref a/\(∃ xs,SqL K H1 a xs)/\R (Itl K a) H1
noncomputable def B9 (K:PySem.W.Frag) (tl:TE):TI:=λσ H R=>tl σ H λx H1=>∃ a,x=.ref a/\(∃ xs,SqT K H1 a xs)/\R (Itt K a) H1
theorem uP {l:Expr}{tl:TE} (hl:PE X l tl):PI X tg l (BI X.K tl):=by
 intro pins s σ H R I h
 refine thn (hl pins s σ H _ I h) λv s1 ⟨x,H1,I1,r1,q1⟩=>?_
 obtain⟨a,e,⟨xs,hq⟩,q⟩:=q1
 subst e
 cases r1
 obtain⟨its,rv,p,hz⟩:=I1.list hq
 refine wpAny_pyIter_list p.isList ?_
 refine⟨s1.heap.objs.size,[s1.heap.objs.size],_,_,H1,rfl,I1.kept (t':=s1.toks) λb o e=>Heap.get?_push_of_some _ e,vB a _,⟨_,Heap.get?_push_size _ rfl,rfl,rfl⟩,λb hb=>?_,q⟩
 have e:b=s1.heap.objs.size:=by simpa using hb
 subst e
 exact I1.fpOk (Nat.le_refl _) (I1.hok.fresh (Nat.le_refl _))
theorem z9 {l:Expr}{tl:TE} (hl:PE X l tl):PI X tg l (B9 X.K tl):=by
 intro pins s σ H R I h
 refine thn (hl pins s σ H _ I h) λv s1 ⟨x,H1,I1,r1,q1⟩=>?_
 obtain⟨a,e,⟨xs,hq⟩,q⟩:=q1
 subst e
 cases r1
 obtain⟨its,rv,p,hz⟩:=I1.tuple hq
 refine wpAny_pyIter_tuple (show s1.heap.IsTuple a its.toArray from p) ?_
 refine⟨s1.heap.objs.size,[s1.heap.objs.size],_,_,H1,rfl,I1.kept (t':=s1.toks) λb o e=>Heap.get?_push_of_some _ e,tD a _,⟨_,Heap.get?_push_size _ rfl,rfl,rfl⟩,λb hb=>?_,q⟩
 have e:b=s1.heap.objs.size:=by simpa using hb
 subst e
 exact I1.fpOk (Nat.le_refl _) (I1.hok.fresh (Nat.le_refl _))
theorem wf {pins:List (Addr×Obj)}{σ:St}{H:Hp}{s:Shared}{R:It->Hp->Prop}{E:Value->Shared->Prop}{lo hi:Int}{t u v:Tok}{tk:Nat} (I:Inv X pins σ H s) (h1:-(2 ^ 62)<=lo) (h2:lo < 2 ^ 62) (h3:-(2 ^ 62)<=hi) (h4:hi < 2 ^ 62)
  (q:R (Itr lo (hi - lo).toNat) H):wpAny (model X.prog X.w) X.A (pyIter (.ref s.heap.objs.size)) (PIE X pins σ tg R) E { s with heap:=s.heap.push { cls:=.type "range",data:=.fields #[.int lo t,.int hi u,.int 1 v] },toks:=tk }:=by
 refine wpAny_pyIter_range (IsRange.new ..) (small_one h1 h2 h3 h4) ?_
 have I1:Inv X pins σ H { s with heap:=s.heap.push { cls:=.type "range",data:=.fields #[.int lo t,.int hi u,.int 1 v] },toks:=tk }:=I.kept λb o e=>Heap.get?_push_of_some _ e
 refine⟨(s.heap.push { cls:=.type "range",data:=.fields #[.int lo t,.int hi u,.int 1 v] }).objs.size,[(s.heap.push { cls:=.type "range",data:=.fields #[.int lo t,.int hi u,.int 1 v] }).objs.size],_,_,H,rfl,
  I1.kept (t':=tk) λb o e=>Heap.get?_push_of_some _ e,si _ lo (hi - lo).toNat,?_,λb hb=>?_,q⟩
 ·have e1:lo+((0:Nat):Int)*1=lo:=by simp
  have e2:(((hi - lo).toNat:Nat):Int) - ((0:Nat):Int)=Builtin.Range.rangeSize lo hi 1:=by rw [rangeSize_one];split<;>lia
  show IsRangeIter _ _ (lo+((0:Nat):Int)*1) ((((hi - lo).toNat:Nat):Int) - ((0:Nat):Int)) 1
  rw [e1,e2]
  exact Heap.get?_push_size _ rfl
 ·have e:b=(s.heap.push { cls:=.type "range",data:=.fields #[.int lo t,.int hi u,.int 1 v] }).objs.size:=by simpa using hb
  subst e
  exact I1.fpOk (Nat.le_refl _) (I1.hok.fresh (Nat.le_refl _))
noncomputable def BG (ta:TA):TI:=λσ H R=>ta σ H λvs H1=>∃ j:Int,vs=[.int j]/\-(2 ^ 62)<=j/\j < 2 ^ 62/\R (Itr 0 j.toNat) H1
theorem vF {a:Expr}{ta:TA}{p pos:Pos} (hg:Gl X "range") (hm:X.mg "range" = none) (ha:PA X [a] ta) (hs:starEach [a] X.env=[(false,eval a X.env)]:=by rfl):PI X tg (.Call (.Name "range" p) [a] [] pos) (BG ta):=by
 intro pins s σ H R I h
 refine Call_ (kC I hg hm boot_range (PyProof.Rows.callWith_type1 (thn (ha pos pins s σ H _ I h) λus s1 ⟨vs,H1,I1,r1,q1⟩=>?_) hs rfl))
 obtain⟨j,e,q1,q2,q⟩:=q1
 subst e
 cases r1 with
 | cons r rr=>
  cases rr
  obtain⟨t,rfl⟩:=r
  exact call_range_1 (wf I1 (by lia) (by lia) q1 q2 (by simpa using q))
noncomputable def Cm (wi:TI) (g:TG) (tb:TS):TS:=λD σ H=>wi σ H λJ H1=>∃ W:Nat->Nat->St->Hp->Prop,(∃ m,W 0 m σ H1)/\∀ i m σ H,W i m σ H->
 (J.stop i H/\D.nx σ H)\/(J.go i H/\∃ N:St->Hp->Prop,(∀ σ' H',N σ' H'->∃ m',m' < m/\W (i+1) m' σ' H')/\∀ x H',J.yld i H x H'->g x σ H' λσ2 H2=>tb { D with nx:=N,ct:=N,bk:=D.nx } σ2 H2)
noncomputable def lF (fp:List Addr) (h:Heap):List (Addr×Obj):=fp.filterMap λb=>(h.get? b).map λo=>(b,o)
theorem eF {fp:List Addr}{h:Heap}{b:Addr}{o:Obj} (hb:b ∈ fp) (e:h.get? b=some o):(b,o) ∈ lF fp h:=List.mem_filterMap.mpr ⟨b,hb,by rw [e];rfl⟩
theorem u8 {fp:List Addr}{h:Heap}{p:Addr×Obj} (hp:p ∈ lF fp h):p.1 ∈ fp/\h.get? p.1=some p.2:=by
 obtain⟨b,hb,e⟩:=List.mem_filterMap.mp hp
 cases q:h.get? b with
 | none=>rw [q] at e;cases e
 | some o=>
  rw [q] at e
  have e':(b,o)=p:=Option.some.inj e
  subst e'
  exact⟨hb,q⟩
theorem Inv.pinned {pins:List (Addr×Obj)}{σ:St}{H:Hp}{s:Shared}{fp:List Addr} (I:Inv X pins σ H s) (hf:∀ b ∈ fp,j6 X pins H b) (ho:∀ b ∈ fp,∃ o,s.heap.get? b=some o/\∀ v,o.data≠.cell v):Inv X (pins++lF fp s.heap) σ H s:=
 I.pins_of λp hp=>(List.mem_append.mp hp).elim (λz=>I.pin p (List.mem_append_right _ z)) λz=>by
  obtain⟨hb,e⟩:=u8 z
  obtain⟨f0,f1,f2,_⟩:=hf p.1 hb
  obtain⟨o,e',d⟩:=ho p.1 hb
  rw [e] at e';cases e'
  exact⟨e,f0,f1,f2,d⟩
theorem Inv.unpinned {pins pl:List (Addr×Obj)}{σ:St}{H:Hp}{s:Shared} (I:Inv X (pins++pl) σ H s):Inv X pins σ H s:=I.pins_of λp hp=>I.pin p (List.mem_append_right _ (List.mem_append_left _ hp))
theorem zY {iter:Expr}{body:List Stmt}{wi:TI}{g:TG}{tb:TS}{pos:Pos} (hp:PassesOwn (model X.prog X.w) X.A X.env X.xe) (hc:X.calm=true) (hi:PI X tg iter wi) (hg:PG X tg g) (hb:PSs X body tb)
  (hs:∀ x,foldedSetIterable iter X.env x=pure x:=by intro _;rfl):PS X (.For tg iter body [] pos) (Cm wi g tb):=by
 intro pins s σ H D I h
 refine wpAny_For (thn (hi pins s σ H _ I h) λv s1 h1=>thn h1 λitv s2 h2=>?_) hs
 obtain⟨it,fp,tn,J,H2,e,I2,T,st2,f2,W,⟨m0,w0⟩,turn⟩:=h2
 subst e
 -- what stays true of the iterator's objects through the loop
 have stat:∀ {H':Hp},(∀ b ∈ fp,H' b=none)->∀ b ∈ fp,j6 X pins H' b:=λhn b hb=>⟨hn b hb,(f2 b hb).2⟩
 refine codeAny_forLoop_any (λn s'=>∃ i σ' H',Inv X pins σ' H' s'/\tn i s'.heap/\(∀ b ∈ fp,H' b=none)/\W i n σ' H') ?_ m0 ⟨0,σ,H2,I2,st2,λb hb=>(f2 b hb).1,w0⟩
 rintro n s3 ⟨i,σ3,H3,I3,st3,fr3,w3⟩
 rcases turn i n σ3 H3 w3 with⟨stop,qn⟩ | ⟨go,N,hN,step⟩
 ·refine wpAny_passesOwn hp (thn (T.done X rfl rfl rfl hc i pins s3 σ3 H3 X.xe I3 (stat fr3) st3 stop) λr s4 ⟨hr,I4⟩=>?_)
  subst hr
  exact wpAny_execs_nil ⟨σ3,H3,I4,qn⟩
 ·refine wpAny_passesOwn hp (thn (T.item X rfl rfl rfl hc i pins s3 σ3 H3 X.xe I3 (stat fr3) st3 go) λr s4 ⟨u,hr,h4⟩=>?_)
  subst hr
  refine wpAny_passesOwn hp (thn h4 λ_ s5 ⟨x,H5,I5,r5,y5,st5,fr5⟩=>?_)
  have I5':=I5.pinned (stat fr5) (T.obj _ _ st5)
  refine wpAny_passesOwn hp (thn (hg _ s5 σ3 H5 x u _ I5' r5 (step x H5 y5)) λ_ s6 ⟨σ6,H6,I6,q6⟩=>?_)
  refine wpAny_passesOwn hp (thn (hb _ s6 σ6 H6 _ I6 q6) λf s7 q7=>?_)
  have again:∀ {σ7:St}{H7:Hp},Inv X (pins++lF fp s5.heap) σ7 H7 s7->N σ7 H7->∃ m,m < n/\∃ i σ' H',Inv X pins σ' H' s7/\tn i s7.heap/\(∀ b ∈ fp,H' b=none)/\W i m σ' H':=λ{σ7 H7} I7 n7=>by
   obtain⟨m',hm,w7⟩:=hN σ7 H7 n7
   refine⟨m',hm,i+1,σ7,H7,I7.unpinned,T.keep _ _ _ st5 λb hb o e=>(I7.pin (b,o) (List.mem_append_right _ (List.mem_append_right _ (eF hb e)))).1,λb hb=>?_,w7⟩
   obtain⟨o,e,d⟩:=T.obj _ _ st5 b hb
   exact (I7.pin (b,o) (List.mem_append_right _ (List.mem_append_right _ (eF hb e)))).2.1
  cases f with
  | next=>obtain⟨σ7,H7,I7,n7⟩:=q7;exact again I7 n7
  | cont=>obtain⟨σ7,H7,I7,n7⟩:=q7;exact again I7 n7
  | brk=>obtain⟨σ7,H7,I7,q7⟩:=q7;exact⟨σ7,H7,I7.unpinned,q7⟩
  | ret v=>obtain⟨x7,σ7,H7,I7,r7,q7⟩:=q7;exact⟨x7,σ7,H7,I7.unpinned,r7,q7⟩
end
end L2
namespace L2
open PySem PySem.Spec PyProof.Rows
abbrev R2:=V->V->Hp->VK->Prop
noncomputable def OpR (X:Cx) (f:Value->Value->Sem Value) (r:R2):Prop:=
 ∀ (pins:List (Addr×Obj)) (s:Shared) (σ:St) (H:Hp) (x y:V) (v u:Value) (Q:VK),Inv X pins σ H s->bJ x v->bJ y u->r x y H Q->
  wpAny (model X.prog X.w) X.A (f v u) (EP X pins σ Q) X.xe s
noncomputable def UnR (X:Cx) (f:Value->Sem Value) (r:V->Hp->VK->Prop):Prop:=
 ∀ (pins:List (Addr×Obj)) (s:Shared) (σ:St) (H:Hp) (x:V) (v:Value) (Q:VK),Inv X pins σ H s->bJ x v->r x H Q->
  wpAny (model X.prog X.w) X.A (f v) (EP X pins σ Q) X.xe s
noncomputable def dw (X:Cx) (f:Value) (r:List V->Hp->VK->Prop):Prop:=
 ∀ (pins:List (Addr×Obj)) (s:Shared) (σ:St) (H:Hp) (xs:List V) (us:List Value) (Q:VK),Inv X pins σ H s->aV xs us->r xs H Q->
  wpAny (model X.prog X.w) X.A (call f us) (EP X pins σ Q) X.xe s
noncomputable def BV (X:Cx) (r:V->Hp->(Bool->Hp->Prop)->Prop):Prop:=
 ∀ (pins:List (Addr×Obj)) (s:Shared) (σ:St) (H:Hp) (x:V) (v:Value) (Q:Bool->Hp->Prop),Inv X pins σ H s->bJ x v->r x H Q->
  wpAny (model X.prog X.w) X.A (truthy v) (TP X pins σ Q) X.xe s
noncomputable def tOp (r:R2) (ta tb:TE):TE:=λσ H Q=>ta σ H λx H1=>tb σ H1 λy H2=>r x y H2 Q
noncomputable def tUn (r:V->Hp->VK->Prop) (ta:TE):TE:=λσ H Q=>ta σ H λx H1=>r x H1 Q
noncomputable def rI (C:Int->Int->Prop) (g:Int->Int->V):R2:=λx y H Q=>∃ i j,x=.int i/\y=.int j/\C i j/\Q (g i j) H
noncomputable def rI0 (g:Int->Int->V):R2:=λx y H Q=>∃ i j,x=.int i/\y=.int j/\Q (g i j) H
noncomputable def rU (g:Int->V):V->Hp->VK->Prop:=λx H Q=>∃ i,x=.int i/\Q (g i) H
section
variable {X:Cx}{a b c:Expr}{ta tb tc:TE}{pos:Pos}
theorem zb (ha:PE X a ta) (hb:PE X b tb) {pins:List (Addr×Obj)}{s:Shared}{σ:St}{H:Hp}{R:V->V->Hp->Prop} (I:Inv X pins σ H s)
  (h:ta σ H λx H1=>tb σ H1 λy H2=>R x y H2) {Q:Value->Shared->Prop}{f:Value->Value->Sem Value}
  (hf:∀ v u s2 x y H2,Inv X pins σ H2 s2->bJ x v->bJ y u->R x y H2->wpAny (model X.prog X.w) X.A (f v u) Q X.xe s2) :
  wpAny (model X.prog X.w) X.A (eval a X.env) (λv s₁=>wpAny (model X.prog X.w) X.A (eval b X.env) (λu s₂=>wpAny (model X.prog X.w) X.A (f v u) Q X.xe s₂) X.xe s₁) X.xe s:=by
 refine thn (ha pins s σ H _ I h) λv s1 ⟨x,H1,I1,r1,q1⟩=>?_
 refine thn (hb pins s1 σ H1 _ I1 q1) λu s2 ⟨y,H2,I2,r2,q2⟩=>?_
 exact hf v u s2 x y H2 I2 r1 r2 q2
theorem yQ {op:Operator}{r:R2} (ho:OpR X (binaryOp op) r) (ha:PE X a ta) (hb:PE X b tb):PE X (.BinOp a op b pos) (tOp r ta tb):=by
 intro pins s σ H Q I h
 exact wpAny_BinOp (zb ha hb I h λv u s2 x y H2 I2 rx ry q=>ho pins s2 σ H2 x y v u Q I2 rx ry q)
theorem AS {op:UnaryOp}{r:V->Hp->VK->Prop} (ho:UnR X (unaryOp op) r) (ha:PE X a ta):PE X (.UnaryOp op a pos) (tUn r ta):=by
 intro pins s σ H Q I h
 exact UnaryOp_ (thn (ha pins s σ H _ I h) λv s1 ⟨x,H1,I1,r1,q1⟩=>ho pins s1 σ H1 x v Q I1 r1 q1)
theorem opI {f:Value->Value->Sem Value}{C:Int->Int->Prop}{g:Int->Int->Int}
  (rule:∀ (i j:Int) (t u:Tok) (s:Shared) (Q:Value->Shared->Prop) (E:Value->Shared->Prop),C i j->Q (.int (g i j) s.toks) { s with toks:=s.toks+1 }->wpAny (model X.prog X.w) X.A (f (.int i t) (.int j u)) Q E s) :
  OpR X f (rI C λi j=>.int (g i j)):=by
 intro pins s σ H x y v u Q I rx ry h
 obtain⟨i,j,rfl,rfl,hc,q⟩:=h
 obtain⟨t,rfl⟩:=rx
 obtain⟨t',rfl⟩:=ry
 exact rule i j t t' s _ _ hc ⟨.int (g i j),H,I.tok _,⟨_,rfl⟩,q⟩
theorem Bi {f:Value->Value->Sem Value}{g:Int->Int->Int}
  (rule:∀ (i j:Int) (t u:Tok) (s:Shared) (Q:Value->Shared->Prop) (E:Value->Shared->Prop),Q (.int (g i j) s.toks) { s with toks:=s.toks+1 }->wpAny (model X.prog X.w) X.A (f (.int i t) (.int j u)) Q E s) :
  OpR X f (rI0 λi j=>.int (g i j)):=by
 intro pins s σ H x y v u Q I rx ry h
 obtain⟨i,j,rfl,rfl,q⟩:=h
 obtain⟨t,rfl⟩:=rx
 obtain⟨t',rfl⟩:=ry
 exact rule i j t t' s _ _ ⟨.int (g i j),H,I.tok _,⟨_,rfl⟩,q⟩
theorem yn {f:Value->Value->Sem Value}{g:Int->Int->Bool}
  (rule:∀ (i j:Int) (t u:Tok) (s:Shared) (Q:Value->Shared->Prop) (E:Value->Shared->Prop),Q (.bool (g i j)) s->wpAny (model X.prog X.w) X.A (f (.int i t) (.int j u)) Q E s) :
  OpR X f (rI0 λi j=>.bl (g i j)):=by
 intro pins s σ H x y v u Q I rx ry h
 obtain⟨i,j,rfl,rfl,q⟩:=h
 obtain⟨t,rfl⟩:=rx
 obtain⟨t',rfl⟩:=ry
 exact rule i j t t' s _ _ ⟨.bl (g i j),H,I,rfl,q⟩
noncomputable def B1 (i j:Int):Prop:=0 < j/\j < 1073741824
noncomputable def re (i j:Int):Prop:=0<=j/\j<=1000000/\i.natAbs < 2 ^ 64
noncomputable def x8 (i j:Int):Prop:=(-(2 ^ 64) < i/\i < 2 ^ 64)\/(-(2 ^ 64) < j/\j < 2 ^ 64)
theorem x8.ok {i j:Int} (h:x8 i j):IntMulOk i j:=by
 rcases h with⟨h1,h2⟩ | ⟨h1,h2⟩
 ·exact .of_left (intBits_le_64 h1 h2)
 ·exact .of_right (intBits_le_64 h1 h2)
theorem zu:OpR X (binaryOp .Add) (rI0 λi j=>.int (i+j)):=Bi λ_ _ _ _ _ _ _ q=>add_int q
theorem An:OpR X (binaryOp .Sub) (rI0 λi j=>.int (i - j)):=Bi λ_ _ _ _ _ _ _ q=>sub_int q
theorem xw:OpR X (binaryOp .FloorDiv) (rI B1 λi j=>.int (i / j)):=opI λi j _ _ _ _ _ hc q=>by
 have h1:(0:Int) < j:=hc.1
 have h2:j < 1073741824:=hc.2
 exact floordiv_int (by lia) (by rw [Int.fdiv_eq_ediv_of_nonneg i (by lia)];exact q) (.inl (PyProof.noPylong_small (by lia)))
theorem Ai:OpR X (binaryOp .Mod) (rI (λ_ j=>0 < j) λi j=>.int (i % j)):=opI λi j _ _ _ _ _ hc q=>by
 have h1:(0:Int) < j:=hc
 exact mod_int' (by lia) (by rw [Int.fmod_eq_emod_of_nonneg i (by lia)];exact q)
theorem zB:OpR X (binaryOp .Pow) (rI re λi j=>.int (i ^ j.toNat)):=opI λ_ _ _ _ _ _ _ hc q=>pow_int_small hc.1 hc.2.1 hc.2.2 q
theorem unI {f:Value->Sem Value}{g:Int->Int}
  (rule:∀ (i:Int) (t:Tok) (s:Shared) (Q:Value->Shared->Prop) (E:Value->Shared->Prop),Q (.int (g i) s.toks) { s with toks:=s.toks+1 }->wpAny (model X.prog X.w) X.A (f (.int i t)) Q E s) :
  UnR X f (rU λi=>.int (g i)):=by
 intro pins s σ H x v Q I rx h
 obtain⟨i,rfl,q⟩:=h
 obtain⟨t,rfl⟩:=rx
 exact rule i t s _ _ ⟨.int (g i),H,I.tok _,⟨_,rfl⟩,q⟩
theorem zG:UnR X (unaryOp .USub) (rU λi=>.int (-i)):=unI λ_ _ _ _ _ q=>neg_int q
end
section
variable {X:Cx}{a b c:Expr}{ta tb tc:TE}{pos:Pos}
theorem tU {pins:List (Addr×Obj)}{σ:St}{H:Hp}{s:Shared}{Q:VK}{k k':Bool} (I:Inv X pins σ H s) (q:Q (.bl k) H) (e:k=k'):EP X pins σ Q (.bool k') s:=by
 subst e
 exact⟨.bl k,H,I,rfl,q⟩
theorem BR:OpR X (compareOp .Lt) (rI0 λi j=>.bl (decide (i < j))):=yn λ_ _ _ _ _ _ _ q=>lt_int q
theorem AL:OpR X (compareOp .LtE) (rI0 λi j=>.bl (decide (i<=j))):=yn λ_ _ _ _ _ _ _ q=>le_int q
theorem BO:OpR X (compareOp .Gt) (rI0 λi j=>.bl (decide (j < i))):=yn λ_ _ _ _ _ _ _ q=>gt_int q
theorem AO:OpR X (compareOp .GtE) (rI0 λi j=>.bl (decide (j<=i))):=yn λ_ _ _ _ _ _ _ q=>ge_int q
theorem zg:OpR X (compareOp .Is) (λx y H Q=>y=.non/\Q (.bl (decide (x=.non))) H):=by
 intro pins s σ H x y v u Q I rx ry h
 obtain⟨rfl,q⟩:=h
 cases ry
 refine is_none_gen (tU I q ?_)
 cases x<;>first
  | (cases rx;rfl)
  | (obtain⟨t,rfl⟩:=rx;rfl)
theorem xJ:OpR X (compareOp .IsNot) (λx y H Q=>y=.non/\Q (.bl (!decide (x=.non))) H):=by
 intro pins s σ H x y v u Q I rx ry h
 obtain⟨rfl,q⟩:=h
 cases ry
 refine isnot_none_gen (tU I q ?_)
 cases x<;>first
  | (cases rx;rfl)
  | (obtain⟨t,rfl⟩:=rx;rfl)
theorem aO (b:Expr) {op:CmpOp} (h:op≠.In:=by decide) (h2:op≠.NotIn:=by decide):behindInMarks op b=false:=by
 have e1:(op==CmpOp.In)=false:=by cases op<;>first | rfl | exact absurd rfl h
 have e2:(op==CmpOp.NotIn)=false:=by cases op<;>first | rfl | exact absurd rfl h2
 cases b<;>simp [behindInMarks,e1,e2]
theorem yf {op:CmpOp}{r:R2} (ho:OpR X (compareOp op) r) (ha:PE X a ta) (hb:PE X b tb) (hm:behindInMarks op b=false):PE X (.Compare a [op] [b] pos) (tOp r ta tb):=by
 intro pins s σ H Q I h
 exact wpAny_Compare1 (zb ha hb I h λv u s2 x y H2 I2 rx ry q=>ho pins s2 σ H2 x y v u Q I2 rx ry q) hm
noncomputable def BM (t:TE):TT:=λσ H Q=>t σ H λx H'=>∃ k,x=.bl k/\Q k H'
theorem x4 {op:CmpOp}{r:R2} (ho:OpR X (compareOp op) r) (ha:PE X a ta) (hb:PE X b tb) (hm:behindInMarks op b=false):PT X (.Compare a [op] [b] pos) (BM (tOp r ta tb)):=by
 intro pins s σ H Q I h
 refine wpAny_isTrue_Compare1 (thn (ha pins s σ H _ I h) λv s1 ⟨x,H1,I1,r1,q1⟩=>thn (hb pins s1 σ H1 _ I1 q1) λu s2 ⟨y,H2,I2,r2,q2⟩=>
  thn (ho pins s2 σ H2 x y v u _ I2 r1 r2 q2) λc s3 ⟨z,H3,I3,r3,k,e,q3⟩=>?_) hm
 subst e
 cases r3
 exact wpAny_truthy_bool ⟨H3,I3,q3⟩
noncomputable def yG (K:PySem.W.Frag) (x:V) (H:Hp) (k:Bool):Prop:=
 match x with
 | .non=>k=false
 | .bl b=>k=b
 | .int i=>k=(i != 0)
 | .str y=>y.length<=sizeLine/\k=((y.length:Int) != 0)
 | .byt y=>y.size<=sizeLine/\k=((y.size:Int) != 0)
 | .ref p=>(∃ xs,SqL K H p xs/\k=!xs.isEmpty)\/(∃ xs,SqT K H p xs/\k=!xs.isEmpty)\/∃ kvs,H p=some (.dK kvs)/\k=!kvs.isEmpty
 | _=>False
theorem tQ {κ:Type}{kvs:List (κ×V)}{vs:List (κ×Value)} (r:KV kvs vs):(!vs.isEmpty)=!kvs.isEmpty:=by
 cases r<;>rfl
theorem mX {xs:List V}{its:List Value} (r:aV xs its):(!its.toArray.isEmpty)=!xs.isEmpty:=by
 cases r<;>simp
theorem kt:(sizeLine:Nat) < 2 ^ 63:=by rw [sizeLine_eq];decide
theorem Aj:BV X (λx H Q=>∃ k,yG X.K x H k/\Q k H):=by
 intro pins s σ H x v Q I rx h
 obtain⟨k,e,q⟩:=h
 have hl:=kt
 have hs:sizeLine=16777216:=sizeLine_eq
 cases x with
 | non=>
  cases rx
  have e':k=false:=e
  subst e'
  exact truthy_none ⟨H,I,q⟩
 | bl b=>
  cases rx
  have e':k=b:=e
  subst e'
  exact wpAny_truthy_bool ⟨H,I,q⟩
 | int i=>
  obtain⟨t,rfl⟩:=rx
  have e':k=(i != 0):=e
  subst e'
  exact PySem.P.truthy_int ⟨H,I,q⟩
 | str y=>
  obtain⟨t,rfl⟩:=rx
  obtain⟨hy,e'⟩:y.length<=sizeLine/\k=((y.length:Int) != 0):=e
  subst e'
  exact PySem.P.truthy_str (by lia) ⟨H,I.tok _,q⟩
 | byt y=>
  obtain⟨t,rfl⟩:=rx
  obtain⟨hy,e'⟩:y.size<=sizeLine/\k=((y.size:Int) != 0):=e
  subst e'
  exact PySem.W.truthy_bytes (by lia) ⟨H,I.tok _,q⟩
 | ref p=>
  cases rx
  have e':(∃ xs,SqL X.K H p xs/\k=!xs.isEmpty)\/(∃ xs,SqT X.K H p xs/\k=!xs.isEmpty)\/∃ kvs,H p=some (.dK kvs)/\k=!kvs.isEmpty:=e
  rcases e' with⟨xs,hx,e'⟩ | ⟨xs,hx,e'⟩ | ⟨kvs,hx,e'⟩
  ·subst e'
   obtain⟨its,r,pl,hz⟩:=I.list hx
   have hlen:=r.length
   exact wpAny_truthy_list pl.isList (by simp only [List.size_toArray];lia) ⟨H,I.tok _,by rw [mX r];exact q⟩
  ·subst e'
   obtain⟨its,r,pl,hz⟩:=I.tuple hx
   have hlen:=r.length
   exact truthy_tuple pl (by simp only [List.size_toArray];lia) ⟨H,I.tok _,by rw [mX r];exact q⟩
  ·subst e'
   obtain⟨hz,hS,vs,r,m⟩:kvs.length<=sizeLine/\(p==sysModules)=false/\∃ vs,KV kvs vs/\s.heap.DictOf (qk X.prog X.w) p vs:=I.hok p _ hx
   have hlen:kvs.length=vs.length:=Paired.length r
   exact wpAny_truthy_dict hS m (by lia) ⟨H,I.tok _,by rw [tQ r];exact q⟩
 | _=>exact (show False from e).elim
theorem vI (ha:PE X a ta) (he:∀ whole,isTrue a X.env whole=(do let v <-whole;standAt a.pos;holding [v] (truthy v))) :
  PT X a (λσ H Q=>ta σ H λx H'=>∃ k,yG X.K x H' k/\Q k H'):=by
 intro pins s σ H Q I h
 exact isTrue_plain (thn (ha pins s σ H _ I h) λv s1 ⟨x,H1,I1,r1,q1⟩=>Aj pins s1 σ H1 x v Q I1 r1 q1) (he _)
theorem sW:OpR X (binaryOp .Add) (λx y H Q=>∃ i j,x=.str i/\y=.str j/\i.length+j.length<=sizeLine/\Q (.str (i++j)) H):=by
 intro pins s σ H x y v u Q I rx ry h
 obtain⟨i,j,rfl,rfl,hz,q⟩:=h
 obtain⟨t,rfl⟩:=rx
 obtain⟨t',rfl⟩:=ry
 exact add_str (λt' tk=>⟨.str (i++j),H,I.tok _,⟨_,rfl⟩,q⟩) hz
theorem mL {x:V}{us:List Value} (r:aV [x] us):∃ u,us=[u]/\bJ x u:=by
 cases r with
 | cons r1 r2=>cases r2;exact⟨_,rfl,r1⟩
theorem AX {x y:V}{us:List Value} (r:aV [x,y] us):∃ u w',us=[u,w']/\bJ x u/\bJ y w':=by
 cases r with
 | cons r1 r2=>
  cases r2 with
  | cons r3 r4=>cases r4;exact⟨_,_,rfl,r1,r3⟩
theorem xm:dw X (.builtin "abs") (λxs H Q=>∃ i,xs=[.int i]/\Q (.int (if i < 0 then -i else i)) H):=by
 intro pins s σ H xs us Q I r h
 obtain⟨i,rfl,q⟩:=h
 obtain⟨u,rfl,t,rfl⟩:=mL r
 exact call_abs_int λu tk=>⟨.int (if i < 0 then -i else i),H,I.tok _,⟨_,rfl⟩,q⟩
theorem vA (hc:X.calm=true):dw X (.builtin "min") (λxs H Q=>∃ i j,xs=[.int i,.int j]/\Q (.int (if j < i then j else i)) H):=by
 intro pins s σ H xs us Q I r h
 obtain⟨i,j,rfl,q⟩:=h
 obtain⟨u,w',rfl,⟨t,rfl⟩,⟨t',rfl⟩⟩:=AX r
 refine min_two_ints (I.ok.hd hc) λh' tk k=>⟨_,H,I.kept k,?_,q⟩
 by_cases hj:j < i
 ·rw [if_pos hj,if_pos hj];exact⟨_,rfl⟩
 ·rw [if_neg hj,if_neg hj];exact⟨_,rfl⟩
theorem oO:dw X (.type "int") (λxs H Q=>(∃ i,xs=[.int i]/\Q (.int i) H)\/∃ k,xs=[.bl k]/\Q (.int (if k then 1 else 0)) H):=by
 intro pins s σ H xs us Q I r h
 rcases h with⟨i,rfl,q⟩ | ⟨k,rfl,q⟩
 ·obtain⟨u,rfl,t,rfl⟩:=mL r
  exact call_int_int ⟨.int i,H,I,⟨_,rfl⟩,q⟩
 ·obtain⟨u,rfl,r1⟩:=mL r
  cases r1
  exact call_int_bool ⟨.int (if k then 1 else 0),H,I.tok _,⟨_,rfl⟩,q⟩
end
end L2
namespace L2
open PySem PySem.Spec PyProof.Rows
structure vz (h:Heap) (x dx C:Addr) (mA:Str->Option Value):Prop where
 obj:h.get? x=some (PySem.W.instObj C dx)
 ns:h.Ns1 dx mA
 ne:dx≠x
theorem vn {h:Heap}{dx:Addr}{mA:Str->Option Value} (n:h.Ns1 dx mA):∃ od,h.get? dx=some od/\∀ name,PySem.W.lookIn name od=some (mA name):=by
 obtain⟨o,es,ep,ho,hd,hk,_,hm⟩:=n
 refine⟨o,ho,λname=>?_⟩
 have e:=hm name
 unfold nsFind findBy at e
 rw [<-Array.find?_toList] at e
 unfold PySem.W.lookIn
 rw [hd]
 dsimp only
 split
 ·rename_i y q
  rw [q] at e
  exact congrArg some e
 ·rename_i q
  rw [q] at e
  have a:es.toList.any (·.refKey)=false:=by
   rw [List.any_eq_false]
   intro y hy
   obtain⟨z,t,hkey⟩:=hk y (Array.mem_toList_iff.mp hy)
   simp [DictEntry.refKey,hkey]
  have a':¬ es.toList.any (·.refKey)=true:=by rw [a];exact Bool.false_ne_true
  rw [if_neg a']
  exact congrArg some e
theorem vz.look {h:Heap}{x dx C:Addr}{mA:Str->Option Value} (I:vz h x dx C mA):∃ od,PySem.W.InstAt h x (PySem.W.instObj C dx) C (some od)/\∀ name,PySem.W.lookIn name od=some (mA name):=
 let ⟨od,ho,hl⟩:=vn I.ns
 ⟨od,⟨I.obj,rfl,rfl,ho⟩,hl⟩
section
variable {prog:Program}{w:World}{A:Around}{E:Value->Shared->Prop}{s:Shared}{K:PySem.W.Frag}{x dx C f:Addr}{mA:Str->Option Value}{name:Str}{v:Value}
theorem yc {expr:Bool}{Q:Value->Shared->Prop} (X:K.In s.heap) (I:vz s.heap x dx C mA) (hg:PySem.W.plainGet K C name=true) (hh:PySem.W.hasDictIn K C=true)
  (ha:PySem.W.findIn K (.ref C) name=some none) (hv:mA name=some v) (hv':PySem.W.handedIn v=true) (h:Q v { s with toks:=s.toks+1 }) :
  wpAny (model prog w) A (getAttr (.ref x) name expr) Q E s:=by
 obtain⟨od,J,hl⟩:=I.look
 exact PySem.W.get_value X J (PySem.W.plainGet_of hg).1 (PySem.W.findObj_own hh ha rfl (by rw [hl,hv])) hv' h
theorem x3 {ns:List Str}{Q:Unit->Shared->Prop} (X:K.In s.heap) (I:vz s.heap x dx C mA)
  (hs:PySem.W.findIn K (.ref C) "__setattr__" = some (some (.builtin "object.__setattr__"))) (hp:PySem.W.plainOver K C=true) (ht:PySem.W.takerIn K C name=some none) (hh:PySem.W.hasDictIn K C=true)
  (hw:PySem.Within mA ns) (hsz:ns.length<=sizeLine)
  (h:∀ h',vz h' x dx C (λy=>if y=name then some v else mA y)->Heap.SameBut dx s.heap h'->Q () { s with heap:=h',toks:=s.toks+2 }) :
  wpAny (model prog w) A (setAttr (.ref x) name v) Q E s:=by
 obtain⟨od,J,hl⟩:=I.look
 refine PySem.W.set_plain X J hs (PySem.W.osa_open (s:={ s with toks:=s.toks+1 }) (r:=none) X J hp ht λb=>?_)
 obtain⟨cd,hc,hd'⟩:=PySem.W.any_some hh
 have hx:s.heap.get? x=some ⟨.ref C,some dx,.plain,#[]⟩:=I.obj
 refine wpAny_bind (wpAny_pure (wpAny_bind (wpAny_bind (wpAny_loadPart hx (wpAny_bind (PySem.W.Looks.here (s:={ s with toks:=s.toks+1 }) (PySem.W.looks_clsIn X hc) ?_))))))
 rw [hd']
 refine wpAny_pure (a:=some dx) (wpAny_bind (wpAny_pure (wpAny_bind ?_)))
 refine wpAny_nsSet1 (s:={ s with toks:=s.toks+1 }) I.ns λh' hn2 hs2=>?_
 obtain⟨oD,esD,epD,hoD,hdD,hcD⟩:=hn2.count (PySem.Within.cons name v hw)
 refine wpAny_bind (wpAny_lookBehind hoD (by rw [hdD];exact pastItsLine_dict (Nat.le_trans hcD (by rw [List.length_cons];lia))) ?_)
 exact wpAny_pure (h _ ⟨(hs2.2 _ (Ne.symm I.ne)).trans I.obj,hn2,I.ne⟩ hs2)
theorem wA {R:Result->Shared->Prop}{vs:List Value}{kw:List (Str×Value)} (X:K.In s.heap) (hm:PySem.W.makesIn K C=true)
  (hi:PySem.W.findIn K (.ref C) "__init__" = some (some (.ref f))) (hf:PySem.W.typeIn K (.ref f)=some (.type "function"))
  (h:codeAny (model prog w) (A.under (.builtin "type.__call__" ⟨.ref C::vs,kw⟩)) (.call (.ref f) ⟨.ref (s.heap.objs.size+1)::vs,kw⟩) (PySem.W.InitBack (s.heap.objs.size+1) R)
    { s with heap:=(s.heap.push PySem.W.emptyDict).push (PySem.W.instObj C s.heap.objs.size) }) :
  codeAny (model prog w) A (.call (.ref C) ⟨vs,kw⟩) R s:=by
 obtain⟨hh,g,d,t,os⟩:=s
 exact PySem.W.make_core (PySem.W.makes_of X hm) (PySem.W.looks_findIn X hi) (λself=>PySem.W.bind_fn X self hf) (.inl rfl) h
end
noncomputable def ix (f:Str) (v:V):List (Str×V)->List (Str×V)
 | []=>[(f,v)]
 | (g,x)::r=>if g=f then (g,v)::r else (g,x)::ix f v r
theorem lM (f g:Str) (v:V):∀ fs:List (Str×V),(ix f v fs).lookup g=if g=f then some v else fs.lookup g
 | []=>by
  show List.lookup g [(f,v)]=_
  by_cases h:g=f
  ·have hb:(g==f)=true:=beq_iff_eq.mpr h
   simp only [List.lookup,hb,if_pos h]
  ·have hb:(g==f)=false:=beq_eq_false_iff_ne.mpr h
   simp only [List.lookup,hb,if_neg h]
 | (k,x)::r=>by
  have ih:=lM f g v r
  rw [show ix f v ((k,x)::r)=(if k=f then (k,v)::r else (k,x)::ix f v r) from rfl]
  by_cases hk:k=f
  ·rw [if_pos hk]
   by_cases h:g=k
   ·have hb:(g==k)=true:=beq_iff_eq.mpr h
    simp only [List.lookup,hb,if_pos (h.trans hk)]
   ·have hb:(g==k)=false:=beq_eq_false_iff_ne.mpr h
    simp only [List.lookup,hb,if_neg (λe:g=f=>h (e.trans hk.symm))]
  ·rw [if_neg hk]
   by_cases h:g=k
   ·have hb:(g==k)=true:=beq_iff_eq.mpr h
    simp only [List.lookup,hb,if_neg (λe:g=f=>hk (h.symm.trans e))]
   ·have hb:(g==k)=false:=beq_eq_false_iff_ne.mpr h
    simp only [List.lookup,hb]
    exact ih
theorem lB (f:Str) (v:V):∀ fs:List (Str×V),f ∈ (ix f v fs).map (·.1)/\∀ g,g ∈ fs.map (·.1)->g ∈ (ix f v fs).map (·.1)
 | []=>⟨by simp [ix],λg h=>by simp at h⟩
 | (k,x)::r=>by
  obtain⟨i1,i2⟩:=lB f v r
  rw [show ix f v ((k,x)::r)=(if k=f then (k,v)::r else (k,x)::ix f v r) from rfl]
  by_cases hk:k=f
  ·rw [if_pos hk]
   subst hk
   exact⟨by simp,λg h=>by simpa using h⟩
  ·rw [if_neg hk]
   refine⟨?_,λg h=>?_⟩
   ·rw [List.map_cons]
    exact List.mem_cons_of_mem _ i1
   ·rw [List.map_cons] at h ⊢
    rcases List.mem_cons.mp h with e | e
    ·exact List.mem_cons.mpr (.inl e)
    ·exact List.mem_cons_of_mem _ (i2 g e)
theorem lX (f:Str) (v:V):∀ fs:List (Str×V),(ix f v fs).length<=fs.length+1
 | []=>by simp [ix]
 | (k,x)::r=>by
  have ih:=lX f v r
  rw [show ix f v ((k,x)::r)=(if k=f then (k,v)::r else (k,x)::ix f v r) from rfl]
  by_cases hk:k=f
  ·rw [if_pos hk,List.length_cons,List.length_cons];lia
  ·rw [if_neg hk,List.length_cons,List.length_cons];lia
theorem sX.some_of {v:V}{o:Option Value} (r:sX (some v) o):∃ u,o=some u/\bJ v u:=by
 cases o with
 | none=>exact (show False from r).elim
 | some u=>exact⟨u,rfl,r⟩
theorem vj {v:V}{u:Value} (r:bJ v u):PySem.W.handedIn u=true:=by
 cases v with
 | non=>cases (show u=Value.none from r);rfl
 | bl b=>cases (show u=Value.bool b from r);rfl
 | int i=>obtain⟨t,e⟩:=(show ∃ t,u=Value.int i t from r);cases e;rfl
 | str x=>obtain⟨t,e⟩:=(show ∃ t,u=Value.str x t from r);cases e;rfl
 | byt b=>obtain⟨t,e⟩:=(show ∃ t,u=Value.bytes b t from r);cases e;rfl
 | flt b=>obtain⟨t,e⟩:=(show ∃ t,u=Value.float b t from r);cases e;rfl
 | ref a=>cases (show u=Value.ref a from r);rfl
 | ty n=>cases (show u=Value.type n from r);rfl
section
variable {P:Program}{w:World}{H H':Hp}{h h':Heap}{a C dx:Addr}{fs fs':List (Str×V)}
theorem pB (hok:HOk P w H h) (e:H a=some (.ins C dx fs)):∃ mA,vz h a dx C mA/\(∀ f,sX (fs.lookup f) (mA f))/\PySem.Within mA (fs.map (·.1))/\fs.length<=1000/\H dx=some (.own a):=by
 obtain⟨d,z,ne,ob,mA,n,r,q⟩:=(show dB P w H h a (.ins C dx fs) from hok a _ e)
 exact⟨mA,⟨ob,n,ne⟩,r,q,z,d⟩
end
structure Cls (K:PySem.W.Frag) (C:Addr):Prop where
 pg:PySem.W.plainGet K C Str.empty=true
 hd:PySem.W.hasDictIn K C=true
 po:PySem.W.plainOver K C=true
 sa:PySem.W.findIn K (.ref C) "__setattr__" = some (some (.builtin "object.__setattr__"))
theorem Cls.get {K:PySem.W.Frag}{C:Addr} (c:Cls K C) (f:Str):PySem.W.plainGet K C f=true:=c.pg
noncomputable def d5 (K:PySem.W.Frag) (C:Addr) (f:Str):Prop:=PySem.W.findIn K (.ref C) f=some none
theorem d5.taker {K:PySem.W.Frag}{C:Addr}{f:Str} (n:d5 K C f):PySem.W.takerIn K C f=some none:=by
 unfold PySem.W.takerIn
 rw [show PySem.W.findIn K (.ref C) f=some none from n]
 rfl
section
variable {X:Cx}{pins:List (Addr×Obj)}{σ:St}{H:Hp}{s:Shared}{a C dx:Addr}{fs:List (Str×V)}{f:Str}{v:V}{A:Around}{E:Value->Shared->Prop}
theorem sj {b:Bool}{Q:Value->Shared->Prop} (I:Inv X pins σ H s) (e:H a=some (.ins C dx fs)) (c:Cls X.K C) (n:d5 X.K C f) (l:fs.lookup f=some v)
  (h:∀ u s',Inv X pins σ H s'->bJ v u->Q u s'):wpAny (model X.prog X.w) A (getAttr (.ref a) f b) Q E s:=by
 obtain⟨mA,O,r,_,_,_⟩:=pB I.hok e
 obtain⟨u,hu,ru⟩:=sX.some_of (v:=v) (o:=mA f) (by rw [<-l];exact r f)
 exact yc I.kIn O (c.get f) c.hd n hu (vj ru) (h u _ (I.tok _) ru)
theorem sU {y:V}{u:Value}{Q:Unit->Shared->Prop} (I:Inv X pins σ H s) (e:H a=some (.ins C dx fs)) (c:Cls X.K C) (n:d5 X.K C f) (hl:fs.length < 1000) (ry:bJ y u)
  (h:∀ s',Inv X pins σ (upd H a (.ins C dx (ix f y fs))) s'->Q () s'):wpAny (model X.prog X.w) A (setAttr (.ref a) f u) Q E s:=by
 obtain⟨mA,O,r,wi,_,ho⟩:=pB I.hok e
 have hz:(fs.map (·.1)).length<=sizeLine:=by rw [List.length_map,sizeLine_eq];lia
 refine x3 I.kIn O c.sa c.po n.taker c.hd wi hz λh' O' sb=>h _ ?_
 have hd:∃ o,h'.get? dx=some o:=let ⟨o,_,_,e',_⟩:=O'.ns;⟨o,e'⟩
 refine I.write (x:=a) (e:=dx) (by rw [e];exact True.intro) (.inr ho) (λb q hb z=>(sb.2 b hb).trans z) hd ?_
 refine⟨by rw [upd_ne O.ne];exact ho,?_,O.ne,O'.obj,_,O'.ns,λg=>?_,λg hg=>?_⟩
 ·have:=lX f y fs;lia
 ·show sX ((ix f y fs).lookup g) (if g=f then some u else mA g)
  rw [lM]
  by_cases q:g=f
  ·rw [if_pos q,if_pos q];exact ry
  ·rw [if_neg q,if_neg q];exact r g
 ·by_cases q:g=f
  ·rw [q];exact (lB f y fs).1
  ·refine (lB f y fs).2 g (wi g λz=>hg ?_)
   show (if g=f then some u else mA g)=none
   rw [if_neg q];exact z
theorem Inv.made (I:Inv X pins σ H s):Inv X pins σ (upd (upd H s.heap.objs.size (.own (s.heap.objs.size+1))) (s.heap.objs.size+1) (.ins C s.heap.objs.size []))
  { s with heap:=(s.heap.push PySem.W.emptyDict).push (PySem.W.instObj C s.heap.objs.size) }:=by
 have e1:(s.heap.push PySem.W.emptyDict).get? s.heap.objs.size=some PySem.W.emptyDict:=Heap.get?_push_size s.heap rfl
 have e2:((s.heap.push PySem.W.emptyDict).push (PySem.W.instObj C s.heap.objs.size)).get? (s.heap.objs.size+1)=some (PySem.W.instObj C s.heap.objs.size):=by
  have:=Heap.get?_push_size (s.heap.push PySem.W.emptyDict) (o:=PySem.W.instObj C s.heap.objs.size) rfl
  rwa [Heap.size_push] at this
 have e3:(s.heap.push PySem.W.emptyDict).Ns s.heap.objs.size (λ_=>none):=⟨PySem.W.emptyDict,#[],_,e1,rfl,(λe he=>absurd he (by simp)),λ_=>rfl⟩
 have I1:=I.laid (a:=s.heap.objs.size) (o:=.own (s.heap.objs.size+1)) (h':=s.heap.push PySem.W.emptyDict) (t':=s.toks) (λb u q=>Heap.get?_push_of_some _ q) (Nat.le_refl _) ⟨_,e1⟩
 refine I1.laid (a:=s.heap.objs.size+1) (o:=.ins C s.heap.objs.size []) (t':=s.toks) (λb u q=>Heap.get?_push_of_some _ q) (Nat.le_of_eq (Heap.size_push _ _)) ?_
 have ne:s.heap.objs.size≠s.heap.objs.size+1:=Nat.ne_of_lt (Nat.lt_succ_self _)
 refine⟨by rw [upd_ne ne,upd_same],Nat.zero_le _,ne,e2,λ_=>none,(Heap.Ns1.of_empty e3).at λo q=>Heap.get?_push_of_some _ q,λ_=>True.intro,λy hy=>absurd rfl hy⟩
theorem xI {prog:Program}{w:World}{env:Env}{e:Expr}{f:Str}{pos:Pos}{s:Shared}{Q:Value->Shared->Prop} (hb:attributeBase e f env (eval e env)=eval e env)
  (h:wpAny (model prog w) A (eval e env) (λo s₁=>wpAny (model prog w) A (getAttr o f true) Q E s₁) E s):wpAny (model prog w) A (eval (.Attribute e f pos) env) Q E s:=
 Attribute_any_ h (by rw [arm_eval_Attribute,hb])
end
noncomputable def Cq (K:PySem.W.Frag) (ta:TE) (f:Str):TE:=λσ H Q=>ta σ H λx H1=>∃ a C dx fs v,x=.ref a/\H1 a=some (.ins C dx fs)/\Cls K C/\d5 K C f/\fs.lookup f=some v/\Q v H1
noncomputable def B0 (K:PySem.W.Frag) (ta tv:TE) (f:Str):TS:=λD σ H=>tv σ H λy H1=>ta σ H1 λx H2=>∃ a C dx fs,x=.ref a/\H2 a=some (.ins C dx fs)/\Cls K C/\d5 K C f/\fs.length < 1000/\
 D.nx σ (upd H2 a (.ins C dx (ix f y fs)))
section
variable {X:Cx}{o e value:Expr}{f:Str}{pos pos' tpos:Pos}{ta tv:TE}
theorem z6 (he:PE X e ta) (hb:attributeBase e f X.env (eval e X.env)=eval e X.env):PE X (.Attribute e f pos) (Cq X.K ta f):=by
 intro pins s σ H Q I h
 refine xI hb (thn (he pins s σ H _ I h) λu s1 ⟨x,H1,I1,rx,a,C,dx,fs,v,ex,ea,c,n,l,q⟩=>?_)
 subst ex
 obtain rfl:u=Value.ref a:=rx
 exact sj I1 ea c n l λu' s2 I2 ru=>⟨v,H1,I2,ru,q⟩
theorem wE (ha:PE X o ta) (hv:PE X value tv) (hs:swapsWith value (some (.Attribute o f pos')) pos.line X.env=pure false):PS X (.Assign [.Attribute o f pos'] value pos) (B0 X.K ta tv f):=by
 intro pins s σ H D I h
 refine plainObj_wpAny_Assign_Attribute (thn (hv pins s σ H _ I h) λu s1 ⟨y,H1,I1,ry,q⟩=>thn (ha pins s1 σ H1 _ I1 q) λov s2 ⟨x,H2,I2,rx,a,C,dx,fs,ex,ea,c,n,l,q2⟩=>?_) hs
 subst ex
 obtain rfl:ov=Value.ref a:=rx
 exact sU I2 ea c n l ry λs3 I3=>⟨σ,_,I3,q2⟩
end
section
variable {X:Cx}{pins:List (Addr×Obj)}{σ:St}{H:Hp}{s:Shared}{A:Around}{E:Value->Shared->Prop}{Q:Value->Shared->Prop}{c:Value}{b:Bool}
inductive ms (K:PySem.W.Frag) (H:Hp):V->Value->Prop where
 | non:ms K H .non (.type "NoneType")
 | bl (x:Bool):ms K H (.bl x) (.type "bool")
 | int (i:Int):ms K H (.int i) (.type "int")
 | str (x:Str):ms K H (.str x) (.type "str")
 | flt (x:UInt64):ms K H (.flt x) (.type "float")
 | lst {a:Addr}{xs:List V} (e:H a=some (.lst xs)):ms K H (.ref a) (.type "list")
 | frz {a:Addr}{o:Obj}{xs:List V} (e:H a=some (.frz o (.lst xs))):ms K H (.ref a) (.type "list")
 | tup {a:Addr}{xs:List V} (e:H a=some (.tup xs)):ms K H (.ref a) (.type "tuple")
 | dK {a:Addr}{kvs:List (Key×V)} (e:H a=some (.dK kvs)):ms K H (.ref a) (.type "dict")
 | dT {a:Addr}{kvs:List (List Key×V)} (e:H a=some (.dT kvs)):ms K H (.ref a) (.type "dict")
 | ins {a C dx:Addr}{fs:List (Str×V)} (e:H a=some (.ins C dx fs)) (cl:Cls K C) (ha:PySem.W.findIn K (.ref C) "__class__" = some (some (.builtin "object.__class__")))
   (hn:PySem.W.specialIn K (.builtin "object.__class__") "__get__" = some (some (.builtin "getset_descriptor.__get__"))) (htk:PySem.W.takesIn K (.builtin "object.__class__")=some true)
   (hm:PySem.W.mroIn K C (.type "object")=some true):ms K H (.ref a) (.ref C)
theorem dQ {x:V}{u t:Value} (I:Inv X pins σ H s) (rx:bJ x u) (ty:ms X.K H x t) (e:PySem.W.kitOne X.K t c=some b) (h:∀ tk,Q (.bool b) { s with toks:=tk }) :
  wpAny (model X.prog X.w) A (call (.builtin "isinstance") [u,c]) Q E s:=by
 cases ty with
 | non=>cases (show u=Value.none from rx);exact PySem.W.kia_one PySem.W.kitx_none I.kIn True.intro e (λz=>nomatch z) h
 | bl y=>cases (show u=Value.bool y from rx);exact PySem.W.kia_one PySem.W.kitx_bool I.kIn True.intro e (λz=>nomatch z) h
 | int i=>obtain⟨t,q⟩:=(show ∃ t,u=Value.int i t from rx);cases q;exact PySem.W.kia_one PySem.W.kitx_int I.kIn True.intro e (λz=>nomatch z) h
 | str y=>obtain⟨t,q⟩:=(show ∃ t,u=Value.str y t from rx);cases q;exact PySem.W.kia_one PySem.W.kitx_str I.kIn True.intro e (λz=>nomatch z) h
 | flt y=>obtain⟨t,q⟩:=(show ∃ t,u=Value.float y t from rx);cases q;exact PySem.W.kia_one PySem.W.kitx_float I.kIn True.intro e (λz=>nomatch z) h
 | @lst a xs ea=>
  cases (show u=Value.ref a from rx)
  obtain⟨_,_,n,_,h1⟩:=(show dB X.prog X.w H s.heap a (.lst xs) from I.hok a _ ea)
  exact PySem.W.kia_one PySem.W.kitx_list I.kIn ⟨_,h1,rfl⟩ e (λz=>nomatch z) h
 | @frz a ob xs ea=>
  cases (show u=Value.ref a from rx)
  obtain⟨_,_,_,n,_,h1⟩:=(show dB X.prog X.w H s.heap a (.frz ob (.lst xs)) from I.hok a _ ea)
  exact PySem.W.kia_one PySem.W.kitx_list I.kIn ⟨_,h1,rfl⟩ e (λz=>nomatch z) h
 | @tup a xs ea=>
  cases (show u=Value.ref a from rx)
  obtain⟨_,_,_,p⟩:=(show dB X.prog X.w H s.heap a (.tup xs) from I.hok a _ ea)
  obtain⟨o,h1,h2,_⟩:=p
  exact PySem.W.kia_one PySem.W.kitx_tuple I.kIn ⟨o,h1,h2⟩ e (λz=>nomatch z) h
 | @dK a kvs ea=>
  cases (show u=Value.ref a from rx)
  obtain⟨_,_,vs,_,p⟩:=(show dB X.prog X.w H s.heap a (.dK kvs) from I.hok a _ ea)
  obtain⟨o,es,ep,h1,h2,_⟩:=p
  exact PySem.W.kia_one PySem.W.kitx_dict I.kIn ⟨o,h1,h2.1⟩ e (λz=>nomatch z) h
 | @dT a kvs ea=>
  cases (show u=Value.ref a from rx)
  obtain⟨_,_,xs,_,o,es,ep,h1,h2,_⟩:=(show dB X.prog X.w H s.heap a (.dT kvs) from I.hok a _ ea)
  exact PySem.W.kia_one PySem.W.kitx_dict I.kIn ⟨o,h1,h2.1⟩ e (λz=>nomatch z) h
 | @ins a C dx fs ea cl ha hn htk hm=>
  cases (show u=Value.ref a from rx)
  obtain⟨mA,O,_⟩:=pB I.hok ea
  obtain⟨od,J,_⟩:=O.look
  exact PySem.W.kia_one (PySem.W.kitx_own (cl.get _) cl.hd ha hn htk hm) I.kIn J e (λz=>nomatch z) h
end
end L2
namespace L2
open PySem PySem.Spec PyProof.Rows
structure dY (k:Nat) (A:Around):Prop where
 hd:A.handled=none
 dp:A.depth+3*k+5 < recursionLimit
 un:A.units+16*k+200 < cLine
 gd:A.guards=some []
theorem dY.mono {j k:Nat}{A:Around} (r:dY k A) (h:j<=k):dY j A:=⟨r.hd,by have:=r.dp;lia,by have:=r.un;lia,r.gd⟩
theorem dY.deeper {k:Nat}{A:Around} (r:dY (k+1) A) (env:Env):dY k (A.deeper env):=
 ⟨r.hd,by have:=r.dp;show A.depth+1+3*k+5 < _;lia,by have:=r.un;show A.units+3+16*k+200 < _;lia,r.gd⟩
theorem tj {A:Around}{C:Addr}{us:List Value}{kw:List (Str×Value)}:(A.under (.builtin "type.__call__" ⟨.ref C::us,kw⟩)).depth=A.depth+1:=by
 first | rfl | simp [Around.under,Code.weight,Code.isCreation,Code.isGuard,Code.isCaller,Code.frames,Code.isFrame,guardIds]
theorem sN {A:Around}{C:Addr}{us:List Value}{kw:List (Str×Value)}:(A.under (.builtin "type.__call__" ⟨.ref C::us,kw⟩)).units=A.units+1:=by
 first | rfl | simp [Around.under,Code.cUnits,Code.frames,Code.isFrame]
theorem dY.make {k:Nat}{A:Around} (r:dY (k+1) A) (C:Addr) (us:List Value) (kw:List (Str×Value)):dY k (A.under (.builtin "type.__call__" ⟨.ref C::us,kw⟩)):=
 ⟨r.hd,by have:=r.dp;rw [tj];lia,by have:=r.un;rw [sN];lia,by
  unfold Around.under
  simp [r.gd,pushGuards,Code.guards,Code.isGuard,guardIds]⟩
theorem dY.depth {k:Nat}{A:Around} (r:dY k A):A.depth < recursionLimit:=by have:=r.dp;lia
theorem dY.units0 {k:Nat}{A:Around} (r:dY k A):A.units < cLine:=by have:=r.un;lia
noncomputable def Cj:TA:=λ_ H Q=>Q [] H
noncomputable def Bp (ta:TE) (tr:TA):TA:=λσ H Q=>ta σ H λx H1=>tr σ H1 λxs H2=>Q (x::xs) H2
section
variable {X:Cx}{e:Expr}{es:List Expr}{te:TE}{t:TA}{pos:Pos}
theorem qv:PA X [] Cj:=λ_ _ _ _ H Q I h=>Calls.spliced_nil ⟨[],H,I,.nil,h⟩
theorem my (ha:PE X e te) (hr:PA X es t) (hs:starEach (e::es) X.env=(false,eval e X.env)::starEach es X.env:=by rfl):PA X (e::es) (Bp te t):=by
 intro pos pins s σ H Q I h
 rw [hs]
 show wpAny _ _ (spliced ((false,eval e X.env)::backTo pos (starEach es X.env))) _ _ s
 refine Calls.spliced_cons (thn (ha pins s σ H _ I h) λu s1 ⟨x,H1,I1,r1,q1⟩=>?_)
 exact thn (hr pos pins s1 σ H1 _ I1 q1) λus s2 ⟨xs,H2,I2,r2,q2⟩=>⟨x::xs,H2,I2,.cons r1 r2,q2⟩
noncomputable def BX (t:TA):TE:=λσ H Q=>t σ H λxs H1=>xs.length<=sizeLine/\∀ p,H1 p=none->Q (.ref p) (upd H1 p (.tup xs))
noncomputable def Ck (t:TA):TE:=λσ H Q=>t σ H λxs H1=>xs.length<=sizeLine/\∀ p,H1 p=none->Q (.ref p) (upd H1 p (.lst xs))
theorem Ah {x1} (h:PA X es t):PE X (.Tuple es x1 pos) (BX t):=by
 intro pins s σ H Q I hq
 refine wpAny_Tuple_spliced (thn (h pos pins s σ H _ I hq) λus s1 ⟨xs,H1,I1,r,z,q⟩=>⟨by rw [<-r.length];exact z,?_⟩)
 have hf:H1 s1.heap.objs.size=none:=I1.hok.fresh (Nat.le_refl _)
 refine⟨.ref s1.heap.objs.size,upd H1 s1.heap.objs.size (.tup xs),I1.laid (t':=s1.toks) (λb u e=>Heap.get?_push_of_some _ e) (Nat.le_refl _) ?_,rfl,q _ hf⟩
 exact⟨z,us,r,eP.new _ _⟩
theorem zt (h:PA X es t):PE X (.List es pos) (Ck t):=by
 intro pins s σ H Q I hq
 refine wpAny_List_spliced (thn (h pos pins s σ H _ I hq) λus s1 ⟨xs,H1,I1,r,z,q⟩=>⟨by rw [<-r.length];exact z,?_⟩)
 have hf:H1 s1.heap.objs.size=none:=I1.hok.fresh (Nat.le_refl _)
 refine⟨.ref s1.heap.objs.size,upd H1 s1.heap.objs.size (.lst xs),I1.laid (t':=s1.toks) (λb u e=>Heap.get?_push_of_some _ e) (Nat.le_refl _) ?_,rfl,q _ hf⟩
 exact⟨z,us,0,r,Heap.get?_push_size _ rfl⟩
end
abbrev Sp:=List V->Hp->VK->XK->Prop
abbrev CXT:=List Env->Hp->Shared->XK->Value->Shared->Prop
structure tL (P:Program) (w:World) (K:PySem.W.Frag) (mg:Str->Option Value) (base:Heap) (A:Around) (outer:List Env) (s:Shared) (H:Hp):Prop where
 frames:A.frames=some outer
 mod:Mod K mg base
 bs:∀ b o,base.get? b=some o->s.heap.get? b=some o/\H b=none
 bsz:base.objs.size<=s.heap.objs.size
 funs:s.heap.FunFrames base outer
 frf:∀ b ∈ frs outer,H b=none
 hok:HOk P w H s.heap
 bare:AllBare s.gens
noncomputable def CE (outer:List Env) (P:Program) (w:World) (H:Hp) (s:Shared) (Q:VK) (u:Value) (s':Shared):Prop:=
 ∃ v H',s'.os=s.os/\AllBare s'.gens/\Un (frs outer) [] H H' s.heap s'.heap/\HOk P w H' s'.heap/\bJ v u/\Q v H'
noncomputable def CR (CX:CXT) (outer:List Env) (P:Program) (w:World) (H:Hp) (s:Shared) (Q:VK) (E:XK) (r:Result) (s':Shared):Prop:=
 match r with
 | .ok (.ret u)=>CE outer P w H s Q u s'
 | .ok _=>False
 | .error e=>CX outer H s E e s'
structure bV (P:Program) (w:World) (K:PySem.W.Frag) (mg:Str->Option Value) (base:Heap) (CX:CXT) (k:Nat) (f:Addr) (fd:FuncData) (ps:List Str) (sp:Sp):Prop where
 len:∀ vs H Q E,sp vs H Q E->vs.length=ps.length
 run:∀ (A:Around) (outer:List Env) (s:Shared) (H:Hp) (args:Args) (us:List Value) (vs:List V) (Q:VK) (E:XK),dY k A->tL P w K mg base A outer s H->BindsTo s fd args (ps.zip us)->aV vs us->sp vs H Q E->
  codeAny (model P w) A (.call (.ref f) args) (CR CX outer P w H s Q E) s
theorem bV.mono {P:Program}{w:World}{K:PySem.W.Frag}{mg:Str->Option Value}{base:Heap}{CX:CXT}{j k:Nat}{f:Addr}{fd:FuncData}{ps:List Str}{sp:Sp} (F:bV P w K mg base CX j f fd ps sp) (h:j<=k) :
  bV P w K mg base CX k f fd ps sp:=⟨F.len,λA outer s H args us vs Q E hr=>F.run A outer s H args us vs Q E (hr.mono h)⟩
theorem tL.make {P:Program}{w:World}{K:PySem.W.Frag}{mg:Str->Option Value}{base:Heap}{A:Around}{outer:List Env}{s:Shared}{H:Hp} (e:tL P w K mg base A outer s H) (C:Addr) (us:List Value) (kw:List (Str×Value)) :
  tL P w K mg base (A.under (.builtin "type.__call__" ⟨.ref C::us,kw⟩)) outer s H:=⟨by first | exact e.frames | (simpa [Around.under,Code.envs,Code.isFrame,pushEnvs] using e.frames),e.mod,e.bs,e.bsz,e.funs,e.frf,e.hok,e.bare⟩
section
variable {X:Cx}{pins:List (Addr×Obj)}{σ:St}{H:Hp}{s s':Shared}
theorem Inv.env0 (I:Inv X pins σ H s):tL X.prog X.w X.K X.mg X.base X.A X.stack s H:=
 ⟨I.ok.frames,I.ok.mod,I.bs,Nat.le_trans I.ok.bsz I.sz,I.stack,I.stkFree,I.hok,I.bare⟩
theorem Inv.after {Q:VK}{u:Value} (I:Inv X pins σ H s) (h:CE X.stack X.prog X.w H s Q u s'):EP X pins σ Q u s':=by
 obtain⟨v,H',os,bare,un,hok,r,q⟩:=h
 obtain⟨hh,g,d,t,os'⟩:=s'
 obtain rfl:os'=s.os:=os
 exact⟨v,H',I.call (h':=hh) (g':=g) (d':=d) (t':=t) (ch:=[]) un hok bare (λb z=>absurd z (by simp)),r,q⟩
end
noncomputable def BT (sp:Sp) (dvs:List V) (E:XK) (t:TA):TE:=λσ H Q=>t σ H λvs H1=>sp (vs++dvs) H1 Q E
noncomputable def AG (C:Addr) (sp:Sp) (dvs:List V) (E:XK) (t:TA):TE:=λσ H Q=>t σ H λvs H1=>∀ x dx,H1 x=none->H1 dx=none->dx≠x->
 sp (.ref x::(vs++dvs)) (upd (upd H1 dx (.own x)) x (.ins C dx [])) (λv H2=>v=.non/\Q (.ref x) H2) E
noncomputable def bE (K:PySem.W.Frag) (fd:FuncData) (ps:List Str) (ds:List Value):Prop:=
 ∀ (s:Shared) (us:List Value),K.In s.heap->(us++ds).length=ps.length->BindsTo s fd ⟨us,[]⟩ (ps.zip (us++ds))
theorem bE.all {K:PySem.W.Frag}{fd:FuncData}{ps:List Str} (h:∀ us:List Value,us.length=ps.length->bindArgs fd ⟨us,[]⟩=pure (ps.zip us)):bE K fd ps []:=λs us _ hl=>by
 rw [List.append_nil] at hl ⊢
 exact .of_eq (h us hl)
noncomputable def mU (CX:CXT) (X:Cx) (E:XK):Prop:=∀ (pins:List (Addr×Obj)) (σ:St) (H:Hp) (s:Shared) (e:Value) (s':Shared),Inv X pins σ H s->CX X.stack H s E e s'->X.xe e s'
section
variable {X:Cx}{CX:CXT}{k:Nat}{f C:Addr}{fd:FuncData}{ps:List Str}{sp:Sp}{dvs:List V}{ds:List Value}{E:XK}{x m:Str}{p pos apos:Pos}{e o:Expr}{es:List Expr}{ta:TE}{t:TA}
theorem zz {pins:List (Addr×Obj)}{σ:St}{H:Hp}{s:Shared}{Q:VK}{us:List Value}{vs:List V} (F:bV X.prog X.w X.K X.mg X.base CX k f fd ps sp) (hr:dY k X.A) (hb:bE X.K fd ps ds) (hd:aV dvs ds) (hx:mU CX X E)
  (I:Inv X pins σ H s) (r:aV vs us) (h:sp (vs++dvs) H Q E):wpAny (model X.prog X.w) X.A (call (.ref f) us) (EP X pins σ Q) X.xe s:=by
 have r2:aV (vs++dvs) (us++ds):=r.append hd
 have hl:(us++ds).length=ps.length:=by rw [<-r2.length];exact F.len _ _ _ _ h
 refine wpAny_call (codeAny_mono (F.run X.A X.stack s H ⟨us,[]⟩ (us++ds) (vs++dvs) Q E hr I.env0 (hb s us I.kIn hl) r2 h) λr s' hq=>?_)
 cases r with
 | error e=>exact hx pins σ H s e s' I hq
 | ok fl=>
  cases fl with
  | ret u=>exact I.after hq
  | next=>exact False.elim hq
  | brk=>exact False.elim hq
  | cont=>exact False.elim hq
theorem uh (F:bV X.prog X.w X.K X.mg X.base CX k f fd ps sp) (hr:dY k X.A) (hg:Gl X x) (hm:X.mg x=some (.ref f)) (hk:PySem.W.keepIn X.K (.ref f)=true) (hb:bE X.K fd ps ds) (hd:aV dvs ds) (hx:mU CX X E)
  (ha:PA X (e::es) t) (hdb:(x==("__debug__" : Str))=false:=by decide) (he:starEach (e::es) X.env=(false,eval e X.env)::starEach es X.env:=by rfl) (hpl:(backTo pos (starEach es X.env)).any (·.1)=false:=by rfl) :
  PE X (.Call (.Name x p) (e::es) [] pos) (BT sp dvs E t):=by
 intro pins s σ H Q I h
 refine wpAny_Call_Name_kw (uc I hg hm ?_ hdb)
 refine PySem.W.callWith_K (h₀:=X.base) I.ok.mod.kin hk (thn (ha pos pins s σ H _ I h) λus s1 ⟨vs,H1,I1,r,q⟩=>⟨I1.kIn,?_⟩) he hpl
 exact zz F hr hb hd hx I1 r q
structure Mk (K:PySem.W.Frag) (C f:Addr):Prop where
 makes:PySem.W.makesIn K C=true
 init:PySem.W.findIn K (.ref C) "__init__" = some (some (.ref f))
 fn:PySem.W.isFn K (.ref f)=true
 kp:PySem.W.keepIn K (.ref C)=true
theorem xu {pins:List (Addr×Obj)}{σ:St}{H:Hp}{s:Shared}{Q:VK}{us:List Value}{vs:List V} (M:Mk X.K C f) (F:bV X.prog X.w X.K X.mg X.base CX k f fd ps sp) (hr:dY (k+1) X.A) (hb:bE X.K fd ps ds) (hd:aV dvs ds)
  (hx:mU CX X E) (I:Inv X pins σ H s) (r:aV vs us)
  (h:∀ x dx,H x=none->H dx=none->dx≠x->sp (.ref x::(vs++dvs)) (upd (upd H dx (.own x)) x (.ins C dx [])) (λv H2=>v=.non/\Q (.ref x) H2) E) :
  wpAny (model X.prog X.w) X.A (call (.ref C) us) (EP X pins σ Q) X.xe s:=by
 have hq:=h (s.heap.objs.size+1) s.heap.objs.size (I.hok.fresh (Nat.le_succ _)) (I.hok.fresh (Nat.le_refl _)) (Nat.ne_of_lt (Nat.lt_succ_self _))
 have I2:=Inv.made (C:=C) I
 have r2:aV (V.ref (s.heap.objs.size+1)::(vs++dvs)) (Value.ref (s.heap.objs.size+1)::(us++ds)):=.cons rfl (r.append hd)
 have hl:(Value.ref (s.heap.objs.size+1)::us++ds).length=ps.length:=by
  have e:=r2.length
  rw [F.len _ _ _ _ hq] at e
  exact e.symm
 refine wpAny_call (wA (f:=f) I.kIn M.makes M.init (beq_iff_eq.mp M.fn) (codeAny_mono (F.run _ X.stack _ _ ⟨Value.ref (s.heap.objs.size+1)::us,[]⟩ (Value.ref (s.heap.objs.size+1)::(us++ds)) _ _ E (hr.make C us [])
  (I2.env0.make C us []) (hb _ (Value.ref (s.heap.objs.size+1)::us) I2.kIn hl) r2 hq) λr s' hq'=>?_))
 cases r with
 | error e=>exact hx pins σ _ _ e s' I2 hq'
 | ok fl=>
  cases fl with
  | ret u=>
   obtain⟨v,H',I3,rv,ev,q3⟩:=I2.after hq'
   subst ev
   exact⟨rv,⟨V.ref (s.heap.objs.size+1),H',I3,rfl,q3⟩⟩
  | next=>exact False.elim hq'
  | brk=>exact False.elim hq'
  | cont=>exact False.elim hq'
theorem xS (M:Mk X.K C f) (F:bV X.prog X.w X.K X.mg X.base CX k f fd ps sp) (hr:dY (k+1) X.A) (hg:Gl X x) (hm:X.mg x=some (.ref C)) (hb:bE X.K fd ps ds) (hd:aV dvs ds) (hx:mU CX X E)
  (ha:PA X (e::es) t) (hdb:(x==("__debug__" : Str))=false:=by decide) (he:starEach (e::es) X.env=(false,eval e X.env)::starEach es X.env:=by rfl) (hpl:(backTo pos (starEach es X.env)).any (·.1)=false:=by rfl) :
  PE X (.Call (.Name x p) (e::es) [] pos) (AG C sp dvs E t):=by
 intro pins s σ H Q I h
 refine wpAny_Call_Name_kw (uc I hg hm ?_ hdb)
 refine PySem.W.callWith_K (h₀:=X.base) I.ok.mod.kin M.kp (thn (ha pos pins s σ H _ I h) λus s1 ⟨vs,H1,I1,r,q⟩=>⟨I1.kIn,?_⟩) he hpl
 exact xu M F hr hb hd hx I1 r q
end
section
variable {X:Cx}{CX:CXT}{k:Nat}{f C:Addr}{fd:FuncData}{ps ks:List Str}{sp:Sp}{E:XK}{x m:Str}{p pos apos kpos:Pos}{e o:Expr}{es:List Expr}{kws:List Keyword}{te ta:TE}{t tk:TA}{nm:Option Str}
variable {g:List Value->List Value->List Value}{gV:List V->List V->List V}
end
structure aK (N P:List Str) (sc:Scope):Prop where
 kind:sc.kind=.function
 co:sc.isCoroutine=false
 gen:sc.isGenerator=false
 nd:N.Nodup
 pre:N.take P.length=P
 par:∀ x ∈ P,sc.names.lookup x=some .local\/sc.names.lookup x=some .cell
 nofree:∀ y ∈ sc.names,y.2≠.free
theorem oU {kindOf:Str->Option NameKind}{x:Str}:∀ {binds:List (Str×Value)}{m:Str->Option Value},(∀ v,(x,v) ∉ binds)->bindL kindOf binds m x=m x
 | [],_,_=>rfl
 | (n,v)::r,m,h=>by
  unfold bindL
  rw [oU λw hw=>h w (List.mem_cons_of_mem _ hw)]
  split
  ·have:x≠n:=by rintro rfl;exact h v List.mem_cons_self
   simp [this]
  ·rfl
theorem oW {kindOf:Str->Option NameKind}{x:Str}:∀ {binds:List (Str×Value)}{m:Str->Option Value},(∀ v,(x,v) ∉ binds)->bindC kindOf binds m x=m x
 | [],_,_=>rfl
 | (n,v)::r,m,h=>by
  unfold bindC
  rw [oW λw hw=>h w (List.mem_cons_of_mem _ hw)]
  split
  ·rfl
  ·have:x≠n:=by rintro rfl;exact h v List.mem_cons_self
   simp [this]
theorem oY {kindOf:Str->Option NameKind}{x:Str}{v:Value}:∀ {P:List Str}{vs:List Value}{i:Nat}{m:Str->Option Value},P.Nodup->P[i]?=some x->vs[i]?=some v->kindOf x=some .local->
  bindL kindOf (P.zip vs) m x=some v
 | [],_,_,_,_,h,_,_=>by simp at h
 | _::_,[],_,_,_,_,h,_=>by simp at h
 | p::P,w::vs,0,m,nd,h1,h2,hk=>by
  simp at h1 h2;subst h1;subst h2
  show bindL kindOf ((p,w)::P.zip vs) m p=_
  unfold bindL
  rw [oU λv hv=>(List.nodup_cons.mp nd).1 (List.of_mem_zip hv).1,if_pos hk]
  simp
 | p::P,w::vs,i+1,m,nd,h1,h2,hk=>by
  show bindL kindOf ((p,w)::P.zip vs) m x=_
  unfold bindL
  exact oY (i:=i) (List.nodup_cons.mp nd).2 (by simpa using h1) (by simpa using h2) hk
theorem oT {kindOf:Str->Option NameKind}{x:Str}{v:Value}:∀ {P:List Str}{vs:List Value}{i:Nat}{m:Str->Option Value},P.Nodup->P[i]?=some x->vs[i]?=some v->kindOf x≠some .local->
  bindC kindOf (P.zip vs) m x=some v
 | [],_,_,_,_,h,_,_=>by simp at h
 | _::_,[],_,_,_,_,h,_=>by simp at h
 | p::P,w::vs,0,m,nd,h1,h2,hk=>by
  simp at h1 h2;subst h1;subst h2
  show bindC kindOf ((p,w)::P.zip vs) m p=_
  unfold bindC
  rw [oW λv hv=>(List.nodup_cons.mp nd).1 (List.of_mem_zip hv).1,if_neg hk]
  simp
 | p::P,w::vs,i+1,m,nd,h1,h2,hk=>by
  show bindC kindOf ((p,w)::P.zip vs) m x=_
  unfold bindC
  exact oT (i:=i) (List.nodup_cons.mp nd).2 (by simpa using h1) (by simpa using h2) hk
noncomputable def hU (N:List Str) (vs:List V):St:=vs.map some++List.replicate (N.length - vs.length) none
noncomputable def n5 (CX:CXT) (P:Program) (w:World) (K:PySem.W.Frag) (mg:Str->Option Value) (base:Heap) (N:List Str) (qual:Str) (scope:Scope) (f:Addr) (cd:Value) (A:Around) (outer:List Env) (s:Shared) (H:Hp) (E:XK):Cx where
 prog:=P
 w:=w
 K:=K
 mg:=mg
 base:=base
 A:=A.deeper (envOfC qual scope s.heap.objs.size f cd)
 N:=N
 s₀:=s
 H₀:=H
 env:=envOfC qual scope s.heap.objs.size f cd
 outer:=outer
 stack:=envOfC qual scope s.heap.objs.size f cd::outer
 ex:=[]
 calm:=true
 fn:=λ_=>true
 pn:=[]
 xe:=λe s'=>wpAny (model P w) (A.deeper (envOfC qual scope s.heap.objs.size f cd)) (leaving (envOfC qual scope s.heap.objs.size f cd) e) (λ_ s''=>CX outer H s E e s'') (λe' s''=>CX outer H s E e' s'') s'
theorem rB {sc:Scope}{n:Nat}{x:Str} (h:sc.names.lookup x=some .cell):∃ c,(cellsFrom n sc.names []).lookup x=some c:=by
 have q:=PySem.W.cellsFrom_some sc.names n [] (.inl h)
 exact Option.isSome_iff_exists.mp q
theorem vC {CX:CXT}{P:Program}{w:World}{K:PySem.W.Frag}{mg:Str->Option Value}{base:Heap}{N ps:List Str}{qual:Str}{scope:Scope}{f:Addr}{cd:Value}{A:Around}{outer:List Env}{s s1:Shared}{H:Hp}{E:XK}{us:List Value}{vs:List V}
  (S:aK N ps scope) (hd:A.handled=none) (e0:tL P w K mg base A outer s H) (hl:vs.length=ps.length) (r:aV vs us)
  (x:InCallC s s.heap.objs.size (bindL (envOfC qual scope s.heap.objs.size f cd).kindOf (ps.zip us) λ_=>none) (cellsFrom (s.heap.objs.size+1) scope.names []) (bindC (envOfC qual scope s.heap.objs.size f cd).kindOf (ps.zip us) λ_=>none) s1) :
  Inv (n5 CX P w K mg base N qual scope f cd A outer s H E) [] (hU N vs) H s1:=by
 have hpl:ps.length<=N.length:=by have:=congrArg List.length S.pre;rw [List.length_take] at this;lia
 obtain⟨h1,tk,rfl,hk⟩:=x.done
 have noA:∀ b:Addr,b ∉ (n5 CX P w K mg base N qual scope f cd A outer s H E).ex:=λb z=>absurd (show b ∈ ([]:List Addr) from z) (by simp)
 refine⟨⟨e0.mod,S.kind,rfl,rfl,Nat.le_refl _,λy z c h1 h2=>?_,λy hy=>?_,λy c _ h=>?_,λ_=>hd,Around.frames_deeper e0.frames,.inr ⟨rfl,rfl⟩,λb z=>absurd z (noA b),e0.bs,e0.bsz,λb _ _=>noA b,λb z=>absurd z (noA b),e0.funs,e0.frf⟩,
  rfl,e0.bare,Un.kept hk,⟨_,x.toInCall.ns,λi y v h1 h2 h3=>?_⟩,λy c h=>⟨_,x.cell y c h⟩,e0.hok.fresh (Nat.le_refl _),λy c h=>?_,λp hp=>absurd (show p ∈ ([]:List (Addr×Obj)) from hp) (by simp),e0.hok.kept hk,?_⟩
 ·exact name_of_addr x.apart (PySem.mem_of_lookup h1) (PySem.mem_of_lookup h2)
 ·have hy:scope.names.lookup y=some .cell\/scope.names.lookup y=some .free:=hy
  rcases hy with hy | hy
  ·exact rB hy
  ·exact absurd rfl (S.nofree _ (PySem.mem_of_lookup hy))
 ·exact Nat.le_of_lt (x.above y c (PySem.mem_of_lookup h))
 ·have hi:i < vs.length:=by
   unfold hU at h2
   by_cases hi:i < vs.length
   ·exact hi
   ·rw [List.getElem?_append_right (by simpa using hi)] at h2
    rw [List.getElem?_replicate] at h2
    split at h2<;>cases h2
  have ha:vs[i]?=some v:=by
   unfold hU at h2
   rw [List.getElem?_append_left (by simpa using hi),List.getElem?_map] at h2
   cases e:vs[i]? with
   | none=>rw [e] at h2;cases h2
   | some a=>rw [e] at h2;cases h2;rfl
  obtain⟨u,hu,rv⟩:=r.get ha
  have hp:ps[i]?=some y:=by
   rw [<-S.pre,List.getElem?_take_of_lt (by lia)];exact h1
  have ndP:ps.Nodup:=by rw [<-S.pre];exact S.nd.sublist (List.take_sublist _ _)
  refine⟨u,rv,?_⟩
  rcases S.par y (List.mem_of_getElem? hp) with k | k
  ·exact .inl ⟨k,oY ndP hp hu k⟩
  ·obtain⟨c,e⟩:=rB (n:=s.heap.objs.size+1) k
   refine .inr ⟨.inl k,c,e,?_⟩
   have q:=x.cell y c e
   rw [oT ndP hp hu (by show scope.names.lookup y≠_;rw [k];decide)] at q
   exact q
 ·exact e0.hok.fresh (Nat.le_of_lt (x.above y c (PySem.mem_of_lookup h)))
 ·unfold hU
  show _=N.length
  rw [List.length_append,List.length_map,List.length_replicate]
  lia
theorem BA {CX:CXT}{P:Program}{w:World}{K:PySem.W.Frag}{mg:Str->Option Value}{base:Heap}{k:Nat}{f:Addr}{name qual:Str}{params:Arguments}{body:List Stmt}{scope:Scope}{dV kV doc pm cdv ct oc:Value}{an od:Option Addr}
  {osl:Array (Option Value)}{N ps:List Str}{sp:Sp} (lk:K.lookup f=some ⟨oc,od,.func (PySem.W.fnOf name qual params body scope dV kV doc pm an cdv ct),osl⟩) (hcd:PySem.W.codeIn K cdv qual=true) (S:aK N ps scope)
  (len:∀ vs H Q E,sp vs H Q E->vs.length=ps.length)
  (hbody:∀ (A:Around) (outer:List Env) (s:Shared) (H:Hp) (vs:List V) (Q:VK) (E:XK),dY k (A.deeper (envOfC qual scope s.heap.objs.size f cdv))->sp vs H Q E->
    ∃ t,PSs (n5 CX P w K mg base N qual scope f cdv A outer s H E) body t/\t { nx:=λ_ H'=>Q .non H',rt:=Q } (hU N vs) H) :
  bV P w K mg base CX (k+1) f (PySem.W.fnOf name qual params body scope dV kV doc pm an cdv ct) ps sp:=by
 refine⟨len,λA outer s H args us vs Q E hr e0 hb r hsp=>?_⟩
 have hl:=len _ _ _ _ hsp
 have KX:K.In s.heap:=e0.mod.kin.keeps λb o e=>(e0.bs b o e).1
 have lim:s.heap.NoLimit:=e0.mod.nolimit.keeps λb o e=>(e0.bs b o e).1
 have hkind:∀ y ∈ ps.zip us,scope.names.lookup y.1=some .local\/(scope.names.lookup y.1=some .cell/\((cellsFrom (s.heap.objs.size+1) scope.names []).lookup y.1).isSome=true):=λ⟨n,v⟩ hy=>by
  rcases S.par n (List.of_mem_zip hy).1 with q | q
  ·exact .inl q
  ·exact .inr ⟨q,PySem.W.cellsFrom_some _ _ _ (.inl q)⟩
 refine codeAny_call_function hr.depth (KX _ _ lk) rfl S.co S.gen rfl (PySem.W.codeRec_of KX hcd) (hb _ _ _ _ ?_)
 refine wpAny_newFunctionEnv_cells S.kind hkind λenv he s1 x=>?_
 subst he
 refine⟨lim.keeps x.toInCall.keep,codeAny_func ?_⟩
 obtain⟨t,ht,hq⟩:=hbody A outer s H vs Q E (hr.deeper _) hsp
 have I:Inv (n5 CX P w K mg base N qual scope f cdv A outer s H E) [] (hU N vs) H s1:=vC S hr.hd e0 hl r x
 refine wpAny_mono (ht [] s1 (hU N vs) H _ I hq) (λfl s' hs=>?_) λe s' hs=>hs
 have fin:∀ {σ':St}{H':Hp}{v:V}{u:Value},Inv (n5 CX P w K mg base N qual scope f cdv A outer s H E) [] σ' H' s'->bJ v u->Q v H'->CE outer P w H s Q u s':=
  λ{σ' H' v u} J rv q=>⟨v,H',J.os,J.bare,J.base,J.hok,rv,q⟩
 cases fl with
 | ret u=>
  obtain⟨v,σ',H',J,rv,q⟩:=hs
  exact fin J rv q
 | next=>
  obtain⟨σ',H',J,q⟩:=hs
  exact fin (v:=V.non) (u:=Value.none) J rfl q
 | brk=>
  obtain⟨_,_,_,q⟩:=hs
  exact False.elim q
 | cont=>
  obtain⟨_,_,_,q⟩:=hs
  exact False.elim q
end L2
namespace L2
open PySem PySem.Spec PyProof.Rows
section
variable {X:Cx}{x:Str}{p pos:Pos}{e:Expr}{es:List Expr}{t:TA}{id T:String}{r:List V->Hp->VK->Prop}
noncomputable def tCB (r:List V->Hp->VK->Prop) (t:TA):TE:=λσ H Q=>t σ H λvs H1=>r vs H1 Q
theorem xo (hc:dw X (.builtin id) r) (hg:Gl X x) (hm:X.mg x=none) (hv:bootBuiltins x=some (.builtin id)) (ha:PA X (e::es) t) (hn:x≠"__name__":=by decide) (hdb:(x==("__debug__" : Str))=false:=by decide)
  (he:starEach (e::es) X.env=(false,eval e X.env)::starEach es X.env:=by rfl) (hpl:(backTo pos (starEach es X.env)).any (·.1)=false:=by rfl):PE X (.Call (.Name x p) (e::es) [] pos) (tCB r t):=by
 intro pins s σ H Q I h
 refine wpAny_Call_Name_kw (kC I hg hm hv ?_ hn hdb)
 exact PyProof.Rows.callWith_builtin1 (thn (ha pos pins s σ H _ I h) λus s1 ⟨vs,H1,I1,r1,q1⟩=>hc pins s1 σ H1 vs us Q I1 r1 q1) he hpl
theorem fE (hc:dw X (.type T) r) (hg:Gl X x) (hm:X.mg x=none) (hv:bootBuiltins x=some (.type T)) (ha:PA X (e::es) t) (hn:x≠"__name__":=by decide) (hdb:(x==("__debug__" : Str))=false:=by decide)
  (he:starEach (e::es) X.env=(false,eval e X.env)::starEach es X.env:=by rfl) (hpl:(backTo pos (starEach es X.env)).any (·.1)=false:=by rfl):PE X (.Call (.Name x p) (e::es) [] pos) (tCB r t):=by
 intro pins s σ H Q I h
 refine wpAny_Call_Name_kw (kC I hg hm hv ?_ hn hdb)
 exact PyProof.Rows.callWith_type1 (thn (ha pos pins s σ H _ I h) λus s1 ⟨vs,H1,I1,r1,q1⟩=>hc pins s1 σ H1 vs us Q I1 r1 q1) he hpl
end
end L2
namespace HT
open PySem PyProof.Rows
section
open PySem.SeqAt
open PySem.AutoSeq1 (wpAny_loadPart')
open PySem.MeetsSeq PySem.MeetsSeq2 PySem.MeetsSeq3
end
section
variable {prog:Program}{w:World}{A:Around}{E:Value->Shared->Prop}{s:Shared}
theorem cat_tup {t b:Addr}{vs ws:List Value}{Q:Value->Shared->Prop} (ht:IsTup s.heap t vs.toArray) (hb:IsTup s.heap b ws.toArray) (hv:vs≠[])
  (h1:ws=[]->Q (.ref t) s) (h2:ws≠[]->Q (.ref s.heap.objs.size) { s with heap:=s.heap.push { cls:=.type "tuple",data:=.seq (vs++ws).toArray } })
  (hsz:vs.length+ws.length<=sizeLine):wpAny (model prog w) A (binaryOp .Add (.ref t) (.ref b)) Q E s:=by
 obtain⟨⟨cls,dd,data,sl⟩,ho,hc,n,hd⟩:=id ht
 obtain⟨⟨cls2,dd2,data2,sl2⟩,ho2,hc2,n2,hd2⟩:=id hb
 simp only at hc hd hc2 hd2
 subst hc hd hc2 hd2
 have e:vs.toArray++ws.toArray=(vs++ws).toArray:=by simp
 by_cases hw:ws=[]
 ·exact concat_meets ⟨_,ho,rfl⟩ ⟨_,ho2,rfl⟩ noFill_tuple_add seq_tuple_add PySem.F.slot_tuple_add PySem.F.entry_tuple_add (PySem.F.args_tuple_add_2 _ _)
   (tuple_addW1 t b vs.toArray ws.toArray n n2 dd dd2 sl sl2 (by simpa using hv) (by simp [hw])) ⟨ho,ho2,h1 hw⟩
 ·refine concat_meets ⟨_,ho,rfl⟩ ⟨_,ho2,rfl⟩ noFill_tuple_add seq_tuple_add PySem.F.slot_tuple_add PySem.F.entry_tuple_add (PySem.F.args_tuple_add_2 _ _)
   (tuple_addW2 t b vs.toArray ws.toArray n n2 dd dd2 sl sl2 (by simpa using hv) (by simpa using hw) (by rw [List.size_toArray,List.size_toArray];exact hsz)) ⟨ho,ho2,?_⟩
  rw [e]
  exact h2 hw
noncomputable def sIx (n d:Nat):Option Int->Nat
 | none=>d
 | some v=>if v < 0 then (v+(n:Int)).toNat else min v.toNat n
theorem AC (n d:Nat) (hd:d<=n) (o:Option Int):sIx n d o<=n:=by
 cases o with
 | none=>exact hd
 | some v=>
  show (if v < 0 then (v+(n:Int)).toNat else min v.toNat n)<=n
  by_cases hv:v < 0
  ·rw [if_pos hv];lia
  ·rw [if_neg hv];exact Nat.min_le_right _ _
theorem uG (v:Int) (n d:Nat):(if v < 0 then max (v+(n:Int)) 0 else min v (n:Int))=((sIx n d (some v):Nat):Int):=by
 show (if v < 0 then max (v+(n:Int)) 0 else min v (n:Int))=(((if v < 0 then (v+(n:Int)).toNat else min v.toNat n):Nat):Int)
 by_cases hv:v < 0
 ·simp only [if_pos hv];lia
 ·simp only [if_neg hv];lia
theorem tO (lo hi:Option Int) (n:Nat):Builtin.Slice.sliceAdjust lo hi 1 (n:Int)=(((sIx n 0 lo:Nat):Int),((sIx n n hi:Nat):Int)):=by
 have h1:¬ ((1:Int) < 0):=by lia
 unfold Builtin.Slice.sliceAdjust
 simp only [h1,if_false]
 refine Prod.ext ?_ ?_
 ·cases lo with
  | none=>rfl
  | some v=>exact uG v n 0
 ·cases hi with
  | none=>rfl
  | some v=>exact uG v n n
theorem sH (i j:Nat):Builtin.Slice.slicePlaces (i:Int) (j:Int) 1=j - i:=by
 unfold Builtin.Slice.slicePlaces
 have h1:(1:Int) > 0:=by lia
 simp only [h1,if_true,Int.ediv_one]
 split<;>lia
theorem nW {v:Value}{o:Option Int}{Q:Option Int->Shared->Prop} (p:IsPart v o) (h:Q o s):wpAny (model prog w) A (Builtin.Slice.slicePartIndex v) Q E s:=by
 cases p with
 | none=>exact slicePart_none h
 | int i t=>exact slicePart_int h
theorem iI {sl:Addr}{vl vu:Value}{lo hi:Option Int}{n:Nat}{Q:Int×Int×Nat->Shared->Prop} (hs:s.heap.IsSliceOf sl vl vu .none) (pl:IsPart vl lo) (pu:IsPart vu hi)
  (h:Q (((sIx n 0 lo:Nat):Int),1,sIx n n hi - sIx n 0 lo) s):wpAny (model prog w) A (Builtin.Slice.sliceApplied (.ref sl) (pure (n:Int))) Q E s:=by
 obtain⟨os,hos,hcs,hds⟩:=id hs
 unfold Builtin.Slice.sliceApplied Builtin.Slice.sliceFields
 refine wpAny_bind (wpAny_bind (wpAny_field hos hds (x:=vl) rfl (wpAny_bind (wpAny_field hos hds (x:=vu) rfl (wpAny_bind (wpAny_field hos hds (x:=.none) rfl (wpAny_pure ?_)))))))
 refine wpAny_bind (slicePart_none ?_)
 show wpAny _ _ (if ((1:Int)==0)=true then _ else _) _ _ s
 rw [if_neg (by decide)]
 refine wpAny_bind (nW pl (wpAny_bind (nW pu (wpAny_bind (wpAny_pure ?_)))))
 show wpAny _ _ (match Builtin.Slice.sliceAdjust lo hi 1 (n:Int) with | (lo,hi)=>pure (lo,(1:Int),Builtin.Slice.slicePlaces lo hi 1)) _ _ s
 rw [tO lo hi n]
 show wpAny _ _ (pure (((sIx n 0 lo:Nat):Int),(1:Int),Builtin.Slice.slicePlaces ((sIx n 0 lo:Nat):Int) ((sIx n n hi:Nat):Int) 1)) _ _ s
 rw [sH]
 exact wpAny_pure h
theorem xb (xs:Array Value) (i k:Nat):((List.range k).filterMap λ(m:Nat)=>xs[((i:Int)+(m:Int)*1).toNat]?).toArray=((xs.toList.drop i).take k).toArray:=by
 have e:(λ(m:Nat)=>xs[((i:Int)+(m:Int)*1).toNat]?)=λm=>xs[i+m]?:=by
  funext m
  have:((i:Int)+(m:Int)*1).toNat=i+m:=by lia
  rw [this]
 rw [e]
 have:=pick_run xs i k
 rw [List.filterMap_map] at this
 have e2:((λx=>xs[x]?) ∘ λx=>i+x)=λm=>xs[i+m]?:=rfl
 rw [e2] at this
 rw [this]
theorem getItem_tuple_cut {t sl:Addr}{items:Array Value}{vl vu:Value}{lo hi:Option Int}{Q:Value->Shared->Prop} (ht:IsTup s.heap t items) (hs:s.heap.IsSliceOf sl vl vu .none) (pl:IsPart vl lo) (pu:IsPart vu hi)
  (hw:¬ (sIx items.size 0 lo=0/\sIx items.size items.size hi=items.size))
  (h:Q (.ref s.heap.objs.size) { s with heap:=s.heap.push { cls:=.type "tuple",data:=.seq ((items.toList.drop (sIx items.size 0 lo)).take (sIx items.size items.size hi - sIx items.size 0 lo)).toArray } })
  (hsz:items.size<=sizeLine):wpAny (model prog w) A (getItem (.ref t) (.ref sl)) Q E s:=by
 have htake:sizeOk (.seq ((items.toList.drop (sIx items.size 0 lo)).take (sIx items.size items.size hi - sIx items.size 0 lo)).toArray):=by
  show ((items.toList.drop (sIx items.size 0 lo)).take (sIx items.size items.size hi - sIx items.size 0 lo)).toArray.size<=sizeLine
  rw [List.size_toArray,List.length_take,List.length_drop,Array.length_toList]
  lia
 have hj:sIx items.size items.size hi<=items.size:=AC _ _ (Nat.le_refl _) hi
 obtain⟨os,hos,hcs,hds⟩:=id hs
 have hTs:s.TypeIs (.ref sl) "slice":=⟨os,hos,hcs⟩
 unfold getItem
 try with_reducible refine wpAny_holding ?_
 first | refine wpAny_bind (wpAny_pure ?_) | skip
 refine wpAny_bind (wpAny_sequenceKey ht.typeIs (by decide) ?_)
 refine wpAny_bind (wpAny_callSpecial?_slot (name:=Str.ofString "__getitem__") ht.typeIs PyProof.Rows.slot_tuple_getitem
  (wpAny_call_entry PyProof.Rows.slot_tuple_getitem ht.typeIs entry_tuple_getitem ?_ (args_tuple_getitem _ _)))
 show wpAny _ _ (Builtin.Tuple.tupleItemsOf (.ref t) >>= _) _ _ s
 refine wpAny_bind (tupleItemsOf_ ht ?_)
 refine wpAny_bind (wpAny_typeOf hTs ?_)
 rw [if_pos (by decide)]
 refine wpAny_bind (iI hs pl pu ?_)
 have hno:¬ ((((sIx items.size 0 lo:Nat):Int)==0 && (1:Int)==1 && (sIx items.size items.size hi - sIx items.size 0 lo)==items.size)=true):=by
  intro q
  rw [Bool.and_eq_true,Bool.and_eq_true] at q
  have q1:((sIx items.size 0 lo:Nat):Int)=0:=eq_of_beq q.1.1
  have q2:sIx items.size items.size hi - sIx items.size 0 lo=items.size:=eq_of_beq q.2
  exact hw ⟨by lia,by lia⟩
 show wpAny _ _ (if (((sIx items.size 0 lo:Nat):Int)==0 && (1:Int)==1 && (sIx items.size items.size hi - sIx items.size 0 lo)==items.size)=true then _ else _) _ _ s
 rw [if_neg hno,xb]
 first
  | exact wpAny_bind (m:=Builtin.Tuple.tupleExact _) (wpAny_newObj_type (wpAny_pure ⟨_,rfl,wpAny_pure h⟩) htake)
  | exact wpAny_bind (m:=Builtin.Tuple.tupleExact _) (wpAny_newObj_type (wpAny_bind (wpAny_pure (wpAny_pure ⟨_,rfl,wpAny_pure h⟩))) htake)
  | exact wpAny_bind (wpAny_bind (m:=Builtin.Tuple.tupleExact _) (wpAny_newObj_type (wpAny_pure (wpAny_pure ⟨_,rfl,wpAny_pure h⟩)) htake))
  | exact wpAny_bind (wpAny_bind (m:=Builtin.Tuple.tupleExact _) (wpAny_newObj_type (wpAny_pure ⟨_,rfl,wpAny_pure h⟩) htake))
end
end HT
namespace L2
open PySem PySem.Spec PyProof.Rows
abbrev TO:=St->Hp->(Option Int->Hp->Prop)->Prop
noncomputable def PO (X:Cx) (e:Option Expr) (t:TO):Prop:=
 ∀ (pins:List (Addr×Obj)) (s:Shared) (σ:St) (H:Hp) (Q:Option Int->Hp->Prop),Inv X pins σ H s->t σ H Q->
  wpAny (model X.prog X.w) X.A (evalPart e X.env) (λu s'=>∃ o H',Inv X pins σ H' s'/\IsPart u o/\Q o H') X.xe s
noncomputable def x9:TO:=λ_ H Q=>Q none H
noncomputable def Bt (t:TE):TO:=λσ H Q=>t σ H λx H1=>∃ i,x=.int i/\Q (some i) H1
theorem tm {ns:List Int}:∀ {us:List Value},aV (ns.map V.int) us->IntsAre us ns:=by
 induction ns with
 | nil=>intro us r;rw [List.map_nil] at r;cases r;exact .nil
 | cons n ns ih=>
  intro us r
  rw [List.map_cons] at r
  cases r with
  | cons r1 r2=>
   obtain⟨t,e⟩:=r1
   subst e
   exact .cons n t (ih r2)
section
variable {X:Cx}{e:Expr}{te:TE}{lo hi:Option Expr}{tl th:TO}{pos p2:Pos}
theorem xZ:PO X none x9:=by
 intro pins s σ H Q I h
 rw [evalPart_none]
 exact wpAny_pure ⟨none,H,I,.none,h⟩
theorem xN (h:PE X e te):PO X (some e) (Bt te):=by
 intro pins s σ H Q I hw
 rw [evalPart_some]
 refine thn (h pins s σ H _ I hw) λu s1 ⟨x,H1,I1,r1,q1⟩=>?_
 obtain⟨i,rfl,q⟩:=q1
 obtain⟨t,rfl⟩:=r1
 exact⟨some i,H1,I1,.int i t,q⟩
noncomputable def SlR (X:Cx) (r:V->Option Int->Option Int->Hp->VK->Prop):Prop:=
 ∀ (pins:List (Addr×Obj)) (s:Shared) (σ:St) (H:Hp) (x:V) (v vl vu:Value) (lo hi:Option Int) (sl:Addr) (Q:VK),Inv X pins σ H s->bJ x v->s.heap.IsSliceOf sl vl vu .none->IsPart vl lo->IsPart vu hi->r x lo hi H Q->
  ∃ T id,typeLookup (.type T) "__getitem__" = pure (some (.builtin id))/\s.TypeIs v T/\wpAny (model X.prog X.w) X.A (getItem v (.ref sl)) (EP X pins σ Q) X.xe s
noncomputable def tSl (r:V->Option Int->Option Int->Hp->VK->Prop) (te:TE) (tl th:TO):TE:=λσ H Q=>te σ H λx H1=>tl σ H1 λl H2=>th σ H2 λu H3=>r x l u H3 Q
theorem qQ {r:V->Option Int->Option Int->Hp->VK->Prop} (hr:SlR X r) (he:PE X e te) (hl:PO X lo tl) (hu:PO X hi th):PE X (.Subscript e (.Slice lo hi none p2) pos) (tSl r te tl th):=by
 intro pins s σ H Q I h
 refine Subscript_ (thn (he pins s σ H _ I h) λv s1 ⟨x,H1,I1,r1,q1⟩=>?_)
 refine wpAny_Slice (thn (hl pins s1 σ H1 _ I1 q1) λvl s2 ⟨l,H2,I2,pl,q2⟩=>thn (hu pins s2 σ H2 _ I2 q2) λvu s3 ⟨u,H3,I3,pu,q3⟩=>?_)
 rw [evalPart_none]
 refine wpAny_pure ?_
 have I4:Inv X pins σ H3 { s3 with heap:=s3.heap.push { cls:=.type "slice",data:=.fields #[vl,vu,.none] } }:=I3.kept (t':=s3.toks) λb ob q=>Heap.get?_push_of_some _ q
 obtain⟨T,id,hT,ht,hg⟩:=hr pins { s3 with heap:=s3.heap.push { cls:=.type "slice",data:=.fields #[vl,vu,.none] } } σ H3 x v vl vu l u s3.heap.objs.size Q I4 r1 (Heap.IsSliceOf.new ..) pl pu q3
 show wpAny (model X.prog X.w) X.A (subscriptTail e (.Slice lo hi none p2) v (.ref s3.heap.objs.size)) (EP X pins σ Q) X.xe { s3 with heap:=s3.heap.push { cls:=.type "slice",data:=.fields #[vl,vu,.none] } }
 exact tail_any (ops:=[.ref s3.heap.objs.size,v]) ht hT hg (by with_unfolding_all rfl)
noncomputable def pe (xs:List V) (lo hi:Option Int):List V:=(xs.drop (HT.sIx xs.length 0 lo)).take (HT.sIx xs.length xs.length hi - HT.sIx xs.length 0 lo)
theorem lR (xs:List V) (lo hi:Option Int):(pe xs lo hi).length<=xs.length:=by
 unfold pe
 rw [List.length_take,List.length_drop]
 lia
noncomputable def B3 (K:PySem.W.Frag):V->Option Int->Option Int->Hp->VK->Prop:=λx lo hi H Q=>∃ a xs,x=.ref a/\SqT K H a xs/\
 ¬ (HT.sIx xs.length 0 lo=0/\HT.sIx xs.length xs.length hi=xs.length)/\∀ p,H p=none->Q (.ref p) (upd H p (.tup (pe xs lo hi)))
theorem zZ:SlR X (B3 X.K):=by
 intro pins s σ H x v vl vu lo hi sl Q I rx hs pl pu h
 obtain⟨a,xs,rfl,hx,hw,q⟩:=h
 cases rx
 obtain⟨its,r,ht,hz⟩:=I.tuple hx
 have hlen:its.toArray.size=xs.length:=by rw [List.size_toArray];exact r.length.symm
 refine⟨"tuple",_,PyProof.Rows.slot_tuple_getitem.lookup,ht.typeIs,?_⟩
 refine HT.getItem_tuple_cut ht hs pl pu (by rw [hlen];exact hw) ?_ (by rw [hlen];exact hz)
 rw [hlen]
 refine⟨.ref s.heap.objs.size,_,I.laid (t':=s.toks) (o:=.tup (pe xs lo hi)) (λb ob q=>Heap.get?_push_of_some _ q) (Nat.le_refl _) ?_,rfl,q _ (I.hok.fresh (Nat.le_refl _))⟩
 exact⟨Nat.le_trans (lR xs lo hi) hz,_,(r.drop (HT.sIx xs.length 0 lo)).take (HT.sIx xs.length xs.length hi - HT.sIx xs.length 0 lo),eP.new _ _⟩
noncomputable def Bq (K:PySem.W.Frag):R2:=λx y H Q=>∃ a b xs ys,x=.ref a/\y=.ref b/\SqT K H a xs/\SqT K H b ys/\xs≠[]/\xs.length+ys.length<=sizeLine/\
 (ys=[]->Q (.ref a) H)/\(ys≠[]->∀ p,H p=none->Q (.ref p) (upd H p (.tup (xs++ys))))
theorem aV.nil_iff {xs:List V}{us:List Value} (r:aV xs us):us=[]↔xs=[]:=by
 cases r with
 | nil=>simp
 | cons _ _=>simp
theorem yw:OpR X (binaryOp .Add) (Bq X.K):=by
 intro pins s σ H x y v u Q I rx ry h
 obtain⟨a,b,xs,ys,rfl,rfl,ha,hb,hx,hz,q1,q2⟩:=h
 cases rx
 cases ry
 obtain⟨its,r1,p1,_⟩:=I.tuple ha
 obtain⟨its2,r2,p2,_⟩:=I.tuple hb
 refine HT.cat_tup p1 p2 (λz=>hx (r1.nil_iff.mp z)) (λz=>⟨.ref a,H,I,rfl,q1 (r2.nil_iff.mp z)⟩) (λz=>?_) (by rw [<-r1.length,<-r2.length];exact hz)
 refine⟨.ref s.heap.objs.size,_,I.laid (t':=s.toks) (o:=.tup (xs++ys)) (λb ob q=>Heap.get?_push_of_some _ q) (Nat.le_refl _) ?_,rfl,q2 (λw=>z (r2.nil_iff.mpr w)) _ (I.hok.fresh (Nat.le_refl _))⟩
 exact⟨by rw [List.length_append];exact hz,_,r1.append r2,eP.new _ _⟩
end
end L2
namespace L2
open PySem PySem.Spec PyProof.Rows
noncomputable def ixN (n:Nat) (i:Int):Option Nat:=if 0<=i then (if i < n then some i.toNat else none) else if -(n:Int)<=i then some (i+n).toNat else none
noncomputable def atI {α:Type} (xs:List α) (i:Int):Option α:=(ixN xs.length i).bind λj=>xs[j]?
theorem qi {n:Nat}{i:Int}{j:Nat} (h:ixN n i=some j):seqIndex? i n=some j/\j < n/\-(n:Int)<=i/\i < n:=by
 unfold ixN at h
 by_cases h0:0<=i
 ·rw [if_pos h0] at h
  by_cases h1:i < n
  ·rw [if_pos h1] at h
   have e:i.toNat=j:=Option.some.inj h
   exact⟨by rw [seqIndex_of h0 h1,e],by lia,by lia,h1⟩
  ·rw [if_neg h1] at h;cases h
 ·rw [if_neg h0] at h
  by_cases h1:-(n:Int)<=i
  ·rw [if_pos h1] at h
   have e:(i+n).toNat=j:=Option.some.inj h
   exact⟨by rw [seqIndex_neg (by lia) h1,e],by lia,h1,by lia⟩
  ·rw [if_neg h1] at h;cases h
theorem pM {α:Type}{xs:List α}{i:Int}{v:α} (h:atI xs i=some v):∃ j,seqIndex? i xs.length=some j/\xs[j]?=some v/\j < xs.length/\-(xs.length:Int)<=i/\i < xs.length:=by
 unfold atI at h
 cases e:ixN xs.length i with
 | none=>rw [e] at h;cases h
 | some j=>
  rw [e] at h
  obtain⟨h1,h2,h3,h4⟩:=qi e
  exact⟨j,h1,h,h2,h3,h4⟩
theorem dU {α:Type}{xs:List α}{j:Nat}{v:α} (h:xs[j]?=some v):atI xs (j:Int)=some v:=by
 have hj:j < xs.length:=(List.getElem?_eq_some_iff.mp h).1
 have e:ixN xs.length (j:Int)=some j:=by
  unfold ixN
  rw [if_pos (by lia),if_pos (by lia)];simp
 unfold atI;rw [e];exact h
theorem wG {α:Type} (xs:List α) (v:α):atI (xs++[v]) (-1)=some v:=by
 have hl:(xs++[v]).length=xs.length+1:=by simp
 have e:ixN (xs++[v]).length (-1)=some xs.length:=by
  unfold ixN
  rw [hl,if_neg (by decide),if_pos (by lia)]
  congr 1
  lia
 unfold atI
 rw [e]
 show (xs++[v])[xs.length]?=some v
 simp
noncomputable def tZ (b:Expr):Prop:=∀ o i,subscripted b false o i=operate [o,i] (getItem o i)
noncomputable def IxR (X:Cx) (r:R2):Prop:=
 ∀ (value slice:Expr) (pins:List (Addr×Obj)) (s:Shared) (σ:St) (H:Hp) (x y:V) (v u:Value) (Q:VK),Inv X pins σ H s->bJ x v->bJ y u->r x y H Q->
  subscripted slice false v u=operate [v,u] (getItem v u)->wpAny (model X.prog X.w) X.A (subscriptTail value slice v u) (EP X pins σ Q) X.xe s
noncomputable def MtR (X:Cx) (id:String) (r:V->List V->Hp->VK->Prop):Prop:=
 ∀ (pins:List (Addr×Obj)) (s:Shared) (σ:St) (H:Hp) (x:V) (xs:List V) (v:Value) (us:List Value) (Q:VK),Inv X pins σ H s->bJ x v->aV xs us->r x xs H Q->
  wpAny (model X.prog X.w) X.A (call (.builtin id) (v::us)) (EP X pins σ Q) X.xe s
section
variable {X:Cx}{a b:Expr}{ta tb:TE}{pos:Pos}
theorem IxR.or {r r':R2} (h:IxR X r) (h':IxR X r'):IxR X (λx y H Q=>r x y H Q\/r' x y H Q):=by
 intro value slice pins s σ H x y v u Q I rx ry q hs
 rcases q with q | q
 ·exact h value slice pins s σ H x y v u Q I rx ry q hs
 ·exact h' value slice pins s σ H x y v u Q I rx ry q hs
theorem yI {r:R2} (hr:IxR X r) (ha:PE X a ta) (hb:PE X b tb) (hs:tZ b):PE X (.Subscript a b pos) (tOp r ta tb):=by
 intro pins s σ H Q I h
 exact Subscript_ (zb ha hb I h λv u s2 x y H2 I2 rx ry q=>hr a b pins s2 σ H2 x y v u Q I2 rx ry q (hs _ _))
noncomputable def Bg (K:PySem.W.Frag):R2:=λx y H Q=>∃ p xs i v,x=.ref p/\y=.int i/\SqL K H p xs/\atI xs i=some v/\Q v H
noncomputable def AY (K:PySem.W.Frag):R2:=λx y H Q=>∃ p xs i v,x=.ref p/\y=.int i/\SqT K H p xs/\atI xs i=some v/\Q v H
noncomputable def Bc:R2:=λx y H Q=>∃ z i c,x=.str z/\y=.int i/\z.length<=sizeLine/\atI z.cps.toList i=some c/\Q (.str ⟨#[c]⟩) H
theorem xG:IxR X (Bg X.K):=by
 intro value slice pins s σ H x y v u Q I rx ry h hs
 obtain⟨p,xs,i,z,rfl,rfl,hq,he,q⟩:=h
 cases rx
 obtain⟨t,rfl⟩:=ry
 obtain⟨its,r,pl,hz⟩:=I.list hq
 obtain⟨j,h1,h2,h3,h4,h5⟩:=pM he
 obtain⟨w,ew,rw'⟩:=r.get h2
 have hl:=r.length
 have hn:=kt
 have fin:EP X pins σ Q w s:=⟨z,H,I,rw',q⟩
 by_cases h0:0<=i
 ·have hj:i.toNat=j:=by
   rw [seqIndex_of h0 h5] at h1
   exact Option.some.inj h1
  exact item_listR pl.isList h0 (by lia) (by rw [hj];simpa using ew) fin hs
 ·have hj:(i+(its.toArray.size:Int)).toNat=j:=by
   rw [seqIndex_neg (by lia) h4] at h1
   rw [List.size_toArray,<-hl]
   exact Option.some.inj h1
  exact subscriptTail_builtinR (x:=w) pl.isList.typeIs slot_list_getitem.lookup
   (wpAny_getItem_list_neg (Q:=λr s'=>r=w/\EP X pins σ Q r s') pl.isList (by lia) (by rw [List.size_toArray]<;>lia) (by lia) (by rw [hj];simpa using ew) ⟨rfl,fin⟩) hs
theorem zk:IxR X (AY X.K):=by
 intro value slice pins s σ H x y v u Q I rx ry h hs
 obtain⟨p,xs,i,z,rfl,rfl,hq,he,q⟩:=h
 cases rx
 obtain⟨t,rfl⟩:=ry
 obtain⟨its,r,pl,hz⟩:=I.tuple hq
 obtain⟨j,h1,h2,h3,h4,h5⟩:=pM he
 obtain⟨w,ew,rw'⟩:=r.get h2
 have hl:=r.length
 have hn:=kt
 have fin:EP X pins σ Q w s:=⟨z,H,I,rw',q⟩
 exact subscriptTail_builtinR (x:=w) pl.typeIs slot_tuple_getitem.lookup
  (getItem_tuple (j:=j) (Q:=λr s'=>r=w/\EP X pins σ Q r s') pl (by lia) (by lia) (by rw [List.size_toArray,<-hl];exact h1) (by simpa using ew) ⟨rfl,fin⟩) hs
theorem zS:IxR X Bc:=by
 intro value slice pins s σ H x y v u Q I rx ry h hs
 obtain⟨z,i,c,rfl,rfl,hz,he,q⟩:=h
 obtain⟨t,rfl⟩:=rx
 obtain⟨t',rfl⟩:=ry
 obtain⟨j,h1,h2,h3,h4,h5⟩:=pM he
 have hl:z.cps.toList.length=z.length:=by simp [Str.length]
 rw [hl] at h1 h4 h5
 have hn:=kt
 exact tail_any (typeIs_str s z t) slot_str_getitem.lookup (getItem_str (c:=c) (by
  have e1:decide (i < -(2 ^ 63:Int))=false:=decide_eq_false (by lia)
  have e2:decide (i>=2 ^ 63)=false:=decide_eq_false (by lia)
  rw [e1,e2,Bool.or_false]) (by rw [h1];simpa using h2) ⟨.str ⟨#[c]⟩,H,I.tok _,⟨_,rfl⟩,q⟩) hs
noncomputable def rIx (K:PySem.W.Frag):R2:=λx y H Q=>Bg K x y H Q\/AY K x y H Q\/Bc x y H Q
theorem sv:IxR X (rIx X.K):=xG.or (zk.or zS)
theorem tT (its:List Value) (n j:Nat) (u:Value):Obj.mapSeq (·.setIfInBounds j u) { cls:=.type "list",data:=.seq its.toArray n }={ cls:=.type "list",data:=.seq (its.set j u).toArray n }:=by
 simp [Obj.mapSeq]
theorem Inv.lst {pins:List (Addr×Obj)}{σ:St}{H:Hp}{s:Shared}{p:Addr}{xs:List V} (I:Inv X pins σ H s) (h:H p=some (.lst xs)) :
  ∃ (its:List Value) (n:Nat),aV xs its/\s.heap.get? p=some { cls:=.type "list",data:=.seq its.toArray n }/\xs.length<=sizeLine:=by
 obtain⟨z,its,n,r,e⟩:=I.hok p _ h
 exact⟨its,n,r,e,z⟩
theorem Inv.lstUpd {pins:List (Addr×Obj)}{σ:St}{H:Hp}{s:Shared}{p:Addr}{xs ys:List V}{its its':List Value}{n n':Nat}{f:Obj->Obj} (I:Inv X pins σ H s) (h:H p=some (.lst xs))
  (ho:s.heap.get? p=some { cls:=.type "list",data:=.seq its.toArray n }) (hf:f { cls:=.type "list",data:=.seq its.toArray n }={ cls:=.type "list",data:=.seq its'.toArray n' }) (r:aV ys its') (hz:ys.length<=sizeLine) (t:Nat) :
  Inv X pins σ (upd H p (.lst ys)) { s with heap:=s.heap.update p f,toks:=t }:=by
 have e:(s.heap.update p f).get? p=some { cls:=.type "list",data:=.seq its'.toArray n' }:=by
  rw [Heap.get?_update_self f ho (by rw [hf]<;>rfl),hf]
 refine I.write (x:=p) (e:=p) (by rw [h];trivial) (.inl rfl) (λb u hb q=>(Heap.get?_update_other _ _ (Ne.symm hb)).trans q) ⟨_,e⟩ ?_
 exact⟨hz,its',n',r,e⟩
noncomputable def A5:V->V->V->Hp->(Hp->Prop)->Prop:=λo i v H Q=>∃ p xs k j,o=.ref p/\i=.int k/\H p=some (.lst xs)/\ixN xs.length k=some j/\Q (upd H p (.lst (xs.set j v)))
theorem mY:A3 X A5:=by
 intro pins s σ H o i v ov iv u Q I ro ri rv h
 obtain⟨p,xs,k,j,rfl,rfl,hp,hj,q⟩:=h
 cases ro
 obtain⟨t,rfl⟩:=ri
 obtain⟨its,n,r,ho,hz⟩:=I.lst hp
 obtain⟨h1,h2,h3,h4⟩:=qi hj
 have hl:=r.length
 have hn:=kt
 have I':Inv X pins σ (upd H p (.lst (xs.set j v))) { s with heap:=s.heap.update p (Obj.mapSeq (·.setIfInBounds j u)) }:=
  I.lstUpd hp ho (tT its n j u) (r.set rv j) (by rw [List.length_set];exact hz) s.toks
 by_cases h0:0<=k
 ·have hk:k.toNat=j:=by
   rw [seqIndex_of h0 h4] at h1
   exact Option.some.inj h1
  exact PySem.W.ki_setAt ho h0 (by lia) (by rw [List.size_toArray,<-hl];exact h4) (by rw [hk];exact⟨_,I',q⟩)
 ·have hk:(k+(its.toArray.size:Int)).toNat=j:=by
   rw [seqIndex_neg (by lia) h3] at h1
   rw [List.size_toArray,<-hl]
   exact Option.some.inj h1
  exact PySem.W.ki_setBack ho (by lia) (by rw [List.size_toArray,<-hl];exact h3) (by lia) (by rw [hk];exact⟨_,I',q⟩)
theorem pZ (lo hi:Option Int) (n:Nat):(sliceBounds lo hi none n).1=((HT.sIx n 0 lo:Nat):Int)/\(sliceBounds lo hi none n).2.1=((HT.sIx n n hi:Nat):Int)/\(sliceBounds lo hi none n).2.2=1:=by
 refine⟨?_,?_,rfl⟩
 ·cases lo with
  | none=>simp [sliceBounds,HT.sIx]
  | some i=>
   simp only [sliceBounds,HT.sIx,Option.getD_none,show (1:Int) > 0 by decide,if_true]
   by_cases h:i < 0
   ·simp only [h,if_true]<;>lia
   ·simp only [h,if_false]<;>lia
 ·cases hi with
  | none=>simp [sliceBounds,HT.sIx]
  | some i=>
   simp only [sliceBounds,HT.sIx,Option.getD_none,show (1:Int) > 0 by decide,if_true]
   by_cases h:i < 0
   ·simp only [h,if_true]<;>lia
   ·simp only [h,if_false]<;>lia
theorem oj (its:List Value) (lo hi:Option Int):slicePick its.toArray lo hi none=((its.drop (HT.sIx its.length 0 lo)).take (HT.sIx its.length its.length hi - HT.sIx its.length 0 lo)).toArray:=by
 obtain⟨h1,h2,h3⟩:=pZ lo hi its.toArray.size
 unfold slicePick
 rw [h1,h2,h3]
 simp only [sliceRange_one,pick_run,List.size_toArray]<;>rfl
noncomputable def Ca (K:PySem.W.Frag):V->Option Int->Option Int->Hp->VK->Prop:=λx lo hi H Q=>∃ a xs,x=.ref a/\SqL K H a xs/\∀ p,H p=none->Q (.ref p) (upd H p (.lst (pe xs lo hi)))
theorem yh:SlR X (Ca X.K):=by
 intro pins s σ H x v vl vu lo hi sl Q I rx hs pl pu h
 obtain⟨a,xs,rfl,hx,q⟩:=h
 cases rx
 obtain⟨its,r,ht,hz⟩:=I.list hx
 have hlen:=r.length
 refine⟨"list",_,slot_list_getitem.lookup,ht.isList.typeIs,?_⟩
 refine wpAny_getItem_list_slice ht.isList hs pl pu .none (by simp) ?_ (by rw [List.size_toArray]<;>lia)
 rw [oj,<-hlen]
 refine⟨.ref s.heap.objs.size,_,I.laid (t':=s.toks) (o:=.lst (pe xs lo hi)) (λb ob q=>Heap.get?_push_of_some _ q) (Nat.le_refl _) ?_,rfl,q _ (I.hok.fresh (Nat.le_refl _))⟩
 exact⟨Nat.le_trans (lR xs lo hi) hz,_,0,(r.drop (HT.sIx xs.length 0 lo)).take (HT.sIx xs.length xs.length hi - HT.sIx xs.length 0 lo),Heap.get?_push_size _ rfl⟩
noncomputable def ij:V->Bool
 | .non=>true
 | .bl _=>true
 | .int _=>true
 | .str _=>true
 | _=>false
noncomputable def eqV:V->V->Bool
 | .non,.non=>true
 | .bl a,.bl b=>a==b
 | .bl a,.int b=>(if a then 1 else 0)==b
 | .int a,.bl b=>a==(if b then 1 else 0)
 | .int a,.int b=>a==b
 | .str a,.str b=>a==b
 | _,_=>false
theorem wa {A:Around}{s:Shared}{y x:V}{u v:Value} (ry:bJ y u) (rx:bJ x v) (fy:ij y=true) (fx:ij x=true):SeqAt.EqAt A s u v (eqV y x):=by
 cases y with
 | non=>
  cases ry
  cases x with
  | non=>cases rx;exact SeqAt.EqAt.same _
  | bl b=>cases rx;exact SeqAt.EqAt.none_bool b
  | int b=>obtain⟨t,rfl⟩:=rx;exact SeqAt.EqAt.none_int b t
  | str b=>obtain⟨t,rfl⟩:=rx;exact SeqAt.EqAt.none_str b t
  | _=>exact absurd (show false=true from fx) Bool.false_ne_true
 | bl a=>
  cases ry
  cases x with
  | non=>cases rx;exact SeqAt.EqAt.bool_none a
  | bl b=>cases rx;exact SeqAt.EqAt.bool_bool a b
  | int b=>obtain⟨t,rfl⟩:=rx;exact SeqAt.EqAt.bool_int a b t
  | str b=>obtain⟨t,rfl⟩:=rx;exact SeqAt.EqAt.bool_str a b t
  | _=>exact absurd (show false=true from fx) Bool.false_ne_true
 | int a=>
  obtain⟨t',rfl⟩:=ry
  cases x with
  | non=>cases rx;exact SeqAt.EqAt.int_none a t'
  | bl b=>cases rx;exact SeqAt.EqAt.int_bool a t' b
  | int b=>obtain⟨t,rfl⟩:=rx;exact SeqAt.EqAt.int_int a t' b t
  | str b=>obtain⟨t,rfl⟩:=rx;exact SeqAt.EqAt.int_str a t' b t
  | _=>exact absurd (show false=true from fx) Bool.false_ne_true
 | str a=>
  obtain⟨t',rfl⟩:=ry
  cases x with
  | non=>cases rx;exact SeqAt.EqAt.str_none a t'
  | bl b=>cases rx;exact SeqAt.EqAt.str_bool a t' b
  | int b=>obtain⟨t,rfl⟩:=rx;exact SeqAt.EqAt.str_int a t' b t
  | str b=>obtain⟨t,rfl⟩:=rx;exact SeqAt.EqAt.str_str a t' b t
  | _=>exact absurd (show false=true from fx) Bool.false_ne_true
 | _=>exact absurd (show false=true from fy) Bool.false_ne_true
noncomputable def eqU (x:V) (u:Value):Bool:=match u with
 | .none=>eqV .non x
 | .bool b=>eqV (.bl b) x
 | .int i _=>eqV (.int i) x
 | .str z _=>eqV (.str z) x
 | _=>false
theorem wX {x y:V}{u:Value} (r:bJ y u) (f:ij y=true):eqU x u=eqV y x:=by
 cases y with
 | non=>cases r;rfl
 | bl b=>cases r;rfl
 | int i=>obtain⟨t,rfl⟩:=r;rfl
 | str z=>obtain⟨t,rfl⟩:=r;rfl
 | _=>exact absurd (show false=true from f) Bool.false_ne_true
theorem lb {x:V}:∀ {xs:List V}{us:List Value},aV xs us->xs.all ij=true->us.any (eqU x)=xs.any λy=>eqV y x
 | _,_,.nil,_=>rfl
 | y::xs,u::us,.cons r t,f=>by
  rw [List.all_cons,Bool.and_eq_true] at f
  rw [List.any_cons,List.any_cons,wX r f.1,lb t f.2]
theorem jr {A:Around}{s:Shared}{x:V}{v:Value} (rx:bJ x v) (fx:ij x=true):∀ {xs:List V}{us:List Value},aV xs us->xs.all ij=true->∀ u ∈ us,SeqAt.EqAt A s u v (eqU x u)
 | _,_,.nil,_=>λu hu=>by cases hu
 | y::xs,u::us,.cons r t,f=>λu' hu=>by
  rw [List.all_cons,Bool.and_eq_true] at f
  rcases List.mem_cons.mp hu with rfl | hu
  ·rw [wX r f.1];exact wa r rx f.1 fx
  ·exact jr rx fx t f.2 u' hu
noncomputable def inV (x:V) (xs:List V):Bool:=xs.any λy=>eqV y x
noncomputable def rIn (K:PySem.W.Frag) (neg:Bool):R2:=λx y H Q=>∃ p xs,y=.ref p/\(SqL K H p xs\/SqT K H p xs)/\ij x=true/\xs.all ij=true/\Q (.bl (if neg then !inV x xs else inV x xs)) H
theorem vb:OpR X (compareOp .In) (rIn X.K false):=by
 intro pins s σ H x y v u Q I rx ry h
 obtain⟨p,xs,rfl,hq,fx,fs,q⟩:=h
 cases ry
 rcases hq with hq | hq
 ·obtain⟨its,r,pl,hz⟩:=I.list hq
  refine SeqAt.in_listAt (eqU x) pl.isList (λw hw=>jr rx fx r fs w (by simpa using hw)) ⟨.bl _,H,I,rfl,?_⟩
  rw [show its.toArray.any (eqU x)=its.any (eqU x) by simp,lb r fs]
  exact q
 ·obtain⟨its,r,pl,hz⟩:=I.tuple hq
  refine SeqAt.in_tupleAt (eqU x) pl (λw hw=>jr rx fx r fs w (by simpa using hw)) ⟨.bl _,H,I,rfl,?_⟩
  rw [show its.toArray.any (eqU x)=its.any (eqU x) by simp,lb r fs]
  exact q
theorem pR:OpR X (compareOp .NotIn) (rIn X.K true):=by
 intro pins s σ H x y v u Q I rx ry h
 obtain⟨p,xs,rfl,hq,fx,fs,q⟩:=h
 cases ry
 rcases hq with hq | hq
 ·obtain⟨its,r,pl,hz⟩:=I.list hq
  refine SeqAt.notIn_listAt (eqU x) pl.isList (λw hw=>jr rx fx r fs w (by simpa using hw)) ⟨.bl _,H,I,rfl,?_⟩
  rw [show its.toArray.any (eqU x)=its.any (eqU x) by simp,lb r fs]
  exact q
 ·obtain⟨its,r,pl,hz⟩:=I.tuple hq
  refine SeqAt.notIn_tupleAt (eqU x) pl (λw hw=>jr rx fx r fs w (by simpa using hw)) ⟨.bl _,H,I,rfl,?_⟩
  rw [show its.toArray.any (eqU x)=its.any (eqU x) by simp,lb r fs]
  exact q
theorem pq:dw X (.builtin "len") (λxs H Q=>∃ p ys,xs=[.ref p]/\(SqL X.K H p ys\/SqT X.K H p ys)/\Q (.int ys.length) H):=by
 intro pins s σ H xs us Q I r h
 obtain⟨p,ys,rfl,hq,q⟩:=h
 obtain⟨u,rfl,rx⟩:=mL r
 cases rx
 have hn:=kt
 rcases hq with hq | hq
 ·obtain⟨its,r',pl,hz⟩:=I.list hq
  have hlen:=r'.length
  exact Calls.call_len_list pl.isList (by simp only [List.size_toArray]<;>lia) ⟨.int ys.length,H,I.tok _,⟨s.toks+1,by rw [List.size_toArray,hlen]⟩,q⟩
 ·obtain⟨its,r',pl,hz⟩:=I.tuple hq
  have hlen:=r'.length
  exact len_tuple pl (by simp only [List.size_toArray]<;>lia) ⟨.int ys.length,H,I.tok _,⟨s.toks+1,by rw [List.size_toArray,hlen]⟩,q⟩
theorem pW:dw X (.builtin "len") (λxs H Q=>∃ z,xs=[.str z]/\z.length<=sizeLine/\Q (.int z.length) H):=by
 intro pins s σ H xs us Q I r h
 obtain⟨z,rfl,hz,q⟩:=h
 obtain⟨u,rfl,t,rfl⟩:=mL r
 have hn:=kt
 exact len_str (by lia) ⟨.int z.length,H,I.tok _,⟨_,rfl⟩,q⟩
theorem pF:dw X (.type "list") (λxs H Q=>∃ p ys,xs=[.ref p]/\(SqL X.K H p ys\/SqT X.K H p ys)/\∀ l,H l=none->Q (.ref l) (upd H l (.lst ys))):=by
 intro pins s σ H xs us Q I r h
 obtain⟨p,ys,rfl,hq,q⟩:=h
 obtain⟨u,rfl,rx⟩:=mL r
 cases rx
 have fin:∀ (its:List Value),aV ys its->ys.length<=sizeLine->∀ (h':Heap) (c':Nat),(∀ b o',s.heap.get? b=some o'->h'.get? b=some o')->
   h'.get? s.heap.objs.size=some { cls:=.type "list",dict:=none,data:=.seq its.toArray c',slots:=#[] }->EP X pins σ Q (.ref s.heap.objs.size) { s with heap:=h' }:=λits r' hz h' c' kp e=>
  ⟨.ref s.heap.objs.size,_,I.laid (t':=s.toks) kp (Nat.le_refl _) (show dB X.prog X.w _ h' _ (.lst ys) from ⟨hz,its,c',r',e⟩),rfl,q _ (I.hok.fresh (Nat.le_refl _))⟩
 rcases hq with hq | hq
 ·obtain⟨its,r',pl,hz⟩:=I.list hq
  have hlen:=r'.length
  obtain⟨o,ho,hc,n,hd⟩:=pl.isList
  exact call_list_seq p (.inl rfl) ho hc hd (λh' c' kp e=>fin its r' hz h' c' kp e) (by simp only [List.size_toArray]<;>lia)
 ·obtain⟨its,r',pl,hz⟩:=I.tuple hq
  have hlen:=r'.length
  obtain⟨o,ho,hc,n,hd⟩:=pl
  exact call_list_seq p (.inr rfl) ho hc hd (λh' c' kp e=>fin its r' hz h' c' kp e) (by simp only [List.size_toArray]<;>lia)
theorem ox:dw X (.type "tuple") (λxs H Q=>∃ p ys,xs=[.ref p]/\((SqL X.K H p ys/\∀ l,H l=none->Q (.ref l) (upd H l (.tup ys)))\/(SqT X.K H p ys/\Q (.ref p) H))):=by
 intro pins s σ H xs us Q I r h
 obtain⟨p,ys,rfl,h⟩:=h
 obtain⟨u,rfl,rx⟩:=mL r
 cases rx
 rcases h with⟨hq,q⟩ | ⟨hq,q⟩
 ·obtain⟨its,r',pl,hz⟩:=I.list hq
  have hlen:=r'.length
  refine call_tuple_list pl.isList (λh' kp=>?_) (by simp only [List.size_toArray]<;>lia)
  have I1:Inv X pins σ H { s with heap:=h' }:=I.kept (t':=s.toks) kp
  have I2:Inv X pins σ (upd H h'.objs.size (.tup ys)) { s with heap:=h'.push { cls:=.type "tuple",data:=.seq its.toArray } }:=
   I1.laid (t':=s.toks) (λb o e=>Heap.get?_push_of_some _ e) (Nat.le_refl _) (show dB X.prog X.w _ _ _ (.tup ys) from ⟨hz,its,r',eP.new _ _⟩)
  exact⟨.ref h'.objs.size,_,I2,rfl,q _ (I1.hok.fresh (Nat.le_refl _))⟩
 ·obtain⟨its,r',pl,hz⟩:=I.tuple hq
  exact call_tuple_same pl ⟨.ref p,H,I,rfl,q⟩
noncomputable def tyV (K:PySem.W.Frag) (T:String) (x:V) (H:Hp):Prop:=match x with
 | .str _=>T = "str"
 | .int _=>T = "int"
 | .ref p=>(T = "list"/\∃ xs,SqL K H p xs)\/(T = "tuple"/\((∃ o,K.lookup p=some o/\o.cls=.type "tuple"/\o.dict=none)\/∃ xs,SqT K H p xs))\/
   (T = "dict"/\((∃ kvs,H p=some (.dK kvs))\/∃ kvs,H p=some (.dT kvs)))\/(T = "set"/\∃ S n,H p=some (.set S n))
 | _=>False
theorem Ac {pins:List (Addr×Obj)}{σ:St}{H:Hp}{s:Shared}{T:String}{x:V}{v:Value} (I:Inv X pins σ H s) (r:bJ x v) (ty:tyV X.K T x H) :
  s.TypeIs v T/\∀ a,v=.ref a->∃ ob,s.heap.get? a=some ob/\ob.dict=none:=by
 cases x with
 | str z=>
  obtain⟨t,rfl⟩:=r
  cases (show T = "str" from ty)
  exact⟨typeIs_str s z t,λ_ e=>nomatch e⟩
 | int i=>
  obtain⟨t,rfl⟩:=r
  cases (show T = "int" from ty)
  exact⟨typeIs_int s i t,λ_ e=>nomatch e⟩
 | ref p=>
  cases r
  rcases ty with⟨rfl,xs,hq⟩ | ⟨rfl,ht⟩ | ⟨rfl,hk⟩ | ⟨rfl,S,n,hk⟩
  ·obtain⟨its,_,pl,_⟩:=I.list hq
   refine⟨pl.isList.typeIs,λa e=>?_⟩
   cases e
   obtain⟨o,n,e,c,hd,_⟩:=pl
   exact⟨o,e,hd⟩
  ·have z:∃ o:Obj,s.heap.get? p=some o/\o.cls=.type "tuple"/\o.dict=none:=by
    rcases ht with⟨o,hk,hc,hd⟩ | ⟨xs,hq⟩
    ·exact⟨o,I.kIn p o hk,hc,hd⟩
    ·exact I.tuple1 hq
   obtain⟨o,e1,hc,hd⟩:=z
   refine⟨⟨o,e1,hc⟩,λa e=>?_⟩
   cases e
   exact⟨o,e1,hd⟩
  ·have z:∃ o,s.heap.get? p=some o/\o.ExactDict:=by
    rcases hk with⟨kvs,hk⟩ | ⟨kvs,hk⟩
    ·obtain⟨_,_,_,_,o,_,_,e,ex,_⟩:=I.hok p _ hk
     exact⟨o,e,ex⟩
    ·obtain⟨_,_,_,_,o,_,_,e,ex,_⟩:=I.hok p _ hk
     exact⟨o,e,ex⟩
   obtain⟨o,e,ex⟩:=z
   refine⟨⟨o,e,ex.1⟩,λa e2=>?_⟩
   cases e2
   exact⟨o,e,ex.2.1⟩
  ·obtain⟨o,_,_,_,e,ex,_⟩:=I.hok p _ hk
   refine⟨⟨o,e,ex.1⟩,λa e2=>?_⟩
   cases e2
   exact⟨o,e,ex.2.1⟩
 | _=>exact False.elim ty
noncomputable def tBM (K:PySem.W.Frag) (T:String) (r:V->List V->Hp->VK->Prop) (to:TE) (t:TA):TE:=λσ H Q=>to σ H λx H1=>tyV K T x H1/\t σ H1 λxs H2=>r x xs H2 Q
variable {o e:Expr}{es:List Expr}{to:TE}{t:TA}{name:Str}{apos cpos:Pos}{T id:String}{r:V->List V->Hp->VK->Prop}
theorem yK (pa:PlainAttrs T) (slot:Slot T name id) (hty:typeOf (.builtin id)=pure (.type "method_descriptor")) (hm:MtR X id r) (ho:PE X o to) (ha:PA X (e::es) t)
  (hbase:attributeBase o name X.env (eval o X.env)=eval o X.env:=by rfl)
  (hfew:((backTo cpos (starEach (e::es) X.env)).all (λx=>!x.1) && (backToKw cpos (keywordEach [] X.env)).all (λx=>x.1.isSome)
    && decide ((e::es).length+([]:List Keyword).length+(if ([]:List Keyword).isEmpty then 0 else 1) < 30))=true:=by rfl)
  (hline:(apos.endLine==cpos.line)=true:=by rfl) (hs:starEach (e::es) X.env=(false,eval e X.env)::starEach es X.env:=by rfl) (hplain:(backTo cpos (starEach es X.env)).any (·.1)=false:=by rfl) :
  PE X (.Call (.Attribute o name apos) (e::es) [] cpos) (tBM X.K T r to t):=by
 intro pins s σ H Q I h
 refine wpAny_Call_method_late hbase hfew hline rfl (thn (ho pins s σ H _ I h) λv s1 ⟨x,H1,I1,r1,ty,q1⟩=>?_)
 obtain⟨h1,h2⟩:=Ac I1 r1 ty
 refine⟨T,id,pa,slot,hty,h1,h2,?_⟩
 have hA:=ha cpos pins s1 σ H1 _ I1 q1
 rw [hs] at hA ⊢
 refine Calls.callWith_builtin (by show (false || (backTo cpos (starEach es X.env)).any (·.1))=false;rw [hplain]<;>rfl) (Calls.evalArgs_plain ?_)
 exact thn hA λus s2 ⟨vs,H2,I2,r2,q2⟩=>hm pins s2 σ H2 x vs v us Q I2 r1 r2 q2
end
end L2
namespace L2
open PySem PySem.Spec PyProof.Rows
noncomputable def MtM (X:Cx) (id:String) (r:V->List V->Hp->VK->Prop):Prop:=
 ∀ (pins:List (Addr×Obj)) (s:Shared) (σ:St) (H:Hp) (x:V) (xs:List V) (v:Value) (us:List Value) (Q:VK),Inv X pins σ H s->bJ x v->aV xs us->r x xs H Q->
  wpAny (model X.prog X.w) X.A (call (.builtin id) (v::us)) (EP X pins σ Q) X.xe s
theorem aV.one:∀ {x:V}{us:List Value},aV [x] us->∃ u,us=[u]/\bJ x u
 | _,_,.cons r .nil=>⟨_,rfl,r⟩
theorem aV.two {x y:V}{us:List Value} (h:aV [x,y] us):∃ u v,us=[u,v]/\bJ x u/\bJ y v:=by
 cases h with
 | cons r t=>cases t with
  | cons q t2=>cases t2;exact⟨_,_,rfl,r,q⟩
theorem aV.rep {xs:List V}{us:List Value} (h:aV xs us):∀ k:Nat,aV (List.replicate k xs).flatten (List.replicate k us).flatten
 | 0=>.nil
 | k+1=>by
  rw [List.replicate_succ,List.replicate_succ,List.flatten_cons,List.flatten_cons]
  exact aV.append h (aV.rep h k)
theorem lJ (its:List Value):∀ (k:Nat) (acc:List Value),
  List.foldl (λx1 x2=>x1++x2) acc.toArray (List.replicate k its.toArray)=(acc++(List.replicate k its).flatten).toArray
 | 0,acc=>by simp
 | k+1,acc=>by
  have e:acc.toArray++its.toArray=(acc++its).toArray:=by simp
  have e2:(acc++its)++(List.replicate k its).flatten=acc++(List.replicate (k+1) its).flatten:=by
   rw [List.replicate_succ,List.flatten_cons,List.append_assoc]
  rw [<-e2,<-lJ its k (acc++its),<-e,List.replicate_succ,List.foldl_cons]
section
variable {X:Cx}{pins:List (Addr×Obj)}{σ:St}{H:Hp}{s:Shared}{l b:Addr}{xs ys zs:List V}
theorem Inv.lset {its its':List Value}{n:Nat}{f:Array Value->Array Value}{t':Nat} (I:Inv X pins σ H s) (hH:H l=some (.lst xs))
  (e:s.heap.get? l=some { cls:=.type "list",data:=.seq its.toArray n }) (hf:f its.toArray=its'.toArray) (hv:aV ys its') (hz:ys.length<=sizeLine) :
  Inv X pins σ (upd H l (.lst ys)) { s with heap:=s.heap.update l (Obj.mapSeq f),toks:=t' }:=by
 have q:=PySem.IsL.update e f
 rw [hf] at q
 refine I.write (x:=l) (e:=l) (by rw [hH];exact trivial) (.inl rfl) (λb' u hb hu=>(Heap.get?_update_other s.heap (Obj.mapSeq f) (Ne.symm hb)).trans hu) ⟨_,q⟩ ?_
 exact⟨hz,its',_,hv,q⟩
theorem Inv.lnew {its:List Value}{t':Nat} (I:Inv X pins σ H s) (hv:aV ys its) (hz:ys.length<=sizeLine) :
  Inv X pins σ (upd H s.heap.objs.size (.lst ys)) { s with heap:=s.heap.push { cls:=.type "list",data:=.seq its.toArray },toks:=t' }:=
 I.laid (λ_ _ q=>Heap.get?_push_of_some _ q) (Nat.le_refl _) ⟨hz,its,0,hv,Heap.get?_push_size _ rfl⟩
theorem Inv.fresh (I:Inv X pins σ H s):H s.heap.objs.size=none:=I.hok.fresh (Nat.le_refl _)
theorem Inv.lstM (I:Inv X pins σ H s) (hH:H l=some (.lst xs)):xs.length<=sizeLine/\∃ (its:List Value) (n:Nat),aV xs its/\xs.length=its.length/\s.heap.get? l=some { cls:=.type "list",data:=.seq its.toArray n }:=by
 obtain⟨z,its,n,r,e⟩:=I.hok l _ hH
 exact⟨z,its,n,r,r.length,e⟩
theorem vV {n:Nat} (h:n<=sizeLine):Builtin.List.listTooLong n=false:=by
 unfold Builtin.List.listTooLong
 exact decide_eq_false (by lia)
end
section
variable {X:Cx}
noncomputable def xV:V->List V->Hp->VK->Prop:=λx vs H Q=>∃ l xs y,x=.ref l/\vs=[y]/\H l=some (.lst xs)/\xs.length < sizeLine/\Q .non (upd H l (.lst (xs++[y])))
theorem vE:MtM X "list.append" xV:=by
 intro pins s σ H x vs v us Q I rx rv h
 obtain⟨l,xs,y,rfl,rfl,hH,hz,q⟩:=h
 cases rx
 obtain⟨u,rfl,ru⟩:=rv.one
 obtain⟨z,its,n,r,hl,e⟩:=I.lstM hH
 refine call_meets F.slot_list_append ⟨_,e,rfl⟩ F.entry_list_append (F.args_list_append_2 _ _) (PySem.list_append l its.toArray n u (by rw [List.size_toArray];lia)) ⟨e,?_⟩
 refine⟨.non,_,I.lset (its':=its++[u]) hH e (by simp) (r.append (.cons ru .nil)) ?_,rfl,q⟩
 rw [List.length_append,List.length_singleton]
 lia
theorem qc {α:Type} (xs:List α) (k:Nat):(List.replicate k xs).flatten.length=k*xs.length:=by
 induction k with
 | zero=>simp
 | succ k ih=>rw [List.replicate_succ,List.flatten_cons,List.length_append,ih,Nat.succ_mul,Nat.add_comm]
end
section
variable {prog:Program}{w:World}{A:Around}{E:Value->Shared->Prop}{s:Shared}
end
section
variable {X:Cx}
end
end L2
namespace Att
open PySem PySem.W PySem.Calls PyProof.Rows
theorem md {P:Params}{h:Heap}:∀ (ns:List Int) (vs:List Value),WellAll P h vs (ns.map WData.int)->IntsAre vs ns:=by
 intro ns
 induction ns with
 | nil=>
  intro vs w
  rw [List.map_nil] at w
  cases w
  exact .nil
 | cons n ns ih=>
  intro vs w
  rw [List.map_cons] at w
  cases w with
  | cons a b=>
   cases a
   exact .cons _ _ (ih _ b)
theorem vh {l:OpenLaw}{n:Nat} (hn:l.most=some n) {P:Params}{h:Heap}{args:List WData}{vals:List Value}
  (hpre:l.row.toRowW.claim.pre args=true) (hwl:WellAll P h vals args) :
  ∃ a vs ns,vals=[Value.ref a]/\args=[WData.list (ns.map WData.int)]/\h.get? a=some { cls:=.type "list",data:=.seq vs.toArray }/\IntsAre vs ns/\ns.length<=n:=by
 have hsh:WShape.hasAll [] args [.list .int]=true:=(pre_splitW hpre).1
 have hc:l.pre.holds [] { args:=args }=true:=(pre_splitW hpre).2
 obtain⟨d,r,rfl,h1,h2⟩:=hasAllW_cons hsh
 obtain rfl:=hasAllW_nil h2
 obtain⟨xs,rfl,h3⟩:=hasW_list h1
 obtain⟨ns,rfl⟩:=items_int h3
 have hlen:ns.length<=n:=by
  unfold OpenLaw.pre at hc
  have h4:(WTm.not (.lt (.lit (.int (n:Int))) (.len (.arg 0)))).holds [] { args:=[.list (ns.map .int)] }=true:=by
   have h4:=(holds_andW hc).1
   rw [hn] at h4
   exact h4
  have h5:=condW_of h4 (w_not (w_lt w_lit (w_len_list (w_arg rfl))))
  rw [List.length_map] at h5
  refine Nat.le_of_not_lt λq=>?_
  have q':(n:Int) < ((ns.length:Nat):Int):=by lia
  first
   | (rw [decide_eq_true q'] at h5;exact absurd h5 (by decide))
   | (simp at h5;lia)
 cases hwl with
 | cons w1 w2=>
  cases w2
  cases w1 with
  | list ho hall=>exact⟨_,_,ns,rfl,rfl,ho,md ns _ hall,hlen⟩
theorem uZ (l:OpenLaw) (args:List WData):l.row.toRowW.claim.post args (.bool true) args=true:=
 postW_of (r:=l.row.toRowW) (X:=(true==true))
  (show WShape.has [] (.bool true) .bool=true by first | rfl | decide | simp [WShape.has,WShape.arms,WShape.armsAll])
  (show (WTm.eq .res (.lit (.bool true))).value [] { args:=args,res:=some (.bool true),after:=args }=some (.bool (true==true)) from w_eq_bool (w_res rfl) w_lit) rfl
theorem attach_call {l:OpenLaw}{n:Nat}{q:Program}{loose:List Str}{XP:(Str->Option Value)->Heap->Prop}{YP:World->Heap->Prop}{d:DefRec}
  (hn:l.most=some n) (hdf:d.params.defaults=[])
  (call:∀ (w:World) (s₀ s₁:Shared) (mg mb:Str->Option Value) (fa:Addr) (o:Obj) (pm cd doc:Value) (a:Addr) (vs:List Value) (ns:List Int),
    Ground q loose [] XP w s₀ mg mb s₁.heap->YP w s₁.heap->
    s₁.heap.get? fa=some o->o.data=.func (docDef d.name d.params d.body d.scope pm cd doc)->s₁.heap.CodeRec cd d.name->mg d.name=some (.ref fa)->
    s₁.heap.get? a=some { cls:=.type "list",data:=.seq vs.toArray }->IntsAre vs ns->ns.length<=n->s₁.gens=#[]->
    codeAny (model l.prog w) callerA (.call (.ref fa) ⟨[.ref a],[]⟩) (λr s'=>r=.ok (.ret (.bool true))/\OldK s₁.heap s'.heap/\s'.os=s₁.os/\AllBare s'.gens) s₁) :
  WalkO q loose XP YP l.row.toRowW d [] (λf vs=>PySem.call f vs):=by
 intro w s₀ s₁ mg mb G Y fa o pm cd doc dV kV ho hd hcd hD hmg hg args vals as hpre hlay hrd hwl hlo
 obtain rfl:dV=.none:=Dflts.none hD hdf
 obtain rfl:kV=.none:=Dflts.noKw hD
 obtain⟨a,vs,ns,rfl,rfl,hobj,hints,hlen⟩:=vh hn hpre hwl
 refine enter_call (codeAny_mono (call w s₀ s₁ mg mb fa o pm cd doc a vs ns G Y ho (fd_plain hd) hcd hmg hobj hints hlen hg) λr s' hq=>?_)
 obtain⟨rfl,h2,h3,h4⟩:=hq
 exact⟨.inl ⟨.bool true,.bool true,[],rfl,λ_=>rfl,.bool true,uZ l _,λ_=>⟨List.Pairwise.nil,λ_ hm=>(nomatch hm)⟩⟩,h2,h3,h4⟩
section
variable {prog:Program}{w:World}{A:Around}{E:Value->Shared->Prop}{s:Shared}{K:Frag}
end
end Att
namespace L2
open PySem PySem.Spec PyProof.Rows
theorem oV:∀ {vs:List Value}{ns:List Int},IntsAre vs ns->aV (ns.map V.int) vs
 | _,_,.nil=>.nil
 | _,_,.cons n t h=>.cons ⟨t,rfl⟩ (oV h)
noncomputable def yq (H:Hp):Prop:=∀ b,H b=none\/∃ o xs,H b=some (.frz o (.lst xs))
theorem vQ {P:Program}{w:World}{K:PySem.W.Frag}{mg mb:Str->Option Value}{CX:CXT}{k:Nat}{fa a:Addr}{fd:FuncData}{x:Str}{sp:Sp}{s₁:Shared}{vs:List Value}{ns:List Int}
  (KX:K.In s₁.heap) (hns:s₁.heap.Ns mainGlobals mg) (hb:s₁.heap.Ns builtinsNs mb) (hbb:∀ x:Str,x≠"__name__"->mb x=bootBuiltins x) (hlim:s₁.heap.NoLimit) (hg:s₁.gens=#[])
  (ha:s₁.heap.get? a=some { cls:=.type "list",data:=.seq vs.toArray }) (hi:IntsAre vs ns) (hl:ns.length<=sizeLine) (hr:dY k callerA)
  (F:∀ base:Heap,K.In base->base.Ns mainGlobals mg->bV P w K mg base CX k fa fd [x] sp) (hbind:∀ (s:Shared) (u:Value),BindsTo s fd ⟨[u],[]⟩ [(x,u)])
  (hsp:∀ H:Hp,yq H->SqL K H a (ns.map V.int)->sp [.ref a] H (λv _=>v=.bl true) λ_ _ _=>False)
  (hCX:∀ H e s',CX [] H s₁ (λ_ _ _=>False) e s'->False) :
  codeAny (model P w) callerA (.call (.ref fa) ⟨[.ref a],[]⟩) (λr s'=>r=.ok (.ret (.bool true))/\OldK s₁.heap s'.heap/\s'.os=s₁.os/\AllBare s'.gens) s₁:=by
 have rv:=oV hi
 have lenV:=hi.length
 -- from an abstract heap in which nothing but the script may be tracked
 have core:∀ H:Hp,yq H->SqL K H a (ns.map V.int)->HOk P w H s₁.heap->(∀ b,H b≠none->b=a)->(H a≠none->K.lookup a=none)->
   codeAny (model P w) callerA (.call (.ref fa) ⟨[.ref a],[]⟩) (λr s'=>r=.ok (.ret (.bool true))/\OldK s₁.heap s'.heap/\s'.os=s₁.os/\AllBare s'.gens) s₁:=by
  intro H hO hS hok hA hK
  have base_of:∀ {b:Addr}{o:Obj},s₁.heap.get? b=some o->H b=none->(pU s₁.heap H).get? b=some o:=λe n=>wk e n
  have noA:∀ {b:Addr}{o:Obj}{es:Array DictEntry}{ep:Nat},s₁.heap.get? b=some o->o.data=.dict es ep->H b=none:=λ{b o es ep} e d=>by
   cases q:H b with
   | none=>rfl
   | some u=>
    have e':b=a:=hA b (by rw [q];simp)
    subst e'
    rw [ha] at e;cases e
    have d':Data.seq vs.toArray _=Data.dict es ep:=d
    cases d'
  have nsK:∀ {b:Addr}{m:Str->Option Value},s₁.heap.Ns b m->(pU s₁.heap H).Ns b m:=λ{b m} ⟨o,es,ep,e,d,r⟩=>⟨o,es,ep,base_of e (noA e d),d,r⟩
  have hKb:K.In (pU s₁.heap H):=λb o e=>base_of (KX b o e) (by
   cases q:H b with
   | none=>rfl
   | some u=>
    have e':b=a:=hA b (by rw [q];simp)
    subst e'
    rw [hK (by rw [q];simp)] at e;cases e)
  have hM:Mod K mg (pU s₁.heap H):=⟨hKb,nsK hns,⟨mb,nsK hb,hbb⟩,let ⟨mc,h1,h2⟩:=hlim;⟨mc,nsK h1,h2⟩⟩
  have e0:tL P w K mg (pU s₁.heap H) callerA [] s₁ H:=⟨rfl,hM,λb o e=>yB e,Nat.le_of_eq (vk _ _),trivial,λb hb=>absurd (show b ∈ ([]:List Addr) from hb) (by simp),hok,.of_eq hg⟩
  refine codeAny_mono ((F _ hKb (nsK hns)).run callerA [] s₁ H ⟨[.ref a],[]⟩ [.ref a] [.ref a] _ _ hr e0 (hbind s₁ (.ref a)) (.cons rfl .nil) (hsp H hO hS)) λr s' h=>?_
  cases r with
  | error e=>exact (hCX H e s' h).elim
  | ok fl=>
   cases fl with
   | next=>exact False.elim h
   | brk=>exact False.elim h
   | cont=>exact False.elim h
   | ret u=>
    obtain⟨v,H',os,bare,un,hok',r',q⟩:=h
    have q':v=.bl true:=q
    subst q'
    obtain rfl:u=Value.bool true:=r'
    refine⟨rfl,OldK.of_keep λb o e=>?_,os,bare⟩
    cases q:H b with
    | none=>exact un.keep b o e q (by intro z;exact absurd (show b ∈ ([]:List Addr) from z) (by simp)) (by simp)
    | some u=>
     rcases hO b with z | ⟨ob,xs,z⟩
     ·rw [q] at z;cases z
     ·have z2:=un.frzs b ob _ z
      obtain⟨e1,_⟩:=hok b _ z
      obtain⟨e2,_⟩:=hok' b _ z2
      rw [e] at e1;cases e1
      exact e2
 cases hk:K.lookup a with
 | some o=>
  -- the script is one of the module's own objects
  have e:=KX a o hk
  rw [ha] at e
  cases e
  refine core (λ_=>none) (λ_=>.inl rfl) (.inr ⟨_,vs.toArray,_,hk,rfl,rfl,rfl,by rw [List.size_toArray,lenV];exact hl,by simpa using rv⟩) (λb u z=>by have z':(none:Option HO)=some u:=z;cases z') (λb z=>absurd rfl z) λz=>absurd rfl z
 | none=>
  refine core (λb=>if b=a then some (.frz { cls:=.type "list",data:=.seq vs.toArray } (.lst (ns.map V.int))) else none) (λb=>?_) (.inl (.inr ⟨{ cls:=.type "list",data:=.seq vs.toArray },if_pos rfl⟩)) (λb u z=>?_) (λb z=>?_) λ_=>hk
  ·by_cases hb:b=a
   ·exact .inr ⟨_,_,if_pos hb⟩
   ·exact .inl (if_neg hb)
  ·by_cases hb:b=a
   ·have z':=(if_pos hb).symm.trans z
    cases z'
    subst hb
    exact⟨ha,by rw [List.length_map];exact hl,vs,_,rv,ha⟩
   ·have z':=(if_neg hb).symm.trans z
    cases z'
  ·by_cases hb:b=a
   ·exact hb
   ·exact absurd (if_neg hb) z
end L2
namespace L2
open PySem PySem.Spec PyProof.Rows
theorem walk_of {l:PySem.W.OpenLaw}{n k:Nat}{q:Program}{loose:List Str}{XP:(Str->Option Value)->Heap->Prop}{YP:World->Heap->Prop}{d:DefRec}{K:Params->PySem.W.Frag}{CX:World->CXT}{sp:World->Sp}{x:Str}
  (hn:l.most=some n) (hn2:n<=sizeLine) (hdf:d.params.defaults=[]) (hr:dY k callerA)
  (hY:∀ (w:World) (h:Heap),YP w h->(K w.params).In h)
  (F:∀ (w:World) (mg:Str->Option Value) (fa:Addr) (h:Heap),(K w.params).In h->h.Ns mainGlobals mg->mg d.name=some (.ref fa)->
    ∃ fd:FuncData,(∀ (s:Shared) (u:Value),BindsTo s fd ⟨[u],[]⟩ [(x,u)])/\
     ∀ base:Heap,(K w.params).In base->base.Ns mainGlobals mg->bV l.prog w (K w.params) mg base (CX w) k fa fd [x] (sp w))
  (hsp:∀ (w:World) (H:Hp) (a:Addr) (ns:List Int),ns.length<=n->yq H->SqL (K w.params) H a (ns.map V.int)->sp w [.ref a] H (λv _=>v=.bl true) λ_ _ _=>False)
  (hCX:∀ (w:World) (H:Hp) (s:Shared) (e:Value) (s':Shared),CX w [] H s (λ_ _ _=>False) e s'->False) :
  PySem.W.WalkO q loose XP YP l.row.toRowW d [] (λf vs=>PySem.call f vs):=by
 refine Att.attach_call hn hdf λw s₀ s₁ mg mb fa o pm cd doc a vs ns G Y ho hd hcd hmg hobj hints hlen hg=>?_
 have KX:=hY w _ Y
 obtain⟨fd,hb,hF⟩:=F w mg fa _ KX G.T.g hmg
 exact vQ KX G.T.g G.T.b G.T.builtins G.T.nolimit hg hobj hints (Nat.le_trans hlen hn2) hr hF hb (λH hO hS=>hsp w H a ns hlen hO hS) λH e s'=>hCX w H s₁ e s'
end L2
namespace L2
open PySem PySem.Spec PyProof.Rows
noncomputable def aN (s:Stmt):Arguments:=match s with
 | .FunctionDef _ a _ _ _ _ _ _ _ _=>a
 | _=>{ posonlyargs:=[],args:=[],vararg:=none,kwonlyargs:=[],kw_defaults:=[],kwarg:=none,defaults:=[] }
noncomputable def aF (s:Stmt):List Stmt:=match s with
 | .FunctionDef _ _ b _ _ _ _ _ _ _=>b
 | _=>[]
noncomputable def ah (s:Stmt):Scope:=match s with
 | .FunctionDef _ _ _ _ _ _ sc _ _ _=>sc
 | _=>{ kind:=.function,names:=[],isGenerator:=false,isCoroutine:=false }
abbrev CX0:CXT:=λ_ _ _ _ _ _=>False
abbrev E0:XK:=λ_ _ _=>False
theorem vY {X:Cx}:mU CX0 X E0:=λ_ _ _ _ _ _ _ h=>h.elim
structure Fun (K:PySem.W.Frag) (x qual:Str) (st:Stmt) (f:Addr) (fd:FuncData):Prop where
 ex:∃ (oc:Value) (od:Option Addr) (kV doc pm:Value) (an:Option Addr) (cdv ct:Value) (osl:Array (Option Value)),
  fd=PySem.W.fnOf x qual (aN st) (aF st) (ah st) .none kV doc pm an cdv ct/\K.lookup f=some ⟨oc,od,.func fd,osl⟩/\PySem.W.codeIn K cdv qual=true
 kp:PySem.W.keepIn K (.ref f)=true
section
variable {P:Program}{w:World}{K:PySem.W.Frag}{mg:Str->Option Value}{base:Heap}
theorem Fun.ok {x qual:Str}{st:Stmt}{f:Addr}{fd:FuncData}{N ps:List Str}{k:Nat}{sp:Sp} (F:Fun K x qual st f fd) (S:aK N ps (ah st)) (len:∀ vs H Q E,sp vs H Q E->vs.length=ps.length)
  (hbody:∀ (cdv:Value) (A:Around) (outer:List Env) (s:Shared) (H:Hp) (vs:List V) (Q:VK) (E:XK),dY k (A.deeper (envOfC qual (ah st) s.heap.objs.size f cdv))->sp vs H Q E->
    ∃ t,PSs (n5 CX0 P w K mg base N qual (ah st) f cdv A outer s H E).nox (aF st) t/\t { nx:=λ_ H'=>Q .non H',rt:=Q } (hU N vs) H):bV P w K mg base CX0 (k+1) f fd ps sp:=by
 obtain⟨oc,od,kV,doc,pm,an,cdv,ct,osl,rfl,lk,hcd⟩:=F.ex
 refine BA lk hcd S len λA outer s H vs Q E hr hsp=>?_
 obtain⟨t,h,q⟩:=hbody cdv A outer s H vs Q E hr hsp
 exact⟨t,h.nox,q⟩
theorem Fun.binds {x qual:Str}{st:Stmt}{f:Addr}{fd:FuncData}{ps:List Str} (F:Fun K x qual st f fd)
  (h:∀ (kV doc pm:Value) (an:Option Addr) (cdv ct:Value) (us:List Value),us.length=ps.length->bindArgs (PySem.W.fnOf x qual (aN st) (aF st) (ah st) .none kV doc pm an cdv ct) ⟨us,[]⟩=pure (ps.zip us)):bE K fd ps []:=by
 obtain⟨oc,od,kV,doc,pm,an,cdv,ct,osl,rfl,lk,hcd⟩:=F.ex
 exact .all (h kV doc pm an cdv ct)
theorem bu {x qual:Str}{st:Stmt}{f:Addr}{oc:Value}{od an:Option Addr}{osl:Array (Option Value)}{kV doc pm cdv ct:Value} (l:K.lookup f=some ⟨oc,od,.func (PySem.W.fnOf x qual (aN st) (aF st) (ah st) .none kV doc pm an cdv ct),osl⟩)
  (c:PySem.W.codeIn K cdv qual=true) (k:PySem.W.keepIn K (.ref f)=true):Fun K x qual st f (PySem.W.fnOf x qual (aN st) (aF st) (ah st) .none kV doc pm an cdv ct):=⟨⟨oc,od,kV,doc,pm,an,cdv,ct,osl,rfl,l,c⟩,k⟩
end
theorem vm {n:Nat} (h:n<=1000):n < sizeLine:=Nat.lt_of_le_of_lt h (by decide)
section
variable {X:Cx}
end
theorem sR {A B:Prop} (h:B):if false=true then A else B:=by
 rw [if_neg Bool.false_ne_true]
 exact h
theorem tX {A B:Prop} (h:A):if true=true then A else B:=by
 rw [if_pos rfl]
 exact h
noncomputable def bB (H H':Hp):Prop:=∀ b o,H b=some o->H' b=some o
theorem bB.refl (H:Hp):bB H H:=λ_ _ h=>h
theorem bB.trans {H H1 H2:Hp} (a:bB H H1) (b:bB H1 H2):bB H H2:=λc o h=>b c o (a c o h)
end L2
namespace L2
open PySem PySem.Spec PyProof.Rows
noncomputable def cH (cells:List (Str×Addr)):List (Str×NameKind)->List (Str×Addr)->List (Str×Addr)
 | [],acc=>acc
 | (n,k)::r,acc=>if k==.free then cH cells r ((n,(cells.lookup n).getD 0)::acc) else cH cells r acc
theorem kB {env:Env} (f:Str×NameKind->List (Str×Addr)->Sem (ForInStep (List (Str×Addr))))
  (hf:∀ n k cs,f (n,k) cs=if k==.free then (do let c <-cellOf env n;pure (.yield ((n,c)::cs))) else pure (.yield cs)) :
  ∀ (names:List (Str×NameKind)) (acc:List (Str×Addr)),(∀ x ∈ names,x.2=.free->∃ c,env.cells.lookup x.1=some c)->
   forIn names acc f=pure (cH env.cells names acc)
 | [],acc,_=>by rw [List.forIn_nil];rfl
 | (n,k)::r,acc,h=>by
  rw [List.forIn_cons,hf]
  unfold cH
  by_cases hk:(k==.free)=true
  ·obtain⟨c,hc⟩:=h (n,k) List.mem_cons_self (beq_iff_eq.mp hk)
   have hc':env.cells.lookup n=some c:=hc
   rw [if_pos hk,if_pos hk]
   have:cellOf env n=pure c:=by unfold cellOf;rw [hc']
   rw [this,hc']
   simp only [pure_bind,Option.getD_some]
   exact kB f hf r _ λx hx=>h x (List.mem_cons_of_mem _ hx)
  ·rw [if_neg hk,if_neg hk]
   simp only [pure_bind]
   exact kB f hf r _ λx hx=>h x (List.mem_cons_of_mem _ hx)
theorem kl {scope:Scope}{env:Env} (h:∀ x ∈ scope.names,x.2=.free->∃ c,env.cells.lookup x.1=some c) :
  closureFor scope env=pure (cH env.cells scope.names []):=by
 simp only [closureFor]
 rw [kB (env:=env) _ (λn k cs=>by cases hk:k==NameKind.free<;>simp [hk]) scope.names [] h]
 simp
theorem iB {cells:List (Str×Addr)}:∀ (names:List (Str×NameKind)) (acc:List (Str×Addr)) {x:Str}{c:Addr},(cH cells names acc).lookup x=some c->
  acc.lookup x=some c\/((x,NameKind.free) ∈ names/\c=(cells.lookup x).getD 0)
 | [],_,_,_,h=>.inl h
 | (n,k)::r,acc,x,c,h=>by
  unfold cH at h
  by_cases hk:(k==.free)=true
  ·rw [if_pos hk] at h
   rcases iB r _ h with q | ⟨q1,q2⟩
   ·rw [List.lookup_cons] at q
    cases hx:x==n with
    | true=>
     rw [hx] at q
     have e:=beq_iff_eq.mp hx
     subst e
     exact .inr ⟨by rw [<-beq_iff_eq.mp hk];exact List.mem_cons_self,(Option.some.inj q).symm⟩
    | false=>rw [hx] at q;exact .inl q
   ·exact .inr ⟨List.mem_cons_of_mem _ q1,q2⟩
  ·rw [if_neg hk] at h
   rcases iB r _ h with q | ⟨q1,q2⟩
   ·exact .inl q
   ·exact .inr ⟨List.mem_cons_of_mem _ q1,q2⟩
theorem ie {cells:List (Str×Addr)}{x:Str}:∀ (names:List (Str×NameKind)) (acc:List (Str×Addr)),((x,NameKind.free) ∈ names\/(acc.lookup x).isSome=true)->((cH cells names acc).lookup x).isSome=true
 | [],_,h=>h.elim (λz=>nomatch z) id
 | (n,k)::r,acc,h=>by
  unfold cH
  by_cases hk:(k==.free)=true
  ·rw [if_pos hk]
   refine ie r _ ?_
   rcases h with h | h
   ·rcases List.mem_cons.mp h with e | h
    ·cases e
     exact .inr (by rw [List.lookup_cons,beq_self_eq_true];rfl)
    ·exact .inl h
   ·refine .inr ?_
    rw [List.lookup_cons]
    cases x==n
    ·exact h
    ·rfl
  ·rw [if_neg hk]
   refine ie r _ ?_
   rcases h with h | h
   ·rcases List.mem_cons.mp h with e | h
    ·cases e;exact absurd rfl hk
    ·exact .inl h
   ·exact .inr h
theorem fz:∀ (names:List (Str×NameKind)) (n:Nat) (acc:List (Str×Addr)) {x:Str}{c:Addr},(cellsFrom n names acc).lookup x=some c->acc.lookup x=some c\/((x,NameKind.cell) ∈ names/\n<=c)
 | [],_,_,_,_,h=>.inl h
 | (m,k)::r,n,acc,x,c,h=>by
  unfold cellsFrom at h
  by_cases hk:(k==.cell)=true
  ·rw [if_pos hk] at h
   rcases fz r _ _ h with q | ⟨q1,q2⟩
   ·rw [List.lookup_cons] at q
    cases hx:x==m with
    | true=>
     rw [hx] at q
     have e:=beq_iff_eq.mp hx
     subst e
     exact .inr ⟨by rw [<-beq_iff_eq.mp hk];exact List.mem_cons_self,by rw [Option.some.inj q];exact Nat.le_refl _⟩
    | false=>rw [hx] at q;exact .inl q
   ·exact .inr ⟨List.mem_cons_of_mem _ q1,Nat.le_of_succ_le q2⟩
  ·rw [if_neg hk] at h
   rcases fz r _ _ h with q | ⟨q1,q2⟩
   ·exact .inl q
   ·exact .inr ⟨List.mem_cons_of_mem _ q1,q2⟩
theorem n4:∀ (names:List (Str×NameKind)) (n:Nat) (acc:List (Str×Addr)),(∀ p ∈ acc,p.2 < n)->∀ {x y:Str}{c:Addr},(cellsFrom n names acc).lookup x=some c->(cellsFrom n names acc).lookup y=some c->n<=c->x=y:=by
 have key:∀ (names:List (Str×NameKind)) (n:Nat) (acc:List (Str×Addr)) (lo:Nat),lo<=n->(∀ p ∈ acc,p.2 < n)->(∀ p ∈ acc,∀ q ∈ acc,lo<=p.2->p.2=q.2->p.1=q.1)->
   ∀ p ∈ cellsFrom n names acc,∀ q ∈ cellsFrom n names acc,lo<=p.2->p.2=q.2->p.1=q.1:=by
  intro names
  induction names with
  | nil=>intro n acc lo _ _ h;exact h
  | cons z r ih=>
   intro n acc lo hlo hlt h
   obtain⟨m,k⟩:=z
   unfold cellsFrom
   by_cases hk:(k==.cell)=true
   ·rw [if_pos hk]
    refine ih _ _ lo (Nat.le_succ_of_le hlo) (λp hp=>?_) (λp hp q hq l e=>?_)
    ·rcases List.mem_cons.mp hp with e | hp
     ·rw [e];exact Nat.lt_succ_self _
     ·exact Nat.lt_succ_of_lt (hlt p hp)
    ·rcases List.mem_cons.mp hp with e1 | hp<;>rcases List.mem_cons.mp hq with e2 | hq
     ·rw [e1,e2]
     ·rw [e1] at e;exact absurd (hlt q hq) (by rw [<-e];exact Nat.lt_irrefl _)
     ·rw [e2] at e;exact absurd (hlt p hp) (by rw [e];exact Nat.lt_irrefl _)
     ·exact h p hp q hq l e
   ·rw [if_neg hk]
    exact ih _ _ lo hlo hlt h
 intro names n acc hlt x y c hx hy hc
 exact key names n acc n (Nat.le_refl _) hlt (λp hp q hq l _=>absurd (hlt p hp) (Nat.not_lt.mpr l)) _ (PySem.mem_of_lookup hx) _ (PySem.mem_of_lookup hy) hc rfl
theorem fY:∀ (names:List (Str×NameKind)) (h:Heap) (acc:List (Str×Addr)),(∀ p ∈ acc,∃ v,h.IsCell p.2 v)->∀ p ∈ cellsFrom h.objs.size names acc,∃ v,(pushCells h names).IsCell p.2 v
 | [],_,_,h=>h
 | (m,k)::r,h,acc,hc=>by
  unfold cellsFrom pushCells
  by_cases hk:(k==.cell)=true
  ·rw [if_pos hk,if_pos hk]
   have:=fY r (h.push { cls:=.type "cell",data:=.cell none }) ((m,h.objs.size)::acc) (λp hp=>by
    rcases List.mem_cons.mp hp with e | hp
    ·rw [e];exact⟨none,_,Heap.get?_push_size _ rfl,rfl⟩
    ·obtain⟨v,z⟩:=hc p hp
     exact⟨v,z.keeps λb o e=>Heap.get?_push_of_some _ e⟩)
   rwa [Heap.size_push] at this
  ·rw [if_neg hk,if_neg hk]
   exact fY r h acc hc
theorem gk {names:List (Str×NameKind)} (nd:(names.map (·.1)).Nodup):∀ {x:Str}{k:NameKind},(x,k) ∈ names->names.lookup x=some k:=by
 induction names with
 | nil=>intro x k h;cases h
 | cons z r ih=>
  intro x k h
  obtain⟨m,k'⟩:=z
  rw [List.map_cons,List.nodup_cons] at nd
  rw [List.lookup_cons]
  rcases List.mem_cons.mp h with e | h
  ·cases e;rw [beq_self_eq_true]
  ·have:(x==m)=false:=beq_eq_false_iff_ne.mpr λe=>nd.1 (e ▸ List.mem_map.mpr ⟨(x,k),by assumption,rfl⟩)
   rw [this]
   exact ih nd.2 h
theorem fk {env:Env}:∀ {names:List (Str×NameKind)}{x:Str}{k:NameKind},
  (names.map λ(n,k)=>if (k==NameKind.free && env.scope.kind==.function && env.kindOf n==some .cell) then (n,NameKind.cell) else (n,k)).lookup x=some k->
  ∃ k0,names.lookup x=some k0/\(k=k0\/(k0=.free/\k=.cell))
 | [],_,_,h=>by cases h
 | (n,k0)::r,x,k,h=>by
  rw [List.map_cons] at h
  dsimp only at h
  rw [List.lookup_cons]
  by_cases hc:(k0==NameKind.free && env.scope.kind==.function && env.kindOf n==some .cell)=true
  ·rw [if_pos hc,List.lookup_cons] at h
   cases hx:x==n with
   | true=>
    rw [hx] at h
    refine⟨k0,rfl,.inr ⟨?_,(Option.some.inj h).symm⟩⟩
    simp only [Bool.and_eq_true] at hc
    exact beq_iff_eq.mp hc.1.1
   | false=>rw [hx] at h;exact fk h
  ·rw [if_neg hc,List.lookup_cons] at h
   cases hx:x==n with
   | true=>rw [hx] at h;exact⟨k0,rfl,.inl (Option.some.inj h).symm⟩
   | false=>rw [hx] at h;exact fk h
theorem iZ {env:Env}:∀ {names:List (Str×NameKind)}{x:Str},names.lookup x=some .free->
  (names.map λ(n,k)=>if (k==NameKind.free && env.scope.kind==.function && env.kindOf n==some .cell) then (n,NameKind.cell) else (n,k)).lookup x=some .free\/
  (names.map λ(n,k)=>if (k==NameKind.free && env.scope.kind==.function && env.kindOf n==some .cell) then (n,NameKind.cell) else (n,k)).lookup x=some .cell
 | [],_,h=>by cases h
 | (n,k0)::r,x,h=>by
  rw [List.map_cons]
  dsimp only
  rw [List.lookup_cons] at h
  by_cases hc:(k0==NameKind.free && env.scope.kind==.function && env.kindOf n==some .cell)=true
  ·rw [if_pos hc,List.lookup_cons]
   cases hx:x==n with
   | true=>exact .inr rfl
   | false=>rw [hx] at h;exact iZ h
  ·rw [if_neg hc,List.lookup_cons]
   cases hx:x==n with
   | true=>rw [hx] at h;exact .inl h
   | false=>rw [hx] at h;exact iZ h
theorem kY {M:Model}{A:Around}{E:Value->Shared->Prop}{s:Shared}{scope:Scope}{env:Env}{cl:List (Str×Addr)}{Q:Env->Shared->Prop}
  (hQ:Q (newEnv scope s.heap.objs.size env.globals (cellsFrom (s.heap.objs.size+1) scope.names cl) env.qual none .none (some env) builtinsNs)
    { s with heap:=pushCells (s.heap.push { cls:=.type "dict",data:=.dict #[] }) scope.names }) :
  wpAny M A (newFunctionEnv scope env.globals cl [] env.qual none .none (some env)) Q E s:=by
 simp only [newFunctionEnv,Option.isSome_some,if_true]
 refine wpAny_bind (wpAny_alloc ?_)
 refine wpAny_bind (wpAny_layCells _ (λname kind cells=>by cases hkc:kind==NameKind.cell<;>simp [hkc]) _ _ _ _ ?_)
 rw [show ({ s with heap:=s.heap.push { cls:=.type "dict",data:=.dict #[] } }:Shared).heap.objs.size=s.heap.objs.size+1 from Heap.size_push ..]
 refine wpAny_bind ?_
 rw [List.forIn_nil]
 exact wpAny_pure (wpAny_pure hQ)
theorem fR {prog:Program}{w:World}{A:Around}{R:Result->Shared->Prop}{s:Shared}{elt target iter:Expr}{ifs:List Expr}{scope:Scope}{pos:Pos}{it acc:Value}{env:Env} (I:Nat->Shared->Prop)
  (turn:∀ n s,I n s->wpAny (model prog w) A (pyNext it) (λr s₁=>match r with
    | none=>R (.ok .next) s₁
    | some v=>wpAny (model prog w) A (letOwnedTupleGo target it v) (λ_ s₁'=>wpAny (model prog w) A (assign target env v) (λ_ s₂=>
      wpAny (model prog w) A (forIn ifs true λc r=>if r=true then do let ok <-isTrue c env (eval c env);pure (ForInStep.yield ok) else pure (ForInStep.yield r)) (λok s₃=>
       if ok=true then wpAny (model prog w) A (eval elt env) (λx s₄=>
        wpAny (model prog w) A (call (.builtin "list.append") [acc,x]) (λ_ s₅=>∃ m,m < n/\I m s₅) (λ_ _=>False) s₄) (λ_ _=>False) s₃
       else ∃ m,m < n/\I m s₃) (λ_ _=>False) s₂) (λ_ _=>False) s₁') (λ_ _=>False) s₁) (λ_ _=>False) s)
  (n:Nat) (h:I n s) :
  codeAny (model prog w) A (.compLoop (.ListComp elt [⟨target,iter,ifs,0⟩] scope pos) 0 it acc env) R s:=by
 refine codeAny_loop rfl I (λn s hI=>?_) n h
 show wpAny _ A ((compTurn (.ListComp elt [⟨target,iter,ifs,0⟩] scope pos) 0 it acc env).onRaise (λx=>do noteFrame x env;theTreesLotGoes x)) _ _ s
 refine wpAny_noted ?_
 rw [compTurn_list]
 refine wpAny_bind (wpAny_standAt (wpAny_bind (wpAny_mono (turn n s hI) (λr s₁ h₁=>?_) λ_ _ h'=>h'.elim)))
 cases r with
 | none=>exact wpAny_pure h₁
 | some v=>
  refine wpAny_bind (wpAny_mono h₁ (λ_ s₁' h₁'=>?_) λ_ _ h'=>h'.elim)
  refine wpAny_bind (wpAny_mono h₁' (λ_ s₂ h₂=>wpAny_bind (wpAny_mono h₂ (λok s₃ h₃=>?_) λ_ _ h'=>h'.elim)) λ_ _ h'=>h'.elim)
  cases ok with
  | false=>exact wpAny_pure ⟨rfl,h₃⟩
  | true=>
   exact wpAny_bind (wpAny_bind (wpAny_mono h₃ (λx s₄ h₄=>wpAny_bind (wpAny_mono h₄ (λ_ s₅ h₅=>wpAny_pure (wpAny_pure ⟨rfl,h₅⟩)) λ_ _ h'=>h'.elim)) λ_ _ h'=>h'.elim))
noncomputable def lcX (X:Cx) (scope:Scope) (cells:List (Str×Addr)) (Nc:List Str) (s:Shared) (H:Hp) (C:Addr) (fp:List Addr):Cx where
 prog:=X.prog
 w:=X.w
 K:=X.K
 mg:=X.mg
 base:=X.base
 A:=X.A
 N:=Nc
 s₀:=s
 H₀:=H
 env:=compEnvC scope cells C X.env
 outer:=X.stack
 stack:=X.stack
 ex:=fp
 fn:=λx=>scope.names.lookup x==some .cell
 calm:=X.calm
 pn:=[]
 xe:=λ_ _=>False
structure fN (X:Cx) (scope:Scope) (Nc:List Str) (emb:St->St):Prop where
 kind:scope.kind=.function
 nd:(scope.names.map (·.1)).Nodup
 nN:Nc.Nodup
 free:∀ x ∈ scope.names,x.2=.free->X.env.kindOf x.1=some .cell\/X.env.kindOf x.1=some .free
 len:∀ σ:St,σ.length=X.N.length->(emb σ).length=Nc.length
 emb:∀ σ:St,σ.length=X.N.length->∀ (i:Nat) (x:Str) (v:V),Nc[i]?=some x->(emb σ)[i]?=some (some v)->∃ j:Nat,X.N[j]?=some x/\σ[j]?=some (some v)/\scope.names.lookup x=some .free
section
variable {X:Cx}{pins:List (Addr×Obj)}{σ:St}{H:Hp}{s:Shared}{scope:Scope}{Nc:List Str}{emb:St->St}
theorem fN.clos (S:fN X scope Nc emb) (ok:X.Ok):∀ x ∈ scope.names,x.2=.free->∃ c,X.env.cells.lookup x.1=some c:=λx hx h=>ok.has x.1 (S.free x hx h)
theorem sh (S:fN X scope Nc emb) (I:Inv X pins σ H s) {fp:List Addr} (hf:∀ b ∈ fp,j6 X pins H b) (hfo:∀ b ∈ fp,∃ o,s.heap.get? b=some o) {lo:Obj} (hlo:∀ v,lo.data≠.cell v) (hfr:lo.isFreed=false) :
  Inv (lcX X scope (cellsFrom (s.heap.objs.size+2) scope.names (cH X.env.cells scope.names [])) Nc s H (s.heap.objs.size+1) fp) [(s.heap.objs.size,lo)] (emb σ) H
   { s with heap:=pushCells ((s.heap.push lo).push { cls:=.type "dict",data:=.dict #[] }) scope.names }:=by
 have hsz2:((s.heap.push lo).push { cls:=.type "dict",data:=.dict #[] }).objs.size=s.heap.objs.size+2:=by rw [Heap.size_push,Heap.size_push]
 have hsz1:(s.heap.push lo).objs.size=s.heap.objs.size+1:=by rw [Heap.size_push]
 have hk:∀ b o,s.heap.get? b=some o->(pushCells ((s.heap.push lo).push { cls:=.type "dict",data:=.dict #[] }) scope.names).get? b=some o:=λb o e=>
  pushCells_keeps _ _ b o (Heap.get?_push_of_some _ (Heap.get?_push_of_some _ e))
 have has:=S.clos I.ok
 have cl_old:∀ {x:Str}{c:Addr},(cH X.env.cells scope.names []).lookup x=some c->X.env.cells.lookup x=some c/\(x,NameKind.free) ∈ scope.names:=λ{x c} h=>by
  rcases iB _ _ h with q | ⟨q1,q2⟩
  ·cases q
  ·obtain⟨c',hc'⟩:=has _ q1 rfl
   have hc'':X.env.cells.lookup x=some c':=hc'
   rw [hc''] at q2
   exact⟨by rw [hc'',q2];rfl,q1⟩
 have cells_cases:∀ {x:Str}{c:Addr},(cellsFrom (s.heap.objs.size+2) scope.names (cH X.env.cells scope.names [])).lookup x=some c->
   (X.env.cells.lookup x=some c/\(x,NameKind.free) ∈ scope.names)\/((x,NameKind.cell) ∈ scope.names/\s.heap.objs.size+2<=c):=λ{x c} h=>by
  rcases fz _ _ _ h with q | q
  ·exact .inl (cl_old q)
  ·exact .inr q
 have oldlt:∀ {x:Str}{c:Addr},X.env.cells.lookup x=some c->c < s.heap.objs.size:=λ{x c} h=>by
  obtain⟨v,z⟩:=I.cell x c h
  exact z.lt
 have fplt:∀ b ∈ fp,b < s.heap.objs.size:=λb hb=>by obtain⟨o,e⟩:=hfo b hb;exact Heap.lt_size e
 have accmem:∀ p ∈ cH X.env.cells scope.names [],∃ x,X.env.cells.lookup x=some p.2:=by
  have key:∀ (names:List (Str×NameKind)) (acc:List (Str×Addr)),(∀ x ∈ names,x.2=.free->∃ c,X.env.cells.lookup x.1=some c)->(∀ p ∈ acc,∃ x,X.env.cells.lookup x=some p.2)->∀ p ∈ cH X.env.cells names acc,∃ x,X.env.cells.lookup x=some p.2:=by
   intro names
   induction names with
   | nil=>intro acc _ h;exact h
   | cons z r ih=>
    intro acc hn h
    obtain⟨m,k⟩:=z
    unfold cH
    by_cases hk:(k==.free)=true
    ·rw [if_pos hk]
     refine ih _ (λx hx=>hn x (List.mem_cons_of_mem _ hx)) λp hp=>?_
     rcases List.mem_cons.mp hp with e | hp
     ·obtain⟨c,hc⟩:=hn _ List.mem_cons_self (beq_iff_eq.mp hk)
      have hc':X.env.cells.lookup m=some c:=hc
      exact⟨m,by rw [e,hc'];rfl⟩
     ·exact h p hp
    ·rw [if_neg hk]
     exact ih _ (λx hx=>hn x (List.mem_cons_of_mem _ hx)) h
  exact key _ _ has λp hp=>nomatch hp
 refine⟨⟨I.ok.mod,S.kind,I.ok.glob,I.ok.blt,Nat.le_succ _,λx y c h1 h2=>?_,λx hx=>?_,λx c hx h=>?_,I.ok.hd,I.ok.frames,.inl rfl,λb hb=>?_,I.bs,Nat.le_trans I.ok.bsz I.sz,λb o e hb=>?_,λb hb=>?_,I.stack,I.stkFree⟩,
  rfl,I.bare,Un.kept hk,⟨_,(Heap.Ns.new (s.heap.push lo) (.type "dict")).keeps (pushCells_keeps _ _) |> λq=>by rw [hsz1] at q;exact q,λi x v h1 h2 _=>?_⟩,λx c h=>?_,I.hok.fresh (Nat.le_succ _),λx c h=>?_,λp hp=>?_,I.hok.kept hk,S.len σ I.len⟩
 ·-- inj
  have h1':(cellsFrom (s.heap.objs.size+2) scope.names (cH X.env.cells scope.names [])).lookup x=some c:=h1
  have h2':(cellsFrom (s.heap.objs.size+2) scope.names (cH X.env.cells scope.names [])).lookup y=some c:=h2
  rcases cells_cases h1' with⟨q1,_⟩ | ⟨_,q1⟩
  ·rcases cells_cases h2' with⟨q2,_⟩ | ⟨_,q2⟩
   ·exact I.ok.inj x y c q1 q2
   ·exact absurd (Nat.lt_of_lt_of_le (Nat.lt_succ_of_lt (Nat.lt_succ_of_lt (oldlt q1))) q2) (Nat.lt_irrefl _)
  ·refine n4 scope.names _ _ (λp hp=>?_) h1' h2' q1
   obtain⟨z,hz⟩:=accmem p hp
   exact Nat.lt_succ_of_lt (Nat.lt_succ_of_lt (oldlt hz))
 ·-- has
  have hx':(relabel scope X.env).names.lookup x=some .cell\/(relabel scope X.env).names.lookup x=some .free:=hx
  have:∃ k0,scope.names.lookup x=some k0/\(k0=.cell\/k0=.free):=by
   rcases hx' with q | q
   ·obtain⟨k0,h1,h2⟩:=fk q
    exact⟨k0,h1,h2.elim (λe=>.inl e.symm) λe=>.inr e.1⟩
   ·obtain⟨k0,h1,h2⟩:=fk q
    exact⟨k0,h1,h2.elim (λe=>.inr e.symm) λe=>by cases e.2⟩
  obtain⟨k0,h1,h2⟩:=this
  refine Option.isSome_iff_exists.mp (PySem.W.cellsFrom_some scope.names _ _ ?_)
  rcases h2 with rfl | rfl
  ·exact .inl h1
  ·exact .inr (ie _ _ (.inl (PySem.mem_of_lookup h1)))
 ·-- cab
  have hx':scope.names.lookup x=some .cell:=beq_iff_eq.mp hx
  rcases cells_cases h with⟨_,q⟩ | ⟨_,q⟩
  ·have:=gk S.nd q
   rw [hx'] at this;cases this
  ·exact Nat.le_trans (Nat.le_add_right _ 2) q
 ·-- exf
  refine⟨Nat.ne_of_lt (Nat.lt_succ_of_lt (fplt b hb)),λx c h=>?_⟩
  rcases cells_cases h with⟨q,_⟩ | ⟨_,q⟩
  ·exact (hf b hb).2.2.2.2.1 x c q
  ·intro e
   exact absurd (Nat.lt_of_lt_of_le (Nat.lt_succ_of_lt (Nat.lt_succ_of_lt (fplt b hb))) (e ▸ q)) (Nat.lt_irrefl _)
 ·-- noex
  have hb':b ∈ fp:=hb
  rcases (hf b hb').2.2.2.1 with q | q
  ·exact I.ok.noex b o e q
  ·exact absurd (Nat.lt_of_lt_of_le (Heap.lt_size (I.ok.bs b o e).1) q) (Nat.lt_irrefl _)
 ·-- exfs
  intro hb2
  rcases List.mem_cons.mp (I.stkSub b hb2) with q | q
  ·exact (hf b hb).2.1 q
  ·exact (hf b hb).2.2.1 q
 ·-- loc
  obtain⟨j,e1,e2,e3⟩:=S.emb σ I.len i x v h1 h2
  have kx:=S.free (x,.free) (PySem.mem_of_lookup e3) rfl
  have kx':X.env.kindOf x=some .cell\/X.env.kindOf x=some .free:=kx
  obtain⟨m,hn,hl⟩:=I.loc
  obtain⟨u,ru,lk⟩:=hl j x v e1 e2 (.inr kx')
  refine⟨u,ru,.inr ⟨?_,?_⟩⟩
  ·rcases iZ (env:=X.env) e3 with q | q
   ·exact .inr q
   ·exact .inl q
  ·rcases lk with⟨z,_⟩ | ⟨_,c,hc,hcell⟩
   ·rcases kx' with q | q<;>(rw [z] at q;cases q)
   ·obtain⟨c',hc'⟩:=Option.isSome_iff_exists.mp (PySem.W.cellsFrom_some scope.names (s.heap.objs.size+2) (cH X.env.cells scope.names []) (x:=x) (.inr (ie _ _ (.inl (PySem.mem_of_lookup e3)))))
    rcases cells_cases hc' with⟨q,_⟩ | ⟨q,_⟩
    ·rw [hc] at q
     cases q
     exact⟨c,hc',hcell.keeps hk⟩
    ·have:=gk S.nd q
     rw [e3] at this;cases this
 ·-- cell
  have h':(cellsFrom (s.heap.objs.size+2) scope.names (cH X.env.cells scope.names [])).lookup x=some c:=h
  have:=fY scope.names ((s.heap.push lo).push { cls:=.type "dict",data:=.dict #[] }) (cH X.env.cells scope.names []) (λp hp=>by
   obtain⟨z,hz⟩:=accmem p hp
   obtain⟨v,q⟩:=I.cell z p.2 hz
   exact⟨v,q.keeps λb o e=>Heap.get?_push_of_some _ (Heap.get?_push_of_some _ e)⟩) (x,c) (by rw [hsz2];exact PySem.mem_of_lookup h')
  exact this
 ·-- freeC
  rcases cells_cases h with⟨q,_⟩ | ⟨_,q⟩
  ·exact I.freeC x c q
  ·exact I.hok.fresh (Nat.le_trans (Nat.le_add_right _ 2) q)
 ·-- pin
  have hp':p=(s.heap.objs.size,lo):=by
   have:p ∈ ([]:List (Addr×Obj))++[(s.heap.objs.size,lo)]:=hp
   simpa using this
  subst hp'
  refine⟨pushCells_keeps _ _ _ _ (Heap.get?_push_of_some _ (Heap.get?_push_size _ hfr)),I.hok.fresh (Nat.le_refl _),Nat.ne_of_lt (Nat.lt_succ_self _),λhb=>?_,hlo⟩
  rcases List.mem_cons.mp (I.stkSub _ hb) with q | q
  ·exact absurd I.lt (by rw [<-q];exact Nat.lt_irrefl _)
  ·exact I.nofs (Nat.le_refl _) q
end
end L2
namespace L2
open PySem PySem.Spec PyProof.Rows
noncomputable def PTs (X:Cx) (ifs:List Expr) (t:TT):Prop:=
 ∀ (pins:List (Addr×Obj)) (s:Shared) (σ:St) (H:Hp) (Q:Bool->Hp->Prop),Inv X pins σ H s->t σ H Q->
  wpAny (model X.prog X.w) X.A (forIn ifs true λc r=>if r=true then do let ok <-isTrue c X.env (eval c X.env);pure (ForInStep.yield ok) else pure (ForInStep.yield r)) (TP X pins σ Q) X.xe s
noncomputable def B2:TT:=λ_ H Q=>Q true H
theorem yz {X:Cx}:PTs X [] B2:=λ_ _ _ H _ I h=>wpAny_tests_nil ⟨H,I,h⟩
theorem yH {X:Cx}{c:Expr}{t:TT} (hc:PT X c t):PTs X [c] t:=λpins s σ H Q I h=>wpAny_tests_one (hc pins s σ H Q I h)
noncomputable def Sub (σ σ':St):Prop:=σ.length=σ'.length/\∀ (i:Nat) (v:V),σ[i]?=some (some v)->σ'[i]?=some (some v)
noncomputable def AK (J:It) (σe:St) (g:TG) (tt:TT) (te:TE) (H1:Hp) (Q:VK):Prop:=∃ W:Nat->Nat->List V->Hp->Prop,(∃ m,W 0 m [] H1)/\∀ i m ys H,W i m ys H->
 (J.stop i H/\∀ D,H D=none->Q (.ref D) (upd H D (.lst ys)))\/
 (J.go i H/\ys.length < sizeLine/\∃ N:List V->Hp->Prop,(∀ ys' H',N ys' H'->∃ m',m' < m/\W (i+1) m' ys' H')/\∀ x H',J.yld i H x H'->g x σe H' λσ2 H2=>Sub σe σ2/\tt σ2 H2 λb H3=>if b=true then te σ2 H3 λv H4=>N (ys++[v]) H4 else N ys H3)
noncomputable def tLc (emb:St->St) (wi:TI) (g:TG) (tt:TT) (te:TE):TE:=λσ H Q=>wi σ H λJ H1=>AK J (emb σ) g tt te H1 Q
section
variable {X:Cx}{scope:Scope}{Nc:List Str}{emb:St->St}{elt iter tg:Expr}{ifs:List Expr}{pos:Pos}{wi:TI}{g:TG}{tt:TT}{te:TE}
theorem yM (S:fN X scope Nc emb) (hc:X.calm=true) (hi:PI X tg iter wi)
  (hg:∀ cells s H C fp,PG (lcX X scope cells Nc s H C fp) tg g) (ht:∀ cells s H C fp,PTs (lcX X scope cells Nc s H C fp) ifs tt) (he:∀ cells s H C fp,PE (lcX X scope cells Nc s H C fp) elt te)
  (hs:∀ x,foldedSetIterable iter X.env x=pure x:=by intro _;rfl):PE X (.ListComp elt [⟨tg,iter,ifs,0⟩] scope pos) (tLc emb wi g tt te):=by
 intro pins s σ H Q I h
 rw [eval_ListComp]
 refine wpAny_comprehension_free (use:=none) rfl hs (kl (S.clos I.ok)) S.kind (λx hx hl=>gk S.nd (by rw [<-hl];exact hx)) ?_
 refine thn (hi pins s σ H _ I h) λv s1 h1=>thn h1 λitv s2 h2=>?_
 obtain⟨it,fp,tn,J,H2,e,I2,T,st2,f2,W,⟨m0,w0⟩,turn⟩:=h2
 subst e
 refine wpAny_newObj_type (kY ?_)
 rw [show (s2.heap.push { cls:=.type "list",dict:=none,data:=.seq ([]:List Value).toArray }).objs.size=s2.heap.objs.size+1 from Heap.size_push ..]
 generalize hD:s2.heap.objs.size=D
 generalize hlo:({ cls:=.type "list",dict:=none,data:=.seq ([]:List Value).toArray }:Obj)=lo
 have fplt:∀ b ∈ fp,b < s2.heap.objs.size:=λb hb=>by obtain⟨o,e,_⟩:=T.obj _ _ st2 b hb;exact Heap.lt_size e
 have I3:=sh (lo:=lo) S I2 f2 (λb hb=>by obtain⟨o,e,_⟩:=T.obj _ _ st2 b hb;exact⟨o,e⟩) (by rw [<-hlo];intro v z;cases z) (by rw [<-hlo];rfl)
 rw [hD] at I3
 generalize hcells:cellsFrom (D+2) scope.names (cH X.env.cells scope.names [])=cells at I3
 generalize hX':lcX X scope cells Nc s2 H2 (D+1) fp=X' at I3
 have hfpX:∀ {H':Hp}{ps:List (Addr×Obj)},(∀ b ∈ fp,H' b=none)->(∀ p ∈ ps,p.1=D)->∀ b ∈ fp,j6 X' ps H' b:=λ{H' ps} hn hps b hb=>by
  have ok:=I3.ok
  refine⟨hn b hb,?_,?_,.inl (by rw [<-hX'];exact hb),?_,λp hp=>?_⟩
  ·exact (ok.exf b (by rw [<-hX'];exact hb)).1
  ·exact ok.exfs b (by rw [<-hX'];exact hb)
  ·exact (ok.exf b (by rw [<-hX'];exact hb)).2
  ·have hp':p ∈ ([]:List (Addr×Obj))++ps:=by rw [<-hX'] at hp;exact hp
   have e:p.1=D:=hps p (by simpa using hp')
   rw [e,<-hD]
   exact Nat.ne_of_gt (fplt b hb)
 have Dex:D ∈ X'.ex\/X'.s₀.heap.objs.size<=D:=.inr (by rw [<-hX',<-hD];exact Nat.le_refl _)
 have Dloc:D≠X'.env.locals:=by rw [<-hX'];exact Nat.ne_of_lt (Nat.lt_succ_self _)
 have pD:=I3.pin (D,lo) (by rw [<-hX'];exact List.mem_append_right _ List.mem_cons_self)
 have Dfs:D ∉ X'.fs:=pD.2.2.2.1
 have Dcell:∀ x c,X'.env.cells.lookup x=some c->c≠D:=λx c hc' e=>by
  obtain⟨v,o,ho,hd⟩:=I3.cell x c hc'
  rw [e,pD.1] at ho
  cases ho
  exact pD.2.2.2.2 v hd
 -- the loop
 have loop:∀ s3:Shared,s3={ s2 with heap:=pushCells ((s2.heap.push lo).push { cls:=.type "dict",data:=.dict #[] }) scope.names }->
   codeAny (model X.prog X.w) X.A (.compLoop (.ListComp elt [⟨tg,iter,ifs,0⟩] scope pos) 0 (.ref it) (.ref D) (compEnvC scope cells (D+1) X.env))
    (compPost (model X.prog X.w) X.A X.xe none (EP X pins σ Q) (.ref D) (D+1)) s3:=by
  rintro s3 rfl
  refine fR (λn s'=>∃ i ys its k H',Inv X' [(D,{ cls:=.type "list",data:=.seq its.toArray k })] (emb σ) H' s'/\aV ys its/\tn i s'.heap/\(∀ b ∈ fp,H' b=none)/\ys.length<=sizeLine/\W i n ys H') ?_ m0
   ⟨0,[],[],0,H2,?_,.nil,?_,λb hb=>(f2 b hb).1,Nat.zero_le _,w0⟩
  ·rintro n s4 ⟨i,ys,its,k,H4,I4,rv,st4,fr4,hlen,w4⟩
   have hps:∀ p ∈ [(D,({ cls:=.type "list",data:=.seq its.toArray k }:Obj))],p.1=D:=λp hp=>by
    have:=List.mem_singleton.mp hp
    rw [this]
   rcases turn i n ys H4 w4 with⟨stop,qn⟩ | ⟨go,hlt,N,hN,step⟩
   ·-- the end
    have TD:=T.done X' (by rw [<-hX'];rfl) (by rw [<-hX'];rfl) (by rw [<-hX'];rfl) (by rw [<-hX'];exact hc) i _ s4 (emb σ) H4 (λ_ _=>False) I4 (hfpX fr4 hps) st4 stop
    rw [show X'.A=X.A by rw [<-hX'];rfl] at TD
    refine thn TD λr s5 ⟨hr,I5⟩=>?_
    subst hr
    obtain⟨m5,hn5,_⟩:=id I5.loc
    have eC:X'.env.locals=D+1:=by rw [<-hX'];rfl
    rw [eC] at hn5
    refine⟨m5,hn5,λh' hsb=>?_⟩
    have pD5:=I5.pin (D,{ cls:=.type "list",data:=.seq its.toArray k }) (by rw [<-hX'];exact List.mem_append_right _ List.mem_cons_self)
    have neC:∀ b u,H4 b=some u->b≠D+1:=λb u e z=>by
     have:=I5.free
     rw [eC,<-z,e] at this
     cases this
    have hD4:H4 D=none:=pD5.2.1
    have un:=I5.base
    have un':Un (frs X.stack) fp H2 H4 s2.heap s5.heap:=by rw [<-hX'] at un;exact un
    have old_ne:∀ b o,s2.heap.get? b=some o->b≠D/\b≠D+1:=λb o e=>by
     have q:=Heap.lt_size e
     rw [hD] at q
     exact⟨Nat.ne_of_lt q,Nat.ne_of_lt (Nat.lt_succ_of_lt q)⟩
    have h2D:H2 D=none:=by rw [<-hD];exact I2.fresh
    have hok':HOk X.prog X.w H4 h':=λb u e=>by
     have ob:dB X.prog X.w H4 s5.heap b u:=by have:=I5.hok b u e;rw [<-hX'] at this;exact this
     refine ob.stay (λc v hcv q=>(hsb.2 c ?_).trans q) (λ_ q=>q) λ_ _ q=>q
     rcases hcv with z | z
     ·rw [z];exact neC b u e
     ·exact neC c _ z
    have hokD:HOk X.prog X.w (upd H4 D (.lst ys)) h':=λb u e=>by
     by_cases hb:b=D
     ·subst hb
      rw [upd_same] at e
      cases e
      exact⟨hlen,its,k,rv,(hsb.2 b (Nat.ne_of_lt (Nat.lt_succ_self _))).trans pD5.1⟩
     ·rw [upd_ne hb] at e
      refine (hok' b u e).stay (λ_ _ _ q=>q) (λc q=>?_) λc z q=>?_
      all_goals first
       | (rw [upd_ne (aS q hD4)];exact q)
       | (rw [upd_ne (aS z hD4)];exact z)
    refine⟨.ref D,upd H4 D (.lst ys),?_,rfl,qn D hD4⟩
    refine I2.call' (s':={ s5 with heap:=h' }) (ch:=fp) ?_ ⟨λb o e nb hb hx=>?_,λb o e nb hb hx=>?_,λb o e nb hx=>?_,λb o e hx=>?_,λb xs e=>?_,λb o u e=>?_,λb ps e=>?_⟩ hokD I5.bare (λb hb=>?_)
    ·have:=I5.os
     rw [<-hX'] at this
     exact this
    ·exact (hsb.2 b (old_ne b o e).2).trans (un'.keep b o e nb hb hx)
    ·obtain⟨sl,q⟩:=un'.slot b o e nb hb hx
     exact⟨sl,(hsb.2 b (old_ne b o e).2).trans q⟩
    ·rw [upd_ne (old_ne b o e).1]
     exact un'.free b o e nb hx
    ·obtain⟨o',q⟩:=un'.there b o e hx
     exact⟨o',(hsb.2 b (old_ne b o e).2).trans q⟩
    ·rw [upd_ne (aS e h2D)]
     exact un'.tups b xs e
    ·rw [upd_ne (aS e h2D)]
     exact un'.frzs b o u e
    ·obtain⟨m,q⟩:=un'.tbls b ps e
     exact⟨m,by rw [upd_ne (aS e h2D)];exact q⟩
    ·obtain⟨q0,q1,q2,q3,q4,q5⟩:=f2 b hb
     exact⟨q3,q1,q4,q5⟩
   ·-- a turn
    have hA:X'.A=X.A:=by rw [<-hX'];rfl
    have hP:X'.prog=X.prog:=by rw [<-hX'];rfl
    have hw:X'.w=X.w:=by rw [<-hX'];rfl
    have hE:X'.env=compEnvC scope cells (D+1) X.env:=by rw [<-hX'];rfl
    have hxe:X'.xe=λ_ _=>False:=by rw [<-hX'];rfl
    have TI':=T.item X' hP hw (by rw [<-hX'];rfl) (by rw [<-hX'];exact hc) i _ s4 (emb σ) H4 (λ_ _=>False) I4 (hfpX fr4 hps) st4 go
    rw [hA] at TI'
    refine thn TI' λr s5 ⟨u,hr,h5⟩=>?_
    subst hr
    refine thn h5 λ_ s6 ⟨x,H6,I6,r6,y6,st6,fr6⟩=>?_
    have I6':=I6.pinned (hfpX fr6 hps) (T.obj _ _ st6)
    have G:=hg cells s2 H2 (D+1) fp
    have TT':=ht cells s2 H2 (D+1) fp
    have EE:=he cells s2 H2 (D+1) fp
    rw [hX'] at G TT' EE
    have G':=G _ s6 (emb σ) H6 x u _ I6' r6 (step x H6 y6)
    rw [hA,hP,hw,hE,hxe] at G'
    refine thn G' λ_ s7 ⟨σ7,H7,I7,sb7,q7⟩=>?_
    have T':=TT' _ s7 σ7 H7 _ I7 q7
    rw [hA,hP,hw,hE,hxe] at T'
    refine thn T' λok s8 ⟨H8,I8,q8⟩=>?_
    -- what is pinned
    have pin_fp:∀ {σ9:St}{H9:Hp}{s9:Shared},Inv X' ([(D,({ cls:=.type "list",data:=.seq its.toArray k }:Obj))]++lF fp s6.heap) σ9 H9 s9->tn (i+1) s9.heap/\∀ b ∈ fp,H9 b=none:=λ{σ9 H9 s9} I9=>
     ⟨T.keep _ _ _ st6 λb hb o e=>(I9.pin (b,o) (List.mem_append_right _ (List.mem_append_right _ (eF hb e)))).1,λb hb=>by
      obtain⟨o,e,_⟩:=T.obj _ _ st6 b hb
      exact (I9.pin (b,o) (List.mem_append_right _ (List.mem_append_right _ (eF hb e)))).2.1⟩
    cases ok with
    | false=>
     rw [if_neg (by decide)] at q8
     rw [if_neg (by decide)]
     obtain⟨m',hm,w8⟩:=hN _ _ q8
     exact⟨m',hm,i+1,ys,its,k,H8,I8.unpinned.weak sb7.1 sb7.2,rv,(pin_fp I8).1,(pin_fp I8).2,hlen,w8⟩
    | true=>
     rw [if_pos rfl] at q8
     rw [if_pos rfl]
     have E':=EE _ s8 σ7 H8 _ I8 q8
     rw [hA,hP,hw,hE,hxe] at E'
     refine thn E' λy s9 ⟨v9,H9,I9,r9,n9⟩=>?_
     obtain⟨m',hm,w9⟩:=hN _ _ n9
     have pD9:=I9.pin (D,{ cls:=.type "list",data:=.seq its.toArray k }) (List.mem_append_right _ (List.mem_append_left _ List.mem_cons_self))
     have hl:=rv.length
     have I9n:Inv X' [] σ7 H9 s9:=I9.pins_of λp hp=>nomatch hp
     refine call_meets F.slot_list_append ⟨_,pD9.1,rfl⟩ F.entry_list_append (F.args_list_append_2 _ _) (PySem.list_append D its.toArray k y (by rw [List.size_toArray];lia)) ⟨pD9.1,?_⟩
     have up:∃ k':Nat,(s9.heap.update D (Obj.mapSeq λxs=>xs.push y)).get? D=some { cls:=.type "list",data:=.seq (its++[y]).toArray k' }:=by
      have q:=PySem.IsL.update pD9.1 (λxs:Array Value=>xs.push y)
      simp only [List.push_toArray] at q
      exact⟨_,q⟩
     obtain⟨k',up⟩:=up
     have hoth:∀ b o,b≠D->s9.heap.get? b=some o->(s9.heap.update D (Obj.mapSeq λxs=>xs.push y)).get? b=some o:=λb o hb e=>(Heap.get?_update_other s9.heap _ (Ne.symm hb)).trans e
     have I10:=I9n.turned (t':=s9.toks) hoth pD9.2.1 Dloc Dex Dcell (λp hp=>absurd (show p ∈ ([]:List (Addr×Obj)) by rw [<-hX'] at hp;exact hp) (by simp))
     refine⟨m',hm,i+1,ys++[v9],its++[y],k',H9,(I10.weak sb7.1 sb7.2).pins_of (λp hp=>?_),rv.append (.cons r9 .nil),T.keep _ _ _ (pin_fp I9).1 (λb hb o e=>hoth b o (by rw [<-hD];exact Nat.ne_of_lt (fplt b hb)) e),(pin_fp I9).2,?_,w9⟩
     ·have:=List.mem_singleton.mp hp
      subst this
      exact⟨up,pD9.2.1,Dloc,Dfs,λv z=>by cases z⟩
     ·rw [List.length_append,List.length_singleton]
      lia
  ·have q:lo={ cls:=.type "list",data:=.seq ([]:List Value).toArray 0 }:=hlo.symm
   rw [<-q]
   exact I3
  ·exact T.keep _ _ _ st2 λb hb o e=>pushCells_keeps _ _ b o (Heap.get?_push_of_some _ (Heap.get?_push_of_some _ e))
 refine codeAny_compStart_list ?_ ?_
 ·exact loop _ rfl
 ·refine T.self X.A 0 _ _ _ (T.keep _ _ _ st2 λb hb o e=>pushCells_keeps _ _ b o (Heap.get?_push_of_some _ (Heap.get?_push_of_some _ e))) ?_
  exact loop _ rfl
end
end L2
namespace L2
open PySem PySem.Spec PyProof.Rows
open PySem.AutoSeq1 (wpAny_loadPart')
section
variable {prog:Program}{w:World}{A:Around}{E:Value->Shared->Prop}{s:Shared}
theorem gU {it l:Addr}{i:Nat}{items}{x:Value}{Q:Value->Shared->Prop} (hit:s.heap.IsTupleIter it l i)
  (hl:s.heap.IsTuple l items) (hx:items[i]?=some x)
  (hQ:∀ h',h'.IsTupleIter it l (i+1)->Heap.SameBut it s.heap h'->Q x { s with heap:=h' }) :
  wpAny (model prog w) A (Builtin.SmallTypes.nextOf (.ref it)) Q E s:=by
 obtain⟨o,ho,hc,hd⟩:=id hit
 obtain⟨ol,hol,_,nl,hdl⟩:=hl
 unfold Builtin.SmallTypes.nextOf
 refine wpAny_bind (wpAny_callSpecial?_slot (name:=Str.ofString "__next__") hit.typeIs F.slot_tuple_iterator_next
  (wpAny_call_entry F.slot_tuple_iterator_next hit.typeIs F.entry_tuple_iterator_next ?_ (F.args_tuple_iterator_next_1 _)))
 show wpAny _ _ (field (.ref it) 0 >>= _) _ _ s
 refine wpAny_bind (wpAny_field ho hd (x:=.ref l) rfl ?_)
 show wpAny _ _ (if (Value.ref l==Value.none)=true then _ else _) _ _ s
 rw [if_neg (show ¬ ((Value.ref l==Value.none)=true) from Bool.false_ne_true)]
 show wpAny _ _ (field (.ref it) 1 >>= _) _ _ s
 refine wpAny_bind (wpAny_field ho hd (x:=.int i 0) rfl ?_)
 show wpAny _ _ (seqItems? (.ref l) >>= _) _ _ s
 refine wpAny_bind (wpAny_seqItems hol hdl ?_)
 simp only [Int.toNat_natCast,hx]
 refine wpAny_bind (wpAny_setField ho hd (by simp) (wpAny_pure ⟨x,rfl,wpAny_pure (hQ _ ?_ (Heap.SameBut.update ..))⟩))
 exact⟨_,Heap.get?_update_self _ ho (Obj.isFreed_of_fields (Obj.data_mapFields hd _)),(Obj.cls_mapFields ..).trans hc,by
  rw [Obj.data_mapFields hd];simp [rawInt]⟩
theorem iL {it l:Addr}{i:Nat}{items}{Q:Value->Shared->Prop} (hh:A.handled=none)
  (hit:s.heap.IsTupleIter it l i) (hl:s.heap.IsTuple l items) (hx:items[i]?=none)
  (hE:∀ h' e,Heap.ExtBut it s.heap h'->(∃ o,h'.get? e=some o/\o.cls=.type "StopIteration")->E (.ref e) { s with heap:=h' }) :
  wpAny (model prog w) A (Builtin.SmallTypes.nextOf (.ref it)) Q E s:=by
 obtain⟨o,ho,hc,hd⟩:=id hit
 obtain⟨ol,hol,_,nl,hdl⟩:=hl
 unfold Builtin.SmallTypes.nextOf
 refine wpAny_bind (wpAny_callSpecial?_slot (name:=Str.ofString "__next__") hit.typeIs F.slot_tuple_iterator_next
  (wpAny_call_entry F.slot_tuple_iterator_next hit.typeIs F.entry_tuple_iterator_next ?_ (F.args_tuple_iterator_next_1 _)))
 show wpAny _ _ (field (.ref it) 0 >>= _) _ _ s
 refine wpAny_bind (wpAny_field ho hd (x:=.ref l) rfl ?_)
 show wpAny _ _ (if (Value.ref l==Value.none)=true then _ else _) _ _ s
 rw [if_neg (show ¬ ((Value.ref l==Value.none)=true) from Bool.false_ne_true)]
 show wpAny _ _ (field (.ref it) 1 >>= _) _ _ s
 refine wpAny_bind (wpAny_field ho hd (x:=.int i 0) rfl ?_)
 show wpAny _ _ (seqItems? (.ref l) >>= _) _ _ s
 refine wpAny_bind (wpAny_seqItems hol hdl ?_)
 simp only [Int.toNat_natCast,hx]
 refine wpAny_bind (wpAny_rule (wpAny_bind (wpAny_setField ho hd (by simp) ?_)))
 show wpAny _ _ (newExc (.type "StopIteration") [] >>= _) _ _ _
 refine wpAny_bind ?_
 simp only [newExc,newTuple]
 refine wpAny_bind (wpAny_newObj_type ?_ (by size_fits))
 refine wpAny_bind (m:=firstArgMember _ _) (wpAny_of_eq (a:=Value.none) (by first | rfl | (simp only [firstArgMember];rfl)) ?_)
 refine wpAny_newObj_type ?_ (by size_fits)
 simp only [raiseNew]
 refine wpAny_bind (wpAny_handled ?_)
 first | rw [show A.in1.handled=none from hh] | rw [hh]
 refine wpAny_bind (wpAny_pure (wpAny_throw ?_))
 exact hE _ _ (((Heap.SameBut.update ..).extBut.push _).push _) ⟨_,Heap.get?_push_size _ rfl,rfl⟩
theorem jn (hh:A.handled=none) (it l:Addr) (hne:l≠it) (items:Array Value) :
  Draws prog w A it [it,l] items.size (λi v=>items[i]?=some v) (λi h=>h.IsTupleIter it l i/\h.IsTuple l items) where
 live:=λ_ _ st=>let ⟨o,ho,_⟩:=st.1;⟨o,ho⟩
 frame:=λ_ _ _ st hk=>⟨st.1.at λo e=>hk it (by simp) o e,by
  obtain⟨o,e,r⟩:=st.2
  exact⟨o,hk l (by simp) o e,r⟩⟩
 item:=λi s Q E hi st hQ=>by
  refine gU st.1 st.2 (x:=items[i]) (by simp [hi]) λh' hit' hs'=>?_
  refine hQ _ h' s.toks (by simp [hi]) ⟨hit',?_⟩ hs'
  obtain⟨o,e,r⟩:=st.2
  exact⟨o,(hs'.2 l hne).trans e,r⟩
 done:=λs Q E st hE=>iL hh st.1 st.2 (by simp) hE
end
theorem jq (l:Addr) (items:Array Value) (n:Nat) (dct:Option Addr) (sl:Array (Option Value)) :
  Meets (Builtin.«enumerate.__new__» ⟨[.type "enumerate",.ref l],[]⟩) (λ_ R s=>s.heap.get? l=some { cls:=.type "tuple",dict:=dct,data:=.seq items n,slots:=sl }/\
   R (.ok (.ret (.ref (s.heap.push { cls:=.type "tuple_iterator",data:=.fields #[.ref l,.int 0 0] }).objs.size)))
    { s with heap:=(s.heap.push { cls:=.type "tuple_iterator",data:=.fields #[.ref l,.int 0 0] }).push { cls:=.type "enumerate",data:=.fields #[.none,.bool false,.ref s.heap.objs.size,rawInt 0,.none,.none] } }):=
 .of_wp λprog w A R s h=>by
  obtain⟨hp,g,d,tk,os⟩:=s;obtain⟨hl,h⟩:=h
  have hsub:=sub_enumerate
  have hL:Heap.IsTuple (Shared.heap ⟨hp,g,d,tk,os⟩) l items:=⟨_,hl,rfl,n,rfl⟩
  wp_walk using wpAny_loadPart' hl
  refine wpAny_stack_any λst=>wpAny_pure ?_
  split
  ·rename_i c _ _ _ _ _
   cases (c==Value.type "enumerate")
   ·wp_walk using wpAny_loadPart' hl,wpAny_pyIter_tuple hL
    exact⟨_,rfl,h⟩
   ·wp_walk using wpAny_loadPart' hl,wpAny_pyIter_tuple hL
    exact⟨_,rfl,h⟩
  ·wp_walk using wpAny_loadPart' hl,wpAny_pyIter_tuple hL
   exact⟨_,rfl,h⟩
theorem jN {prog:Program}{w:World}{A:Around}{E:Value->Shared->Prop}{s:Shared}{l:Addr}{items:Array Value}{Q:Value->Shared->Prop} (hL:s.heap.IsTuple l items)
  (h:∀ h',IsEnum h' (s.heap.objs.size+1) s.heap.objs.size 0 .none->h'.IsTupleIter s.heap.objs.size l 0->h'.objs.size=s.heap.objs.size+2->
    (∀ b o,s.heap.get? b=some o->h'.get? b=some o)->Q (.ref (s.heap.objs.size+1)) { s with heap:=h' }) :
  wpAny (model prog w) A (call (.type "enumerate") [.ref l]) Q E s:=by
 obtain⟨⟨c,dct,dt,sl⟩,hl,hc,n,hd⟩:=hL
 replace hc:c=.type "tuple":=hc
 replace hd:dt=.seq items n:=hd
 subst hc hd
 refine callType_new F.called_enumerate (by decide) (F.typeCall_enumerate_1 _) (F.newCall_enumerate_1 _) (λobj=>F.args_object_init_2 obj _) F.entry_enumerate_new
  (jq l items n dct sl) ⟨hl,?_⟩
 have hz:(s.heap.push { cls:=.type "tuple_iterator",data:=.fields #[.ref l,.int 0 0] }).objs.size=s.heap.objs.size+1:=Heap.size_push ..
 show _/\_
 rw [hz]
 have he:IsEnum ((s.heap.push { cls:=.type "tuple_iterator",data:=.fields #[.ref l,.int 0 0] }).push
   { cls:=.type "enumerate",data:=.fields #[.none,.bool false,.ref s.heap.objs.size,rawInt 0,.none,.none] }) (s.heap.objs.size+1) s.heap.objs.size 0 .none:=by
  have:=Heap.get?_push_size (s.heap.push { cls:=.type "tuple_iterator",data:=.fields #[.ref l,.int 0 0] })
   (o:={ cls:=.type "enumerate",data:=.fields #[.none,.bool false,.ref s.heap.objs.size,rawInt 0,.none,.none] }) rfl
  rw [hz] at this;exact this
 refine⟨⟨_,he,rfl⟩,h _ he ⟨_,Heap.get?_push_of_some _ (Heap.get?_push_size _ rfl),rfl,rfl⟩ (by rw [Heap.size_push,hz]) λb o x=>Heap.get?_push_of_some _ (Heap.get?_push_of_some _ x)⟩
section
variable {X:Cx}{pins:List (Addr×Obj)}{σ:St}{H:Hp}{s:Shared}{h':Heap}{fp:List Addr}
theorem j6.ch (hf:∀ b ∈ fp,j6 X pins H b):∀ b ∈ fp,(b ∈ X.ex\/X.s₀.heap.objs.size<=b)/\b≠X.env.locals/\(∀ x c,X.env.cells.lookup x=some c->c≠b)/\∀ p ∈ X.pn++pins,p.1≠b:=λb hb=>
 let ⟨_,f1,_,f3,f4,f5⟩:=hf b hb
 ⟨f3,f1,f4,f5⟩
theorem Inv.turns {t':Nat} (I:Inv X pins σ H s) (hf:∀ b ∈ fp,j6 X pins H b) (k:∀ b o,b ∉ fp->s.heap.get? b=some o->h'.get? b=some o):Inv X pins σ H { s with heap:=h',toks:=t' }:=by
 have nit:∀ b u,H b=some u->b ∉ fp:=λb u e z=>by have:=(hf b z).1;rw [e] at this;cases this
 refine I.step (g':=s.gens) (d':=s.drawn) (ch:=fp) (j6.ch hf) (λb o _ _ hc e _=>k b o hc e) (λb o _ _ hc e _=>⟨o.slots,k b o hc e⟩) (λ_ _ _ _ n=>n)
  (λb o hc e=>⟨o,k b o hc e⟩) (λ_ _ e=>e) (λ_ _ _ e=>e) (λb ps e=>⟨#[],by rw [e];simp⟩) (λm hm=>?_) (λb u e=>?_) I.bare
 ·obtain⟨o,es,ep,ho,r⟩:=hm
  exact⟨o,es,ep,k _ o (λz=>(hf _ z).2.1 rfl) ho,r⟩
 ·refine (I.hok b u e).stay (λc v hc q=>k c v ?_ q) (λ_ q=>q) λ_ _ q=>q
  rcases hc with z | z
  ·rw [z];exact nit b u e
  ·exact nit c _ z
theorem Inv.turnsT {t':Nat}{T:Addr}{xs:List V}{its:Array Value} (I:Inv X pins σ H s) (hf:∀ b ∈ fp,j6 X pins H b) (k:∀ b o,b ∉ fp->s.heap.get? b=some o->h'.get? b=some o)
  (hT:s.heap.objs.size<=T) (ht:eP h' T its) (rv:aV xs its.toList) (hz:xs.length<=sizeLine):Inv X pins σ (upd H T (.tup xs)) { s with heap:=h',toks:=t' }:=by
 have nit:∀ b u,H b=some u->b ∉ fp:=λb u e z=>by have:=(hf b z).1;rw [e] at this;cases this
 have hTn:H T=none:=I.hok.fresh hT
 have lt:∀ b o,s.heap.get? b=some o->b≠T:=λb o e=>Nat.ne_of_lt (Nat.lt_of_lt_of_le (Heap.lt_size e) hT)
 refine I.step (g':=s.gens) (d':=s.drawn) (ch:=fp) (j6.ch hf) (λb o _ _ hc e _=>k b o hc e) (λb o _ _ hc e _=>⟨o.slots,k b o hc e⟩) (λb o _ e n=>by rw [upd_ne (lt b o e)];exact n)
  (λb o hc e=>⟨o,k b o hc e⟩) (λb _ e=>by rw [upd_ne (aS e hTn)];exact e) (λb _ _ e=>by rw [upd_ne (aS e hTn)];exact e) (λb ps e=>⟨#[],by rw [upd_ne (aS e hTn),e];simp⟩) (λm hm=>?_) (λb u e=>?_) I.bare
 ·obtain⟨o,es,ep,ho,r⟩:=hm
  exact⟨o,es,ep,k _ o (λz=>(hf _ z).2.1 rfl) ho,r⟩
 ·by_cases hb:b=T
  ·subst hb
   rw [upd_same] at e
   cases e
   refine⟨hz,its.toList,rv,?_⟩
   show eP h' b its.toList.toArray
   simpa using ht
  ·rw [upd_ne hb] at e
   refine (I.hok b u e).stay (λc v hc q=>k c v ?_ q) (λc q=>?_) λc z q=>?_
   ·rcases hc with z | z
    ·rw [z];exact nit b u e
    ·exact nit c _ z
   all_goals first
    | (rw [upd_ne (aS q hTn)];exact q)
    | (rw [upd_ne (aS z hTn)];exact z)
end
noncomputable def Ite (S:Hp->List V->Prop):It:=
 ⟨λi H=>∃ xs x,S H xs/\xs[i]?=some x,λi H x H'=>∃ T v,(∀ xs,S H xs->xs[i]?=some v)/\H T=none/\x=.ref T/\H'=upd H T (.tup [.int i,v]),λi H=>∃ xs,S H xs/\xs.length=i⟩
theorem tE {P:Program}{w:World}{K:PySem.W.Frag}{elts:List Expr}{k:Nat}{pos:Pos} (a it e:Addr) (hei:e≠it) (hae:a≠e) (hai:a≠it) :
  sM P w K (.Tuple elts k pos) (Ite λH xs=>SqL K H a xs) [e,it] e (λi h=>(∃ old,IsEnum h e it i old)/\h.IsListIter it a i) where
 mem:=by simp
 obj:=λi h st b hb=>by
  rcases List.mem_cons.mp hb with rfl | hb
  ·obtain⟨⟨old,q⟩,_⟩:=st
   exact⟨_,q,λv z=>by cases z⟩
  ·rw [List.mem_singleton.mp hb]
   obtain⟨_,o,e,c,d⟩:=st
   exact⟨o,e,λv z=>by rw [d] at z;cases z⟩
 keep:=λi h h' st kk=>⟨let ⟨old,q⟩:=st.1;⟨old,kk e (by simp) _ q⟩,st.2.at λo q=>kk it (by simp) o q⟩
 item:=by
  intro X hP hw hK hc i pins s σ H E I hf st hg
  subst hP hw hK
  obtain⟨xs,x,hq,hx⟩:=hg
  obtain⟨its,rv,p,hz⟩:=I.list hq
  obtain⟨u,hu,ru⟩:=rv.get hx
  have W:=WalksT.enumerateD (Draws.list (prog:=X.prog) (w:=X.w) (A:=X.A.in1) (I.ok.hd hc) it a hai its.toArray) e hei (by simp [hei,Ne.symm hae]) (by simp)
  have hi:i < its.toArray.size:=by
   have:=(List.getElem?_eq_some_iff.mp hu).1
   simpa using this
  obtain⟨⟨ol,he0⟩,hit0⟩:=st
  refine wpAny_pyNext_enum_itemD (Draws.list (prog:=X.prog) (w:=X.w) (A:=X.A.in1) (I.ok.hd hc) it a hai its.toArray) he0 ⟨hit0,p.isList⟩ hi hei (by simp [hei,Ne.symm hae]) λy h1 t hy ho hs' ht hsz hk=>⟨_,rfl,?_⟩
  have hm:(λ(i:Nat) (T:Addr) (h:Heap)=>(∃ x,IsEnumOut h e it ((i:Int)+1) x T)/\_/\T≠e/\T≠it) i s.heap.objs.size h1:=⟨⟨_,ho⟩,hs',Nat.ne_of_gt (Heap.lt_size he0),Nat.ne_of_gt (let ⟨_,q,_⟩:=hit0;Heap.lt_size q)⟩
  have kk:∀ b o,b ∉ [e,it]->s.heap.get? b=some o->h1.get? b=some o:=λb o hb q=>hk b o (λz=>hb (by simp [z])) (λz=>hb (by simp [z])) q
  generalize eT:s.heap.objs.size=T at ht ho hm ⊢
  have hT:s.heap.objs.size<=T:=Nat.le_of_eq eT
  have etk:∃ tk,tk=t+1:=⟨_,rfl⟩
  obtain⟨tk,etk⟩:=etk
  rw [<-etk]
  have ey:y=u:=by
   have hy':its[i]?=some y:=by simpa using hy
   rw [hu] at hy'
   exact (Option.some.inj hy').symm
  subst ey
  refine W.go elts k pos i T _ _ _ hm λh2 hst kk2=>?_
  have nT:T ∉ [e,it]:=W.apart i T _ hm
  refine⟨.ref T,upd H T (.tup [.int i,x]),?_,rfl,⟨T,x,λys hy=>by rw [I.list_inj hy hq];exact hx,I.hok.fresh hT,rfl,rfl⟩,⟨hst.1,hst.2.1⟩,λb hb=>?_⟩
  ·have ht2:eP h2 T #[.int i t,y]:=⟨_,kk2 T _ nT ht,rfl,⟨_,rfl⟩,rfl⟩
   have I2:Inv X pins σ (upd H T (.tup [.int i,x])) { s with heap:=h2,toks:=tk }:=
    I.turnsT (fp:=[e,it]) (h':=h2) (t':=tk) (its:=#[.int i t,y]) hf (λb o hb q=>kk2 b o hb (kk b o hb q)) hT ht2 (.cons ⟨t,rfl⟩ (.cons ru .nil)) (by show 2<=sizeLine;decide)
   exact I2
  ·rw [upd_ne (show b≠T from λz=>nT (z ▸ hb))]
   exact (hf b hb).1
 done:=by
  intro X hP hw hK hc i pins s σ H E I hf st hg
  subst hP hw hK
  obtain⟨xs,hq,hx⟩:=hg
  obtain⟨its,rv,p,hz⟩:=I.list hq
  have hl:=rv.length
  have hx':its.toArray[i]?=none:=by simp;lia
  obtain⟨⟨old,he⟩,hit⟩:=st
  -- the end at place i
  obtain⟨f0,f1,f2,f3,f4,f5⟩:=hf e (by simp)
  refine wpAny_pyNext_enum_end (I.ok.hd hc) he hit p.isList hx' λh' eb=>⟨rfl,?_⟩
  exact I.turns (t':=s.toks) (fp:=[e,it]) hf λb o hb q=>eb b o (by simp at hb;exact hb.2) q
 self:=λ_ _ _ _ _ st h=>let ⟨⟨_,he⟩,_⟩:=st;wpAny_pyIter_enum he h
theorem sq {P:Program}{w:World}{K:PySem.W.Frag}{elts:List Expr}{k:Nat}{pos:Pos} (a it e:Addr) (hei:e≠it) (hae:a≠e) (hai:a≠it) :
  sM P w K (.Tuple elts k pos) (Ite λH xs=>SqT K H a xs) [e,it] e (λi h=>(∃ old,IsEnum h e it i old)/\h.IsTupleIter it a i) where
 mem:=by simp
 obj:=λi h st b hb=>by
  rcases List.mem_cons.mp hb with rfl | hb
  ·obtain⟨⟨old,q⟩,_⟩:=st
   exact⟨_,q,λv z=>by cases z⟩
  ·rw [List.mem_singleton.mp hb]
   obtain⟨_,o,e,c,d⟩:=st
   exact⟨o,e,λv z=>by rw [d] at z;cases z⟩
 keep:=λi h h' st kk=>⟨let ⟨old,q⟩:=st.1;⟨old,kk e (by simp) _ q⟩,st.2.at λo q=>kk it (by simp) o q⟩
 item:=by
  intro X hP hw hK hc i pins s σ H E I hf st hg
  subst hP hw hK
  obtain⟨xs,x,hq,hx⟩:=hg
  obtain⟨its,rv,p,hz⟩:=I.tuple hq
  obtain⟨u,hu,ru⟩:=rv.get hx
  have W:=WalksT.enumerateD (jn (prog:=X.prog) (w:=X.w) (A:=X.A.in1) (I.ok.hd hc) it a hai its.toArray) e hei (by simp [hei,Ne.symm hae]) (by simp)
  have hi:i < its.toArray.size:=by
   have:=(List.getElem?_eq_some_iff.mp hu).1
   simpa using this
  obtain⟨⟨ol,he0⟩,hit0⟩:=st
  refine wpAny_pyNext_enum_itemD (jn (prog:=X.prog) (w:=X.w) (A:=X.A.in1) (I.ok.hd hc) it a hai its.toArray) he0 ⟨hit0,p⟩ hi hei (by simp [hei,Ne.symm hae]) λy h1 t hy ho hs' ht hsz hk=>⟨_,rfl,?_⟩
  have hm:(λ(i:Nat) (T:Addr) (h:Heap)=>(∃ x,IsEnumOut h e it ((i:Int)+1) x T)/\_/\T≠e/\T≠it) i s.heap.objs.size h1:=⟨⟨_,ho⟩,hs',Nat.ne_of_gt (Heap.lt_size he0),Nat.ne_of_gt (let ⟨_,q,_⟩:=hit0;Heap.lt_size q)⟩
  have kk:∀ b o,b ∉ [e,it]->s.heap.get? b=some o->h1.get? b=some o:=λb o hb q=>hk b o (λz=>hb (by simp [z])) (λz=>hb (by simp [z])) q
  generalize eT:s.heap.objs.size=T at ht ho hm ⊢
  have hT:s.heap.objs.size<=T:=Nat.le_of_eq eT
  have etk:∃ tk,tk=t+1:=⟨_,rfl⟩
  obtain⟨tk,etk⟩:=etk
  rw [<-etk]
  have ey:y=u:=by
   have hy':its[i]?=some y:=by simpa using hy
   rw [hu] at hy'
   exact (Option.some.inj hy').symm
  subst ey
  refine W.go elts k pos i T _ _ _ hm λh2 hst kk2=>?_
  have nT:T ∉ [e,it]:=W.apart i T _ hm
  refine⟨.ref T,upd H T (.tup [.int i,x]),?_,rfl,⟨T,x,λys hy=>by rw [I.tuple_inj hy hq];exact hx,I.hok.fresh hT,rfl,rfl⟩,⟨hst.1,hst.2.1⟩,λb hb=>?_⟩
  ·have ht2:eP h2 T #[.int i t,y]:=⟨_,kk2 T _ nT ht,rfl,⟨_,rfl⟩,rfl⟩
   have I2:Inv X pins σ (upd H T (.tup [.int i,x])) { s with heap:=h2,toks:=tk }:=
    I.turnsT (fp:=[e,it]) (h':=h2) (t':=tk) (its:=#[.int i t,y]) hf (λb o hb q=>kk2 b o hb (kk b o hb q)) hT ht2 (.cons ⟨t,rfl⟩ (.cons ru .nil)) (by show 2<=sizeLine;decide)
   exact I2
  ·rw [upd_ne (show b≠T from λz=>nT (z ▸ hb))]
   exact (hf b hb).1
 done:=by
  intro X hP hw hK hc i pins s σ H E I hf st hg
  subst hP hw hK
  obtain⟨xs,hq,hx⟩:=hg
  obtain⟨its,rv,p,hz⟩:=I.tuple hq
  have hl:=rv.length
  have W:=WalksT.enumerateD (jn (prog:=X.prog) (w:=X.w) (A:=X.A.in1) (I.ok.hd hc) it a hai its.toArray) e hei (by simp [hei,Ne.symm hae]) (by simp)
  have hi:i=its.toArray.size:=by simp;lia
  subst hi
  refine W.done s _ _ ⟨st.1,st.2,p⟩ λh' tk kk=>⟨rfl,I.turns (fp:=[e,it]) hf kk⟩
 self:=λ_ _ _ _ _ st h=>let ⟨⟨_,he⟩,_⟩:=st;wpAny_pyIter_enum he h
end L2
namespace L2
open PySem PySem.Spec PyProof.Rows
section
variable {X:Cx}
noncomputable def zV (K:PySem.W.Frag) (ta:TA):TI:=λσ H R=>ta σ H λvs H1=>∃ a,vs=[.ref a]/\(∃ xs,SqL K H1 a xs)/\R (Ite λH xs=>SqL K H a xs) H1
theorem wx {elts:List Expr}{k:Nat}{tpos:Pos}{a:Expr}{ta:TA}{p pos:Pos} (hg:Gl X "enumerate") (hm:X.mg "enumerate" = none) (ha:PA X [a] ta) (hs:starEach [a] X.env=[(false,eval a X.env)]:=by rfl) :
  PI X (.Tuple elts k tpos) (.Call (.Name "enumerate" p) [a] [] pos) (zV X.K ta):=by
 intro pins s σ H R I h
 refine Call_ (kC I hg hm boot_enumerate (PyProof.Rows.callWith_type1 (thn (ha pos pins s σ H _ I h) λus s1 ⟨vs,H1,I1,r1,q1⟩=>?_) hs rfl))
 obtain⟨l,e,⟨xs,hq⟩,q⟩:=q1
 subst e
 cases r1 with
 | cons r rr=>
  cases rr
  cases r
  obtain⟨its,rv,p',hz⟩:=I1.list hq
  refine call_enumerate_list p'.isList λh' he hit hsz hk=>wpAny_pyIter_enum he ?_
  have hlt:l < s1.heap.objs.size:=by obtain⟨_,_,e,_⟩:=p';exact Heap.lt_size e
  refine⟨_,[s1.heap.objs.size+1,s1.heap.objs.size],_,_,H1,rfl,I1.kept (t':=s1.toks) hk,tE l s1.heap.objs.size (s1.heap.objs.size+1) (Nat.succ_ne_self _) (Nat.ne_of_lt (Nat.lt_succ_of_lt hlt)) (Nat.ne_of_lt hlt),⟨⟨_,he⟩,hit⟩,λb hb=>?_,q⟩
  have hb':s1.heap.objs.size<=b:=by
   rcases List.mem_cons.mp hb with e | hb
   ·rw [e];exact Nat.le_succ _
   ·rw [List.mem_singleton.mp hb];exact Nat.le_refl _
  exact I1.fpOk hb' (I1.hok.fresh hb')
noncomputable def z5 (K:PySem.W.Frag) (ta:TA):TI:=λσ H R=>ta σ H λvs H1=>∃ a,vs=[.ref a]/\(∃ xs,SqT K H1 a xs)/\R (Ite λH xs=>SqT K H a xs) H1
theorem vW {elts:List Expr}{k:Nat}{tpos:Pos}{a:Expr}{ta:TA}{p pos:Pos} (hg:Gl X "enumerate") (hm:X.mg "enumerate" = none) (ha:PA X [a] ta) (hs:starEach [a] X.env=[(false,eval a X.env)]:=by rfl) :
  PI X (.Tuple elts k tpos) (.Call (.Name "enumerate" p) [a] [] pos) (z5 X.K ta):=by
 intro pins s σ H R I h
 refine Call_ (kC I hg hm boot_enumerate (PyProof.Rows.callWith_type1 (thn (ha pos pins s σ H _ I h) λus s1 ⟨vs,H1,I1,r1,q1⟩=>?_) hs rfl))
 obtain⟨l,e,⟨xs,hq⟩,q⟩:=q1
 subst e
 cases r1 with
 | cons r rr=>
  cases rr
  cases r
  obtain⟨its,rv,p',hz⟩:=I1.tuple hq
  refine jN p' λh' he hit hsz hk=>wpAny_pyIter_enum he ?_
  have hlt:l < s1.heap.objs.size:=by obtain⟨_,e,_⟩:=p';exact Heap.lt_size e
  refine⟨_,[s1.heap.objs.size+1,s1.heap.objs.size],_,_,H1,rfl,I1.kept (t':=s1.toks) hk,sq l s1.heap.objs.size (s1.heap.objs.size+1) (Nat.succ_ne_self _) (Nat.ne_of_lt (Nat.lt_succ_of_lt hlt)) (Nat.ne_of_lt hlt),⟨⟨_,he⟩,hit⟩,λb hb=>?_,q⟩
  have hb':s1.heap.objs.size<=b:=by
   rcases List.mem_cons.mp hb with e | hb
   ·rw [e];exact Nat.le_succ _
   ·rw [List.mem_singleton.mp hb];exact Nat.le_refl _
  exact I1.fpOk hb' (I1.hok.fresh hb')
theorem sZ {ns:List Int}:∀ {us:List Value},aV (ns.map V.int) us->∃ xs:Array (Int×Tok),us.toArray=intItems xs/\xs.toList.map (·.1)=ns:=by
 induction ns with
 | nil=>intro us r;cases r;exact⟨#[],by simp [intItems],rfl⟩
 | cons n ns ih=>
  intro us r
  rw [List.map_cons] at r
  cases r with
  | cons r rr=>
   obtain⟨t,rfl⟩:=r
   obtain⟨xs,e,e2⟩:=ih rr
   refine⟨#[(n,t)]++xs,?_,by simp [e2]⟩
   apply Array.toList_inj.mp
   have e':=congrArg Array.toList e
   simp [intItems] at e' ⊢
   exact e'
theorem xg:dw X (.builtin "sum") (λxs H Q=>X.calm=true/\∃ (a:Addr) (ns:List Int),xs=[.ref a]/\SqL X.K H a (ns.map V.int)/\Q (.int ns.sum) H):=by
 intro pins s σ H xs us Q I rv h
 obtain⟨hc,a,ns,rfl,hq,q⟩:=h
 cases rv with
 | cons r rr=>
  cases rr
  cases r
  obtain⟨its,rv,p,hz⟩:=I.list hq
  obtain⟨ps,e1,e2⟩:=sZ rv
  have hl:=p.isList
  rw [e1] at hl
  refine sum_intListG (I.ok.hd hc) hl λh' tk t' hk=>?_
  refine⟨.int ns.sum,H,I.kept (t':=tk) hk,⟨t',?_⟩,q⟩
  rw [preSum_eq,List.take_of_length_le (by simp),e2]
theorem vZ:dw X (.builtin "all") (λxs H Q=>X.calm=true/\∃ (a:Addr) (bs:List Bool),xs=[.ref a]/\SqL X.K H a (bs.map V.bl)/\Q (.bl (bs.all id)) H):=by
 intro pins s σ H xs us Q I rv h
 obtain⟨hc,a,bs,rfl,hq,q⟩:=h
 cases rv with
 | cons r rr=>
  cases rr
  cases r
  obtain⟨its,rv,p,hz⟩:=I.list hq
  have hlt:a < s.heap.objs.size:=by obtain⟨_,_,e,_⟩:=p;exact Heap.lt_size e
  have hlen:its.length=bs.length:=by have:=rv.length;simpa using this.symm
  refine call_all_walk (wpAny_pyIter_list p.isList ?_)
  refine⟨s.heap.objs.size,_,_,_,_,_,λi=>(bs[i]?).getD true,rfl,Walks.list (A:=X.A.in1) (I.ok.hd hc) s.heap.objs.size a (Nat.ne_of_lt hlt) its.toArray,⟨⟨_,Heap.get?_push_size _ rfl,rfl,rfl⟩,p.isList.push _⟩,?_,λh' tk hk=>?_⟩
  ·intro i v s' Q' E' hv hQ'
   have hv':its[i]?=some v:=by simpa using hv
   have hi:i < its.length:=(List.getElem?_eq_some_iff.mp hv').1
   obtain⟨b,hb⟩:∃ b,bs[i]?=some b:=⟨bs[i]'(by lia),by simp [show i < bs.length by lia]⟩
   have:(bs.map V.bl)[i]?=some (.bl b):=by rw [List.getElem?_map,hb];rfl
   obtain⟨u,hu,ru⟩:=rv.get this
   rw [hv'] at hu
   cases hu
   cases ru
   have hQ2:Q' ((bs[i]?).getD true) s':=hQ'
   rw [hb] at hQ2
   exact wpAny_truthy_bool hQ2
  ·refine⟨.bl (bs.all id),H,I.kept (t':=tk) (λb o e=>hk b o (λz=>absurd (Heap.lt_size e) (by rw [List.mem_singleton.mp z];exact Nat.lt_irrefl _)) (Heap.get?_push_of_some _ e)),?_,q⟩
   show Value.bool _=Value.bool _
   congr 1
   have:∀ n,n=bs.length->((List.range n).all λi=>(bs[i]?).getD true)=bs.all id:=by
    intro n hn
    rw [Bool.eq_iff_iff,List.all_eq_true,List.all_eq_true]
    constructor
    ·intro h b hb
     obtain⟨i,hi,e⟩:=List.mem_iff_getElem.mp hb
     have:=h i (List.mem_range.mpr (by lia))
     simp [hi,e] at this
     exact this
    ·intro h i hi
     have hi':=List.mem_range.mp hi
     have hlt':i < bs.length:=by lia
     simp [hlt']
     exact h _ (List.getElem_mem _)
   exact this _ (by simpa using hlen)
end
end L2
namespace L2
open PySem PySem.Spec PyProof.Rows
noncomputable def gz (k:Nat) (js:List Nat) (σ:St):St:=List.replicate k none++js.map λj=>(σ[j]?).getD none
noncomputable def Bw (scope:Scope) (ns:List (Str×NameKind)) (N Nc:List Str) (k:Nat) (js:List Nat):Bool:=
 decide ((scope.names.map (·.1)).Nodup) && decide Nc.Nodup && decide (Nc.length=k+js.length) &&
 (scope.names.all λx=>x.2 != .free || ns.lookup x.1==some .cell || ns.lookup x.1==some .free) &&
 ((List.range js.length).all λi=>match Nc[k+i]?,js[i]? with | some x,some j=>N[j]?==some x && scope.names.lookup x==some .free | _,_=>false)
theorem cT {X:Cx}{scope:Scope} (ns:List (Str×NameKind)) (N Nc:List Str) (k:Nat) (js:List Nat) (hns:X.env.scope.names=ns) (hN:X.N=N) (hk:scope.kind=.function) (h:Bw scope ns N Nc k js=true):fN X scope Nc (gz k js):=by
 unfold Bw at h
 simp only [Bool.and_eq_true,decide_eq_true_eq] at h
 obtain⟨⟨⟨⟨h1,h2⟩,h3⟩,h4⟩,h5⟩:=h
 refine⟨hk,h1,h2,λx hx hf=>?_,λσ _=>?_,λσ _ i x v e1 e2=>?_⟩
 ·have:=List.all_eq_true.mp h4 x hx
  rw [hf] at this
  simp only [Bool.or_eq_true,beq_iff_eq,bne_self_eq_false,Bool.false_eq_true,false_or] at this
  unfold Env.kindOf
  rw [hns]
  exact this
 ·unfold gz
  rw [List.length_append,List.length_replicate,List.length_map,h3]
 ·unfold gz at e2
  by_cases hi:i < k
  ·rw [List.getElem?_append_left (by simpa using hi),List.getElem?_replicate,if_pos hi] at e2
   cases e2
  ·rw [List.getElem?_append_right (by simpa using hi),List.length_replicate,List.getElem?_map] at e2
   cases ej:js[i - k]? with
   | none=>rw [ej] at e2;cases e2
   | some j=>
    rw [ej] at e2
    have hlt:=(List.getElem?_eq_some_iff.mp ej).1
    have:=List.all_eq_true.mp h5 (i - k) (List.mem_range.mpr hlt)
    rw [show k+(i - k)=i by lia,e1,ej] at this
    simp only [Bool.and_eq_true,beq_iff_eq] at this
    refine⟨j,by rw [hN];exact this.1,?_,this.2⟩
    have e3:(σ[j]?).getD none=some v:=Option.some.inj e2
    cases eq:σ[j]? with
    | none=>rw [eq] at e3;cases e3
    | some o=>rw [eq] at e3;rw [show o=some v from e3]
noncomputable def A6 (names ns:List (Str×NameKind)):List (Str×NameKind):=names.map λx=>if (x.2==NameKind.free && ns.lookup x.1==some .cell) then (x.1,.cell) else x
theorem yC {X:Cx}{scope:Scope}{cells:List (Str×Addr)}{Nc:List Str}{s:Shared}{H:Hp}{C:Addr}{fp:List Addr}{ns:List (Str×NameKind)} (hk:X.env.scope.kind=.function) (hns:X.env.scope.names=ns) :
  (lcX X scope cells Nc s H C fp).env.scope.names=A6 scope.names ns:=by
 show (scope.names.map _)=_
 unfold A6
 congr 1
 funext x
 obtain⟨n,k⟩:=x
 show (if (k==.free && X.env.scope.kind==.function && X.env.kindOf n==some .cell)=true then (n,NameKind.cell) else (n,k))=(if (k==.free && ns.lookup n==some .cell)=true then (n,NameKind.cell) else (n,k))
 unfold Env.kindOf
 rw [hk,hns,show (ScopeKind.function==ScopeKind.function)=true from rfl,Bool.and_true]
section
variable {σe tl:St}{tt:TT}{te:TE}{H:Hp}{Q:VK}
end
section
variable {X:Cx}
theorem yp:OpR X (binaryOp .Mult) (rI IntMulOk λi j=>.int (i*j)):=opI λ_ _ _ _ _ _ _ hc q=>mul_int q hc
end
theorem bB.new {H:Hp}{p:Addr} (h:H p=none) (o:HO):bB H (upd H p o):=λb u q=>by rw [upd_ne (aS q h)];exact q
end L2
namespace L2
open PySem PySem.Spec PyProof.Rows
theorem pT {n:Nat} (h:n<=1000):n<=sizeLine:=Nat.le_of_lt (vm h)
end L2
namespace L2
open PySem PySem.Spec PyProof.Rows
theorem p18:re 10 18:=⟨by decide,by decide,by decide⟩
end L2
namespace L2
open PySem PySem.Spec PyProof.Rows
open PySem.AutoSeq1 (wpAny_loadPart')
theorem vM (l:Addr) (items:Array Value) (n:Nat) (dct:Option Addr) (sl:Array (Option Value)) (u:Tok) :
  Meets (Builtin.«tuple.__mul__» ⟨[.ref l,.int 1 u],[]⟩) (λ_ R s=>s.heap.get? l=some { cls:=.type "tuple",dict:=dct,data:=.seq items n,slots:=sl }/\R (.ok (.ret (.ref l))) s):=
 .of_wp λprog w A R s h=>by
  obtain⟨hp,g,d,tk,os⟩:=s;obtain⟨hl,h⟩:=h
  wp_walk using wpAny_loadPart' hl
  exact⟨_,rfl,h⟩
theorem u6 (l:Addr) (items:Array Value) (n:Nat) (dct:Option Addr) (sl:Array (Option Value)) (x:Int) (u:Tok) (h2:2<=x) (h3:x < 1000) (he:items.isEmpty=false) (hz:items.size<=1000)
  (hsz:((List.replicate x.toNat items).foldl (λx1 x2=>x1++x2) #[]).size<=sizeLine) :
  Meets (Builtin.«tuple.__mul__» ⟨[.ref l,.int x u],[]⟩) (λ_ R s=>s.heap.get? l=some { cls:=.type "tuple",dict:=dct,data:=.seq items n,slots:=sl }/\
   R (.ok (.ret (.ref s.heap.objs.size))) { s with heap:=s.heap.push { cls:=.type "tuple",data:=.seq ((List.replicate x.toNat items).foldl (λx1 x2=>x1++x2) #[]) } }):=
 .of_wp λprog w A R s h=>by
  obtain⟨hp,g,d,tk,os⟩:=s;obtain⟨hl,h⟩:=h
  have c1:(x < -(2 ^ 63) || x>=2 ^ 63)=false:=by simp;lia
  have c2:(items.isEmpty || x==1)=false:=by rw [he];simp;lia
  have c3:(x<=0 || items.isEmpty)=false:=by rw [he];simp;lia
  have hpr:(items.size:Int)*x<=1000000:=by
   have a1:(items.size:Int)*x<=1000*x:=Int.mul_le_mul_of_nonneg_right (by lia) (by lia)
   lia
  have c4:¬ ((items.size:Int)*x > (2 ^ 63 - 1) / 8):=by lia
  have c5:Builtin.Tuple.tupleTooMany ((items.size:Int)*x)=false:=by
   unfold Builtin.Tuple.tupleTooMany
   exact decide_eq_false (by have:(sizeLine:Nat)=16777216:=rfl
                             lia)
  wp_walk using wpAny_loadPart' hl
  refine wpAny_ite_false (decide_eq_false (by rw [c1];exact Bool.false_ne_true)) ?_
  wp_walk using wpAny_loadPart' hl
  refine wpAny_ite_false (decide_eq_false (by rw [c2];exact Bool.false_ne_true)) ?_
  wp_walk using wpAny_loadPart' hl
  refine wpAny_ite_false (decide_eq_false (by rw [c3];exact Bool.false_ne_true)) ?_
  wp_walk using wpAny_loadPart' hl
  refine wpAny_ite_false (decide_eq_false c4) ?_
  wp_walk using wpAny_loadPart' hl
  exact⟨_,rfl,h⟩
theorem lK:fillsNumberSlot (.type "tuple") "mul" = pure false:=
 PySem.fillsNumberSlot_seq (id:="tuple.__mul__") (r:=some (.builtin "tuple.__rmul__")) F.slot_tuple_mul.lookup (by decide +kernel) F.slot_tuple_rmul.lookup (by decide +kernel)
theorem qw:seqRepeat? (.type "tuple")=pure (some (.builtin "tuple.__mul__")):=by
 unfold seqRepeat?
 rw [PySem.seqSlot_of (T:="tuple") (name:="__mul__") (id:="tuple.__mul__") F.slot_tuple_mul.lookup (by decide +kernel),PySem.seqSlot_of (T:="tuple") (name:="__rmul__") (id:="tuple.__rmul__") F.slot_tuple_rmul.lookup (by decide +kernel)]
 rfl
theorem nM (a:Int) (t:Tok) (l:Addr) (items:Array Value) (n:Nat) (dct:Option Addr) (sl:Array (Option Value)) :
  Meets (Builtin.«int.__rmul__» ⟨[.int a t,.ref l],[]⟩) (λ_ R s=>s.heap.get? l=some { cls:=.type "tuple",dict:=dct,data:=.seq items n,slots:=sl }/\R (.ok (.ret Value.notImplemented)) s):=
 .of_wp λprog w A R s h=>by obtain⟨hp,g,d,tk,os⟩:=s;obtain⟨hl,h⟩:=h;wp_walk using wpAny_loadPart' hl;exact⟨_,rfl,h⟩
section
variable {X:Cx}
noncomputable def BD (K:PySem.W.Frag):R2:=λx y H Q=>∃ l k xs,x=.ref l/\y=.int k/\SqT K H l xs/\xs≠[]/\xs.length<=1000/\1<=k/\k < 1000/\(k=1->Q (.ref l) H)/\
 (k≠1->∀ p,H p=none->Q (.ref p) (upd H p (.tup (List.replicate k.toNat xs).flatten)))
theorem xQ:OpR X (binaryOp .Mult) (BD X.K):=by
 intro pins s σ H x y v u Q I rx ry h
 obtain⟨l,k,xs,rfl,rfl,hq,hne,hl1,h1,h2,q1,q2⟩:=h
 cases rx
 obtain⟨t,rfl⟩:=ry
 obtain⟨its,rv,p,hz⟩:=I.tuple hq
 obtain⟨⟨c,dct,dt,sl⟩,e,hc,n,hd⟩:=p
 replace hc:c=.type "tuple":=hc
 replace hd:dt=.seq its.toArray n:=hd
 subst hc hd
 have hlen:=rv.length
 refine wpAny_binaryOp_repeat_ref (T:="tuple") (U:="int") (by decide) ⟨_,e,rfl⟩ (λs'=>typeIs_int s' k t) lK F.fills_int_mul F.slot_int_rmul qw F.slot_int_index.lookup
  (call_meets F.slot_int_rmul (typeIs_int s k t) F.entry_int_rmul (F.args_int_rmul_2 _ _) (nM k t l its.toArray n dct sl) ⟨e,rfl,⟨_,e,rfl⟩,?_⟩)
 by_cases hk:k=1
 ·subst hk
  exact call_meets F.slot_tuple_mul ⟨_,e,rfl⟩ F.entry_tuple_mul (F.args_tuple_mul_2 _ _) (vM l its.toArray n dct sl t) ⟨e,.ref l,H,I,rfl,q1 rfl⟩
 ·have f0:List.foldl (λx1 x2=>x1++x2) #[] (List.replicate k.toNat its.toArray)=(List.replicate k.toNat its).flatten.toArray:=by
   have:=lJ its k.toNat []
   rw [List.nil_append] at this
   exact this
  have hsz:(List.replicate k.toNat xs).flatten.length<=sizeLine:=by
   rw [qc]
   have:k.toNat*xs.length<=1000*1000:=Nat.mul_le_mul (by lia) hl1
   have hs:sizeLine=16777216:=rfl
   lia
  have hsz2:(List.replicate k.toNat its).flatten.length<=sizeLine:=by
   rw [qc] at hsz ⊢
   rw [<-hlen];exact hsz
  refine call_meets F.slot_tuple_mul ⟨_,e,rfl⟩ F.entry_tuple_mul (F.args_tuple_mul_2 _ _) (u6 l its.toArray n dct sl k t (by lia) h2 ?_ (by rw [List.size_toArray];lia) (by rw [f0,List.size_toArray];exact hsz2)) ⟨e,?_⟩
  ·cases its with
   | nil=>cases xs with
    | nil=>exact absurd rfl hne
    | cons _ _=>cases hlen
   | cons _ _=>rfl
  ·rw [f0]
   refine⟨.ref _,_,I.laid (t':=s.toks) (o:=.tup (List.replicate k.toNat xs).flatten) (λ_ _ q=>Heap.get?_push_of_some _ q) (Nat.le_refl _) ⟨hsz,(List.replicate k.toNat its).flatten,rv.rep k.toNat,⟨_,Heap.get?_push_size _ rfl,rfl,⟨0,rfl⟩,rfl⟩⟩,rfl,q2 hk _ I.fresh⟩
end
end L2
namespace L2
open PySem PySem.Spec PyProof.Rows
end L2
namespace L2
open PySem PySem.Spec PyProof.Rows
section
variable {X:Cx}{K:PySem.W.Frag}
theorem AU (hc:X.calm=true:=by rfl) (hK:X.K=K:=by rfl):dw X (.builtin "sum") (λxs H Q=>∃ (a:Addr) (ns:List Int),xs=[.ref a]/\SqL K H a (ns.map V.int)/\Q (.int ns.sum) H):=by
 subst hK
 intro pins s σ H xs us Q I rv h
 exact xg pins s σ H xs us Q I rv ⟨hc,h⟩
theorem AR (hc:X.calm=true:=by rfl) (hK:X.K=K:=by rfl):dw X (.builtin "all") (λxs H Q=>∃ (a:Addr) (bs:List Bool),xs=[.ref a]/\SqL K H a (bs.map V.bl)/\Q (.bl (bs.all id)) H):=by
 subst hK
 intro pins s σ H xs us Q I rv h
 exact vZ pins s σ H xs us Q I rv ⟨hc,h⟩
end
end L2
namespace L2
open PySem PySem.Spec PyProof.Rows
section
variable {X:Cx}
end
end L2
namespace L2
open PySem PySem.Spec PyProof.Rows
theorem fK {n j:Nat} (h:j < n):ixN n (j:Int)=some j:=by
 unfold ixN
 rw [if_pos (by lia),if_pos (by lia),Int.toNat_natCast]
end L2
namespace L2
open PySem PySem.Spec PyProof.Rows
section
variable {X:Cx}{e:Expr}{ty:TE}{p1 p2 p3 p4 dpos apos cpos:Pos}{j1 j2 j3 j4:Nat}
end
end L2
namespace L2
open PySem PySem.Spec PyProof.Rows
end L2
namespace L2
open PySem PySem.Spec PyProof.Rows
open PySem.AutoSeq1 (wpAny_loadPart')
section
variable {prog:Program}{w:World}{A:Around}{E:Value->Shared->Prop}{s:Shared}
end
section
variable {X:Cx}
theorem ye:dw X (.type "range") (λxs H Q=>∃ j:Int,xs=[.int j]/\∀ p,H p=none->Q (.ref p) (upd H p (.rng 0 j))):=by
 intro pins s σ H xs us Q I rv h
 obtain⟨j,rfl,q⟩:=h
 cases rv with
 | cons r rr=>
  cases rr
  obtain⟨t,rfl⟩:=r
  exact call_range_1 ⟨.ref _,_,I.laid (o:=.rng 0 j) (λ_ _ q=>Heap.get?_push_of_some _ q) (Nat.le_refl _) ⟨_,_,_,Heap.get?_push_size _ rfl⟩,rfl,q _ I.fresh⟩
end
section
variable {prog:Program}{w:World}{A:Around}{E:Value->Shared->Prop}{s:Shared}
end
section
variable {X:Cx}{e:Expr}{te:TE}{p1 p2 p3 pos:Pos}{j:Nat}
end
end L2
namespace L2
open PySem PySem.Spec PyProof.Rows
end L2
namespace L2
open PySem PySem.Spec PyProof.Rows
theorem aV.at {xs:List V}{us:List Value} (r:aV xs us):∀ (j:Nat) (h:j < us.length) ,∃ h':j < xs.length,bJ xs[j] us[j]:=by
 induction r with
 | nil=>intro j h;exact absurd h (Nat.not_lt_zero j)
 | cons a t ih=>
  intro j h
  cases j with
  | zero=>exact⟨Nat.zero_lt_succ _,a⟩
  | succ j=>
   obtain⟨h1,r1⟩:=ih j (Nat.lt_of_succ_lt_succ h)
   exact⟨Nat.succ_lt_succ h1,r1⟩
theorem mH (e:Nat->Bool) (n:Nat):(List.range (n+1)).all e=(e 0 && (List.range n).all λj=>e (j+1)):=by
 rw [List.range_succ_eq_map,List.all_cons,List.all_map];rfl
section
variable {X:Cx}{K:PySem.W.Frag}{pins:List (Addr×Obj)}{σ:St}{H:Hp}{s:Shared}{A:Around}{a b:Addr}{xs ys:List V}
end
end L2
namespace L2
open PySem PySem.Spec PyProof.Rows
section
variable {X:Cx}{pos p1 p2:Pos}{j1 j2:Nat}
end
section
variable {K:PySem.W.Frag}{H:Hp}
end
section
variable {X:Cx}{K:PySem.W.Frag}
end
end L2
namespace HT
open PySem PySem.Spec PyProof.Rows L2
section
variable {prog:Program}{w:World}{A:Around}{E:Value->Shared->Prop}{s:Shared}
theorem getItem_tuple_all {t sl:Addr}{items:Array Value}{vl vu:Value}{lo hi:Option Int}{Q:Value->Shared->Prop} (ht:IsTup s.heap t items) (hs:s.heap.IsSliceOf sl vl vu .none) (pl:IsPart vl lo) (pu:IsPart vu hi)
  (hw:sIx items.size 0 lo=0/\sIx items.size items.size hi=items.size) (h:Q (.ref t) s):wpAny (model prog w) A (getItem (.ref t) (.ref sl)) Q E s:=by
 obtain⟨os,hos,hcs,hds⟩:=id hs
 have hTs:s.TypeIs (.ref sl) "slice":=⟨os,hos,hcs⟩
 unfold getItem
 try with_reducible refine wpAny_holding ?_
 first | refine wpAny_bind (wpAny_pure ?_) | skip
 refine wpAny_bind (wpAny_sequenceKey ht.typeIs (by decide) ?_)
 refine wpAny_bind (wpAny_callSpecial?_slot (name:=Str.ofString "__getitem__") ht.typeIs PyProof.Rows.slot_tuple_getitem
  (wpAny_call_entry PyProof.Rows.slot_tuple_getitem ht.typeIs entry_tuple_getitem ?_ (args_tuple_getitem _ _)))
 show wpAny _ _ (Builtin.Tuple.tupleItemsOf (.ref t) >>= _) _ _ s
 refine wpAny_bind (tupleItemsOf_ ht ?_)
 refine wpAny_bind (wpAny_typeOf hTs ?_)
 rw [if_pos (by decide)]
 refine wpAny_bind (iI hs pl pu ?_)
 have hyes:(((sIx items.size 0 lo:Nat):Int)==0 && (1:Int)==1 && (sIx items.size items.size hi - sIx items.size 0 lo)==items.size)=true:=by
  rw [hw.1,hw.2]
  simp
 show wpAny _ _ (if (((sIx items.size 0 lo:Nat):Int)==0 && (1:Int)==1 && (sIx items.size items.size hi - sIx items.size 0 lo)==items.size)=true then _ else _) _ _ s
 rw [if_pos hyes]
 unfold Builtin.Tuple.tupleIsExact
 refine wpAny_bind (wpAny_bind (wpAny_typeOf ht.typeIs (wpAny_pure ?_)))
 show wpAny _ _ (if ((Value.type "tuple")==(Value.type "tuple"))=true then _ else _) _ _ s
 rw [if_pos (beq_self_eq_true _)]
 first
  | exact wpAny_bind (wpAny_rule (wpAny_pure ⟨_,rfl,wpAny_pure h⟩))
  | exact wpAny_bind (wpAny_bind (wpAny_rule (wpAny_pure (wpAny_pure ⟨_,rfl,wpAny_pure h⟩))))
  | exact wpAny_bind (wpAny_rule (wpAny_bind (wpAny_pure (wpAny_pure ⟨_,rfl,wpAny_pure h⟩))))
  | exact wpAny_bind (wpAny_rule (wpAny_bind (wpAny_pure ⟨_,rfl,wpAny_pure h⟩)))
end
end HT
namespace L2
open PySem PySem.Spec PyProof.Rows
noncomputable def Bl (K:PySem.W.Frag):V->Option Int->Option Int->Hp->VK->Prop:=λx lo hi H Q=>∃ a xs,x=.ref a/\SqT K H a xs/\
 ((¬ (HT.sIx xs.length 0 lo=0/\HT.sIx xs.length xs.length hi=xs.length)/\∀ p,H p=none->Q (.ref p) (upd H p (.tup (pe xs lo hi))))\/
   ((HT.sIx xs.length 0 lo=0/\HT.sIx xs.length xs.length hi=xs.length)/\Q (.ref a) H))
theorem AB {X:Cx}{K:PySem.W.Frag} (hK:X.K=K:=by rfl):SlR X (Bl K):=by
 subst hK
 intro pins s σ H x v vl vu lo hi sl Q I rx hs pl pu h
 obtain⟨a,xs,rfl,hx,h⟩:=h
 rcases h with⟨hw,q⟩ | ⟨hw,q⟩
 ·exact zZ pins s σ H _ v vl vu lo hi sl Q I rx hs pl pu ⟨a,xs,rfl,hx,hw,q⟩
 ·cases rx
  obtain⟨its,r,ht,hz⟩:=I.tuple hx
  have hlen:its.toArray.size=xs.length:=by rw [List.size_toArray];exact r.length.symm
  refine⟨"tuple",_,PyProof.Rows.slot_tuple_getitem.lookup,ht.typeIs,?_⟩
  exact HT.getItem_tuple_all ht hs pl pu (by rw [hlen];exact hw) ⟨.ref a,H,I,rfl,q⟩
end L2
namespace L2
open PySem PySem.Spec PyProof.Rows
section
variable {X:Cx}{scope:Scope}{Nc:List Str}{emb:St->St}{elt iter tg:Expr}{ifs:List Expr}{pos:Pos}{wi:TI}{g:TG}{tt:TT}{te:TE}
theorem yL {i0:Nat}{x0:Str}{py spos:Pos} (hN0:X.N.Nodup) (hi0:X.N[i0]?=some x0) (hx0:Loc X.env.scope x0) (S:fN X scope Nc emb) (hc:X.calm=true) (hi:PI X tg iter wi)
  (hg:∀ cells s H C fp,PG (lcX X scope cells Nc s H C fp) tg g) (ht:∀ cells s H C fp,PTs (lcX X scope cells Nc s H C fp) ifs tt) (he:∀ cells s H C fp,PE (lcX X scope cells Nc s H C fp) elt te)
  (hsw:swapsWith (.ListComp elt [⟨tg,iter,ifs,0⟩] scope pos) (some (.Name x0 py)) spos.line X.env=pure true:=by rfl)
  (hf0:X.fn x0=true\/X.env.scope.names.lookup x0=some .local:=by first | exact .inl rfl | exact .inr rfl | assumption)
  (hs:∀ x,foldedSetIterable iter X.env x=pure x:=by intro _;rfl):PS X (.Assign [.Name x0 py] (.ListComp elt [⟨tg,iter,ifs,0⟩] scope pos) spos) (zn (tLc emb wi g tt te) (qD i0)):=by
 intro pins s σ H DD I h
 rw [exec_Assign_Name_used _ _ _ _ hsw]
 refine wpAny_bind (wpAny_standAt (wpAny_bind ?_))
 show wpAny _ X.A (do let _ <-comprehension (.ListComp elt [⟨tg,iter,ifs,0⟩] scope pos) scope X.env _ (newList []) false (eval iter X.env) (some (assign (.Name x0 py) X.env))) _ _ s
 refine wpAny_bind (wpAny_mono (wpAny_comprehension_free (use:=some (assign (.Name x0 py) X.env)) (Q:=λ_ s'=>SP X pins DD .next s') rfl hs (kl (S.clos I.ok)) S.kind (λx hx hl=>gk S.nd (by rw [<-hl];exact hx)) ?_) (λ_ s' hq=>wpAny_pure (wpAny_pure hq)) λ_ _ e=>e)
 refine thn (hi pins s σ H _ I h) λv s1 h1=>thn h1 λitv s2 h2=>?_
 obtain⟨it,fp,tn,J,H2,e,I2,T,st2,f2,W,⟨m0,w0⟩,turn⟩:=h2
 subst e
 refine wpAny_newObj_type (kY ?_)
 rw [show (s2.heap.push { cls:=.type "list",dict:=none,data:=.seq ([]:List Value).toArray }).objs.size=s2.heap.objs.size+1 from Heap.size_push ..]
 generalize hD:s2.heap.objs.size=D
 generalize hlo:({ cls:=.type "list",dict:=none,data:=.seq ([]:List Value).toArray }:Obj)=lo
 have fplt:∀ b ∈ fp,b < s2.heap.objs.size:=λb hb=>by obtain⟨o,e,_⟩:=T.obj _ _ st2 b hb;exact Heap.lt_size e
 have I3:=sh (lo:=lo) S I2 f2 (λb hb=>by obtain⟨o,e,_⟩:=T.obj _ _ st2 b hb;exact⟨o,e⟩) (by rw [<-hlo];intro v z;cases z) (by rw [<-hlo];rfl)
 rw [hD] at I3
 generalize hcells:cellsFrom (D+2) scope.names (cH X.env.cells scope.names [])=cells at I3
 generalize hX':lcX X scope cells Nc s2 H2 (D+1) fp=X' at I3
 have hfpX:∀ {H':Hp}{ps:List (Addr×Obj)},(∀ b ∈ fp,H' b=none)->(∀ p ∈ ps,p.1=D)->∀ b ∈ fp,j6 X' ps H' b:=λ{H' ps} hn hps b hb=>by
  have ok:=I3.ok
  refine⟨hn b hb,?_,?_,.inl (by rw [<-hX'];exact hb),?_,λp hp=>?_⟩
  ·exact (ok.exf b (by rw [<-hX'];exact hb)).1
  ·exact ok.exfs b (by rw [<-hX'];exact hb)
  ·exact (ok.exf b (by rw [<-hX'];exact hb)).2
  ·have hp':p ∈ ([]:List (Addr×Obj))++ps:=by rw [<-hX'] at hp;exact hp
   have e:p.1=D:=hps p (by simpa using hp')
   rw [e,<-hD]
   exact Nat.ne_of_gt (fplt b hb)
 have Dex:D ∈ X'.ex\/X'.s₀.heap.objs.size<=D:=.inr (by rw [<-hX',<-hD];exact Nat.le_refl _)
 have Dloc:D≠X'.env.locals:=by rw [<-hX'];exact Nat.ne_of_lt (Nat.lt_succ_self _)
 have pD:=I3.pin (D,lo) (by rw [<-hX'];exact List.mem_append_right _ List.mem_cons_self)
 have Dfs:D ∉ X'.fs:=pD.2.2.2.1
 have Dcell:∀ x c,X'.env.cells.lookup x=some c->c≠D:=λx c hc' e=>by
  obtain⟨v,o,ho,hd⟩:=I3.cell x c hc'
  rw [e,pD.1] at ho
  cases ho
  exact pD.2.2.2.2 v hd
 -- the loop
 have loop:∀ s3:Shared,s3={ s2 with heap:=pushCells ((s2.heap.push lo).push { cls:=.type "dict",data:=.dict #[] }) scope.names }->
   codeAny (model X.prog X.w) X.A (.compLoop (.ListComp elt [⟨tg,iter,ifs,0⟩] scope pos) 0 (.ref it) (.ref D) (compEnvC scope cells (D+1) X.env))
    (compPost (model X.prog X.w) X.A X.xe (some (assign (.Name x0 py) X.env)) (λ_ s'=>SP X pins DD .next s') (.ref D) (D+1)) s3:=by
  rintro s3 rfl
  refine fR (λn s'=>∃ i ys its k H',Inv X' [(D,{ cls:=.type "list",data:=.seq its.toArray k })] (emb σ) H' s'/\aV ys its/\tn i s'.heap/\(∀ b ∈ fp,H' b=none)/\ys.length<=sizeLine/\W i n ys H') ?_ m0
   ⟨0,[],[],0,H2,?_,.nil,?_,λb hb=>(f2 b hb).1,Nat.zero_le _,w0⟩
  ·rintro n s4 ⟨i,ys,its,k,H4,I4,rv,st4,fr4,hlen,w4⟩
   have hps:∀ p ∈ [(D,({ cls:=.type "list",data:=.seq its.toArray k }:Obj))],p.1=D:=λp hp=>by
    have:=List.mem_singleton.mp hp
    rw [this]
   rcases turn i n ys H4 w4 with⟨stop,qn⟩ | ⟨go,hlt,N,hN,step⟩
   ·-- the end
    have TD:=T.done X' (by rw [<-hX'];rfl) (by rw [<-hX'];rfl) (by rw [<-hX'];rfl) (by rw [<-hX'];exact hc) i _ s4 (emb σ) H4 (λ_ _=>False) I4 (hfpX fr4 hps) st4 stop
    rw [show X'.A=X.A by rw [<-hX'];rfl] at TD
    refine thn TD λr s5 ⟨hr,I5⟩=>?_
    subst hr
    obtain⟨m5,hn5,_⟩:=id I5.loc
    have eC:X'.env.locals=D+1:=by rw [<-hX'];rfl
    rw [eC] at hn5
    suffices inv5:∀ h',Heap.SameBut (D+1) s5.heap h'->Inv X pins σ (upd H4 D (.lst ys)) { s5 with heap:=h' } by
     have I5X:Inv X pins σ (upd H4 D (.lst ys)) s5:=inv5 s5.heap ⟨rfl,λ_ _=>rfl⟩
     have hD4':H4 D=none:=(I5.pin (D,{ cls:=.type "list",data:=.seq its.toArray k }) (by rw [<-hX'];exact List.mem_append_right _ List.mem_cons_self)).2.1
     have hC4:upd H4 D (.lst ys) (D+1)=none:=by
      have:=I5.free
      rw [eC] at this
      rw [upd_ne (Nat.ne_of_gt (Nat.lt_succ_self D))]
      exact this
     have fpC:∀ b ∈ [D+1],j6 X pins (upd H4 D (.lst ys)) b:=λb hb=>by
      have e:=List.mem_singleton.mp hb
      subst e
      exact I2.fpOk (by rw [hD];exact Nat.le_succ D) hC4
     obtain⟨oC,esC,epC,getC,datC,relC⟩:=id hn5
     have I5p:=I5X.pinned fpC λb hb=>by
      have e:=List.mem_singleton.mp hb
      subst e
      exact⟨oC,getC,λv z=>by rw [datC] at z;cases z⟩
     refine wpAny_assign_Name (ng I5p hN0 hi0 hx0 (v:=.ref D) rfl (λs6 I6=>?_) hf0)
     have pC:=(I6.pin (D+1,oC) (List.mem_append_right _ (List.mem_append_right _ (eF List.mem_cons_self getC)))).1
     refine⟨m5,⟨oC,esC,epC,pC,datC,relC⟩,λh' hsb=>?_⟩
     have I6u:=I6.unpinned
     exact⟨_,_,I6u.turns (t':=s6.toks) fpC (λb o hb e=>(hsb.2 b (λz=>hb (by rw [z];exact List.mem_cons_self))).trans e),qn D hD4'⟩
    intro h' hsb
    have pD5:=I5.pin (D,{ cls:=.type "list",data:=.seq its.toArray k }) (by rw [<-hX'];exact List.mem_append_right _ List.mem_cons_self)
    have neC:∀ b u,H4 b=some u->b≠D+1:=λb u e z=>by
     have:=I5.free
     rw [eC,<-z,e] at this
     cases this
    have hD4:H4 D=none:=pD5.2.1
    have un:=I5.base
    have un':Un (frs X.stack) fp H2 H4 s2.heap s5.heap:=by rw [<-hX'] at un;exact un
    have old_ne:∀ b o,s2.heap.get? b=some o->b≠D/\b≠D+1:=λb o e=>by
     have q:=Heap.lt_size e
     rw [hD] at q
     exact⟨Nat.ne_of_lt q,Nat.ne_of_lt (Nat.lt_succ_of_lt q)⟩
    have h2D:H2 D=none:=by rw [<-hD];exact I2.fresh
    have hok':HOk X.prog X.w H4 h':=λb u e=>by
     have ob:dB X.prog X.w H4 s5.heap b u:=by have:=I5.hok b u e;rw [<-hX'] at this;exact this
     refine ob.stay (λc v hcv q=>(hsb.2 c ?_).trans q) (λ_ q=>q) λ_ _ q=>q
     rcases hcv with z | z
     ·rw [z];exact neC b u e
     ·exact neC c _ z
    have hokD:HOk X.prog X.w (upd H4 D (.lst ys)) h':=λb u e=>by
     by_cases hb:b=D
     ·subst hb
      rw [upd_same] at e
      cases e
      exact⟨hlen,its,k,rv,(hsb.2 b (Nat.ne_of_lt (Nat.lt_succ_self _))).trans pD5.1⟩
     ·rw [upd_ne hb] at e
      refine (hok' b u e).stay (λ_ _ _ q=>q) (λc q=>?_) λc z q=>?_
      all_goals first
       | (rw [upd_ne (aS q hD4)];exact q)
       | (rw [upd_ne (aS z hD4)];exact z)
    refine I2.call' (s':={ s5 with heap:=h' }) (ch:=fp) ?_ ⟨λb o e nb hb hx=>?_,λb o e nb hb hx=>?_,λb o e nb hx=>?_,λb o e hx=>?_,λb xs e=>?_,λb o u e=>?_,λb ps e=>?_⟩ hokD I5.bare (λb hb=>?_)
    ·have:=I5.os
     rw [<-hX'] at this
     exact this
    ·exact (hsb.2 b (old_ne b o e).2).trans (un'.keep b o e nb hb hx)
    ·obtain⟨sl,q⟩:=un'.slot b o e nb hb hx
     exact⟨sl,(hsb.2 b (old_ne b o e).2).trans q⟩
    ·rw [upd_ne (old_ne b o e).1]
     exact un'.free b o e nb hx
    ·obtain⟨o',q⟩:=un'.there b o e hx
     exact⟨o',(hsb.2 b (old_ne b o e).2).trans q⟩
    ·rw [upd_ne (aS e h2D)]
     exact un'.tups b xs e
    ·rw [upd_ne (aS e h2D)]
     exact un'.frzs b o u e
    ·obtain⟨m,q⟩:=un'.tbls b ps e
     exact⟨m,by rw [upd_ne (aS e h2D)];exact q⟩
    ·obtain⟨q0,q1,q2,q3,q4,q5⟩:=f2 b hb
     exact⟨q3,q1,q4,q5⟩
   ·-- a turn
    have hA:X'.A=X.A:=by rw [<-hX'];rfl
    have hP:X'.prog=X.prog:=by rw [<-hX'];rfl
    have hw:X'.w=X.w:=by rw [<-hX'];rfl
    have hE:X'.env=compEnvC scope cells (D+1) X.env:=by rw [<-hX'];rfl
    have hxe:X'.xe=λ_ _=>False:=by rw [<-hX'];rfl
    have TI':=T.item X' hP hw (by rw [<-hX'];rfl) (by rw [<-hX'];exact hc) i _ s4 (emb σ) H4 (λ_ _=>False) I4 (hfpX fr4 hps) st4 go
    rw [hA] at TI'
    refine thn TI' λr s5 ⟨u,hr,h5⟩=>?_
    subst hr
    refine thn h5 λ_ s6 ⟨x,H6,I6,r6,y6,st6,fr6⟩=>?_
    have I6':=I6.pinned (hfpX fr6 hps) (T.obj _ _ st6)
    have G:=hg cells s2 H2 (D+1) fp
    have TT':=ht cells s2 H2 (D+1) fp
    have EE:=he cells s2 H2 (D+1) fp
    rw [hX'] at G TT' EE
    have G':=G _ s6 (emb σ) H6 x u _ I6' r6 (step x H6 y6)
    rw [hA,hP,hw,hE,hxe] at G'
    refine thn G' λ_ s7 ⟨σ7,H7,I7,sb7,q7⟩=>?_
    have T':=TT' _ s7 σ7 H7 _ I7 q7
    rw [hA,hP,hw,hE,hxe] at T'
    refine thn T' λok s8 ⟨H8,I8,q8⟩=>?_
    -- what is pinned
    have pin_fp:∀ {σ9:St}{H9:Hp}{s9:Shared},Inv X' ([(D,({ cls:=.type "list",data:=.seq its.toArray k }:Obj))]++lF fp s6.heap) σ9 H9 s9->tn (i+1) s9.heap/\∀ b ∈ fp,H9 b=none:=λ{σ9 H9 s9} I9=>
     ⟨T.keep _ _ _ st6 λb hb o e=>(I9.pin (b,o) (List.mem_append_right _ (List.mem_append_right _ (eF hb e)))).1,λb hb=>by
      obtain⟨o,e,_⟩:=T.obj _ _ st6 b hb
      exact (I9.pin (b,o) (List.mem_append_right _ (List.mem_append_right _ (eF hb e)))).2.1⟩
    cases ok with
    | false=>
     rw [if_neg (by decide)] at q8
     rw [if_neg (by decide)]
     obtain⟨m',hm,w8⟩:=hN _ _ q8
     exact⟨m',hm,i+1,ys,its,k,H8,I8.unpinned.weak sb7.1 sb7.2,rv,(pin_fp I8).1,(pin_fp I8).2,hlen,w8⟩
    | true=>
     rw [if_pos rfl] at q8
     rw [if_pos rfl]
     have E':=EE _ s8 σ7 H8 _ I8 q8
     rw [hA,hP,hw,hE,hxe] at E'
     refine thn E' λy s9 ⟨v9,H9,I9,r9,n9⟩=>?_
     obtain⟨m',hm,w9⟩:=hN _ _ n9
     have pD9:=I9.pin (D,{ cls:=.type "list",data:=.seq its.toArray k }) (List.mem_append_right _ (List.mem_append_left _ List.mem_cons_self))
     have hl:=rv.length
     have I9n:Inv X' [] σ7 H9 s9:=I9.pins_of λp hp=>nomatch hp
     refine call_meets F.slot_list_append ⟨_,pD9.1,rfl⟩ F.entry_list_append (F.args_list_append_2 _ _) (PySem.list_append D its.toArray k y (by rw [List.size_toArray];lia)) ⟨pD9.1,?_⟩
     have up:∃ k':Nat,(s9.heap.update D (Obj.mapSeq λxs=>xs.push y)).get? D=some { cls:=.type "list",data:=.seq (its++[y]).toArray k' }:=by
      have q:=PySem.IsL.update pD9.1 (λxs:Array Value=>xs.push y)
      simp only [List.push_toArray] at q
      exact⟨_,q⟩
     obtain⟨k',up⟩:=up
     have hoth:∀ b o,b≠D->s9.heap.get? b=some o->(s9.heap.update D (Obj.mapSeq λxs=>xs.push y)).get? b=some o:=λb o hb e=>(Heap.get?_update_other s9.heap _ (Ne.symm hb)).trans e
     have I10:=I9n.turned (t':=s9.toks) hoth pD9.2.1 Dloc Dex Dcell (λp hp=>absurd (show p ∈ ([]:List (Addr×Obj)) by rw [<-hX'] at hp;exact hp) (by simp))
     refine⟨m',hm,i+1,ys++[v9],its++[y],k',H9,(I10.weak sb7.1 sb7.2).pins_of (λp hp=>?_),rv.append (.cons r9 .nil),T.keep _ _ _ (pin_fp I9).1 (λb hb o e=>hoth b o (by rw [<-hD];exact Nat.ne_of_lt (fplt b hb)) e),(pin_fp I9).2,?_,w9⟩
     ·have:=List.mem_singleton.mp hp
      subst this
      exact⟨up,pD9.2.1,Dloc,Dfs,λv z=>by cases z⟩
     ·rw [List.length_append,List.length_singleton]
      lia
  ·have q:lo={ cls:=.type "list",data:=.seq ([]:List Value).toArray 0 }:=hlo.symm
   rw [<-q]
   exact I3
  ·exact T.keep _ _ _ st2 λb hb o e=>pushCells_keeps _ _ b o (Heap.get?_push_of_some _ (Heap.get?_push_of_some _ e))
 refine codeAny_compStart_list ?_ ?_
 ·exact loop _ rfl
 ·refine T.self X.A 0 _ _ _ (T.keep _ _ _ st2 λb hb o e=>pushCells_keeps _ _ b o (Heap.get?_push_of_some _ (Heap.get?_push_of_some _ e))) ?_
  exact loop _ rfl
end
end L2
namespace L2
open PySem PySem.Spec PyProof.Rows
noncomputable def aP:Expr->Bool
 | .Starred _ _=>false
 | _=>true
theorem bI {e:Expr}{es:List Expr}{env:Env} (h:aP e=true):starEach (e::es) env=(false,eval e env)::starEach es env:=by
 cases e<;>first | (cases h;done) | rfl
theorem cO {pos:Pos}{env:Env}:∀ {es:List Expr},es.all aP=true->(backTo pos (starEach es env)).any (·.1)=false
 | [],_=>by simp [starEach,backTo]
 | e::es,h=>by
  rw [List.all_cons,Bool.and_eq_true] at h
  rw [bI h.1]
  have:=cO (pos:=pos) (env:=env) h.2
  unfold backTo at this ⊢
  rw [List.map_cons,List.any_cons,this]
  rfl
theorem qW {pos:Pos}{env:Env}{es:List Expr} (h:es.all aP=true) (hl:es.length < 30):((backTo pos (starEach es env)).all (λx=>!x.1) && (backToKw pos (keywordEach [] env)).all (λx=>x.1.isSome)
   && decide (es.length+([]:List Keyword).length+(if ([]:List Keyword).isEmpty then 0 else 1) < 30))=true:=by
 have h1:(backTo pos (starEach es env)).all (λx=>!x.1)=true:=by
  have:=cO (pos:=pos) (env:=env) h
  rw [List.all_eq_true]
  intro x hx
  rw [List.any_eq_false] at this
  simpa using this x hx
 have h2:(backToKw pos (keywordEach [] env)).all (λx=>x.1.isSome)=true:=by simp [keywordEach,backToKw]
 rw [h1,h2]
 simpa using hl
theorem jw {e:Expr}{env:Env} (h:aP e=true):starEach [e] env=[(false,eval e env)]:=by rw [bI h];rfl
theorem wI {e e2:Expr}{env:Env} (h:aP e=true) (h2:aP e2=true):starEach [e,e2] env=[(false,eval e env),(false,eval e2 env)]:=by rw [bI h,jw h2]
noncomputable def wO:Expr->Bool
 | .UnaryOp .Not _ _=>false
 | .BoolOp _ _ _=>false
 | .IfExp _ _ _ _=>false
 | .Compare _ _ _ _=>false
 | _=>true
theorem vd {a:Expr}{env:Env} (h:wO a=true):∀ whole,PySem.isTrue a env whole=(do let v <-whole;standAt a.pos;holding [v] (truthy v)):=by
 intro whole
 cases a with
 | UnaryOp op x p=>cases op<;>first | (cases h;done) | rfl
 | BoolOp _ _ _=>cases h
 | IfExp _ _ _ _=>cases h
 | Compare _ _ _ _=>cases h
 | _=>rfl
theorem ni {t:Expr}{ts:List Expr}{env:Env} (h:aP t=true):assignEach (t::ts) env=(false,assign t env)::assignEach ts env:=by
 cases t<;>first | (cases h;done) | rfl
theorem pK {env:Env}:∀ {ts:List Expr},ts.all aP=true->(assignEach ts env).length=ts.length
 | [],_=>by simp [assignEach]
 | t::ts,h=>by
  rw [List.all_cons,Bool.and_eq_true] at h
  rw [ni h.1,List.length_cons,pK h.2,List.length_cons]
theorem nR {env:Env}:∀ {ts:List Expr},ts.all aP=true->(assignEach ts env).findIdx? (·.1)=none
 | [],_=>by simp [assignEach]
 | t::ts,h=>by
  rw [List.all_cons,Bool.and_eq_true] at h
  rw [ni h.1,List.findIdx?_cons,nR h.2]
  rfl
theorem uS {t:Expr}{ts:List Expr}{env:Env} (h:aP t=true):(assignEach (t::ts) env).map (·.2)=assign t env::(assignEach ts env).map (·.2):=by rw [ni h];rfl
theorem mG {t:Expr}{env:Env} (h:aP t=true):(assignEach [t] env).map (·.2)=[assign t env]:=by rw [uS h];simp [assignEach]
noncomputable def pI:Expr->Bool
 | .Slice _ _ _ _=>false
 | _=>true
theorem ql {o i:Expr}{pos:Pos}{env:Env} (h:pI i=true) (v:Value):assign (.Subscript o i pos) env v=(do
   let ov <-holding [v] (eval o env)
   let iv <-holding [v,ov] (eval i env)
   standAt pos
   holding [v,ov,iv] (setItem ov iv v)
   release [v,ov,iv] []):=by
 cases i<;>first | (cases h;done) | rfl
theorem rK {i:Expr} (h:pI i=true):tZ i:=by
 intro o j
 cases i<;>first | (cases h;done) | rfl
end L2
namespace L2
open PySem PySem.Spec PyProof.Rows
inductive D where
 | non | bl (b:Bool) | int (i:Int) | str (x:Str) | ty (n:String) | dct | scr (ns:List Int) | tup (ds:List D) | lst (ds:List D) | ob (ns:List Str) (ds:List D)
 deriving Inhabited
inductive W where
 | d (x:D) | h (n:Nat)
 deriving Inhabited
inductive C where
 | l (ds:List D) | n (ws:List W) | m (kvs:List (List Int×D)) | k (kvs:List (Int×D)) | o (fs:List (Str×W))
 deriving Inhabited
abbrev Sto:=List C
noncomputable def lg (st:Sto) (n:Nat):Option (List D):=match st[n]? with
 | some (.l ds)=>some ds
 | _=>none
noncomputable def Ch (l:List Int):List Key:=l.map Sum.inl
abbrev Ev:=List (Option W)
noncomputable def KLs (K:PySem.W.Frag) (a:Addr) (xs:List V):Prop:=
 ∃ (o:Obj) (its:Array Value) (n:Nat),K.lookup a=some o/\o.cls=.type "list"/\o.dict=none/\o.data=.seq its n/\its.size<=sizeLine/\aV xs its.toList
section
variable (K:PySem.W.Frag) (H:Hp) (φ:List Addr)
mutual
noncomputable def Rl:D->V->Prop
 | .non,v=>v=.non
 | .bl b,v=>v=.bl b
 | .int i,v=>v=.int i
 | .str x,v=>v=.str x
 | .ty n,v=>v=.ty n
 | .dct,v=>∃ a,v=.ref a/\a ∉ φ/\((∃ d,H a=some (.dK d))\/∃ d,H a=some (.dT d))
 | .scr ns,v=>∃ a,v=.ref a/\((∃ o,H a=some (.frz o (.lst (ns.map V.int))))\/KLs K a (ns.map V.int))
 | .tup ds,v=>∃ a vs,v=.ref a/\H a=some (.tup vs)/\Rls ds vs
 | .lst ds,v=>∃ a vs,v=.ref a/\a ∉ φ/\Rd H a (.lst vs)/\Rls ds vs
 | .ob ns ds,v=>∃ a Cl dx fs vs,v=.ref a/\a ∉ φ/\H a=some (.ins Cl dx fs)/\fs=ns.zip vs/\ns.length=vs.length/\5 < ns.length/\Cls K Cl/\(∀ f ∈ ns,d5 K Cl f)/\Rls ds vs
noncomputable def Rls:List D->List V->Prop
 | [],vs=>vs=[]
 | d::ds,vs=>∃ v r,vs=v::r/\Rl d v/\Rls ds r
end
noncomputable def Rw:W->V->Prop
 | .d x,v=>Rl K H φ x v
 | .h n,v=>∃ a,φ[n]?=some a/\v=.ref a
noncomputable def Rws:List W->List V->Prop
 | [],vs=>vs=[]
 | d::ds,vs=>∃ v r,vs=v::r/\Rw K H φ d v/\Rws ds r
noncomputable def Rkv:List (List Int×D)->List (List Key×V)->Prop
 | [],vs=>vs=[]
 | (k,d)::ds,vs=>∃ v r,vs=(Ch k,v)::r/\Rl K H φ d v/\Rkv ds r
noncomputable def Rkk:List (Int×D)->List (Key×V)->Prop
 | [],vs=>vs=[]
 | (k,d)::ds,vs=>∃ v r,vs=(Sum.inl k,v)::r/\Rl K H φ d v/\Rkk ds r
noncomputable def Rfs:List (Str×W)->List (Str×V)->Prop
 | [],vs=>vs=[]
 | (k,d)::ds,vs=>∃ v r,vs=(k,v)::r/\Rw K H φ d v/\Rfs ds r
noncomputable def Rc (k:Nat) (a:Addr):C->Prop
 | .l ds=>∃ vs,H a=some (.lst vs)/\Rls K H φ ds vs
 | .n ws=>∃ vs,H a=some (.lst vs)/\Rws K H φ ws vs/\∀ m,W.h m ∈ ws->m < k
 | .m kvs=>∃ vs,H a=some (.dT vs)/\Rkv K H φ kvs vs
 | .k kvs=>∃ vs,H a=some (.dK vs)/\Rkk K H φ kvs vs
 | .o fs=>∃ Cl dx vs,H a=some (.ins Cl dx vs)/\Rfs K H φ fs vs/\(∀ m,W.h m ∈ fs.map (·.2)->m < k)/\Cls K Cl/\∀ p ∈ fs,d5 K Cl p.1
structure Sr (st:Sto):Prop where
 nd:φ.Nodup
 len:φ.length=st.length
 at_:∀ (n:Nat) a c,φ[n]?=some a->st[n]?=some c->Rc K H φ n a c
structure Er (env:Ev) (σ:St):Prop where
 len:env.length=σ.length
 at_:∀ (i:Nat) w,env[i]?=some (some w)->∃ v,σ[i]?=some (some v)/\Rw K H φ w v
end
structure Fw (φ φ':List Addr) (H H':Hp):Prop where
 ext:∃ ψ,φ'=φ++ψ/\∀ a ∈ ψ,H a=none
 keep:∀ b o,b ∉ φ->H b=some o->H' b=some o
 there:∀ b o,H b=some o->∃ o',H' b=some o'
section
variable {K:PySem.W.Frag}{H H1 H2 H':Hp}{φ φ1 φ2 φ':List Addr}{st st':Sto}
theorem Fw.refl (φ:List Addr) (H:Hp):Fw φ φ H H:=⟨⟨[],by simp,by simp⟩,λ_ _ _ h=>h,λ_ o h=>⟨o,h⟩⟩
theorem Fw.trans (a:Fw φ φ1 H H1) (b:Fw φ1 φ2 H1 H2):Fw φ φ2 H H2:=by
 obtain⟨ψ,rfl,e1⟩:=a.ext
 obtain⟨ψ2,rfl,e2⟩:=b.ext
 refine⟨⟨ψ++ψ2,by rw [List.append_assoc],λc hc=>?_⟩,λc o hc h=>?_,λc o h=>?_⟩
 ·rcases List.mem_append.mp hc with z | z
  ·exact e1 c z
  ·cases q:H c with
   | none=>rfl
   | some o=>
    obtain⟨o',q'⟩:=a.there c o q
    rw [e2 c z] at q';cases q'
 ·refine b.keep c o (λz=>?_) (a.keep c o hc h)
  rcases List.mem_append.mp z with z | z
  ·exact hc z
  ·rw [e1 c z] at h;cases h
 ·obtain⟨o',q⟩:=a.there c o h
  exact b.there c o' q
theorem Fw.same (s:bB H H'):Fw φ φ H H':=⟨⟨[],by simp,by simp⟩,λb o _ h=>s b o h,λb o h=>⟨o,s b o h⟩⟩
theorem Fw.new {p:Addr}{o:HO} (hp:H p=none):Fw φ φ H (upd H p o):=.same (bB.new hp o)
theorem Fw.get (f:Fw φ φ' H H') {n:Nat}{a:Addr} (h:φ[n]?=some a):φ'[n]?=some a:=by
 obtain⟨ψ,rfl,_⟩:=f.ext
 rw [List.getElem?_append_left (List.getElem?_eq_some_iff.mp h).1];exact h
theorem Fw.nin (f:Fw φ φ' H H') {a:Addr}{o:HO} (h:a ∉ φ) (q:H a=some o):a ∉ φ':=by
 obtain⟨ψ,rfl,e⟩:=f.ext
 intro z
 rcases List.mem_append.mp z with z | z
 ·exact h z
 ·rw [e a z] at q;cases q
noncomputable def By:HO->Bool
 | .lst _=>true
 | .dT _=>true
 | .dK _=>true
 | .ins _ _ _=>true
 | _=>false
theorem Rc.ob {k:Nat}{a:Addr}{c:C} (h:Rc K H φ k a c):∃ o,H a=some o/\By o=true:=by
 cases c with
 | l ds=>obtain⟨vs,q,_⟩:=h;exact⟨_,q,rfl⟩
 | n ds=>obtain⟨vs,q,_⟩:=h;exact⟨_,q,rfl⟩
 | m ds=>obtain⟨vs,q,_⟩:=h;exact⟨_,q,rfl⟩
 | k ds=>obtain⟨vs,q,_⟩:=h;exact⟨_,q,rfl⟩
 | o ds=>obtain⟨_,_,vs,q,_⟩:=h;exact⟨_,q,rfl⟩
theorem Sr.lst (S:Sr K H φ st) {a:Addr} (h:a ∈ φ):∃ o,H a=some o/\By o=true:=by
 obtain⟨n,hn,e⟩:=List.mem_iff_getElem.mp h
 have hs:n < st.length:=by rw [<-S.len];exact hn
 exact (S.at_ n a st[n] (by rw [List.getElem?_eq_getElem hn,e]) (by rw [List.getElem?_eq_getElem hs])).ob
theorem uv {st:Sto}{n:Nat}{ds:List D} (h:lg st n=some ds):st[n]?=some (.l ds):=by
 unfold lg at h
 split at h
 ·rename_i q;cases h;exact q
 ·cases h
theorem Sr.atl (S:Sr K H φ st) (n:Nat) (a:Addr) (ds:List D) (e1:φ[n]?=some a) (e2:lg st n=some ds):∃ vs,H a=some (.lst vs)/\Rls K H φ ds vs:=S.at_ n a _ e1 (uv e2)
theorem Sr.nin (S:Sr K H φ st) {a:Addr} (h:H a=none):a ∉ φ:=λz=>by
 obtain⟨vs,q,_⟩:=S.lst z
 rw [q] at h;cases h
theorem Rd.nin (S:Sr K H φ st) {a:Addr}{vs:List V} (h:Rd H a (.tup vs)):a ∉ φ:=λz=>by
 obtain⟨ws,q,qm⟩:=S.lst z
 rcases h with h | ⟨o,h⟩<;>(rw [q] at h;cases h;cases qm)
theorem Rd.fw (f:Fw φ φ' H H') {a:Addr}{u:HO} (hn:a ∉ φ) (h:Rd H a u):Rd H' a u:=by
 rcases h with h | ⟨o,h⟩
 ·exact .inl (f.keep _ _ hn h)
 ·exact .inr ⟨o,f.keep _ _ hn h⟩
theorem SqT.fw (S:Sr K H φ st) (f:Fw φ φ' H H') {a:Addr}{vs:List V} (h:SqT K H a vs):SqT K H' a vs:=by
 rcases h with h | h
 ·exact .inl (f.keep _ _ (Rd.nin S (.inl h)) h)
 ·exact .inr h
theorem Rd.some {a:Addr}{u:HO} (h:Rd H a u):∃ o,H a=some o:=by
 rcases h with h | ⟨o,h⟩
 ·exact⟨_,h⟩
 ·exact⟨_,h⟩
mutual
theorem Rl.fw (S:Sr K H φ st) (f:Fw φ φ' H H'):∀ {d:D}{v:V},Rl K H φ d v->Rl K H' φ' d v
 | .non,_,h=>h
 | .bl _,_,h=>h
 | .int _,_,h=>h
 | .str _,_,h=>h
 | .ty _,_,h=>h
 | .dct,_,h=>by
  obtain⟨a,rfl,hn,h⟩:=h
  rcases h with⟨d,h⟩ | ⟨d,h⟩
  ·exact⟨a,rfl,f.nin hn h,.inl ⟨d,f.keep _ _ hn h⟩⟩
  ·exact⟨a,rfl,f.nin hn h,.inr ⟨d,f.keep _ _ hn h⟩⟩
 | .scr ns,_,h=>by
  obtain⟨a,rfl,h⟩:=h
  refine⟨a,rfl,?_⟩
  rcases h with⟨o,h⟩ | h
  ·refine .inl ⟨o,f.keep _ _ (λz=>?_) h⟩
   obtain⟨ws,q,qm⟩:=S.lst z
   rw [q] at h;cases h;cases qm
  ·exact .inr h
 | .tup ds,_,h=>by
  obtain⟨a,vs,rfl,h1,h2⟩:=h
  exact⟨a,vs,rfl,f.keep _ _ (Rd.nin S (.inl h1)) h1,Rls.fw S f h2⟩
 | .lst ds,_,h=>by
  obtain⟨a,vs,rfl,h0,h1,h2⟩:=h
  obtain⟨o,e⟩:=h1.some
  exact⟨a,vs,rfl,f.nin h0 e,h1.fw f h0,Rls.fw S f h2⟩
 | .ob ns ds,_,h=>by
  obtain⟨a,Cl,dx,fs,vs,rfl,h0,h1,h2,h3,h4,h5,h7,h6⟩:=h
  exact⟨a,Cl,dx,fs,vs,rfl,f.nin h0 h1,f.keep _ _ h0 h1,h2,h3,h4,h5,h7,Rls.fw S f h6⟩
theorem Rls.fw (S:Sr K H φ st) (f:Fw φ φ' H H'):∀ {ds:List D}{vs:List V},Rls K H φ ds vs->Rls K H' φ' ds vs
 | [],_,h=>h
 | d::ds,_,h=>by
  obtain⟨v,r,rfl,h1,h2⟩:=h
  exact⟨v,r,rfl,Rl.fw S f h1,Rls.fw S f h2⟩
end
theorem Rw.fw (S:Sr K H φ st) (f:Fw φ φ' H H') {w:W}{v:V} (h:Rw K H φ w v):Rw K H' φ' w v:=by
 cases w with
 | d x=>exact Rl.fw S f h
 | h n=>obtain⟨a,e,rfl⟩:=h;exact⟨a,f.get e,rfl⟩
theorem Rws.fw (S:Sr K H φ st) (f:Fw φ φ' H H'):∀ {ws:List W}{vs:List V},Rws K H φ ws vs->Rws K H' φ' ws vs
 | [],_,h=>h
 | d::ds,_,h=>by
  obtain⟨v,r,rfl,h1,h2⟩:=h
  exact⟨v,r,rfl,h1.fw S f,Rws.fw S f h2⟩
theorem Er.fw (S:Sr K H φ st) (f:Fw φ φ' H H') {env:Ev}{σ:St} (h:Er K H φ env σ):Er K H' φ' env σ:=
 ⟨h.len,λi w e=>let ⟨v,e1,r⟩:=h.at_ i w e;⟨v,e1,r.fw S f⟩⟩
theorem Rkv.fw (S:Sr K H φ st) (f:Fw φ φ' H H'):∀ {ds:List (List Int×D)}{vs:List (List Key×V)},Rkv K H φ ds vs->Rkv K H' φ' ds vs
 | [],_,h=>h
 | (k,d)::ds,_,h=>by
  obtain⟨v,r,rfl,h1,h2⟩:=h
  exact⟨v,r,rfl,Rl.fw S f h1,Rkv.fw S f h2⟩
theorem Rkk.fw (S:Sr K H φ st) (f:Fw φ φ' H H'):∀ {ds:List (Int×D)}{vs:List (Key×V)},Rkk K H φ ds vs->Rkk K H' φ' ds vs
 | [],_,h=>h
 | (k,d)::ds,_,h=>by
  obtain⟨v,r,rfl,h1,h2⟩:=h
  exact⟨v,r,rfl,Rl.fw S f h1,Rkk.fw S f h2⟩
theorem Rfs.fw (S:Sr K H φ st) (f:Fw φ φ' H H'):∀ {ds:List (Str×W)}{vs:List (Str×V)},Rfs K H φ ds vs->Rfs K H' φ' ds vs
 | [],_,h=>h
 | (k,d)::ds,_,h=>by
  obtain⟨v,r,rfl,h1,h2⟩:=h
  exact⟨v,r,rfl,h1.fw S f,Rfs.fw S f h2⟩
theorem Rc.fw (S:Sr K H φ st) (f:Fw φ φ' H H') {k:Nat}{a:Addr}{c:C} (e:∀ o,H a=some o->H' a=some o) (h:Rc K H φ k a c):Rc K H' φ' k a c:=by
 cases c with
 | l ds=>obtain⟨vs,q,r⟩:=h;exact⟨vs,e _ q,r.fw S f⟩
 | n ds=>obtain⟨vs,q,r,b⟩:=h;exact⟨vs,e _ q,r.fw S f,b⟩
 | m ds=>obtain⟨vs,q,r⟩:=h;exact⟨vs,e _ q,r.fw S f⟩
 | k ds=>obtain⟨vs,q,r⟩:=h;exact⟨vs,e _ q,r.fw S f⟩
 | o ds=>obtain⟨Cl,dx,vs,q,r,b⟩:=h;exact⟨Cl,dx,vs,e _ q,r.fw S f,b⟩
theorem Sr.same (S:Sr K H φ st) (s:bB H H'):Sr K H' φ st:=
 ⟨S.nd,S.len,λn a c e1 e2=>(S.at_ n a c e1 e2).fw S (Fw.same s) λo h=>s _ _ h⟩
theorem Sr.new (S:Sr K H φ st) {p:Addr}{o:HO} (hp:H p=none):Sr K (upd H p o) φ st:=S.same (bB.new hp o)
theorem Rls.length:∀ {ds:List D}{vs:List V},Rls K H φ ds vs->ds.length=vs.length
 | [],_,h=>by cases h;rfl
 | d::ds,_,h=>by
  obtain⟨v,r,rfl,h1,h2⟩:=h
  rw [List.length_cons,List.length_cons,Rls.length h2]
theorem Rws.length:∀ {ds:List W}{vs:List V},Rws K H φ ds vs->ds.length=vs.length
 | [],_,h=>by cases h;rfl
 | d::ds,_,h=>by
  obtain⟨v,r,rfl,h1,h2⟩:=h
  rw [List.length_cons,List.length_cons,Rws.length h2]
theorem Rls.append:∀ {ds es:List D}{vs us:List V},Rls K H φ ds vs->Rls K H φ es us->Rls K H φ (ds++es) (vs++us)
 | [],_,_,_,h,h'=>by cases h;exact h'
 | d::ds,_,_,_,h,h'=>by
  obtain⟨v,r,rfl,h1,h2⟩:=h
  exact⟨v,r++_,rfl,h1,Rls.append h2 h'⟩
theorem Rls.get:∀ {ds:List D}{vs:List V},Rls K H φ ds vs->∀ {i:Nat}{d:D},ds[i]?=some d->∃ v,vs[i]?=some v/\Rl K H φ d v
 | [],_,h,i,d,e=>by simp at e
 | d::ds,_,h,i,e,q=>by
  obtain⟨v,r,rfl,h1,h2⟩:=h
  cases i with
  | zero=>simp at q;subst q;exact⟨v,rfl,h1⟩
  | succ i=>simpa using Rls.get h2 (i:=i) (d:=e) (by simpa using q)
theorem Rls.take:∀ {ds:List D}{vs:List V} (n:Nat),Rls K H φ ds vs->Rls K H φ (ds.take n) (vs.take n)
 | _,_,0,_=>by rw [List.take_zero,List.take_zero];exact rfl
 | [],_,n+1,h=>by cases h;exact rfl
 | d::ds,_,n+1,h=>by
  obtain⟨v,r,rfl,h1,h2⟩:=h
  exact⟨v,_,rfl,h1,Rls.take n h2⟩
theorem Rls.drop:∀ {ds:List D}{vs:List V} (n:Nat),Rls K H φ ds vs->Rls K H φ (ds.drop n) (vs.drop n)
 | _,_,0,h=>h
 | [],_,n+1,h=>by cases h;exact rfl
 | d::ds,_,n+1,h=>by
  obtain⟨v,r,rfl,h1,h2⟩:=h
  exact Rls.drop n h2
theorem Rls.set:∀ {ds:List D}{vs:List V} (n:Nat) {d:D}{v:V},Rls K H φ ds vs->Rl K H φ d v->Rls K H φ (ds.set n d) (vs.set n v)
 | [],_,_,_,_,h,_=>by cases h;exact rfl
 | e::ds,_,0,d,v,h,hd=>by
  obtain⟨u,r,rfl,h1,h2⟩:=h
  exact⟨v,r,rfl,hd,h2⟩
 | e::ds,_,n+1,d,v,h,hd=>by
  obtain⟨u,r,rfl,h1,h2⟩:=h
  exact⟨u,_,rfl,h1,Rls.set n h2 hd⟩
theorem Rls.rep {ds:List D}{vs:List V} (h:Rls K H φ ds vs):∀ k:Nat,Rls K H φ (List.replicate k ds).flatten (List.replicate k vs).flatten
 | 0=>rfl
 | k+1=>by rw [List.replicate_succ,List.replicate_succ,List.flatten_cons,List.flatten_cons];exact h.append (Rls.rep h k)
theorem Rls.ints:∀ {ns:List Int}{vs:List V},Rls K H φ (ns.map D.int) vs->vs=ns.map V.int
 | [],_,h=>h
 | n::ns,_,h=>by
  obtain⟨v,r,rfl,h1,h2⟩:=h
  rw [show v=.int n from h1,Rls.ints h2];rfl
theorem Rls.bools:∀ {ns:List Bool}{vs:List V},Rls K H φ (ns.map D.bl) vs->vs=ns.map V.bl
 | [],_,h=>h
 | n::ns,_,h=>by
  obtain⟨v,r,rfl,h1,h2⟩:=h
  rw [show v=.bl n from h1,Rls.bools h2];rfl
theorem Rls.of_ints:∀ (ns:List Int),Rls K H φ (ns.map D.int) (ns.map V.int)
 | []=>rfl
 | n::ns=>⟨_,_,rfl,rfl,Rls.of_ints ns⟩
theorem Rl.less {ψ:List Addr}:∀ {d:D}{v:V},Rl K H (φ++ψ) d v->Rl K H φ d v:=by
 intro d v
 refine (?_:∀ v,Rl K H (φ++ψ) d v->Rl K H φ d v) v
 refine D.rec (motive_1:=λd=>∀ v,Rl K H (φ++ψ) d v->Rl K H φ d v) (motive_2:=λds=>∀ vs,Rls K H (φ++ψ) ds vs->Rls K H φ ds vs) ?_ ?_ ?_ ?_ ?_ ?_ ?_ ?_ ?_ ?_ ?_ ?_ d
 ·exact λv h=>h
 ·exact λb v h=>h
 ·exact λb v h=>h
 ·exact λb v h=>h
 ·exact λb v h=>h
 ·rintro v ⟨a,e,hn,h⟩;exact⟨a,e,λz=>hn (List.mem_append_left _ z),h⟩
 ·exact λns v h=>h
 ·rintro ds ih v ⟨a,vs,rfl,h1,h2⟩;exact⟨a,vs,rfl,h1,ih vs h2⟩
 ·rintro ds ih v ⟨a,vs,rfl,h0,h1,h2⟩;exact⟨a,vs,rfl,λz=>h0 (List.mem_append_left _ z),h1,ih vs h2⟩
 ·rintro ns ds ih v ⟨a,Cl,dx,fs,vs,rfl,h0,h1,h2,h3,h4,h5,h7,h6⟩;exact⟨a,Cl,dx,fs,vs,rfl,λz=>h0 (List.mem_append_left _ z),h1,h2,h3,h4,h5,h7,ih vs h6⟩
 ·exact λvs h=>h
 ·rintro d ds ih1 ih2 vs ⟨v,r,rfl,h1,h2⟩;exact⟨v,r,rfl,ih1 v h1,ih2 r h2⟩
theorem Rls.less {ψ:List Addr}:∀ {ds:List D}{vs:List V},Rls K H (φ++ψ) ds vs->Rls K H φ ds vs
 | [],_,h=>h
 | d::ds,_,h=>by
  obtain⟨v,r,rfl,h1,h2⟩:=h
  exact⟨v,r,rfl,Rl.less h1,Rls.less h2⟩
theorem Rkv.less {ψ:List Addr}:∀ {ds:List (List Int×D)}{vs:List (List Key×V)},Rkv K H (φ++ψ) ds vs->Rkv K H φ ds vs
 | [],_,h=>h
 | (k,d)::ds,_,h=>by
  obtain⟨v,r,rfl,h1,h2⟩:=h
  exact⟨v,r,rfl,Rl.less h1,Rkv.less h2⟩
theorem Rkk.less {ψ:List Addr}:∀ {ds:List (Int×D)}{vs:List (Key×V)},Rkk K H (φ++ψ) ds vs->Rkk K H φ ds vs
 | [],_,h=>h
 | (k,d)::ds,_,h=>by
  obtain⟨v,r,rfl,h1,h2⟩:=h
  exact⟨v,r,rfl,Rl.less h1,Rkk.less h2⟩
theorem Rws.less {ψ:List Addr}:∀ {ds:List W}{vs:List V},(∀ m,W.h m ∈ ds->m < φ.length)->Rws K H (φ++ψ) ds vs->Rws K H φ ds vs
 | [],_,_,h=>h
 | d::ds,_,hm,h=>by
  obtain⟨v,r,rfl,h1,h2⟩:=h
  refine⟨v,r,rfl,?_,Rws.less (λm z=>hm m (List.mem_cons_of_mem _ z)) h2⟩
  cases d with
  | d x=>exact Rl.less h1
  | h m=>
   obtain⟨a,e,rfl⟩:=h1
   rw [List.getElem?_append_left (hm m List.mem_cons_self)] at e
   exact⟨a,e,rfl⟩
theorem Rfs.less {ψ:List Addr}:∀ {ds:List (Str×W)}{vs:List (Str×V)},(∀ m,W.h m ∈ ds.map (·.2)->m < φ.length)->Rfs K H (φ++ψ) ds vs->Rfs K H φ ds vs
 | [],_,_,h=>h
 | (k,d)::ds,_,hm,h=>by
  obtain⟨v,r,rfl,h1,h2⟩:=h
  refine⟨v,r,rfl,?_,Rfs.less (λm z=>hm m (List.mem_cons_of_mem _ z)) h2⟩
  cases d with
  | d x=>exact Rl.less h1
  | h m=>
   obtain⟨a,e,rfl⟩:=h1
   rw [List.getElem?_append_left (hm m List.mem_cons_self)] at e
   exact⟨a,e,rfl⟩
theorem Rc.less {ψ:List Addr}{k:Nat}{a:Addr}{c:C} (hk:k < φ.length) (h:Rc K H (φ++ψ) k a c):Rc K H φ k a c:=by
 cases c with
 | l ds=>obtain⟨vs,q,r⟩:=h;exact⟨vs,q,r.less⟩
 | n ds=>obtain⟨vs,q,r,b⟩:=h;exact⟨vs,q,r.less λm z=>Nat.lt_trans (b m z) hk,b⟩
 | m ds=>obtain⟨vs,q,r⟩:=h;exact⟨vs,q,r.less⟩
 | k ds=>obtain⟨vs,q,r⟩:=h;exact⟨vs,q,r.less⟩
 | o ds=>obtain⟨Cl,dx,vs,q,r,b,c⟩:=h;exact⟨Cl,dx,vs,q,r.less λm z=>Nat.lt_trans (b m z) hk,b,c⟩
theorem Sr.less {ψ:List Addr} (S:Sr K H (φ++ψ) st):Sr K H φ (st.take φ.length):=by
 have hl:=S.len
 rw [List.length_append] at hl
 refine⟨(List.nodup_append.mp S.nd).1,by rw [List.length_take];lia,λn a ds e1 e2=>?_⟩
 have hn:=(List.getElem?_eq_some_iff.mp e1).1
 rw [List.getElem?_take_of_lt hn] at e2
 exact (S.at_ n a ds (by rw [List.getElem?_append_left hn];exact e1) e2).less hn
end
end L2
namespace L2
open PySem PySem.Spec PyProof.Rows
abbrev Ef:=Ev->Sto->Option (W×Sto)
abbrev Af:=Ev->Sto->Option (List W×Sto)
abbrev Tf:=Ev->Sto->Option (Bool×Sto)
abbrev Lf:=Ev->Sto->Option (List D×Sto)
abbrev Fn:=List W->Sto->Option (W×Sto)
section
variable (K:PySem.W.Frag)
noncomputable def tI (env:Ev) (st:Sto) (r:W×Sto):TE:=λσ H Q=>∃ φ,Er K H φ env σ/\Sr K H φ st/\∀ v H' φ',Fw φ φ' H H'->Sr K H' φ' r.2->Rw K H' φ' r.1 v->Q v H'
noncomputable def tIA (env:Ev) (st:Sto) (r:List W×Sto):TA:=λσ H Q=>∃ φ,Er K H φ env σ/\Sr K H φ st/\∀ vs H' φ',Fw φ φ' H H'->Sr K H' φ' r.2->Rws K H' φ' r.1 vs->Q vs H'
noncomputable def tIT (env:Ev) (st:Sto) (r:Bool×Sto):TT:=λσ H Q=>∃ φ,Er K H φ env σ/\Sr K H φ st/\∀ H' φ',Fw φ φ' H H'->Sr K H' φ' r.2->Q r.1 H'
noncomputable def tIL (env:Ev) (st:Sto) (r:List D×Sto):TE:=λσ H Q=>∃ φ,Er K H φ env σ/\Sr K H φ st/\∀ a vs H1 φ',Fw φ φ' H H1->Sr K H1 φ' r.2->H1 a=none->Rls K H1 φ' r.1 vs->Q (.ref a) (upd H1 a (.lst vs))
structure IE (X:Cx) (e:Expr) (f:Ef):Prop where
 run:∀ env st r,f env st=some r->PE X e (tI K env st r)
structure IA (X:Cx) (es:List Expr) (f:Af):Prop where
 run:∀ env st r,f env st=some r->PA X es (tIA K env st r)
structure IT (X:Cx) (e:Expr) (f:Tf):Prop where
 run:∀ env st r,f env st=some r->PT X e (tIT K env st r)
structure ITW (X:Cx) (e:Expr) (f:Tf):Prop where
 run:∀ env st r,f env st=some r->PW X e (tIT K env st r)
structure IL (X:Cx) (e:Expr) (f:Lf):Prop where
 run:∀ env st r,f env st=some r->PE X e (tIL K env st r)
noncomputable def rD (st:Sto) (x y:W) (d:D):R2:=λvx vy H Q=>∃ φ,Sr K H φ st/\Rw K H φ x vx/\Rw K H φ y vy/\∀ v H',bB H H'->Rl K H' φ d v->Q v H'
structure OpD (X:Cx) (f:Value->Value->Sem Value) (g:Sto->W->W->Option D):Prop where
 run:∀ st x y d,g st x y=some d->OpR X f (rD K st x y d)
noncomputable def rCD (st:Sto) (ws:List W) (d:D):List V->Hp->VK->Prop:=λvs H Q=>∃ φ,Sr K H φ st/\Rws K H φ ws vs/\∀ v H',bB H H'->Rl K H' φ d v->Q v H'
structure jx (X:Cx) (f:Value) (g:Sto->List W->Option D):Prop where
 run:∀ st ws d,g st ws=some d->dw X f (rCD K st ws d)
noncomputable def rCL (st:Sto) (ws:List W) (ds:List D):List V->Hp->VK->Prop:=λvs H Q=>∃ φ,Sr K H φ st/\Rws K H φ ws vs/\∀ a us H1,bB H H1->H1 a=none->Rls K H1 φ ds us->Q (.ref a) (upd H1 a (.lst us))
structure yW (X:Cx) (f:Value) (g:Sto->List W->Option (List D)):Prop where
 run:∀ st ws d,g st ws=some d->dw X f (rCL K st ws d)
end
noncomputable def iV (i:Nat):Ef
 | env,st=>(env.getD i none).map λw=>(w,st)
noncomputable def iC (d:D):Ef
 | _,st=>some (.d d,st)
noncomputable def iOp (g:Sto->W->W->Option D) (a b:Ef):Ef
 | env,st=>(a env st).bind λx=>(b env x.2).bind λy=>(g y.2 x.1 y.1).map λd=>(.d d,y.2)
noncomputable def r8:D->Option Bool
 | .bl b=>some b
 | _=>none
noncomputable def blW:W->Option Bool
 | .d (.bl b)=>some b
 | _=>none
noncomputable def bg (g:Sto->W->W->Option D) (a b:Ef):Tf
 | env,st=>(a env st).bind λx=>(b env x.2).bind λy=>(g y.2 x.1 y.1).bind λd=>(r8 d).map λk=>(k,y.2)
noncomputable def iUn (g:W->Option D) (a:Ef):Ef
 | env,st=>(a env st).bind λx=>(g x.1).map λd=>(.d d,x.2)
noncomputable def um (a:Ef):Ef
 | env,st=>(a env st).bind λx=>(blW x.1).map λk=>(.d (.bl (!k)),x.2)
noncomputable def fq (a b:Ef):Ef
 | env,st=>(a env st).bind λx=>(blW x.1).bind λk=>if k=true then b env x.2 else some (.d (.bl false),x.2)
noncomputable def mr (c:Tf) (a b:Ef):Ef
 | env,st=>(c env st).bind λr=>if r.1=true then a env r.2 else b env r.2
noncomputable def cn (c:Tf):Tf
 | env,st=>(c env st).map λr=>(!r.1,r.2)
noncomputable def oK (a b:Tf):Tf
 | env,st=>(a env st).bind λr=>if r.1=true then b env r.2 else some (false,r.2)
noncomputable def dL (a b:Tf):Tf
 | env,st=>(a env st).bind λr=>if r.1=true then some (true,r.2) else b env r.2
noncomputable def cE (g:Sto->W->Option Bool) (a:Ef):Tf
 | env,st=>(a env st).bind λx=>(g x.2 x.1).map λk=>(k,x.2)
noncomputable def ag:Af
 | _,st=>some ([],st)
noncomputable def aa (a:Ef) (r:Af):Af
 | env,st=>(a env st).bind λx=>(r env x.2).map λy=>(x.1::y.1,y.2)
noncomputable def iCB (g:Sto->List W->Option D) (a:Af):Ef
 | env,st=>(a env st).bind λr=>(g r.2 r.1).map λd=>(.d d,r.2)
noncomputable def iCL (g:Sto->List W->Option (List D)) (a:Af):Lf
 | env,st=>(a env st).bind λr=>(g r.2 r.1).map λd=>(d,r.2)
noncomputable def au (m:Fn) (a:Af):Ef
 | env,st=>(a env st).bind λr=>m r.1 r.2
noncomputable def nE:List W->Option (List D)
 | []=>some []
 | .d x::ws=>(nE ws).map λr=>x::r
 | .h _::_=>none
noncomputable def bo (a:Af):Ef
 | env,st=>(a env st).bind λr=>(nE r.1).bind λds=>if ds.length<=1000 then some (.d (.tup ds),r.2) else none
noncomputable def ck (a:Af):Lf
 | env,st=>(a env st).bind λr=>(nE r.1).bind λds=>if ds.length<=1000 then some (ds,r.2) else none
noncomputable def aD (a:Lf):Ef
 | env,st=>(a env st).map λr=>(.d (.lst r.1),r.2)
noncomputable def ft (a:Lf):Ef
 | env,st=>(a env st).map λr=>(.h r.2.length,r.2++[.l r.1])
section
variable {K:PySem.W.Frag}{X:Cx}{e a b c:Expr}{es:List Expr}{pos:Pos}{f fa fb fc:Ef}
theorem PE.imp {t t':TE} (h:PE X e t) (m:∀ σ H Q,t' σ H Q->t σ H Q):PE X e t':=λpins s σ H Q I q=>h pins s σ H Q I (m σ H Q q)
theorem PT.imp {t t':TT} (h:PT X e t) (m:∀ σ H Q,t' σ H Q->t σ H Q):PT X e t':=λpins s σ H Q I q=>h pins s σ H Q I (m σ H Q q)
theorem PW.imp {t t':TT} (h:PW X e t) (m:∀ σ H Q,t' σ H Q->t σ H Q):PW X e t':=λwh pins s σ H Q I q=>h wh pins s σ H Q I (m σ H Q q)
theorem PA.imp {t t':TA} (h:PA X es t) (m:∀ σ H Q,t' σ H Q->t σ H Q):PA X es t':=λpos pins s σ H Q I q=>h pos pins s σ H Q I (m σ H Q q)
theorem OpR.imp {g:Value->Value->Sem Value}{r r':R2} (h:OpR X g r) (m:∀ x y H Q,r' x y H Q->r x y H Q):OpR X g r':=λpins s σ H x y v u Q I rx ry q=>h pins s σ H x y v u Q I rx ry (m _ _ _ _ q)
theorem dw.imp {g:Value}{r r':List V->Hp->VK->Prop} (h:dw X g r) (m:∀ xs H Q,r' xs H Q->r xs H Q):dw X g r':=λpins s σ H xs us Q I rx q=>h pins s σ H xs us Q I rx (m _ _ _ q)
theorem nh:PE X e (λ_ _ _=>False):=λ_ _ _ _ _ _ q=>q.elim
theorem qL:PW X e (λ_ _ _=>False):=λ_ _ _ _ _ _ _ q=>q.elim
theorem Ae {i:Nat}{x:Str}{t:TE} (h:PE X (.Name x pos) (qH i)):IE K X (.Name x pos) (iV i):=by
 refine⟨λenv st r hr=>?_⟩
 unfold iV at hr
 obtain⟨w,hw,rfl⟩:=Option.map_eq_some_iff.mp hr
 refine h.imp ?_
 rintro σ H Q ⟨φ,hE,hS,q⟩
 have hi:env[i]?=some (some w):=by
  rw [List.getD] at hw
  cases q:env[i]? with
  | none=>rw [q] at hw;cases hw
  | some o=>rw [q] at hw;rw [show o=some w from hw]
 obtain⟨v,e1,r⟩:=hE.at_ i w hi
 exact⟨v,e1,q v H φ (Fw.refl φ H) hS r⟩
theorem iv (i:Nat) {x:Str} (hN:X.N[i]?=some x:=by rfl) (hv:Vis X.env.scope x:=by first | exact Or.inl rfl | exact Or.inr (Or.inl rfl) | exact Or.inr (Or.inr rfl)) (hd:(x==("__debug__" : Str))=false:=by decide)
  (hcd:(x==("__classdict__" : Str))=false:=by decide):IE K X (.Name x pos) (iV i):=Ae (t:=qH i) (kq hN hv hd hcd)
theorem xj {d:D}{v:V} (h:PE X e (tC v)) (r:∀ H φ,Rl K H φ d v):IE K X e (iC d):=by
 refine⟨λenv st r hr=>?_⟩
 cases hr
 refine h.imp ?_
 rintro σ H Q ⟨φ,hE,hS,q⟩
 exact q v H φ (Fw.refl φ H) hS (r H φ)
theorem ak {i j}:IE K X (.Constant (.int i) j pos) (iC (.int i)):=xj zm λ_ _=>rfl
theorem fo {i j}:IE K X (.Constant (.bool i) j pos) (iC (.bl i)):=xj BQ λ_ _=>rfl
theorem jz {j}:IE K X (.Constant .none j pos) (iC .non):=xj zX λ_ _=>rfl
theorem fF {x j}:IE K X (.Constant (.str x) j pos) (iC (.str x)):=xj y4 λ_ _=>rfl
theorem pN {env:Ev}{st:Sto}{x y:W×Sto}{d:D}{σ:St}{H:Hp}{Q:VK} (h:tI K env st (.d d,y.2) σ H Q):tOp (rD K y.2 x.1 y.1 d) (tI K env st x) (tI K env x.2 y) σ H Q:=by
 obtain⟨φ,hE,hS,q⟩:=h
 refine⟨φ,hE,hS,λv H1 φ1 f1 s1 w1=>⟨φ1,hE.fw hS f1,s1,λu H2 φ2 f2 s2 w2=>⟨φ2,s2,w1.fw s1 f2,w2,λv3 H3 f3 w3=>?_⟩⟩⟩
 exact q v3 H3 φ2 ((f1.trans f2).trans (Fw.same f3)) (s2.same f3) w3
theorem aC {op:Operator}{g:Sto->W->W->Option D} (ho:OpD K X (binaryOp op) g) (ha:IE K X a fa) (hb:IE K X b fb):IE K X (.BinOp a op b pos) (iOp g fa fb):=by
 refine⟨λenv st r hr=>?_⟩
 simp only [iOp,Option.bind_eq_some_iff,Option.map_eq_some_iff] at hr
 obtain⟨x,hx,y,hy,d,hd,rfl⟩:=hr
 exact (yQ (ho.run _ _ _ _ hd) (ha.run _ _ _ hx) (hb.run _ _ _ hy)).imp λσ H Q h=>pN h
theorem d0 {op:CmpOp}{g:Sto->W->W->Option D} (ho:OpD K X (compareOp op) g) (ha:IE K X a fa) (hb:IE K X b fb) (hm:behindInMarks op b=false):IE K X (.Compare a [op] [b] pos) (iOp g fa fb):=by
 refine⟨λenv st r hr=>?_⟩
 simp only [iOp,Option.bind_eq_some_iff,Option.map_eq_some_iff] at hr
 obtain⟨x,hx,y,hy,d,hd,rfl⟩:=hr
 exact (yf (ho.run _ _ _ _ hd) (ha.run _ _ _ hx) (hb.run _ _ _ hy) hm).imp λσ H Q h=>pN h
theorem vw {d:D}{k:Bool} (h:r8 d=some k):d=.bl k:=by
 cases d<;>first | (cases h;done) | (injection h with h;subst h;rfl)
theorem qB {d:W}{k:Bool} (h:blW d=some k):d=.d (.bl k):=by
 cases d with
 | h n=>cases h
 | d x=>cases x<;>first | (cases h;done) | (injection h with h;subst h;rfl)
theorem bm {op:CmpOp}{g:Sto->W->W->Option D} (ho:OpD K X (compareOp op) g) (ha:IE K X a fa) (hb:IE K X b fb) (hm:behindInMarks op b=false):IT K X (.Compare a [op] [b] pos) (bg g fa fb):=by
 refine⟨λenv st r hr=>?_⟩
 simp only [bg,Option.bind_eq_some_iff,Option.map_eq_some_iff] at hr
 obtain⟨x,hx,y,hy,d,hd,k,hk,rfl⟩:=hr
 cases vw hk
 refine (x4 (ho.run _ _ _ _ hd) (ha.run _ _ _ hx) (hb.run _ _ _ hy) hm).imp λσ H Q h=>?_
 obtain⟨φ,hE,hS,q⟩:=h
 refine pN ⟨φ,hE,hS,λv H1 φ1 f1 s1 w1=>⟨k,w1,q H1 φ1 f1 s1⟩⟩
noncomputable def oA:W->Option D
 | .d (.int i)=>some (.int (-i))
 | _=>none
theorem nP (ha:IE K X a fa):IE K X (.UnaryOp .USub a pos) (iUn oA fa):=by
 refine⟨λenv st r hr=>?_⟩
 simp only [iUn,Option.bind_eq_some_iff,Option.map_eq_some_iff] at hr
 obtain⟨⟨x,s1⟩,hx,d,hd,rfl⟩:=hr
 cases x with
 | h n=>cases hd
 | d x=>
  cases x with
  | int i=>
   cases hd
   refine (AS zG (ha.run _ _ _ hx)).imp ?_
   rintro σ H Q ⟨φ,hE,hS,q⟩
   exact⟨φ,hE,hS,λv H1 φ1 f1 s1 w1=>⟨i,w1,q _ H1 φ1 f1 s1 rfl⟩⟩
  | _=>cases hd
theorem wg (ha:IE K X a fa):IE K X (.UnaryOp .Not a pos) (um fa):=by
 refine⟨λenv st r hr=>?_⟩
 simp only [um,Option.bind_eq_some_iff,Option.map_eq_some_iff] at hr
 obtain⟨x,hx,k,hk,rfl⟩:=hr
 have e:=qB hk
 refine (zp (ha.run _ _ _ hx)).imp ?_
 rintro σ H Q ⟨φ,hE,hS,q⟩
 exact⟨φ,hE,hS,λv H1 φ1 f1 s1 w1=>⟨k,by rw [e] at w1;exact w1,q _ H1 φ1 f1 s1 rfl⟩⟩
theorem ja {op} (h:IE K X a fa):IE K X (.BoolOp op [a] pos) fa:=⟨λenv st r hr=>Al (h.run env st r hr)⟩
theorem jd {rest:List Expr} (ha:IE K X a fa) (hb:IE K X (.BoolOp .And (b::rest) pos) fb):IE K X (.BoolOp .And (a::b::rest) pos) (fq fa fb):=by
 refine⟨λenv st r hr=>?_⟩
 simp only [fq,Option.bind_eq_some_iff] at hr
 obtain⟨x,hx,k,hk,hr⟩:=hr
 have e:=qB hk
 cases k with
 | false=>
  rw [if_neg Bool.false_ne_true] at hr
  cases hr
  refine (wV (ha.run _ _ _ hx) nh).imp ?_
  rintro σ H Q ⟨φ,hE,hS,q⟩
  refine⟨φ,hE,hS,λv H1 φ1 f1 s1 w1=>⟨false,by rw [e] at w1;exact w1,?_⟩⟩
  rw [if_neg Bool.false_ne_true]
  exact q _ H1 φ1 f1 s1 rfl
 | true=>
  rw [if_pos rfl] at hr
  refine (wV (ha.run _ _ _ hx) (hb.run _ _ _ hr)).imp ?_
  rintro σ H Q ⟨φ,hE,hS,q⟩
  refine⟨φ,hE,hS,λv H1 φ1 f1 s1 w1=>⟨true,by rw [e] at w1;exact w1,?_⟩⟩
  rw [if_pos rfl]
  exact⟨φ1,hE.fw hS f1,s1,λu H2 φ2 f2 s2 w2=>q u H2 φ2 (f1.trans f2) s2 w2⟩
variable {ta tb:Tf}
theorem dI (ha:IT K X a ta):IT K X (.UnaryOp .Not a pos) (cn ta):=by
 refine⟨λenv st r hr=>?_⟩
 simp only [cn,Option.map_eq_some_iff] at hr
 obtain⟨x,hx,rfl⟩:=hr
 refine (zi (ha.run _ _ _ hx)).imp ?_
 rintro σ H Q ⟨φ,hE,hS,q⟩
 exact⟨φ,hE,hS,λH1 φ1 f1 s1=>q H1 φ1 f1 s1⟩
theorem fD (h:ITW K X a ta):IT K X a ta:=⟨λenv st r hr=>(h.run env st r hr).pt⟩
theorem wM (h:IT K X a ta):ITW K X (.BoolOp .And [a] pos) ta:=⟨λenv st r hr=>xA (h.run env st r hr)⟩
theorem eh (h:IT K X a ta):ITW K X (.BoolOp .Or [a] pos) ta:=⟨λenv st r hr=>yZ (h.run env st r hr)⟩
theorem xM {rest:List Expr} (ha:IT K X a ta) (hb:ITW K X (.BoolOp .And (b::rest) pos) tb):ITW K X (.BoolOp .And (a::b::rest) pos) (oK ta tb):=by
 refine⟨λenv st r hr=>?_⟩
 simp only [oK,Option.bind_eq_some_iff] at hr
 obtain⟨⟨k,s1⟩,hx,hr⟩:=hr
 cases k with
 | false=>
  rw [if_neg Bool.false_ne_true] at hr
  cases hr
  refine (vR (ha.run _ _ _ hx) qL).imp ?_
  rintro σ H Q ⟨φ,hE,hS,q⟩
  refine⟨φ,hE,hS,λH1 φ1 f1 s1=>?_⟩
  refine sR ?_
  exact q H1 φ1 f1 s1
 | true=>
  rw [if_pos rfl] at hr
  refine (vR (ha.run _ _ _ hx) (hb.run _ _ _ hr)).imp ?_
  rintro σ H Q ⟨φ,hE,hS,q⟩
  refine⟨φ,hE,hS,λH1 φ1 f1 s1=>?_⟩
  refine tX ?_
  exact⟨φ1,hE.fw hS f1,s1,λH2 φ2 f2 s2=>q H2 φ2 (f1.trans f2) s2⟩
theorem eA {rest:List Expr} (ha:IT K X a ta) (hb:ITW K X (.BoolOp .Or (b::rest) pos) tb):ITW K X (.BoolOp .Or (a::b::rest) pos) (dL ta tb):=by
 refine⟨λenv st r hr=>?_⟩
 simp only [dL,Option.bind_eq_some_iff] at hr
 obtain⟨⟨k,s1⟩,hx,hr⟩:=hr
 cases k with
 | true=>
  rw [if_pos rfl] at hr
  cases hr
  refine (yX (ha.run _ _ _ hx) qL).imp ?_
  rintro σ H Q ⟨φ,hE,hS,q⟩
  refine⟨φ,hE,hS,λH1 φ1 f1 s1=>?_⟩
  refine tX ?_
  exact q H1 φ1 f1 s1
 | false=>
  rw [if_neg Bool.false_ne_true] at hr
  refine (yX (ha.run _ _ _ hx) (hb.run _ _ _ hr)).imp ?_
  rintro σ H Q ⟨φ,hE,hS,q⟩
  refine⟨φ,hE,hS,λH1 φ1 f1 s1=>?_⟩
  refine sR ?_
  exact⟨φ1,hE.fw hS f1,s1,λH2 φ2 f2 s2=>q H2 φ2 (f1.trans f2) s2⟩
theorem vP {tc:Tf} (hc:IT K X c tc) (ha:IE K X a fa) (hb:IE K X b fb):IE K X (.IfExp c a b pos) (mr tc fa fb):=by
 refine⟨λenv st r hr=>?_⟩
 simp only [mr,Option.bind_eq_some_iff] at hr
 obtain⟨⟨k,s1⟩,hx,hr⟩:=hr
 cases k with
 | true=>
  rw [if_pos rfl] at hr
  refine (rz (hc.run _ _ _ hx) (ha.run _ _ _ hr) nh).imp ?_
  rintro σ H Q ⟨φ,hE,hS,q⟩
  refine⟨φ,hE,hS,λH1 φ1 f1 s1=>?_⟩
  refine tX ?_
  exact⟨φ1,hE.fw hS f1,s1,λu H2 φ2 f2 s2 w2=>q u H2 φ2 (f1.trans f2) s2 w2⟩
 | false=>
  rw [if_neg Bool.false_ne_true] at hr
  refine (rz (hc.run _ _ _ hx) nh (hb.run _ _ _ hr)).imp ?_
  rintro σ H Q ⟨φ,hE,hS,q⟩
  refine⟨φ,hE,hS,λH1 φ1 f1 s1=>?_⟩
  refine sR ?_
  exact⟨φ1,hE.fw hS f1,s1,λu H2 φ2 f2 s2 w2=>q u H2 φ2 (f1.trans f2) s2 w2⟩
noncomputable def i7 (st:Sto):W->Option (List D)
 | .d (.tup ds)=>some ds
 | .d (.lst ds)=>some ds
 | .d (.scr ns)=>some (ns.map D.int)
 | .h n=>lg st n
 | _=>none
theorem qP {st:Sto}{H:Hp}{φ:List Addr}{w:W}{v:V}{ds:List D} (S:Sr K H φ st) (r:Rw K H φ w v) (e:i7 st w=some ds):∃ a vs,v=.ref a/\(SqL K H a vs\/H a=some (.tup vs))/\Rls K H φ ds vs:=by
 cases w with
 | h n=>
  obtain⟨a,ea,rfl⟩:=r
  obtain⟨vs,q,rl⟩:=S.atl n a ds ea e
  exact⟨a,vs,rfl,.inl (SqL.of q),rl⟩
 | d x=>
  cases x with
  | tup es=>cases e;obtain⟨a,vs,rfl,h1,h2⟩:=r;exact⟨a,vs,rfl,.inr h1,h2⟩
  | lst es=>cases e;obtain⟨a,vs,rfl,h0,h1,h2⟩:=r;exact⟨a,vs,rfl,.inl (.inl h1),h2⟩
  | scr ns=>
   cases e
   obtain⟨a,rfl,h⟩:=r
   refine⟨a,_,rfl,.inl ?_,Rls.of_ints ns⟩
   rcases h with⟨o,h⟩ | h
   ·exact .inl (.inr ⟨o,h⟩)
   ·exact .inr h
  | _=>cases e
theorem jR {st:Sto}{H:Hp}{φ:List Addr}{w:W}{v:V}{ds:List D} (S:Sr K H φ st) (r:Rw K H φ w v) (e:i7 st w=some ds):∃ a vs,v=.ref a/\(SqL K H a vs\/SqT K H a vs)/\Rls K H φ ds vs:=by
 obtain⟨a,vs,h0,h1,h2⟩:=qP S r e
 exact⟨a,vs,h0,h1.imp id SqT.of,h2⟩
noncomputable def cG (st:Sto):W->Option Bool
 | .d .non=>some false
 | .d (.bl b)=>some b
 | .d (.int i)=>some (i != 0)
 | w=>(i7 st w).map λds=>!ds.isEmpty
theorem xE {st:Sto}{H:Hp}{φ:List Addr}{w:W}{v:V}{k:Bool} (S:Sr K H φ st) (r:Rw K H φ w v) (e:cG st w=some k):yG K v H k:=by
 have seq:∀ ds,i7 st w=some ds->k=!ds.isEmpty->yG K v H k:=λds h hk=>by
  obtain⟨a,vs,rfl,h1,h2⟩:=jR S r h
  have hl:=h2.length
  have e':k=!vs.isEmpty:=by
   rw [hk]
   cases ds<;>cases vs<;>first | rfl | cases hl
  rcases h1 with h1 | h1
  ·exact .inl ⟨vs,h1,e'⟩
  ·exact .inr (.inl ⟨vs,h1,e'⟩)
 cases w with
 | h n=>
  obtain⟨ds,h1,h2⟩:=Option.map_eq_some_iff.mp e
  exact seq ds h1 h2.symm
 | d x=>
  cases x with
  | non=>have r':v=.non:=r;subst r';cases e;exact rfl
  | bl b=>have r':v=.bl b:=r;subst r';cases e;exact rfl
  | int i=>have r':v=.int i:=r;subst r';cases e;exact rfl
  | tup ds=>exact seq ds rfl (Option.some.inj e).symm
  | lst ds=>exact seq ds rfl (Option.some.inj e).symm
  | scr ds=>exact seq _ rfl (Option.some.inj e).symm
  | _=>cases e
theorem cS (ha:IE K X a fa) (he:wO a=true:=by rfl) (hK:X.K=K:=by rfl):IT K X a (cE cG fa):=by
 subst hK
 refine⟨λenv st r hr=>?_⟩
 simp only [cE,Option.bind_eq_some_iff,Option.map_eq_some_iff] at hr
 obtain⟨x,hx,k,hk,rfl⟩:=hr
 refine (vI (ha.run _ _ _ hx) (vd he)).imp ?_
 rintro σ H Q ⟨φ,hE,hS,q⟩
 exact⟨φ,hE,hS,λv H1 φ1 f1 s1 w1=>⟨k,xE s1 w1 hk,q H1 φ1 f1 s1⟩⟩
variable {af:Af}
theorem ae:IA K X [] ag:=by
 refine⟨λenv st r hr=>?_⟩
 cases hr
 refine qv.imp ?_
 rintro σ H Q ⟨φ,hE,hS,q⟩
 exact q [] H φ (Fw.refl φ H) hS rfl
theorem ab (ha:IE K X e fa) (hr:IA K X es af) (hs:aP e=true:=by rfl):IA K X (e::es) (aa fa af):=by
 refine⟨λenv st r h=>?_⟩
 simp only [aa,Option.bind_eq_some_iff,Option.map_eq_some_iff] at h
 obtain⟨x,hx,y,hy,rfl⟩:=h
 refine (my (ha.run _ _ _ hx) (hr.run _ _ _ hy) (bI hs)).imp ?_
 rintro σ H Q ⟨φ,hE,hS,q⟩
 refine⟨φ,hE,hS,λv H1 φ1 f1 s1 w1=>⟨φ1,hE.fw hS f1,s1,λu H2 φ2 f2 s2 w2=>?_⟩⟩
 exact q _ H2 φ2 (f1.trans f2) s2 ⟨v,u,rfl,w1.fw s1 f2,w2⟩
theorem bh {x:Str}{id:String}{p:Pos}{g:Sto->List W->Option D} (hc:jx K X (.builtin id) g) (hg:Gl X x) (hm:X.mg x=none) (hv:bootBuiltins x=some (.builtin id)) (ha:IA K X (e::es) af)
  (hn:x≠"__name__":=by decide) (hdb:(x==("__debug__" : Str))=false:=by decide) (hs:aP e=true:=by rfl) (hp:es.all aP=true:=by rfl) :
  IE K X (.Call (.Name x p) (e::es) [] pos) (iCB g af):=by
 refine⟨λenv st r hr=>?_⟩
 simp only [iCB,Option.bind_eq_some_iff,Option.map_eq_some_iff] at hr
 obtain⟨y,hy,d,hd,rfl⟩:=hr
 refine (xo (hc.run _ _ _ hd) hg hm hv (ha.run _ _ _ hy) hn hdb (bI hs) (cO hp)).imp ?_
 rintro σ H Q ⟨φ,hE,hS,q⟩
 exact⟨φ,hE,hS,λv H1 φ1 f1 s1 w1=>⟨φ1,s1,w1,λu H2 f2 w2=>q u H2 φ1 (f1.trans (Fw.same f2)) (s1.same f2) w2⟩⟩
theorem jf {x:Str}{T:String}{p:Pos}{g:Sto->List W->Option D} (hc:jx K X (.type T) g) (hg:Gl X x) (hm:X.mg x=none) (hv:bootBuiltins x=some (.type T)) (ha:IA K X (e::es) af)
  (hn:x≠"__name__":=by decide) (hdb:(x==("__debug__" : Str))=false:=by decide) (hs:aP e=true:=by rfl) (hp:es.all aP=true:=by rfl) :
  IE K X (.Call (.Name x p) (e::es) [] pos) (iCB g af):=by
 refine⟨λenv st r hr=>?_⟩
 simp only [iCB,Option.bind_eq_some_iff,Option.map_eq_some_iff] at hr
 obtain⟨y,hy,d,hd,rfl⟩:=hr
 refine (fE (hc.run _ _ _ hd) hg hm hv (ha.run _ _ _ hy) hn hdb (bI hs) (cO hp)).imp ?_
 rintro σ H Q ⟨φ,hE,hS,q⟩
 exact⟨φ,hE,hS,λv H1 φ1 f1 s1 w1=>⟨φ1,s1,w1,λu H2 f2 w2=>q u H2 φ1 (f1.trans (Fw.same f2)) (s1.same f2) w2⟩⟩
theorem AN {x:Str}{T:String}{p:Pos}{g:Sto->List W->Option (List D)} (hc:yW K X (.type T) g) (hg:Gl X x) (hm:X.mg x=none) (hv:bootBuiltins x=some (.type T)) (ha:IA K X (e::es) af)
  (hn:x≠"__name__":=by decide) (hdb:(x==("__debug__" : Str))=false:=by decide) (hs:aP e=true:=by rfl) (hp:es.all aP=true:=by rfl) :
  IL K X (.Call (.Name x p) (e::es) [] pos) (iCL g af):=by
 refine⟨λenv st r hr=>?_⟩
 simp only [iCL,Option.bind_eq_some_iff,Option.map_eq_some_iff] at hr
 obtain⟨y,hy,d,hd,rfl⟩:=hr
 refine (fE (hc.run _ _ _ hd) hg hm hv (ha.run _ _ _ hy) hn hdb (bI hs) (cO hp)).imp ?_
 rintro σ H Q ⟨φ,hE,hS,q⟩
 exact⟨φ,hE,hS,λv H1 φ1 f1 s1 w1=>⟨φ1,s1,w1,λa us H2 f2 n2 w2=>q a us H2 φ1 (f1.trans (Fw.same f2)) (s1.same f2) n2 w2⟩⟩
theorem nK {H:Hp}{φ:List Addr}:∀ {ws:List W}{vs:List V}{ds:List D},nE ws=some ds->Rws K H φ ws vs->Rls K H φ ds vs
 | [],_,_,e,h=>by cases e;exact h
 | .d x::ws,_,_,e,h=>by
  obtain⟨v,r,rfl,h1,h2⟩:=h
  obtain⟨es,e1,rfl⟩:=Option.map_eq_some_iff.mp e
  exact⟨v,r,rfl,h1,nK e1 h2⟩
 | .h n::ws,_,_,e,h=>by cases e
theorem cr {x1} (h:IA K X es af):IE K X (.Tuple es x1 pos) (bo af):=by
 refine⟨λenv st r hr=>?_⟩
 simp only [bo,Option.bind_eq_some_iff] at hr
 obtain⟨y,hy,ds,hd,hr⟩:=hr
 split at hr
 ·cases hr
  rename_i hl
  refine (Ah (h.run _ _ _ hy)).imp ?_
  rintro σ H Q ⟨φ,hE,hS,q⟩
  refine⟨φ,hE,hS,λvs H1 φ1 f1 s1 w1=>?_⟩
  have w:=nK hd w1
  refine⟨by rw [<-w.length];exact pT hl,λp hp=>?_⟩
  exact q _ _ φ1 (f1.trans (Fw.new hp)) (s1.new hp) ⟨p,vs,rfl,upd_same,w.fw s1 (Fw.new hp)⟩
 ·cases hr
theorem cQ (h:IA K X es af):IL K X (.List es pos) (ck af):=by
 refine⟨λenv st r hr=>?_⟩
 simp only [ck,Option.bind_eq_some_iff] at hr
 obtain⟨y,hy,ds,hd,hr⟩:=hr
 split at hr
 ·cases hr
  rename_i hl
  refine (zt (h.run _ _ _ hy)).imp ?_
  rintro σ H Q ⟨φ,hE,hS,q⟩
  refine⟨φ,hE,hS,λvs H1 φ1 f1 s1 w1=>?_⟩
  have w:=nK hd w1
  exact⟨by rw [<-w.length];exact pT hl,λp hp=>q p vs H1 φ1 f1 s1 hp w⟩
 ·cases hr
theorem aL {lf:Lf} (h:IL K X e lf):IE K X e (aD lf):=by
 refine⟨λenv st r hr=>?_⟩
 simp only [aD,Option.map_eq_some_iff] at hr
 obtain⟨y,hy,rfl⟩:=hr
 refine (h.run _ _ _ hy).imp ?_
 rintro σ H Q ⟨φ,hE,hS,q⟩
 refine⟨φ,hE,hS,λa vs H1 φ1 f1 s1 n1 w1=>?_⟩
 exact q _ _ φ1 (f1.trans (Fw.new n1)) (s1.new n1) ⟨a,vs,rfl,s1.nin n1,.inl upd_same,w1.fw s1 (Fw.new n1)⟩
theorem Sr.moreC {H:Hp}{φ:List Addr}{st:Sto}{a:Addr}{o:HO}{c:C} (S:Sr K H φ st) (n:H a=none) (w:Rc K (upd H a o) (φ++[a]) φ.length a c):Sr K (upd H a o) (φ++[a]) (st++[c]):=by
 have f:Fw φ (φ++[a]) H (upd H a o):=⟨⟨[a],rfl,λb hb=>by rw [List.mem_singleton.mp hb];exact n⟩,λb o _ h=>bB.new n _ b o h,λb o h=>⟨o,bB.new n _ b o h⟩⟩
 refine⟨?_,by rw [List.length_append,List.length_append,S.len];rfl,λi b es e1 e2=>?_⟩
 ·rw [List.nodup_append]
  refine⟨S.nd,by simp,λx hx y hy e=>?_⟩
  rw [List.mem_singleton.mp hy] at e
  rw [e] at hx
  exact S.nin n hx
 ·by_cases hi:i < φ.length
  ·rw [List.getElem?_append_left hi] at e1
   rw [List.getElem?_append_left (by rw [<-S.len];exact hi)] at e2
   exact (S.at_ i b es e1 e2).fw S f λo h=>bB.new n _ _ _ h
  ·have e:i=φ.length:=by
    have:=(List.getElem?_eq_some_iff.mp e1).1
    rw [List.length_append] at this
    simp at this
    lia
   subst e
   rw [List.getElem?_append_right (Nat.le_refl _)] at e1
   rw [S.len,List.getElem?_append_right (Nat.le_refl _)] at e2
   simp at e1 e2
   subst e1 e2
   exact w
theorem Fw.moreO {H:Hp}{φ:List Addr}{a:Addr}{o:HO} (n:H a=none):Fw φ (φ++[a]) H (upd H a o):=
 ⟨⟨[a],rfl,λb hb=>by rw [List.mem_singleton.mp hb];exact n⟩,λb o _ h=>bB.new n _ b o h,λb o h=>⟨o,bB.new n _ b o h⟩⟩
theorem Fw.more {H:Hp}{φ:List Addr}{a:Addr}{vs:List V} (n:H a=none):Fw φ (φ++[a]) H (upd H a (.lst vs)):=Fw.moreO n
theorem Sr.more {H:Hp}{φ:List Addr}{st:Sto}{a:Addr}{vs:List V}{ds:List D} (S:Sr K H φ st) (n:H a=none) (w:Rls K H φ ds vs):Sr K (upd H a (.lst vs)) (φ++[a]) (st++[.l ds]):=
 S.moreC n ⟨vs,upd_same,w.fw S (Fw.moreO n)⟩
theorem i5 {lf:Lf} (h:IL K X e lf):IE K X e (ft lf):=by
 refine⟨λenv st r hr=>?_⟩
 simp only [ft,Option.map_eq_some_iff] at hr
 obtain⟨y,hy,rfl⟩:=hr
 refine (h.run _ _ _ hy).imp ?_
 rintro σ H Q ⟨φ,hE,hS,q⟩
 refine⟨φ,hE,hS,λa vs H1 φ1 f1 s1 n1 w1=>?_⟩
 exact q _ _ (φ1++[a]) (f1.trans (Fw.more n1)) (s1.more n1 w1) ⟨a,by rw [<-s1.len];simp,rfl⟩
noncomputable def spI (K:PySem.W.Frag) (m:Fn):Sp:=λvs H Q _=>∃ φ st ws r,m ws st=some r/\Rws K H φ ws vs/\Sr K H φ st/\∀ v H' φ',Fw φ φ' H H'->Sr K H' φ' r.2->Rw K H' φ' r.1 v->Q v H'
theorem av {x:Str}{k j:Nat}{ff:Addr}{fd:FuncData}{ps:List Str}{m:Fn}{p:Pos} (F:bV X.prog X.w X.K X.mg X.base CX0 j ff fd ps (spI K m)) (hjk:j<=k) (hr:dY k X.A) (hg:Gl X x) (hm:X.mg x=some (.ref ff)) (hk:PySem.W.keepIn X.K (.ref ff)=true) (hb:bE X.K fd ps [])
  (ha:IA K X (e::es) af) (hdb:(x==("__debug__" : Str))=false:=by decide) (hs:aP e=true:=by rfl) (hp:es.all aP=true:=by rfl) :
  IE K X (.Call (.Name x p) (e::es) [] pos) (au m af):=by
 refine⟨λenv st r h=>?_⟩
 simp only [au,Option.bind_eq_some_iff] at h
 obtain⟨y,hy,h⟩:=h
 refine (uh (F.mono hjk) hr hg hm hk hb .nil vY (ha.run _ _ _ hy) hdb (bI hs) (cO hp)).imp ?_
 rintro σ H Q ⟨φ,hE,hS,q⟩
 refine⟨φ,hE,hS,λvs H1 φ1 f1 s1 w1=>?_⟩
 show spI K m (vs++[]) H1 Q E0
 rw [List.append_nil]
 exact⟨φ1,y.2,y.1,r,h,w1,s1,λv H2 φ2 f2 s2 w2=>q v H2 φ2 (f1.trans f2) s2 w2⟩
end
end L2
namespace L2
open PySem PySem.Spec PyProof.Rows
inductive Fl where
 | nx (env:Ev) (st:Sto) | rt (w:W) (st:Sto) | bk (env:Ev) (st:Sto) | ct (env:Ev) (st:Sto)
abbrev Sf:=Ev->Sto->Option Fl
noncomputable def wd (K:PySem.W.Frag) (φ:List Addr) (H:Hp) (D:n6):Fl->Prop
 | .nx e s=>∀ σ' H' φ',Fw φ φ' H H'->Er K H' φ' e σ'->Sr K H' φ' s->D.nx σ' H'
 | .rt w s=>∀ v H' φ',Fw φ φ' H H'->Sr K H' φ' s->Rw K H' φ' w v->D.rt v H'
 | .bk e s=>∀ σ' H' φ',Fw φ φ' H H'->Er K H' φ' e σ'->Sr K H' φ' s->D.bk σ' H'
 | .ct e s=>∀ σ' H' φ',Fw φ φ' H H'->Er K H' φ' e σ'->Sr K H' φ' s->D.ct σ' H'
theorem wd.fw {K:PySem.W.Frag}{φ φ1:List Addr}{H H1:Hp}{D:n6}{r:Fl} (h:wd K φ H D r) (f:Fw φ φ1 H H1):wd K φ1 H1 D r:=by
 cases r with
 | nx e s=>exact λσ' H' φ' f'=>h σ' H' φ' (f.trans f')
 | rt w s=>exact λv H' φ' f'=>h v H' φ' (f.trans f')
 | bk e s=>exact λσ' H' φ' f'=>h σ' H' φ' (f.trans f')
 | ct e s=>exact λσ' H' φ' f'=>h σ' H' φ' (f.trans f')
noncomputable def tS (K:PySem.W.Frag) (env:Ev) (st:Sto) (r:Fl):TS:=λD σ H=>∃ φ,Er K H φ env σ/\Sr K H φ st/\wd K φ H D r
structure IS (K:PySem.W.Frag) (X:Cx) (s:Stmt) (g:Sf):Prop where
 run:∀ env st r,g env st=some r->PS X s (tS K env st r)
structure ISs (K:PySem.W.Frag) (X:Cx) (s:List Stmt) (g:Sf):Prop where
 run:∀ env st r,g env st=some r->PSs X s (tS K env st r)
inductive Tg where
 | nm (i:Nat) | tp (is:List Nat)
noncomputable def sw:Tg->List Nat
 | .nm i=>[i]
 | .tp is=>is
noncomputable def o0:List Nat->List D->Ev->Ev
 | i::is,d::ds,env=>o0 is ds (env.set i (some (.d d)))
 | _,_,env=>env
noncomputable def eU:Tg->W->Ev->Option Ev
 | .nm i,w,env=>some (env.set i (some w))
 | .tp is,.d (.tup ds),env=>if is.length=ds.length then some (o0 is ds env) else none
 | .tp is,.d (.lst ds),env=>if is.length=ds.length then some (o0 is ds env) else none
 | _,_,_=>none
noncomputable def xL (is:List Nat) (σ σ':St):Prop:=σ'.length=σ.length/\∀ j,j ∉ is->σ'[j]?=σ[j]?
noncomputable def tG (K:PySem.W.Frag) (g:Tg):TG:=λv σ H Q=>∃ φ st env w env',Er K H φ env σ/\Sr K H φ st/\Rw K H φ w v/\eU g w env=some env'/\∀ σ',Er K H φ env' σ'->xL (sw g) σ σ'->Q σ' H
noncomputable def tGs (K:PySem.W.Frag) (is:List Nat):TGs:=λvs σ H Q=>∃ φ st env ds,Er K H φ env σ/\Sr K H φ st/\Rls K H φ ds vs/\is.length=ds.length/\∀ σ',Er K H φ (o0 is ds env) σ'->xL is σ σ'->Q σ' H
noncomputable def bj:Sf
 | env,st=>some (.nx env st)
noncomputable def aq (a b:Sf):Sf
 | env,st=>(a env st).bind λr=>match r with
 | .nx e s=>b e s
 | r=>some r
noncomputable def aG (g:Tg) (f:Ef):Sf
 | env,st=>(f env st).bind λr=>(eU g r.1 env).map λe=>.nx e r.2
noncomputable def hW (st:Sto) (o i v:W):Option Sto:=match o,i,v with
 | .h n,.d (.int k),.d x=>(lg st n).bind λds=>(ixN ds.length k).map λj=>st.set n (.l (ds.set j x))
 | _,_,_=>none
noncomputable def cq (o i v:Ef):Sf
 | env,st=>(v env st).bind λrv=>(o env rv.2).bind λro=>(i env ro.2).bind λri=>(hW ri.2 ro.1 ri.1 rv.1).map λs=>.nx env s
noncomputable def bi (f:Ef):Sf
 | env,st=>(f env st).map λr=>.rt r.1 r.2
noncomputable def ki (f:Ef):Sf
 | env,st=>(f env st).map λr=>.nx env r.2
noncomputable def ce (c:Tf) (a b:Sf):Sf
 | env,st=>(c env st).bind λr=>if r.1=true then a env r.2 else b env r.2
noncomputable def tR:Sf
 | env,st=>some (.bk env st)
noncomputable def oR:Sf
 | env,st=>some (.ct env st)
noncomputable def dR (g:Tg) (body:Sf):List D->Ev->Sto->Option Fl
 | [],env,st=>some (.nx env st)
 | d::ds,env,st=>(eU g (.d d) env).bind λe=>(body e st).bind λr=>match r with
  | .nx e s=>dR g body ds e s
  | .ct e s=>dR g body ds e s
  | .bk e s=>some (.nx e s)
  | .rt w s=>some (.rt w s)
noncomputable def jD (fi:Lf) (g:Tg) (body:Sf):Sf
 | env,st=>(fi env st).bind λr=>dR g body r.1 env r.2
noncomputable def d6 (c:Tf) (body:Sf):Nat->Ev->Sto->Option Fl
 | 0,_,_=>none
 | n+1,env,st=>(c env st).bind λk=>if k.1=true then (body env k.2).bind λr=>match r with
   | .nx e s=>d6 c body n e s
   | .ct e s=>d6 c body n e s
   | .bk e s=>some (.nx e s)
   | .rt w s=>some (.rt w s)
  else some (.nx env k.2)
noncomputable def lcI (g:Tg) (tt:Tf) (te:Ef) (env:Ev):List D->Sto->Option (List D×Sto)
 | [],st=>some ([],st)
 | d::ds,st=>(eU g (.d d) env).bind λe=>(tt e st).bind λb=>if b.1=true then (te e b.2).bind λx=>(nE [x.1]).bind λys=>(lcI g tt te env ds x.2).map λr=>(ys++r.1,r.2)
   else lcI g tt te env ds b.2
noncomputable def iR (k:Nat) (js:List Nat) (env:Ev):Ev:=List.replicate k none++js.map λj=>env.getD j none
noncomputable def iLc (k:Nat) (js:List Nat) (fi:Lf) (g:Tg) (tt:Tf) (te:Ef):Lf
 | env,st=>(fi env st).bind λr=>if r.1.length<=1000000 then lcI g tt te (iR k js env) r.1 r.2 else none
noncomputable def bf:Tf
 | _,st=>some (true,st)
noncomputable def aX (f:Ef):Lf
 | env,st=>(f env st).bind λr=>match r.1 with
 | .d (.tup ds)=>some (ds,r.2)
 | .d (.lst ds)=>some (ds,r.2)
 | _=>none
noncomputable def dE (lo:Int) (n:Nat):List D:=(List.range n).map λk:Nat=>D.int (lo+k)
noncomputable def dk (a:Af):Lf
 | env,st=>(a env st).bind λr=>match r.1 with
 | [.d (.int j)]=>if -(2 ^ 62)<=j/\j < 2 ^ 62 then some (dE 0 j.toNat,r.2) else none
 | _=>none
noncomputable def jJ:Nat->List D->List D
 | _,[]=>[]
 | k,d::ds=>.tup [.int k,d]::jJ (k+1) ds
noncomputable def fX (a:Af):Lf
 | env,st=>(a env st).bind λr=>match r.1 with
 | [.d (.tup ds)]=>some (jJ 0 ds,r.2)
 | [.d (.lst ds)]=>some (jJ 0 ds,r.2)
 | _=>none
section
variable {K:PySem.W.Frag}{X:Cx}{pos:Pos}
theorem PS.imp {s:Stmt}{t t':TS} (h:PS X s t) (m:∀ D σ H,t' D σ H->t D σ H):PS X s t':=λpins s σ H D I q=>h pins s σ H D I (m D σ H q)
theorem PSs.imp {s:List Stmt}{t t':TS} (h:PSs X s t) (m:∀ D σ H,t' D σ H->t D σ H):PSs X s t':=λpins s σ H D I q=>h pins s σ H D I (m D σ H q)
theorem Er.set {H:Hp}{φ:List Addr}{env:Ev}{σ:St} (h:Er K H φ env σ) (i:Nat) {w:W}{v:V} (r:Rw K H φ w v):Er K H φ (env.set i (some w)) (σ.set i (some v)):=by
 refine⟨by rw [List.length_set,List.length_set,h.len],λj w' e=>?_⟩
 by_cases hj:i=j
 ·subst hj
  have hi:i < env.length:=by
   have:=(List.getElem?_eq_some_iff.mp e).1
   rwa [List.length_set] at this
  rw [List.getElem?_set_self hi] at e
  cases e
  exact⟨v,by rw [List.getElem?_set_self (by rw [<-h.len];exact hi)],r⟩
 ·rw [List.getElem?_set_ne hj] at e
  obtain⟨v',e1,r1⟩:=h.at_ j w' e
  exact⟨v',by rw [List.getElem?_set_ne hj];exact e1,r1⟩
theorem wN (i:Nat) (σ:St) (v:Option V):xL [i] σ (σ.set i v):=⟨by rw [List.length_set],λj hj=>by rw [List.getElem?_set_ne (by rintro rfl;simp at hj)]⟩
theorem bD {i:Nat}{x:Str} (h:PG X (.Name x pos) (qD i)):PG X (.Name x pos) (tG K (.nm i)):=by
 intro pins s σ H v u Q I rv q
 obtain⟨φ,st,env,w,env',hE,hS,r,e,q⟩:=q
 cases e
 exact h pins s σ H v u Q I rv (q _ (hE.set i r) (wN i σ _))
theorem di:PGs X [] (tGs K []):=by
 intro pins s σ H vs us Q I rv q
 obtain⟨φ,st,env,ds,hE,hS,r,e,q⟩:=q
 cases ds with
 | nil=>cases r;exact xx pins s σ H [] us Q I rv ⟨rfl,q σ hE ⟨rfl,λ_ _=>rfl⟩⟩
 | cons _ _=>cases e
theorem aM {i:Nat}{is:List Nat}{x:Str}{es:List Expr} (h1:PG X (.Name x pos) (qD i)) (h2:PGs X es (tGs K is)):PGs X (.Name x pos::es) (tGs K (i::is)):=by
 intro pins s σ H vs us Q I rv q
 obtain⟨φ,st,env,ds,hE,hS,r,e,q⟩:=q
 cases ds with
 | nil=>cases e
 | cons d ds=>
  obtain⟨v,vr,rfl,r1,r2⟩:=r
  refine vS h1 h2 (uS rfl) pins s σ H _ us Q I rv ⟨v,vr,rfl,φ,st,_,ds,hE.set i (w:=.d d) r1,hS,r2,by simpa using e,λσ' e' s'=>q σ' e' ?_⟩
  refine⟨by rw [s'.1,List.length_set],λj hj=>?_⟩
  rw [s'.2 j (λz=>hj (List.mem_cons_of_mem _ z)),List.getElem?_set_ne (by rintro rfl;exact hj List.mem_cons_self)]
noncomputable def B4 (K:PySem.W.Frag) (n:Nat) (t:TGs):TG:=λv σ H Q=>∃ a xs,v=.ref a/\SqL K H a xs/\xs.length=n/\t xs σ H Q
theorem At {es:List Expr}{k:Nat}{t:TGs}{n:Nat} (hc:X.calm=true) (h:PGs X es t) (hn:(assignEach es X.env).length=n) (hst:(assignEach es X.env).findIdx? (·.1)=none):PG X (.Tuple es k pos) (B4 X.K n t):=by
 intro pins s σ H v u Q I r hw
 obtain⟨a,xs,e1,hq,hl,hw⟩:=hw
 subst e1
 cases r
 obtain⟨its,rv,p,hz⟩:=I.list hq
 rw [assign_Tuple]
 refine wpAny_bind (wpAny_standAt ?_)
 unfold unpack
 rw [show (assignEach es X.env).length=its.toArray.size by simp [hn,<-hl,rv.length],hst]
 refine wpAny_bind (wpAny_holding (PySem.W.kun_itemsOf (I.ok.hd hc) p.isList λh' hx=>?_))
 have I1:Inv X pins σ H { s with heap:=h' }:=I.kept (t':=s.toks) λb o e=>hx b o (Nat.ne_of_lt (Heap.lt_size e)) e
 exact h pins _ σ H xs _ Q I1 (by simpa using rv) hw
theorem eG {es:List Expr}{k n:Nat}{is:List Nat} (h:PGs X es (tGs K is)) (hes:es.all aP=true:=by rfl) (hn:es.length=n:=by rfl) (hi:is.length=n:=by rfl) (hc:X.calm=true:=by rfl) (hK:X.K=K:=by rfl):PG X (.Tuple es k pos) (tG K (.tp is)):=by
 subst hK
 intro pins s σ H v u Q I rv q
 obtain⟨φ,st,env,w,env',hE,hS,r,e,q⟩:=q
 cases w with
 | h n=>cases e
 | d x=>
  cases x with
  | tup ds=>
   have e':(if is.length=ds.length then some (o0 is ds env) else none)=some env':=e
   by_cases hl:is.length=ds.length
   ·rw [if_pos hl] at e'
    cases e'
    obtain⟨a,vs,rfl,hq,hr⟩:=r
    exact zW hc h ((pK hes).trans hn) (nR hes) pins s σ H _ u Q I rv ⟨a,vs,rfl,(SqT.of hq),by rw [<-hr.length,<-hl,hi],φ,st,env,ds,hE,hS,hr,hl,q⟩
   ·rw [if_neg hl] at e'
    cases e'
  | lst ds=>
   have e':(if is.length=ds.length then some (o0 is ds env) else none)=some env':=e
   by_cases hl:is.length=ds.length
   ·rw [if_pos hl] at e'
    cases e'
    obtain⟨a,vs,rfl,_,hq,hr⟩:=r
    exact At hc h ((pK hes).trans hn) (nR hes) pins s σ H _ u Q I rv ⟨a,vs,rfl,.inl hq,by rw [<-hr.length,<-hl,hi],φ,st,env,ds,hE,hS,hr,hl,q⟩
   ·rw [if_neg hl] at e'
    cases e'
  | _=>cases e
variable {s:Stmt}{ss rest:List Stmt}{e a b c:Expr}{ga gb:Sf}{f fa fb fc:Ef}
theorem aR:ISs K X [] bj:=by
 refine⟨λenv st r hr=>?_⟩
 cases hr
 exact yv.imp λD σ H ⟨φ,hE,hS,q⟩=>q σ H φ (Fw.refl φ H) hE hS
theorem ao (h:IS K X s ga):ISs K X [s] ga:=⟨λenv st r hr=>uy (h.run env st r hr)⟩
theorem ai (h1:IS K X s ga) (h2:ISs K X rest gb):ISs K X (s::rest) (aq ga gb):=by
 refine⟨λenv st r hr=>?_⟩
 simp only [aq,Option.bind_eq_some_iff] at hr
 obtain⟨r1,e1,hr⟩:=hr
 cases r1 with
 | nx e s1=>
  refine (fP (h1.run _ _ _ e1) (h2.run _ _ _ hr)).imp ?_
  rintro D σ H ⟨φ,hE,hS,q⟩
  exact⟨φ,hE,hS,λσ' H' φ' f' e' s'=>⟨φ',e',s',q.fw f'⟩⟩
 | rt w s1=>
  cases hr
  exact (fP (h1.run _ _ _ e1) iF).imp λD σ H ⟨φ,hE,hS,q⟩=>⟨φ,hE,hS,q⟩
 | bk w s1=>
  cases hr
  exact (fP (h1.run _ _ _ e1) iF).imp λD σ H ⟨φ,hE,hS,q⟩=>⟨φ,hE,hS,q⟩
 | ct w s1=>
  cases hr
  exact (fP (h1.run _ _ _ e1) iF).imp λD σ H ⟨φ,hE,hS,q⟩=>⟨φ,hE,hS,q⟩
theorem aH {i:Nat}{x:Str}{pos':Pos} (hN:X.N.Nodup) (hi:X.N[i]?=some x) (hx:Loc X.env.scope x) (he:IE K X e f) (hs:swapsWith e (some (.Name x pos')) pos.line X.env=pure false:=by rfl) (hf:X.fn x=true\/X.env.scope.names.lookup x=some .local:=by first | exact .inl rfl | exact .inr rfl | assumption) :
  IS K X (.Assign [.Name x pos'] e pos) (aG (.nm i) f):=by
 refine⟨λenv st r hr=>?_⟩
 simp only [aG,eU,Option.bind_eq_some_iff,Option.map_eq_some_iff] at hr
 obtain⟨y,hy,e',ee,rfl⟩:=hr
 cases ee
 refine (zC hN hi hx (he.run _ _ _ hy) hs hf).imp ?_
 rintro D σ H ⟨φ,hE,hS,q⟩
 exact⟨φ,hE,hS,λv H1 φ1 f1 s1 w1=>q _ H1 φ1 f1 ((hE.fw hS f1).set i w1) s1⟩
theorem tJ {tg:Expr}{g:Tg} (he:IE K X e f) (hg:PG X tg (tG K g)) (hs:swapsWithSole [tg] e pos.line X.env=pure false:=by rfl) (hw:swappedStores [tg] e X.env=pure none:=by rfl)
  (h1:aP tg=true:=by rfl):IS K X (.Assign [tg] e pos) (aG g f):=by
 refine⟨λenv st r hr=>?_⟩
 simp only [aG,Option.bind_eq_some_iff,Option.map_eq_some_iff] at hr
 obtain⟨y,hy,e',ee,rfl⟩:=hr
 refine (qo (he.run _ _ _ hy) hg hs hw (mG h1)).imp ?_
 rintro D σ H ⟨φ,hE,hS,q⟩
 exact⟨φ,hE,hS,λv H1 φ1 f1 s1 w1=>⟨φ1,y.2,env,y.1,e',hE.fw hS f1,s1,w1,ee,λσ' e'' _=>q σ' H1 φ1 f1 e'' s1⟩⟩
theorem Sr.putC {H:Hp}{φ:List Addr}{st:Sto}{n:Nat}{a:Addr}{o:HO}{c:C} (S:Sr K H φ st) (hn:φ[n]?=some a) (w:Fw φ φ H (upd H a o)->Rc K (upd H a o) φ n a c) :
  Fw φ φ H (upd H a o)/\Sr K (upd H a o) φ (st.set n c):=by
 have ha:a ∈ φ:=List.mem_of_getElem? hn
 have f:Fw φ φ H (upd H a o):=⟨⟨[],by simp,by simp⟩,λb o hb h=>by rw [upd_ne (λz=>hb (by rw [z];exact ha))];exact h,λb o h=>by
  by_cases z:b=a
  ·subst z;exact⟨_,upd_same⟩
  ·exact⟨o,by rw [upd_ne z];exact h⟩⟩
 refine⟨f,S.nd,by rw [List.length_set];exact S.len,λm b es e1 e2=>?_⟩
 by_cases hm:n=m
 ·subst hm
  rw [e1] at hn;cases hn
  have hl:n < st.length:=by rw [<-S.len];exact (List.getElem?_eq_some_iff.mp e1).1
  rw [List.getElem?_set_self hl] at e2
  cases e2
  exact w f
 ·rw [List.getElem?_set_ne hm] at e2
  have q:=S.at_ m b es e1 e2
  have hne:b≠a:=by
   rintro rfl
   obtain⟨h1,h1'⟩:=List.getElem?_eq_some_iff.mp hn
   obtain⟨h2,h2'⟩:=List.getElem?_eq_some_iff.mp e1
   exact hm ((List.getElem_inj S.nd).mp (h1'.trans h2'.symm))
  exact q.fw S f λo h=>by rw [upd_ne hne];exact h
theorem Sr.put {H:Hp}{φ:List Addr}{st:Sto}{n:Nat}{a:Addr}{vs:List V}{ds:List D} (S:Sr K H φ st) (hn:φ[n]?=some a) (w:Rls K H φ ds vs) :
  Fw φ φ H (upd H a (.lst vs))/\Sr K (upd H a (.lst vs)) φ (st.set n (.l ds)):=S.putC hn λf=>⟨vs,upd_same,w.fw S f⟩
theorem tB {st s':Sto}{o i v:W} (h:hW st o i v=some s'):∃ n k x ds j,o=.h n/\i=.d (.int k)/\v=.d x/\lg st n=some ds/\ixN ds.length k=some j/\s'=st.set n (.l (ds.set j x)):=by
 unfold hW at h
 split at h
 ·obtain⟨ds,e1,h⟩:=Option.bind_eq_some_iff.mp h
  obtain⟨j,e2,h⟩:=Option.map_eq_some_iff.mp h
  exact⟨_,_,_,ds,j,rfl,rfl,rfl,e1,e2,h.symm⟩
 ·cases h
theorem d7 {tpos:Pos} (ho:IE K X a fa) (hi:IE K X b fb) (hv:IE K X e f) (hb:pI b=true:=by rfl) (hs:swapsWithSole [.Subscript a b tpos] e pos.line X.env=pure false:=by rfl) (hw:swappedStores [.Subscript a b tpos] e X.env=pure none:=by rfl) :
  IS K X (.Assign [.Subscript a b tpos] e pos) (cq fa fb f):=by
 refine⟨λenv st r hr=>?_⟩
 simp only [cq,Option.bind_eq_some_iff,Option.map_eq_some_iff] at hr
 obtain⟨rv,ev,ro,eo,ri,ei,s',es,rfl⟩:=hr
 refine (qo (hv.run _ _ _ ev) (tV (ho.run _ _ _ eo) (hi.run _ _ _ ei) mY (ql hb)) hs hw (mG rfl)).imp ?_
 rintro D σ H ⟨φ,hE,hS,q⟩
 refine⟨φ,hE,hS,λv H1 φ1 f1 s1 w1=>⟨φ1,hE.fw hS f1,s1,λo H2 φ2 f2 s2 w2=>⟨φ2,(hE.fw hS f1).fw s1 f2,s2,λi H3 φ3 f3 s3 w3=>?_⟩⟩⟩
 have e3:=((hE.fw hS f1).fw s1 f2).fw s2 f3
 have w1':=(w1.fw s1 f2).fw s2 f3
 have w2':=w2.fw s2 f3
 obtain⟨ro1,ro2⟩:=ro
 obtain⟨rv1,rv2⟩:=rv
 obtain⟨ri1,ri2⟩:=ri
 obtain⟨n,k,x,ds,j,rfl,rfl,rfl,eds,ej,rfl⟩:=tB es
 obtain⟨p,ep,rfl⟩:=w2'
 obtain⟨vs,hp,rl⟩:=s3.atl n p ds ep eds
 have w3':i=.int k:=w3
 subst w3'
 obtain⟨f4,s4⟩:=s3.put ep (Rls.set j rl w1')
 refine⟨p,vs,k,j,rfl,rfl,hp,by rw [<-rl.length];exact ej,?_⟩
 exact q _ _ φ3 (((f1.trans f2).trans f3).trans f4) (e3.fw s3 f4) s4
theorem aE (h:IE K X e f):IS K X (.Return (some e) pos) (bi f):=by
 refine⟨λenv st r hr=>?_⟩
 simp only [bi,Option.map_eq_some_iff] at hr
 obtain⟨y,hy,rfl⟩:=hr
 exact (zA (h.run _ _ _ hy)).imp λD σ H ⟨φ,hE,hS,q⟩=>⟨φ,hE,hS,q⟩
theorem qs (h:IE K X e f) (hs:swapsWith e none pos.line X.env=pure false:=by rfl):IS K X (.Expr e pos) (ki f):=by
 refine⟨λenv st r hr=>?_⟩
 simp only [ki,Option.map_eq_some_iff] at hr
 obtain⟨y,hy,rfl⟩:=hr
 exact (x6 (h.run _ _ _ hy) hs).imp λD σ H ⟨φ,hE,hS,q⟩=>⟨φ,hE,hS,λv H1 φ1 f1 s1 w1=>q σ H1 φ1 f1 (hE.fw hS f1) s1⟩
theorem bW {tc:Tf}{sa sb:List Stmt} (hc:IT K X c tc) (ha:ISs K X sa ga) (hb:ISs K X sb gb):IS K X (.If c sa sb pos) (ce tc ga gb):=by
 refine⟨λenv st r hr=>?_⟩
 simp only [ce,Option.bind_eq_some_iff] at hr
 obtain⟨⟨k,s1⟩,hx,hr⟩:=hr
 cases k with
 | true=>
  rw [if_pos rfl] at hr
  refine (yR (hc.run _ _ _ hx) (ha.run _ _ _ hr) iF).imp ?_
  rintro D σ H ⟨φ,hE,hS,q⟩
  refine⟨φ,hE,hS,λH1 φ1 f1 s1=>tX ?_⟩
  exact⟨φ1,hE.fw hS f1,s1,q.fw f1⟩
 | false=>
  rw [if_neg Bool.false_ne_true] at hr
  refine (yR (hc.run _ _ _ hx) iF (hb.run _ _ _ hr)).imp ?_
  rintro D σ H ⟨φ,hE,hS,q⟩
  refine⟨φ,hE,hS,λH1 φ1 f1 s1=>sR ?_⟩
  exact⟨φ1,hE.fw hS f1,s1,q.fw f1⟩
theorem xv:IS K X (.Break pos) tR:=by
 refine⟨λenv st r hr=>?_⟩
 cases hr
 exact wQ.imp λD σ H ⟨φ,hE,hS,q⟩=>q σ H φ (Fw.refl φ H) hE hS
theorem uH:IS K X (.Continue pos) oR:=by
 refine⟨λenv st r hr=>?_⟩
 cases hr
 exact qJ.imp λD σ H ⟨φ,hE,hS,q⟩=>q σ H φ (Fw.refl φ H) hE hS
noncomputable def Bz (K:PySem.W.Frag) (g:Sf):TS:=λD σ H=>∃ env st r,g env st=some r/\tS K env st r D σ H
noncomputable def w6 (K:PySem.W.Frag) (f:Ef):TE:=λσ H Q=>∃ env st r,f env st=some r/\tI K env st r σ H Q
noncomputable def uT (K:PySem.W.Frag) (f:Tf):TT:=λσ H Q=>∃ env st r,f env st=some r/\tIT K env st r σ H Q
theorem ISs.any (h:ISs K X ss ga):PSs X ss (Bz K ga):=λpins s σ H D I ⟨env,st,r,e,q⟩=>h.run env st r e pins s σ H D I q
theorem IE.any (h:IE K X e f):PE X e (w6 K f):=λpins s σ H D I ⟨env,st,r,e,q⟩=>h.run env st r e pins s σ H D I q
theorem IT.any {tf:Tf} (h:IT K X e tf):PT X e (uT K tf):=λpins s σ H D I ⟨env,st,r,e,q⟩=>h.run env st r e pins s σ H D I q
noncomputable def Yl (K:PySem.W.Frag) (φ0:List Addr) (H0:Hp) (J:It) (ds:List D):Prop:=∀ (H:Hp) (φ:List Addr) (st:Sto) (i:Nat),Fw φ0 φ H0 H->Sr K H φ st->
 (∀ d,ds[i]?=some d->J.go i H/\∀ x H',J.yld i H x H'->bB H H'/\Rl K H' φ d x)/\(ds.length=i->J.stop i H)
noncomputable def tII (K:PySem.W.Frag) (env:Ev) (st:Sto) (r:List D×Sto):TI:=λσ H R=>∃ φ,Er K H φ env σ/\Sr K H φ st/\∀ J H' φ',Fw φ φ' H H'->Sr K H' φ' r.2->Yl K φ' H' J r.1->R J H'
structure II (K:PySem.W.Frag) (X:Cx) (tg iter:Expr) (f:Lf):Prop where
 run:∀ env st r,f env st=some r->PI X tg iter (tII K env st r)
theorem PI.imp {tg iter:Expr}{t t':TI} (h:PI X tg iter t) (m:∀ σ H R,t' σ H R->t σ H R):PI X tg iter t':=λpins s σ H R I q=>h pins s σ H R I (m σ H R q)
variable {tg:Expr}
end
end L2
namespace L2
open PySem PySem.Spec PyProof.Rows
section
variable {K:PySem.W.Frag}{X:Cx}{pos:Pos}{tg e a b:Expr}{f:Ef}{af:Af}
theorem cU (h:IE K X e f) (hK:X.K=K:=by rfl):II K X tg e (aX f):=by
 subst hK
 refine⟨λenv st r hr=>?_⟩
 simp only [aX,Option.bind_eq_some_iff] at hr
 obtain⟨⟨w,s1⟩,hy,hr⟩:=hr
 match w,hr with
 | .d (.tup ds),hr=>
  cases hr
  refine (z9 (h.run _ _ _ hy)).imp ?_
  rintro σ H R ⟨φ,hE,hS,q⟩
  refine⟨φ,hE,hS,λv H1 φ1 f1 s1 w1=>?_⟩
  obtain⟨a,vs,rfl,hq,hr⟩:=w1
  refine⟨a,rfl,⟨vs,(SqT.of hq)⟩,q _ H1 φ1 f1 s1 λH2 φ2 st2 i f2 s2=>?_⟩
  have hq2:=(SqT.of hq).fw s1 f2
  have hr2:=hr.fw s1 f2
  refine⟨λd hd=>?_,λhi=>⟨vs,hq2,by rw [<-hr2.length];exact Nat.le_of_eq hi⟩⟩
  obtain⟨v,ev,rv⟩:=hr2.get hd
  refine⟨⟨vs,v,hq2,ev⟩,λx H' y=>?_⟩
  obtain⟨rfl,y⟩:=y
  have:=y vs hq2
  rw [ev] at this
  cases this
  exact⟨bB.refl _,rv⟩
 | .d (.lst ds),hr=>
  cases hr
  refine (uP (h.run _ _ _ hy)).imp ?_
  rintro σ H R ⟨φ,hE,hS,q⟩
  refine⟨φ,hE,hS,λv H1 φ1 f1 s1 w1=>?_⟩
  obtain⟨a,vs,rfl,h0,hq,hr⟩:=w1
  refine⟨a,rfl,⟨vs,.inl hq⟩,q _ H1 φ1 f1 s1 λH2 φ2 st2 i f2 s2=>?_⟩
  have hq2:SqL X.K H2 a vs:=.inl (hq.fw f2 h0)
  have hr2:=hr.fw s1 f2
  refine⟨λd hd=>?_,λhi=>⟨vs,hq2,by rw [<-hr2.length];exact Nat.le_of_eq hi⟩⟩
  obtain⟨v,ev,rv⟩:=hr2.get hd
  refine⟨⟨vs,v,hq2,ev⟩,λx H' y=>?_⟩
  obtain⟨rfl,y⟩:=y
  have:=y vs hq2
  rw [ev] at this
  cases this
  exact⟨bB.refl _,rv⟩
theorem xf (lo:Int) (n i:Nat):(dE lo n)[i]?=if i < n then some (.int (lo+i)) else none:=by
 unfold dE
 rw [List.getElem?_map]
 by_cases h:i < n
 ·rw [List.getElem?_range h,if_pos h];rfl
 ·rw [List.getElem?_eq_none (by simpa using h),if_neg h];rfl
theorem rG (lo:Int) (n:Nat):(dE lo n).length=n:=by unfold dE;rw [List.length_map,List.length_range]
theorem Aw (lo:Int) (n:Nat) {φ:List Addr}{H:Hp}:Yl K φ H (Itr lo n) (dE lo n):=by
 intro H2 φ2 st2 i f2 s2
 refine⟨λd hd=>?_,λhi=>by rw [rG] at hi;exact Nat.le_of_eq hi⟩
 rw [xf] at hd
 by_cases h:i < n
 ·rw [if_pos h] at hd
  cases hd
  refine⟨h,λx H' y=>?_⟩
  obtain⟨rfl,rfl⟩:=y
  exact⟨bB.refl _,rfl⟩
 ·rw [if_neg h] at hd;cases hd
theorem iX {p:Pos} (hg:Gl X "range") (hm:X.mg "range" = none) (ha:IA K X [a] af) (hs:aP a=true:=by rfl):II K X tg (.Call (.Name "range" p) [a] [] pos) (dk af):=by
 refine⟨λenv st r hr=>?_⟩
 simp only [dk,Option.bind_eq_some_iff] at hr
 obtain⟨⟨ws,s1⟩,hy,hr⟩:=hr
 match ws,hr with
 | [.d (.int j)],hr=>
  have hr':(if -(2 ^ 62)<=j/\j < 2 ^ 62 then some (dE 0 j.toNat,s1) else none)=some r:=hr
  by_cases hj:-(2 ^ 62)<=j/\j < 2 ^ 62
  ·rw [if_pos hj] at hr'
   cases hr'
   refine (vF hg hm (ha.run _ _ _ hy) (jw hs)).imp ?_
   rintro σ H R ⟨φ,hE,hS,q⟩
   refine⟨φ,hE,hS,λvs H1 φ1 f1 s1 w1=>?_⟩
   obtain⟨v,r,rfl,r1,rfl⟩:=w1
   exact⟨j,by rw [show v=.int j from r1],hj.1,hj.2,q _ H1 φ1 f1 s1 (Aw 0 _)⟩
  ·rw [if_neg hj] at hr';cases hr'
theorem li:∀ (ds:List D) (k i:Nat),(jJ k ds)[i]?=(ds[i]?).map λd=>D.tup [.int ((k+i:Nat):Int),d]
 | [],k,i=>by simp [jJ]
 | d::ds,k,0=>by simp [jJ]
 | d::ds,k,i+1=>by
  have:=li ds (k+1) i
  rw [show k+1+i=k+(i+1) by lia] at this
  simpa [jJ] using this
theorem oZ:∀ (ds:List D) (k:Nat),(jJ k ds).length=ds.length
 | [],_=>rfl
 | d::ds,k=>by rw [jJ,List.length_cons,List.length_cons,oZ ds]
theorem ut {S:Hp->List V->Prop}{ds:List D}{vs:List V}{φ:List Addr}{H:Hp} (hS:∀ H' φ',Fw φ φ' H H'->S H' vs) (hr:∀ H' φ',Fw φ φ' H H'->Rls K H' φ' ds vs):Yl K φ H (Ite S) (jJ 0 ds):=by
 intro H2 φ2 st2 i f2 s2
 have q2:=hS H2 φ2 f2
 have r2:=hr H2 φ2 f2
 refine⟨λd hd=>?_,λhi=>⟨vs,q2,by rw [<-r2.length,<-oZ ds 0];exact hi⟩⟩
 rw [li,Option.map_eq_some_iff] at hd
 obtain⟨d',hd',rfl⟩:=hd
 obtain⟨v,ev,rv⟩:=r2.get hd'
 refine⟨⟨vs,v,q2,ev⟩,λx H' y=>?_⟩
 obtain⟨T,v',y1,hT,rfl,rfl⟩:=y
 have:=y1 vs q2
 rw [ev] at this
 cases this
 refine⟨bB.new hT _,T,_,rfl,upd_same,_,_,rfl,?_,_,_,rfl,rv.fw s2 (Fw.new hT),rfl⟩
 show V.int (i:Int)=V.int ((0+i:Nat):Int)
 rw [Nat.zero_add]
theorem kR {elts:List Expr}{k:Nat}{tpos p:Pos} (hg:Gl X "enumerate") (hm:X.mg "enumerate" = none) (ha:IA K X [a] af) (hs:aP a=true:=by rfl) (hK:X.K=K:=by rfl) :
  II K X (.Tuple elts k tpos) (.Call (.Name "enumerate" p) [a] [] pos) (fX af):=by
 subst hK
 refine⟨λenv st r hr=>?_⟩
 simp only [fX,Option.bind_eq_some_iff] at hr
 obtain⟨⟨ws,s1⟩,hy,hr⟩:=hr
 match ws,hr with
 | [.d (.tup ds)],hr=>
  cases hr
  refine (vW hg hm (ha.run _ _ _ hy) (jw hs)).imp ?_
  rintro σ H R ⟨φ,hE,hS,q⟩
  refine⟨φ,hE,hS,λvs H1 φ1 f1 s1 w1=>?_⟩
  obtain⟨v,r,rfl,⟨a,us,rfl,hq,hr⟩,rfl⟩:=w1
  exact⟨a,rfl,⟨us,(SqT.of hq)⟩,q _ H1 φ1 f1 s1 (ut (λH' φ' f=>(SqT.of hq).fw s1 f) λH' φ' f=>hr.fw s1 f)⟩
 | [.d (.lst ds)],hr=>
  cases hr
  refine (wx hg hm (ha.run _ _ _ hy) (jw hs)).imp ?_
  rintro σ H R ⟨φ,hE,hS,q⟩
  refine⟨φ,hE,hS,λvs H1 φ1 f1 s1 w1=>?_⟩
  obtain⟨v,r,rfl,⟨a,us,rfl,h0,hq,hr⟩,rfl⟩:=w1
  exact⟨a,rfl,⟨us,.inl hq⟩,q _ H1 φ1 f1 s1 (ut (λH' φ' f=>.inl (hq.fw f h0)) λH' φ' f=>hr.fw s1 f)⟩
theorem gh {iter:Expr}{body:List Stmt}{fi:Lf}{g:Tg}{gb:Sf} (hi:II K X tg iter fi) (hg:PG X tg (tG K g)) (hb:ISs K X body gb) (hp:PassesOwn (model X.prog X.w) X.A X.env X.xe) (hc:X.calm=true:=by rfl)
  (hs:∀ x,foldedSetIterable iter X.env x=pure x:=by intro _;rfl):IS K X (.For tg iter body [] pos) (jD fi g gb):=by
 refine⟨λenv st r hr=>?_⟩
 simp only [jD,Option.bind_eq_some_iff] at hr
 obtain⟨⟨ds,s1⟩,hy,hr⟩:=hr
 refine (zY hp hc (hi.run _ _ _ hy) hg hb.any hs).imp ?_
 rintro D σ H ⟨φ,hE,hS,q⟩
 refine⟨φ,hE,hS,λJ H1 φ1 f1 S1 yl=>?_⟩
 refine⟨λi m σ H=>m=ds.length - i/\i<=ds.length/\∃ env st φ2,Fw φ1 φ2 H1 H/\Er K H φ2 env σ/\Sr K H φ2 st/\dR g gb (ds.drop i) env st=some r,⟨ds.length,by simp,Nat.zero_le _,env,s1,φ1,Fw.refl _ _,hE.fw hS f1,S1,hr⟩,?_⟩
 rintro i m σ H2 ⟨rfl,hi,env2,st2,φ2,f2,e2,S2,h2⟩
 obtain⟨y1,y2⟩:=yl H2 φ2 st2 i f2 S2
 by_cases hlt:i < ds.length
 ·obtain⟨go,yld⟩:=y1 ds[i] (List.getElem?_eq_getElem hlt)
  rw [List.drop_eq_getElem_cons hlt] at h2
  simp only [dR,Option.bind_eq_some_iff] at h2
  obtain⟨e3,he3,r3,hr3,h3⟩:=h2
  refine .inr ⟨go,λσ' H'=>i+1<=ds.length/\∃ env st φ2,Fw φ1 φ2 H1 H'/\Er K H' φ2 env σ'/\Sr K H' φ2 st/\dR g gb (ds.drop (i+1)) env st=some r,λσ' H' ⟨hn,p'⟩=>⟨ds.length - (i+1),by lia,rfl,hn,p'⟩,λx H' y=>?_⟩
  obtain⟨sm,rx⟩:=yld x H' y
  have S3:=S2.same sm
  have f3:=f2.trans (Fw.same (φ:=φ2) sm)
  refine⟨φ2,st2,env2,.d ds[i],e3,e2.fw S2 (Fw.same sm),S3,rx,he3,λσ' e' _=>?_⟩
  refine⟨e3,st2,r3,hr3,φ2,e',S3,?_⟩
  cases r3 with
  | nx e4 s4=>exact λσ4 H4 φ4 f4 e4' s4'=>⟨hlt,e4,s4,φ4,f3.trans f4,e4',s4',h3⟩
  | ct e4 s4=>exact λσ4 H4 φ4 f4 e4' s4'=>⟨hlt,e4,s4,φ4,f3.trans f4,e4',s4',h3⟩
  | bk e4 s4=>
   cases h3
   exact λσ4 H4 φ4 f4 e4' s4'=>q σ4 H4 φ4 (f1.trans (f3.trans f4)) e4' s4'
  | rt w s4=>
   cases h3
   exact λv H4 φ4 f4 s4' w4=>q v H4 φ4 (f1.trans (f3.trans f4)) s4' w4
 ·have hi':i=ds.length:=by lia
  subst hi'
  rw [List.drop_length] at h2
  cases h2
  exact .inl ⟨y2 rfl,q σ H2 φ2 (f1.trans f2) e2 S2⟩
noncomputable def tK (n:Nat) (c:Tf) (b:Sf):Sf
 | env,st=>d6 c b n env st
theorem rR {c:Expr}{body:List Stmt}{tc:Tf}{gb:Sf} (n:Nat) (hc:IT K X c tc) (hb:ISs K X body gb) (hp:PassesOwn (model X.prog X.w) X.A X.env X.xe):IS K X (.While c body [] pos) (tK n tc gb):=by
 refine⟨λenv st r hr=>?_⟩
 refine (wv hp hc.any hb.any).imp ?_
 rintro D σ H ⟨φ,hE,hS,q⟩
 refine⟨λm σ H'=>∃ env st φ2,Fw φ φ2 H H'/\Er K H' φ2 env σ/\Sr K H' φ2 st/\d6 tc gb m env st=some r,⟨n,env,st,φ,Fw.refl _ _,hE,hS,hr⟩,?_⟩
 rintro m σ H2 ⟨env2,st2,φ2,f2,e2,S2,h2⟩
 cases m with
 | zero=>cases h2
 | succ m=>
  simp only [d6,Option.bind_eq_some_iff] at h2
  obtain⟨⟨k,s3⟩,hk,h2⟩:=h2
  refine⟨env2,st2,_,hk,φ2,e2,S2,λH3 φ3 f3 S3=>?_⟩
  cases k with
  | false=>
   rw [if_neg Bool.false_ne_true] at h2
   cases h2
   exact sR (q σ H3 φ3 (f2.trans f3) (e2.fw S2 f3) S3)
  | true=>
   simp only [if_true,Option.bind_eq_some_iff] at h2
   obtain⟨r3,hr3,h3⟩:=h2
   refine tX ⟨λσ' H'=>∃ env st φ2,Fw φ φ2 H H'/\Er K H' φ2 env σ'/\Sr K H' φ2 st/\d6 tc gb m env st=some r,λσ' H' p'=>⟨m,Nat.lt_succ_self _,p'⟩,?_⟩
   refine⟨env2,s3,r3,hr3,φ3,e2.fw S2 f3,S3,?_⟩
   have f3':=f2.trans f3
   cases r3 with
   | nx e4 s4=>exact λσ4 H4 φ4 f4 e4' s4'=>⟨e4,s4,φ4,f3'.trans f4,e4',s4',h3⟩
   | ct e4 s4=>exact λσ4 H4 φ4 f4 e4' s4'=>⟨e4,s4,φ4,f3'.trans f4,e4',s4',h3⟩
   | bk e4 s4=>
    cases h3
    exact λσ4 H4 φ4 f4 e4' s4'=>q σ4 H4 φ4 (f3'.trans f4) e4' s4'
   | rt w s4=>
    cases h3
    exact λv H4 φ4 f4 s4' w4=>q v H4 φ4 (f3'.trans f4) s4' w4
structure ITs (K:PySem.W.Frag) (X:Cx) (ifs:List Expr) (t:Tf):Prop where
 run:PTs X ifs (uT K t)
theorem bG:ITs K X [] bf:=by
 refine⟨λpins s σ H Q I ⟨env,st,r,e,φ,hE,hS,q⟩=>?_⟩
 cases e
 exact yz pins s σ H Q I (q H φ (Fw.refl φ H) hS)
theorem xH {c:Expr}{t:Tf} (h:IT K X c t):ITs K X [c] t:=⟨yH h.any⟩
theorem Er.emb {H:Hp}{φ:List Addr}{env:Ev}{σ:St} (h:Er K H φ env σ) (k:Nat) (js:List Nat):Er K H φ (iR k js env) (gz k js σ):=by
 refine⟨by unfold iR gz;simp,λi w e=>?_⟩
 unfold iR at e
 unfold gz
 by_cases hi:i < k
 ·rw [List.getElem?_append_left (by simpa using hi),List.getElem?_replicate,if_pos hi] at e
  cases e
 ·rw [List.getElem?_append_right (by simpa using hi),List.length_replicate,List.getElem?_map,Option.map_eq_some_iff] at e
  obtain⟨j,ej,e⟩:=e
  have ej2:env[j]?=some (some w):=by
   rw [List.getD] at e
   cases q:env[j]? with
   | none=>rw [q] at e;cases e
   | some o=>rw [q] at e;rw [show o=some w from e]
  obtain⟨v,ev,rv⟩:=h.at_ j w ej2
  refine⟨v,?_,rv⟩
  rw [List.getElem?_append_right (by simpa using hi),List.length_replicate,List.getElem?_map,ej]
  show some ((σ[j]?).getD none)=_
  rw [ev];rfl
theorem Sub.stay {k:Nat}{js is:List Nat}{σ σ':St} (h:xL is (gz k js σ) σ') (hi:∀ j ∈ is,j < k):Sub (gz k js σ) σ':=by
 refine⟨h.1.symm,λj v e=>?_⟩
 by_cases hj:j ∈ is
 ·have:=hi j hj
  unfold gz at e
  rw [List.getElem?_append_left (by simpa using this),List.getElem?_replicate,if_pos this] at e
  cases e
 ·rw [h.2 j hj];exact e
theorem sJ {k:Nat}{js:List Nat}{g:Tg}{tt:Tf}{te:Ef}{env:Ev}{st s1:Sto}{ds:List D}{r:List D×Sto} (hgi:∀ j ∈ sw g,j < k) (hdl:ds.length<=1000000) (hr':lcI g tt te (iR k js env) ds s1=some r) :
  ∀ σ H Q,tIL K env st r σ H Q->tLc (gz k js) (tII K env st (ds,s1)) (tG K g) (uT K tt) (w6 K te) σ H Q:=by
 rintro σ H Q ⟨φ,hE,hS,q⟩
 refine⟨φ,hE,hS,λJ H1 φ1 f1 S1 yl=>?_⟩
 have hE1:=(hE.fw hS f1).emb k js
 refine⟨λi m ys H2=>m=ds.length - i/\i<=ds.length/\∃ st φ2 es r2,Fw φ1 φ2 H1 H2/\Sr K H2 φ2 st/\Rls K H2 φ2 es ys/\es.length<=i/\lcI g tt te (iR k js env) (ds.drop i) st=some r2/\r=(es++r2.1,r2.2),⟨ds.length,by simp,Nat.zero_le _,s1,φ1,[],r,Fw.refl _ _,S1,rfl,Nat.le_refl _,hr',rfl⟩,?_⟩
 rintro i m ys H2 ⟨rfl,hi,st2,φ2,es,r2,f2,S2,rl2,hle,h2,rfl⟩
 obtain⟨y1,y2⟩:=yl H2 φ2 st2 i f2 S2
 by_cases hlt:i < ds.length
 ·obtain⟨go,yld⟩:=y1 ds[i] (List.getElem?_eq_getElem hlt)
  rw [List.drop_eq_getElem_cons hlt] at h2
  simp only [lcI,Option.bind_eq_some_iff] at h2
  obtain⟨e3,he3,⟨kb,s3⟩,hb3,h3⟩:=h2
  have hz:ys.length < sizeLine:=by
   rw [<-rl2.length]
   have:sizeLine=16777216:=sizeLine_eq
   lia
  refine .inr ⟨go,hz,λys' H'=>i+1<=ds.length/\∃ st φ2 es' r2',Fw φ1 φ2 H1 H'/\Sr K H' φ2 st/\Rls K H' φ2 es' ys'/\es'.length<=i+1/\lcI g tt te (iR k js env) (ds.drop (i+1)) st=some r2'/\(es++r2.1,r2.2)=(es'++r2'.1,r2'.2),λys' H' ⟨hn,p'⟩=>⟨ds.length - (i+1),by lia,rfl,hn,p'⟩,λx H' y=>?_⟩
  obtain⟨sm,rx⟩:=yld x H' y
  have S3:=S2.same sm
  have f3:=f2.trans (Fw.same (φ:=φ2) sm)
  refine⟨φ2,st2,iR k js env,.d ds[i],e3,hE1.fw S1 f3,S3,rx,he3,λσ' e' stay=>⟨Sub.stay stay hgi,?_⟩⟩
  refine⟨e3,st2,_,hb3,φ2,e',S3,λH4 φ4 f4 S4=>?_⟩
  cases kb with
  | false=>
   rw [if_neg Bool.false_ne_true] at h3
   exact sR ⟨hlt,s3,φ4,es,r2,f3.trans f4,S4,(rl2.fw S2 (Fw.same sm)).fw S3 f4,by lia,h3,rfl⟩
  | true=>
   simp only [if_true,Option.bind_eq_some_iff,Option.map_eq_some_iff] at h3
   obtain⟨x5,hx5,zs,hzs,r5,hr5,rfl⟩:=h3
   refine tX ⟨e3,s3,x5,hx5,φ4,e'.fw S3 f4,S4,λv H5 φ5 f5 S5 w5=>?_⟩
   obtain⟨x5,s5⟩:=x5
   cases x5 with
   | h n=>cases hzs
   | d z=>
    cases hzs
    refine⟨hlt,s5,φ5,es++[z],r5,(f3.trans f4).trans f5,S5,(((rl2.fw S2 (Fw.same sm)).fw S3 f4).fw S4 f5).append ⟨v,[],rfl,w5,rfl⟩,by rw [List.length_append];simp;lia,hr5,?_⟩
    simp
 ·have hi':i=ds.length:=by lia
  subst hi'
  rw [List.drop_length] at h2
  cases h2
  refine .inl ⟨y2 rfl,λDn hD=>?_⟩
  have:=q Dn ys H2 φ2 (f1.trans f2) S2 hD
  exact this (by simpa using rl2)
theorem dW {scope:Scope}{Nc:List Str}{k:Nat}{js:List Nat}{elt iter:Expr}{ifs:List Expr}{fi:Lf}{g:Tg}{tt:Tf}{te:Ef}
  (S:fN X scope Nc (gz k js)) (hc:X.calm=true) (hgi:∀ j ∈ sw g,j < k) (hi:II K X tg iter fi)
  (hg:∀ cells s H C fp,PG (lcX X scope cells Nc s H C fp) tg (tG K g)) (ht:∀ cells s H C fp,ITs K (lcX X scope cells Nc s H C fp) ifs tt) (he:∀ cells s H C fp,IE K (lcX X scope cells Nc s H C fp) elt te)
  (hs:∀ x,foldedSetIterable iter X.env x=pure x:=by intro _;rfl):IL K X (.ListComp elt [⟨tg,iter,ifs,0⟩] scope pos) (iLc k js fi g tt te):=by
 refine⟨λenv st r hr=>?_⟩
 simp only [iLc,Option.bind_eq_some_iff] at hr
 obtain⟨⟨ds,s1⟩,hy,hr⟩:=hr
 have hr':(if ds.length<=1000000 then lcI g tt te (iR k js env) ds s1 else none)=some r:=hr
 by_cases hdn:¬ ds.length<=1000000
 ·rw [if_neg hdn] at hr';cases hr'
 have hdl:ds.length<=1000000:=by lia
 rw [if_pos hdl] at hr'
 refine (yM S hc (hi.run _ _ _ hy) hg (λcells s H C fp=>(ht cells s H C fp).run) (λcells s H C fp=>(he cells s H C fp).any) hs).imp (sJ hgi hdl hr')
theorem uw {scope:Scope}{Nc:List Str}{k:Nat}{js:List Nat}{elt iter:Expr}{ifs:List Expr}{fi:Lf}{g:Tg}{tt:Tf}{te:Ef}{i0:Nat}{x0:Str}{py spos:Pos}
  (hN0:X.N.Nodup) (hi0:X.N[i0]?=some x0) (hx0:Loc X.env.scope x0) (S:fN X scope Nc (gz k js)) (hc:X.calm=true) (hgi:∀ j ∈ sw g,j < k) (hi:II K X tg iter fi)
  (hg:∀ cells s H C fp,PG (lcX X scope cells Nc s H C fp) tg (tG K g)) (ht:∀ cells s H C fp,ITs K (lcX X scope cells Nc s H C fp) ifs tt) (he:∀ cells s H C fp,IE K (lcX X scope cells Nc s H C fp) elt te)
  (hsw:swapsWith (.ListComp elt [⟨tg,iter,ifs,0⟩] scope pos) (some (.Name x0 py)) spos.line X.env=pure true:=by rfl)
  (hf0:X.fn x0=true\/X.env.scope.names.lookup x0=some .local:=by first | exact .inl rfl | exact .inr rfl | assumption)
  (hs:∀ x,foldedSetIterable iter X.env x=pure x:=by intro _;rfl):IS K X (.Assign [.Name x0 py] (.ListComp elt [⟨tg,iter,ifs,0⟩] scope pos) spos) (aG (.nm i0) (aD (iLc k js fi g tt te)))/\
   IS K X (.Assign [.Name x0 py] (.ListComp elt [⟨tg,iter,ifs,0⟩] scope pos) spos) (aG (.nm i0) (ft (iLc k js fi g tt te))):=by
 have key:∀ env st r0 r,iLc k js fi g tt te env st=some r->(∀ σ φ H (D:n6),Er K H φ env σ->Sr K H φ st->wd K φ H D r0->∀ a vs H1 φ',Fw φ φ' H H1->Sr K H1 φ' r.2->H1 a=none->Rls K H1 φ' r.1 vs->D.nx (σ.set i0 (some (.ref a))) (upd H1 a (.lst vs)))->
   PS X (.Assign [.Name x0 py] (.ListComp elt [⟨tg,iter,ifs,0⟩] scope pos) spos) (tS K env st r0):=by
  intro env st r0 r hr h
  simp only [iLc,Option.bind_eq_some_iff] at hr
  obtain⟨⟨ds,s1⟩,hy,hr⟩:=hr
  have hr':(if ds.length<=1000000 then lcI g tt te (iR k js env) ds s1 else none)=some r:=hr
  by_cases hdn:¬ ds.length<=1000000
  ·rw [if_neg hdn] at hr';cases hr'
  have hdl:ds.length<=1000000:=by lia
  rw [if_pos hdl] at hr'
  refine (yL hN0 hi0 hx0 S hc (hi.run _ _ _ hy) hg (λcells s H C fp=>(ht cells s H C fp).run) (λcells s H C fp=>(he cells s H C fp).any) hsw hf0 hs).imp ?_
  rintro D σ H ⟨φ,hE,hS,q⟩
  exact sJ hgi hdl hr' σ H _ ⟨φ,hE,hS,h σ φ H D hE hS q⟩
 constructor
 ·refine⟨λenv st r hr=>?_⟩
  simp only [aG,aD,eU,Option.bind_eq_some_iff,Option.map_eq_some_iff] at hr
  obtain⟨y,⟨r2,hy,rfl⟩,e',ee,rfl⟩:=hr
  cases ee
  refine key _ _ _ _ hy λσ φ H D hE hS q a vs H1 φ1 f1 s1 n1 w1=>?_
  exact q _ _ φ1 (f1.trans (Fw.new n1)) ((((hE.fw hS f1).fw s1 (Fw.new n1))).set i0 (w:=.d (.lst r2.1)) ⟨a,vs,rfl,s1.nin n1,.inl upd_same,w1.fw s1 (Fw.new n1)⟩) (s1.new n1)
 ·refine⟨λenv st r hr=>?_⟩
  simp only [aG,ft,eU,Option.bind_eq_some_iff,Option.map_eq_some_iff] at hr
  obtain⟨y,⟨r2,hy,rfl⟩,e',ee,rfl⟩:=hr
  cases ee
  refine key _ _ _ _ hy λσ φ H D hE hS q a vs H1 φ1 f1 s1 n1 w1=>?_
  exact q _ _ (φ1++[a]) (f1.trans (Fw.more n1)) (((hE.fw hS f1).fw s1 (Fw.more n1)).set i0 (w:=.h r2.2.length) ⟨a,by rw [<-s1.len];simp,rfl⟩) (s1.more n1 w1)
end
end L2
namespace L2
open PySem PySem.Spec PyProof.Rows
noncomputable def cK (n k:Nat) (b:Sf):Fn
 | ws,st=>if ws.length=k then (b (ws.map some++List.replicate (n - k) none) st).bind λr=>match r with
 | .nx _ s=>some (.d .non,s)
 | .rt w s=>some (w,s)
 | _=>none
 else none
noncomputable def vX (n:Nat) (w:W) (s:Sto):Option (W×Sto):=match w with
 | .d x=>some (.d x,s.take n)
 | .h m=>if m < n then some (.h m,s.take n) else (lg s m).map λds=>(.d (.lst ds),s.take n)
noncomputable def j7 (n k:Nat) (b:Sf):Fn
 | ws,st=>if ws.length=k then (b (ws.map some++List.replicate (n - k) none) st).bind λr=>match r with
 | .nx _ s=>some (.d .non,s.take st.length)
 | .rt w s=>vX st.length w s
 | _=>none
 else none
section
variable {P:Program}{w:World}{K:PySem.W.Frag}{mg:Str->Option Value}{base:Heap}
theorem nB {H:Hp}{φ:List Addr}{N:List Str}{k:Nat}:∀ {ws:List W}{vs:List V},Rws K H φ ws vs->ws.length=k->Er K H φ (ws.map some++List.replicate (N.length - k) none) (hU N vs):=by
 intro ws vs r hk
 have hl:=r.length
 refine⟨by unfold hU;simp;lia,λi x e=>?_⟩
 unfold hU
 by_cases hi:i < ws.length
 ·rw [List.getElem?_append_left (by simpa using hi),List.getElem?_map,Option.map_eq_some_iff] at e
  obtain⟨y,ey,e⟩:=e
  have:∃ v,vs[i]?=some v/\Rw K H φ y v:=by
   clear hk hl hi e
   induction ws generalizing vs i with
   | nil=>simp at ey
   | cons w ws ih=>
    obtain⟨v,r',rfl,r1,r2⟩:=r
    cases i with
    | zero=>simp at ey;subst ey;exact⟨v,rfl,r1⟩
    | succ i=>simpa using ih r2 i (by simpa using ey)
  obtain⟨v,ev,rv⟩:=this
  cases e
  refine⟨v,?_,rv⟩
  rw [List.getElem?_append_left (by rw [List.length_map,<-hl];exact hi),List.getElem?_map,ev];rfl
 ·rw [List.getElem?_append_right (by simpa using hi)] at e
  have:=List.mem_of_getElem? e
  have:=(List.mem_replicate.mp this).2
  cases this
theorem fm {x qual:Str}{st:Stmt}{f:Addr}{fd:FuncData}{N ps:List Str}{k:Nat}{b:Sf} (F:Fun K x qual st f fd) (S:aK N ps (ah st))
  (hb:∀ (cdv:Value) (A:Around) (outer:List Env) (s:Shared) (H:Hp) (E:XK),dY k (A.deeper (envOfC qual (ah st) s.heap.objs.size f cdv))->ISs K (n5 CX0 P w K mg base N qual (ah st) f cdv A outer s H E).nox (aF st) b) :
  bV P w K mg base CX0 (k+1) f fd ps (spI K (cK N.length ps.length b)):=by
 refine F.ok S (λvs H Q E h=>?_) λcdv A outer s H vs Q E hr h=>?_
 ·obtain⟨φ,st,ws,r,e,rw,_⟩:=h
  rw [cK] at e
  by_cases hl:ws.length=ps.length
  ·rw [<-rw.length,hl]
  ·rw [if_neg hl] at e;cases e
 ·obtain⟨φ,st',ws,r,e,rw,S',q⟩:=h
  rw [cK] at e
  by_cases hl:ws.length=ps.length
  ·rw [if_pos hl] at e
   obtain⟨fl,e1,e2⟩:=Option.bind_eq_some_iff.mp e
   refine⟨_,(hb cdv A outer s H E hr).run _ _ _ e1,φ,nB rw hl,S',?_⟩
   cases fl with
   | nx e s=>cases e2;exact λσ' H' φ' f' e' s'=>q .non H' φ' f' s' rfl
   | rt w s=>cases e2;exact λv H' φ' f' s' w'=>q v H' φ' f' s' w'
   | bk e s=>cases e2
   | ct e s=>cases e2
  ·rw [if_neg hl] at e;cases e
theorem Fw.less {φ φ':List Addr}{H H':Hp} (f:Fw φ φ' H H'):Fw φ φ H H':=⟨⟨[],by simp,by simp⟩,f.keep,f.there⟩
theorem qS {x qual:Str}{st:Stmt}{f:Addr}{fd:FuncData}{N ps:List Str}{k:Nat}{b:Sf} (F:Fun K x qual st f fd) (S:aK N ps (ah st))
  (hb:∀ (cdv:Value) (A:Around) (outer:List Env) (s:Shared) (H:Hp) (E:XK),dY k (A.deeper (envOfC qual (ah st) s.heap.objs.size f cdv))->ISs K (n5 CX0 P w K mg base N qual (ah st) f cdv A outer s H E).nox (aF st) b) :
  bV P w K mg base CX0 (k+1) f fd ps (spI K (j7 N.length ps.length b)):=by
 refine F.ok S (λvs H Q E h=>?_) λcdv A outer s H vs Q E hr h=>?_
 ·obtain⟨φ,st,ws,r,e,rw,_⟩:=h
  rw [j7] at e
  by_cases hl:ws.length=ps.length
  ·rw [<-rw.length,hl]
  ·rw [if_neg hl] at e;cases e
 ·obtain⟨φ,st',ws,r,e,rw,S',q⟩:=h
  rw [j7] at e
  by_cases hl:ws.length=ps.length
  ·rw [if_pos hl] at e
   obtain⟨fl,e1,e2⟩:=Option.bind_eq_some_iff.mp e
   refine⟨_,(hb cdv A outer s H E hr).run _ _ _ e1,φ,nB rw hl,S',?_⟩
   have less:∀ {H':Hp}{φ':List Addr}{s':Sto},Fw φ φ' H H'->Sr K H' φ' s'->Sr K H' φ (s'.take st'.length):=λ{H' φ' s'} f' S2=>by
    obtain⟨ψ,rfl,_⟩:=f'.ext
    rw [<-S'.len]
    exact S2.less
   cases fl with
   | nx e s=>cases e2;exact λσ' H' φ' f' e' s'=>q .non H' φ f'.less (less f' s') rfl
   | rt w s=>
    intro v H' φ' f' s' w'
    have e3:vX st'.length w s=some r:=e2
    obtain⟨ψ,eψ,_⟩:=f'.ext
    cases w with
    | d x=>
     cases e3
     subst eψ
     exact q v H' φ f'.less (less f' s') (Rl.less w')
    | h m=>
     obtain⟨a,ea,rfl⟩:=w'
     unfold vX at e3
     by_cases hm:m < st'.length
     ·have e4:some (W.h m,s.take st'.length)=some r:=by
       have:=e3
       simp only [hm,if_true] at this
       exact this
      cases e4
      subst eψ
      rw [List.getElem?_append_left (by rw [S'.len];exact hm)] at ea
      exact q _ H' φ f'.less (less f' s') ⟨a,ea,rfl⟩
     ·simp only [hm,if_false] at e3
      obtain⟨ds,eds,rfl⟩:=Option.map_eq_some_iff.mp e3
      obtain⟨vs,hv,rl⟩:=s'.atl m a ds ea eds
      have hn:a ∉ φ:=λz=>by
       obtain⟨i,hi,ei⟩:=List.mem_iff_getElem.mp z
       have h1:φ'[i]?=some a:=by subst eψ;rw [List.getElem?_append_left hi,List.getElem?_eq_getElem hi,ei]
       obtain⟨h2,h2'⟩:=List.getElem?_eq_some_iff.mp h1
       obtain⟨h3,h3'⟩:=List.getElem?_eq_some_iff.mp ea
       have:=(List.getElem_inj s'.nd).mp (h2'.trans h3'.symm)
       rw [S'.len] at hi
       lia
      subst eψ
      exact q _ H' φ f'.less (less f' s') ⟨a,vs,rfl,hn,.inl hv,rl.less⟩
   | bk e s=>cases e2
   | ct e s=>cases e2
  ·rw [if_neg hl] at e;cases e
end
noncomputable def eL:D->Bool
 | .non=>true
 | .bl _=>true
 | .int _=>true
 | .str _=>true
 | _=>false
noncomputable def vOf:D->V
 | .bl b=>.bl b
 | .int i=>.int i
 | .str x=>.str x
 | _=>.non
mutual
noncomputable def eqD:D->D->Bool
 | .non,.non=>true
 | .bl a,.bl b=>a==b
 | .bl a,.int b=>(if a then 1 else 0)==b
 | .int a,.bl b=>a==(if b then 1 else 0)
 | .int a,.int b=>a==b
 | .str a,.str b=>a==b
 | .tup as,.tup bs=>jZ as bs
 | .lst as,.lst bs=>jZ as bs
 | _,_=>false
noncomputable def jZ:List D->List D->Bool
 | [],[]=>true
 | a::as,b::bs=>eqD a b && jZ as bs
 | _,_=>false
end
noncomputable def okD:Nat->D->Bool
 | _,.non=>true
 | _,.bl _=>true
 | _,.int _=>true
 | _,.str _=>true
 | n+1,.tup ds=>ds.all (okD n)
 | n+1,.lst ds=>ds.all (okD n)
 | _,_=>false
noncomputable def lsD (st:Sto):W->Option (List D)
 | .d (.lst ds)=>some ds
 | .h n=>lg st n
 | _=>none
noncomputable def bH (st:Sto) (x y:W):Option D:=match x,y with
 | .d (.int i),.d (.int j)=>some (.int (i+j))
 | .d (.tup a),.d (.tup b)=>if a.length+b.length<=1000000 then some (.tup (a++b)) else none
 | .d (.str a),.d (.str b)=>if a.length+b.length<=1000000 then some (.str (a++b)) else none
 | x,y=>(lsD st x).bind λa=>(lsD st y).bind λb=>if a.length+b.length<=1000000 then some (.lst (a++b)) else none
noncomputable def mj (_:Sto):W->W->Option D
 | .d (.int i),.d (.int j)=>some (.int (i - j))
 | _,_=>none
instance (a b:Int):Decidable (IntMulOk a b):=by unfold IntMulOk;infer_instance
noncomputable def bM (_:Sto):W->W->Option D
 | .d (.int i),.d (.int j)=>if IntMulOk i j then some (.int (i*j)) else none
 | .d (.tup a),.d (.int k)=>if a≠[]/\a.length<=1000/\1<=k/\k < 1000 then some (.tup (List.replicate k.toNat a).flatten) else none
 | .d (.lst a),.d (.int k)=>if a.length<=1000/\-1000<=k/\k < 1000 then some (.lst (List.replicate k.toNat a).flatten) else none
 | _,_=>none
noncomputable def nC (_:Sto):W->W->Option D
 | .d (.int i),.d (.int j)=>if 0 < j/\j < 1073741824 then some (.int (i / j)) else none
 | _,_=>none
noncomputable def iH (_:Sto):W->W->Option D
 | .d (.int i),.d (.int j)=>if 0 < j then some (.int (i % j)) else none
 | _,_=>none
instance (i j:Int):Decidable (re i j):=by unfold re;infer_instance
noncomputable def mq (_:Sto):W->W->Option D
 | .d (.int i),.d (.int j)=>if re i j then some (.int (i ^ j.toNat)) else none
 | _,_=>none
noncomputable def dLt (_:Sto):W->W->Option D
 | .d (.int i),.d (.int j)=>some (.bl (decide (i < j)))
 | _,_=>none
noncomputable def dLe (_:Sto):W->W->Option D
 | .d (.int i),.d (.int j)=>some (.bl (decide (i<=j)))
 | _,_=>none
noncomputable def dGt (_:Sto):W->W->Option D
 | .d (.int i),.d (.int j)=>some (.bl (decide (j < i)))
 | _,_=>none
noncomputable def dGe (_:Sto):W->W->Option D
 | .d (.int i),.d (.int j)=>some (.bl (decide (j<=i)))
 | _,_=>none
noncomputable def wj:D->Bool
 | .non=>true
 | _=>false
noncomputable def kz (_:Sto):W->W->Option D
 | .d x,.d .non=>some (.bl (wj x))
 | _,_=>none
noncomputable def yV (_:Sto):W->W->Option D
 | .d x,.d .non=>some (.bl (!wj x))
 | _,_=>none
noncomputable def inD (x:D) (ds:List D):Bool:=ds.any λy=>eqD y x
noncomputable def dIn (st:Sto) (x y:W):Option D:=match x with
 | .d x=>(i7 st y).bind λds=>if eL x=true/\ds.all eL=true then some (.bl (inD x ds)) else none
 | _=>none
noncomputable def qj (st:Sto) (x y:W):Option D:=match x with
 | .d x=>(i7 st y).bind λds=>if eL x=true/\ds.all eL=true then some (.bl (!inD x ds)) else none
 | _=>none
section
variable {K:PySem.W.Frag}{X:Cx}
theorem jc {H:Hp}{φ:List Addr}{d:D}{v:V} (h:eL d=true) (r:Rl K H φ d v):v=vOf d/\ij v=true:=by
 cases d with
 | non=>cases (show v=.non from r);exact⟨rfl,rfl⟩
 | bl b=>cases (show v=.bl b from r);exact⟨rfl,rfl⟩
 | int b=>cases (show v=.int b from r);exact⟨rfl,rfl⟩
 | str b=>cases (show v=.str b from r);exact⟨rfl,rfl⟩
 | _=>cases h
theorem pj {a b:D} (ha:eL a=true) (hb:eL b=true):eqV (vOf a) (vOf b)=eqD a b:=by
 cases a<;>cases b<;>first | rfl | (cases ha;done) | (cases hb;done) | (simp [eqV,vOf,eqD];done)
theorem nH {H:Hp}{φ:List Addr}:∀ {ds:List D}{vs:List V},ds.all eL=true->Rls K H φ ds vs->vs=ds.map vOf/\vs.all ij=true
 | [],_,_,h=>by cases h;exact⟨rfl,rfl⟩
 | d::ds,_,h,r=>by
  rw [List.all_cons,Bool.and_eq_true] at h
  obtain⟨v,vr,rfl,r1,r2⟩:=r
  obtain⟨e1,e2⟩:=jc h.1 r1
  obtain⟨e3,e4⟩:=nH h.2 r2
  exact⟨by rw [e1,e3];rfl,by rw [List.all_cons,e2,e4];rfl⟩
theorem pX {x:D} (hx:eL x=true):∀ {ds:List D},ds.all eL=true->inV (vOf x) (ds.map vOf)=inD x ds
 | [],_=>rfl
 | d::ds,h=>by
  rw [List.all_cons,Bool.and_eq_true] at h
  have ih:=pX hx h.2
  unfold inV inD at ih ⊢
  rw [List.map_cons,List.any_cons,List.any_cons,ih,pj h.1 hx]
theorem iT {f:Value->Value->Sem Value}{g:Sto->W->W->Option D} (h:∀ st x y d,g st x y=some d->∃ i j,x=.d (.int i)/\y=.d (.int j)/\OpR X f (λvx vy H Q=>vx=.int i/\vy=.int j/\Q (vOf d) H)/\eL d=true):OpD K X f g:=by
 refine⟨λst x y d hd=>?_⟩
 obtain⟨i,j,rfl,rfl,ho,hf⟩:=h st x y d hd
 refine ho.imp ?_
 rintro vx vy H Q ⟨φ,S,r1,r2,q⟩
 refine⟨r1,r2,q _ H (bB.refl H) ?_⟩
 cases d<;>first | rfl | cases hf
theorem lv:OpD K X (binaryOp .Sub) mj:=iT λst x y d h=>by
 match x,y,h with
 | .d (.int i),.d (.int j),h=>cases h;exact⟨i,j,rfl,rfl,An.imp λvx vy H Q ⟨a,b,q⟩=>⟨i,j,a,b,q⟩,rfl⟩
theorem kX:OpD K X (compareOp .Lt) dLt:=iT λst x y d h=>by
 match x,y,h with
 | .d (.int i),.d (.int j),h=>cases h;exact⟨i,j,rfl,rfl,BR.imp λvx vy H Q ⟨a,b,q⟩=>⟨i,j,a,b,q⟩,rfl⟩
theorem wU:OpD K X (compareOp .LtE) dLe:=iT λst x y d h=>by
 match x,y,h with
 | .d (.int i),.d (.int j),h=>cases h;exact⟨i,j,rfl,rfl,AL.imp λvx vy H Q ⟨a,b,q⟩=>⟨i,j,a,b,q⟩,rfl⟩
theorem lQ:OpD K X (compareOp .Gt) dGt:=iT λst x y d h=>by
 match x,y,h with
 | .d (.int i),.d (.int j),h=>cases h;exact⟨i,j,rfl,rfl,BO.imp λvx vy H Q ⟨a,b,q⟩=>⟨i,j,a,b,q⟩,rfl⟩
theorem oM:OpD K X (compareOp .GtE) dGe:=iT λst x y d h=>by
 match x,y,h with
 | .d (.int i),.d (.int j),h=>cases h;exact⟨i,j,rfl,rfl,AO.imp λvx vy H Q ⟨a,b,q⟩=>⟨i,j,a,b,q⟩,rfl⟩
theorem t9:OpD K X (binaryOp .FloorDiv) nC:=iT λst x y d h=>by
 match x,y,h with
 | .d (.int i),.d (.int j),h=>
  simp only [nC] at h
  split at h
  ·rename_i hc
   cases h;exact⟨i,j,rfl,rfl,xw.imp λvx vy H Q ⟨a,b,q⟩=>⟨i,j,a,b,hc,q⟩,rfl⟩
  ·cases h
theorem i8:OpD K X (binaryOp .Mod) iH:=iT λst x y d h=>by
 match x,y,h with
 | .d (.int i),.d (.int j),h=>
  simp only [iH] at h
  split at h
  ·rename_i hc
   cases h;exact⟨i,j,rfl,rfl,Ai.imp λvx vy H Q ⟨a,b,q⟩=>⟨i,j,a,b,hc,q⟩,rfl⟩
  ·cases h
theorem su:OpD K X (binaryOp .Pow) mq:=iT λst x y d h=>by
 match x,y,h with
 | .d (.int i),.d (.int j),h=>
  simp only [mq] at h
  split at h
  ·rename_i hc
   cases h;exact⟨i,j,rfl,rfl,zB.imp λvx vy H Q ⟨a,b,q⟩=>⟨i,j,a,b,hc,q⟩,rfl⟩
  ·cases h
theorem v8 {H:Hp}{φ:List Addr}{d:D}{v:V} (r:Rl K H φ d v):decide (v=.non)=wj d:=by
 cases d with
 | non=>cases (show v=.non from r);rfl
 | bl b=>cases (show v=.bl b from r);rfl
 | int b=>cases (show v=.int b from r);rfl
 | str b=>cases (show v=.str b from r);rfl
 | ty b=>cases (show v=.ty b from r);rfl
 | dct=>obtain⟨a,rfl,_⟩:=r;rfl
 | scr ns=>obtain⟨a,rfl,_⟩:=r;rfl
 | tup ds=>obtain⟨a,vs,rfl,_⟩:=r;rfl
 | lst ds=>obtain⟨a,vs,rfl,_⟩:=r;rfl
 | ob ns ds=>obtain⟨a,_,_,_,vs,rfl,_⟩:=r;rfl
theorem pP:OpD K X (compareOp .Is) kz:=by
 refine⟨λst x y d h=>?_⟩
 match x,y,h with
 | .d x,.d .non,h=>
  cases h
  refine zg.imp ?_
  rintro vx vy H Q ⟨φ,S,r1,r2,q⟩
  refine⟨r2,q _ H (bB.refl H) ?_⟩
  rw [v8 r1];rfl
theorem xy:OpD K X (compareOp .IsNot) yV:=by
 refine⟨λst x y d h=>?_⟩
 match x,y,h with
 | .d x,.d .non,h=>
  cases h
  refine xJ.imp ?_
  rintro vx vy H Q ⟨φ,S,r1,r2,q⟩
  refine⟨r2,q _ H (bB.refl H) ?_⟩
  rw [v8 r1];rfl
theorem Bh (hK:X.K=K:=by rfl):OpD K X (compareOp .In) dIn:=by
 subst hK
 refine⟨λst x y d h=>?_⟩
 match x,h with
 | .d x,h=>
  simp only [dIn,Option.bind_eq_some_iff] at h
  obtain⟨ds,hs,h⟩:=h
  split at h
  ·rename_i hc
   cases h
   refine vb.imp ?_
   rintro vx vy H Q ⟨φ,S,r1,r2,q⟩
   obtain⟨a,vs,rfl,h1,h2⟩:=jR S r2 hs
   obtain⟨e1,e2⟩:=jc hc.1 r1
   obtain⟨e3,e4⟩:=nH hc.2 h2
   refine⟨a,vs,rfl,h1,e2,e4,q _ H (bB.refl H) ?_⟩
   rw [e1,e3,pX hc.1 hc.2];rfl
  ·cases h
theorem rP (hK:X.K=K:=by rfl):OpD K X (compareOp .NotIn) qj:=by
 subst hK
 refine⟨λst x y d h=>?_⟩
 match x,h with
 | .d x,h=>
  simp only [qj,Option.bind_eq_some_iff] at h
  obtain⟨ds,hs,h⟩:=h
  split at h
  ·rename_i hc
   cases h
   refine pR.imp ?_
   rintro vx vy H Q ⟨φ,S,r1,r2,q⟩
   obtain⟨a,vs,rfl,h1,h2⟩:=jR S r2 hs
   obtain⟨e1,e2⟩:=jc hc.1 r1
   obtain⟨e3,e4⟩:=nH hc.2 h2
   refine⟨a,vs,rfl,h1,e2,e4,q _ H (bB.refl H) ?_⟩
   rw [e1,e3,pX hc.1 hc.2];rfl
  ·cases h
end
end L2
namespace L2
open PySem PySem.Spec PyProof.Rows
section
variable {K:PySem.W.Frag}{X:Cx}
theorem yk:OpR X (binaryOp .Add) (λx y H Q=>∃ l b xs zs,x=.ref l/\y=.ref b/\Rd H l (.lst xs)/\Rd H b (.lst zs)/\xs.length+zs.length<=sizeLine/\∀ p,H p=none->Q (.ref p) (upd H p (.lst (xs++zs)))):=by
 intro pins s σ H x y v u Q I rx ry h
 obtain⟨l,b,xs,zs,rfl,rfl,hH,hB,hz,q⟩:=h
 cases rx
 cases ry
 obtain⟨z,its,n,r,e⟩:=hH.ok I.hok
 obtain⟨z2,its2,n2,r2,e2⟩:=hB.ok I.hok
 have hl:=r.length
 have hl2:=r2.length
 refine PySem.P.add_list e e2 ?_ (by rw [List.size_toArray,List.size_toArray];lia)
 have ea:its.toArray++its2.toArray=(its++its2).toArray:=by simp
 rw [ea]
 exact⟨.ref _,_,I.lnew (t':=s.toks) (r.append r2) (by rw [List.length_append];lia),rfl,q _ I.fresh⟩
theorem xh:OpR X (binaryOp .Add) (λx y H Q=>∃ a b xs ys,x=.ref a/\y=.ref b/\SqT X.K H a xs/\SqT X.K H b ys/\xs.length+ys.length<=sizeLine/\
  (xs=[]->Q (.ref b) H)/\(ys=[]->Q (.ref a) H)/\∀ p,H p=none->Q (.ref p) (upd H p (.tup (xs++ys)))):=by
 intro pins s σ H x y v u Q I rx ry h
 obtain⟨a,b,xs,ys,rfl,rfl,ha,hb,hz,q0,q1,q2⟩:=h
 by_cases hx:xs=[]
 ·cases rx
  cases ry
  obtain⟨its,r1,p1,_⟩:=I.tuple ha
  obtain⟨its2,r2,p2,_⟩:=I.tuple hb
  obtain⟨⟨cls,dd,data,sl⟩,ho,hc,n,hd⟩:=id p1
  obtain⟨⟨cls2,dd2,data2,sl2⟩,ho2,hc2,n2,hd2⟩:=id p2
  simp only at hc hd hc2 hd2
  subst hc hd hc2 hd2
  exact concat_meets ⟨_,ho,rfl⟩ ⟨_,ho2,rfl⟩ noFill_tuple_add seq_tuple_add PySem.F.slot_tuple_add PySem.F.entry_tuple_add (PySem.F.args_tuple_add_2 _ _)
   (tuple_addW0 a b its.toArray its2.toArray n n2 dd dd2 sl sl2 (by simp [r1.nil_iff.mpr hx])) ⟨ho,ho2,.ref b,H,I,rfl,q0 hx⟩
 ·exact yw pins s σ H _ _ v u Q I rx ry ⟨a,b,xs,ys,rfl,rfl,ha,hb,hx,hz,q1,λ_ p hp=>q2 p hp⟩
theorem qx {st:Sto}{H:Hp}{φ:List Addr}{w:W}{v:V}{ds:List D} (S:Sr K H φ st) (r:Rw K H φ w v) (e:lsD st w=some ds):∃ a vs,v=.ref a/\Rd H a (.lst vs)/\Rls K H φ ds vs:=by
 cases w with
 | h n=>
  obtain⟨a,ea,rfl⟩:=r
  obtain⟨vs,q,rl⟩:=S.atl n a ds ea e
  exact⟨a,vs,rfl,.inl q,rl⟩
 | d x=>
  cases x with
  | lst es=>cases e;obtain⟨a,vs,rfl,h0,h1,h2⟩:=r;exact⟨a,vs,rfl,h1,h2⟩
  | _=>cases e
theorem mil:(1000000:Nat)<=sizeLine:=by rw [sizeLine_eq];decide
theorem bP (hK:X.K=K:=by rfl):OpD K X (binaryOp .Add) bH:=by
 subst hK
 refine⟨λst x y d h=>?_⟩
 have lists:(lsD st x).bind (λa=>(lsD st y).bind λb=>if a.length+b.length<=1000000 then some (.lst (a++b)) else none)=some d->OpR X (binaryOp .Add) (rD X.K st x y d):=λh=>by
  simp only [Option.bind_eq_some_iff] at h
  obtain⟨as,ha,bs,hb,h⟩:=h
  split at h
  ·rename_i hl
   cases h
   refine yk.imp ?_
   rintro vx vy H Q ⟨φ,S,r1,r2,q⟩
   obtain⟨a,us,rfl,h1,h2⟩:=qx S r1 ha
   obtain⟨b,vs,rfl,h3,h4⟩:=qx S r2 hb
   refine⟨a,b,us,vs,rfl,rfl,h1,h3,by rw [<-h2.length,<-h4.length];exact Nat.le_trans hl mil,λp hp=>q _ _ (bB.new hp _) ?_⟩
   exact⟨p,_,rfl,S.nin hp,.inl upd_same,(h2.append h4).fw S (Fw.new hp)⟩
  ·cases h
 match x,y,h with
 | .d (.int i),.d (.int j),h=>
  cases h
  refine zu.imp ?_
  rintro vx vy H Q ⟨φ,S,r1,r2,q⟩
  exact⟨i,j,r1,r2,q _ H (bB.refl H) rfl⟩
 | .d (.tup as),.d (.tup bs),h=>
  simp only [bH] at h
  split at h
  ·rename_i hl
   cases h
   refine xh.imp ?_
   rintro vx vy H Q ⟨φ,S,⟨a,us,rfl,h1,h2⟩,⟨b,vs,rfl,h3,h4⟩,q⟩
   refine⟨a,b,us,vs,rfl,rfl,(SqT.of h1),(SqT.of h3),by rw [<-h2.length,<-h4.length];exact Nat.le_trans hl mil,λe=>?_,λe=>?_,λp hp=>?_⟩
   ·subst e
    have:as=[]:=by cases as with | nil=>rfl | cons _ _=>cases h2.length
    subst this
    exact q _ H (bB.refl H) ⟨b,vs,rfl,h3,h4⟩
   ·subst e
    have:bs=[]:=by cases bs with | nil=>rfl | cons _ _=>cases h4.length
    subst this
    exact q _ H (bB.refl H) ⟨a,us,rfl,h1,by rw [List.append_nil];exact h2⟩
   ·exact q _ _ (bB.new hp _) ⟨p,_,rfl,upd_same,(h2.append h4).fw S (Fw.new hp)⟩
  ·cases h
 | .d (.str as),.d (.str bs),h=>
  simp only [bH] at h
  split at h
  ·rename_i hl
   cases h
   refine sW.imp ?_
   rintro vx vy H Q ⟨φ,S,r1,r2,q⟩
   exact⟨as,bs,r1,r2,Nat.le_trans hl mil,q _ H (bB.refl H) rfl⟩
  ·cases h
 | .d (.lst as),y,h=>exact lists (by cases y with | h n=>exact h | d y=>cases y<;>exact h)
 | .h n,y,h=>exact lists (by cases y with | h n=>exact h | d y=>cases y<;>exact h)
theorem uI:OpR X (binaryOp .Mult) (λx y H Q=>∃ l k xs,x=.ref l/\y=.int k/\Rd H l (.lst xs)/\-(2 ^ 63)<=k/\k < 2 ^ 63/\xs.length*k.toNat<=sizeLine/\
 ∀ p,H p=none->Q (.ref p) (upd H p (.lst (List.replicate k.toNat xs).flatten))):=by
 intro pins s σ H x y v u Q I rx ry h
 obtain⟨l,k,xs,rfl,rfl,hH,h1,h2,hz,q⟩:=h
 cases rx
 obtain⟨t,rfl⟩:=ry
 obtain⟨z,its,n,r,e⟩:=hH.ok I.hok
 have hl:=r.length
 have hlen:its.toArray.size*k.toNat<=sizeLine:=by rw [List.size_toArray,<-hl];exact hz
 have hcap:¬ its.toArray.size*k.toNat > (2 ^ 63 - 1) / 8:=by
  have:(sizeLine:Nat)<=(2 ^ 63 - 1) / 8:=by decide
  lia
 have hfit:¬ (!Builtin.List.listFitsIndex k)=true:=by
  rw [fitsIndex_both h1 h2]
  exact Bool.false_ne_true
 have hlong:¬ Builtin.List.listTooLong (its.toArray.size*k.toNat)=true:=by
  rw [vV hlen]
  exact Bool.false_ne_true
 have hnew:List.foldl (λx1 x2=>x1++x2) #[] (List.replicate (if its.toArray.isEmpty=true then 0 else k.toNat) its.toArray)=(List.replicate k.toNat its).flatten.toArray:=by
  have f0:∀ m:Nat,List.foldl (λx1 x2=>x1++x2) #[] (List.replicate m its.toArray)=(List.replicate m its).flatten.toArray:=λm=>by
   have:=lJ its m []
   rw [List.nil_append] at this
   exact this
  rw [f0]
  cases its with
  | nil=>simp
  | cons a r'=>rw [if_neg (by simp)]
 refine wpAny_binaryOp_repeat_ref (T:="list") (U:="int") (by decide) ⟨_,e,rfl⟩ (λs'=>typeIs_int s' k t) noFill_list_mul F.fills_int_mul F.slot_int_rmul repeat_list F.slot_int_index.lookup
  (call_meets F.slot_int_rmul (typeIs_int s k t) F.entry_int_rmul (F.args_int_rmul_2 _ _) (int___rmul___int_list k t l its.toArray n)
    ⟨e,rfl,⟨_,e,rfl⟩,call_meets F.slot_list_mul ⟨_,e,rfl⟩ F.entry_list_mul (F.args_list_mul_2 _ _) (AutoListH.list___mul___list_int_3 l its.toArray n k t hfit hcap hlong) ⟨e,?_⟩⟩)
 rw [hnew]
 exact⟨.ref _,_,I.lnew (t':=s.toks) (r.rep k.toNat) (by rw [qc,Nat.mul_comm];exact hz),rfl,q _ I.fresh⟩
theorem bR (hK:X.K=K:=by rfl):OpD K X (binaryOp .Mult) bM:=by
 subst hK
 refine⟨λst x y d h=>?_⟩
 match x,y,h with
 | .d (.int i),.d (.int j),h=>
  simp only [bM] at h
  split at h
  ·rename_i hl
   cases h
   refine yp.imp ?_
   rintro vx vy H Q ⟨φ,S,r1,r2,q⟩
   exact⟨i,j,r1,r2,hl,q _ H (bB.refl H) rfl⟩
  ·cases h
 | .d (.tup as),.d (.int k),h=>
  simp only [bM] at h
  split at h
  ·rename_i hl
   cases h
   refine xQ.imp ?_
   rintro vx vy H Q ⟨φ,S,⟨a,us,rfl,h1,h2⟩,r2,q⟩
   have hne:us≠[]:=by rintro rfl;cases as with | nil=>exact hl.1 rfl | cons _ _=>cases h2.length
   refine⟨a,k,us,rfl,r2,(SqT.of h1),hne,by rw [<-h2.length];exact hl.2.1,hl.2.2.1,hl.2.2.2,λe=>?_,λ_ p hp=>?_⟩
   ·subst e
    exact q _ H (bB.refl H) ⟨a,us,rfl,h1,by simpa using h2⟩
   ·exact q _ _ (bB.new hp _) ⟨p,_,rfl,upd_same,(h2.rep _).fw S (Fw.new hp)⟩
  ·cases h
 | .d (.lst as),.d (.int k),h=>
  simp only [bM] at h
  split at h
  ·rename_i hl
   cases h
   refine uI.imp ?_
   rintro vx vy H Q ⟨φ,S,⟨a,us,rfl,h0,h1,h2⟩,r2,q⟩
   refine⟨a,k,us,rfl,r2,h1,by lia,by lia,?_,λp hp=>?_⟩
   ·rw [<-h2.length]
    have:as.length*k.toNat<=1000*1000:=Nat.mul_le_mul hl.1 (by lia)
    exact Nat.le_trans this mil
   ·exact q _ _ (bB.new hp _) ⟨p,_,rfl,S.nin hp,.inl upd_same,(h2.rep _).fw S (Fw.new hp)⟩
  ·cases h
noncomputable def dIx (st:Sto) (x y:W):Option D:=match x,y with
 | .d (.str z),.d (.int i)=>if z.length<=1000000 then (atI z.cps.toList i).map λc=>.str ⟨#[c]⟩ else none
 | x,.d (.int i)=>(i7 st x).bind λds=>atI ds i
 | _,_=>none
theorem zD {H:Hp}{φ:List Addr}{ds:List D}{vs:List V}{i:Int}{d:D} (r:Rls K H φ ds vs) (e:atI ds i=some d):∃ v,atI vs i=some v/\Rl K H φ d v:=by
 unfold atI at e ⊢
 rw [<-r.length]
 obtain⟨j,e1,e2⟩:=Option.bind_eq_some_iff.mp e
 obtain⟨v,ev,rv⟩:=r.get e2
 exact⟨v,by rw [e1];exact ev,rv⟩
theorem IxR.imp {r r':R2} (h:IxR X r) (m:∀ x y H Q,r' x y H Q->r x y H Q):IxR X r':=λvalue slice pins s σ H x y v u Q I rx ry q hs=>h value slice pins s σ H x y v u Q I rx ry (m _ _ _ _ q) hs
theorem BH (st:Sto) (x y:W) (d:D) (h:dIx st x y=some d) (hK:X.K=K):IxR X (rD K st x y d):=by
 subst hK
 match y,h with
 | .d (.int i),h=>
  have seq:(i7 st x).bind (λds=>atI ds i)=some d->IxR X (rD X.K st x (.d (.int i)) d):=λh=>by
   obtain⟨ds,e1,e2⟩:=Option.bind_eq_some_iff.mp h
   refine sv.imp ?_
   rintro vx vy H Q ⟨φ,S,r1,r2,q⟩
   obtain⟨a,vs,rfl,h1,h2⟩:=jR S r1 e1
   obtain⟨v,ev,rv⟩:=zD h2 e2
   rcases h1 with h1 | h1
   ·exact .inl ⟨a,vs,i,v,rfl,r2,h1,ev,q _ H (bB.refl H) rv⟩
   ·exact .inr (.inl ⟨a,vs,i,v,rfl,r2,h1,ev,q _ H (bB.refl H) rv⟩)
  match x,h with
  | .d (.str z),h=>
   simp only [dIx] at h
   split at h
   ·rename_i hl
    obtain⟨c,e1,rfl⟩:=Option.map_eq_some_iff.mp h
    refine sv.imp ?_
    rintro vx vy H Q ⟨φ,S,r1,r2,q⟩
    exact .inr (.inr ⟨z,i,c,r1,r2,Nat.le_trans hl mil,e1,q _ H (bB.refl H) rfl⟩)
   ·cases h
  | .d (.tup z),h=>exact seq h
  | .d (.lst z),h=>exact seq h
  | .d (.scr z),h=>exact seq h
  | .h z,h=>exact seq h
 | .d .non,h=>cases x with | h n=>cases h | d x=>cases x<;>cases h
 | .d (.ob _ _),h=>cases x with | h n=>cases h | d x=>cases x<;>cases h
 | .d (.bl _),h=>cases x with | h n=>cases h | d x=>cases x<;>cases h
 | .d (.str _),h=>cases x with | h n=>cases h | d x=>cases x<;>cases h
 | .d (.ty _),h=>cases x with | h n=>cases h | d x=>cases x<;>cases h
 | .d (.scr _),h=>cases x with | h n=>cases h | d x=>cases x<;>cases h
 | .d .dct,h=>cases x with | h n=>cases h | d x=>cases x<;>cases h
 | .d (.tup _),h=>cases x with | h n=>cases h | d x=>cases x<;>cases h
 | .d (.lst _),h=>cases x with | h n=>cases h | d x=>cases x<;>cases h
 | .h _,h=>cases x with | h n=>cases h | d x=>cases x<;>cases h
variable {e a b:Expr}{pos p2:Pos}{f fa fb:Ef}
theorem aA (ha:IE K X a fa) (hb:IE K X b fb) (hs:pI b=true:=by rfl) (hK:X.K=K:=by rfl):IE K X (.Subscript a b pos) (iOp dIx fa fb):=by
 refine⟨λenv st r hr=>?_⟩
 simp only [iOp,Option.bind_eq_some_iff,Option.map_eq_some_iff] at hr
 obtain⟨x,hx,y,hy,d,hd,rfl⟩:=hr
 exact (yI (BH _ _ _ _ hd hK) (ha.run _ _ _ hx) (hb.run _ _ _ hy) (rK hs)).imp λσ H Q h=>pN h
abbrev Pf:=Ev->Sto->Option (Option Int×Sto)
noncomputable def iPn:Pf
 | _,st=>some (none,st)
noncomputable def Ak:W->Option Int
 | .d (.int i)=>some i
 | _=>none
theorem u1 {w:W}{i:Int} (h:Ak w=some i):w=.d (.int i):=by
 cases w with
 | h n=>cases h
 | d x=>cases x<;>first | (cases h;done) | (injection h with h;subst h;rfl)
noncomputable def iPs (f:Ef):Pf
 | env,st=>(f env st).bind λr=>(Ak r.1).map λi=>(some i,r.2)
noncomputable def tIO (K:PySem.W.Frag) (env:Ev) (st:Sto) (r:Option Int×Sto):TO:=λσ H Q=>∃ φ,Er K H φ env σ/\Sr K H φ st/\∀ H' φ',Fw φ φ' H H'->Sr K H' φ' r.2->Q r.1 H'
structure IO (K:PySem.W.Frag) (X:Cx) (e:Option Expr) (f:Pf):Prop where
 run:∀ env st r,f env st=some r->PO X e (tIO K env st r)
theorem PO.imp {e:Option Expr}{t t':TO} (h:PO X e t) (m:∀ σ H Q,t' σ H Q->t σ H Q):PO X e t':=λpins s σ H Q I q=>h pins s σ H Q I (m σ H Q q)
theorem iP:IO K X none iPn:=by
 refine⟨λenv st r hr=>?_⟩
 cases hr
 exact xZ.imp λσ H Q ⟨φ,hE,hS,q⟩=>q H φ (Fw.refl φ H) hS
theorem i4 (h:IE K X e f):IO K X (some e) (iPs f):=by
 refine⟨λenv st r hr=>?_⟩
 simp only [iPs,Option.bind_eq_some_iff,Option.map_eq_some_iff] at hr
 obtain⟨⟨x,s1⟩,hx,i,hi,rfl⟩:=hr
 cases u1 hi
 refine (xN (h.run _ _ _ hx)).imp ?_
 rintro σ H Q ⟨φ,hE,hS,q⟩
 exact⟨φ,hE,hS,λv H1 φ1 f1 s1 w1=>⟨i,w1,q H1 φ1 f1 s1⟩⟩
noncomputable def mm (xs:List D) (lo hi:Option Int):List D:=(xs.drop (HT.sIx xs.length 0 lo)).take (HT.sIx xs.length xs.length hi - HT.sIx xs.length 0 lo)
theorem ud {H:Hp}{φ:List Addr}{ds:List D}{vs:List V} (r:Rls K H φ ds vs) (lo hi:Option Int):Rls K H φ (mm ds lo hi) (pe vs lo hi):=by
 unfold mm pe
 rw [r.length]
 exact (r.drop _).take _
noncomputable def dSl (st:Sto) (x:W) (lo hi:Option Int):Option D:=match x with
 | .d (.tup ds)=>some (.tup (mm ds lo hi))
 | .d (.lst ds)=>some (.lst (mm ds lo hi))
 | .h n=>(lg st n).map λds=>.lst (mm ds lo hi)
 | .d (.scr ns)=>some (.lst (mm (ns.map D.int) lo hi))
 | _=>none
noncomputable def iSl (f:Ef) (lo hi:Pf):Ef
 | env,st=>(f env st).bind λx=>(lo env x.2).bind λl=>(hi env l.2).bind λu=>(dSl u.2 x.1 l.1 u.1).map λd=>(.d d,u.2)
theorem nV {lo hi:Option Expr}{fl fh:Pf} (h:IE K X e f) (hl:IO K X lo fl) (hh:IO K X hi fh) (hK:X.K=K:=by rfl):IE K X (.Subscript e (.Slice lo hi none p2) pos) (iSl f fl fh):=by
 subst hK
 refine⟨λenv st r hr=>?_⟩
 simp only [iSl,Option.bind_eq_some_iff,Option.map_eq_some_iff] at hr
 obtain⟨⟨x,s1⟩,hx,l,hl',u,hu',d,hd,rfl⟩:=hr
 have list:(∀ {H:Hp}{φ:List Addr}{v:V},Sr X.K H φ u.2->Rw X.K H φ x v->∃ a vs ds,v=.ref a/\SqL X.K H a vs/\Rls X.K H φ ds vs/\d=.lst (mm ds l.1 u.1))->PE X (.Subscript e (.Slice lo hi none p2) pos) (tI X.K env st (.d d,u.2)):=λhq=>by
  refine (qQ yh (h.run _ _ _ hx) (hl.run _ _ _ hl') (hh.run _ _ _ hu')).imp ?_
  rintro σ H Q ⟨φ,hE,hS,q⟩
  refine⟨φ,hE,hS,λv H1 φ1 f1 s1 w1=>⟨φ1,hE.fw hS f1,s1,λH2 φ2 f2 s2=>⟨φ2,(hE.fw hS f1).fw s1 f2,s2,λH3 φ3 f3 s3=>?_⟩⟩⟩
  obtain⟨a,vs,ds,rfl,h1,h2,rfl⟩:=hq s3 ((w1.fw s1 f2).fw s2 f3)
  refine⟨a,vs,rfl,h1,λp hp=>q _ _ φ3 (((f1.trans f2).trans f3).trans (Fw.new hp)) (s3.new hp) ?_⟩
  exact⟨p,_,rfl,s3.nin hp,.inl upd_same,(ud h2 _ _).fw s3 (Fw.new hp)⟩
 match x,hd with
 | .d (.tup ds),hd=>
  cases hd
  refine (qQ (AB (K:=X.K) rfl) (h.run _ _ _ hx) (hl.run _ _ _ hl') (hh.run _ _ _ hu')).imp ?_
  rintro σ H Q ⟨φ,hE,hS,q⟩
  refine⟨φ,hE,hS,λv H1 φ1 f1 s1 w1=>⟨φ1,hE.fw hS f1,s1,λH2 φ2 f2 s2=>⟨φ2,(hE.fw hS f1).fw s1 f2,s2,λH3 φ3 f3 s3=>?_⟩⟩⟩
  obtain⟨a,vs,rfl,h1,h2⟩:=(w1.fw s1 f2).fw s2 f3
  refine⟨a,vs,rfl,(SqT.of h1),?_⟩
  by_cases hc:HT.sIx vs.length 0 l.1=0/\HT.sIx vs.length vs.length u.1=vs.length
  ·refine .inr ⟨hc,q _ _ φ3 ((f1.trans f2).trans f3) s3 ⟨a,vs,rfl,h1,?_⟩⟩
   have e:mm ds l.1 u.1=ds:=by
    unfold mm
    rw [h2.length,hc.1,hc.2,List.drop_zero,Nat.sub_zero,<-h2.length,List.take_length]
   rw [e]
   exact h2
  ·exact .inl ⟨hc,λp hp=>q _ _ φ3 (((f1.trans f2).trans f3).trans (Fw.new hp)) (s3.new hp) ⟨p,_,rfl,upd_same,(ud h2 _ _).fw s3 (Fw.new hp)⟩⟩
 | .d (.lst ds),hd=>
  cases hd
  refine list λ{H φ v} S w=>?_
  obtain⟨a,vs,rfl,h0,h1,h2⟩:=w
  exact⟨a,vs,ds,rfl,.inl h1,h2,rfl⟩
 | .d (.scr ns),hd=>
  cases hd
  refine list λ{H φ v} S w=>?_
  obtain⟨a,rfl,h⟩:=w
  refine⟨a,_,_,rfl,?_,Rls.of_ints ns,rfl⟩
  rcases h with⟨o,h⟩ | h
  ·exact .inl (.inr ⟨o,h⟩)
  ·exact .inr h
 | .h n,hd=>
  obtain⟨ds,e1,rfl⟩:=Option.map_eq_some_iff.mp hd
  refine list λ{H φ v} S w=>?_
  obtain⟨a,ea,rfl⟩:=w
  obtain⟨vs,q,rl⟩:=S.atl n a ds ea e1
  exact⟨a,vs,ds,rfl,SqL.of q,rl,rfl⟩
end
end L2
namespace L2
open PySem PySem.Spec PyProof.Rows
section
variable {K:PySem.W.Frag}{X:Cx}{pins:List (Addr×Obj)}{σ:St}{H:Hp}{s:Shared}{φ:List Addr}{st:Sto}
theorem gy:∀ (xs ys:List D),((List.range (min xs.length ys.length)).all (λj=>eqD (xs.getD j .non) (ys.getD j .non)) && xs.length==ys.length)=jZ xs ys
 | [],[]=>rfl
 | [],y::ys=>by simp [jZ]
 | x::xs,[]=>by simp [jZ]
 | x::xs,y::ys=>by
  show ((List.range (min (xs.length+1) (ys.length+1))).all (λj=>eqD ((x::xs).getD j .non) ((y::ys).getD j .non)) && (xs.length+1==ys.length+1))=(eqD x y && jZ xs ys)
  rw [show min (xs.length+1) (ys.length+1)=min xs.length ys.length+1 by lia,mH,<-gy xs ys]
  have e:(xs.length+1==ys.length+1)=(xs.length==ys.length):=by rw [Bool.eq_iff_iff];simp
  rw [e,Bool.and_assoc]
  rfl
theorem kj {xs ys:List D} (h:xs.length=ys.length):(List.range xs.length).all (λj=>eqD (xs.getD j .non) (ys.getD j .non))=jZ xs ys:=by
 rw [<-gy xs ys,<-h,Nat.min_self];simp
theorem se:∀ {xs ys:List D},xs.length≠ys.length->jZ xs ys=false
 | [],[],h=>absurd rfl h
 | [],_::_,_=>rfl
 | _::_,[],_=>rfl
 | x::xs,y::ys,h=>by
  show (eqD x y && jZ xs ys)=false
  rw [se (by intro e;apply h;rw [List.length_cons,List.length_cons,e]),Bool.and_false]
theorem yr (I:Inv X pins σ H s) {a:Addr}{vs ws:List V} (h:Rd H a (.lst vs)) (h':Rd H a (.lst ws)):vs=ws:=I.list_inj (.inl h) (.inl h')
theorem uL (I:Inv X pins σ H s):∀ (n:Nat) {d e:D}{v:V},Rl X.K H φ d v->Rl X.K H φ e v->okD n d=true->okD n e=true->eqD d e=true:=by
 intro n
 induction n with
 | zero=>
  intro d e v r1 r2 o1 o2
  cases d<;>first | (cases o1;done) | skip
  all_goals (cases e<;>first | (cases o2;done) | skip)
  all_goals (first | rfl | (cases r1.symm.trans r2;done) | (cases r1.symm.trans r2;simp [eqD]))
 | succ n ih=>
  have lists:∀ {ds es:List D}{vs:List V},Rls X.K H φ ds vs->Rls X.K H φ es vs->(∀ d ∈ ds,okD n d=true)->(∀ d ∈ es,okD n d=true)->jZ ds es=true:=by
   intro ds
   induction ds with
   | nil=>
    intro es vs r1 r2 _ _
    cases r1
    cases es with
    | nil=>rfl
    | cons e es=>obtain⟨_,_,q,_⟩:=r2;cases q
   | cons d ds ihd=>
    intro es vs r1 r2 o1 o2
    obtain⟨v,r,rfl,a1,a2⟩:=r1
    cases es with
    | nil=>cases r2
    | cons e es=>
     obtain⟨v',r',q,b1,b2⟩:=r2
     cases q
     show (eqD d e && jZ ds es)=true
     rw [ih a1 b1 (o1 d List.mem_cons_self) (o2 e List.mem_cons_self),ihd a2 b2 (λx hx=>o1 x (List.mem_cons_of_mem _ hx)) (λx hx=>o2 x (List.mem_cons_of_mem _ hx))]
     rfl
  intro d e v r1 r2 o1 o2
  cases d with
  | tup ds=>
   obtain⟨a,vs,rfl,h1,h2⟩:=r1
   cases e with
   | tup es=>
    obtain⟨b,us,q,h3,h4⟩:=r2
    cases q
    rw [I.tuple_inj (SqT.of h3) (SqT.of h1)] at h4
    exact lists h2 h4 (List.all_eq_true.mp o1) (List.all_eq_true.mp o2)
   | lst es=>
    obtain⟨b,us,q,_,h3,h4⟩:=r2
    cases q
    obtain⟨_,_,p1,_⟩:=I.tuple (SqT.of h1)
    obtain⟨_,_,p2,_⟩:=I.list (.inl h3)
    exact absurd rfl (SeqAt.ne_of_list_tuple p2.isList p1)
   | _=>first | (cases o2;done) | (cases r2;done)
  | lst ds=>
   obtain⟨a,vs,rfl,h0,h1,h2⟩:=r1
   cases e with
   | lst es=>
    obtain⟨b,us,q,_,h3,h4⟩:=r2
    cases q
    rw [yr I h3 h1] at h4
    exact lists h2 h4 (List.all_eq_true.mp o1) (List.all_eq_true.mp o2)
   | tup es=>
    obtain⟨b,us,q,h3,h4⟩:=r2
    cases q
    obtain⟨_,_,p1,_⟩:=I.tuple (SqT.of h3)
    obtain⟨_,_,p2,_⟩:=I.list (.inl h1)
    exact absurd rfl (SeqAt.ne_of_list_tuple p2.isList p1)
   | _=>first | (cases o2;done) | (cases r2;done)
  | non=>cases e<;>first | rfl | (cases o2;done) | (cases r1.symm.trans r2;done) | (cases r1;obtain⟨_,_,q,_⟩:=r2;cases q)
  | bl b=>cases e<;>first | (cases o2;done) | (cases r1.symm.trans r2;simp [eqD];done) | (cases r1.symm.trans r2;done) | (cases r1;obtain⟨_,_,q,_⟩:=r2;cases q)
  | int b=>cases e<;>first | (cases o2;done) | (cases r1.symm.trans r2;simp [eqD];done) | (cases r1.symm.trans r2;done) | (cases r1;obtain⟨_,_,q,_⟩:=r2;cases q)
  | str b=>cases e<;>first | (cases o2;done) | (cases r1.symm.trans r2;simp [eqD];done) | (cases r1.symm.trans r2;done) | (cases r1;obtain⟨_,_,q,_⟩:=r2;cases q)
  | ty b=>cases o1
  | scr b=>cases o1
  | dct=>cases o1
  | ob _ _=>cases o1
theorem gv {ds:List D}{vs:List V}{us:List Value} (r:Rls K H φ ds vs) (rv:aV vs us):∀ (j:Nat) (h:j < us.length),∃ v,Rl K H φ (ds.getD j .non) v/\bJ v us[j]/\ds.getD j .non ∈ ds:=by
 intro j h
 obtain⟨h',q⟩:=rv.at j h
 have hd:j < ds.length:=by rw [r.length];exact h'
 have e:ds[j]?=some ds[j]:=List.getElem?_eq_getElem hd
 obtain⟨v,ev,rl⟩:=r.get e
 rw [List.getElem?_eq_getElem h'] at ev
 cases ev
 refine⟨_,?_,q,?_⟩
 ·rw [List.getD,e];exact rl
 ·rw [List.getD,e];exact List.getElem_mem hd
theorem zN (I:Inv X pins σ H s):∀ (n:Nat) {A:Around}{d e:D}{v u:V}{vv uu:Value},Rl X.K H φ d v->Rl X.K H φ e u->bJ v vv->bJ u uu->okD n d=true->okD n e=true->A.units+n < cLine->SeqAt.EqAt A s vv uu (eqD d e):=by
 have flat:∀ {A:Around}{d e:D}{v u:V}{vv uu:Value},eL d=true->eL e=true->Rl X.K H φ d v->Rl X.K H φ e u->bJ v vv->bJ u uu->SeqAt.EqAt A s vv uu (eqD d e):=by
  intro A d e v u vv uu f1 f2 r1 r2 q1 q2
  obtain⟨e1,g1⟩:=jc f1 r1
  obtain⟨e2,g2⟩:=jc f2 r2
  rw [<-pj f1 f2,<-e1,<-e2]
  exact wa q1 q2 g1 g2
 intro n
 induction n with
 | zero=>
  intro A d e v u vv uu r1 r2 q1 q2 o1 o2 hu
  refine flat ?_ ?_ r1 r2 q1 q2
  ·cases d<;>first | rfl | cases o1
  ·cases e<;>first | rfl | cases o2
 | succ n ih=>
  intro A d e v u vv uu r1 r2 q1 q2 o1 o2 hu
  have hu0:A.units < cLine:=by lia
  have hu1:A.in1.units+n < cLine:=by show A.units+1+n < cLine;lia
  cases d with
  | tup ds=>
   obtain⟨a,vs,rfl,h1,h2⟩:=r1
   cases q1
   obtain⟨its,rv,p1,_⟩:=I.tuple (SqT.of h1)
   cases e with
   | tup es=>
    obtain⟨b,us,rfl,h3,h4⟩:=id r2
    cases q2
    by_cases hab:a=b
    ·subst hab
     rw [uL I (n+1) (d:=.tup ds) ⟨a,vs,rfl,h1,h2⟩ r2 o1 o2]
     exact SeqAt.EqAt.same _
    ·obtain⟨its2,rv2,p2,_⟩:=I.tuple (SqT.of h3)
     have z:=SeqAt.RcAt.tuples (A:=A) (e:=λj=>eqD (ds.getD j .non) (es.getD j .non)) p1 p2 hu0 λj g1 g2=>by
      obtain⟨v1,k1,k2,k3⟩:=gv h2 rv j (by simpa using g1)
      obtain⟨v2,k4,k5,k6⟩:=gv h4 rv2 j (by simpa using g2)
      exact ih k1 k4 (by simpa using k2) (by simpa using k5) (List.all_eq_true.mp o1 _ k3) (List.all_eq_true.mp o2 _ k6) hu1
     have e1:its.toArray.size=ds.length:=by simp [<-rv.length,h2.length]
     have e2:its2.toArray.size=es.length:=by simp [<-rv2.length,h4.length]
     rw [e1,e2,gy] at z
     exact SeqAt.EqAt.of_refs hab z
   | lst es=>
    obtain⟨b,us,rfl,_,h3,h4⟩:=id r2
    cases q2
    obtain⟨its2,rv2,p2,_⟩:=I.list (.inl h3)
    exact SeqAt.EqAt.tuple_list p1 p2.isList hu0
   | non=>cases r2;cases q2;exact SeqAt.EqAt.tuple_none p1 hu0
   | bl x=>cases r2;cases q2;exact SeqAt.EqAt.tuple_bool x p1 hu0
   | int x=>cases r2;obtain⟨t,rfl⟩:=q2;exact SeqAt.EqAt.tuple_int x t p1 hu0
   | str x=>cases r2;obtain⟨t,rfl⟩:=q2;exact SeqAt.EqAt.tuple_str x t p1 hu0
   | ty _=>cases o2
   | scr _=>cases o2
   | dct=>cases o2
   | ob _ _=>cases o2
  | lst ds=>
   obtain⟨a,vs,rfl,h0,h1,h2⟩:=r1
   cases q1
   obtain⟨its,rv,p1,_⟩:=I.list (.inl h1)
   cases e with
   | lst es=>
    obtain⟨b,us,rfl,_,h3,h4⟩:=id r2
    cases q2
    by_cases hab:a=b
    ·subst hab
     rw [uL I (n+1) (d:=.lst ds) ⟨a,vs,rfl,h0,h1,h2⟩ r2 o1 o2]
     exact SeqAt.EqAt.same _
    ·obtain⟨its2,rv2,p2,_⟩:=I.list (.inl h3)
     have e1:its.toArray.size=ds.length:=by simp [<-rv.length,h2.length]
     have e2:its2.toArray.size=es.length:=by simp [<-rv2.length,h4.length]
     by_cases hl:ds.length=es.length
     ·have z:=SeqAt.RcAt.lists (A:=A) (e:=λj=>eqD (ds.getD j .non) (es.getD j .non)) p1.isList p2.isList (by rw [e1,e2,hl]) hu0 λj g1 g2=>by
       obtain⟨v1,k1,k2,k3⟩:=gv h2 rv j (by simpa using g1)
       obtain⟨v2,k4,k5,k6⟩:=gv h4 rv2 j (by simpa using g2)
       exact ih k1 k4 (by simpa using k2) (by simpa using k5) (List.all_eq_true.mp o1 _ k3) (List.all_eq_true.mp o2 _ k6) hu1
      rw [e1,kj hl] at z
      exact SeqAt.EqAt.of_refs hab z
     ·have z:=SeqAt.RcAt.lists_lengths (A:=A) p1.isList p2.isList (by rw [e1,e2];simpa using hl) hu0
      show SeqAt.EqAt A s _ _ (jZ ds es)
      rw [se hl]
      exact SeqAt.EqAt.of_refs hab z
   | tup es=>
    obtain⟨b,us,rfl,h3,h4⟩:=id r2
    cases q2
    obtain⟨its2,rv2,p2,_⟩:=I.tuple (SqT.of h3)
    exact SeqAt.EqAt.list_tuple p1.isList p2 hu0
   | non=>cases r2;cases q2;exact SeqAt.EqAt.list_none p1.isList hu0
   | bl x=>cases r2;cases q2;exact SeqAt.EqAt.list_bool x p1.isList hu0
   | int x=>cases r2;obtain⟨t,rfl⟩:=q2;exact SeqAt.EqAt.list_int x t p1.isList hu0
   | str x=>cases r2;obtain⟨t,rfl⟩:=q2;exact SeqAt.EqAt.list_str x t p1.isList hu0
   | ty _=>cases o2
   | scr _=>cases o2
   | dct=>cases o2
   | ob _ _=>cases o2
  | non=>
   cases r1;cases q1
   cases e with
   | tup es=>obtain⟨b,us,rfl,h3,h4⟩:=r2;cases q2;obtain⟨_,_,p2,_⟩:=I.tuple (SqT.of h3);exact SeqAt.EqAt.none_tuple p2 hu0
   | lst es=>obtain⟨b,us,rfl,_,h3,h4⟩:=r2;cases q2;obtain⟨_,_,p2,_⟩:=I.list (.inl h3);exact SeqAt.EqAt.none_list p2.isList hu0
   | _=>first | (cases o2;done) | exact flat rfl rfl (d:=.non) rfl r2 (v:=.non) rfl q2
  | bl x=>
   cases r1;cases q1
   cases e with
   | tup es=>obtain⟨b,us,rfl,h3,h4⟩:=r2;cases q2;obtain⟨_,_,p2,_⟩:=I.tuple (SqT.of h3);exact SeqAt.EqAt.bool_tuple x p2 hu0
   | lst es=>obtain⟨b,us,rfl,_,h3,h4⟩:=r2;cases q2;obtain⟨_,_,p2,_⟩:=I.list (.inl h3);exact SeqAt.EqAt.bool_list x p2.isList hu0
   | _=>first | (cases o2;done) | exact flat rfl rfl (d:=.bl x) rfl r2 (v:=.bl x) rfl q2
  | int x=>
   cases r1;obtain⟨t1,rfl⟩:=q1
   cases e with
   | tup es=>obtain⟨b,us,rfl,h3,h4⟩:=r2;cases q2;obtain⟨_,_,p2,_⟩:=I.tuple (SqT.of h3);exact SeqAt.EqAt.int_tuple x t1 p2 hu0
   | lst es=>obtain⟨b,us,rfl,_,h3,h4⟩:=r2;cases q2;obtain⟨_,_,p2,_⟩:=I.list (.inl h3);exact SeqAt.EqAt.int_list x t1 p2.isList hu0
   | _=>first | (cases o2;done) | exact flat rfl rfl (d:=.int x) rfl r2 (v:=.int x) ⟨t1,rfl⟩ q2
  | str x=>
   cases r1;obtain⟨t1,rfl⟩:=q1
   cases e with
   | tup es=>obtain⟨b,us,rfl,h3,h4⟩:=r2;cases q2;obtain⟨_,_,p2,_⟩:=I.tuple (SqT.of h3);exact SeqAt.EqAt.str_tuple x t1 p2 hu0
   | lst es=>obtain⟨b,us,rfl,_,h3,h4⟩:=r2;cases q2;obtain⟨_,_,p2,_⟩:=I.list (.inl h3);exact SeqAt.EqAt.str_list x t1 p2.isList hu0
   | _=>first | (cases o2;done) | exact flat rfl rfl (d:=.str x) rfl r2 (v:=.str x) ⟨t1,rfl⟩ q2
  | ty _=>cases o1
  | scr _=>cases o1
  | dct=>cases o1
  | ob _ _=>cases o1
theorem zx {A:Around}{y x:V}{u v:Value} (ry:bJ y u) (rx:bJ x v) (fy:ij y=true) (fx:ij x=true):SeqAt.RcAt A s u v (eqV y x):=by
 cases y with
 | non=>
  cases ry
  cases x with
  | non=>cases rx;exact SeqAt.RcAt.none_none
  | bl b=>cases rx;exact SeqAt.RcAt.none_bool b
  | int b=>obtain⟨t,rfl⟩:=rx;exact SeqAt.RcAt.none_int b t
  | str b=>obtain⟨t,rfl⟩:=rx;exact SeqAt.RcAt.none_str b t
  | _=>cases fx
 | bl a=>
  cases ry
  cases x with
  | non=>cases rx;exact SeqAt.RcAt.bool_none a
  | bl b=>cases rx;exact SeqAt.RcAt.bool_bool a b
  | int b=>obtain⟨t,rfl⟩:=rx;exact SeqAt.RcAt.bool_int a b t
  | str b=>obtain⟨t,rfl⟩:=rx;exact SeqAt.RcAt.bool_str a b t
  | _=>cases fx
 | int a=>
  obtain⟨t',rfl⟩:=ry
  cases x with
  | non=>cases rx;exact SeqAt.RcAt.int_none a t'
  | bl b=>cases rx;exact SeqAt.RcAt.int_bool a t' b
  | int b=>obtain⟨t,rfl⟩:=rx;exact SeqAt.RcAt.int_int a t' b t
  | str b=>obtain⟨t,rfl⟩:=rx;exact SeqAt.RcAt.int_str a t' b t
  | _=>cases fx
 | str a=>
  obtain⟨t',rfl⟩:=ry
  cases x with
  | non=>cases rx;exact SeqAt.RcAt.str_none a t'
  | bl b=>cases rx;exact SeqAt.RcAt.str_bool a t' b
  | int b=>obtain⟨t,rfl⟩:=rx;exact SeqAt.RcAt.str_int a t' b t
  | str b=>obtain⟨t,rfl⟩:=rx;exact SeqAt.RcAt.str_str a t' b t
  | _=>cases fx
 | _=>cases fy
theorem wF {A:Around}{y x:V}{u v:Value} (ry:bJ y u) (rx:bJ x v) (fy:ij y=true) (fx:ij x=true):SeqAt.RcNeAt A s u v (!eqV y x):=by
 cases y with
 | non=>
  cases ry
  cases x with
  | non=>cases rx;exact SeqAt.RcNeAt.none_none
  | bl b=>cases rx;exact SeqAt.RcNeAt.none_bool b
  | int b=>obtain⟨t,rfl⟩:=rx;exact SeqAt.RcNeAt.none_int b t
  | str b=>obtain⟨t,rfl⟩:=rx;exact SeqAt.RcNeAt.none_str b t
  | _=>cases fx
 | bl a=>
  cases ry
  cases x with
  | non=>cases rx;exact SeqAt.RcNeAt.bool_none a
  | bl b=>cases rx;exact SeqAt.RcNeAt.bool_bool a b
  | int b=>obtain⟨t,rfl⟩:=rx;exact SeqAt.RcNeAt.bool_int a b t
  | str b=>obtain⟨t,rfl⟩:=rx;exact SeqAt.RcNeAt.bool_str a b t
  | _=>cases fx
 | int a=>
  obtain⟨t',rfl⟩:=ry
  cases x with
  | non=>cases rx;exact SeqAt.RcNeAt.int_none a t'
  | bl b=>cases rx;exact SeqAt.RcNeAt.int_bool a t' b
  | int b=>obtain⟨t,rfl⟩:=rx;exact SeqAt.RcNeAt.int_int a t' b t
  | str b=>obtain⟨t,rfl⟩:=rx;exact SeqAt.RcNeAt.int_str a t' b t
  | _=>cases fx
 | str a=>
  obtain⟨t',rfl⟩:=ry
  cases x with
  | non=>cases rx;exact SeqAt.RcNeAt.str_none a t'
  | bl b=>cases rx;exact SeqAt.RcNeAt.str_bool a t' b
  | int b=>obtain⟨t,rfl⟩:=rx;exact SeqAt.RcNeAt.str_int a t' b t
  | str b=>obtain⟨t,rfl⟩:=rx;exact SeqAt.RcNeAt.str_str a t' b t
  | _=>cases fx
 | _=>cases fy
inductive Kin where
 | fl (d:D) | tp (ds:List D) | ls (ds:List D)
noncomputable def qF (st:Sto):W->Option Kin
 | .d (.tup ds)=>some (.tp ds)
 | .d (.lst ds)=>some (.ls ds)
 | .h n=>(lg st n).map .ls
 | .d .non=>some (.fl .non)
 | .d (.bl b)=>some (.fl (.bl b))
 | .d (.int i)=>some (.fl (.int i))
 | .d (.str x)=>some (.fl (.str x))
 | _=>none
noncomputable def eqK:Kin->Kin->Option Bool
 | .fl a,.fl b=>some (eqD a b)
 | .tp as,.tp bs=>if (as.isEmpty || bs.isEmpty)=true then some (as.isEmpty && bs.isEmpty) else if as.all (okD 60)=true/\bs.all (okD 60)=true then some (jZ as bs) else none
 | .ls as,.ls bs=>if as.length=bs.length then (if as.all (okD 60)=true/\bs.all (okD 60)=true then some (jZ as bs) else none) else some false
 | .fl _,.tp _=>some false
 | .tp _,.fl _=>some false
 | .fl _,.ls _=>some false
 | .ls _,.fl _=>some false
 | .tp _,.ls _=>some false
 | .ls _,.tp _=>some false
noncomputable def dEq (st:Sto) (x y:W):Option D:=(qF st x).bind λa=>(qF st y).bind λb=>(eqK a b).map λk=>.bl k
noncomputable def dNe (st:Sto) (x y:W):Option D:=(qF st x).bind λa=>(qF st y).bind λb=>(eqK a b).map λk=>.bl (!k)
noncomputable def z7 (K:PySem.W.Frag) (H:Hp) (φ:List Addr):Kin->V->Prop
 | .fl d,v=>eL d=true/\Rl K H φ d v
 | .tp ds,v=>∃ a vs,v=.ref a/\SqT K H a vs/\Rls K H φ ds vs
 | .ls ds,v=>∃ a vs,v=.ref a/\Rd H a (.lst vs)/\Rls K H φ ds vs
theorem mB {w:W}{v:V}{k:Kin} (S:Sr K H φ st) (r:Rw K H φ w v) (e:qF st w=some k):z7 K H φ k v:=by
 cases w with
 | h n=>
  obtain⟨a,ea,rfl⟩:=r
  obtain⟨ds,e1,rfl⟩:=Option.map_eq_some_iff.mp e
  obtain⟨vs,q,rl⟩:=S.atl n a ds ea e1
  exact⟨a,vs,rfl,.inl q,rl⟩
 | d x=>
  cases x with
  | tup es=>cases e;obtain⟨a,vs,rfl,h1,h2⟩:=r;exact⟨a,vs,rfl,SqT.of h1,h2⟩
  | lst es=>cases e;obtain⟨a,vs,rfl,h0,h1,h2⟩:=r;exact⟨a,vs,rfl,h1,h2⟩
  | non=>cases e;exact⟨rfl,r⟩
  | bl b=>cases e;exact⟨rfl,r⟩
  | int b=>cases e;exact⟨rfl,r⟩
  | str b=>cases e;exact⟨rfl,r⟩
  | _=>cases e
theorem zf {A:Around}{k:Nat} (hr:dY k A):A.in1.units+60 < cLine:=by
 have:=hr.un
 show A.units+1+60 < cLine
 lia
theorem wZ {k:Nat} (hr:dY k X.A) (I:Inv X pins σ H s) {a b:Kin}{v u:V}{vv uu:Value}{r:Bool} (ra:z7 X.K H φ a v) (rb:z7 X.K H φ b u) (qa:bJ v vv) (qb:bJ u uu) (e:eqK a b=some r) :
  SeqAt.RcAt X.A s vv uu r/\SeqAt.RcNeAt X.A s vv uu (!r):=by
 have hu0:=hr.units0
 have items:∀ {ds es:List D}{vs us:List V}{its its2:List Value},Rls X.K H φ ds vs->Rls X.K H φ es us->aV vs its->aV us its2->ds.all (okD 60)=true->es.all (okD 60)=true->
   ∀ j (g1:j < its.toArray.size) (g2:j < its2.toArray.size),SeqAt.EqAt X.A.in1 s its.toArray[j] its2.toArray[j] (eqD (ds.getD j .non) (es.getD j .non)):=by
  intro ds es vs us its its2 h2 h4 rv rv2 o1 o2 j g1 g2
  obtain⟨v1,k1,k2,k3⟩:=gv h2 rv j (by simpa using g1)
  obtain⟨v2,k4,k5,k6⟩:=gv h4 rv2 j (by simpa using g2)
  exact zN I 60 k1 k4 (by simpa using k2) (by simpa using k5) (List.all_eq_true.mp o1 _ k3) (List.all_eq_true.mp o2 _ k6) (zf hr)
 match a,b,e with
 | .fl d,.fl d',e=>
  cases e
  obtain⟨f1,r1⟩:=ra
  obtain⟨f2,r2⟩:=rb
  obtain⟨e1,g1⟩:=jc f1 r1
  obtain⟨e2,g2⟩:=jc f2 r2
  rw [<-pj f1 f2,<-e1,<-e2]
  exact⟨zx qa qb g1 g2,wF qa qb g1 g2⟩
 | .tp ds,.tp es,e=>
  simp only [eqK] at e
  obtain⟨a,vs,rfl,h1,h2⟩:=ra
  obtain⟨b,us,rfl,h3,h4⟩:=rb
  cases qa;cases qb
  obtain⟨its,rv,p1,_⟩:=I.tuple h1
  obtain⟨its2,rv2,p2,_⟩:=I.tuple h3
  have e1:its.toArray.size=ds.length:=by simp [<-rv.length,h2.length]
  have e2:its2.toArray.size=es.length:=by simp [<-rv2.length,h4.length]
  split at e
  ·rename_i hc
   cases e
   have hv:∀ j (g1:j < its.toArray.size) (g2:j < its2.toArray.size),SeqAt.EqAt X.A.in1 s its.toArray[j] its2.toArray[j] (eqD (ds.getD j .non) (es.getD j .non)):=λj g1 g2=>by
    rw [e1] at g1
    rw [e2] at g2
    rw [Bool.or_eq_true] at hc
    rcases hc with hc | hc
    ·rw [List.isEmpty_iff.mp hc] at g1;exact absurd g1 (Nat.not_lt_zero _)
    ·rw [List.isEmpty_iff.mp hc] at g2;exact absurd g2 (Nat.not_lt_zero _)
   have z:=SeqAt.RcAt.tuples (A:=X.A) p1 p2 hu0 hv
   have z':=SeqAt.RcNeAt.tuples (A:=X.A) p1 p2 hu0 hv
   rw [e1,e2,gy] at z z'
   have e3:jZ ds es=(ds.isEmpty && es.isEmpty):=by
    cases ds with
    | nil=>cases es<;>rfl
    | cons _ _=>cases es with
     | nil=>rfl
     | cons _ _=>cases hc
   rw [e3] at z z'
   exact⟨z,z'⟩
  ·split at e
   ·rename_i hc
    cases e
    have z:=SeqAt.RcAt.tuples (A:=X.A) p1 p2 hu0 (items h2 h4 rv rv2 hc.1 hc.2)
    have z':=SeqAt.RcNeAt.tuples (A:=X.A) p1 p2 hu0 (items h2 h4 rv rv2 hc.1 hc.2)
    rw [e1,e2,gy] at z z'
    exact⟨z,z'⟩
   ·cases e
 | .ls ds,.ls es,e=>
  simp only [eqK] at e
  obtain⟨a,vs,rfl,h1,h2⟩:=ra
  obtain⟨b,us,rfl,h3,h4⟩:=rb
  cases qa;cases qb
  obtain⟨its,rv,p1,_⟩:=I.list (.inl h1)
  obtain⟨its2,rv2,p2,_⟩:=I.list (.inl h3)
  have e1:its.toArray.size=ds.length:=by simp [<-rv.length,h2.length]
  have e2:its2.toArray.size=es.length:=by simp [<-rv2.length,h4.length]
  split at e
  ·rename_i hl
   split at e
   ·rename_i hc
    cases e
    have z:=SeqAt.RcAt.lists (A:=X.A) p1.isList p2.isList (by rw [e1,e2,hl]) hu0 (items h2 h4 rv rv2 hc.1 hc.2)
    have z':=SeqAt.RcNeAt.lists (A:=X.A) p1.isList p2.isList (by rw [e1,e2,hl]) hu0 (items h2 h4 rv rv2 hc.1 hc.2)
    rw [e1,kj hl] at z z'
    exact⟨z,z'⟩
   ·cases e
  ·rename_i hl
   cases e
   have z:=SeqAt.RcAt.lists_lengths (A:=X.A) p1.isList p2.isList (by rw [e1,e2];simpa using hl) hu0
   have z':=SeqAt.RcNeAt.lists_lengths (A:=X.A) p1.isList p2.isList (by rw [e1,e2];simpa using hl) hu0
   exact⟨z,z'⟩
 | .fl d,.tp es,e=>
  cases e
  obtain⟨f1,r1⟩:=ra
  obtain⟨b,us,rfl,h3,h4⟩:=rb
  cases qb
  obtain⟨its2,rv2,p2,_⟩:=I.tuple h3
  cases d with
  | non=>cases r1;cases qa;exact⟨SeqAt.RcAt.none_tuple p2 hu0,SeqAt.RcNeAt.none_tuple p2 hu0⟩
  | bl x=>cases r1;cases qa;exact⟨SeqAt.RcAt.bool_tuple x p2 hu0,SeqAt.RcNeAt.bool_tuple x p2 hu0⟩
  | int x=>cases r1;obtain⟨t,rfl⟩:=qa;exact⟨SeqAt.RcAt.int_tuple x t p2 hu0,SeqAt.RcNeAt.int_tuple x t p2 hu0⟩
  | str x=>cases r1;obtain⟨t,rfl⟩:=qa;exact⟨SeqAt.RcAt.str_tuple x t p2 hu0,SeqAt.RcNeAt.str_tuple x t p2 hu0⟩
  | _=>cases f1
 | .tp es,.fl d,e=>
  cases e
  obtain⟨f1,r1⟩:=rb
  obtain⟨b,us,rfl,h3,h4⟩:=ra
  cases qa
  obtain⟨its2,rv2,p2,_⟩:=I.tuple h3
  cases d with
  | non=>cases r1;cases qb;exact⟨SeqAt.RcAt.tuple_none p2 hu0,SeqAt.RcNeAt.tuple_none p2 hu0⟩
  | bl x=>cases r1;cases qb;exact⟨SeqAt.RcAt.tuple_bool x p2 hu0,SeqAt.RcNeAt.tuple_bool x p2 hu0⟩
  | int x=>cases r1;obtain⟨t,rfl⟩:=qb;exact⟨SeqAt.RcAt.tuple_int x t p2 hu0,SeqAt.RcNeAt.tuple_int x t p2 hu0⟩
  | str x=>cases r1;obtain⟨t,rfl⟩:=qb;exact⟨SeqAt.RcAt.tuple_str x t p2 hu0,SeqAt.RcNeAt.tuple_str x t p2 hu0⟩
  | _=>cases f1
 | .fl d,.ls es,e=>
  cases e
  obtain⟨f1,r1⟩:=ra
  obtain⟨b,us,rfl,h3,h4⟩:=rb
  cases qb
  obtain⟨its2,rv2,p2,_⟩:=I.list (.inl h3)
  replace p2:=p2.isList
  cases d with
  | non=>cases r1;cases qa;exact⟨SeqAt.RcAt.none_list p2 hu0,SeqAt.RcNeAt.none_list p2 hu0⟩
  | bl x=>cases r1;cases qa;exact⟨SeqAt.RcAt.bool_list x p2 hu0,SeqAt.RcNeAt.bool_list x p2 hu0⟩
  | int x=>cases r1;obtain⟨t,rfl⟩:=qa;exact⟨SeqAt.RcAt.int_list x t p2 hu0,SeqAt.RcNeAt.int_list x t p2 hu0⟩
  | str x=>cases r1;obtain⟨t,rfl⟩:=qa;exact⟨SeqAt.RcAt.str_list x t p2 hu0,SeqAt.RcNeAt.str_list x t p2 hu0⟩
  | _=>cases f1
 | .ls es,.fl d,e=>
  cases e
  obtain⟨f1,r1⟩:=rb
  obtain⟨b,us,rfl,h3,h4⟩:=ra
  cases qa
  obtain⟨its2,rv2,p2,_⟩:=I.list (.inl h3)
  replace p2:=p2.isList
  cases d with
  | non=>cases r1;cases qb;exact⟨SeqAt.RcAt.list_none p2 hu0,SeqAt.RcNeAt.list_none p2 hu0⟩
  | bl x=>cases r1;cases qb;exact⟨SeqAt.RcAt.list_bool x p2 hu0,SeqAt.RcNeAt.list_bool x p2 hu0⟩
  | int x=>cases r1;obtain⟨t,rfl⟩:=qb;exact⟨SeqAt.RcAt.list_int x t p2 hu0,SeqAt.RcNeAt.list_int x t p2 hu0⟩
  | str x=>cases r1;obtain⟨t,rfl⟩:=qb;exact⟨SeqAt.RcAt.list_str x t p2 hu0,SeqAt.RcNeAt.list_str x t p2 hu0⟩
  | _=>cases f1
 | .tp ds,.ls es,e=>
  cases e
  obtain⟨a,vs,rfl,h1,h2⟩:=ra
  obtain⟨b,us,rfl,h3,h4⟩:=rb
  cases qa;cases qb
  obtain⟨its,rv,p1,_⟩:=I.tuple h1
  obtain⟨its2,rv2,p2,_⟩:=I.list (.inl h3)
  exact⟨SeqAt.RcAt.tuple_list p1 p2.isList hu0,SeqAt.RcNeAt.tuple_list p1 p2.isList hu0⟩
 | .ls ds,.tp es,e=>
  cases e
  obtain⟨a,vs,rfl,h1,h2⟩:=ra
  obtain⟨b,us,rfl,h3,h4⟩:=rb
  cases qa;cases qb
  obtain⟨its,rv,p1,_⟩:=I.list (.inl h1)
  obtain⟨its2,rv2,p2,_⟩:=I.tuple h3
  exact⟨SeqAt.RcAt.list_tuple p1.isList p2 hu0,SeqAt.RcNeAt.list_tuple p1.isList p2 hu0⟩
theorem iK {k:Nat} (hr:dY k X.A) (hK:X.K=K:=by rfl):OpD K X (compareOp .Eq) dEq:=by
 subst hK
 refine⟨λst x y d h=>?_⟩
 simp only [dEq,Option.bind_eq_some_iff,Option.map_eq_some_iff] at h
 obtain⟨a,ha,b,hb,r,e,rfl⟩:=h
 intro pins s σ H vx vy v u Q I rx ry q
 obtain⟨φ,S,r1,r2,q⟩:=q
 exact (wZ hr I (mB S r1 ha) (mB S r2 hb) rx ry e).1 _ _ _ _ ⟨.bl r,H,I,rfl,q _ H (bB.refl H) rfl⟩
theorem oX {k:Nat} (hr:dY k X.A) (hK:X.K=K:=by rfl):OpD K X (compareOp .NotEq) dNe:=by
 subst hK
 refine⟨λst x y d h=>?_⟩
 simp only [dNe,Option.bind_eq_some_iff,Option.map_eq_some_iff] at h
 obtain⟨a,ha,b,hb,r,e,rfl⟩:=h
 intro pins s σ H vx vy v u Q I rx ry q
 obtain⟨φ,S,r1,r2,q⟩:=q
 exact (wZ hr I (mB S r1 ha) (mB S r2 hb) rx ry e).2 _ _ _ _ ⟨.bl (!r),H,I,rfl,q _ H (bB.refl H) rfl⟩
end
end L2
namespace L2
open PySem PySem.Spec PyProof.Rows
section
variable {K:PySem.W.Frag}{X:Cx}
noncomputable def jO:List D->Option (List Int)
 | []=>some []
 | .int i::ds=>(jO ds).map λr=>i::r
 | _=>none
theorem jL:∀ {ds:List D}{ns:List Int},jO ds=some ns->ds=ns.map D.int
 | [],_,h=>by cases h;rfl
 | .int i::ds,_,h=>by
  obtain⟨r,e,rfl⟩:=Option.map_eq_some_iff.mp h
  rw [jL e];rfl
 | .non::_,_,h=>by cases h
 | .bl _::_,_,h=>by cases h
 | .str _::_,_,h=>by cases h
 | .ty _::_,_,h=>by cases h
 | .dct::_,_,h=>by cases h
 | .scr _::_,_,h=>by cases h
 | .tup _::_,_,h=>by cases h
 | .lst _::_,_,h=>by cases h
theorem kD:∀ (ns:List Int),jO (ns.map D.int)=some ns
 | []=>rfl
 | n::ns=>by rw [List.map_cons,jO,kD ns];rfl
noncomputable def jH:List D->Option (List Bool)
 | []=>some []
 | .bl i::ds=>(jH ds).map λr=>i::r
 | _=>none
theorem ju:∀ {ds:List D}{ns:List Bool},jH ds=some ns->ds=ns.map D.bl
 | [],_,h=>by cases h;rfl
 | .bl i::ds,_,h=>by
  obtain⟨r,e,rfl⟩:=Option.map_eq_some_iff.mp h
  rw [ju e];rfl
 | .non::_,_,h=>by cases h
 | .int _::_,_,h=>by cases h
 | .str _::_,_,h=>by cases h
 | .ty _::_,_,h=>by cases h
 | .dct::_,_,h=>by cases h
 | .scr _::_,_,h=>by cases h
 | .tup _::_,_,h=>by cases h
 | .lst _::_,_,h=>by cases h
theorem kH:∀ (ns:List Bool),jH (ns.map D.bl)=some ns
 | []=>rfl
 | n::ns=>by rw [List.map_cons,jH,kH ns];rfl
noncomputable def bA (st:Sto):List W->Option D
 | [.d (.str x)]=>if x.length<=1000000 then some (.int x.length) else none
 | [w]=>(i7 st w).map λds=>.int ds.length
 | _=>none
noncomputable def sS (_:Sto):List W->Option D
 | [.d (.int i)]=>some (.int (if i < 0 then -i else i))
 | _=>none
noncomputable def xF (_:Sto):List W->Option D
 | [.d (.int i),.d (.int j)]=>some (.int (if j < i then j else i))
 | _=>none
noncomputable def u5 (_:Sto):List W->Option D
 | [.d (.int i)]=>some (.int i)
 | [.d (.bl k)]=>some (.int (if k then 1 else 0))
 | _=>none
noncomputable def qp (_:Sto):List W->Option D
 | [.d (.lst ds)]=>(jO ds).map λns=>.int ns.sum
 | _=>none
noncomputable def oB (_:Sto):List W->Option D
 | [.d (.lst ds)]=>(jH ds).map λns=>.bl (ns.all id)
 | _=>none
noncomputable def iy (st:Sto):List W->Option D
 | [w]=>(i7 st w).map λds=>.tup ds
 | _=>none
noncomputable def uO (st:Sto):List W->Option (List D)
 | [w]=>i7 st w
 | _=>none
noncomputable def zI (st:Sto):W->Option String
 | .d .non=>some "NoneType"
 | .d (.bl _)=>some "bool"
 | .d (.int _)=>some "int"
 | .d (.str _)=>some "str"
 | .d (.tup _)=>some "tuple"
 | .d (.lst _)=>some "list"
 | .d .dct=>some "dict"
 | .h n=>(lg st n).map λ_=>"list"
 | _=>none
noncomputable def y7 (t c:String):Option Bool:=
 if c = "int" then some (t=="int" || t=="bool")
 else if c = "bool"\/c = "str"\/c = "tuple"\/c = "list" then some (t==c)
 else none
noncomputable def kK (st:Sto):List W->Option D
 | [w,.d (.ty c)]=>(zI st w).bind λt=>(y7 t c).map λb=>.bl b
 | _=>none
theorem bT (hK:X.K=K:=by rfl):jx K X (.builtin "len") bA:=by
 subst hK
 refine⟨λst ws d h=>?_⟩
 have seq:∀ w,(i7 st w).map (λds=>D.int ds.length)=some d->dw X (.builtin "len") (rCD X.K st [w] d):=λw h=>by
  obtain⟨ds,e,rfl⟩:=Option.map_eq_some_iff.mp h
  refine pq.imp ?_
  rintro vs H Q ⟨φ,S,⟨v,r,rfl,r1,rfl⟩,q⟩
  obtain⟨a,us,rfl,h1,h2⟩:=jR S r1 e
  exact⟨a,us,rfl,h1,q _ H (bB.refl H) (by rw [<-h2.length];rfl)⟩
 cases ws with
 | nil=>cases h
 | cons w tl=>
  cases tl with
  | cons _ _=>
   cases w with
   | h n=>cases h
   | d x=>cases x<;>cases h
  | nil=>
   cases w with
   | h n=>exact seq _ h
   | d x=>
    cases x with
    | str x=>
     simp only [bA] at h
     split at h
     ·rename_i hl
      cases h
      refine pW.imp ?_
      rintro vs H Q ⟨φ,S,⟨v,r,rfl,r1,rfl⟩,q⟩
      exact⟨x,by rw [show v=.str x from r1],Nat.le_trans hl mil,q _ H (bB.refl H) rfl⟩
     ·cases h
    | tup ds=>exact seq _ h
    | lst ds=>exact seq _ h
    | scr ds=>exact seq _ h
    | _=>cases h
theorem sK:jx K X (.builtin "abs") sS:=by
 refine⟨λst ws d h=>?_⟩
 match ws,h with
 | [.d (.int i)],h=>
  cases h
  refine xm.imp ?_
  rintro vs H Q ⟨φ,S,⟨v,r,rfl,r1,rfl⟩,q⟩
  exact⟨i,by rw [show v=.int i from r1],q _ H (bB.refl H) rfl⟩
theorem zF (hc:X.calm=true:=by rfl):jx K X (.builtin "min") xF:=by
 refine⟨λst ws d h=>?_⟩
 match ws,h with
 | [.d (.int i),.d (.int j)],h=>
  cases h
  refine (vA hc).imp ?_
  rintro vs H Q ⟨φ,S,⟨v,r,rfl,r1,u,r',rfl,r2,rfl⟩,q⟩
  exact⟨i,j,by rw [show v=.int i from r1,show u=.int j from r2],q _ H (bB.refl H) rfl⟩
theorem vU:jx K X (.type "int") u5:=by
 refine⟨λst ws d h=>?_⟩
 match ws,h with
 | [.d (.int i)],h=>
  cases h
  refine oO.imp ?_
  rintro vs H Q ⟨φ,S,⟨v,r,rfl,r1,rfl⟩,q⟩
  exact .inl ⟨i,by rw [show v=.int i from r1],q _ H (bB.refl H) rfl⟩
 | [.d (.bl i)],h=>
  cases h
  refine oO.imp ?_
  rintro vs H Q ⟨φ,S,⟨v,r,rfl,r1,rfl⟩,q⟩
  exact .inr ⟨i,by rw [show v=.bl i from r1],q _ H (bB.refl H) rfl⟩
theorem tF (hc:X.calm=true:=by rfl) (hK:X.K=K:=by rfl):jx K X (.builtin "sum") qp:=by
 subst hK
 refine⟨λst ws d h=>?_⟩
 match ws,h with
 | [.d (.lst ds)],h=>
  obtain⟨ns,e,rfl⟩:=Option.map_eq_some_iff.mp h
  cases jL e
  refine (AU (K:=X.K) hc rfl).imp ?_
  rintro vs H Q ⟨φ,S,⟨v,r,rfl,⟨a,us,rfl,h0,h1,h2⟩,rfl⟩,q⟩
  cases h2.ints
  exact⟨a,ns,rfl,.inl h1,q _ H (bB.refl H) rfl⟩
theorem nQ (hc:X.calm=true:=by rfl) (hK:X.K=K:=by rfl):jx K X (.builtin "all") oB:=by
 subst hK
 refine⟨λst ws d h=>?_⟩
 match ws,h with
 | [.d (.lst ds)],h=>
  obtain⟨ns,e,rfl⟩:=Option.map_eq_some_iff.mp h
  cases ju e
  refine (AR (K:=X.K) hc rfl).imp ?_
  rintro vs H Q ⟨φ,S,⟨v,r,rfl,⟨a,us,rfl,h0,h1,h2⟩,rfl⟩,q⟩
  cases h2.bools
  exact⟨a,ns,rfl,.inl h1,q _ H (bB.refl H) rfl⟩
theorem iw (hK:X.K=K:=by rfl):jx K X (.type "tuple") iy:=by
 subst hK
 refine⟨λst ws d h=>?_⟩
 match ws,h with
 | [w],h=>
  obtain⟨ds,e,rfl⟩:=Option.map_eq_some_iff.mp h
  refine ox.imp ?_
  rintro vs H Q ⟨φ,S,⟨v,r,rfl,r1,rfl⟩,q⟩
  obtain⟨a,us,rfl,h1,h2⟩:=qP S r1 e
  refine⟨a,us,rfl,?_⟩
  rcases h1 with h1 | h1
  ·exact .inl ⟨h1,λl hl=>q _ _ (bB.new hl _) ⟨l,us,rfl,upd_same,h2.fw S (Fw.new hl)⟩⟩
  ·exact .inr ⟨SqT.of h1,q _ H (bB.refl H) ⟨a,us,rfl,h1,h2⟩⟩
theorem uC (hK:X.K=K:=by rfl):yW K X (.type "list") uO:=by
 subst hK
 refine⟨λst ws d h=>?_⟩
 match ws,h with
 | [w],h=>
  refine pF.imp ?_
  rintro vs H Q ⟨φ,S,⟨v,r,rfl,r1,rfl⟩,q⟩
  obtain⟨a,us,rfl,h1,h2⟩:=jR S r1 h
  exact⟨a,us,rfl,h1,λl hl=>q l us H (bB.refl H) hl h2⟩
theorem ir {t c:String}{b:Bool} (ht:t = "NoneType"\/t = "bool"\/t = "int"\/t = "str"\/t = "tuple"\/t = "list"\/t = "dict") (h:y7 t c=some b):PySem.W.kitOne K (.type t) (.type c)=some b:=by
 unfold y7 at h
 split at h
 ·rename_i hc
  subst hc
  rcases ht with rfl | rfl | rfl | rfl | rfl | rfl | rfl<;>(cases h;rfl)
 ·split at h
  ·rename_i _ hc
   rcases hc with rfl | rfl | rfl | rfl<;>rcases ht with rfl | rfl | rfl | rfl | rfl | rfl | rfl<;>(cases h;rfl)
  ·cases h
theorem gM (hK:X.K=K:=by rfl):jx K X (.builtin "isinstance") kK:=by
 subst hK
 refine⟨λst ws d h=>?_⟩
 match ws,h with
 | [w,.d (.ty c)],h=>
  simp only [kK,Option.bind_eq_some_iff,Option.map_eq_some_iff] at h
  obtain⟨t,ht,b,hb,rfl⟩:=h
  intro pins s σ H xs us Q I rv q
  obtain⟨φ,S,⟨v,r,rfl,r1,u,r',rfl,r2,rfl⟩,q⟩:=q
  cases (show u=.ty c from r2)
  obtain⟨vv,uu,rfl,rv1,rv2⟩:=rv.two
  cases rv2
  have fin:∀ tk,EP X pins σ Q (.bool b) { s with toks:=tk }:=λtk=>⟨.bl b,H,I.tok tk,rfl,q _ H (bB.refl H) rfl⟩
  cases w with
  | h n=>
   obtain⟨a,ea,rfl⟩:=r1
   obtain⟨ds,eds,rfl⟩:=Option.map_eq_some_iff.mp ht
   obtain⟨vs,hv,_⟩:=S.atl n a ds ea eds
   exact dQ I rv1 (.lst hv) (ir (by simp) hb) fin
  | d x=>
   cases x with
   | non=>cases ht;cases r1;exact dQ I rv1 .non (ir (by simp) hb) fin
   | ob _ _=>cases ht
   | bl x=>cases ht;cases r1;exact dQ I rv1 (.bl x) (ir (by simp) hb) fin
   | int x=>cases ht;cases r1;exact dQ I rv1 (.int x) (ir (by simp) hb) fin
   | str x=>cases ht;cases r1;exact dQ I rv1 (.str x) (ir (by simp) hb) fin
   | lst ds=>
    cases ht
    obtain⟨a,vs,rfl,h0,h1,h2⟩:=r1
    rcases h1 with h1 | ⟨o,h1⟩
    ·exact dQ I rv1 (.lst h1) (ir (by simp) hb) fin
    ·exact dQ I rv1 (.frz h1) (ir (by simp) hb) fin
   | tup ds=>
    cases ht
    obtain⟨a,vs,rfl,h1,h2⟩:=r1
    cases rv1
    obtain⟨its,_,p,_⟩:=I.tuple (SqT.of h1)
    obtain⟨o,e1,e2,_⟩:=p
    exact PySem.W.kia_one PySem.W.kitx_tuple I.kIn ⟨o,e1,e2⟩ (ir (by simp) hb) (λz=>nomatch z) fin
   | dct=>
    cases ht
    obtain⟨a,rfl,_,h1⟩:=r1
    rcases h1 with⟨d,h1⟩ | ⟨d,h1⟩
    ·exact dQ I rv1 (.dK h1) (ir (by simp) hb) fin
    ·exact dQ I rv1 (.dT h1) (ir (by simp) hb) fin
   | ty x=>cases ht
   | scr x=>cases ht
variable {e a b:Expr}{es:List Expr}{pos:Pos}{f fa fb:Ef}{af:Af}
theorem jF {x:Str}{c:String} (hg:Gl X x) (hm:X.mg x=none) (hv:bootBuiltins x=some (.type c)) (hn:x≠"__name__":=by decide) (hd:(x==("__debug__" : Str))=false:=by decide):IE K X (.Name x pos) (iC (.ty c)):=
 xj (v:=.ty c) (yt hg hm hv rfl hn hd) λ_ _=>rfl
noncomputable def lZ (g:List D->List W->Option (D×List D)) (o:Ef) (a:Af):Ef
 | env,st=>(o env st).bind λx=>(a env x.2).bind λr=>match x.1 with
 | .h n=>(lg x.2 n).bind λ_=>(lg r.2 n).bind λds=>(g ds r.1).map λy=>(.d y.1,r.2.set n (.l y.2))
 | _=>none
noncomputable def ik (ds:List D):List W->Option (D×List D)
 | [.d x]=>if ds.length < 1000000 then some (.non,ds++[x]) else none
 | _=>none
theorem zd {name:Str}{id:String}{apos:Pos}{rr:V->List V->Hp->VK->Prop}{g:List D->List W->Option (D×List D)} (slot:Slot "list" name id) (hty:typeOf (.builtin id)=pure (.type "method_descriptor")) (hm:MtR X id rr)
  (hg:∀ (H:Hp) (φ:List Addr) (st:Sto) (n:Nat) (ad:Addr) (ds:List D) (vs:List V) (ws:List W) (us:List V) (y:D×List D) (Q:VK),Sr K H φ st->φ[n]?=some ad->lg st n=some ds->H ad=some (.lst vs)->Rls K H φ ds vs->Rws K H φ ws us->g ds ws=some y->
    (∀ v vs',Rl K H φ y.1 v->Rls K H φ y.2 vs'->(∀ b,v≠.ref b)->Q v (upd H ad (.lst vs')))->rr (.ref ad) us H Q)
  (hfl:∀ ds ws y,g ds ws=some y->eL y.1=true)
  (ho:IE K X a fa) (ha:IA K X (e::es) af) (hbase:attributeBase a name X.env (eval a X.env)=eval a X.env:=by rfl)
  (hall:(e::es).all aP=true:=by rfl) (hfl30:(e::es).length < 30:=by decide) (hline:(apos.endLine==pos.line)=true:=by rfl) (hK:X.K=K:=by rfl) :
  IE K X (.Call (.Attribute a name apos) (e::es) [] pos) (lZ g fa af):=by
 subst hK
 have hall2:aP e=true/\es.all aP=true:=by rw [List.all_cons,Bool.and_eq_true] at hall;exact hall
 refine⟨λenv st r hr=>?_⟩
 simp only [lZ,Option.bind_eq_some_iff] at hr
 obtain⟨⟨x,s1⟩,hx,⟨ws,s2⟩,hw,hr⟩:=hr
 cases x with
 | d x=>cases hr
 | h n=>
  simp only [Option.bind_eq_some_iff,Option.map_eq_some_iff] at hr
  obtain⟨ds1,hds1,ds,hds,y,hy,rfl⟩:=hr
  refine (yK PySem.F.plainAttrs_list slot hty hm (ho.run _ _ _ hx) (ha.run _ _ _ hw) hbase (qW hall hfl30) hline (bI hall2.1) (cO hall2.2)).imp ?_
  rintro σ H Q ⟨φ,hE,hS,q⟩
  refine⟨φ,hE,hS,λv H1 φ1 f1 S1 w1=>?_⟩
  obtain⟨ad,ea,rfl⟩:=w1
  obtain⟨vs1,hv1,_⟩:=S1.atl n ad _ ea hds1
  refine⟨.inl ⟨rfl,vs1,SqL.of hv1⟩,φ1,hE.fw hS f1,S1,λus H2 φ2 f2 S2 w2=>?_⟩
  have ea2:=f2.get ea
  obtain⟨vs2,hv2,rl2⟩:=S2.atl n ad ds ea2 hds
  refine hg H2 φ2 s2 n ad ds vs2 ws us y _ S2 ea2 hds hv2 rl2 w2 hy λv vs' r1 r2 hb=>?_
  obtain⟨f3,S3⟩:=S2.put ea2 r2
  exact q v _ φ2 ((f1.trans f2).trans f3) S3 (r1.fw S2 f3)
theorem oS {apos:Pos} (ho:IE K X a fa) (ha:IA K X (e::es) af) (hbase:attributeBase a "append" X.env (eval a X.env)=eval a X.env:=by rfl)
  (hall:(e::es).all aP=true:=by rfl) (hfl30:(e::es).length < 30:=by decide) (hline:(apos.endLine==pos.line)=true:=by rfl) (hK:X.K=K:=by rfl) :
  IE K X (.Call (.Attribute a "append" apos) (e::es) [] pos) (lZ ik fa af):=by
 refine zd PySem.F.slot_list_append PySem.F.type_list_append vE (λH φ st n ad ds vs ws us y Q S ea eds hv rl rw hy q=>?_) (λds ws y h=>?_) ho ha hbase hall hfl30 hline hK
 ·match ws,hy with
  | [.d x],hy=>
   simp only [ik] at hy
   split at hy
   ·rename_i hl
    cases hy
    obtain⟨v,r,rfl,r1,rfl⟩:=rw
    exact⟨ad,vs,v,rfl,rfl,hv,by rw [<-rl.length];exact Nat.lt_of_lt_of_le hl mil,q _ _ rfl (rl.append ⟨v,[],rfl,r1,rfl⟩) (λb z=>nomatch z)⟩
   ·cases hy
 ·match ws,h with
  | [.d x],h=>
   simp only [ik] at h
   split at h
   ·cases h;rfl
   ·cases h
end
end L2
namespace L2
open PySem PySem.Spec PyProof.Rows
section
variable {K:PySem.W.Frag}{X:Cx}{e a b:Expr}{es:List Expr}{pos:Pos}{f fa fb:Ef}{af:Af}
noncomputable def rL (K:PySem.W.Frag) (st:Sto) (x y:W) (ds:List D):R2:=λvx vy H Q=>∃ φ,Sr K H φ st/\Rw K H φ x vx/\Rw K H φ y vy/\∀ p us,H p=none->Rls K H φ ds us->Q (.ref p) (upd H p (.lst us))
structure OpL (K:PySem.W.Frag) (X:Cx) (f:Value->Value->Sem Value) (g:Sto->W->W->Option (List D)):Prop where
 run:∀ st x y d,g st x y=some d->OpR X f (rL K st x y d)
noncomputable def sr (g:Sto->W->W->Option (List D)) (a b:Ef):Lf
 | env,st=>(a env st).bind λx=>(b env x.2).bind λy=>(g y.2 x.1 y.1).map λd=>(d,y.2)
theorem wB {op:Operator}{g:Sto->W->W->Option (List D)} (ho:OpL K X (binaryOp op) g) (ha:IE K X a fa) (hb:IE K X b fb):IL K X (.BinOp a op b pos) (sr g fa fb):=by
 refine⟨λenv st r hr=>?_⟩
 simp only [sr,Option.bind_eq_some_iff,Option.map_eq_some_iff] at hr
 obtain⟨x,hx,y,hy,d,hd,rfl⟩:=hr
 refine (yQ (ho.run _ _ _ _ hd) (ha.run _ _ _ hx) (hb.run _ _ _ hy)).imp ?_
 rintro σ H Q ⟨φ,hE,hS,q⟩
 exact⟨φ,hE,hS,λv H1 φ1 f1 s1 w1=>⟨φ1,hE.fw hS f1,s1,λu H2 φ2 f2 s2 w2=>⟨φ2,s2,w1.fw s1 f2,w2,λp us hp r=>q p us H2 φ2 (f1.trans f2) s2 hp r⟩⟩⟩
noncomputable def og (_:Sto):W->W->Option (List D)
 | .d (.lst a),.d (.int k)=>if a.length<=1000/\-1000<=k/\k < 1000 then some (List.replicate k.toNat a).flatten else none
 | _,_=>none
theorem tM:OpL K X (binaryOp .Mult) og:=by
 refine⟨λst x y d h=>?_⟩
 match x,y,h with
 | .d (.lst as),.d (.int k),h=>
  simp only [og] at h
  split at h
  ·rename_i hl
   cases h
   refine uI.imp ?_
   rintro vx vy H Q ⟨φ,S,⟨a,us,rfl,h0,h1,h2⟩,r2,q⟩
   refine⟨a,k,us,rfl,r2,h1,by lia,by lia,?_,λp hp=>q p _ hp (h2.rep _)⟩
   rw [<-h2.length]
   have:as.length*k.toNat<=1000*1000:=Nat.mul_le_mul hl.1 (by lia)
   exact Nat.le_trans this mil
  ·cases h
theorem yE {H:Hp}{ad:Addr}{ns:List Int}{m:Fn} (hO:yq H) (hS:SqL K H ad (ns.map V.int)) (h:∃ st,m [.d (.scr ns)] []=some (.d (.bl true),st)):spI K m [.ref ad] H (λv _=>v=.bl true) λ_ _ _=>False:=by
 obtain⟨st,h⟩:=h
 refine⟨[],[],[.d (.scr ns)],_,h,⟨_,[],rfl,⟨ad,rfl,?_⟩,rfl⟩,⟨List.nodup_nil,rfl,λn a ds e=>by simp at e⟩,λv H' φ' _ _ r=>r⟩
 rcases hS with (h | h) | h
 ·rcases hO ad with z | ⟨o,xs,z⟩
  ·rw [h] at z;cases z
  ·rw [h] at z;cases z
 ·exact .inl h
 ·exact .inr h
end
end L2
namespace L2
open PySem
theorem fU {g:Tg}{body:Sf}:∀ {ds:List D} (Pv:Nat->Ev->Sto->Prop) {env:Ev}{st:Sto},Pv 0 env st->
  (∀ i d env st,ds[i]?=some d->Pv i env st->∃ e1 e2 s2,eU g (.d d) env=some e1/\(body e1 st=some (.nx e2 s2)\/body e1 st=some (.ct e2 s2))/\Pv (i+1) e2 s2)->
  ∃ env' st',dR g body ds env st=some (.nx env' st')/\Pv ds.length env' st'
 | [],Pv,env,st,h0,_=>⟨env,st,rfl,h0⟩
 | d::ds,Pv,env,st,h0,hs=>by
  obtain⟨e1,e2,s2,h1,h2,h3⟩:=hs 0 d env st rfl h0
  obtain⟨e',s',h4,h5⟩:=fU (g:=g) (body:=body) (ds:=ds) (λi=>Pv (i+1)) h3 λi d' env' st' hd p=>hs (i+1) d' env' st' (by simpa using hd) p
  refine⟨e',s',?_,h5⟩
  unfold dR
  rw [h1,Option.bind_some]
  rcases h2 with h2 | h2<;>(rw [h2,Option.bind_some];exact h4)
theorem pd {g:Tg}{tt:Tf}{te:Ef}{env:Ev}:∀ {ds:List D} (Pv:Nat->List D->Sto->Prop) {st:Sto}{ys0:List D},Pv 0 ys0 st->
  (∀ i d ys st,ds[i]?=some d->Pv i ys st->∃ e1,eU g (.d d) env=some e1/\((∃ s1 x s2,tt e1 st=some (true,s1)/\te e1 s1=some (.d x,s2)/\Pv (i+1) (ys++[x]) s2)\/∃ s1,tt e1 st=some (false,s1)/\Pv (i+1) ys s1))->
  ∃ ys st',lcI g tt te env ds st=some (ys,st')/\Pv ds.length (ys0++ys) st'
 | [],Pv,st,ys0,h0,_=>⟨[],st,rfl,by rw [List.append_nil];exact h0⟩
 | d::ds,Pv,st,ys0,h0,hs=>by
  obtain⟨e1,h1,h2⟩:=hs 0 d ys0 st rfl h0
  rcases h2 with⟨s1,x,s2,h2,h3,h4⟩ | ⟨s1,h2,h4⟩
  ·obtain⟨ys,s',h5,h6⟩:=pd (g:=g) (tt:=tt) (te:=te) (env:=env) (ds:=ds) (λi=>Pv (i+1)) h4 λi d' ys' st' hd p=>hs (i+1) d' ys' st' (by simpa using hd) p
   refine⟨x::ys,s',?_,by simpa using h6⟩
   unfold lcI
   rw [h1,Option.bind_some,h2,Option.bind_some,if_pos rfl,h3,Option.bind_some,h5]
   rfl
  ·obtain⟨ys,s',h5,h6⟩:=pd (g:=g) (tt:=tt) (te:=te) (env:=env) (ds:=ds) (λi=>Pv (i+1)) h4 λi d' ys' st' hd p=>hs (i+1) d' ys' st' (by simpa using hd) p
   refine⟨ys,s',?_,by simpa using h6⟩
   unfold lcI
   rw [h1,Option.bind_some,h2,Option.bind_some,if_neg Bool.false_ne_true,h5]
theorem qO {g:Tg}{tt:Tf}{te:Ef}{env:Ev}{st:Sto} (p:D->Bool) (F:D->D):∀ {ds:List D},(∀ d ∈ ds,∃ e1,eU g (.d d) env=some e1/\tt e1 st=some (p d,st)/\(p d=true->te e1 st=some (.d (F d),st)))->
  lcI g tt te env ds st=some ((ds.filter p).map F,st)
 | [],_=>rfl
 | d::ds,h=>by
  obtain⟨e1,h1,h2,h3⟩:=h d List.mem_cons_self
  have ih:=qO (g:=g) (tt:=tt) (te:=te) (env:=env) (st:=st) p F (ds:=ds) λx hx=>h x (List.mem_cons_of_mem _ hx)
  unfold lcI
  rw [h1,Option.bind_some,h2,Option.bind_some]
  cases hp:p d with
  | true=>rw [if_pos rfl,h3 hp,Option.bind_some,ih,List.filter_cons,hp];rfl
  | false=>rw [if_neg Bool.false_ne_true,ih,List.filter_cons,hp];rfl
theorem xz {g:Tg}{te:Ef}{env:Ev}{st:Sto} (F:D->D) {ds:List D} (h:∀ d ∈ ds,∃ e1,eU g (.d d) env=some e1/\te e1 st=some (.d (F d),st)):lcI g bf te env ds st=some (ds.map F,st):=by
 have:=qO (g:=g) (tt:=bf) (te:=te) (env:=env) (st:=st) (λ_=>true) F (ds:=ds) λd hd=>by
  obtain⟨e1,h1,h2⟩:=h d hd
  exact⟨e1,h1,rfl,λ_=>h2⟩
 rw [this,List.filter_eq_self.mpr λ_ _=>rfl]
noncomputable def bU (st:Sto) (n:Nat):Prop:=∃ x y z:Int,0<=x/\st[n]?=some (.l [.int x,.int y,.int z])
noncomputable def Stp (n:Nat) (st st':Sto):Prop:=(∃ v,st'=st.set n v)/\bU st' n
theorem bU.lt {st:Sto}{n:Nat} (h:bU st n):n < st.length:=by
 obtain⟨x,y,z,_,e⟩:=h
 exact (List.getElem?_eq_some_iff.mp e).1
theorem Stp.refl {st:Sto}{n:Nat} (h:bU st n):Stp n st st:=by
 obtain⟨x,y,z,h0,e⟩:=id h
 exact⟨⟨_,(List.set_getElem_self (h.lt)).symm⟩,h⟩
theorem Stp.trans {n:Nat}{a b c:Sto} (h:Stp n a b) (h':Stp n b c):Stp n a c:=by
 obtain⟨⟨v,rfl⟩,_⟩:=h
 obtain⟨⟨u,rfl⟩,q⟩:=h'
 exact⟨⟨u,by rw [List.set_set]⟩,q⟩
theorem Stp.hand {n:Nat}{a b:Sto} (h:Stp n a b):bU b n:=h.2
theorem Stp.len {n:Nat}{a b:Sto} (h:Stp n a b):b.length=a.length:=by obtain⟨⟨v,rfl⟩,_⟩:=h;rw [List.length_set]
theorem ii {a b:Int} (h:-(2 ^ 64) < a/\a < 2 ^ 64):PySem.IntMulOk a b:=x8.ok (.inl h)
theorem mF {a b:Int} (h:-(2 ^ 64) < b/\b < 2 ^ 64):PySem.IntMulOk a b:=x8.ok (.inr h)
theorem kP {st:Sto}{n:Nat}{v:C} (h:n < st.length):(st.set n v)[n]?=some v:=List.getElem?_set_self h
theorem wP {α:Type} (a:α) (l:List α):atI (a::l) 0=some a:=dU (j:=0) rfl
theorem BE {α:Type} (a b:α) (l:List α):atI (a::b::l) 1=some b:=dU (j:=1) rfl
theorem zw {α:Type} (a b c:α) (l:List α):atI (a::b::c::l) 2=some c:=dU (j:=2) rfl
theorem B6 (n:Nat):ixN (n+1) 0=some 0:=fK (j:=0) (by lia)
theorem Bs (n:Nat):ixN (n+2) 1=some 1:=fK (j:=1) (by lia)
theorem zc (n:Nat):ixN (n+3) 2=some 2:=fK (j:=2) (by lia)
end L2
namespace L2
open PySem
theorem bU.app {st:Sto}{n:Nat} (h:bU st n) (u:Sto):bU (st++u) n:=by
 obtain⟨x,y,z,h0,e⟩:=id h
 exact⟨x,y,z,h0,by rw [List.getElem?_append_left h.lt];exact e⟩
theorem Stp.unapp {n:Nat}{a s:Sto}{u:Sto} (hn:n < a.length) (h:Stp n (a++u) s):∃ b,s=b++u/\Stp n a b:=by
 obtain⟨⟨v,rfl⟩,x,y,z,h0,e⟩:=h
 rw [List.set_append_left _ _ hn] at e ⊢
 exact⟨_,rfl,⟨v,rfl⟩,x,y,z,h0,by rw [List.getElem?_append_left (by rw [List.length_set];exact hn)] at e;exact e⟩
end L2
namespace L2
open PySem PySem.Spec PyProof.Rows
section
variable {prog:Program}{w:World}{A:Around}{E:Value->Shared->Prop}{s:Shared}{κ:SortKind}{O:KeyOrd}{rk:Keyed->O.α}{S:Keyed->Prop}
variable {a0:Array Keyed}{lo:Nat}{p0:Array (Nat×Nat×Nat)}{g0:Nat}{st:SortSt}
end
end L2
namespace L2
open PySem PySem.Spec PyProof.Rows
section
variable {prog:Program}{w:World}{A:Around}{E:Value->Shared->Prop}{s:Shared}{κ:SortKind}{O:KeyOrd}{rk:Keyed->O.α}{S:Keyed->Prop}
variable {a0:Array Keyed}{lo:Nat}{p0:Array (Nat×Nat×Nat)}{g0:Nat}{st:SortSt}
end
end L2
namespace L2
open PySem PySem.Spec PyProof.Rows
section
variable {prog:Program}{w:World}{A:Around}{E:Value->Shared->Prop}{s:Shared}{κ:SortKind}{O:KeyOrd}{rk:Keyed->O.α}{S:Keyed->Prop}
variable {a0:Array Keyed}{lo:Nat}{p0:Array (Nat×Nat×Nat)}{g0:Nat}{st:SortSt}
end
end L2
namespace L2
open PySem PySem.Spec PyProof.Rows
section
variable {O:KeyOrd}{rk:Keyed->O.α}
variable {a b out:Array Keyed}{ia ib:Nat}
variable {na nb:Nat}
end
end L2
namespace L2
open PySem PySem.Spec PyProof.Rows
section
variable {prog:Program}{w:World}{A:Around}{E:Value->Shared->Prop}{s:Shared}{κ:SortKind}{O:KeyOrd}{rk:Keyed->O.α}{S:Keyed->Prop}{st:SortSt}{a b:Array Keyed}
end
end L2
namespace L2
open PySem PySem.Spec PyProof.Rows
section
variable {prog:Program}{w:World}{A:Around}{E:Value->Shared->Prop}{s:Shared}{κ:SortKind}{O:KeyOrd}{rk:Keyed->O.α}{S:Keyed->Prop}{st:SortSt}{a b out:Array Keyed}{na nb:Nat}
end
end L2
namespace L2
open PySem PySem.Spec PyProof.Rows
section
variable {prog:Program}{w:World}{A:Around}{E:Value->Shared->Prop}{s:Shared}{κ:SortKind}{O:KeyOrd}{rk:Keyed->O.α}{S:Keyed->Prop}{st:SortSt}{arr:Array Keyed}{n1 n2:Nat}
end
end L2
namespace L2
open PySem PySem.Spec PyProof.Rows
section
variable {prog:Program}{w:World}{A:Around}{E:Value->Shared->Prop}{s:Shared}{κ:SortKind}{O:KeyOrd}{rk:Keyed->O.α}{S:Keyed->Prop}{st:SortSt}{a0:Array Keyed}
end
end L2
namespace L2
open PySem PySem.Spec PyProof.Rows PySem.SeqAt
open MeetsSeq MeetsSeq2 MeetsSeq3 SeqRoads2
open AutoSeq1 (wpAny_loadPart')
section
variable {A:Around}{s:Shared}{p q:Addr}{us vs:Array Value}{e l:Nat->Bool}
end
end L2
namespace L2
open PySem PySem.Spec PyProof.Rows PySem.SeqAt PySem.W
section
variable {prog:Program}{w:World}{A:Around}{E:Value->Shared->Prop}{s:Shared}{x y:Value}{l m:List Int}
end
end L2
namespace L2
open PySem PySem.Spec PyProof.Rows PySem.SeqAt PySem.W
section
variable {prog:Program}{w:World}{A:Around}{E:Value->Shared->Prop}{s:Shared}{O:KeyOrd}{rk:Keyed->O.α}{S:Keyed->Prop}{vs:List Value}
end
end L2
namespace L2
open PySem PySem.Spec PyProof.Rows PySem.SeqAt PySem.W
section
variable {prog:Program}{w:World}{A:Around}{E:Value->Shared->Prop}{s:Shared}
end
end L2
namespace L2
open PySem PySem.Spec PyProof.Rows PySem.SeqAt PySem.W
section
variable {K:PySem.W.Frag}{X:Cx}{pins:List (Addr×Obj)}{σ:St}{H:Hp}{s:Shared}{φ:List Addr}
end
end L2
namespace L2
open PySem PySem.Spec PyProof.Rows
open PySem.AutoSeq1 (wpAny_loadPart')
noncomputable def SIt (k:Bool) (h:Heap) (it l:Addr) (i:Nat):Prop:=match k with
 | true=>h.IsTupleIter it l i
 | false=>h.IsListIter it l i
noncomputable def SIs (k:Bool) (h:Heap) (l:Addr) (xs:Array Value):Prop:=match k with
 | true=>h.IsTuple l xs
 | false=>h.IsList l xs
theorem SIt.to {k:Bool}{h h':Heap}{it l:Addr}{i:Nat} (a:SIt k h it l i) (f:∀ o,h.get? it=some o->h'.get? it=some o):SIt k h' it l i:=by
 cases k with
 | true=>exact Heap.IsTupleIter.at a f
 | false=>exact Heap.IsListIter.at a f
theorem SIs.to {k:Bool}{h h':Heap}{l:Addr}{xs:Array Value} (a:SIs k h l xs) (f:∀ o,h.get? l=some o->h'.get? l=some o):SIs k h' l xs:=by
 cases k with
 | true=>obtain⟨o,e,r⟩:=a;exact⟨o,f o e,r⟩
 | false=>exact Heap.IsList.at a f
theorem SIt.live {k:Bool}{h:Heap}{it l:Addr}{i:Nat} (a:SIt k h it l i):∃ o vs,h.get? it=some o/\o.data=.fields vs:=by
 cases k with
 | true=>obtain⟨o,e,_,d⟩:=a;exact⟨o,_,e,d⟩
 | false=>obtain⟨o,e,_,d⟩:=a;exact⟨o,_,e,d⟩
section
variable {prog:Program}{w:World}{A:Around}{E:Value->Shared->Prop}{s:Shared}{k k2:Bool}
theorem pk {it l:Addr}{i:Nat}{xs:Array Value}{x:Value}{Q:Value->Shared->Prop} (hit:SIt k s.heap it l i) (hl:SIs k s.heap l xs) (hx:xs[i]?=some x)
  (hQ:∀ h',SIt k h' it l (i+1)->Heap.SameBut it s.heap h'->Q x { s with heap:=h' }):wpAny (model prog w) A (Builtin.SmallTypes.nextOf (.ref it)) Q E s:=by
 cases k with
 | true=>exact gU hit hl hx hQ
 | false=>exact wpAny_nextOf_list_item hit hl hx hQ
theorem wW {it l:Addr}{i:Nat}{xs:Array Value}{Q:Value->Shared->Prop} (hh:A.handled=none) (hit:SIt k s.heap it l i) (hl:SIs k s.heap l xs) (hx:xs[i]?=none)
  (hE:∀ h' e,Heap.ExtBut it s.heap h'->(∃ o,h'.get? e=some o/\o.cls=.type "StopIteration")->E (.ref e) { s with heap:=h' }):wpAny (model prog w) A (Builtin.SmallTypes.nextOf (.ref it)) Q E s:=by
 cases k with
 | true=>exact iL hh hit hl hx hE
 | false=>exact wpAny_nextOf_list_end hh hit hl hx hE
variable {z TI TO i1 i2 l1 l2:Addr}{n:Nat}{xs ys:Array Value}{a b:Value}
structure ZSt (k k2:Bool) (z TI TO i1 i2 l1 l2:Addr) (f0:Value) (n:Nat) (h:Heap):Prop where
 z:IsZip h z TI TO f0
 ti:IsPair h TI (.ref i1) (.ref i2)
 to:∃ a b,IsPair h TO a b
 t1:SIt k h i1 l1 n
 t2:SIt k2 h i2 l2 n
set_option maxHeartbeats 1000000 in
theorem vN {x y:Value}{Q:Option Value->Shared->Prop} (D:ZipApart z TI TO i1 i2 l1 l2) (hs:ZSt k k2 z TI TO i1 i2 l1 l2 .none n s.heap) (hl1:SIs k s.heap l1 xs) (hl2:SIs k2 s.heap l2 ys) (hx:xs[n]?=some x) (hy:ys[n]?=some y)
  (hQ:∀ h',ZSt k k2 z TI TO i1 i2 l1 l2 (rawInt s.heap.objs.size) (n+1) h'->IsPair h' s.heap.objs.size x y->h'.objs.size=s.heap.objs.size+1->
    (∀ c o,c≠z->c≠TO->c≠i1->c≠i2->s.heap.get? c=some o->h'.get? c=some o)->Q (some (.ref s.heap.objs.size)) { s with heap:=h' }) :
  wpAny (model prog w) A (pyNext (.ref z)) Q E s:=by
 obtain⟨hz,hTI,⟨a,b,hTO⟩,h1,h2⟩:=hs
 have hT:s.TypeIs (.ref z) "zip":=⟨_,hz,rfl⟩
 unfold pyNext
 refine wpAny_bind (wpAny_attempt (wpAny_callSpecial?_slot (name:=Str.ofString "__next__") hT F.slot_zip_next (wpAny_call_entry F.slot_zip_next hT F.entry_zip_next ?_ (F.args_zip_next_1 _))))
 show wpAny _ _ (field (.ref z) 2 >>= _) _ _ _
 refine wpAny_bind (wpAny_field hz rfl (x:=.bool false) rfl ?_)
 show wpAny _ _ (field (.ref z) 3 >>= _) _ _ _
 refine wpAny_bind (wpAny_field hz rfl (x:=.ref TI) rfl (wpAny_bind (wpAny_seqItems hTI rfl ?_)))
 show wpAny _ _ (Builtin.SmallTypes.ownedTupleIsFree (.ref z) >>= _) _ _ _
 refine wpAny_bind ?_
 unfold Builtin.SmallTypes.ownedTupleIsFree
 refine wpAny_bind (wpAny_field hz rfl (x:=.none) rfl (wpAny_pure ?_))
 simp only [if_true]
 refine wpAny_bind (wpAny_rule (wpAny_bind (wpAny_field hz rfl (x:=.ref TO) rfl ?_)))
 refine wpAny_bind (wpAny_setField_rec hz (by simp) λg1 hz1 s1=>?_)
 replace hz1:IsZip g1 z TI TO .ellipsis:=hz1
 refine wpAny_bind ?_
 simp only [List.zipIdx_cons,List.zipIdx_nil,List.forIn_cons,List.forIn_nil]
 have e1:=s1.extBut
 refine wpAny_bind (wpAny_bind (wpAny_onRaise ?_))
 show wpAny _ _ (Builtin.SmallTypes.nextOf (.ref i1) >>= _) _ _ _
 refine wpAny_bind (pk (h1.to λo q=>e1 _ o D.i1z q) (hl1.to λo q=>e1 _ o D.l1z q) hx λg2 h12 s2=>wpAny_pure ?_)
 have e2:=s2.extBut
 have hTO2:IsPair g2 TO a b:=e2 _ _ D.TOi1 (e1 _ _ D.TOz hTO)
 refine wpAny_bind (wpAny_seqItems hTO2 rfl (wpAny_bind (wpAny_updateSeq_pair hTO2 λg3 hTO3 s3=>?_)))
 replace hTO3:IsPair g3 TO x b:=hTO3
 have e3:=s3.extBut
 refine wpAny_bind (wpAny_letGo (wpAny_pure ?_))
 refine wpAny_bind (wpAny_bind (wpAny_onRaise ?_))
 show wpAny _ _ (Builtin.SmallTypes.nextOf (.ref i2) >>= _) _ _ _
 refine wpAny_bind (pk (h2.to λo q=>e3 _ o D.TOi2.symm (e2 _ o D.i12.symm (e1 _ o D.i2z q))) (hl2.to λo q=>e3 _ o D.l2TO (e2 _ o D.l2i1 (e1 _ o D.l2z q))) hy λg4 h24 s4=>wpAny_pure ?_)
 have e4:=s4.extBut
 have hTO4:IsPair g4 TO x b:=e4 _ _ D.TOi2 hTO3
 refine wpAny_bind (wpAny_seqItems hTO4 rfl (wpAny_bind (wpAny_updateSeq_pair hTO4 λg5 hTO5 s5=>?_)))
 replace hTO5:IsPair g5 TO x y:=hTO5
 have e5:=s5.extBut
 refine wpAny_bind (wpAny_letGo (wpAny_pure (wpAny_pure ?_)))
 refine wpAny_bind (wpAny_seqItems hTO5 rfl (wpAny_bind (wpAny_newTuple ?_)))
 have hsz:g5.objs.size=s.heap.objs.size:=by rw [s5.1,s4.1,s3.1,s2.1,s1.1]
 have hz5:IsZip g5 z TI TO .ellipsis:=e5 _ _ D.TOz.symm (e4 _ _ D.i2z.symm (e3 _ _ D.TOz.symm (e2 _ _ D.i1z.symm hz1)))
 have kp:∀ c o,c≠z->c≠TO->c≠i1->c≠i2->s.heap.get? c=some o->g5.get? c=some o:=λc o c1 c2 c3 c4 e=>e5 _ _ c2 (e4 _ _ c4 (e3 _ _ c2 (e2 _ _ c3 (e1 _ _ c1 e))))
 have h15:SIt k g5 i1 l1 (n+1):=h12.to λo q=>e5 _ o D.TOi1.symm (e4 _ o D.i12 (e3 _ o D.TOi1.symm q))
 have h25:SIt k2 g5 i2 l2 (n+1):=h24.to λo q=>e5 _ o D.TOi2.symm q
 have hzlt:z < g5.objs.size:=Heap.lt_size hz5
 show wpAny _ _ (Builtin.SmallTypes.ownedTupleHandOut (.ref z) (.ref g5.objs.size) >>= _) _ _ _
 refine wpAny_bind ?_
 unfold Builtin.SmallTypes.ownedTupleHandOut
 have hz6:IsZip (g5.push { cls:=.type "tuple",data:=.seq #[x,y] }) z TI TO .ellipsis:=Heap.get?_push_of_some _ hz5
 refine wpAny_bind (wpAny_setField_rec hz6 (by simp) λg7 hz7 s7=>?_)
 replace hz7:IsZip g7 z TI TO (rawInt g5.objs.size):=hz7
 refine wpAny_setField_rec hz7 (by simp) λg8 hz8 s8=>?_
 replace hz8:IsZip g8 z TI TO (rawInt g5.objs.size):=hz8
 have up:∀ c o,c≠z->g5.get? c=some o->g8.get? c=some o:=λc o c1 e=>s8.extBut _ _ c1 (s7.extBut _ _ c1 (Heap.get?_push_of_some _ e))
 have hT8:IsPair g8 g5.objs.size x y:=s8.extBut _ _ (Nat.ne_of_gt hzlt) (s7.extBut _ _ (Nat.ne_of_gt hzlt) (Heap.get?_push_size _ rfl))
 have hz9:g8.objs.size=g5.objs.size+1:=by rw [s8.1,s7.1,Heap.size_push]
 rw [hsz] at hz8 hT8 hz9
 refine wpAny_pure ⟨_,rfl,wpAny_pure ?_⟩
 show Q (some (.ref g5.objs.size)) _
 rw [hsz]
 exact hQ g8 ⟨hz8,up _ _ D.TIz (kp _ _ D.TIz D.TITO D.TIi1 D.TIi2 hTI),⟨_,_,up _ _ D.TOz hTO5⟩,h15.to λo q=>up _ o D.i1z q,h25.to λo q=>up _ o D.i2z q⟩ hT8 hz9 λc o c1 c2 c3 c4 e=>up c o c1 (kp c o c1 c2 c3 c4 e)
set_option maxHeartbeats 1000000 in
theorem yF {Q:Option Value->Shared->Prop} (hh:A.in1.handled=none) (D:ZipApart z TI TO i1 i2 l1 l2) (hs:ZSt k k2 z TI TO i1 i2 l1 l2 .none n s.heap) (hl1:SIs k s.heap l1 xs) (hl2:SIs k2 s.heap l2 ys) (hend:xs[n]?=none\/ys[n]?=none)
  (hQ:∀ h',(∀ c o,c≠z->c≠TO->c≠i1->c≠i2->s.heap.get? c=some o->h'.get? c=some o)->Q none { s with heap:=h' }):wpAny (model prog w) A (pyNext (.ref z)) Q E s:=by
 obtain⟨hz,hTI,⟨a,b,hTO⟩,h1,h2⟩:=hs
 have hT:s.TypeIs (.ref z) "zip":=⟨_,hz,rfl⟩
 have fin:∀ (h':Heap) (e:Addr),(∀ c o,c≠z->c≠TO->c≠i1->c≠i2->s.heap.get? c=some o->h'.get? c=some o)->(∃ o,h'.get? e=some o/\o.cls=.type "StopIteration")->
   wpAny (model prog w) A (do if (<-isInstance (.ref e) (.type "StopIteration")) then pure none else throw (.ref e)) Q E { s with heap:=h' }:=λh' e hk ⟨o,ho,hc⟩=>
  wpAny_bind (wpAny_isInstance (T:="StopIteration") (b:=true) ⟨o,ho,hc⟩ isSubtype_stop (wpAny_pure (hQ _ hk)))
 unfold pyNext
 refine wpAny_bind (wpAny_attempt (wpAny_callSpecial?_slot (name:=Str.ofString "__next__") hT F.slot_zip_next (wpAny_call_entry F.slot_zip_next hT F.entry_zip_next ?_ (F.args_zip_next_1 _))))
 show wpAny _ _ (field (.ref z) 2 >>= _) _ _ _
 refine wpAny_bind (wpAny_field hz rfl (x:=.bool false) rfl ?_)
 show wpAny _ _ (field (.ref z) 3 >>= _) _ _ _
 refine wpAny_bind (wpAny_field hz rfl (x:=.ref TI) rfl (wpAny_bind (wpAny_seqItems hTI rfl ?_)))
 show wpAny _ _ (Builtin.SmallTypes.ownedTupleIsFree (.ref z) >>= _) _ _ _
 refine wpAny_bind ?_
 unfold Builtin.SmallTypes.ownedTupleIsFree
 refine wpAny_bind (wpAny_field hz rfl (x:=.none) rfl (wpAny_pure ?_))
 simp only [if_true]
 refine wpAny_bind (wpAny_rule (wpAny_bind (wpAny_field hz rfl (x:=.ref TO) rfl ?_)))
 refine wpAny_bind (wpAny_setField_rec hz (by simp) λg1 hz1 s1=>?_)
 replace hz1:IsZip g1 z TI TO .ellipsis:=hz1
 refine wpAny_bind ?_
 simp only [List.zipIdx_cons,List.zipIdx_nil,List.forIn_cons,List.forIn_nil]
 have e1:=s1.extBut
 refine wpAny_bind (wpAny_bind (wpAny_onRaise ?_))
 show wpAny _ _ (Builtin.SmallTypes.nextOf (.ref i1) >>= _) _ _ _
 cases hx:xs[n]? with
 | none=>
  refine wpAny_bind (wW hh (h1.to λo q=>e1 _ o D.i1z q) (hl1.to λo q=>e1 _ o D.l1z q) hx λg2 e s2 he=>?_)
  obtain⟨oe,hoe,hce⟩:=he
  have hz2:IsZip g2 z TI TO .ellipsis:=s2 _ _ D.i1z.symm hz1
  have hez:e≠z:=λx=>by subst x;rw [hz2] at hoe;cases hoe;simp at hce
  exact wpAny_setField_rec hz2 (by simp) λg3 _ s3=>fin g3 e (λc o c1 _ c3 _ x=>s3.extBut _ _ c1 (s2 _ _ c3 (e1 _ _ c1 x))) ⟨oe,s3.extBut _ _ hez hoe,hce⟩
 | some x=>
  have hy:ys[n]?=none:=by rcases hend with h | h;rw [hx] at h;cases h;exact h
  refine wpAny_bind (pk (h1.to λo q=>e1 _ o D.i1z q) (hl1.to λo q=>e1 _ o D.l1z q) hx λg2 h12 s2=>wpAny_pure ?_)
  have e2:=s2.extBut
  have hTO2:IsPair g2 TO a b:=e2 _ _ D.TOi1 (e1 _ _ D.TOz hTO)
  refine wpAny_bind (wpAny_seqItems hTO2 rfl (wpAny_bind (wpAny_updateSeq_pair hTO2 λg3 hTO3 s3=>?_)))
  have e3:=s3.extBut
  refine wpAny_bind (wpAny_letGo (wpAny_pure ?_))
  refine wpAny_bind (wpAny_bind (wpAny_onRaise ?_))
  show wpAny _ _ (Builtin.SmallTypes.nextOf (.ref i2) >>= _) _ _ _
  refine wpAny_bind (wW hh (h2.to λo q=>e3 _ o D.TOi2.symm (e2 _ o D.i12.symm (e1 _ o D.i2z q))) (hl2.to λo q=>e3 _ o D.l2TO (e2 _ o D.l2i1 (e1 _ o D.l2z q))) hy λg4 e s4 he=>?_)
  obtain⟨oe,hoe,hce⟩:=he
  have hz4:IsZip g4 z TI TO .ellipsis:=s4 _ _ D.i2z.symm (e3 _ _ D.TOz.symm (e2 _ _ D.i1z.symm hz1))
  have hez:e≠z:=λx=>by subst x;rw [hz4] at hoe;cases hoe;simp at hce
  exact wpAny_setField_rec hz4 (by simp) λg5 _ s5=>fin g5 e (λc o c1 c2 c3 c4 x=>s5.extBut _ _ c1 (s4 _ _ c4 (e3 _ _ c2 (e2 _ _ c3 (e1 _ _ c1 x))))) ⟨oe,s5.extBut _ _ hez hoe,hce⟩
end
end L2
namespace L2
open PySem PySem.Spec PyProof.Rows
open PySem.AutoSeq1 (wpAny_loadPart')
noncomputable def BP (k:Bool):Value:=if k=true then .type "tuple_iterator" else .type "list_iterator"
noncomputable def nF (k:Bool) (l:Addr):Obj:={ cls:=BP k,data:=.fields #[.ref l,.int 0 0] }
abbrev zH1 (k:Bool) (h:Heap) (l1:Addr):Heap:=h.push (nF k l1)
abbrev zH2 (k k2:Bool) (h:Heap) (l1 l2:Addr):Heap:=(zH1 k h l1).push (nF k2 l2)
abbrev zH3 (k k2:Bool) (h:Heap) (l1 l2:Addr):Heap:=(zH2 k k2 h l1 l2).push { cls:=.type "tuple",data:=.seq #[.ref h.objs.size,.ref (zH1 k h l1).objs.size] }
abbrev zH4 (k k2:Bool) (h:Heap) (l1 l2:Addr):Heap:=(zH3 k k2 h l1 l2).push { cls:=.type "tuple",data:=.seq #[.none,.none] }
abbrev zH5 (k k2:Bool) (h:Heap) (l1 l2:Addr):Heap:=(zH4 k k2 h l1 l2).push { cls:=.type "zip",data:=.fields #[.none,.bool false,.bool false,.ref (zH2 k k2 h l1 l2).objs.size,.ref (zH3 k k2 h l1 l2).objs.size] }
section
variable {prog:Program}{w:World}{A:Around}{E:Value->Shared->Prop}{s:Shared}{k k2:Bool}
theorem qA {l:Addr}{xs:Array Value}{Q:Value->Shared->Prop} (hl:SIs k s.heap l xs) (h:Q (.ref s.heap.objs.size) { s with heap:=s.heap.push (nF k l) }):wpAny (model prog w) A (pyIter (.ref l)) Q E s:=by
 cases k with
 | true=>exact wpAny_pyIter_tuple hl h
 | false=>exact wpAny_pyIter_list hl h
theorem oh (l1 l2:Addr) (xs ys:Array Value) (k k2:Bool) :
  Meets (Builtin.«zip.__new__» ⟨[.type "zip",.ref l1,.ref l2],[]⟩) (λ_ R s=>SIs k s.heap l1 xs/\SIs k2 s.heap l2 ys/\R (.ok (.ret (.ref (zH4 k k2 s.heap l1 l2).objs.size))) { s with heap:=zH5 k k2 s.heap l1 l2 }):=
 .of_wp λprog w A R s h=>by
  obtain⟨hp,g,d,tk,os⟩:=s
  obtain⟨hl1,hl2,h⟩:=h
  have hsub:=sub_zip
  have hL1:SIs k (Shared.heap ⟨hp,g,d,tk,os⟩) l1 xs:=hl1
  have hL2:SIs k2 (Shared.heap ⟨hp.push (nF k l1),g,d,tk,os⟩) l2 ys:=hl2.to λo q=>Heap.get?_push_of_some _ q
  wp_walk using qA hL1,qA hL2
  exact⟨_,rfl,h⟩
theorem rS (k:Bool) {h:Heap}{it l:Addr} (e:h.get? it=some (nF k l)):SIt k h it l 0:=by
 cases k with
 | true=>exact⟨_,e,rfl,rfl⟩
 | false=>exact⟨_,e,rfl,rfl⟩
theorem pL {l1 l2:Addr}{xs ys:Array Value}{Q:Value->Shared->Prop} (hl1:SIs k s.heap l1 xs) (hl2:SIs k2 s.heap l2 ys)
  (h:∀ h',ZSt k k2 (s.heap.objs.size+4) (s.heap.objs.size+2) (s.heap.objs.size+3) s.heap.objs.size (s.heap.objs.size+1) l1 l2 .none 0 h'->
    (∀ c o,s.heap.get? c=some o->h'.get? c=some o)->Q (.ref (s.heap.objs.size+4)) { s with heap:=h' }) :
  wpAny (model prog w) A (call (.type "zip") [.ref l1,.ref l2]) Q E s:=by
 refine callType_new F.called_zip (by decide) (F.typeCall_zip_2 _ _) (F.newCall_zip_2 _ _) (λobj=>F.args_object_init_3 obj _ _) F.entry_zip_new (oh l1 l2 xs ys k k2) ⟨hl1,hl2,?_⟩
 have z1:(zH1 k s.heap l1).objs.size=s.heap.objs.size+1:=Heap.size_push ..
 have z2:(zH2 k k2 s.heap l1 l2).objs.size=s.heap.objs.size+2:=by rw [Heap.size_push,z1]
 have z3:(zH3 k k2 s.heap l1 l2).objs.size=s.heap.objs.size+3:=by rw [Heap.size_push,z2]
 have z4:(zH4 k k2 s.heap l1 l2).objs.size=s.heap.objs.size+4:=by rw [Heap.size_push,z3]
 have up:∀ {h:Heap}{o':Obj}{c:Addr}{o:Obj},h.get? c=some o->(h.push o').get? c=some o:=λe=>Heap.get?_push_of_some _ e
 have g5:(zH5 k k2 s.heap l1 l2).get? (zH4 k k2 s.heap l1 l2).objs.size=some _:=Heap.get?_push_size _ rfl
 have g4:(zH5 k k2 s.heap l1 l2).get? (zH3 k k2 s.heap l1 l2).objs.size=some _:=up (Heap.get?_push_size _ rfl)
 have g3:(zH5 k k2 s.heap l1 l2).get? (zH2 k k2 s.heap l1 l2).objs.size=some _:=up (up (Heap.get?_push_size _ rfl))
 have g2:(zH5 k k2 s.heap l1 l2).get? (zH1 k s.heap l1).objs.size=some (nF k2 l2):=up (up (up (Heap.get?_push_size _ rfl)))
 have g1:(zH5 k k2 s.heap l1 l2).get? s.heap.objs.size=some (nF k l1):=up (up (up (up (Heap.get?_push_size _ rfl))))
 show _/\_
 rw [z2,z3,z4] at g5
 rw [z1,z2] at g3
 rw [z3] at g4
 rw [z1] at g2
 rw [z4]
 exact⟨⟨_,g5,rfl⟩,h _ ⟨g5,g3,⟨_,_,g4⟩,rS k g1,rS k2 g2⟩ λc o x=>up (up (up (up (up x))))⟩
end
noncomputable def SqK (k:Bool) (K:PySem.W.Frag) (H:Hp) (a:Addr) (xs:List V):Prop:=match k with
 | true=>SqT K H a xs
 | false=>SqL K H a xs
noncomputable def Itz (S1 S2:Hp->List V->Prop):It:=
 ⟨λi H=>∃ xs ys x y,S1 H xs/\S2 H ys/\xs[i]?=some x/\ys[i]?=some y,λi H x H'=>∃ T v u,(∀ xs,S1 H xs->xs[i]?=some v)/\(∀ ys,S2 H ys->ys[i]?=some u)/\H T=none/\x=.ref T/\H'=upd H T (.tup [v,u]),
  λi H=>∃ xs ys,S1 H xs/\S2 H ys/\(xs[i]?=none\/ys[i]?=none)⟩
theorem Inv.seqK {X:Cx}{pins:List (Addr×Obj)}{σ:St}{H:Hp}{s:Shared}{k:Bool}{a:Addr}{xs:List V} (I:Inv X pins σ H s) (h:SqK k X.K H a xs):∃ its:List Value,aV xs its/\SIs k s.heap a its.toArray:=by
 cases k with
 | true=>obtain⟨its,r,p,_⟩:=I.tuple h;exact⟨its,r,p⟩
 | false=>obtain⟨its,r,p,_⟩:=I.list h;exact⟨its,r,p.isList⟩
theorem Inv.seqK_inj {X:Cx}{pins:List (Addr×Obj)}{σ:St}{H:Hp}{s:Shared}{k:Bool}{a:Addr}{xs ys:List V} (I:Inv X pins σ H s) (h:SqK k X.K H a xs) (h':SqK k X.K H a ys):xs=ys:=by
 cases k with
 | true=>exact I.tuple_inj h h'
 | false=>exact I.list_inj h h'
theorem vL {P:Program}{w:World}{K:PySem.W.Frag}{elts:List Expr}{kk:Nat}{pos:Pos}{k k2:Bool}{z TI TO i1 i2 l1 l2:Addr} (D:ZipApart z TI TO i1 i2 l1 l2) :
  sM P w K (.Tuple elts kk pos) (Itz (λH xs=>SqK k K H l1 xs) λH xs=>SqK k2 K H l2 xs) [z,TI,TO,i1,i2] z (λi h=>ZSt k k2 z TI TO i1 i2 l1 l2 .none i h) where
 mem:=by simp
 obj:=λi h st b hb=>by
  simp only [List.mem_cons,List.not_mem_nil,or_false] at hb
  rcases hb with rfl | rfl | rfl | rfl | rfl
  ·exact⟨_,st.z,λv z=>by cases z⟩
  ·exact⟨_,st.ti,λv z=>by cases z⟩
  ·obtain⟨a,b,e⟩:=st.to;exact⟨_,e,λv z=>by cases z⟩
  ·obtain⟨o,vs,e,d⟩:=st.t1.live;exact⟨o,e,λv z=>by rw [d] at z;cases z⟩
  ·obtain⟨o,vs,e,d⟩:=st.t2.live;exact⟨o,e,λv z=>by rw [d] at z;cases z⟩
 keep:=λi h h' st kp=>by
  obtain⟨a,b,e⟩:=st.to
  exact⟨kp z (by simp) _ st.z,kp TI (by simp) _ st.ti,⟨a,b,kp TO (by simp) _ e⟩,st.t1.to λo q=>kp i1 (by simp) o q,st.t2.to λo q=>kp i2 (by simp) o q⟩
 item:=by
  intro X hP hw hK hc i pins s σ H E I hf st hg
  subst hP hw hK
  obtain⟨xs,ys,x,y,hq1,hq2,hx,hy⟩:=hg
  obtain⟨us,rv1,p1⟩:=I.seqK hq1
  obtain⟨vs,rv2,p2⟩:=I.seqK hq2
  obtain⟨u,hu,ru⟩:=rv1.get hx
  obtain⟨v,hv,rv⟩:=rv2.get hy
  refine vN D st p1 p2 (x:=u) (y:=v) (by simpa using hu) (by simpa using hv) λh1 st1 hT hsz kp=>⟨_,rfl,?_⟩
  refine wpAny_letOwnedTupleGo_zip st1.z λh2 hz2 s2=>?_
  have e2:=s2.extBut
  obtain⟨c1,c2,hto⟩:=st1.to
  have nz:∀ b ∈ [z,TI,TO,i1,i2],b≠s.heap.objs.size:=λb hb e=>by
   obtain⟨o,ho,_⟩:=(show ∃ o,s.heap.get? b=some o/\True by
    simp only [List.mem_cons,List.not_mem_nil,or_false] at hb
    obtain⟨a',b',e'⟩:=st.to
    obtain⟨o1,_,q1,_⟩:=st.t1.live
    obtain⟨o2,_,q2,_⟩:=st.t2.live
    rcases hb with rfl | rfl | rfl | rfl | rfl
    ·exact⟨_,st.z,trivial⟩
    ·exact⟨_,st.ti,trivial⟩
    ·exact⟨_,e',trivial⟩
    ·exact⟨_,q1,trivial⟩
    ·exact⟨_,q2,trivial⟩)
   have:=Heap.lt_size ho
   rw [e] at this
   exact Nat.lt_irrefl _ this
  have hT2:eP h2 s.heap.objs.size #[u,v]:=⟨_,e2 _ _ (Ne.symm (nz z (by simp))) hT,rfl,⟨_,rfl⟩,rfl⟩
  refine⟨.ref s.heap.objs.size,upd H s.heap.objs.size (.tup [x,y]),?_,rfl,⟨s.heap.objs.size,x,y,λzs hz=>by rw [I.seqK_inj hz hq1];exact hx,λzs hz=>by rw [I.seqK_inj hz hq2];exact hy,I.hok.fresh (Nat.le_refl _),rfl,rfl⟩,?_,λb hb=>?_⟩
  ·have I2:Inv X pins σ (upd H s.heap.objs.size (.tup [x,y])) { s with heap:=h2,toks:=s.toks }:=I.turnsT (fp:=[z,TI,TO,i1,i2]) (h':=h2) (t':=s.toks) (its:=#[u,v]) hf (λb o hb q=>by
    simp only [List.mem_cons,List.not_mem_nil,or_false,not_or] at hb
    exact e2 b o hb.1 (kp b o hb.1 hb.2.2.1 hb.2.2.2.1 hb.2.2.2.2 q)) (Nat.le_refl _) hT2 (.cons ru (.cons rv .nil)) (by show 2<=sizeLine;decide)
   exact I2
  ·exact⟨hz2,e2 _ _ D.TIz st1.ti,⟨c1,c2,e2 _ _ D.TOz hto⟩,st1.t1.to λo q=>e2 _ o D.i1z q,st1.t2.to λo q=>e2 _ o D.i2z q⟩
  ·rw [upd_ne (nz b hb)];exact (hf b hb).1
 done:=by
  intro X hP hw hK hc i pins s σ H E I hf st hg
  subst hP hw hK
  obtain⟨xs,ys,hq1,hq2,hend⟩:=hg
  obtain⟨us,rv1,p1⟩:=I.seqK hq1
  obtain⟨vs,rv2,p2⟩:=I.seqK hq2
  have hl1:=rv1.length
  have hl2:=rv2.length
  refine yF (I.ok.hd hc) D st p1 p2 (by
   rcases hend with h | h
   ·left;rw [List.getElem?_eq_none_iff] at h;simp;lia
   ·right;rw [List.getElem?_eq_none_iff] at h;simp;lia) λh' kp=>⟨rfl,I.turns (t':=s.toks) (fp:=[z,TI,TO,i1,i2]) hf λb o hb q=>?_⟩
  simp only [List.mem_cons,List.not_mem_nil,or_false,not_or] at hb
  exact kp b o hb.1 hb.2.2.1 hb.2.2.2.1 hb.2.2.2.2 q
 self:=λ_ _ _ _ _ st h=>wpAny_pyIter_zip st.z h
noncomputable def BY (K:PySem.W.Frag) (k k2:Bool) (ta:TA):L2.TI:=λσ H R=>ta σ H λvs H1=>∃ a b,vs=[.ref a,.ref b]/\(∃ xs,SqK k K H1 a xs)/\(∃ xs,SqK k2 K H1 b xs)/\R (Itz (λH xs=>SqK k K H a xs) λH xs=>SqK k2 K H b xs) H1
theorem zE {X:Cx}{elts:List Expr}{kk:Nat}{tpos:Pos}{a b:Expr}{ta:TA}{p pos:Pos}{k k2:Bool} (hg:Gl X "zip") (hm:X.mg "zip" = none) (ha:PA X [a,b] ta) (hs:starEach [a,b] X.env=[(false,eval a X.env),(false,eval b X.env)]:=by rfl) (hs2:starEach [b] X.env=[(false,eval b X.env)]:=by rfl) :
  PI X (.Tuple elts kk tpos) (.Call (.Name "zip" p) [a,b] [] pos) (BY X.K k k2 ta):=by
 intro pins s σ H R I h
 refine Call_ (kC I hg hm boot_zip (PyProof.Rows.callWith_type1 (thn (ha pos pins s σ H _ I h) λus s1 ⟨vs,H1,I1,r1,q1⟩=>?_) (by rw [hs,hs2]) (by rw [hs2];rfl)))
 obtain⟨l,m,e,⟨xs,hq⟩,⟨ys,hq2⟩,q⟩:=q1
 subst e
 cases r1 with
 | cons r rr=>
  cases rr with
  | cons r' rr=>
   cases rr
   cases r
   cases r'
   obtain⟨us,rv1,p1⟩:=I1.seqK hq
   obtain⟨vs,rv2,p2⟩:=I1.seqK hq2
   have lt:∀ {k:Bool}{l:Addr}{us:Array Value},SIs k s1.heap l us->l < s1.heap.objs.size:=λ{k l us} hl=>by
    cases k with
    | true=>obtain⟨_,he,_⟩:=hl;exact Heap.lt_size he
    | false=>obtain⟨_,he,_⟩:=hl;exact Heap.lt_size he
   refine pL p1 p2 λh' hst hk=>wpAny_pyIter_zip hst.z ?_
   refine⟨_,[s1.heap.objs.size+4,s1.heap.objs.size+2,s1.heap.objs.size+3,s1.heap.objs.size,s1.heap.objs.size+1],_,_,H1,rfl,I1.kept (t':=s1.toks) hk,vL (zipApart_new (lt p1) (lt p2)),hst,λb hb=>?_,q⟩
   have hb':s1.heap.objs.size<=b:=by
    simp only [List.mem_cons,List.not_mem_nil,or_false] at hb
    rcases hb with rfl | rfl | rfl | rfl | rfl
    ·exact Nat.le_add_right _ 4
    ·exact Nat.le_add_right _ 2
    ·exact Nat.le_add_right _ 3
    ·exact Nat.le_refl _
    ·exact Nat.le_add_right _ 1
   exact I1.fpOk hb' (I1.hok.fresh hb')
noncomputable def jC:List D->List D->List D
 | d::ds,e::es=>.tup [d,e]::jC ds es
 | _,_=>[]
noncomputable def AA:W->Option (Bool×List D)
 | .d (.tup ds)=>some (true,ds)
 | .d (.lst ds)=>some (false,ds)
 | _=>none
noncomputable def d8 (af:Af):Lf
 | env,st=>(af env st).bind λr=>match r.1 with
  | [x,y]=>(AA x).bind λa=>(AA y).map λb=>(jC a.2 b.2,r.2)
  | _=>none
theorem jo:∀ (ds es:List D) (i:Nat),(jC ds es)[i]?=(ds[i]?).bind λd=>(es[i]?).map λe=>D.tup [d,e]
 | [],es,i=>by simp [jC]
 | d::ds,[],i=>by cases i<;>simp [jC]
 | d::ds,e::es,0=>by simp [jC]
 | d::ds,e::es,i+1=>by simpa [jC] using jo ds es i
theorem qN:∀ (ds es:List D),(jC ds es).length=min ds.length es.length
 | [],es=>by simp [jC]
 | d::ds,[]=>by simp [jC]
 | d::ds,e::es=>by simp [jC,qN ds es]
section
variable {K:PySem.W.Frag}{X:Cx}{a b:Expr}{pos:Pos}{af:Af}
theorem uM {st:Sto}{H:Hp}{φ:List Addr}{w:W}{v:V}{p:Bool×List D} (r:Rw K H φ w v) (e:AA w=some p) (S:Sr K H φ st):∃ a vs,v=.ref a/\SqK p.1 K H a vs/\(∀ H' φ',Fw φ φ' H H'->SqK p.1 K H' a vs)/\Rls K H φ p.2 vs:=by
 cases w with
 | h n=>cases e
 | d x=>
  cases x with
  | tup ds=>
   cases e
   obtain⟨a,us,rfl,hq,hr⟩:=r
   exact⟨a,us,rfl,(SqT.of hq),λH' φ' f=>(SqT.of hq).fw S f,hr⟩
  | lst ds=>
   cases e
   obtain⟨a,us,rfl,h0,hq,hr⟩:=r
   exact⟨a,us,rfl,.inl hq,λH' φ' f=>.inl (hq.fw f h0),hr⟩
  | _=>cases e
theorem zQ {S1 S2:Hp->List V->Prop}{ds es:List D}{vs us:List V}{φ:List Addr}{H:Hp} (h1:∀ H' φ',Fw φ φ' H H'->S1 H' vs) (h2:∀ H' φ',Fw φ φ' H H'->S2 H' us) (r1:∀ H' φ',Fw φ φ' H H'->Rls K H' φ' ds vs) (r2:∀ H' φ',Fw φ φ' H H'->Rls K H' φ' es us) :
  Yl K φ H (Itz S1 S2) (jC ds es):=by
 intro H2 φ2 st2 i f2 s2
 have q1:=h1 H2 φ2 f2
 have q2:=h2 H2 φ2 f2
 have w1:=r1 H2 φ2 f2
 have w2:=r2 H2 φ2 f2
 refine⟨λd hd=>?_,λhi=>⟨vs,us,q1,q2,?_⟩⟩
 ·rw [jo,Option.bind_eq_some_iff] at hd
  obtain⟨d1,hd1,hd⟩:=hd
  obtain⟨d2,hd2,rfl⟩:=Option.map_eq_some_iff.mp hd
  obtain⟨v,ev,rv⟩:=w1.get hd1
  obtain⟨u,eu,ru⟩:=w2.get hd2
  refine⟨⟨vs,us,v,u,q1,q2,ev,eu⟩,λx H' y=>?_⟩
  obtain⟨T,v',u',y1,y2,hT,rfl,rfl⟩:=y
  have z1:=y1 vs q1
  have z2:=y2 us q2
  rw [ev] at z1
  rw [eu] at z2
  cases z1
  cases z2
  exact⟨bB.new hT _,T,_,rfl,upd_same,_,_,rfl,rv.fw s2 (Fw.new hT),_,_,rfl,ru.fw s2 (Fw.new hT),rfl⟩
 ·rw [qN] at hi
  have l1:=w1.length
  have l2:=w2.length
  rw [List.getElem?_eq_none_iff,List.getElem?_eq_none_iff]
  lia
theorem kE {elts:List Expr}{k:Nat}{tpos p:Pos} (hg:Gl X "zip") (hm:X.mg "zip" = none) (ha:IA K X [a,b] af) (hs:aP a=true:=by rfl) (hs2:aP b=true:=by rfl) (hK:X.K=K:=by rfl) :
  II K X (.Tuple elts k tpos) (.Call (.Name "zip" p) [a,b] [] pos) (d8 af):=by
 subst hK
 refine⟨λenv st r hr=>?_⟩
 simp only [d8,Option.bind_eq_some_iff] at hr
 obtain⟨⟨ws,s1⟩,hy,hr⟩:=hr
 match ws,hr with
 | [x,y],hr=>
  simp only [Option.bind_eq_some_iff,Option.map_eq_some_iff] at hr
  obtain⟨p1,hp1,p2,hp2,rfl⟩:=hr
  refine (zE (k:=p1.1) (k2:=p2.1) hg hm (ha.run _ _ _ hy) (wI hs hs2) (jw hs2)).imp ?_
  rintro σ H R ⟨φ,hE,hS,q⟩
  refine⟨φ,hE,hS,λvs H1 φ1 f1 s1 w1=>?_⟩
  obtain⟨v,r,rfl,rx,v2,r',rfl,ry,rfl⟩:=w1
  obtain⟨a,us,rfl,hq,hq',hr⟩:=uM rx hp1 s1
  obtain⟨b,us2,rfl,hq2,hq2',hr2⟩:=uM ry hp2 s1
  exact⟨a,b,rfl,⟨us,hq⟩,⟨us2,hq2⟩,q _ H1 φ1 f1 s1 (zQ hq' hq2' (λH' φ' f=>hr.fw s1 f) λH' φ' f=>hr2.fw s1 f)⟩
end
end L2
namespace L2
open PySem PySem.Spec PyProof.Rows
section
variable {prog:Program}{w:World}{A:Around}{s:Shared}{I l S:Addr}{items:Array Value}{ns:List Int}{kw:List (Str×Value)}{R:Result->Shared->Prop}
variable {E:Value->Shared->Prop}
end
end L2
namespace L2
open PySem PySem.Spec PyProof.Rows
section
variable {K:PySem.W.Frag}{X:Cx}{e a b:Expr}{es:List Expr}{pos:Pos}{f fa fb:Ef}{af:Af}
end
end L2
namespace L2
open PySem PySem.Spec PyProof.Rows
section
variable {K:PySem.W.Frag}{X:Cx}
noncomputable def Bk (b:Bool):D->Bool
 | .bl c=>c==b
 | _=>false
noncomputable def we (_:Sto):W->W->Option D
 | .d x,.d (.bl b)=>some (.bl (!Bk b x))
 | _,_=>none
theorem nA {M:Model}{A:Around}{E:Value->Shared->Prop}{s:Shared}{Q:Value->Shared->Prop}{v:Value}{b:Bool} (hb:∀ id,v≠.builtin id) (h:Q (.bool (!(v==.bool b))) s):wpAny M A (compareOp .IsNot v (.bool b)) Q E s:=by
 cases v<;>first | exact wpAny_pure h | exact absurd rfl (hb _)
theorem BK {H:Hp}{φ:List Addr}{d:D}{v:V}{u:Value}{b:Bool} (r:Rl K H φ d v) (q:bJ v u):Bk b d=(u==.bool b):=by
 cases d with
 | bl c=>
  have r':v=.bl c:=r
  subst r'
  have q':u=.bool c:=q
  subst q'
  cases c<;>cases b<;>rfl
 | non=>have r':v=.non:=r;subst r';have q':u=.none:=q;subst q';rfl
 | int i=>have r':v=.int i:=r;subst r';obtain⟨t,rfl⟩:=q;rfl
 | str i=>have r':v=.str i:=r;subst r';obtain⟨t,rfl⟩:=q;rfl
 | ty i=>have r':v=.ty i:=r;subst r';have q':u=.type i:=q;subst q';rfl
 | dct=>obtain⟨a,rfl,_⟩:=r;have q':u=.ref a:=q;subst q';rfl
 | scr ns=>obtain⟨a,rfl,_⟩:=r;have q':u=.ref a:=q;subst q';rfl
 | tup ds=>obtain⟨a,vs,rfl,_⟩:=r;have q':u=.ref a:=q;subst q';rfl
 | lst ds=>obtain⟨a,vs,rfl,_⟩:=r;have q':u=.ref a:=q;subst q';rfl
 | ob ns ds=>obtain⟨a,_,_,_,vs,rfl,_⟩:=r;have q':u=.ref a:=q;subst q';rfl
theorem xK {H:Hp}{φ:List Addr}{d:D}{v:V}{u:Value} (r:Rl K H φ d v) (q:bJ v u):∀ id,u≠.builtin id:=by
 intro id e
 subst e
 cases d with
 | bl c=>have r':v=.bl c:=r;subst r';cases q
 | non=>have r':v=.non:=r;subst r';cases q
 | int i=>have r':v=.int i:=r;subst r';obtain⟨t,h⟩:=q;cases h
 | str i=>have r':v=.str i:=r;subst r';obtain⟨t,h⟩:=q;cases h
 | ty i=>have r':v=.ty i:=r;subst r';cases q
 | dct=>obtain⟨a,rfl,_⟩:=r;cases q
 | scr ns=>obtain⟨a,rfl,_⟩:=r;cases q
 | tup ds=>obtain⟨a,vs,rfl,_⟩:=r;cases q
 | lst ds=>obtain⟨a,vs,rfl,_⟩:=r;cases q
 | ob ns ds=>obtain⟨a,_,_,_,vs,rfl,_⟩:=r;cases q
theorem yb:OpD K X (compareOp .IsNot) we:=by
 refine⟨λst x y d h=>?_⟩
 match x,y,h with
 | .d x,.d (.bl b),h=>
  cases h
  intro pins s σ H vx vy v u Q I rx ry hq
  obtain⟨φ,S,r1,r2,q⟩:=hq
  have r2':vy=.bl b:=r2
  subst r2'
  have ry':u=.bool b:=ry
  subst ry'
  exact nA (xK r1 rx) (tU I (q _ H (bB.refl H) rfl) (by rw [BK r1 rx]))
end
end L2
namespace L2
open PySem PySem.Spec PyProof.Rows
section
variable {K:PySem.W.Frag}{X:Cx}{pos:Pos}{a b:Expr}{af:Af}
end
end L2
namespace L2
open PySem PySem.Spec PyProof.Rows
section
variable {K:PySem.W.Frag}{X:Cx}{pos:Pos}{e a b c:Expr}{es:List Expr}{f fa fb:Ef}{af:Af}
end
end L2
namespace L2
open PySem PySem.Spec PyProof.Rows
noncomputable def ay (f:Str) (a:Ef):Ef
 | env,st=>(a env st).bind λx=>match x.1 with
 | .d (.ob ns ds)=>((ns.zip ds).lookup f).map λd=>(.d d,x.2)
 | .h n=>(match x.2[n]? with
  | some (.o fs)=>(fs.lookup f).map λw=>(w,x.2)
  | _=>none)
 | _=>none
section
variable {K:PySem.W.Frag}{H:Hp}{φ:List Addr}
theorem rJ {f:Str}{d:D}:∀ {ns:List Str}{ds:List D}{vs:List V},Rls K H φ ds vs->(ns.zip ds).lookup f=some d->∃ v,(ns.zip vs).lookup f=some v/\Rl K H φ d v/\f ∈ ns
 | [],ds,vs,r,h=>by rw [List.zip_nil_left] at h;cases h
 | n::ns,[],vs,r,h=>by rw [List.zip_nil_right] at h;cases h
 | n::ns,x::ds,vs,r,h=>by
  obtain⟨v,r',rfl,r1,r2⟩:=r
  rw [List.zip_cons_cons,List.lookup_cons] at h ⊢
  by_cases e:(f==n)=true
  ·rw [e] at h ⊢
   cases h
   exact⟨v,rfl,r1,by rw [beq_iff_eq.mp e];exact List.mem_cons_self⟩
  ·rw [show (f==n)=false by simpa using e] at h ⊢
   obtain⟨v',h1,h2,h3⟩:=rJ r2 h
   exact⟨v',h1,h2,List.mem_cons_of_mem _ h3⟩
theorem Rfs.look {f:Str}{w:W}:∀ {fs:List (Str×W)}{vs:List (Str×V)},Rfs K H φ fs vs->fs.lookup f=some w->∃ v,vs.lookup f=some v/\Rw K H φ w v/\∃ p ∈ fs,p.1=f
 | [],vs,r,h=>by cases h
 | (n,x)::fs,vs,r,h=>by
  obtain⟨v,r',rfl,r1,r2⟩:=r
  rw [List.lookup_cons] at h ⊢
  by_cases e:(f==n)=true
  ·rw [e] at h ⊢
   cases h
   exact⟨v,rfl,r1,_,List.mem_cons_self,(beq_iff_eq.mp e).symm⟩
  ·rw [show (f==n)=false by simpa using e] at h ⊢
   obtain⟨v',h1,h2,p,hp,h3⟩:=Rfs.look r2 h
   exact⟨v',h1,h2,p,List.mem_cons_of_mem _ hp,h3⟩
theorem Rfs.length:∀ {fs:List (Str×W)}{vs:List (Str×V)},Rfs K H φ fs vs->fs.length=vs.length
 | [],vs,r=>by cases r;rfl
 | (n,x)::fs,vs,r=>by
  obtain⟨v,r',rfl,r1,r2⟩:=r
  rw [List.length_cons,List.length_cons,Rfs.length r2]
theorem Rfs.mem {m:Nat}:∀ {fs:List (Str×W)}{vs:List (Str×V)},Rfs K H φ fs vs->W.h m ∈ fs.map (·.2)->m < φ.length
 | [],_,_,hm=>nomatch hm
 | (n,x)::fs,_,r,hm=>by
  obtain⟨v,r',rfl,r1,r2⟩:=r
  rcases List.mem_cons.mp hm with z | z
  ·dsimp only at z
   subst z
   obtain⟨a,e,_⟩:=r1
   exact (List.getElem?_eq_some_iff.mp e).1
  ·exact Rfs.mem r2 z
noncomputable def lH (f:Str) (w:W):List (Str×W)->List (Str×W)
 | []=>[(f,w)]
 | (g,x)::r=>if g=f then (g,w)::r else (g,x)::lH f w r
theorem Rfs.put {f:Str}{w:W}{v:V} (rw':Rw K H φ w v):∀ {fs:List (Str×W)}{vs:List (Str×V)},Rfs K H φ fs vs->Rfs K H φ (lH f w fs) (ix f v vs)
 | [],_,r=>by cases r;exact⟨v,[],rfl,rw',rfl⟩
 | (g,x)::fs,_,r=>by
  obtain⟨v',r',rfl,r1,r2⟩:=r
  unfold lH ix
  by_cases e:g=f
  ·rw [if_pos e,if_pos e];exact⟨v,r',rfl,rw',r2⟩
  ·rw [if_neg e,if_neg e];exact⟨v',_,rfl,r1,Rfs.put rw' r2⟩
theorem mW {f:Str}{w:W}:∀ {fs:List (Str×W)}{p:Str×W},p ∈ lH f w fs->p ∈ fs\/p=(f,w)
 | [],p,h=>.inr (List.mem_singleton.mp h)
 | (g,x)::fs,p,h=>by
  unfold lH at h
  by_cases e:g=f
  ·rw [if_pos e] at h
   rcases List.mem_cons.mp h with z | z
   ·rw [e] at z;exact .inr z
   ·exact .inl (List.mem_cons_of_mem _ z)
  ·rw [if_neg e] at h
   rcases List.mem_cons.mp h with z | z
   ·exact .inl (z ▸ List.mem_cons_self)
   ·rcases mW z with z | z
    ·exact .inl (List.mem_cons_of_mem _ z)
    ·exact .inr z
theorem qI {f:Str}{v:V}:∀ {vs:List (Str×V)},f ∉ vs.map (·.1)->ix f v vs=vs++[(f,v)]
 | [],_=>rfl
 | (g,x)::vs,h=>by
  unfold ix
  rw [if_neg (by intro e;exact h (e ▸ List.mem_cons_self)),qI λz=>h (List.mem_cons_of_mem _ z)];rfl
theorem Rfs.keys:∀ {fs:List (Str×W)}{vs:List (Str×V)},Rfs K H φ fs vs->vs.map (·.1)=fs.map (·.1)
 | [],vs,r=>by cases r;rfl
 | (n,x)::fs,vs,r=>by
  obtain⟨v,r',rfl,r1,r2⟩:=r
  rw [List.map_cons,List.map_cons,Rfs.keys r2]
theorem Rfs.snoc {f:Str}{w:W}{v:V} (rw':Rw K H φ w v):∀ {fs:List (Str×W)}{vs:List (Str×V)},Rfs K H φ fs vs->Rfs K H φ (fs++[(f,w)]) (vs++[(f,v)])
 | [],_,r=>by cases r;exact⟨v,[],rfl,rw',rfl⟩
 | (g,x)::fs,_,r=>by
  obtain⟨v',r',rfl,r1,r2⟩:=r
  exact⟨v',_,rfl,r1,Rfs.snoc rw' r2⟩
end
section
variable {K:PySem.W.Frag}{X:Cx}{pos pos':Pos}{e o:Expr}{fa fb:Ef}{f:Str}
theorem aJ (h:IE K X e fa) (hb:attributeBase e f X.env (eval e X.env)=eval e X.env:=by rfl) (hK:X.K=K:=by rfl):IE K X (.Attribute e f pos) (ay f fa):=by
 subst hK
 refine⟨λenv st r hr=>?_⟩
 simp only [ay,Option.bind_eq_some_iff] at hr
 obtain⟨⟨x,s1⟩,hx,hr⟩:=hr
 refine (z6 (h.run _ _ _ hx) hb).imp ?_
 rintro σ H Q ⟨φ,hE,hS,q⟩
 refine⟨φ,hE,hS,λv H1 φ1 f1 s1' w1=>?_⟩
 cases x with
 | d x=>
  cases x with
  | ob ns ds=>
   obtain⟨d,hd,rfl⟩:=Option.map_eq_some_iff.mp hr
   obtain⟨a,Cl,dx,fs,vs,rfl,h0,h1,rfl,h3,h4,h5,h6,h7⟩:=w1
   obtain⟨u,hu,ru,hf⟩:=rJ h7 hd
   exact⟨a,Cl,dx,_,u,rfl,h1,h5,h6 f hf,hu,q u H1 φ1 f1 s1' ru⟩
  | _=>cases hr
 | h n=>
  dsimp only at hr
  split at hr
  ·rename_i fs hfs
   obtain⟨w,hw,rfl⟩:=Option.map_eq_some_iff.mp hr
   obtain⟨a,ea,rfl⟩:=w1
   obtain⟨Cl,dx,vs,h1,h2,h3,h4,h5⟩:=s1'.at_ n a _ ea hfs
   obtain⟨u,hu,ru,p,hp,rfl⟩:=h2.look hw
   exact⟨a,Cl,dx,vs,u,rfl,h1,h4,h5 p hp,hu,q u H1 φ1 f1 s1' ru⟩
  ·cases hr
noncomputable def kc (f:Str) (o v:Ef):Sf
 | env,st=>(v env st).bind λrv=>(o env rv.2).bind λro=>match ro.1,rv.1 with
 | .h n,.d x=>(match ro.2[n]? with
  | some (.o fs)=>if fs.length < 1000/\(fs.lookup f).isSome=true then some (.nx env (ro.2.set n (.o (lH f (.d x) fs)))) else none
  | _=>none)
 | _,_=>none
theorem pE (ho:IE K X o fa) (hv:IE K X e fb) (hs:swapsWith e (some (.Attribute o f pos')) pos.line X.env=pure false:=by rfl) (hK:X.K=K:=by rfl):IS K X (.Assign [.Attribute o f pos'] e pos) (kc f fa fb):=by
 subst hK
 refine⟨λenv st r hr=>?_⟩
 simp only [kc,Option.bind_eq_some_iff] at hr
 obtain⟨⟨rv,s1⟩,ev,⟨ro,s2⟩,eo,hr⟩:=hr
 cases ro with
 | d x=>cases hr
 | h n=>
  cases rv with
  | h m=>cases hr
  | d x=>
   dsimp only at hr
   split at hr
   case h_2=>cases hr
   rename_i fs hfs
   split at hr
   case isFalse=>cases hr
   rename_i hc
   cases hr
   refine (wE (ho.run _ _ _ eo) (hv.run _ _ _ ev) hs).imp ?_
   rintro D σ H ⟨φ,hE,hS,q⟩
   refine⟨φ,hE,hS,λv H1 φ1 f1 s1 w1=>⟨φ1,hE.fw hS f1,s1,λu H2 φ2 f2 s2 w2=>?_⟩⟩
   obtain⟨a,ea,rfl⟩:=w2
   obtain⟨Cl,dx,vs,h1,h2,h3,h4,h5⟩:=s2.at_ n a _ ea hfs
   obtain⟨w0,hw0⟩:=Option.isSome_iff_exists.mp hc.2
   obtain⟨u0,hu0,ru0,p,hp,hpf⟩:=h2.look hw0
   have na:d5 X.K Cl f:=hpf ▸ h5 p hp
   refine⟨a,Cl,dx,vs,rfl,h1,h4,na,by rw [<-h2.length];exact hc.1,?_⟩
   have w1':=w1.fw s1 f2
   have k1:∀ m,W.h m ∈ (lH f (.d x) fs).map (·.2)->m < n:=λm hm=>by
    obtain⟨p',hp',e'⟩:=List.mem_map.mp hm
    rcases mW hp' with z | z
    ·exact h3 m (e' ▸ List.mem_map_of_mem (f:=(·.2)) z)
    ·rw [z] at e';cases e'
   have k2:∀ p' ∈ lH f (.d x) fs,d5 X.K Cl p'.1:=λp' hp'=>by
    rcases mW hp' with z | z
    ·exact h5 p' z
    ·rw [z];exact na
   obtain⟨f3,s3⟩:=s2.putC (o:=.ins Cl dx (ix f v vs)) (c:=.o (lH f (.d x) fs)) ea λg=>⟨Cl,dx,_,upd_same,(Rfs.put w1' h2).fw s2 g,k1,h4,k2⟩
   exact q σ _ φ2 ((f1.trans f2).trans f3) (((hE.fw hS f1).fw s1 f2).fw s2 f3) s3
end
section
variable {K:PySem.W.Frag}{X:Cx}{pos:Pos}{a e:Expr}{fa:Ef}{af:Af}
noncomputable def wo (o:Ef) (a:Af):Ef
 | env,st=>(o env st).bind λx=>(a env x.2).bind λr=>match x.1,r.1 with
 | .d (.lst ds),[.d (.int k)]=>(jO ds).bind λns=>if ns.length<=1000 then (ns.idxOf? k).map λj=>(.d (.int (j:Nat)),r.2) else none
 | _,_=>none
noncomputable def Cb (X:Cx):V->List V->Hp->VK->Prop:=λx xs H Q=>∃ (p:Addr) (ns:List Int) (k:Int) (j:Nat),x=.ref p/\xs=[.int k]/\SqL X.K H p (ns.map V.int)/\ns.length<=1000/\ns.idxOf? k=some j/\Q (.int (j:Nat)) H
theorem zy:∀ {ns:List Int}{k:Int}{j:Nat},ns.idxOf? k=some j->j < ns.length/\ns[j]?=some k/\∀ i,i < j->ns[i]?≠some k:=by
 intro ns k j h
 have h1:=List.idxOf?_eq_some_iff.mp h
 obtain⟨h2,h3,h4⟩:=h1
 refine⟨h2,by rw [List.getElem?_eq_getElem h2,h3],λi hi z=>?_⟩
 have hi':i < ns.length:=Nat.lt_trans hi h2
 rw [List.getElem?_eq_getElem hi'] at z
 exact h4 i hi (Option.some.inj z)
theorem zH:MtR X "list.index" (Cb X):=by
 intro pins s σ H x xs v us Q I rx rv h
 obtain⟨p,ns,k,j,rfl,rfl,hq,hl,hj,q⟩:=h
 cases rx
 obtain⟨u,rfl,ru⟩:=rv.one
 obtain⟨t,rfl⟩:=ru
 obtain⟨its,r,pl,hz⟩:=I.list hq
 obtain⟨j1,j2,j3⟩:=zy hj
 have hlen:its.length=ns.length:=by rw [<-r.length,List.length_map]
 have at_:∀ (i:Nat) (hi:i < its.length),∃ t,∃ hn:i < ns.length,its[i]=.int ns[i] t:=λi hi=>by
  obtain⟨h',q'⟩:=r.at i hi
  have hn:i < ns.length:=by rw [<-hlen];exact hi
  have e:(ns.map V.int)[i]=V.int ns[i]:=List.getElem_map ..
  rw [e] at q'
  obtain⟨t,e'⟩:=q'
  exact⟨t,hn,e'⟩
 obtain⟨⟨c,dd,dt,sl⟩,eo,hc,n,hd⟩:=pl.isList
 simp only at hc hd
 subst hc hd
 have hj2:j < its.length:=by rw [hlen];exact j1
 refine call_meets PySem.F.slot_list_index ⟨_,eo,rfl⟩ PySem.F.entry_list_index (PySem.F.args_list_index_2 _ _) (PySem.SeqAt.list_indexAt p its.toArray n dd sl (.int k t) (isInt k) j (by simpa using hj2) (by lia) ?_ (λm hm hlt=>?_)) ⟨eo,λy hy=>(eq_isInt k t (tm r) y (by simpa using hy)).at _ _,?_⟩
 ·obtain⟨t',hn,e⟩:=at_ j hj2
  rw [List.getElem?_eq_getElem hn] at j2
  have:its.toArray[j]'(by simpa using hj2)=.int k t':=by simpa [Option.some.inj j2] using e
  rw [this]
  simp [isInt]
 ·have hm2:m < its.length:=by simpa using hm
  obtain⟨t',hn,e⟩:=at_ m hm2
  have:its.toArray[m]'hm=.int ns[m] t':=by simpa using e
  rw [this]
  have:=j3 m hlt
  rw [List.getElem?_eq_getElem hn] at this
  have hne:ns[m]≠k:=λz=>this (by rw [z])
  simp [isInt,hne]
 ·exact⟨.int (j:Nat),H,I.kept (t':=s.toks+1) λb o e=>e,⟨_,rfl⟩,q⟩
theorem zq {apos:Pos} (ho:IE K X a fa) (ha:IA K X [e] af) (hbase:attributeBase a "index" X.env (eval a X.env)=eval a X.env:=by rfl)
  (hall:[e].all aP=true:=by rfl) (hline:(apos.endLine==pos.line)=true:=by rfl) (hK:X.K=K:=by rfl) :
  IE K X (.Call (.Attribute a "index" apos) [e] [] pos) (wo fa af):=by
 subst hK
 have hall2:aP e=true:=by rw [List.all_cons,Bool.and_eq_true] at hall;exact hall.1
 refine⟨λenv st r hr'=>?_⟩
 simp only [wo,Option.bind_eq_some_iff] at hr'
 obtain⟨⟨x,s1⟩,hx,⟨ws,s2⟩,hw,hr'⟩:=hr'
 match x,ws,hr' with
 | .d (.lst ds),[.d (.int k)],hr'=>
  simp only [Option.bind_eq_some_iff] at hr'
  obtain⟨ns,hns,hr'⟩:=hr'
  split at hr'
  case isFalse=>cases hr'
  rename_i hl
  obtain⟨j,hj,rfl⟩:=Option.map_eq_some_iff.mp hr'
  have hds:=jL hns
  subst hds
  refine (yK PySem.F.plainAttrs_list PySem.F.slot_list_index PySem.F.type_list_index zH (ho.run _ _ _ hx) (ha.run _ _ _ hw) hbase (qW hall (by show 1 < 30;decide)) hline (bI hall2) (cO rfl)).imp ?_
  rintro σ H Q ⟨φ,hE,hS,q⟩
  refine⟨φ,hE,hS,λv H1 φ1 f1 S1 w1=>?_⟩
  obtain⟨p,vs,rfl,h0,hq,hrl⟩:=w1
  have ev:=Rls.ints hrl
  subst ev
  refine⟨.inl ⟨rfl,_,.inl hq⟩,φ1,hE.fw hS f1,S1,λus H2 φ2 f2 S2 w2=>?_⟩
  obtain⟨y,us',rfl,ry,rfl⟩:=w2
  cases (show y=.int k from ry)
  exact⟨p,ns,k,j,rfl,rfl,.inl (hq.fw f2 h0),hl,hj,q _ H2 φ2 (f1.trans f2) S2 rfl⟩
end
end L2
namespace L2
open PySem PySem.Spec PyProof.Rows
section
variable {K:PySem.W.Frag}{H:Hp}{φ ψ:List Addr}{x Cl dx:Addr}{xs:List (Str×V)}{o:HO}
theorem Rl.chx (hx:H x=some (.ins Cl dx xs)) (hl:xs.length<=5) (hψ:∀ a ∈ ψ,a=x):∀ {d:D}{v:V},Rl K H φ d v->Rl K (upd H x o) (φ++ψ) d v:=by
 have ne:∀ {a:Addr}{u:HO},H a=some u->(∀ C d f,u≠.ins C d f)->a≠x:=λ{a u} h q z=>by
  subst z
  rw [hx] at h
  cases h
  exact q _ _ _ rfl
 have nin:∀ {a:Addr},a≠x->a ∉ φ->a ∉ φ++ψ:=λ{a} n h z=>by
  rcases List.mem_append.mp z with z | z
  ·exact h z
  ·exact n (hψ a z)
 intro d v
 refine (?_:∀ v,Rl K H φ d v->Rl K (upd H x o) (φ++ψ) d v) v
 refine D.rec (motive_1:=λd=>∀ v,Rl K H φ d v->Rl K (upd H x o) (φ++ψ) d v) (motive_2:=λds=>∀ vs,Rls K H φ ds vs->Rls K (upd H x o) (φ++ψ) ds vs) ?_ ?_ ?_ ?_ ?_ ?_ ?_ ?_ ?_ ?_ ?_ ?_ d
 ·exact λv h=>h
 ·exact λb v h=>h
 ·exact λb v h=>h
 ·exact λb v h=>h
 ·exact λb v h=>h
 ·rintro v ⟨a,e,hn,h⟩
  rcases h with⟨d,h⟩ | ⟨d,h⟩
  ·have n:=ne h (by intros;simp)
   exact⟨a,e,nin n hn,.inl ⟨d,by rw [upd_ne n];exact h⟩⟩
  ·have n:=ne h (by intros;simp)
   exact⟨a,e,nin n hn,.inr ⟨d,by rw [upd_ne n];exact h⟩⟩
 ·rintro ns v ⟨a,e,h⟩
  rcases h with⟨ob,h⟩ | h
  ·have n:=ne h (by intros;simp)
   exact⟨a,e,.inl ⟨ob,by rw [upd_ne n];exact h⟩⟩
  ·exact⟨a,e,.inr h⟩
 ·rintro ds ih v ⟨a,vs,rfl,h1,h2⟩
  have n:=ne h1 (by intros;simp)
  exact⟨a,vs,rfl,by rw [upd_ne n];exact h1,ih vs h2⟩
 ·rintro ds ih v ⟨a,vs,rfl,h0,h1,h2⟩
  rcases h1 with h1 | ⟨ob,h1⟩
  ·have n:=ne h1 (by intros;simp)
   exact⟨a,vs,rfl,nin n h0,.inl (by rw [upd_ne n];exact h1),ih vs h2⟩
  ·have n:=ne h1 (by intros;simp)
   exact⟨a,vs,rfl,nin n h0,.inr ⟨ob,by rw [upd_ne n];exact h1⟩,ih vs h2⟩
 ·rintro ns ds ih v ⟨a,C',dx',fs,vs,rfl,h0,h1,h2,h3,h4,h5,h7,h6⟩
  have n:a≠x:=λz=>by
   subst z
   rw [hx] at h1
   cases h1
   rw [h2,List.length_zip] at hl
   lia
  exact⟨a,C',dx',fs,vs,rfl,nin n h0,by rw [upd_ne n];exact h1,h2,h3,h4,h5,h7,ih vs h6⟩
 ·exact λvs h=>h
 ·rintro d ds ih1 ih2 vs ⟨v,r,rfl,h1,h2⟩;exact⟨v,r,rfl,ih1 v h1,ih2 r h2⟩
variable (hx:H x=some (.ins Cl dx xs)) (hl:xs.length<=5) (hψ:∀ a ∈ ψ,a=x)
include hx hl hψ
theorem Rls.chx:∀ {ds:List D}{vs:List V},Rls K H φ ds vs->Rls K (upd H x o) (φ++ψ) ds vs
 | [],_,h=>h
 | d::ds,_,h=>by
  obtain⟨v,r,rfl,h1,h2⟩:=h
  exact⟨v,r,rfl,Rl.chx hx hl hψ h1,Rls.chx h2⟩
theorem Rw.chx {w:W}{v:V} (h:Rw K H φ w v):Rw K (upd H x o) (φ++ψ) w v:=by
 cases w with
 | d y=>exact Rl.chx hx hl hψ h
 | h n=>
  obtain⟨a,e,rfl⟩:=h
  exact⟨a,by rw [List.getElem?_append_left (List.getElem?_eq_some_iff.mp e).1];exact e,rfl⟩
theorem Rws.chx:∀ {ds:List W}{vs:List V},Rws K H φ ds vs->Rws K (upd H x o) (φ++ψ) ds vs
 | [],_,h=>h
 | d::ds,_,h=>by
  obtain⟨v,r,rfl,h1,h2⟩:=h
  exact⟨v,r,rfl,Rw.chx hx hl hψ h1,Rws.chx h2⟩
theorem Rkv.chx:∀ {ds:List (List Int×D)}{vs:List (List Key×V)},Rkv K H φ ds vs->Rkv K (upd H x o) (φ++ψ) ds vs
 | [],_,h=>h
 | (k,d)::ds,_,h=>by
  obtain⟨v,r,rfl,h1,h2⟩:=h
  exact⟨v,r,rfl,Rl.chx hx hl hψ h1,Rkv.chx h2⟩
theorem Rkk.chx:∀ {ds:List (Int×D)}{vs:List (Key×V)},Rkk K H φ ds vs->Rkk K (upd H x o) (φ++ψ) ds vs
 | [],_,h=>h
 | (k,d)::ds,_,h=>by
  obtain⟨v,r,rfl,h1,h2⟩:=h
  exact⟨v,r,rfl,Rl.chx hx hl hψ h1,Rkk.chx h2⟩
theorem Rfs.chx:∀ {ds:List (Str×W)}{vs:List (Str×V)},Rfs K H φ ds vs->Rfs K (upd H x o) (φ++ψ) ds vs
 | [],_,h=>h
 | (k,d)::ds,_,h=>by
  obtain⟨v,r,rfl,h1,h2⟩:=h
  exact⟨v,r,rfl,Rw.chx hx hl hψ h1,Rfs.chx h2⟩
theorem Rc.chx {k:Nat}{a:Addr}{c:C} (ha:a≠x) (h:Rc K H φ k a c):Rc K (upd H x o) (φ++ψ) k a c:=by
 cases c with
 | l ds=>obtain⟨vs,q,r⟩:=h;exact⟨vs,by rw [upd_ne ha];exact q,Rls.chx hx hl hψ r⟩
 | n ds=>obtain⟨vs,q,r,b⟩:=h;exact⟨vs,by rw [upd_ne ha];exact q,Rws.chx hx hl hψ r,b⟩
 | m ds=>obtain⟨vs,q,r⟩:=h;exact⟨vs,by rw [upd_ne ha];exact q,Rkv.chx hx hl hψ r⟩
 | k ds=>obtain⟨vs,q,r⟩:=h;exact⟨vs,by rw [upd_ne ha];exact q,Rkk.chx hx hl hψ r⟩
 | o ds=>obtain⟨C',d',vs,q,r,b⟩:=h;exact⟨C',d',vs,by rw [upd_ne ha];exact q,Rfs.chx hx hl hψ r,b⟩
theorem Er.chx {env:Ev}{σ:St} (h:Er K H φ env σ):Er K (upd H x o) (φ++ψ) env σ:=
 ⟨h.len,λi w e=>let ⟨v,e1,r⟩:=h.at_ i w e;⟨v,e1,Rw.chx hx hl hψ r⟩⟩
end
section
variable {K:PySem.W.Frag}{H:Hp}{φ:List Addr}{x Cl dx:Addr}{xs:List (Str×V)}{o:HO}{st:Sto}
theorem Sr.chx0 (S:Sr K H φ st) (hx:H x=some (.ins Cl dx xs)) (hl:xs.length<=5) (hn:x ∉ φ):Sr K (upd H x o) φ st:=by
 have e0:φ++[]=φ:=List.append_nil _
 refine⟨S.nd,S.len,λn a c e1 e2=>?_⟩
 have:=Rc.chx (o:=o) (ψ:=[]) hx hl (λa z=>nomatch z) (λz=>hn (z ▸ List.mem_of_getElem? e1)) (S.at_ n a c e1 e2)
 rw [e0] at this
 exact this
theorem Sr.chx1 (S:Sr K H φ st) (hx:H x=some (.ins Cl dx xs)) (hl:xs.length<=5) (hn:x ∉ φ) {c:C} (hc:Rc K (upd H x o) (φ++[x]) st.length x c):Sr K (upd H x o) (φ++[x]) (st++[c]):=by
 refine⟨List.nodup_append.mpr ⟨S.nd,List.nodup_cons.mpr ⟨List.not_mem_nil,List.nodup_nil⟩,λa ha b hb z=>by rw [List.mem_singleton.mp hb] at z;exact hn (z ▸ ha)⟩,by rw [List.length_append,List.length_append,S.len];rfl,λn a c' e1 e2=>?_⟩
 by_cases h:n < φ.length
 ·rw [List.getElem?_append_left h] at e1
  rw [List.getElem?_append_left (by rw [<-S.len];exact h)] at e2
  exact Rc.chx hx hl (λa z=>List.mem_singleton.mp z) (λz=>hn (z ▸ List.mem_of_getElem? e1)) (S.at_ n a c' e1 e2)
 ·have h1:n < (φ++[x]).length:=(List.getElem?_eq_some_iff.mp e1).1
  rw [List.length_append,List.length_singleton] at h1
  have hn':n=φ.length:=by lia
  subst hn'
  rw [List.getElem?_append_right (Nat.le_refl _),Nat.sub_self] at e1
  rw [S.len,List.getElem?_append_right (Nat.le_refl _),Nat.sub_self] at e2
  cases e1
  cases e2
  rw [S.len]
  exact hc
end
noncomputable def pv:List (Str×Ef)->Ev->Sto->Option (List (Str×W)×Sto)
 | [],_,st=>some ([],st)
 | (f,g)::r,env,st=>(g env st).bind λx=>(pv r env x.2).map λy=>((f,x.1)::y.1,y.2)
structure FwX (x:Addr) (φ φ':List Addr) (H H':Hp):Prop where
 ext:∃ ψ,φ'=φ++ψ/\∀ a ∈ ψ,H a=none\/a=x
 keep:∀ b o,b ∉ φ->b≠x->H b=some o->H' b=some o
 there:∀ b o,H b=some o->∃ o',H' b=some o'
theorem FwX.pre {x:Addr}{φ φ1 φ2:List Addr}{H H1 H2:Hp}{o o':HO} (hx:H x=some o') (hn:x ∉ φ1) (f:Fw φ φ1 H H1) (g:FwX x φ1 φ2 (upd H1 x o) H2):FwX x φ φ2 H H2:=by
 obtain⟨ψ,rfl,e1⟩:=f.ext
 obtain⟨ψ2,rfl,e2⟩:=g.ext
 have th:∀ b u,H b=some u->∃ u',upd H1 x o b=some u':=λb u h=>by
  by_cases z:b=x
  ·exact⟨o,by rw [z,upd_same]⟩
  ·obtain⟨u',h'⟩:=f.there b u h
   exact⟨u',by rw [upd_ne z];exact h'⟩
 refine⟨⟨ψ++ψ2,by rw [List.append_assoc],λc hc=>?_⟩,λc u hc hcx h=>?_,λc u h=>?_⟩
 ·rcases List.mem_append.mp hc with z | z
  ·exact .inl (e1 c z)
  ·rcases e2 c z with q | q
   ·left
    cases q':H c with
    | none=>rfl
    | some u=>
     obtain⟨u',h'⟩:=th c u q'
     rw [q] at h';cases h'
   ·exact .inr q
 ·refine g.keep c u (λz=>?_) hcx (by rw [upd_ne hcx];exact f.keep c u hc h)
  rcases List.mem_append.mp z with z | z
  ·exact hc z
  ·rw [e1 c z] at h;cases h
 ·obtain⟨u',h'⟩:=th c u h
  exact g.there c u' h'
noncomputable def Cf (K:PySem.W.Frag) (g:List (Str×Ef)) (env:Ev) (st:Sto) (y:List (Str×W)×Sto):TS:=λD σ H=>∃ φ x Cl dx xs fs,Er K H φ env σ/\Sr K H φ st/\σ[0]?=some (some (.ref x))/\x ∉ φ/\H x=some (.ins Cl dx xs)/\Rfs K H φ fs xs/\
 Cls K Cl/\(∀ p ∈ fs,d5 K Cl p.1)/\(∀ p ∈ g,d5 K Cl p.1)/\fs.length+g.length=6/\(∀ p ∈ g,p.1 ∉ fs.map (·.1))/\(g.map (·.1)).Nodup/\
 ∀ H' φ',FwX x φ φ' H H'->Sr K H' φ' (y.2++[.o (fs++y.1)])->φ'[y.2.length]?=some x->D.nx σ H'
structure INI (K:PySem.W.Frag) (X:Cx) (ss:List Stmt) (g:List (Str×Ef)):Prop where
 run:∀ env st y,pv g env st=some y->PSs X ss (Cf K g env st y)
section
variable {K:PySem.W.Frag}{X:Cx}{e:Expr}{fe:Ef}{f:Str}{ss:List Stmt}{g:List (Str×Ef)}{pos pos' p1:Pos}
theorem rg {env:Ev}{st:Sto}{w:W}{s1:Sto} (h0:X.N[0]?=some ("self" : Str)) (hv:Vis X.env.scope "self") (he:IE K X e fe) (hx:fe env st=some (w,s1)) (hK:X.K=K)
  (hs:swapsWith e (some (.Attribute (.Name "self" p1) f pos')) pos.line X.env=pure false) :
  PS X (.Assign [.Attribute (.Name "self" p1) f pos'] e pos) (λD σ H=>∃ φ x Cl dx xs,Er K H φ env σ/\Sr K H φ st/\σ[0]?=some (some (.ref x))/\x ∉ φ/\H x=some (.ins Cl dx xs)/\Cls K Cl/\d5 K Cl f/\xs.length<=5/\f ∉ xs.map (·.1)/\
   ∀ v H1 φ1,Fw φ φ1 H H1->Sr K H1 φ1 s1->Rw K H1 φ1 w v->x ∉ φ1->H1 x=some (.ins Cl dx xs)->D.nx σ (upd H1 x (.ins Cl dx (xs++[(f,v)])))):=by
 subst hK
 refine (wE (kq h0 hv) (he.run _ _ _ hx) hs).imp ?_
 rintro D σ H ⟨φ,x,Cl,dx,xs,hE,hS,h1,h2,h3,h4,h5,h6,h7,q⟩
 refine⟨φ,hE,hS,λv H1 φ1 f1 s1' w1=>⟨_,h1,x,Cl,dx,xs,rfl,f1.keep _ _ h2 h3,h4,h5,by lia,?_⟩⟩
 rw [qI h7]
 exact q v H1 φ1 f1 s1' w1 (f1.nin h2 h3) (f1.keep _ _ h2 h3)
theorem xX (h0:X.N[0]?=some ("self" : Str)) (hv:Vis X.env.scope "self") (he:IE K X e fe) (hK:X.K=K:=by rfl)
  (hs:swapsWith e (some (.Attribute (.Name "self" p1) f pos')) pos.line X.env=pure false:=by rfl):INI K X [.Assign [.Attribute (.Name "self" p1) f pos'] e pos] [(f,fe)]:=by
 refine⟨λenv st y hy=>?_⟩
 simp only [pv,Option.bind_eq_some_iff,Option.map_some] at hy
 obtain⟨⟨w,s1⟩,hx,hy⟩:=hy
 cases hy
 refine (uy (rg h0 hv he hx hK hs)).imp ?_
 rintro D σ H ⟨φ,x,Cl,dx,xs,fs,hE,hS,h1,h2,h3,h4,h5,h6,h7,h8,h9,h10,q⟩
 have hl:xs.length=5:=by rw [<-h4.length];simpa using h8
 have nf:f ∉ xs.map (·.1):=by rw [h4.keys];exact h9 _ List.mem_cons_self
 refine⟨φ,x,Cl,dx,xs,hE,hS,h1,h2,h3,h5,h7 _ List.mem_cons_self,by lia,nf,λv H1 φ1 f1 s1' w1 hn hx1=>?_⟩
 have r1:=h4.fw hS f1
 have r2:=Rfs.chx (o:=.ins Cl dx (xs++[(f,v)])) (ψ:=[x]) hx1 (by lia) (λa z=>List.mem_singleton.mp z) r1
 have w2:=Rw.chx (o:=.ins Cl dx (xs++[(f,v)])) (ψ:=[x]) hx1 (by lia) (λa z=>List.mem_singleton.mp z) w1
 have r3:=Rfs.snoc (f:=f) w1 r1
 have hc:Rc K (upd H1 x (.ins Cl dx (xs++[(f,v)]))) (φ1++[x]) s1.length x (.o (fs++[(f,w)])):=⟨Cl,dx,_,upd_same,Rfs.snoc w2 r2,λm hm=>by rw [<-s1'.len];exact r3.mem hm,h5,λp hp=>by
  rcases List.mem_append.mp hp with z | z
  ·exact h6 p z
  ·rw [List.mem_singleton.mp z];exact h7 _ List.mem_cons_self⟩
 refine q _ (φ1++[x]) ?_ (s1'.chx1 hx1 (by lia) hn hc) (by rw [<-s1'.len,List.getElem?_append_right (Nat.le_refl _),Nat.sub_self];rfl)
 refine FwX.pre h3 hn f1 ⟨⟨[x],rfl,λa z=>.inr (List.mem_singleton.mp z)⟩,λb o _ _ h=>h,λb o h=>⟨o,h⟩⟩
theorem jP (h0:X.N[0]?=some ("self" : Str)) (hv:Vis X.env.scope "self") (he:IE K X e fe) (hr:INI K X ss g) (hg:g≠[]:=by intro z;cases z) (hK:X.K=K:=by rfl)
  (hs:swapsWith e (some (.Attribute (.Name "self" p1) f pos')) pos.line X.env=pure false:=by rfl):INI K X (.Assign [.Attribute (.Name "self" p1) f pos'] e pos::ss) ((f,fe)::g):=by
 refine⟨λenv st y hy=>?_⟩
 simp only [pv,Option.bind_eq_some_iff] at hy
 obtain⟨⟨w,s1⟩,hx,hy⟩:=hy
 obtain⟨y',hy',rfl⟩:=Option.map_eq_some_iff.mp hy
 refine (fP (rg h0 hv he hx hK hs) (hr.run _ _ _ hy')).imp ?_
 rintro D σ H ⟨φ,x,Cl,dx,xs,fs,hE,hS,h1,h2,h3,h4,h5,h6,h7,h8,h9,h10,q⟩
 have hg1:1<=g.length:=List.length_pos_iff.mpr hg
 have hl:xs.length<=4:=by rw [<-h4.length];rw [List.length_cons] at h8;lia
 have nf:f ∉ xs.map (·.1):=by rw [h4.keys];exact h9 _ List.mem_cons_self
 refine⟨φ,x,Cl,dx,xs,hE,hS,h1,h2,h3,h5,h7 _ List.mem_cons_self,by lia,nf,λv H1 φ1 f1 s1' w1 hn hx1=>?_⟩
 have e0:φ1++[]=φ1:=List.append_nil _
 have r2:=Rfs.chx (o:=.ins Cl dx (xs++[(f,v)])) (ψ:=[]) hx1 (by lia) (λa z=>nomatch z) (h4.fw hS f1)
 have w2:=Rw.chx (o:=.ins Cl dx (xs++[(f,v)])) (ψ:=[]) hx1 (by lia) (λa z=>nomatch z) w1
 have hE2:=Er.chx (o:=.ins Cl dx (xs++[(f,v)])) (ψ:=[]) hx1 (by lia) (λa z=>nomatch z) (hE.fw hS f1)
 rw [e0] at r2 w2 hE2
 rw [List.map_cons,List.nodup_cons] at h10
 refine⟨φ1,x,Cl,dx,_,fs++[(f,w)],hE2,s1'.chx0 hx1 (by lia) hn,h1,hn,upd_same,Rfs.snoc w2 r2,h5,λp hp=>?_,λp hp=>h7 p (List.mem_cons_of_mem _ hp),by rw [List.length_append,List.length_singleton];rw [List.length_cons] at h8;lia,λp hp z=>?_,h10.2,λH' φ' fx S' ex=>?_⟩
 ·rcases List.mem_append.mp hp with z | z
  ·exact h6 p z
  ·rw [List.mem_singleton.mp z];exact h7 _ List.mem_cons_self
 ·rw [List.map_append] at z
  rcases List.mem_append.mp z with z | z
  ·exact h9 p (List.mem_cons_of_mem _ hp) z
  ·rw [List.map_cons,List.map_nil,List.mem_singleton] at z
   exact h10.1 (z ▸ List.mem_map_of_mem (f:=(·.1)) hp)
 ·rw [List.append_assoc,List.singleton_append] at S'
  exact q H' φ' (FwX.pre h3 hn f1 fx) S' ex
end
noncomputable def yo (K:PySem.W.Frag) (n:Nat) (ps:Nat) (g:List (Str×Ef)):Sp:=λvs H Q _=>∃ φ st ws y x dx Cl rest H1,vs=.ref x::rest/\ws.length+1=ps/\pv g (none::(ws.map some++List.replicate (n - ps) none)) st=some y/\Rws K H1 φ ws rest/\Sr K H1 φ st/\H1 x=none/\H1 dx=none/\dx≠x/\
 H=upd (upd H1 dx (.own x)) x (.ins Cl dx [])/\Cls K Cl/\(∀ p ∈ g,d5 K Cl p.1)/\g.length=6/\(g.map (·.1)).Nodup/\∀ H' φ',Fw φ φ' H1 H'->Sr K H' φ' (y.2++[.o y.1])->φ'[y.2.length]?=some x->Q .non H'
theorem BS {P:Program}{w:World}{K:PySem.W.Frag}{mg:Str->Option Value}{base:Heap}{x qual:Str}{st:Stmt}{f:Addr}{fd:FuncData}{N ps:List Str}{k:Nat}{g:List (Str×Ef)} (F:Fun K x qual st f fd) (S:aK N ps (ah st)) (hN:ps.length<=N.length)
  (hb:∀ (cdv:Value) (A:Around) (outer:List Env) (s:Shared) (H:Hp) (E:XK),dY k (A.deeper (envOfC qual (ah st) s.heap.objs.size f cdv))->INI K (n5 CX0 P w K mg base N qual (ah st) f cdv A outer s H E).nox (aF st) g) :
  bV P w K mg base CX0 (k+1) f fd ps (yo K N.length ps.length g):=by
 refine F.ok S (λvs H Q E h=>?_) λcdv A outer s H vs Q E hr h=>?_
 ·obtain⟨φ,st,ws,y,x,dx,Cl,rest,H1,rfl,hl,e,rw,_⟩:=h
  rw [List.length_cons,<-rw.length,hl]
 ·obtain⟨φ,st',ws,y,x,dx,Cl,rest,H1,rfl,hl,e,rw,S',hx,hd,hne,rfl,hC,hA,h6,hnd,q⟩:=h
  refine⟨_,(hb cdv A outer s _ E hr).run _ _ _ e,φ,x,Cl,dx,[],[],?_,?_,?_,?_,upd_same,rfl,hC,λp hp=>(nomatch hp),hA,by simpa using h6,λp _ z=>(nomatch z),hnd,λH' φ' fx S2 ex=>?_⟩
  ·have sm:bB H1 (upd (upd H1 dx (.own x)) x (.ins Cl dx [])):=(bB.new hd _).trans (bB.new (by rw [upd_ne (Ne.symm hne)];exact hx) _)
   have r0:=rw.fw S' (Fw.same sm)
   have he:=nB (N:=N) (k:=ps.length) (ws:=.d .non::ws) (vs:=.non::rest) ⟨.non,rest,rfl,rfl,r0⟩ (by rw [List.length_cons];exact hl)
   refine⟨?_,λi w ei=>?_⟩
   ·have:=he.len
    unfold hU at this ⊢
    simp at this ⊢
    lia
   ·cases i with
    | zero=>cases ei
    | succ i=>
     obtain⟨v,ev,rv⟩:=he.at_ (i+1) w ei
     refine⟨v,?_,rv⟩
     unfold hU at ev ⊢
     simpa using ev
  ·have sm:bB H1 (upd (upd H1 dx (.own x)) x (.ins Cl dx [])):=(bB.new hd _).trans (bB.new (by rw [upd_ne (Ne.symm hne)];exact hx) _)
   exact S'.same sm
  ·unfold hU;rfl
  ·exact S'.nin hx
  ·refine q H' φ' ?_ S2 ex
   obtain⟨ψ,rfl,e1⟩:=fx.ext
   have sm:bB H1 (upd (upd H1 dx (.own x)) x (.ins Cl dx [])):=(bB.new hd _).trans (bB.new (by rw [upd_ne (Ne.symm hne)];exact hx) _)
   refine⟨⟨ψ,rfl,λa ha=>?_⟩,λb o hb h=>?_,λb o h=>fx.there b o (sm b o h)⟩
   ·rcases e1 a ha with z | z
    ·cases q':H1 a with
     | none=>rfl
     | some o=>rw [sm a o q'] at z;cases z
    ·rw [z];exact hx
   ·exact fx.keep b o hb (λz=>by rw [z,hx] at h;cases h) (sm b o h)
noncomputable def oQ (n ps:Nat) (g:List (Str×Ef)) (a:Af):Ef
 | env,st=>(a env st).bind λr=>if r.1.length+1=ps then (pv g (none::(r.1.map some++List.replicate (n - ps) none)) r.2).map λy=>(.h y.2.length,y.2++[.o y.1]) else none
theorem yx {K:PySem.W.Frag}{X:Cx}{x:Str}{k j:Nat}{ff Cl:Addr}{fd:FuncData}{N ps:List Str}{g:List (Str×Ef)}{p pos:Pos}{e:Expr}{es:List Expr}{af:Af} (M:Mk X.K Cl ff) (F:bV X.prog X.w X.K X.mg X.base CX0 j ff fd ps (yo K N.length ps.length g)) (hjk:j<=k) (hr:dY (k+1) X.A) (hg:Gl X x) (hm:X.mg x=some (.ref Cl)) (hb:bE X.K fd ps [])
  (hC:Cls K Cl) (hA:∀ p ∈ g,d5 K Cl p.1) (h6:g.length=6) (hnd:(g.map (·.1)).Nodup)
  (ha:IA K X (e::es) af) (hdb:(x==("__debug__" : Str))=false:=by decide) (hs:aP e=true:=by rfl) (hp:es.all aP=true:=by rfl) :
  IE K X (.Call (.Name x p) (e::es) [] pos) (oQ N.length ps.length g af):=by
 refine⟨λenv st r h=>?_⟩
 simp only [oQ,Option.bind_eq_some_iff] at h
 obtain⟨y,hy,h⟩:=h
 split at h
 case isFalse=>cases h
 rename_i hl
 obtain⟨z,hz,rfl⟩:=Option.map_eq_some_iff.mp h
 refine (xS M (F.mono hjk) hr hg hm hb .nil vY (ha.run _ _ _ hy) hdb (bI hs) (cO hp)).imp ?_
 rintro σ H Q ⟨φ,hE,hS,q⟩
 refine⟨φ,hE,hS,λvs H1 φ1 f1 s1 w1=>λx dx hx hd hne=>?_⟩
 show yo K N.length ps.length g (.ref x::(vs++[])) _ _ _
 rw [List.append_nil]
 refine⟨φ1,y.2,y.1,z,x,dx,Cl,vs,H1,rfl,hl,hz,w1,s1,hx,hd,hne,rfl,hC,hA,h6,hnd,λH' φ' f2 S2 ex=>⟨rfl,?_⟩⟩
 exact q _ H' φ' (f1.trans f2) S2 ⟨x,ex,rfl⟩
end L2
namespace L2
open PySem PySem.Spec PyProof.Rows
noncomputable def vwF (st:Sto):List (Str×W)->Option (List D)
 | []=>some []
 | (_,.d x)::r=>(vwF st r).map λy=>x::y
 | (_,.h m)::r=>(lg st m).bind λds=>(vwF st r).map λy=>.lst ds::y
noncomputable def vwW (st:Sto):W->Option W
 | .d x=>some (.d x)
 | .h n=>match st[n]? with
  | some (.o fs)=>if 5 < fs.length then (vwF st fs).map λds=>.d (.ob (fs.map (·.1)) ds) else none
  | some (.l ds)=>some (.d (.lst ds))
  | _=>none
noncomputable def vwA (st:Sto):List W->Option (List W)
 | []=>some []
 | w::ws=>(vwW st w).bind λx=>(vwA st ws).map λy=>x::y
mutual
noncomputable def okT:D->Bool
 | .non=>true
 | .bl _=>true
 | .int _=>true
 | .str _=>true
 | .tup ds=>tY ds
 | _=>false
noncomputable def tY:List D->Bool
 | []=>true
 | d::ds=>okT d && tY ds
end
section
variable {K:PySem.W.Frag}{H:Hp}{φ φ':List Addr}
mutual
theorem Rl.any:∀ {d:D}{v:V},okT d=true->Rl K H φ d v->Rl K H φ' d v
 | .non,_,_,h=>h
 | .bl _,_,_,h=>h
 | .int _,_,_,h=>h
 | .str _,_,_,h=>h
 | .tup ds,_,o,h=>by
  obtain⟨a,vs,rfl,h1,h2⟩:=h
  exact⟨a,vs,rfl,h1,Rls.any (by rw [okT] at o;exact o) h2⟩
 | .ty _,_,o,_=>by rw [okT] at o<;>first | cases o | (intros;simp)
 | .dct,_,o,_=>by rw [okT] at o<;>first | cases o | (intros;simp)
 | .scr _,_,o,_=>by rw [okT] at o<;>first | cases o | (intros;simp)
 | .lst _,_,o,_=>by rw [okT] at o<;>first | cases o | (intros;simp)
 | .ob _ _,_,o,_=>by rw [okT] at o<;>first | cases o | (intros;simp)
theorem Rls.any:∀ {ds:List D}{vs:List V},tY ds=true->Rls K H φ ds vs->Rls K H φ' ds vs
 | [],_,_,h=>h
 | d::ds,_,o,h=>by
  rw [tY,Bool.and_eq_true] at o
  obtain⟨v,r,rfl,h1,h2⟩:=h
  exact⟨v,r,rfl,Rl.any o.1 h1,Rls.any o.2 h2⟩
end
theorem Rl.bare {d:D}{v:V} (h:Rl K H φ d v):Rl K H [] d v:=Rl.less (φ:=[]) (ψ:=φ) h
theorem Rls.bare {d:List D}{v:List V} (h:Rls K H φ d v):Rls K H [] d v:=Rls.less (φ:=[]) (ψ:=φ) h
theorem oN:∀ {fs:List (Str×W)}{vs:List (Str×V)},Rfs K H φ fs vs->vs=(fs.map (·.1)).zip (vs.map (·.2))
 | [],vs,r=>by cases r;rfl
 | (n,x)::fs,vs,r=>by
  obtain⟨v,r',rfl,r1,r2⟩:=r
  rw [List.map_cons,List.map_cons,List.zip_cons_cons,<-oN r2]
theorem pJ {st:Sto} (S:Sr K H φ st):∀ {fs:List (Str×W)}{vs:List (Str×V)}{ds:List D},Rfs K H φ fs vs->vwF st fs=some ds->Rls K H [] ds (vs.map (·.2))
 | [],vs,ds,r,h=>by cases r;cases h;rfl
 | (n,.d x)::fs,vs,ds,r,h=>by
  obtain⟨v,r',rfl,r1,r2⟩:=r
  obtain⟨y,hy,rfl⟩:=Option.map_eq_some_iff.mp h
  exact⟨v,_,rfl,Rl.bare r1,pJ S r2 hy⟩
 | (n,.h m)::fs,vs,ds,r,h=>by
  obtain⟨v,r',rfl,r1,r2⟩:=r
  obtain⟨es,hes,h⟩:=Option.bind_eq_some_iff.mp h
  obtain⟨y,hy,rfl⟩:=Option.map_eq_some_iff.mp h
  obtain⟨a,ea,rfl⟩:=r1
  obtain⟨us,hu,ru⟩:=S.atl m a es ea hes
  exact⟨_,_,rfl,⟨a,us,rfl,List.not_mem_nil,.inl hu,Rls.bare ru⟩,pJ S r2 hy⟩
theorem uF {st:Sto} (S:Sr K H φ st):∀ {ws:List W}{vs:List V}{ws':List W},Rws K H φ ws vs->vwA st ws=some ws'->Rws K H [] ws' vs
 | [],vs,ws',r,h=>by cases h;exact r
 | w::ws,vs,ws',r,h=>by
  obtain⟨v,r',rfl,r1,r2⟩:=r
  obtain⟨x,hx,h⟩:=Option.bind_eq_some_iff.mp h
  obtain⟨y,hy,rfl⟩:=Option.map_eq_some_iff.mp h
  refine⟨v,r',rfl,?_,uF S r2 hy⟩
  cases w with
  | d z=>cases hx;exact Rl.bare r1
  | h n=>
   unfold vwW at hx
   dsimp only at hx
   split at hx
   ·rename_i fs hfs
    split at hx
    ·rename_i h5
     obtain⟨ds,hds,rfl⟩:=Option.map_eq_some_iff.mp hx
     obtain⟨a,ea,rfl⟩:=r1
     obtain⟨Cl,dx,us,q,rf,b,hC,hA⟩:=S.at_ n a _ ea hfs
     refine⟨a,Cl,dx,us,us.map (·.2),rfl,List.not_mem_nil,q,oN rf,by rw [List.length_map,List.length_map,rf.length],by rw [List.length_map];exact h5,hC,λf hf=>?_,pJ S rf hds⟩
     obtain⟨p,hp,rfl⟩:=List.mem_map.mp hf
     exact hA p hp
    ·cases hx
   ·rename_i ds hds
    cases hx
    obtain⟨a,ea,rfl⟩:=r1
    obtain⟨us,hu,ru⟩:=S.at_ n a _ ea hds
    exact⟨a,us,rfl,List.not_mem_nil,.inl hu,Rls.bare ru⟩
   ·cases hx
end
noncomputable def ge (m:Fn) (a:Af):Ef
 | env,st=>(a env st).bind λr=>(vwA r.2 r.1).bind λws=>(m ws []).bind λy=>match y.1 with
 | .d x=>if okT x=true then some (.d x,r.2) else none
 | _=>none
theorem jA {K:PySem.W.Frag}{X:Cx}{e:Expr}{es:List Expr}{pos:Pos}{af:Af}{x:Str}{k j:Nat}{ff:Addr}{fd:FuncData}{ps:List Str}{m:Fn}{p:Pos} (F:bV X.prog X.w X.K X.mg X.base CX0 j ff fd ps (spI K m)) (hjk:j<=k) (hr:dY k X.A) (hg:Gl X x) (hm:X.mg x=some (.ref ff)) (hk:PySem.W.keepIn X.K (.ref ff)=true) (hb:bE X.K fd ps [])
  (ha:IA K X (e::es) af) (hdb:(x==("__debug__" : Str))=false:=by decide) (hs:aP e=true:=by rfl) (hp:es.all aP=true:=by rfl) :
  IE K X (.Call (.Name x p) (e::es) [] pos) (ge m af):=by
 refine⟨λenv st r h=>?_⟩
 simp only [ge,Option.bind_eq_some_iff] at h
 obtain⟨y,hy,ws,hws,⟨w,s2⟩,hz,h⟩:=h
 cases w with
 | h n=>cases h
 | d z=>
  dsimp only at h
  split at h
  case isFalse=>cases h
  rename_i hok
  cases h
  refine (uh (F.mono hjk) hr hg hm hk hb .nil vY (ha.run _ _ _ hy) hdb (bI hs) (cO hp)).imp ?_
  rintro σ H Q ⟨φ,hE,hS,q⟩
  refine⟨φ,hE,hS,λvs H1 φ1 f1 s1 w1=>?_⟩
  show spI K m (vs++[]) H1 Q E0
  rw [List.append_nil]
  refine⟨[],[],ws,_,hz,uF s1 w1 hws,⟨List.nodup_nil,rfl,λn a c e1 _=>by cases e1⟩,λv H2 φ2 f2 s2' w2=>?_⟩
  have sm:bB H1 H2:=λb o h=>f2.keep b o List.not_mem_nil h
  exact q v H2 φ1 (f1.trans (Fw.same sm)) (s1.same sm) (Rl.any hok w2)
theorem Rls.flat {K:PySem.W.Frag}{H H':Hp}{φ φ':List Addr}:∀ {ds:List D}{vs:List V},ds.all eL=true->Rls K H φ ds vs->Rls K H' φ' ds vs
 | [],_,_,h=>h
 | d::ds,_,o,h=>by
  rw [List.all_cons,Bool.and_eq_true] at o
  obtain⟨v,r,rfl,h1,h2⟩:=h
  refine⟨v,r,rfl,?_,Rls.flat o.2 h2⟩
  cases d with
  | non=>exact h1
  | bl b=>exact h1
  | int b=>exact h1
  | str b=>exact h1
  | _=>exact absurd o.1 (by simp [eL])
noncomputable def i3 (il ip ic it ia:Nat) (fl:Lf):Sf
 | env,st=>(fl env st).bind λr=>match env.getD ip none,env.getD ic none,env.getD it none,env.getD ia none with
 | some (.d (.int p)),some (.d (.int c)),some (.d (.lst ts)),some (.d a)=>(ixN r.1.length p).bind λj=>(ixN ts.length c).bind λi=>if ts.length<=1000000/\il < env.length/\ts.all eL=true then some (.nx (env.set il (some (.d (.lst (r.1.set j (.lst (ts.set i a))))))) r.2) else none
 | _,_,_,_=>none
theorem mw {env:Ev}{i:Nat}{w:W} (h:env.getD i none=some w):env[i]?=some (some w):=by
 rw [List.getD] at h
 cases q:env[i]? with
 | none=>rw [q] at h;cases h
 | some o=>rw [q] at h;rw [show o=some w from h]
theorem yD {α:Type}{xs:List α}{i:Int}{j:Nat}{v:α} (h:ixN xs.length i=some j) (hv:xs[j]?=some v):atI xs i=some v:=by
 unfold atI;rw [h];exact hv
theorem Ay {n:Nat}{i:Int}{j:Nat} (h:ixN n i=some j):j < n:=(qi h).2.1
structure ISL (K:PySem.W.Frag) (X:Cx) (s:Stmt) (i0:Nat) (fl:Lf):Prop where
 run:∀ env st r,fl env st=some r->PS X s (λD σ H=>∃ φ,Er K H φ env σ/\Sr K H φ st/\∀ a vs H1 φ',Fw φ φ' H H1->Sr K H1 φ' r.2->H1 a=none->Rls K H1 φ' r.1 vs->D.nx (σ.set i0 (some (.ref a))) (upd H1 a (.lst vs)))
theorem Au {K:PySem.W.Frag}{X:Cx}{pos:Pos}{tg:Expr}{scope:Scope}{Nc:List Str}{k:Nat}{js:List Nat}{elt iter:Expr}{ifs:List Expr}{fi:Lf}{g:Tg}{tt:Tf}{te:Ef}{i0:Nat}{x0:Str}{py spos:Pos}
  (hN0:X.N.Nodup) (hi0:X.N[i0]?=some x0) (hx0:Loc X.env.scope x0) (S:fN X scope Nc (gz k js)) (hc:X.calm=true) (hgi:∀ j ∈ sw g,j < k) (hi:II K X tg iter fi)
  (hg:∀ cells s H C fp,PG (lcX X scope cells Nc s H C fp) tg (tG K g)) (ht:∀ cells s H C fp,ITs K (lcX X scope cells Nc s H C fp) ifs tt) (he:∀ cells s H C fp,IE K (lcX X scope cells Nc s H C fp) elt te)
  (hsw:swapsWith (.ListComp elt [⟨tg,iter,ifs,0⟩] scope pos) (some (.Name x0 py)) spos.line X.env=pure true:=by rfl)
  (hf0:X.fn x0=true\/X.env.scope.names.lookup x0=some .local:=by first | exact .inl rfl | exact .inr rfl | assumption)
  (hs:∀ x,foldedSetIterable iter X.env x=pure x:=by intro _;rfl):ISL K X (.Assign [.Name x0 py] (.ListComp elt [⟨tg,iter,ifs,0⟩] scope pos) spos) i0 (iLc k js fi g tt te):=by
 refine⟨λenv st r hr=>?_⟩
 simp only [iLc,Option.bind_eq_some_iff] at hr
 obtain⟨⟨ds,s1⟩,hy,hr⟩:=hr
 have hr':(if ds.length<=1000000 then lcI g tt te (iR k js env) ds s1 else none)=some r:=hr
 by_cases hdn:¬ ds.length<=1000000
 ·rw [if_neg hdn] at hr';cases hr'
 have hdl:ds.length<=1000000:=by lia
 rw [if_pos hdl] at hr'
 refine (yL hN0 hi0 hx0 S hc (hi.run _ _ _ hy) hg (λcells s H C fp=>(ht cells s H C fp).run) (λcells s H C fp=>(he cells s H C fp).any) hsw hf0 hs).imp ?_
 rintro D σ H ⟨φ,hE,hS,q⟩
 exact sJ hgi hdl hr' σ H _ ⟨φ,hE,hS,q⟩
section
variable {K:PySem.W.Frag}{X:Cx}{s1':Stmt}{xl xp xc xt xa:Str}{il ip ic it ia:Nat}{comp:Expr}{fl:Lf}{ss:List Stmt}{gb:Sf}{p1 p2 p3 p4 p5 p6 p7 p8 p9 q1 q2 q3 q4 q5 q6 q7:Pos}
theorem vH (hN:X.N.Nodup) (nl:X.N[il]?=some xl) (np:X.N[ip]?=some xp) (nc:X.N[ic]?=some xc) (nt:X.N[it]?=some xt) (na:X.N[ia]?=some xa)
  (ll:Loc X.env.scope xl) (vl:Vis X.env.scope xl) (vp:Vis X.env.scope xp) (vc:Vis X.env.scope xc) (vt:Vis X.env.scope xt) (va:Vis X.env.scope xa) (d1:il≠ip) (d2:il≠ic) (d3:il≠it) (d4:il≠ia)
  (bl:(xl==("__debug__" : Str))=false) (bp:(xp==("__debug__" : Str))=false) (bc:(xc==("__debug__" : Str))=false) (bt:(xt==("__debug__" : Str))=false) (ba:(xa==("__debug__" : Str))=false)
  (el:(xl==("__classdict__" : Str))=false) (ep:(xp==("__classdict__" : Str))=false) (ec:(xc==("__classdict__" : Str))=false) (et:(xt==("__classdict__" : Str))=false) (ea:(xa==("__classdict__" : Str))=false)
  (hcomp:ISL K X s1' il fl) (hgL:Gl X "list") (hmL:X.mg "list" = none) (hrest:ISs K X ss gb)
  (hs2:swapsWithSole [.Subscript (.Name xl p3) (.Name xp p4) p5] (.Call (.Name "list" p6) [.Name xt p7] [] p8) p9.line X.env=pure false) (hw2:swappedStores [.Subscript (.Name xl p3) (.Name xp p4) p5] (.Call (.Name "list" p6) [.Name xt p7] [] p8) X.env=pure none)
  (hs3:swapsWithSole [.Subscript (.Subscript (.Name xl q1) (.Name xp q2) q3) (.Name xc q4) q5] (.Name xa q6) q7.line X.env=pure false) (hw3:swappedStores [.Subscript (.Subscript (.Name xl q1) (.Name xp q2) q3) (.Name xc q4) q5] (.Name xa q6) X.env=pure none) (hK:X.K=K) :
  ISs K X (s1'::.Assign [.Subscript (.Name xl p3) (.Name xp p4) p5] (.Call (.Name "list" p6) [.Name xt p7] [] p8) p9::.Assign [.Subscript (.Subscript (.Name xl q1) (.Name xp q2) q3) (.Name xc q4) q5] (.Name xa q6) q7::ss) (aq (i3 il ip ic it ia fl) gb):=by
 subst hK
 refine⟨λenv st r hr=>?_⟩
 simp only [aq,i3,Option.bind_eq_some_iff] at hr
 obtain⟨r1,⟨⟨ds,s1⟩,hfl,hr1⟩,hr⟩:=hr
 split at hr1
 case h_2=>cases hr1
 rename_i p c ts a hp hc ht ha'
 simp only [Option.bind_eq_some_iff] at hr1
 obtain⟨j,hj,i,hi,hr1⟩:=hr1
 split at hr1
 case isFalse=>cases hr1
 rename_i hz
 cases hr1
 dsimp only at hr
 have hll:uO s1 [.d (.lst ts)]=some ts:=rfl
 have pl:∀ {q:Pos},PE X (.Name xl q) (qH il):=λ{q}=>kq nl vl bl el
 have pp:∀ {q:Pos},PE X (.Name xp q) (qH ip):=λ{q}=>kq np vp bp ep
 have pc:∀ {q:Pos},PE X (.Name xc q) (qH ic):=λ{q}=>kq nc vc bc ec
 have pt:∀ {q:Pos},PE X (.Name xt q) (qH it):=λ{q}=>kq nt vt bt et
 have pa:∀ {q:Pos},PE X (.Name xa q) (qH ia):=λ{q}=>kq na va ba ea
 refine (fP (hcomp.run _ _ _ hfl) (fP (qo (fE ((uC (K:=X.K) rfl).run s1 [.d (.lst ts)] ts hll) hgL hmL PyProof.Rows.boot_list (my pt qv) (by decide) (by decide)) (tV pl pp mY (ql rfl)) hs2 hw2 (mG rfl))
  (fP (qo pa (tV (yI sv pl pp (rK rfl)) pc mY (ql rfl)) hs3 hw3 (mG rfl)) (hrest.run _ _ _ hr)))).imp ?_
 rintro D σ H ⟨φ,hE,hS,q⟩
 refine⟨φ,hE,hS,λal vs H1 φ1 f1 S1 hal rl=>?_⟩
 have hE1:=hE.fw hS f1
 obtain⟨vp',gp,rp⟩:=hE1.at_ ip _ (mw hp)
 obtain⟨vc',gc,rc⟩:=hE1.at_ ic _ (mw hc)
 obtain⟨vt',gt,rt⟩:=hE1.at_ it _ (mw ht)
 obtain⟨va',ga,ra⟩:=hE1.at_ ia _ (mw ha')
 have rp:vp'=.int p:=rp
 have rc:vc'=.int c:=rc
 subst rp rc
 have nep:il≠ip:=d1
 have set_at:∀ {k:Nat}{u:V}{v:V},il≠k->σ[k]?=some (some u)->(σ.set il (some v))[k]?=some (some u):=λ{k u v} h e=>by rw [List.getElem?_set_ne h];exact e
 -- the list's line
 refine⟨_,set_at d3 gt,φ1,S1.new hal,⟨vt',[],rfl,?_,rfl⟩,λbl us H2 sm hbl ru=>?_⟩
 ·exact (Rl.fw S1 (Fw.new hal) rt)
 have hal2:H2 al=some (.lst vs):=sm _ _ upd_same
 have hab:al≠bl:=aS hal2 hbl
 have hlen:vs.length=ds.length:=rl.length.symm
 have hul:us.length=ts.length:=ru.length.symm
 have hil:(σ.set il (some (.ref al)))[il]?=some (some (.ref al)):=by
  rw [List.getElem?_set_self]
  rw [<-hE.len]
  exact hz.2.1
 refine⟨_,hil,_,set_at d1 gp,al,vs,p,j,rfl,rfl,by rw [upd_ne hab];exact hal2,by rw [hlen];exact hj,?_⟩
 have hjl:j < vs.length:=by rw [hlen];exact Ay hj
 refine⟨_,set_at d4 ga,_,hil,_,set_at d1 gp,.inl ⟨al,vs.set j (.ref bl),p,.ref bl,rfl,rfl,SqL.of upd_same,yD (j:=j) (by rw [List.length_set,hlen];exact hj) (by rw [List.getElem?_set_self hjl]),?_⟩⟩
 refine⟨_,set_at d2 gc,bl,us,c,i,rfl,rfl,by rw [upd_ne (Ne.symm hab),upd_same],by rw [hul];exact hi,?_⟩
 have sm5:bB H1 (upd (upd (upd H2 bl (.lst us)) al (.lst (vs.set j (.ref bl)))) bl (.lst (us.set i va'))):=λb o h=>by
  have e1:b≠al:=λz=>by rw [z,hal] at h;cases h
  have h2:H2 b=some o:=sm b o (by rw [upd_ne e1];exact h)
  have e2:b≠bl:=λz=>by rw [z,hbl] at h2;cases h2
  rw [upd_ne e2,upd_ne e1,upd_ne e2];exact h2
 have nal:al ∉ φ1:=S1.nin hal
 have nbl:bl ∉ φ1:=λz=>by
  obtain⟨o,ho,_⟩:=S1.lst z
  have:bl≠al:=Ne.symm hab
  have h2:H2 bl=some o:=sm bl o (by rw [upd_ne this];exact ho)
  rw [hbl] at h2;cases h2
 dsimp only
 generalize hH:upd (upd (upd H2 bl (.lst us)) al (.lst (vs.set j (.ref bl)))) bl (.lst (us.set i va'))=H5 at sm5 ⊢
 have ha5:H5 al=some (.lst (vs.set j (.ref bl))):=by rw [<-hH,upd_ne hab,upd_same]
 have hb5:H5 bl=some (.lst (us.set i va')):=by rw [<-hH,upd_same]
 have fw5:Fw φ1 φ1 H1 H5:=Fw.same sm5
 have ru5:Rls X.K H5 φ1 ts us:=Rls.flat hz.2.2 ru
 refine⟨φ1,(hE1.fw S1 fw5).set il (w:=.d (.lst (ds.set j (.lst (ts.set i a))))) ?_,S1.same sm5,?_⟩
 ·exact⟨al,_,rfl,nal,.inl ha5,Rls.set j (rl.fw S1 fw5) ⟨bl,_,rfl,nbl,.inl hb5,Rls.set i ru5 (Rl.fw S1 fw5 ra)⟩⟩
 ·exact q.fw (f1.trans fw5)
end
end L2
namespace L2
open PySem PySem.Spec PyProof.Rows
section
variable {K:PySem.W.Frag}{X:Cx}
noncomputable def Bj (_ j:Int):Prop:=0 < j/\j.natAbs.log2 < 9000
theorem wn:OpR X (binaryOp .FloorDiv) (rI Bj λi j=>.int (i / j)):=opI λi j _ _ _ _ _ hc q=>by
 obtain⟨h0,h1⟩:=hc
 exact floordiv_int (by lia) (by rw [Int.fdiv_eq_ediv_of_nonneg i (by lia)];exact q) (.inl (PyProof.noPylong_of_log2 h1))
noncomputable def ny (_:Sto):W->W->Option D
 | .d (.int i),.d (.int j)=>if 0 < j/\j.natAbs.log2 < 9000 then some (.int (i / j)) else none
 | _,_=>none
theorem nJ:OpD K X (binaryOp .FloorDiv) ny:=iT λst x y d h=>by
 match x,y,h with
 | .d (.int i),.d (.int j),h=>
  simp only [ny] at h
  split at h
  ·rename_i hc
   cases h;exact⟨i,j,rfl,rfl,wn.imp λvx vy H Q ⟨a,b,q⟩=>⟨i,j,a,b,hc,q⟩,rfl⟩
  ·cases h
theorem xk:dw X (.type "range") (λxs H Q=>∃ i j:Int,xs=[.int i,.int j]/\∀ p,H p=none->Q (.ref p) (upd H p (.rng i j))):=by
 intro pins s σ H xs us Q I rv h
 obtain⟨i,j,rfl,q⟩:=h
 cases rv with
 | cons r rr=>
  cases rr with
  | cons r' rr=>
   cases rr
   obtain⟨t,rfl⟩:=r
   obtain⟨t',rfl⟩:=r'
   exact call_range_2 ⟨.ref _,_,I.laid (o:=.rng i j) (λ_ _ q=>Heap.get?_push_of_some _ q) (Nat.le_refl _) ⟨_,_,_,Heap.get?_push_size _ rfl⟩,rfl,q _ I.fresh⟩
theorem xq {acc:Array Value}{lo:Int}{n:Nat} (h:ItemsOf (λi v=>∃ t,v=Value.int (lo+(i:Int)*1) t) acc n):aV ((List.range n).map λk:Nat=>V.int (lo+k)) acc.toList:=by
 obtain⟨hz,hi⟩:=h
 have key:∀ (l:List Value) (k:Nat),(∀ j v,l[j]?=some v->∃ t,v=Value.int (lo+((k+j:Nat):Int)) t)->aV ((List.range' k l.length).map λk:Nat=>V.int (lo+k)) l:=by
  intro l
  induction l with
  | nil=>intro k _;exact .nil
  | cons x l ih=>
   intro k h
   obtain⟨t,e⟩:=h 0 x rfl
   rw [List.length_cons,List.range'_succ,List.map_cons]
   refine .cons ⟨t,e⟩ (ih (k+1) λj v hv=>?_)
   obtain⟨t,e⟩:=h (j+1) v (by simpa using hv)
   exact⟨t,by rw [e,show k+(j+1)=k+1+j by lia]⟩
 have:=key acc.toList 0 λj v hv=>by
  obtain⟨t,e⟩:=hi j v (by simpa using hv)
  exact⟨t,by rw [e,Int.mul_one,Nat.zero_add]⟩
 rw [List.range_eq_range']
 rw [Array.length_toList,hz] at this
 exact this
theorem uR (hc:X.calm=true:=by rfl):dw X (.type "list") (λxs H Q=>∃ (p:Addr) (lo:Int) (n:Nat),xs=[.ref p]/\H p=some (.rng lo (lo+(n:Int)))/\n<=1000/\-1000000<=lo/\lo<=1000000/\∀ l,H l=none->Q (.ref l) (upd H l (.lst ((List.range n).map λk:Nat=>V.int (lo+k))))):=by
 intro pins s σ H xs us Q I rv h
 obtain⟨p,lo,n,rfl,hp,hn,l1,l2,q⟩:=h
 cases rv with
 | cons r rr=>
  cases rr
  cases r
  obtain⟨t,u,v,e⟩:=I.hok p _ hp
  refine call_list_range (I.ok.hd hc) e ?_ (n:=n) ?_ (by lia) λh' tk acc c kp e' hacc=>?_
  ·have fl:∀ z:Int,-2000000<=z->z<=2000000->Builtin.Range.rangeFitsLong z=true:=λz h1 h2=>by
    unfold Builtin.Range.rangeFitsLong
    simp only [Bool.and_eq_true,decide_eq_true_eq]
    omega
   have hsz:Builtin.Range.rangeSize lo (lo+(n:Int)) 1=(n:Int):=by rw [rangeSize_one];split<;>lia
   unfold Builtin.Range.small
   rw [hsz]
   simp [fl lo (by lia) (by lia),fl (lo+(n:Int)) (by lia) (by lia),fl 1 (by lia) (by lia),fl (n:Int) (by lia) (by lia)]
  ·rw [rangeSize_one];split<;>lia
  ·exact⟨.ref s.heap.objs.size,_,I.laid (t':=tk) kp (Nat.le_refl _) (show dB X.prog X.w _ h' _ (.lst ((List.range n).map λk:Nat=>V.int (lo+k))) from ⟨by rw [List.length_map,List.length_range];exact pT hn,acc.toList,c,xq hacc,by simpa using e'⟩),rfl,q _ (I.hok.fresh (Nat.le_refl _))⟩
noncomputable def vo (a:Af):Lf
 | env,st=>(a env st).bind λr=>match r.1 with
 | [.d (.int j)]=>if 0<=j/\j<=1000 then some (dE 0 j.toNat,r.2) else none
 | _=>none
noncomputable def pH (a:Af):Lf
 | env,st=>(a env st).bind λr=>match r.1 with
 | [.d (.int i),.d (.int j)]=>if 0<=j - i/\j - i<=1000/\-1000000<=i/\i<=1000000 then some (dE i (j - i).toNat,r.2) else none
 | _=>none
theorem Rls.rng {H:Hp}{φ:List Addr} (lo:Int) (n:Nat):Rls K H φ (dE lo n) ((List.range n).map λk:Nat=>V.int (lo+k)):=by
 have:dE lo n=((List.range n).map λk:Nat=>lo+(k:Int)).map D.int:=by unfold dE;rw [List.map_map];rfl
 rw [this,show ((List.range n).map λk:Nat=>V.int (lo+k))=((List.range n).map λk:Nat=>lo+(k:Int)).map V.int by rw [List.map_map];rfl]
 exact Rls.of_ints _
variable {a b:Expr}{af:Af}{p1 p2 p3 p4:Pos}
theorem z8 (hgL:Gl X "list") (hmL:X.mg "list" = none) (hgR:Gl X "range") (hmR:X.mg "range" = none) (ha:IA K X [a] af) (hc:X.calm=true:=by rfl) (hs:aP a=true:=by rfl) :
  IL K X (.Call (.Name "list" p1) [.Call (.Name "range" p2) [a] [] p3] [] p4) (vo af):=by
 refine⟨λenv st r hr=>?_⟩
 simp only [vo,Option.bind_eq_some_iff] at hr
 obtain⟨⟨ws,s1⟩,hw,hr⟩:=hr
 dsimp only at hr
 split at hr
 case h_2=>cases hr
 rename_i j
 split at hr
 case isFalse=>cases hr
 rename_i hj
 cases hr
 refine (fE (uR hc) hgL hmL PyProof.Rows.boot_list (my (fE ye hgR hmR PyProof.Rows.boot_range (ha.run _ _ _ hw) (by decide) (by decide) (bI hs) (cO rfl)) qv (bI rfl)) (by decide) (by decide) (bI rfl) (cO rfl)).imp ?_
 rintro σ H Q ⟨φ,hE,hS,q⟩
 refine⟨φ,hE,hS,λvs H1 φ1 f1 s1' w1=>?_⟩
 obtain⟨v,r,rfl,r1,rfl⟩:=w1
 have r1:v=.int j:=r1
 subst r1
 refine⟨j,rfl,λp hp=>⟨p,0,j.toNat,rfl,?_,by lia,by lia,by lia,λl hl=>?_⟩⟩
 ·rw [upd_same,Int.zero_add,Int.toNat_of_nonneg hj.1]
 ·exact q l _ _ φ1 (f1.trans (Fw.new hp)) (s1'.new hp) hl (Rls.rng 0 j.toNat)
theorem wm (hgL:Gl X "list") (hmL:X.mg "list" = none) (hgR:Gl X "range") (hmR:X.mg "range" = none) (ha:IA K X [a,b] af) (hc:X.calm=true:=by rfl) (hs:aP a=true:=by rfl) (hs2:aP b=true:=by rfl) :
  IL K X (.Call (.Name "list" p1) [.Call (.Name "range" p2) [a,b] [] p3] [] p4) (pH af):=by
 refine⟨λenv st r hr=>?_⟩
 simp only [pH,Option.bind_eq_some_iff] at hr
 obtain⟨⟨ws,s1⟩,hw,hr⟩:=hr
 dsimp only at hr
 split at hr
 case h_2=>cases hr
 rename_i i j
 split at hr
 case isFalse=>cases hr
 rename_i hj
 cases hr
 refine (fE (uR hc) hgL hmL PyProof.Rows.boot_list (my (fE xk hgR hmR PyProof.Rows.boot_range (ha.run _ _ _ hw) (by decide) (by decide) (bI hs) (cO (by rw [List.all_cons,hs2];rfl))) qv (bI rfl)) (by decide) (by decide) (bI rfl) (cO rfl)).imp ?_
 rintro σ H Q ⟨φ,hE,hS,q⟩
 refine⟨φ,hE,hS,λvs H1 φ1 f1 s1' w1=>?_⟩
 obtain⟨v,r,rfl,r1,u,r',rfl,r2,rfl⟩:=w1
 have r1:v=.int i:=r1
 have r2:u=.int j:=r2
 subst r1 r2
 refine⟨i,j,rfl,λp hp=>⟨p,i,(j - i).toNat,rfl,?_,by lia,by lia,by lia,λl hl=>?_⟩⟩
 ·rw [upd_same,Int.toNat_of_nonneg hj.1,show i+(j - i)=j by lia]
 ·exact q l _ _ φ1 (f1.trans (Fw.new hp)) (s1'.new hp) hl (Rls.rng i (j - i).toNat)
end
end L2
namespace L2
open PySem PySem.Spec PyProof.Rows
section
variable {K:PySem.W.Frag}{X:Cx}
end
end L2
namespace L2
open PySem PySem.Spec PyProof.Rows
noncomputable def ub (_:Sto):List W->Option D
 | [.d (.lst ds)]=>(jH ds).map λns=>.bl (ns.any id)
 | _=>none
section
variable {K:PySem.W.Frag}{X:Cx}
theorem uY:dw X (.builtin "any") (λxs H Q=>X.calm=true/\∃ (a:Addr) (bs:List Bool),xs=[.ref a]/\SqL X.K H a (bs.map V.bl)/\Q (.bl (bs.any id)) H):=by
 intro pins s σ H xs us Q I rv h
 obtain⟨hc,a,bs,rfl,hq,q⟩:=h
 cases rv with
 | cons r rr=>
  cases rr
  cases r
  obtain⟨its,rv,p,hz⟩:=I.list hq
  have hlt:a < s.heap.objs.size:=by obtain⟨_,_,e,_⟩:=p;exact Heap.lt_size e
  have hlen:its.length=bs.length:=by have:=rv.length;simpa using this.symm
  refine call_any_walk (wpAny_pyIter_list p.isList ?_)
  refine⟨s.heap.objs.size,_,_,_,_,_,λi=>(bs[i]?).getD true,rfl,Walks.list (A:=X.A.in1) (I.ok.hd hc) s.heap.objs.size a (Nat.ne_of_lt hlt) its.toArray,⟨⟨_,Heap.get?_push_size _ rfl,rfl,rfl⟩,p.isList.push _⟩,?_,λh' tk hk=>?_⟩
  ·intro i v s' Q' E' hv hQ'
   have hv':its[i]?=some v:=by simpa using hv
   have hi:i < its.length:=(List.getElem?_eq_some_iff.mp hv').1
   obtain⟨b,hb⟩:∃ b,bs[i]?=some b:=⟨bs[i]'(by lia),by simp [show i < bs.length by lia]⟩
   have:(bs.map V.bl)[i]?=some (.bl b):=by rw [List.getElem?_map,hb];rfl
   obtain⟨u,hu,ru⟩:=rv.get this
   rw [hv'] at hu
   cases hu
   cases ru
   have hQ2:Q' ((bs[i]?).getD true) s':=hQ'
   rw [hb] at hQ2
   exact wpAny_truthy_bool hQ2
  ·refine⟨.bl (bs.any id),H,I.kept (t':=tk) (λb o e=>hk b o (λz=>absurd (Heap.lt_size e) (by rw [List.mem_singleton.mp z];exact Nat.lt_irrefl _)) (Heap.get?_push_of_some _ e)),?_,q⟩
   show Value.bool _=Value.bool _
   congr 1
   have:∀ n,n=bs.length->((List.range n).any λi=>(bs[i]?).getD true)=bs.any id:=by
    intro n hn
    subst hn
    rw [Bool.eq_iff_iff,List.any_eq_true,List.any_eq_true]
    constructor
    ·rintro⟨i,hi,h⟩
     have hi':=List.mem_range.mp hi
     refine⟨bs[i],List.getElem_mem hi',?_⟩
     rw [List.getElem?_eq_getElem hi'] at h
     exact h
    ·rintro⟨x,hx,h⟩
     obtain⟨i,hi,rfl⟩:=List.getElem_of_mem hx
     refine⟨i,List.mem_range.mpr hi,?_⟩
     rw [List.getElem?_eq_getElem hi]
     exact h
   exact this _ (by simpa using hlen)
theorem yj (hc:X.calm=true:=by rfl) (hK:X.K=K:=by rfl):jx K X (.builtin "any") ub:=by
 subst hK
 refine⟨λst ws d h=>?_⟩
 match ws,h with
 | [.d (.lst ds)],h=>
  obtain⟨ns,e,rfl⟩:=Option.map_eq_some_iff.mp h
  cases ju e
  refine dw.imp uY ?_
  rintro vs H Q ⟨φ,S,⟨v,r,rfl,⟨a,us,rfl,h0,h1,h2⟩,rfl⟩,q⟩
  cases h2.bools
  exact⟨hc,a,ns,rfl,.inl h1,q _ H (bB.refl H) rfl⟩
end
end L2
namespace L2
open PySem PySem.Spec PyProof.Rows
open Classical in
noncomputable def lcH (n:Nat) (all:List D) (g:Tg) (tt:Tf) (te:Ef) (env:Ev):List D->Sto->Option (List D×Sto)
 | [],st=>if lg st n=some all then some ([],st) else none
 | d::ds,st=>if lg st n=some all then ((eU g (.d d) env).bind λe=>(tt e st).bind λb=>if b.1=true then (te e b.2).bind λx=>(nE [x.1]).bind λys=>(lcH n all g tt te env ds x.2).map λr=>(ys++r.1,r.2)
   else lcH n all g tt te env ds b.2) else none
noncomputable def td (k:Nat) (js:List Nat) (fe:Ef) (g:Tg) (tt:Tf) (te:Ef):Lf
 | env,st=>(fe env st).bind λr=>match r.1 with
  | .h n=>(lg r.2 n).bind λds=>if ds.length<=1000000 then lcH n ds g tt te (iR k js env) ds r.2 else none
  | _=>none
section
variable {K:PySem.W.Frag}{X:Cx}{pos:Pos}{tg:Expr}
noncomputable def YlH (K:PySem.W.Frag) (φ0:List Addr) (H0:Hp) (J:It) (n:Nat) (ds:List D):Prop:=∀ (H:Hp) (φ:List Addr) (st:Sto) (i:Nat),Fw φ0 φ H0 H->Sr K H φ st->lg st n=some ds->
 (∀ d,ds[i]?=some d->J.go i H/\∀ x H',J.yld i H x H'->bB H H'/\Rl K H' φ d x)/\(ds.length=i->J.stop i H)
noncomputable def BF (K:PySem.W.Frag) (env:Ev) (st:Sto) (n:Nat) (ds:List D) (s1:Sto):TI:=λσ H R=>∃ φ,Er K H φ env σ/\Sr K H φ st/\∀ J H' φ',Fw φ φ' H H'->Sr K H' φ' s1->YlH K φ' H' J n ds->R J H'
theorem xU {e:Expr}{f:Ef}{env:Ev}{st s1:Sto}{n:Nat}{ds:List D} (h:IE K X e f) (hK:X.K=K) (hf:f env st=some (.h n,s1)) (hn:lg s1 n=some ds):PI X tg e (BF K env st n ds s1):=by
 subst hK
 refine (uP (h.run _ _ _ hf)).imp ?_
 rintro σ H R ⟨φ,hE,hS,q⟩
 refine⟨φ,hE,hS,λv H1 φ1 f1 S1 w1=>?_⟩
 obtain⟨a,vs,rfl,hq,hr⟩:=qx S1 w1 (show lsD s1 (.h n)=some ds from hn)
 refine⟨a,rfl,⟨vs,.inl hq⟩,q _ H1 φ1 f1 S1 λH2 φ2 st2 i f2 S2 hn2=>?_⟩
 obtain⟨a2,vs2,ea,hq2,hr2⟩:=qx S2 (Rw.fw S1 f2 w1) (show lsD st2 (.h n)=some ds from hn2)
 cases ea
 have hq3:SqL X.K H2 a vs2:=.inl hq2
 refine⟨λd hd=>?_,λhi=>⟨vs2,hq3,by rw [<-hr2.length];exact Nat.le_of_eq hi⟩⟩
 obtain⟨v,ev,rv⟩:=hr2.get hd
 refine⟨⟨vs2,v,hq3,ev⟩,λx H' y=>?_⟩
 obtain⟨rfl,y⟩:=y
 have:=y vs2 hq3
 rw [ev] at this
 cases this
 exact⟨bB.refl _,rv⟩
theorem yi {k n:Nat}{js:List Nat}{g:Tg}{tt:Tf}{te:Ef}{env:Ev}{st s1:Sto}{ds:List D}{r:List D×Sto} (hgi:∀ j ∈ sw g,j < k) (hdl:ds.length<=1000000) (hr':lcH n ds g tt te (iR k js env) ds s1=some r) :
  ∀ σ H Q,tIL K env st r σ H Q->tLc (gz k js) (BF K env st n ds s1) (tG K g) (uT K tt) (w6 K te) σ H Q:=by
 rintro σ H Q ⟨φ,hE,hS,q⟩
 refine⟨φ,hE,hS,λJ H1 φ1 f1 S1 yl=>?_⟩
 have hE1:=(hE.fw hS f1).emb k js
 refine⟨λi m ys H2=>m=ds.length - i/\i<=ds.length/\∃ st φ2 es r2,Fw φ1 φ2 H1 H2/\Sr K H2 φ2 st/\Rls K H2 φ2 es ys/\es.length<=i/\lcH n ds g tt te (iR k js env) (ds.drop i) st=some r2/\r=(es++r2.1,r2.2),⟨ds.length,by simp,Nat.zero_le _,s1,φ1,[],r,Fw.refl _ _,S1,rfl,Nat.le_refl _,hr',rfl⟩,?_⟩
 rintro i m ys H2 ⟨rfl,hi,st2,φ2,es,r2,f2,S2,rl2,hle,h2,rfl⟩
 by_cases hlt:i < ds.length
 ·rw [List.drop_eq_getElem_cons hlt] at h2
  rw [lcH] at h2
  by_cases hg2:lg st2 n=some ds
  ·rw [if_pos hg2] at h2
   obtain⟨y1,y2⟩:=yl H2 φ2 st2 i f2 S2 hg2
   obtain⟨go,yld⟩:=y1 ds[i] (List.getElem?_eq_getElem hlt)
   simp only [Option.bind_eq_some_iff] at h2
   obtain⟨e3,he3,⟨kb,s3⟩,hb3,h3⟩:=h2
   have hz:ys.length < sizeLine:=by
    rw [<-rl2.length]
    have:sizeLine=16777216:=sizeLine_eq
    lia
   refine .inr ⟨go,hz,λys' H'=>i+1<=ds.length/\∃ st φ2 es' r2',Fw φ1 φ2 H1 H'/\Sr K H' φ2 st/\Rls K H' φ2 es' ys'/\es'.length<=i+1/\lcH n ds g tt te (iR k js env) (ds.drop (i+1)) st=some r2'/\(es++r2.1,r2.2)=(es'++r2'.1,r2'.2),λys' H' ⟨hn,p'⟩=>⟨ds.length - (i+1),by lia,rfl,hn,p'⟩,λx H' y=>?_⟩
   obtain⟨sm,rx⟩:=yld x H' y
   have S3:=S2.same sm
   have f3:=f2.trans (Fw.same (φ:=φ2) sm)
   refine⟨φ2,st2,iR k js env,.d ds[i],e3,hE1.fw S1 f3,S3,rx,he3,λσ' e' stay=>⟨Sub.stay stay hgi,?_⟩⟩
   refine⟨e3,st2,_,hb3,φ2,e',S3,λH4 φ4 f4 S4=>?_⟩
   cases kb with
   | false=>
    rw [if_neg Bool.false_ne_true] at h3
    exact sR ⟨hlt,s3,φ4,es,r2,f3.trans f4,S4,(rl2.fw S2 (Fw.same sm)).fw S3 f4,by lia,h3,rfl⟩
   | true=>
    simp only [if_true,Option.bind_eq_some_iff,Option.map_eq_some_iff] at h3
    obtain⟨x5,hx5,zs,hzs,r5,hr5,rfl⟩:=h3
    refine tX ⟨e3,s3,x5,hx5,φ4,e'.fw S3 f4,S4,λv H5 φ5 f5 S5 w5=>?_⟩
    obtain⟨x5,s5⟩:=x5
    cases x5 with
    | h n=>cases hzs
    | d z=>
     cases hzs
     refine⟨hlt,s5,φ5,es++[z],r5,(f3.trans f4).trans f5,S5,(((rl2.fw S2 (Fw.same sm)).fw S3 f4).fw S4 f5).append ⟨v,[],rfl,w5,rfl⟩,by rw [List.length_append];simp;lia,hr5,?_⟩
     simp
  ·rw [if_neg hg2] at h2;cases h2
 ·have hi':i=ds.length:=by lia
  subst hi'
  rw [List.drop_length,lcH] at h2
  by_cases hg2:lg st2 n=some ds
  ·rw [if_pos hg2] at h2
   obtain⟨y1,y2⟩:=yl H2 φ2 st2 _ f2 S2 hg2
   cases h2
   refine .inl ⟨y2 rfl,λDn hD=>?_⟩
   have:=q Dn ys H2 φ2 (f1.trans f2) S2 hD
   exact this (by simpa using rl2)
  ·rw [if_neg hg2] at h2;cases h2
theorem vG {k:Nat}{js:List Nat}{fe:Ef}{g:Tg}{tt:Tf}{te:Ef}{env:Ev}{st:Sto}{r:List D×Sto} (hr:td k js fe g tt te env st=some r):∃ n s1 ds,fe env st=some (.h n,s1)/\lg s1 n=some ds/\ds.length<=1000000/\lcH n ds g tt te (iR k js env) ds s1=some r:=by
 simp only [td,Option.bind_eq_some_iff] at hr
 obtain⟨⟨w,s1⟩,hy,hr⟩:=hr
 cases w with
 | d x=>cases hr
 | h n=>
  obtain⟨ds,hds,hr⟩:=Option.bind_eq_some_iff.mp hr
  by_cases hdl:ds.length<=1000000
  ·rw [if_pos hdl] at hr
   exact⟨n,s1,ds,hy,hds,hdl,hr⟩
  ·rw [if_neg hdl] at hr;cases hr
theorem zv {scope:Scope}{Nc:List Str}{k:Nat}{js:List Nat}{elt iter:Expr}{ifs:List Expr}{fe:Ef}{g:Tg}{tt:Tf}{te:Ef}
  (S:fN X scope Nc (gz k js)) (hc:X.calm=true) (hgi:∀ j ∈ sw g,j < k) (hi:IE K X iter fe) (hK:X.K=K)
  (hg:∀ cells s H C fp,PG (lcX X scope cells Nc s H C fp) tg (tG K g)) (ht:∀ cells s H C fp,ITs K (lcX X scope cells Nc s H C fp) ifs tt) (he:∀ cells s H C fp,IE K (lcX X scope cells Nc s H C fp) elt te)
  (hs:∀ x,foldedSetIterable iter X.env x=pure x:=by intro _;rfl):IL K X (.ListComp elt [⟨tg,iter,ifs,0⟩] scope pos) (td k js fe g tt te):=by
 refine⟨λenv st r hr=>?_⟩
 obtain⟨n,s1,ds,hy,hds,hdl,hr'⟩:=vG hr
 exact (yM S hc (xU hi hK hy hds) hg (λcells s H C fp=>(ht cells s H C fp).run) (λcells s H C fp=>(he cells s H C fp).any) hs).imp (yi hgi hdl hr')
end
end L2
namespace Own
open PySem L2
noncomputable section
noncomputable def kv:Sf:=(bi (fq (iCB kK (aa (iV 0) (aa (iC (.ty "int")) ag))) (um (iCB kK (aa (iV 0) (aa (iC (.ty "bool")) ag))))))
noncomputable def gG:Fn:=cK 1 1 kv
noncomputable def mk:Ef:=(fq (au gG (aa (iV 0) ag)) (iOp dGe (iV 0) (iC (.int 0))))
noncomputable def iz:Sf:=(aq (ce (dL (cn (cE cG (iCB kK (aa (iV 0) (aa (iC (.ty "tuple")) ag))))) (bg dNe (iCB bA (aa (iV 0) ag)) (iV 1))) (bi (iC (.bl false))) bj) (bi (iCB oB (aa (aD (iLc 1 [] (aX (iV 0)) (.nm 0) bf mk)) ag))))
noncomputable def cw:Fn:=cK 2 2 iz
noncomputable def gI:Tf:=(bg dNe (iV 3) (iC (.int 0)))
noncomputable def gY:Sf:=(aq (aG (.nm 4) (iOp iH (iV 1) (iV 3))) (aq (aG (.nm 1) (iV 3)) (aG (.nm 3) (iV 4))))
noncomputable def gZ:Sf:=(aq (aG (.nm 3) (iCB sS (aa (iV 2) ag))) (tK (2 ^ 8000) gI gY))
noncomputable def d9:Sf:=(aq (aG (.nm 1) (iC (.int 0))) (aq (jD (aX (iV 0)) (.nm 2) gZ) (bi (iV 1))))
noncomputable def dq:Fn:=cK 5 1 d9
noncomputable def lP:Ef:=(iOp ny (iV 0) (iV 1))
noncomputable def jX:Sf:=(aq (aG (.nm 1) (au dq (aa (iV 0) ag))) (aq (ce (bg dEq (iV 1) (iC (.int 0))) (bi (iCB iy (aa (iV 0) ag))) bj) (bi (iCB iy (aa (aD (iLc 1 [1] (aX (iV 0)) (.nm 0) bf lP)) ag)))))
noncomputable def iG:Fn:=cK 2 1 jX
noncomputable def jk:Ef:=(iOp bM (iV 0) (iV 1))
noncomputable def dZ:Sf:=(bi (iCB qp (aa (aD (iLc 2 [] (d8 (aa (iV 0) (aa (iV 1) ag))) (.tp [0,1]) bf jk)) ag)))
noncomputable def aU:Fn:=cK 2 2 dZ
noncomputable def kf:Ef:=(iOp dIx (iV 0) (iV 1))
noncomputable def io:Sf:=(bi (aD (iLc 1 [1] (aX (iV 0)) (.nm 0) bf kf)))
noncomputable def jB:Fn:=cK 2 2 io
noncomputable def hZ:Ef:=(iOp dLe (au aU (aa (iV 0) (aa (iV 2) ag))) (iOp bM (iV 1) (iV 3)))
noncomputable def ef:Sf:=(bi (iCB oB (aa (aD (iLc 2 [2,3] (d8 (aa (iV 0) (aa (iV 1) ag))) (.tp [0,1]) bf hZ)) ag)))
noncomputable def cI:Fn:=cK 4 4 ef
noncomputable def jj:Ef:=(iOp dGe (au aU (aa (au jB (aa (iV 2) (aa (iV 0) ag))) (aa (iV 3) ag))) (iOp bM (iV 1) (iV 4)))
noncomputable def fL:Sf:=(bi (iCB oB (aa (aD (iLc 2 [0,2,3] (fX (aa (iV 1) ag)) (.tp [0,1]) bf jj)) ag)))
noncomputable def fJ:Fn:=cK 4 4 fL
noncomputable def gH:Sf:=(aq (ce (dL (cn (cE cG (au gG (aa (iV 3) ag)))) (bg dLt (iV 3) (iC (.int 1)))) (bi (iC (.bl false))) bj) (aq (ce (dL (cn (cE cG (au cw (aa (iV 4) (aa (iCB bA (aa (iV 2) ag)) ag))))) (cn (cE cG (au cw (aa (iV 5) (aa (iCB bA (aa (iV 0) ag)) ag)))))) (bi (iC (.bl false))) bj) (aq (ce (dL (cn (cE cG (au cI (aa (iV 0) (aa (iV 1) (aa (iV 4) (aa (iV 3) ag))))))) (cn (cE cG (au fJ (aa (iV 0) (aa (iV 2) (aa (iV 5) (aa (iV 3) ag)))))))) (bi (iC (.bl false))) bj) (bi (iOp dEq (au aU (aa (iV 1) (aa (iV 5) ag))) (au aU (aa (iV 2) (aa (iV 4) ag))))))))
noncomputable def kJ:Fn:=cK 6 6 gH
noncomputable def jm:Sf:=(aq (ce (cn (cE cG (au cw (aa (iV 2) (aa (iCB bA (aa (iV 1) ag)) ag))))) (bi (iC (.bl false))) bj) (bi (fq (au cI (aa (iV 0) (aa (iOp bM (aD (ck (aa (iC (.int 0)) ag))) (iCB bA (aa (iV 0) ag))) (aa (iV 2) (aa (iC (.int 1)) ag))))) (iOp dGt (au aU (aa (iV 1) (aa (iV 2) ag))) (iC (.int 0))))))
noncomputable def nj:Fn:=cK 3 3 jm
noncomputable def eO:Sf:=(aq (ce (dL (cn (cE cG (iCB kK (aa (iV 3) (aa (iC (.ty "tuple")) ag))))) (dL (bg qj (iCB bA (aa (iV 3) ag)) (bo (aa (iC (.int 2)) (aa (iC (.int 4)) ag)))) (cn (cE cG (iCB kK (aa (iOp dIx (iV 3) (iC (.int 0))) (aa (iC (.ty "str")) ag))))))) (bi (iC (.bl false))) bj) (aq (ce (bg dEq (iCB bA (aa (iV 3) ag)) (iC (.int 4))) (bi (fq (iOp dEq (iOp dIx (iV 3) (iC (.int 0))) (iC (.str "most"))) (au kJ (aa (iV 0) (aa (iV 1) (aa (iV 2) (aa (iOp dIx (iV 3) (iC (.int 1))) (aa (iOp dIx (iV 3) (iC (.int 2))) (aa (iOp dIx (iV 3) (iC (.int 3))) ag))))))))) bj) (bi (fq (iOp dEq (iOp dIx (iV 3) (iC (.int 0))) (iC (.str "beyond"))) (au nj (aa (iV 0) (aa (iV 2) (aa (iOp dIx (iV 3) (iC (.int 1))) ag))))))))
noncomputable def cp:Fn:=cK 4 4 eO
noncomputable def jK:Ef:=(iOp bH (aD (iCL uO (aa (iV 0) ag))) (aD (ck (aa (iV 1) ag))))
noncomputable def jy:Ef:=(iUn oA (iV 0))
noncomputable def dM:List (Str×Ef):=[("amounts",(iCB bA (aa (iV 3) ag))),("lines",(aD (iLc 2 [] (d8 (aa (iV 1) (aa (iV 2) ag))) (.tp [0,1]) bf jK))),("goal",(iOp bH (aD (iLc 1 [] (aX (iV 3)) (.nm 0) bf jy)) (aD (ck (aa (iC (.int 0)) ag))))),("part",(iC (.int 1))),("free",(ft (vo (aa (iCB bA (aa (iV 3) ag)) ag)))),("kept",(ft (pH (aa (iCB bA (aa (iV 3) ag)) (aa (iOp bH (iCB bA (aa (iV 3) ag)) (iCB bA (aa (iV 1) ag))) ag)))))]
noncomputable def bF:Sf:=(aq (ce (cE cG (iV 3)) (aq (aG (.nm 5) (iOp bM (iOp dIx (iV 1) (iV 4)) (iOp dIx (iV 2) (iOp dIx (iV 3) (iC (.int 0)))))) (aq (aG (.nm 6) (iOp bM (iOp dIx (iV 1) (iOp dIx (iV 3) (iC (.int 0)))) (iOp dIx (iV 2) (iV 4)))) (aq (ce (bg dGt (iV 5) (iV 6)) oR bj) (ce (bg dLt (iV 5) (iV 6)) (aG (.nm 3) (ft (ck ag))) bj)))) bj) (ki (lZ ik (iV 3) (aa (iV 4) ag))))
noncomputable def fM:Sf:=(aq (aG (.nm 3) (ft (ck ag))) (aq (jD (aX (iV 0)) (.nm 4) bF) (bi (iV 3))))
noncomputable def iA:Fn:=j7 7 3 fM
noncomputable def jW:Sf:=(bi (iOp bH (aD (ck (aa (iC .non) ag))) (aD (pH (aa (ay "amounts" (iV 0)) (aa (iOp bH (ay "amounts" (iV 0)) (iCB bA (aa (ay "lines" (iV 0)) ag))) ag))))))
noncomputable def gx:Fn:=cK 1 1 jW
noncomputable def mP:Ef:=(mr (bg dEq (iV 0) (iV 1)) (ay "part" (iV 2)) (iC (.int 0)))
noncomputable def mV:Ef:=(iOp dIx (iV 0) (iV 1))
noncomputable def mR:Ef:=(iOp dIx (iV 0) (iUn oA (iC (.int 1))))
noncomputable def fg:Sf:=(aq (ce (bg kz (iV 1) (iC .non)) (bi (aD (iLc 1 [] (aX (ay "lines" (iV 0))) (.nm 0) bf mR))) bj) (aq (ce (bg dIn (iV 1) (ay "free" (iV 0))) (aq (aG (.nm 2) (wo (ay "free" (iV 0)) (aa (iV 1) ag))) (bi (aD (iLc 1 [2] (aX (ay "lines" (iV 0))) (.nm 0) bf mV)))) bj) (bi (aD (iLc 1 [1,0] (aX (ay "kept" (iV 0))) (.nm 0) bf mP)))))
noncomputable def eN:Fn:=cK 3 2 fg
noncomputable def gX:Sf:=(aq (ce (bg dLt (iCB bA (aa (iV 3) ag)) (iC (.int 2))) tR bj) (aG (.nm 3) (au iA (aa (iV 3) (aa (au eN (aa (iV 0) (aa (iV 4) ag))) (aa (iV 2) ag))))))
noncomputable def lO:Ef:=(iV 0)
noncomputable def lN:Tf:=(bg dGt (iV 1) (iC (.int 0)))
noncomputable def lV:Ef:=(iOp dIx (iV 0) (iV 1))
noncomputable def jQ:Sf:=(aq (aG (.nm 2) (aD (iLc 1 [1] (aX (ay "lines" (iV 0))) (.nm 0) bf lV))) (aq (aG (.nm 3) (aD (iLc 2 [] (fX (aa (iV 2) ag)) (.tp [0,1]) lN lO))) (aq (jD (aX (au gx (aa (iV 0) ag))) (.nm 4) gX) (bi (mr (cE cG (iV 3)) (iOp dIx (iV 3) (iC (.int 0))) (iC .non))))))
noncomputable def jV:Fn:=cK 5 2 jQ
noncomputable def dH:Sf:=(aq (aG (.nm 6) (au eN (aa (iV 0) (aa (iV 5) ag)))) (aq (aG (.nm 7) (iOp mj (iOp bM (iV 4) (iOp dIx (iV 6) (iOp dIx (iV 2) (iC (.int 1))))) (iOp bM (iV 3) (iOp dIx (iV 6) (iOp dIx (iV 1) (iC (.int 1))))))) (ce (bg dNe (iV 7) (iC (.int 0))) (bi (iOp dGt (iV 7) (iC (.int 0)))) bj)))
noncomputable def eR:Sf:=(aq (aG (.nm 3) (iOp bM (iOp dIx (ay "goal" (iV 0)) (iOp dIx (iV 1) (iC (.int 0)))) (iOp dIx (iOp dIx (ay "lines" (iV 0)) (iOp dIx (iV 2) (iC (.int 1)))) (iOp dIx (iV 2) (iC (.int 0)))))) (aq (aG (.nm 4) (iOp bM (iOp dIx (ay "goal" (iV 0)) (iOp dIx (iV 2) (iC (.int 0)))) (iOp dIx (iOp dIx (ay "lines" (iV 0)) (iOp dIx (iV 1) (iC (.int 1)))) (iOp dIx (iV 1) (iC (.int 0)))))) (aq (jD (aX (au gx (aa (iV 0) ag))) (.nm 5) dH) (bi (iC (.bl false))))))
noncomputable def dS:Fn:=cK 8 3 eR
noncomputable def dv:Sf:=(aq (ce (bg dGe (iOp dIx (ay "goal" (iV 0)) (iV 2)) (iC (.int 0))) oR bj) (aq (aG (.nm 3) (bo (aa (iV 2) (aa (au jV (aa (iV 0) (aa (iV 2) ag))) ag)))) (aq (ce (bg kz (iOp dIx (iV 3) (iC (.int 1))) (iC .non)) (bi (iV 3)) bj) (ce (dL (bg kz (iV 1) (iC .non)) (cE cG (au dS (aa (iV 0) (aa (iV 3) (aa (iV 1) ag)))))) (aG (.nm 1) (iV 3)) bj))))
noncomputable def fV:Sf:=(aq (aG (.nm 1) (iC .non)) (aq (jD (dk (aa (iCB bA (aa (ay "free" (iV 0)) ag)) ag)) (.nm 2) dv) (bi (iV 1))))
noncomputable def db:Fn:=cK 4 1 fV
noncomputable def lE:Ef:=(iOp ny (iOp mj (iOp bM (iV 2) (iV 0)) (iOp bM (iV 3) (iV 1))) (iV 4))
noncomputable def mD:Sf:=(aq (aG (.nm 4) (iOp dIx (iV 1) (iV 2))) (aq (aG (.nm 5) (iOp dIx (iV 0) (iV 2))) (aq (aG (.nm 6) (ft (iLc 2 [4,5,3] (d8 (aa (iV 0) (aa (iV 1) ag))) (.tp [0,1]) bf lE))) (aq (cq (iV 6) (iV 2) (iUn oA (iV 5))) (bi (iV 6))))))
noncomputable def jT:Fn:=j7 7 4 mD
noncomputable def gr:Ef:=(au jT (aa (iV 0) (aa (iV 1) (aa (iV 2) (aa (iV 3) ag)))))
noncomputable def gK:Sf:=(aq (aG (.nm 3) (iOp dIx (ay "lines" (iV 0)) (iV 1))) (aq (aG (.nm 4) (ay "part" (iV 0))) (aq (i3 5 1 2 3 4 (iLc 1 [3,2,4] (aX (ay "lines" (iV 0))) (.nm 0) bf gr)) (aq (kc "goal" (iV 0) (au jT (aa (ay "goal" (iV 0)) (aa (iV 3) (aa (iV 2) (aa (iV 4) ag)))))) (aq (kc "lines" (iV 0) (iV 5)) (aq (kc "part" (iV 0) (iOp dIx (iV 3) (iV 2))) (aq (aG (.nm 6) (iOp dIx (ay "free" (iV 0)) (iV 2))) (aq (cq (ay "free" (iV 0)) (iV 2) (iOp dIx (ay "kept" (iV 0)) (iV 1))) (cq (ay "kept" (iV 0)) (iV 1) (iV 6))))))))))
noncomputable def fC:Fn:=j7 7 3 gK
noncomputable def nD:Sf:=(ce (bg dLt (iV 4) (ay "amounts" (iV 0))) (cq (iV 2) (iV 4) (iUn oA (iOp dIx (iOp dIx (ay "lines" (iV 0)) (iV 3)) (iV 1)))) bj)
noncomputable def le:Sf:=(aq (aG (.nm 2) (ft (sr og (aD (ck (aa (iC (.int 0)) ag))) (ay "amounts" (iV 0))))) (aq (jD (fX (aa (ay "kept" (iV 0)) ag)) (.tp [3,4]) nD) (aq (ce (bg dLt (iOp dIx (ay "free" (iV 0)) (iV 1)) (ay "amounts" (iV 0))) (cq (iV 2) (iOp dIx (ay "free" (iV 0)) (iV 1)) (ay "part" (iV 0))) bj) (bi (ge iG (aa (iV 2) ag))))))
noncomputable def kN:Fn:=j7 5 2 le
noncomputable def jv:Sf:=(ce (bg dLt (iV 3) (ay "amounts" (iV 0))) (cq (iV 1) (iV 3) (iOp dIx (iOp dIx (ay "lines" (iV 0)) (iV 2)) (iUn oA (iC (.int 1))))) bj)
noncomputable def gm:Sf:=(aq (aG (.nm 1) (ft (sr og (aD (ck (aa (iC (.int 0)) ag))) (ay "amounts" (iV 0))))) (aq (jD (fX (aa (ay "kept" (iV 0)) ag)) (.tp [2,3]) jv) (bi (iV 1))))
noncomputable def iW:Fn:=j7 4 1 gm
noncomputable def km:Sf:=(ce (bg dGe (iV 3) (ay "amounts" (iV 0))) (cq (iV 1) (iOp mj (iV 3) (ay "amounts" (iV 0))) (iOp dIx (ay "goal" (iV 0)) (iV 2))) bj)
noncomputable def hJ:Sf:=(aq (aG (.nm 1) (ft (sr og (aD (ck (aa (iC (.int 0)) ag))) (iCB bA (aa (ay "lines" (iV 0)) ag))))) (aq (jD (fX (aa (ay "free" (iV 0)) ag)) (.tp [2,3]) km) (bi (iV 1))))
noncomputable def jM:Fn:=j7 4 1 hJ
noncomputable def e9:Ef:=(iOp ny (iV 0) (iV 1))
noncomputable def eQ:Ef:=(iOp ny (iV 0) (iV 1))
noncomputable def gu:Sf:=(aq (aG (.nm 1) (au iW (aa (iV 0) ag))) (aq (aG (.nm 2) (au jM (aa (iV 0) ag))) (aq (aG (.nm 3) (au dq (aa (iOp bH (iOp bH (aD (ck (aa (ay "part" (iV 0)) ag))) (iV 1)) (iV 2)) ag))) (bi (bo (aa (iC (.str "most")) (aa (iOp ny (ay "part" (iV 0)) (iV 3)) (aa (iCB iy (aa (aD (iLc 1 [3] (aX (iV 1)) (.nm 0) bf eQ)) ag)) (aa (iCB iy (aa (aD (iLc 1 [3] (aX (iV 2)) (.nm 0) bf e9)) ag)) ag)))))))))
noncomputable def iO:Fn:=cK 4 1 gu
noncomputable def iQ:Tf:=(bg yV (iV 4) (iC .non))
noncomputable def gW:Sf:=(aq (ce (bg kz (iOp dIx (iV 4) (iC (.int 1))) (iC .non)) (bi (bo (aa (iC (.str "beyond")) (aa (ge kN (aa (iV 3) (aa (iOp dIx (iV 4) (iC (.int 0))) ag))) ag)))) bj) (aq (ki (au fC (aa (iV 3) (aa (iOp dIx (iV 4) (iC (.int 1))) (aa (iOp dIx (iV 4) (iC (.int 0))) ag))))) (aG (.nm 4) (ge db (aa (iV 3) ag)))))
noncomputable def iM:Sf:=(aq (aG (.nm 3) (oQ 4 4 dM (aa (iV 0) (aa (iV 1) (aa (iV 2) ag))))) (aq (aG (.nm 4) (ge db (aa (iV 3) ag))) (aq (tK (2 ^ 8000) iQ gW) (bi (ge iO (aa (iV 3) ag))))))
noncomputable def jU:Fn:=cK 5 3 iM
noncomputable def gN:Sf:=(aq (aG (.nm 2) (mr (bg dLt (iV 1) (iCB bA (aa (iV 0) ag))) (iOp dIx (iV 0) (iV 1)) (iC (.int 0)))) (aq (aG (.nm 3) (iOp bM (iCB sS (aa (iV 2) ag)) (iCB u5 (aa (iOp dGe (iCB sS (aa (iV 2) ag)) (iOp mq (iC (.int 10)) (iC (.int 18)))) ag)))) (bi (ft (ck (aa (iV 3) (aa (iOp iH (iOp bM (iOp bH (iOp bH (iOp iH (iV 2) (iC (.int 2147483629))) (iOp bM (iOp bM (iC (.int 5303)) (iV 1)) (iV 1))) (iC (.int 17))) (iC (.int 48271))) (iC (.int 2147483647))) (aa (iC (.int 0)) ag))))))))
noncomputable def fv:Fn:=cK 4 2 gN
noncomputable def eH:Sf:=(aq (cq (iV 0) (iC (.int 2)) (iOp bH (iOp dIx (iV 0) (iC (.int 2))) (iC (.int 1)))) (aq (ce (oK (bg dGt (iOp dIx (iV 0) (iC (.int 0))) (iC (.int 0))) (bg dLe (iOp dIx (iV 0) (iC (.int 2))) (iC (.int 400)))) (aq (aG (.nm 2) (iOp iH (iOp dIx (iV 0) (iC (.int 0))) (iV 1))) (aq (cq (iV 0) (iC (.int 0)) (iOp nC (iOp dIx (iV 0) (iC (.int 0))) (iV 1))) (bi (iV 2)))) bj) (aq (cq (iV 0) (iC (.int 1)) (iOp iH (iOp bH (iOp bH (iOp bM (iOp dIx (iV 0) (iC (.int 1))) (iC (.int 48271))) (iC (.int 12345))) (iOp dIx (iV 0) (iC (.int 2)))) (iC (.int 2147483647)))) (bi (iOp iH (iOp nC (iOp iH (iOp bM (iOp dIx (iV 0) (iC (.int 1))) (iOp bH (iOp iH (iOp dIx (iV 0) (iC (.int 1))) (iC (.int 39373))) (iC (.int 7)))) (iC (.int 2147483629))) (iC (.int 64))) (iV 1))))))
noncomputable def aB:Fn:=cK 3 2 eH
noncomputable def iD:Ef:=(iOp mj (au aB (aa (iV 1) (aa (iC (.int 9)) ag))) (iC (.int 3)))
noncomputable def fG:Ef:=(iOp bM (au aB (aa (iV 1) (aa (iC (.int 8)) ag))) (iV 2))
noncomputable def ow:Sf:=(aq (aG (.nm 5) (iOp dIx (aD (ck (aa (iC (.int 1)) (aa (iC (.int 1)) (aa (iC (.int 1)) (aa (iOp mq (iC (.int 10)) (iC (.int 12))) ag)))))) (au aB (aa (iV 0) (aa (iC (.int 4)) ag))))) (aq (aG (.nm 6) (iCB iy (aa (aD (td 1 [0,5] (iV 3) (.nm 0) bf fG)) ag))) (bi (bo (aa (iCB iy (aa (iV 3) ag)) (aa (iV 6) (aa (iCB iy (aa (aD (iLc 1 [0] (dk (aa (iV 1) ag)) (.nm 0) bf iD)) ag)) ag)))))))
noncomputable def fH:Ef:=(iOp bM (iOp mj (au aB (aa (iV 1) (aa (iC (.int 7)) ag))) (iV 2)) (iCB u5 (aa (iOp dGt (au aB (aa (iV 1) (aa (iC (.int 4)) ag))) (iC (.int 0))) ag)))
noncomputable def kg:Sf:=(ki (lZ ik (iV 3) (aa (iCB iy (aa (aD (iLc 1 [0,2] (dk (aa (iV 1) ag)) (.nm 0) bf fH)) ag)) ag)))
noncomputable def fQ:Sf:=(aq (aG (.nm 1) (iOp bH (iC (.int 1)) (au aB (aa (iV 0) (aa (iC (.int 5)) ag))))) (aq (aG (.nm 2) (iOp dIx (aD (ck (aa (iC (.int 0)) (aa (iC (.int 3)) (aa (iC (.int 1)) ag))))) (au aB (aa (iV 0) (aa (iC (.int 3)) ag))))) (aq (aG (.nm 3) (ft (ck ag))) (aq (jD (dk (aa (au aB (aa (iV 0) (aa (iC (.int 6)) ag))) ag)) (.nm 4) kg) ow))))
noncomputable def jG:Fn:=j7 7 1 fQ
noncomputable def qg:Ef:=(iOp bM (iV 0) (iV 1))
noncomputable def kG:Sf:=(bi (iCB qp (aa (aD (iLc 2 [] (d8 (aa (iV 0) (aa (iV 1) ag))) (.tp [0,1]) bf qg)) ag)))
noncomputable def cP:Fn:=cK 2 2 kG
noncomputable def iU:Sf:=(bi (fq (iCB kK (aa (iV 0) (aa (iC (.ty "int")) ag))) (um (iCB kK (aa (iV 0) (aa (iC (.ty "bool")) ag))))))
noncomputable def eV:Fn:=cK 1 1 iU
noncomputable def lu:Ef:=(fq (au eV (aa (iV 0) ag)) (iOp dGe (iV 0) (iC (.int 0))))
noncomputable def gJ:Sf:=(aq (ce (dL (cn (cE cG (iCB kK (aa (iV 0) (aa (iC (.ty "tuple")) ag))))) (bg dNe (iCB bA (aa (iV 0) ag)) (iV 1))) (bi (iC (.bl false))) bj) (bi (iCB oB (aa (aD (iLc 1 [] (aX (iV 0)) (.nm 0) bf lu)) ag))))
noncomputable def cc:Fn:=cK 2 2 gJ
noncomputable def eZ:Ef:=(iOp bM (iOp dIx (iV 0) (iV 2)) (iV 1))
noncomputable def ci:Sf:=(ce (bg dLt (iCB qp (aa (aD (iLc 2 [7] (d8 (aa (iV 4) (aa (iV 3) ag))) (.tp [0,1]) bf eZ)) ag)) (iOp bM (iOp dIx (iV 6) (iV 7)) (iV 1))) (bi (iC (.bl false))) bj)
noncomputable def eS:Ef:=(iOp dGt (au cP (aa (iV 0) (aa (iV 2) ag))) (iOp bM (iV 1) (iV 3)))
noncomputable def dn:Sf:=(aq (aG (.tp [4,5,6]) (iV 0)) (aq (ce (dL (cn (cE cG (au eV (aa (iV 1) ag)))) (dL (bg dLt (iV 1) (iC (.int 1))) (cn (cE cG (au cc (aa (iV 2) (aa (iCB bA (aa (iV 6) ag)) ag))))))) (bi (iC (.bl false))) bj) (aq (ce (cn (cE cG (au cc (aa (iV 3) (aa (iCB bA (aa (iV 4) ag)) ag))))) (bi (iC (.bl false))) bj) (aq (ce (cE cG (iCB ub (aa (aD (iLc 2 [2,1] (d8 (aa (iV 4) (aa (iV 5) ag))) (.tp [0,1]) bf eS)) ag))) (bi (iC (.bl false))) bj) (aq (jD (dk (aa (iCB bA (aa (iV 6) ag)) ag)) (.nm 7) ci) (bi (iOp dEq (au cP (aa (iV 5) (aa (iV 3) ag))) (au cP (aa (iV 6) (aa (iV 2) ag))))))))))
noncomputable def gi:Fn:=cK 8 4 dn
noncomputable def jb:Ef:=(iOp dLe (au cP (aa (iV 0) (aa (iOp dIx (iV 1) (iC (.int 1))) ag))) (iC (.int 0)))
noncomputable def fA:Sf:=(aq (ce (dL (cn (cE cG (iCB kK (aa (iV 1) (aa (iC (.ty "tuple")) ag))))) (dL (bg qj (iCB bA (aa (iV 1) ag)) (bo (aa (iC (.int 2)) (aa (iC (.int 4)) ag)))) (cn (cE cG (iCB kK (aa (iOp dIx (iV 1) (iC (.int 0))) (aa (iC (.ty "str")) ag))))))) (bi (iC (.bl false))) bj) (aq (ce (bg dEq (iCB bA (aa (iV 1) ag)) (iC (.int 4))) (bi (fq (iOp dEq (iOp dIx (iV 1) (iC (.int 0))) (iC (.str "most"))) (au gi (aa (iV 0) (aa (iOp dIx (iV 1) (iC (.int 1))) (aa (iOp dIx (iV 1) (iC (.int 2))) (aa (iOp dIx (iV 1) (iC (.int 3))) ag))))))) bj) (aq (ce (dL (bg dNe (iOp dIx (iV 1) (iC (.int 0))) (iC (.str "beyond"))) (cn (cE cG (au cc (aa (iOp dIx (iV 1) (iC (.int 1))) (aa (iCB bA (aa (iOp dIx (iV 0) (iC (.int 2))) ag)) ag)))))) (bi (iC (.bl false))) bj) (bi (fq (iCB oB (aa (aD (iLc 1 [1] (aX (iOp dIx (iV 0) (iC (.int 0)))) (.nm 0) bf jb)) ag)) (iOp dGt (au cP (aa (iOp dIx (iV 0) (iC (.int 2))) (aa (iOp dIx (iV 1) (iC (.int 1))) ag))) (iC (.int 0))))))))
noncomputable def gQ:Fn:=cK 2 2 fA
noncomputable def dg:Sf:=(bi (iOp dIx (aD (ck (aa (iOp bH (iV 1) (iC (.int 1))) (aa (iOp mj (iV 1) (iC (.int 1))) (aa (iOp bM (iC (.int 2)) (iV 1)) (aa (iC (.int 0)) (aa (iOp bH (iV 1) (iOp mq (iC (.int 10)) (iC (.int 12)))) ag))))))) (au aB (aa (iV 0) (aa (iC (.int 5)) ag)))))
noncomputable def bZ:Fn:=cK 2 2 dg
noncomputable def cJ:Sf:=(aq (aG (.nm 2) (au aB (aa (iV 0) (aa (iOp bH (iCB bA (aa (iV 1) ag)) (iC (.int 1))) ag)))) (aq (aG (.nm 3) (au aB (aa (iV 0) (aa (iC (.int 6)) ag)))) (aq (ce (bg dEq (iV 3) (iC (.int 0))) (bi (iOp bH (iOp bH (iSl (iV 1) iPn (iPs (iV 2))) (bo (aa (au aB (aa (iV 0) (aa (iC (.int 4)) ag))) ag))) (iSl (iV 1) (iPs (iV 2)) iPn))) bj) (aq (ce (dL (bg dEq (iV 3) (iC (.int 1))) (bg dEq (iV 1) (bo ag))) (bi (iOp bH (iSl (iV 1) iPn (iPs (iV 2))) (iSl (iV 1) (iPs (iOp bH (iV 2) (iC (.int 1)))) iPn))) bj) (aq (aG (.nm 2) (iOp iH (iV 2) (iCB bA (aa (iV 1) ag)))) (bi (iOp bH (iOp bH (iSl (iV 1) iPn (iPs (iV 2))) (bo (aa (au bZ (aa (iV 0) (aa (iOp dIx (iV 1) (iV 2)) ag))) ag))) (iSl (iV 1) (iPs (iOp bH (iV 2) (iC (.int 1)))) iPn))))))))
noncomputable def aW:Fn:=cK 4 2 cJ
noncomputable def oq:Sf:=(bi (iOp dIx (iOp bH (iV 4) (aD (ck (aa (bo (aa (iV 5) (aa (iV 6) (aa (au aW (aa (iV 0) (aa (iV 7) ag))) (aa (au aW (aa (iV 0) (aa (iV 8) ag))) ag))))) ag)))) (iV 2)))
noncomputable def nZ:Ef:=(iOp bM (iV 1) (iV 0))
noncomputable def iu:Ef:=(iCB iy (aa (aD (iLc 1 [1] (aX (iV 0)) (.nm 0) bf nZ)) ag))
noncomputable def om:Sf:=(aq (aG (.nm 9) (aD (iLc 1 [3] (aX (bo (aa (iV 7) (aa (iV 8) ag)))) (.nm 0) bf iu))) (aq (aG (.nm 4) (aD (ck (aa (bo (aa (iV 5) (aa (iOp bM (iV 3) (iV 6)) (aa (iOp dIx (iV 9) (iC (.int 0))) (aa (iOp dIx (iV 9) (iC (.int 1))) ag))))) (aa (bo (aa (iV 5) (aa (iV 6) (aa (iOp dIx (iV 9) (iC (.int 0))) (aa (iV 8) ag))))) (aa (bo (aa (iV 5) (aa (iV 6) (aa (iV 8) (aa (iV 7) ag))))) ag)))))) (aq (aG (.nm 4) (iOp bH (iV 4) (aD (ck (aa (bo (aa (iV 5) (aa (au bZ (aa (iV 0) (aa (iV 6) ag))) (aa (iV 7) (aa (iV 8) ag))))) (aa (bo (aa (iC (.str "beyond")) (aa (iV 7) ag))) (aa (iOp bH (bo (aa (iC (.str "beyond")) ag)) (iSl (iV 1) (iPs (iC (.int 1))) iPn)) ag))))))) (aq (aG (.nm 4) (iOp bH (iV 4) (aD (ck (aa (bo (aa (iV 5) (aa (iV 6) (aa (au aW (aa (iV 0) (aa (iV 7) ag))) (aa (iV 8) ag))))) (aa (bo (aa (iV 5) (aa (iV 6) (aa (iV 7) (aa (au aW (aa (iV 0) (aa (iV 8) ag))) ag))))) ag)))))) oq))))
noncomputable def j9:Ef:=(iOp bM (iV 1) (iV 0))
noncomputable def fT:Sf:=(aq (aG (.nm 2) (au aB (aa (iV 0) (aa (iC (.int 9)) ag)))) (aq (aG (.nm 3) (iOp bH (iC (.int 2)) (au aB (aa (iV 0) (aa (iC (.int 2)) ag))))) (aq (ce (bg dEq (iOp dIx (iV 1) (iC (.int 0))) (iC (.str "beyond"))) (aq (aG (.nm 4) (aD (ck (aa (bo (aa (iC (.str "beyond")) (aa (iCB iy (aa (aD (iLc 1 [3] (aX (iOp dIx (iV 1) (iC (.int 1)))) (.nm 0) bf j9)) ag)) ag))) (aa (bo (aa (iC (.str "most")) (aa (iOp dIx (iV 1) (iC (.int 1))) ag))) (aa (bo (aa (iC (.str "beyond")) (aa (iOp bM (bo (aa (iC (.int 1)) ag)) (iCB bA (aa (iOp dIx (iV 1) (iC (.int 1))) ag))) ag))) ag)))))) (bi (iOp dIx (iOp bH (iV 4) (iOp bM (aD (ck (aa (bo (aa (iC (.str "beyond")) (aa (au aW (aa (iV 0) (aa (iOp dIx (iV 1) (iC (.int 1))) ag))) ag))) ag))) (iC (.int 6)))) (iV 2)))) bj) (aq (aG (.tp [5,6,7,8]) (iV 1)) om))))
noncomputable def eJ:Fn:=cK 10 2 fT
noncomputable def uk:Sf:=(aq (aG (.nm 9) (au eJ (aa (iV 2) (aa (iV 7) ag)))) (aq (aG (.nm 10) (au cp (aa (iV 4) (aa (iV 5) (aa (iV 6) (aa (iV 9) ag)))))) (ce (dL (cn (cE cG (iCB kK (aa (iV 10) (aa (iC (.ty "bool")) ag))))) (bg dNe (iV 10) (au gQ (aa (iV 3) (aa (iV 9) ag))))) (bi (iC (.bl false))) bj)))
noncomputable def qt:Sf:=(aq (aG (.nm 2) (au fv (aa (iV 0) (aa (iV 1) ag)))) (aq (aG (.nm 3) (au jG (aa (iV 2) ag))) (aq (aG (.tp [4,5,6]) (iV 3)) (aq (aG (.nm 7) (au jU (aa (iV 4) (aa (iV 5) (aa (iV 6) ag))))) (aq (ce (bg we (au cp (aa (iV 4) (aa (iV 5) (aa (iV 6) (aa (iV 7) ag))))) (iC (.bl true))) (bi (iC (.bl false))) bj) (jD (dk (aa (iC (.int 9)) ag)) (.nm 8) uk))))))
noncomputable def uD:Sf:=(aq (jD (dk (aa (iOp bH (iC (.int 1)) (iCB xF (aa (iC (.int 8)) (aa (iCB bA (aa (iV 0) ag)) ag)))) ag)) (.nm 1) qt) (bi (iC (.bl true))))
noncomputable def rq:Fn:=j7 11 1 uD
end
end Own
section
set_option maxHeartbeats 2000000
namespace Own
open PySem L2
noncomputable def top (i:Nat):Stmt:=PySem.Challenge.pw_signpoly_k26_most_looked_at.main.body.getD i (.Pass ⟨0,0,0,0⟩)
noncomputable def yu (s:Stmt):List Stmt:=match s with
 | .ClassDef _ _ _ b _ _ _ _ _ _ _=>b
 | _=>[]
abbrev eD:Stmt:=top 1
abbrev cC:Stmt:=top 2
abbrev cm:Stmt:=top 3
abbrev eI:Stmt:=top 4
abbrev br:Stmt:=top 5
abbrev cZ:Stmt:=top 7
abbrev bS:Stmt:=top 8
abbrev cB:Stmt:=top 9
abbrev en:Stmt:=top 10
abbrev gB:Stmt:=top 11
abbrev dl:Stmt:=top 12
abbrev cM:Stmt:=(yu (top 14)).getD 0 (.Pass ⟨0,0,0,0⟩)
abbrev cR:Stmt:=top 15
abbrev fu:Stmt:=top 16
abbrev ca:Stmt:=top 17
abbrev dP:Stmt:=top 18
abbrev de:Stmt:=top 19
abbrev dJ:Stmt:=top 20
abbrev im:Stmt:=top 21
abbrev dG:Stmt:=top 22
abbrev gO:Stmt:=top 23
abbrev dm:Stmt:=top 24
abbrev dC:Stmt:=top 25
abbrev cv:Stmt:=top 26
abbrev fB:Stmt:=top 27
abbrev eE:Stmt:=top 29
abbrev dA:Stmt:=top 30
abbrev cy:Stmt:=top 31
abbrev dD:Stmt:=top 32
abbrev dh:Stmt:=top 33
abbrev cf:Stmt:=top 34
abbrev bK:Stmt:=top 35
abbrev dF:Stmt:=top 36
abbrev bO:Stmt:=top 37
abbrev cj:Stmt:=top 38
abbrev cA:Stmt:=top 39
abbrev nq:Stmt:=top 40
theorem rE:aK ["thing"] ["thing"] (ah eD):=⟨rfl,rfl,rfl,by decide +kernel,rfl,by decide +kernel,by decide +kernel⟩
theorem mJ:aK ["thing","many"] ["thing","many"] (ah cC):=⟨rfl,rfl,rfl,by decide +kernel,rfl,by decide +kernel,by decide +kernel⟩
theorem bY:aK ["numbers","found","number","rest","over"] ["numbers"] (ah cm):=⟨rfl,rfl,rfl,by decide +kernel,rfl,by decide +kernel,by decide +kernel⟩
theorem nO:aK ["numbers","shared"] ["numbers"] (ah eI):=⟨rfl,rfl,rfl,by decide +kernel,rfl,by decide +kernel,by decide +kernel⟩
theorem jI:aK ["numbers","others"] ["numbers","others"] (ah br):=⟨rfl,rfl,rfl,by decide +kernel,rfl,by decide +kernel,by decide +kernel⟩
theorem pQ:aK ["rows","place"] ["rows","place"] (ah cZ):=⟨rfl,rfl,rfl,by decide +kernel,rfl,by decide +kernel,by decide +kernel⟩
theorem lD:aK ["rows","bounds","amounts","part"] ["rows","bounds","amounts","part"] (ah bS):=⟨rfl,rfl,rfl,by decide +kernel,rfl,by decide +kernel,by decide +kernel⟩
theorem nU:aK ["rows","gains","prices","part"] ["rows","gains","prices","part"] (ah cB):=⟨rfl,rfl,rfl,by decide +kernel,rfl,by decide +kernel,by decide +kernel⟩
theorem rW:aK ["rows","bounds","gains","part","amounts","prices"] ["rows","bounds","gains","part","amounts","prices"] (ah en):=⟨rfl,rfl,rfl,by decide +kernel,rfl,by decide +kernel,by decide +kernel⟩
theorem vi:aK ["rows","gains","way"] ["rows","gains","way"] (ah gB):=⟨rfl,rfl,rfl,by decide +kernel,rfl,by decide +kernel,by decide +kernel⟩
theorem oE:aK ["rows","bounds","gains","thing"] ["rows","bounds","gains","thing"] (ah dl):=⟨rfl,rfl,rfl,by decide +kernel,rfl,by decide +kernel,by decide +kernel⟩
theorem on:aK ["self","rows","bounds","gains"] ["self","rows","bounds","gains"] (ah cM):=⟨rfl,rfl,rfl,by decide +kernel,rfl,by decide +kernel,by decide +kernel⟩
theorem cV:aK ["places","tops","bottoms","least","place","mine","best"] ["places","tops","bottoms"] (ah cR):=⟨rfl,rfl,rfl,by decide +kernel,rfl,by decide +kernel,by decide +kernel⟩
theorem sB:aK ["table"] ["table"] (ah fu):=⟨rfl,rfl,rfl,by decide +kernel,rfl,by decide +kernel,by decide +kernel⟩
theorem ko:aK ["table","name","column"] ["table","name"] (ah ca):=⟨rfl,rfl,rfl,by decide +kernel,rfl,by decide +kernel,by decide +kernel⟩
theorem gD:aK ["table","column","entries","places","name"] ["table","column"] (ah dP):=⟨rfl,rfl,rfl,by decide +kernel,rfl,by decide +kernel,by decide +kernel⟩
theorem du:aK ["table","one","other","mine","best","name","numbers","more"] ["table","one","other"] (ah de):=⟨rfl,rfl,rfl,by decide +kernel,rfl,by decide +kernel,by decide +kernel⟩
theorem eW:aK ["table","best","column","step"] ["table"] (ah dJ):=⟨rfl,rfl,rfl,by decide +kernel,rfl,by decide +kernel,by decide +kernel⟩
theorem kZ:aK ["line","turning","column","part","pivot","entry","told"] ["line","turning","column","part"] (ah im):=⟨rfl,rfl,rfl,by decide +kernel,rfl,by decide +kernel,by decide +kernel⟩
theorem eK:aK ["table","place","column","turning","part","lines","name"] ["table","place","column"] (ah dG):=⟨rfl,rfl,rfl,by decide +kernel,rfl,by decide +kernel,by decide +kernel⟩
theorem jY:aK ["table","column","way","place","name"] ["table","column"] (ah gO):=⟨rfl,rfl,rfl,by decide +kernel,rfl,by decide +kernel,by decide +kernel⟩
theorem fO:aK ["table","amounts","place","name"] ["table"] (ah dm):=⟨rfl,rfl,rfl,by decide +kernel,rfl,by decide +kernel,by decide +kernel⟩
theorem gn:aK ["table","prices","column","name"] ["table"] (ah dC):=⟨rfl,rfl,rfl,by decide +kernel,rfl,by decide +kernel,by decide +kernel⟩
theorem fI:aK ["table","amounts","prices","shared"] ["table"] (ah cv):=⟨rfl,rfl,rfl,by decide +kernel,rfl,by decide +kernel,by decide +kernel⟩
theorem iN:aK ["rows","bounds","gains","table","step"] ["rows","bounds","gains"] (ah fB):=⟨rfl,rfl,rfl,by decide +kernel,rfl,by decide +kernel,by decide +kernel⟩
theorem jt:aK ["_law_script","_law_k","_law_cell","_law_great"] ["_law_script","_law_k"] (ah eE):=⟨rfl,rfl,rfl,by decide +kernel,rfl,by decide +kernel,by decide +kernel⟩
theorem lc:aK ["_law_pot_here","_law_many","_law_digit"] ["_law_pot_here","_law_many"] (ah dA):=⟨rfl,rfl,rfl,by decide +kernel,rfl,by decide +kernel,by decide +kernel⟩
theorem dj:aK ["_law_pot_here","_law_many","_law_low","_law_rows","_law_row","_law_far","_law_bounds"] ["_law_pot_here"] (ah cy):=⟨rfl,rfl,rfl,by decide +kernel,rfl,by decide +kernel,by decide +kernel⟩
theorem qX:aK ["_law_one","_law_other"] ["_law_one","_law_other"] (ah dD):=⟨rfl,rfl,rfl,by decide +kernel,rfl,by decide +kernel,by decide +kernel⟩
theorem ot:aK ["_law_item"] ["_law_item"] (ah dh):=⟨rfl,rfl,rfl,by decide +kernel,rfl,by decide +kernel,by decide +kernel⟩
theorem me:aK ["_law_item","_law_many"] ["_law_item","_law_many"] (ah cf):=⟨rfl,rfl,rfl,by decide +kernel,rfl,by decide +kernel,by decide +kernel⟩
theorem cW:aK ["_law_case_here","_law_part","_law_amounts","_law_prices","_law_rows","_law_bounds","_law_gains","_law_k"] ["_law_case_here","_law_part","_law_amounts","_law_prices"] (ah bK):=⟨rfl,rfl,rfl,by decide +kernel,rfl,by decide +kernel,by decide +kernel⟩
theorem rT:aK ["_law_case_here","_law_item"] ["_law_case_here","_law_item"] (ah dF):=⟨rfl,rfl,rfl,by decide +kernel,rfl,by decide +kernel,by decide +kernel⟩
theorem j5:aK ["_law_pot_here","_law_number"] ["_law_pot_here","_law_number"] (ah bO):=⟨rfl,rfl,rfl,by decide +kernel,rfl,by decide +kernel,by decide +kernel⟩
theorem dO:aK ["_law_pot_here","_law_row","_law_at","_law_way"] ["_law_pot_here","_law_row"] (ah cj):=⟨rfl,rfl,rfl,by decide +kernel,rfl,by decide +kernel,by decide +kernel⟩
theorem bN:aK ["_law_pot_here","_law_item","_law_way","_law_by","_law_some","_law_word","_law_part","_law_amounts","_law_prices","_law_longer"] ["_law_pot_here","_law_item"] (ah cA):=⟨rfl,rfl,rfl,by decide +kernel,rfl,by decide +kernel,by decide +kernel⟩
theorem gP:aK ["_law_script","_law_k","_law_pot_here","_law_case_here","_law_rows","_law_bounds","_law_gains","_law_found","_law_turn","_law_item","_law_truth"] ["_law_script"] (ah nq):=⟨rfl,rfl,rfl,by decide +kernel,rfl,by decide +kernel,by decide +kernel⟩
set_option genSizeOf false in
set_option genInjectivity false in
structure Adr where
 f0:Addr
 g0:FuncData
 f1:Addr
 g1:FuncData
 f2:Addr
 g2:FuncData
 f3:Addr
 g3:FuncData
 f4:Addr
 g4:FuncData
 f5:Addr
 g5:FuncData
 f6:Addr
 g6:FuncData
 f7:Addr
 g7:FuncData
 f8:Addr
 g8:FuncData
 f9:Addr
 g9:FuncData
 f10:Addr
 g10:FuncData
 f11:Addr
 g11:FuncData
 f12:Addr
 g12:FuncData
 f13:Addr
 g13:FuncData
 f14:Addr
 g14:FuncData
 f15:Addr
 g15:FuncData
 f16:Addr
 g16:FuncData
 f17:Addr
 g17:FuncData
 f18:Addr
 g18:FuncData
 f19:Addr
 g19:FuncData
 f20:Addr
 g20:FuncData
 f21:Addr
 g21:FuncData
 f22:Addr
 g22:FuncData
 f23:Addr
 g23:FuncData
 f24:Addr
 g24:FuncData
 f25:Addr
 g25:FuncData
 f26:Addr
 g26:FuncData
 f27:Addr
 g27:FuncData
 f28:Addr
 g28:FuncData
 f29:Addr
 g29:FuncData
 f30:Addr
 g30:FuncData
 f31:Addr
 g31:FuncData
 f32:Addr
 g32:FuncData
 f33:Addr
 g33:FuncData
 f34:Addr
 g34:FuncData
 f35:Addr
 g35:FuncData
 f36:Addr
 g36:FuncData
 ca_Table:Addr
structure Txt (K:PySem.W.Frag) (mg:Str->Option Value) (t:Adr):Prop where
 cm_Table:mg "Table" = some (.ref t.ca_Table)
 F0:Fun K "is_whole" "is_whole" eD t.f0 t.g0
 m0:mg "is_whole" = some (.ref t.f0)
 b0:bE K t.g0 ["thing"] []
 F1:Fun K "are_amounts" "are_amounts" cC t.f1 t.g1
 m1:mg "are_amounts" = some (.ref t.f1)
 b1:bE K t.g1 ["thing","many"] []
 F2:Fun K "greatest_part" "greatest_part" cm t.f2 t.g2
 m2:mg "greatest_part" = some (.ref t.f2)
 b2:bE K t.g2 ["numbers"] []
 F3:Fun K "lowered" "lowered" eI t.f3 t.g3
 m3:mg "lowered" = some (.ref t.f3)
 b3:bE K t.g3 ["numbers"] []
 F4:Fun K "products_together" "products_together" br t.f4 t.g4
 m4:mg "products_together" = some (.ref t.f4)
 b4:bE K t.g4 ["numbers","others"] []
 F5:Fun K "column_of" "column_of" cZ t.f5 t.g5
 m5:mg "column_of" = some (.ref t.f5)
 b5:bE K t.g5 ["rows","place"] []
 F6:Fun K "within_bounds" "within_bounds" bS t.f6 t.g6
 m6:mg "within_bounds" = some (.ref t.f6)
 b6:bE K t.g6 ["rows","bounds","amounts","part"] []
 F7:Fun K "cover_gains" "cover_gains" cB t.f7 t.g7
 m7:mg "cover_gains" = some (.ref t.f7)
 b7:bE K t.g7 ["rows","gains","prices","part"] []
 F8:Fun K "are_most" "are_most" en t.f8 t.g8
 m8:mg "are_most" = some (.ref t.f8)
 b8:bE K t.g8 ["rows","bounds","gains","part","amounts","prices"] []
 F9:Fun K "is_way" "is_way" gB t.f9 t.g9
 m9:mg "is_way" = some (.ref t.f9)
 b9:bE K t.g9 ["rows","gains","way"] []
 F10:Fun K "shows_most" "shows_most" dl t.f10 t.g10
 m10:mg "shows_most" = some (.ref t.f10)
 b10:bE K t.g10 ["rows","bounds","gains","thing"] []
 F11:Fun K "__init__" "Table.__init__" cM t.f11 t.g11
 b11:bE K t.g11 ["self","rows","bounds","gains"] []
 mk_Table:Mk K t.ca_Table t.f11
 cl_Table:Cls K t.ca_Table
 na_Table:∀ p ∈ dM,d5 K t.ca_Table p.1
 F12:Fun K "least_ratio" "least_ratio" cR t.f12 t.g12
 m12:mg "least_ratio" = some (.ref t.f12)
 b12:bE K t.g12 ["places","tops","bottoms"] []
 F13:Fun K "weighed" "weighed" fu t.f13 t.g13
 m13:mg "weighed" = some (.ref t.f13)
 b13:bE K t.g13 ["table"] []
 F14:Fun K "numbers_by" "numbers_by" ca t.f14 t.g14
 m14:mg "numbers_by" = some (.ref t.f14)
 b14:bE K t.g14 ["table","name"] []
 F15:Fun K "leaving" "leaving" dP t.f15 t.g15
 m15:mg "leaving" = some (.ref t.f15)
 b15:bE K t.g15 ["table","column"] []
 F16:Fun K "gains_more" "gains_more" de t.f16 t.g16
 m16:mg "gains_more" = some (.ref t.f16)
 b16:bE K t.g16 ["table","one","other"] []
 F17:Fun K "best_step" "best_step" dJ t.f17 t.g17
 m17:mg "best_step" = some (.ref t.f17)
 b17:bE K t.g17 ["table"] []
 F18:Fun K "swept" "swept" im t.f18 t.g18
 m18:mg "swept" = some (.ref t.f18)
 b18:bE K t.g18 ["line","turning","column","part"] []
 F19:Fun K "exchange" "exchange" dG t.f19 t.g19
 m19:mg "exchange" = some (.ref t.f19)
 b19:bE K t.g19 ["table","place","column"] []
 F20:Fun K "way_of" "way_of" gO t.f20 t.g20
 m20:mg "way_of" = some (.ref t.f20)
 b20:bE K t.g20 ["table","column"] []
 F21:Fun K "amounts_of" "amounts_of" dm t.f21 t.g21
 m21:mg "amounts_of" = some (.ref t.f21)
 b21:bE K t.g21 ["table"] []
 F22:Fun K "prices_of" "prices_of" dC t.f22 t.g22
 m22:mg "prices_of" = some (.ref t.f22)
 b22:bE K t.g22 ["table"] []
 F23:Fun K "found_most" "found_most" cv t.f23 t.g23
 m23:mg "found_most" = some (.ref t.f23)
 b23:bE K t.g23 ["table"] []
 F24:Fun K "most_of" "most_of" fB t.f24 t.g24
 m24:mg "most_of" = some (.ref t.f24)
 b24:bE K t.g24 ["rows","bounds","gains"] []
 F25:Fun K "_law_pot" "_law_pot" eE t.f25 t.g25
 m25:mg "_law_pot" = some (.ref t.f25)
 b25:bE K t.g25 ["_law_script","_law_k"] []
 F26:Fun K "_law_pick" "_law_pick" dA t.f26 t.g26
 m26:mg "_law_pick" = some (.ref t.f26)
 b26:bE K t.g26 ["_law_pot_here","_law_many"] []
 F27:Fun K "_law_case" "_law_case" cy t.f27 t.g27
 m27:mg "_law_case" = some (.ref t.f27)
 b27:bE K t.g27 ["_law_pot_here"] []
 F28:Fun K "_law_dot" "_law_dot" dD t.f28 t.g28
 m28:mg "_law_dot" = some (.ref t.f28)
 b28:bE K t.g28 ["_law_one","_law_other"] []
 F29:Fun K "_law_whole" "_law_whole" dh t.f29 t.g29
 m29:mg "_law_whole" = some (.ref t.f29)
 b29:bE K t.g29 ["_law_item"] []
 F30:Fun K "_law_numbers" "_law_numbers" cf t.f30 t.g30
 m30:mg "_law_numbers" = some (.ref t.f30)
 b30:bE K t.g30 ["_law_item","_law_many"] []
 F31:Fun K "_law_greatest" "_law_greatest" bK t.f31 t.g31
 m31:mg "_law_greatest" = some (.ref t.f31)
 b31:bE K t.g31 ["_law_case_here","_law_part","_law_amounts","_law_prices"] []
 F32:Fun K "_law_due" "_law_due" dF t.f32 t.g32
 m32:mg "_law_due" = some (.ref t.f32)
 b32:bE K t.g32 ["_law_case_here","_law_item"] []
 F33:Fun K "_law_bent_number" "_law_bent_number" bO t.f33 t.g33
 m33:mg "_law_bent_number" = some (.ref t.f33)
 b33:bE K t.g33 ["_law_pot_here","_law_number"] []
 F34:Fun K "_law_bent_row" "_law_bent_row" cj t.f34 t.g34
 m34:mg "_law_bent_row" = some (.ref t.f34)
 b34:bE K t.g34 ["_law_pot_here","_law_row"] []
 F35:Fun K "_law_bent" "_law_bent" cA t.f35 t.g35
 m35:mg "_law_bent" = some (.ref t.f35)
 b35:bE K t.g35 ["_law_pot_here","_law_item"] []
 F36:Fun K "law" "law" nq t.f36 t.g36
 m36:mg "law" = some (.ref t.f36)
 b36:bE K t.g36 ["_law_script"] []
 z_abs:mg "abs" = none
 z_all:mg "all" = none
 z_any:mg "any" = none
 z_bool:mg "bool" = none
 z_enumerate:mg "enumerate" = none
 z_int:mg "int" = none
 z_isinstance:mg "isinstance" = none
 z_len:mg "len" = none
 z_list:mg "list" = none
 z_min:mg "min" = none
 z_range:mg "range" = none
 z_str:mg "str" = none
 z_sum:mg "sum" = none
 z_tuple:mg "tuple" = none
 z_zip:mg "zip" = none
abbrev Bdy (P:Program) (w:World) (K:PySem.W.Frag) (mg:Str->Option Value) (base:Heap) (k:Nat) (N:List Str) (x:Str) (sd:Stmt) (f:Addr) (b:Sf):Prop:=∀ (cdv:Value) (A:Around) (outer:List Env) (s:Shared) (H:Hp) (E:XK),dY k (A.deeper (PyProof.Rows.envOfC x (ah sd) s.heap.objs.size f cdv))->ISs K (n5 CX0 P w K mg base N x (ah sd) f cdv A outer s H E).nox (aF sd) b
section
variable {P:Program}{w:World}{K:PySem.W.Frag}{mg:Str->Option Value}{base:Heap}{t:Adr}
theorem oa (T:Txt K mg t):Bdy P w K mg base 0 ["thing"] "is_whole" eD t.f0 kv:=
 λ_ _ _ _ _ _ hr=>(ao (aE (jd (bh (gM rfl) rfl T.z_isinstance PyProof.Rows.boot_isinstance (ab (iv 0) (ab (jF rfl T.z_int PyProof.Rows.boot_int (by decide) (by decide)) ae rfl) rfl) (by decide) (by decide) rfl rfl) (ja (wg (bh (gM rfl) rfl T.z_isinstance PyProof.Rows.boot_isinstance (ab (iv 0) (ab (jF rfl T.z_bool PyProof.Rows.boot_bool (by decide) (by decide)) ae rfl) rfl) (by decide) (by decide) rfl rfl))))))
theorem lY (T:Txt K mg t):bV P w K mg base CX0 1 t.f0 t.g0 ["thing"] (spI K gG):=
 fm (N:=["thing"]) (b:=kv) T.F0 rE (oa T)
theorem ly (T:Txt K mg t):Bdy P w K mg base 1 ["thing","many"] "are_amounts" cC t.f1 iz:=
 λ_ _ _ _ _ _ hr=>(ai (bW (fD (eA (dI (cS (bh (gM rfl) rfl T.z_isinstance PyProof.Rows.boot_isinstance (ab (iv 0) (ab (jF rfl T.z_tuple PyProof.Rows.boot_tuple (by decide) (by decide)) ae rfl) rfl) (by decide) (by decide) rfl rfl) rfl rfl)) (eh (bm (oX hr rfl) (bh (bT rfl) rfl T.z_len PySem.boot_len (ab (iv 0) ae rfl) (by decide) (by decide) rfl rfl) (iv 1) (aO _))))) (ao (aE fo)) aR) (ao (aE (bh (nQ rfl rfl) rfl T.z_all PyProof.Rows.boot_all (ab (aL (dW (cT (ah cC).names ["thing","many"] ["number"] 1 [] rfl rfl rfl (by decide +kernel)) rfl (by decide) (cU (iv 0) rfl) (λ_ _ _ _ _=>(bD (ax (i:=0) (show List.Nodup (α:=Str) ["number"] by decide +kernel) rfl (.inl rfl)))) (λ_ _ _ _ _=>bG) (λ_ _ _ _ _=>(jd (av (lY T) (by decide) hr rfl T.m0 T.F0.kp T.b0 (ab (iv 0) ae rfl) (by decide) rfl rfl) (ja (d0 oM (iv 0) ak (aO _))))) (λ_=>rfl))) ae rfl) (by decide) (by decide) rfl rfl))))
theorem gC (T:Txt K mg t):bV P w K mg base CX0 2 t.f1 t.g1 ["thing","many"] (spI K cw):=
 fm (N:=["thing","many"]) (b:=iz) T.F1 mJ (ly T)
theorem ku (T:Txt K mg t):Bdy P w K mg base 0 ["numbers","found","number","rest","over"] "greatest_part" cm t.f2 d9:=
 λ_ _ _ _ _ _ hr=>(ai (aH (i:=1) bY.nd rfl (.inl rfl) ak rfl (.inl rfl)) (ai (gh (cU (iv 0) rfl) (bD (ax (i:=2) bY.nd rfl (.inl rfl))) (ai (aH (i:=3) bY.nd rfl (.inl rfl) (bh sK rfl T.z_abs PyProof.Rows.boot_abs (ab (iv 2) ae rfl) (by decide) (by decide) rfl rfl) rfl (.inl rfl)) (ao (rR (2 ^ 8000) (bm (oX hr rfl) (iv 3) ak (aO _)) (ai (aH (i:=4) bY.nd rfl (.inl rfl) (aC i8 (iv 1) (iv 3)) rfl (.inl rfl)) (ai (aH (i:=1) bY.nd rfl (.inl rfl) (iv 3) rfl (.inl rfl)) (ao (aH (i:=3) bY.nd rfl (.inl rfl) (iv 4) rfl (.inl rfl))))) PassesOwn.never))) PassesOwn.never rfl (λ_=>rfl)) (ao (aE (iv 1)))))
theorem iE (T:Txt K mg t):bV P w K mg base CX0 1 t.f2 t.g2 ["numbers"] (spI K dq):=
 fm (N:=["numbers","found","number","rest","over"]) (b:=d9) T.F2 bY (ku T)
theorem pw (T:Txt K mg t):Bdy P w K mg base 1 ["numbers","shared"] "lowered" eI t.f3 jX:=
 λ_ _ _ _ _ _ hr=>(ai (aH (i:=1) nO.nd rfl (.inr rfl) (av (iE T) (by decide) hr rfl T.m2 T.F2.kp T.b2 (ab (iv 0) ae rfl) (by decide) rfl rfl) rfl (.inl rfl)) (ai (bW (bm (iK hr rfl) (iv 1) ak (aO _)) (ao (aE (jf (iw rfl) rfl T.z_tuple PyProof.Rows.boot_tuple (ab (iv 0) ae rfl) (by decide) (by decide) rfl rfl))) aR) (ao (aE (jf (iw rfl) rfl T.z_tuple PyProof.Rows.boot_tuple (ab (aL (dW (cT (ah eI).names ["numbers","shared"] ["number","shared"] 1 [1] rfl rfl rfl (by decide +kernel)) rfl (by decide) (cU (iv 0) rfl) (λ_ _ _ _ _=>(bD (ax (i:=0) (show List.Nodup (α:=Str) ["number","shared"] by decide +kernel) rfl (.inl rfl)))) (λ_ _ _ _ _=>bG) (λ_ _ _ _ _=>(aC nJ (iv 0) (iv 1))) (λ_=>rfl))) ae rfl) (by decide) (by decide) rfl rfl)))))
theorem sP (T:Txt K mg t):bV P w K mg base CX0 2 t.f3 t.g3 ["numbers"] (spI K iG):=
 fm (N:=["numbers","shared"]) (b:=jX) T.F3 nO (pw T)
theorem iY (T:Txt K mg t):Bdy P w K mg base 0 ["numbers","others"] "products_together" br t.f4 dZ:=
 λ_ _ _ _ _ _ hr=>(ao (aE (bh (tF rfl rfl) rfl T.z_sum PyProof.Rows.boot_sum (ab (aL (dW (cT (ah br).names ["numbers","others"] ["number","other"] 2 [] rfl rfl rfl (by decide +kernel)) rfl (by decide) (kE rfl T.z_zip (ab (iv 0) (ab (iv 1) ae rfl) rfl) rfl rfl rfl) (λ_ _ _ _ _=>(eG (aM (ax (i:=0) (show List.Nodup (α:=Str) ["number","other"] by decide +kernel) rfl (.inl rfl)) (aM (ax (i:=1) (show List.Nodup (α:=Str) ["number","other"] by decide +kernel) rfl (.inl rfl)) di)) rfl rfl rfl rfl rfl)) (λ_ _ _ _ _=>bG) (λ_ _ _ _ _=>(aC (bR rfl) (iv 0) (iv 1))) (λ_=>rfl))) ae rfl) (by decide) (by decide) rfl rfl)))
theorem cg (T:Txt K mg t):bV P w K mg base CX0 1 t.f4 t.g4 ["numbers","others"] (spI K aU):=
 fm (N:=["numbers","others"]) (b:=dZ) T.F4 jI (iY T)
theorem nu (T:Txt K mg t):Bdy P w K mg base 0 ["rows","place"] "column_of" cZ t.f5 io:=
 λ_ _ _ _ _ _ hr=>(ao (aE (aL (dW (cT (ah cZ).names ["rows","place"] ["row","place"] 1 [1] rfl rfl rfl (by decide +kernel)) rfl (by decide) (cU (iv 0) rfl) (λ_ _ _ _ _=>(bD (ax (i:=0) (show List.Nodup (α:=Str) ["row","place"] by decide +kernel) rfl (.inl rfl)))) (λ_ _ _ _ _=>bG) (λ_ _ _ _ _=>(aA (iv 0) (iv 1) rfl rfl)) (λ_=>rfl)))))
theorem pS (T:Txt K mg t):bV P w K mg base CX0 1 t.f5 t.g5 ["rows","place"] (spI K jB):=
 fm (N:=["rows","place"]) (b:=io) T.F5 pQ (nu T)
theorem kF (T:Txt K mg t):Bdy P w K mg base 1 ["rows","bounds","amounts","part"] "within_bounds" bS t.f6 ef:=
 λ_ _ _ _ _ _ hr=>(ao (aE (bh (nQ rfl rfl) rfl T.z_all PyProof.Rows.boot_all (ab (aL (dW (cT (ah bS).names ["rows","bounds","amounts","part"] ["row","bound","amounts","part"] 2 [2,3] rfl rfl rfl (by decide +kernel)) rfl (by decide) (kE rfl T.z_zip (ab (iv 0) (ab (iv 1) ae rfl) rfl) rfl rfl rfl) (λ_ _ _ _ _=>(eG (aM (ax (i:=0) (show List.Nodup (α:=Str) ["row","bound","amounts","part"] by decide +kernel) rfl (.inl rfl)) (aM (ax (i:=1) (show List.Nodup (α:=Str) ["row","bound","amounts","part"] by decide +kernel) rfl (.inl rfl)) di)) rfl rfl rfl rfl rfl)) (λ_ _ _ _ _=>bG) (λ_ _ _ _ _=>(d0 wU (av (cg T) (by decide) hr rfl T.m4 T.F4.kp T.b4 (ab (iv 0) (ab (iv 2) ae rfl) rfl) (by decide) rfl rfl) (aC (bR rfl) (iv 1) (iv 3)) (aO _))) (λ_=>rfl))) ae rfl) (by decide) (by decide) rfl rfl)))
theorem iJ (T:Txt K mg t):bV P w K mg base CX0 2 t.f6 t.g6 ["rows","bounds","amounts","part"] (spI K cI):=
 fm (N:=["rows","bounds","amounts","part"]) (b:=ef) T.F6 lD (kF T)
theorem lL (T:Txt K mg t):Bdy P w K mg base 1 ["rows","gains","prices","part"] "cover_gains" cB t.f7 fL:=
 λ_ _ _ _ _ _ hr=>(ao (aE (bh (nQ rfl rfl) rfl T.z_all PyProof.Rows.boot_all (ab (aL (dW (cT (ah cB).names ["rows","gains","prices","part"] ["place","gain","rows","prices","part"] 2 [0,2,3] rfl rfl rfl (by decide +kernel)) rfl (by decide) (kR rfl T.z_enumerate (ab (iv 1) ae rfl) rfl rfl) (λ_ _ _ _ _=>(eG (aM (ax (i:=0) (show List.Nodup (α:=Str) ["place","gain","rows","prices","part"] by decide +kernel) rfl (.inl rfl)) (aM (ax (i:=1) (show List.Nodup (α:=Str) ["place","gain","rows","prices","part"] by decide +kernel) rfl (.inl rfl)) di)) rfl rfl rfl rfl rfl)) (λ_ _ _ _ _=>bG) (λ_ _ _ _ _=>(d0 oM (av (cg T) (by decide) hr rfl T.m4 T.F4.kp T.b4 (ab (av (pS T) (by decide) hr rfl T.m5 T.F5.kp T.b5 (ab (iv 2) (ab (iv 0) ae rfl) rfl) (by decide) rfl rfl) (ab (iv 3) ae rfl) rfl) (by decide) rfl rfl) (aC (bR rfl) (iv 1) (iv 4)) (aO _))) (λ_=>rfl))) ae rfl) (by decide) (by decide) rfl rfl)))
theorem mK (T:Txt K mg t):bV P w K mg base CX0 2 t.f7 t.g7 ["rows","gains","prices","part"] (spI K fJ):=
 fm (N:=["rows","gains","prices","part"]) (b:=fL) T.F7 nU (lL T)
theorem nY (T:Txt K mg t):Bdy P w K mg base 2 ["rows","bounds","gains","part","amounts","prices"] "are_most" en t.f8 gH:=
 λ_ _ _ _ _ _ hr=>(ai (bW (fD (eA (dI (cS (av (lY T) (by decide) hr rfl T.m0 T.F0.kp T.b0 (ab (iv 3) ae rfl) (by decide) rfl rfl) rfl rfl)) (eh (bm kX (iv 3) ak (aO _))))) (ao (aE fo)) aR) (ai (bW (fD (eA (dI (cS (av (gC T) (by decide) hr rfl T.m1 T.F1.kp T.b1 (ab (iv 4) (ab (bh (bT rfl) rfl T.z_len PySem.boot_len (ab (iv 2) ae rfl) (by decide) (by decide) rfl rfl) ae rfl) rfl) (by decide) rfl rfl) rfl rfl)) (eh (dI (cS (av (gC T) (by decide) hr rfl T.m1 T.F1.kp T.b1 (ab (iv 5) (ab (bh (bT rfl) rfl T.z_len PySem.boot_len (ab (iv 0) ae rfl) (by decide) (by decide) rfl rfl) ae rfl) rfl) (by decide) rfl rfl) rfl rfl))))) (ao (aE fo)) aR) (ai (bW (fD (eA (dI (cS (av (iJ T) (by decide) hr rfl T.m6 T.F6.kp T.b6 (ab (iv 0) (ab (iv 1) (ab (iv 4) (ab (iv 3) ae rfl) rfl) rfl) rfl) (by decide) rfl rfl) rfl rfl)) (eh (dI (cS (av (mK T) (by decide) hr rfl T.m7 T.F7.kp T.b7 (ab (iv 0) (ab (iv 2) (ab (iv 5) (ab (iv 3) ae rfl) rfl) rfl) rfl) (by decide) rfl rfl) rfl rfl))))) (ao (aE fo)) aR) (ao (aE (d0 (iK hr rfl) (av (cg T) (by decide) hr rfl T.m4 T.F4.kp T.b4 (ab (iv 1) (ab (iv 5) ae rfl) rfl) (by decide) rfl rfl) (av (cg T) (by decide) hr rfl T.m4 T.F4.kp T.b4 (ab (iv 2) (ab (iv 4) ae rfl) rfl) (by decide) rfl rfl) (aO _)))))))
theorem rj (T:Txt K mg t):bV P w K mg base CX0 3 t.f8 t.g8 ["rows","bounds","gains","part","amounts","prices"] (spI K kJ):=
 fm (N:=["rows","bounds","gains","part","amounts","prices"]) (b:=gH) T.F8 rW (nY T)
theorem qE (T:Txt K mg t):Bdy P w K mg base 2 ["rows","gains","way"] "is_way" gB t.f9 jm:=
 λ_ _ _ _ _ _ hr=>(ai (bW (dI (cS (av (gC T) (by decide) hr rfl T.m1 T.F1.kp T.b1 (ab (iv 2) (ab (bh (bT rfl) rfl T.z_len PySem.boot_len (ab (iv 1) ae rfl) (by decide) (by decide) rfl rfl) ae rfl) rfl) (by decide) rfl rfl) rfl rfl)) (ao (aE fo)) aR) (ao (aE (jd (av (iJ T) (by decide) hr rfl T.m6 T.F6.kp T.b6 (ab (iv 0) (ab (aC (bR rfl) (aL (cQ (ab ak ae rfl))) (bh (bT rfl) rfl T.z_len PySem.boot_len (ab (iv 0) ae rfl) (by decide) (by decide) rfl rfl)) (ab (iv 2) (ab ak ae rfl) rfl) rfl) rfl) (by decide) rfl rfl) (ja (d0 lQ (av (cg T) (by decide) hr rfl T.m4 T.F4.kp T.b4 (ab (iv 1) (ab (iv 2) ae rfl) rfl) (by decide) rfl rfl) ak (aO _)))))))
theorem ve (T:Txt K mg t):bV P w K mg base CX0 3 t.f9 t.g9 ["rows","gains","way"] (spI K nj):=
 fm (N:=["rows","gains","way"]) (b:=jm) T.F9 vi (qE T)
theorem mv (T:Txt K mg t):Bdy P w K mg base 3 ["rows","bounds","gains","thing"] "shows_most" dl t.f10 eO:=
 λ_ _ _ _ _ _ hr=>(ai (bW (fD (eA (dI (cS (bh (gM rfl) rfl T.z_isinstance PyProof.Rows.boot_isinstance (ab (iv 3) (ab (jF rfl T.z_tuple PyProof.Rows.boot_tuple (by decide) (by decide)) ae rfl) rfl) (by decide) (by decide) rfl rfl) rfl rfl)) (eA (bm (rP rfl) (bh (bT rfl) rfl T.z_len PySem.boot_len (ab (iv 3) ae rfl) (by decide) (by decide) rfl rfl) (cr (ab ak (ab ak ae rfl) rfl)) rfl) (eh (dI (cS (bh (gM rfl) rfl T.z_isinstance PyProof.Rows.boot_isinstance (ab (aA (iv 3) ak rfl rfl) (ab (jF rfl T.z_str PyProof.Rows.boot_str (by decide) (by decide)) ae rfl) rfl) (by decide) (by decide) rfl rfl) rfl rfl)))))) (ao (aE fo)) aR) (ai (bW (bm (iK hr rfl) (bh (bT rfl) rfl T.z_len PySem.boot_len (ab (iv 3) ae rfl) (by decide) (by decide) rfl rfl) ak (aO _)) (ao (aE (jd (d0 (iK hr rfl) (aA (iv 3) ak rfl rfl) fF (aO _)) (ja (av (rj T) (by decide) hr rfl T.m8 T.F8.kp T.b8 (ab (iv 0) (ab (iv 1) (ab (iv 2) (ab (aA (iv 3) ak rfl rfl) (ab (aA (iv 3) ak rfl rfl) (ab (aA (iv 3) ak rfl rfl) ae rfl) rfl) rfl) rfl) rfl) rfl) (by decide) rfl rfl))))) aR) (ao (aE (jd (d0 (iK hr rfl) (aA (iv 3) ak rfl rfl) fF (aO _)) (ja (av (ve T) (by decide) hr rfl T.m9 T.F9.kp T.b9 (ab (iv 0) (ab (iv 2) (ab (aA (iv 3) ak rfl rfl) ae rfl) rfl) rfl) (by decide) rfl rfl)))))))
theorem ke (T:Txt K mg t):bV P w K mg base CX0 4 t.f10 t.g10 ["rows","bounds","gains","thing"] (spI K cp):=
 fm (N:=["rows","bounds","gains","thing"]) (b:=eO) T.F10 oE (mv T)
theorem ou (T:Txt K mg t):bV P w K mg base CX0 1 t.f11 t.g11 ["self","rows","bounds","gains"] (yo K 4 4 dM):=
 BS (N:=["self","rows","bounds","gains"]) (ps:=["self","rows","bounds","gains"]) (k:=0) (g:=dM) T.F11 on (by decide) (λ_ _ _ _ _ _ hr=>(jP rfl (by first | exact Or.inl rfl | exact Or.inr (Or.inl rfl) | exact Or.inr (Or.inr rfl)) (bh (bT rfl) rfl T.z_len PySem.boot_len (ab (iv 3) ae rfl) (by decide) (by decide) rfl rfl) (jP rfl (by first | exact Or.inl rfl | exact Or.inr (Or.inl rfl) | exact Or.inr (Or.inr rfl)) (aL (dW (cT (ah cM).names ["self","rows","bounds","gains"] ["row","bound"] 2 [] rfl rfl rfl (by decide +kernel)) rfl (by decide) (kE rfl T.z_zip (ab (iv 1) (ab (iv 2) ae rfl) rfl) rfl rfl rfl) (λ_ _ _ _ _=>(eG (aM (ax (i:=0) (show List.Nodup (α:=Str) ["row","bound"] by decide +kernel) rfl (.inl rfl)) (aM (ax (i:=1) (show List.Nodup (α:=Str) ["row","bound"] by decide +kernel) rfl (.inl rfl)) di)) rfl rfl rfl rfl rfl)) (λ_ _ _ _ _=>bG) (λ_ _ _ _ _=>(aC (bP rfl) (aL (AN (uC rfl) rfl T.z_list PyProof.Rows.boot_list (ab (iv 0) ae rfl) (by decide) (by decide) rfl rfl)) (aL (cQ (ab (iv 1) ae rfl))))) (λ_=>rfl))) (jP rfl (by first | exact Or.inl rfl | exact Or.inr (Or.inl rfl) | exact Or.inr (Or.inr rfl)) (aC (bP rfl) (aL (dW (cT (ah cM).names ["self","rows","bounds","gains"] ["gain"] 1 [] rfl rfl rfl (by decide +kernel)) rfl (by decide) (cU (iv 3) rfl) (λ_ _ _ _ _=>(bD (ax (i:=0) (show List.Nodup (α:=Str) ["gain"] by decide +kernel) rfl (.inl rfl)))) (λ_ _ _ _ _=>bG) (λ_ _ _ _ _=>(nP (iv 0))) (λ_=>rfl))) (aL (cQ (ab ak ae rfl)))) (jP rfl (by first | exact Or.inl rfl | exact Or.inr (Or.inl rfl) | exact Or.inr (Or.inr rfl)) ak (jP rfl (by first | exact Or.inl rfl | exact Or.inr (Or.inl rfl) | exact Or.inr (Or.inr rfl)) (i5 (z8 rfl T.z_list rfl T.z_range (ab (bh (bT rfl) rfl T.z_len PySem.boot_len (ab (iv 3) ae rfl) (by decide) (by decide) rfl rfl) ae rfl) rfl rfl)) (xX rfl (by first | exact Or.inl rfl | exact Or.inr (Or.inl rfl) | exact Or.inr (Or.inr rfl)) (i5 (wm rfl T.z_list rfl T.z_range (ab (bh (bT rfl) rfl T.z_len PySem.boot_len (ab (iv 3) ae rfl) (by decide) (by decide) rfl rfl) (ab (aC (bP rfl) (bh (bT rfl) rfl T.z_len PySem.boot_len (ab (iv 3) ae rfl) (by decide) (by decide) rfl rfl) (bh (bT rfl) rfl T.z_len PySem.boot_len (ab (iv 1) ae rfl) (by decide) (by decide) rfl rfl)) ae rfl) rfl) rfl rfl rfl)) rfl rfl) (by intro z;cases z) rfl rfl) (by intro z;cases z) rfl rfl) (by intro z;cases z) rfl rfl) (by intro z;cases z) rfl rfl) (by intro z;cases z) rfl rfl))
theorem lI (T:Txt K mg t):Bdy P w K mg base 0 ["places","tops","bottoms","least","place","mine","best"] "least_ratio" cR t.f12 fM:=
 λ_ _ _ _ _ _ hr=>(ai (aH (i:=3) cV.nd rfl (.inl rfl) (i5 (cQ ae)) rfl (.inl rfl)) (ai (gh (cU (iv 0) rfl) (bD (ax (i:=4) cV.nd rfl (.inl rfl))) (ai (bW (cS (iv 3) rfl rfl) (ai (aH (i:=5) cV.nd rfl (.inl rfl) (aC (bR rfl) (aA (iv 1) (iv 4) rfl rfl) (aA (iv 2) (aA (iv 3) ak rfl rfl) rfl rfl)) rfl (.inl rfl)) (ai (aH (i:=6) cV.nd rfl (.inl rfl) (aC (bR rfl) (aA (iv 1) (aA (iv 3) ak rfl rfl) rfl rfl) (aA (iv 2) (iv 4) rfl rfl)) rfl (.inl rfl)) (ai (bW (bm lQ (iv 5) (iv 6) (aO _)) (ao uH) aR) (ao (bW (bm kX (iv 5) (iv 6) (aO _)) (ao (aH (i:=3) cV.nd rfl (.inl rfl) (i5 (cQ ae)) rfl (.inl rfl))) aR))))) aR) (ao (qs (oS (iv 3) (ab (iv 4) ae rfl) rfl rfl (by decide) rfl rfl) rfl))) PassesOwn.never rfl (λ_=>rfl)) (ao (aE (iv 3)))))
theorem mQ (T:Txt K mg t):bV P w K mg base CX0 1 t.f12 t.g12 ["places","tops","bottoms"] (spI K iA):=
 qS (N:=["places","tops","bottoms","least","place","mine","best"]) (b:=fM) T.F12 cV (lI T)
theorem pY (T:Txt K mg t):Bdy P w K mg base 0 ["table"] "weighed" fu t.f13 jW:=
 λ_ _ _ _ _ _ hr=>(ao (aE (aC (bP rfl) (aL (cQ (ab jz ae rfl))) (aL (wm rfl T.z_list rfl T.z_range (ab (aJ (iv 0) rfl rfl) (ab (aC (bP rfl) (aJ (iv 0) rfl rfl) (bh (bT rfl) rfl T.z_len PySem.boot_len (ab (aJ (iv 0) rfl rfl) ae rfl) (by decide) (by decide) rfl rfl)) ae rfl) rfl) rfl rfl rfl)))))
theorem nL (T:Txt K mg t):bV P w K mg base CX0 1 t.f13 t.g13 ["table"] (spI K gx):=
 fm (N:=["table"]) (b:=jW) T.F13 sB (pY T)
theorem mn (T:Txt K mg t):Bdy P w K mg base 0 ["table","name","column"] "numbers_by" ca t.f14 fg:=
 λ_ _ _ _ _ _ hr=>(ai (bW (bm pP (iv 1) jz (aO _)) (ao (aE (aL (dW (cT (ah ca).names ["table","name","column"] ["line"] 1 [] rfl rfl rfl (by decide +kernel)) rfl (by decide) (cU (aJ (iv 0) rfl rfl) rfl) (λ_ _ _ _ _=>(bD (ax (i:=0) (show List.Nodup (α:=Str) ["line"] by decide +kernel) rfl (.inl rfl)))) (λ_ _ _ _ _=>bG) (λ_ _ _ _ _=>(aA (iv 0) (nP ak) rfl rfl)) (λ_=>rfl))))) aR) (ai (bW (bm (Bh rfl) (iv 1) (aJ (iv 0) rfl rfl) rfl) (ai (aH (i:=2) ko.nd rfl (.inr rfl) (zq (aJ (iv 0) rfl rfl) (ab (iv 1) ae rfl) rfl rfl rfl rfl) rfl (.inl rfl)) (ao (aE (aL (dW (cT (ah ca).names ["table","name","column"] ["line","column"] 1 [2] rfl rfl rfl (by decide +kernel)) rfl (by decide) (cU (aJ (iv 0) rfl rfl) rfl) (λ_ _ _ _ _=>(bD (ax (i:=0) (show List.Nodup (α:=Str) ["line","column"] by decide +kernel) rfl (.inl rfl)))) (λ_ _ _ _ _=>bG) (λ_ _ _ _ _=>(aA (iv 0) (iv 1) rfl rfl)) (λ_=>rfl)))))) aR) (ao (aE (aL (dW (cT (ah ca).names ["table","name","column"] ["kept","name","table"] 1 [1,0] rfl rfl rfl (by decide +kernel)) rfl (by decide) (cU (aJ (iv 0) rfl rfl) rfl) (λ_ _ _ _ _=>(bD (ax (i:=0) (show List.Nodup (α:=Str) ["kept","name","table"] by decide +kernel) rfl (.inl rfl)))) (λ_ _ _ _ _=>bG) (λ_ _ _ _ _=>(vP (bm (iK hr rfl) (iv 0) (iv 1) (aO _)) (aJ (iv 2) rfl rfl) ak)) (λ_=>rfl)))))))
theorem kh (T:Txt K mg t):bV P w K mg base CX0 1 t.f14 t.g14 ["table","name"] (spI K eN):=
 fm (N:=["table","name","column"]) (b:=fg) T.F14 ko (mn T)
theorem pz (T:Txt K mg t):Bdy P w K mg base 1 ["table","column","entries","places","name"] "leaving" dP t.f15 jQ:=
 λ_ _ _ _ _ _ hr=>(ai (And.left (uw (i0:=2) gD.nd rfl (.inl rfl) (cT (ah dP).names ["table","column","entries","places","name"] ["line","column"] 1 [1] rfl rfl rfl (by decide +kernel)) rfl (by decide) (cU (aJ (iv 0) rfl rfl) rfl) (λ_ _ _ _ _=>(bD (ax (i:=0) (show List.Nodup (α:=Str) ["line","column"] by decide +kernel) rfl (.inl rfl)))) (λ_ _ _ _ _=>bG) (λ_ _ _ _ _=>(aA (iv 0) (iv 1) rfl rfl)) rfl (.inl rfl) (λ_=>rfl))) (ai (And.left (uw (i0:=3) gD.nd rfl (.inl rfl) (cT (ah dP).names ["table","column","entries","places","name"] ["place","entry"] 2 [] rfl rfl rfl (by decide +kernel)) rfl (by decide) (kR rfl T.z_enumerate (ab (iv 2) ae rfl) rfl rfl) (λ_ _ _ _ _=>(eG (aM (ax (i:=0) (show List.Nodup (α:=Str) ["place","entry"] by decide +kernel) rfl (.inl rfl)) (aM (ax (i:=1) (show List.Nodup (α:=Str) ["place","entry"] by decide +kernel) rfl (.inl rfl)) di)) rfl rfl rfl rfl rfl)) (λ_ _ _ _ _=>(xH (bm lQ (iv 1) ak (aO _)))) (λ_ _ _ _ _=>(iv 0)) rfl (.inl rfl) (λ_=>rfl))) (ai (gh (cU (av (nL T) (by decide) hr rfl T.m13 T.F13.kp T.b13 (ab (iv 0) ae rfl) (by decide) rfl rfl) rfl) (bD (ax (i:=4) gD.nd rfl (.inl rfl))) (ai (bW (bm kX (bh (bT rfl) rfl T.z_len PySem.boot_len (ab (iv 3) ae rfl) (by decide) (by decide) rfl rfl) ak (aO _)) (ao xv) aR) (ao (aH (i:=3) gD.nd rfl (.inl rfl) (av (mQ T) (by decide) hr rfl T.m12 T.F12.kp T.b12 (ab (iv 3) (ab (av (kh T) (by decide) hr rfl T.m14 T.F14.kp T.b14 (ab (iv 0) (ab (iv 4) ae rfl) rfl) (by decide) rfl rfl) (ab (iv 2) ae rfl) rfl) rfl) (by decide) rfl rfl) rfl (.inl rfl)))) PassesOwn.never rfl (λ_=>rfl)) (ao (aE (vP (cS (iv 3) rfl rfl) (aA (iv 3) ak rfl rfl) jz))))))
theorem sA (T:Txt K mg t):bV P w K mg base CX0 2 t.f15 t.g15 ["table","column"] (spI K jV):=
 fm (N:=["table","column","entries","places","name"]) (b:=jQ) T.F15 gD (pz T)
theorem mt (T:Txt K mg t):Bdy P w K mg base 1 ["table","one","other","mine","best","name","numbers","more"] "gains_more" de t.f16 eR:=
 λ_ _ _ _ _ _ hr=>(ai (aH (i:=3) du.nd rfl (.inl rfl) (aC (bR rfl) (aA (aJ (iv 0) rfl rfl) (aA (iv 1) ak rfl rfl) rfl rfl) (aA (aA (aJ (iv 0) rfl rfl) (aA (iv 2) ak rfl rfl) rfl rfl) (aA (iv 2) ak rfl rfl) rfl rfl)) rfl (.inl rfl)) (ai (aH (i:=4) du.nd rfl (.inl rfl) (aC (bR rfl) (aA (aJ (iv 0) rfl rfl) (aA (iv 2) ak rfl rfl) rfl rfl) (aA (aA (aJ (iv 0) rfl rfl) (aA (iv 1) ak rfl rfl) rfl rfl) (aA (iv 1) ak rfl rfl) rfl rfl)) rfl (.inl rfl)) (ai (gh (cU (av (nL T) (by decide) hr rfl T.m13 T.F13.kp T.b13 (ab (iv 0) ae rfl) (by decide) rfl rfl) rfl) (bD (ax (i:=5) du.nd rfl (.inl rfl))) (ai (aH (i:=6) du.nd rfl (.inl rfl) (av (kh T) (by decide) hr rfl T.m14 T.F14.kp T.b14 (ab (iv 0) (ab (iv 5) ae rfl) rfl) (by decide) rfl rfl) rfl (.inl rfl)) (ai (aH (i:=7) du.nd rfl (.inl rfl) (aC lv (aC (bR rfl) (iv 4) (aA (iv 6) (aA (iv 2) ak rfl rfl) rfl rfl)) (aC (bR rfl) (iv 3) (aA (iv 6) (aA (iv 1) ak rfl rfl) rfl rfl))) rfl (.inl rfl)) (ao (bW (bm (oX hr rfl) (iv 7) ak (aO _)) (ao (aE (d0 lQ (iv 7) ak (aO _)))) aR)))) PassesOwn.never rfl (λ_=>rfl)) (ao (aE fo)))))
theorem n0 (T:Txt K mg t):bV P w K mg base CX0 2 t.f16 t.g16 ["table","one","other"] (spI K dS):=
 fm (N:=["table","one","other","mine","best","name","numbers","more"]) (b:=eR) T.F16 du (mt T)
theorem mS (T:Txt K mg t):Bdy P w K mg base 2 ["table","best","column","step"] "best_step" dJ t.f17 fV:=
 λ_ _ _ _ _ _ hr=>(ai (aH (i:=1) eW.nd rfl (.inl rfl) jz rfl (.inl rfl)) (ai (gh (iX rfl T.z_range (ab (bh (bT rfl) rfl T.z_len PySem.boot_len (ab (aJ (iv 0) rfl rfl) ae rfl) (by decide) (by decide) rfl rfl) ae rfl) rfl) (bD (ax (i:=2) eW.nd rfl (.inl rfl))) (ai (bW (bm oM (aA (aJ (iv 0) rfl rfl) (iv 2) rfl rfl) ak (aO _)) (ao uH) aR) (ai (aH (i:=3) eW.nd rfl (.inl rfl) (cr (ab (iv 2) (ab (av (sA T) (by decide) hr rfl T.m15 T.F15.kp T.b15 (ab (iv 0) (ab (iv 2) ae rfl) rfl) (by decide) rfl rfl) ae rfl) rfl)) rfl (.inl rfl)) (ai (bW (bm pP (aA (iv 3) ak rfl rfl) jz (aO _)) (ao (aE (iv 3))) aR) (ao (bW (fD (eA (bm pP (iv 1) jz (aO _)) (eh (cS (av (n0 T) (by decide) hr rfl T.m16 T.F16.kp T.b16 (ab (iv 0) (ab (iv 3) (ab (iv 1) ae rfl) rfl) rfl) (by decide) rfl rfl) rfl rfl)))) (ao (aH (i:=1) eW.nd rfl (.inl rfl) (iv 3) rfl (.inl rfl))) aR))))) PassesOwn.never rfl (λ_=>rfl)) (ao (aE (iv 1)))))
theorem kW (T:Txt K mg t):bV P w K mg base CX0 3 t.f17 t.g17 ["table"] (spI K db):=
 fm (N:=["table","best","column","step"]) (b:=fV) T.F17 eW (mS T)
theorem sI (T:Txt K mg t):Bdy P w K mg base 0 ["line","turning","column","part","pivot","entry","told"] "swept" im t.f18 mD:=
 λ_ _ _ _ _ _ hr=>(ai (aH (i:=4) kZ.nd rfl (.inr rfl) (aA (iv 1) (iv 2) rfl rfl) rfl (.inl rfl)) (ai (aH (i:=5) kZ.nd rfl (.inr rfl) (aA (iv 0) (iv 2) rfl rfl) rfl (.inl rfl)) (ai (And.right (uw (i0:=6) kZ.nd rfl (.inl rfl) (cT (ah im).names ["line","turning","column","part","pivot","entry","told"] ["number","other","pivot","entry","part"] 2 [4,5,3] rfl rfl rfl (by decide +kernel)) rfl (by decide) (kE rfl T.z_zip (ab (iv 0) (ab (iv 1) ae rfl) rfl) rfl rfl rfl) (λ_ _ _ _ _=>(eG (aM (ax (i:=0) (show List.Nodup (α:=Str) ["number","other","pivot","entry","part"] by decide +kernel) rfl (.inl rfl)) (aM (ax (i:=1) (show List.Nodup (α:=Str) ["number","other","pivot","entry","part"] by decide +kernel) rfl (.inl rfl)) di)) rfl rfl rfl rfl rfl)) (λ_ _ _ _ _=>bG) (λ_ _ _ _ _=>(aC nJ (aC lv (aC (bR rfl) (iv 2) (iv 0)) (aC (bR rfl) (iv 3) (iv 1))) (iv 4))) rfl (.inl rfl) (λ_=>rfl))) (ai (d7 (iv 6) (iv 2) (nP (iv 5)) rfl rfl rfl) (ao (aE (iv 6)))))))
theorem rQ (T:Txt K mg t):bV P w K mg base CX0 1 t.f18 t.g18 ["line","turning","column","part"] (spI K jT):=
 qS (N:=["line","turning","column","part","pivot","entry","told"]) (b:=mD) T.F18 kZ (sI T)
theorem oi (T:Txt K mg t):Bdy P w K mg base 1 ["table","place","column","turning","part","lines","name"] "exchange" dG t.f19 gK:=
 λ_ _ _ _ _ _ hr=>(ai (aH (i:=3) eK.nd rfl (.inr rfl) (aA (aJ (iv 0) rfl rfl) (iv 1) rfl rfl) rfl (.inl rfl)) (ai (aH (i:=4) eK.nd rfl (.inr rfl) (aJ (iv 0) rfl rfl) rfl (.inl rfl)) (vH (il:=5) (ip:=1) (ic:=2) (it:=3) (ia:=4) eK.nd rfl rfl rfl rfl rfl (.inl rfl) (by first | exact Or.inl rfl | exact Or.inr (Or.inl rfl) | exact Or.inr (Or.inr rfl)) (by first | exact Or.inl rfl | exact Or.inr (Or.inl rfl) | exact Or.inr (Or.inr rfl)) (by first | exact Or.inl rfl | exact Or.inr (Or.inl rfl) | exact Or.inr (Or.inr rfl)) (by first | exact Or.inl rfl | exact Or.inr (Or.inl rfl) | exact Or.inr (Or.inr rfl)) (by first | exact Or.inl rfl | exact Or.inr (Or.inl rfl) | exact Or.inr (Or.inr rfl)) (by decide) (by decide) (by decide) (by decide) (by decide) (by decide) (by decide) (by decide) (by decide) (by decide) (by decide) (by decide) (by decide) (by decide) (Au (i0:=5) eK.nd rfl (.inl rfl) (cT (ah dG).names ["table","place","column","turning","part","lines","name"] ["line","turning","column","part"] 1 [3,2,4] rfl rfl rfl (by decide +kernel)) rfl (by decide) (cU (aJ (iv 0) rfl rfl) rfl) (λ_ _ _ _ _=>(bD (ax (i:=0) (show List.Nodup (α:=Str) ["line","turning","column","part"] by decide +kernel) rfl (.inl rfl)))) (λ_ _ _ _ _=>bG) (λ_ _ _ _ _=>(av (rQ T) (by decide) hr rfl T.m18 T.F18.kp T.b18 (ab (iv 0) (ab (iv 1) (ab (iv 2) (ab (iv 3) ae rfl) rfl) rfl) rfl) (by decide) rfl rfl)) rfl (.inl rfl) (λ_=>rfl)) (by exact rfl) T.z_list (ai (pE (iv 0) (av (rQ T) (by decide) hr rfl T.m18 T.F18.kp T.b18 (ab (aJ (iv 0) rfl rfl) (ab (iv 3) (ab (iv 2) (ab (iv 4) ae rfl) rfl) rfl) rfl) (by decide) rfl rfl) rfl rfl) (ai (pE (iv 0) (iv 5) rfl rfl) (ai (pE (iv 0) (aA (iv 3) (iv 2) rfl rfl) rfl rfl) (ai (aH (i:=6) eK.nd rfl (.inl rfl) (aA (aJ (iv 0) rfl rfl) (iv 2) rfl rfl) rfl (.inl rfl)) (ai (d7 (aJ (iv 0) rfl rfl) (iv 2) (aA (aJ (iv 0) rfl rfl) (iv 1) rfl rfl) rfl rfl rfl) (ao (d7 (aJ (iv 0) rfl rfl) (iv 1) (iv 6) rfl rfl rfl))))))) (by exact rfl) (by exact rfl) (by exact rfl) (by exact rfl) rfl)))
theorem qT (T:Txt K mg t):bV P w K mg base CX0 2 t.f19 t.g19 ["table","place","column"] (spI K fC):=
 qS (N:=["table","place","column","turning","part","lines","name"]) (b:=gK) T.F19 eK (oi T)
theorem rn (T:Txt K mg t):Bdy P w K mg base 2 ["table","column","way","place","name"] "way_of" gO t.f20 le:=
 λ_ _ _ _ _ _ hr=>(ai (aH (i:=2) jY.nd rfl (.inl rfl) (i5 (wB tM (aL (cQ (ab ak ae rfl))) (aJ (iv 0) rfl rfl))) rfl (.inl rfl)) (ai (gh (kR rfl T.z_enumerate (ab (aJ (iv 0) rfl rfl) ae rfl) rfl rfl) (eG (aM (ax (i:=3) jY.nd rfl (.inl rfl)) (aM (ax (i:=4) jY.nd rfl (.inl rfl)) di)) rfl rfl rfl rfl rfl) (ao (bW (bm kX (iv 4) (aJ (iv 0) rfl rfl) (aO _)) (ao (d7 (iv 2) (iv 4) (nP (aA (aA (aJ (iv 0) rfl rfl) (iv 3) rfl rfl) (iv 1) rfl rfl)) rfl rfl rfl)) aR)) PassesOwn.never rfl (λ_=>rfl)) (ai (bW (bm kX (aA (aJ (iv 0) rfl rfl) (iv 1) rfl rfl) (aJ (iv 0) rfl rfl) (aO _)) (ao (d7 (iv 2) (aA (aJ (iv 0) rfl rfl) (iv 1) rfl rfl) (aJ (iv 0) rfl rfl) rfl rfl rfl)) aR) (ao (aE (jA (sP T) (by decide) hr rfl T.m3 T.F3.kp T.b3 (ab (iv 2) ae rfl) (by decide) rfl rfl))))))
theorem vf (T:Txt K mg t):bV P w K mg base CX0 3 t.f20 t.g20 ["table","column"] (spI K kN):=
 qS (N:=["table","column","way","place","name"]) (b:=le) T.F20 jY (rn T)
theorem mo (T:Txt K mg t):Bdy P w K mg base 0 ["table","amounts","place","name"] "amounts_of" dm t.f21 gm:=
 λ_ _ _ _ _ _ hr=>(ai (aH (i:=1) fO.nd rfl (.inl rfl) (i5 (wB tM (aL (cQ (ab ak ae rfl))) (aJ (iv 0) rfl rfl))) rfl (.inl rfl)) (ai (gh (kR rfl T.z_enumerate (ab (aJ (iv 0) rfl rfl) ae rfl) rfl rfl) (eG (aM (ax (i:=2) fO.nd rfl (.inl rfl)) (aM (ax (i:=3) fO.nd rfl (.inl rfl)) di)) rfl rfl rfl rfl rfl) (ao (bW (bm kX (iv 3) (aJ (iv 0) rfl rfl) (aO _)) (ao (d7 (iv 1) (iv 3) (aA (aA (aJ (iv 0) rfl rfl) (iv 2) rfl rfl) (nP ak) rfl rfl) rfl rfl rfl)) aR)) PassesOwn.never rfl (λ_=>rfl)) (ao (aE (iv 1)))))
theorem oo (T:Txt K mg t):bV P w K mg base CX0 1 t.f21 t.g21 ["table"] (spI K iW):=
 qS (N:=["table","amounts","place","name"]) (b:=gm) T.F21 fO (mo T)
theorem mN (T:Txt K mg t):Bdy P w K mg base 0 ["table","prices","column","name"] "prices_of" dC t.f22 hJ:=
 λ_ _ _ _ _ _ hr=>(ai (aH (i:=1) gn.nd rfl (.inl rfl) (i5 (wB tM (aL (cQ (ab ak ae rfl))) (bh (bT rfl) rfl T.z_len PySem.boot_len (ab (aJ (iv 0) rfl rfl) ae rfl) (by decide) (by decide) rfl rfl))) rfl (.inl rfl)) (ai (gh (kR rfl T.z_enumerate (ab (aJ (iv 0) rfl rfl) ae rfl) rfl rfl) (eG (aM (ax (i:=2) gn.nd rfl (.inl rfl)) (aM (ax (i:=3) gn.nd rfl (.inl rfl)) di)) rfl rfl rfl rfl rfl) (ao (bW (bm oM (iv 3) (aJ (iv 0) rfl rfl) (aO _)) (ao (d7 (iv 1) (aC lv (iv 3) (aJ (iv 0) rfl rfl)) (aA (aJ (iv 0) rfl rfl) (iv 2) rfl rfl) rfl rfl rfl)) aR)) PassesOwn.never rfl (λ_=>rfl)) (ao (aE (iv 1)))))
theorem pV (T:Txt K mg t):bV P w K mg base CX0 1 t.f22 t.g22 ["table"] (spI K jM):=
 qS (N:=["table","prices","column","name"]) (b:=hJ) T.F22 gn (mN T)
theorem mf (T:Txt K mg t):Bdy P w K mg base 1 ["table","amounts","prices","shared"] "found_most" cv t.f23 gu:=
 λ_ _ _ _ _ _ hr=>(ai (aH (i:=1) fI.nd rfl (.inl rfl) (av (oo T) (by decide) hr rfl T.m21 T.F21.kp T.b21 (ab (iv 0) ae rfl) (by decide) rfl rfl) rfl (.inl rfl)) (ai (aH (i:=2) fI.nd rfl (.inl rfl) (av (pV T) (by decide) hr rfl T.m22 T.F22.kp T.b22 (ab (iv 0) ae rfl) (by decide) rfl rfl) rfl (.inl rfl)) (ai (aH (i:=3) fI.nd rfl (.inr rfl) (av (iE T) (by decide) hr rfl T.m2 T.F2.kp T.b2 (ab (aC (bP rfl) (aC (bP rfl) (aL (cQ (ab (aJ (iv 0) rfl rfl) ae rfl))) (iv 1)) (iv 2)) ae rfl) (by decide) rfl rfl) rfl (.inl rfl)) (ao (aE (cr (ab fF (ab (aC nJ (aJ (iv 0) rfl rfl) (iv 3)) (ab (jf (iw rfl) rfl T.z_tuple PyProof.Rows.boot_tuple (ab (aL (dW (cT (ah cv).names ["table","amounts","prices","shared"] ["number","shared"] 1 [3] rfl rfl rfl (by decide +kernel)) rfl (by decide) (cU (iv 1) rfl) (λ_ _ _ _ _=>(bD (ax (i:=0) (show List.Nodup (α:=Str) ["number","shared"] by decide +kernel) rfl (.inl rfl)))) (λ_ _ _ _ _=>bG) (λ_ _ _ _ _=>(aC nJ (iv 0) (iv 1))) (λ_=>rfl))) ae rfl) (by decide) (by decide) rfl rfl) (ab (jf (iw rfl) rfl T.z_tuple PyProof.Rows.boot_tuple (ab (aL (dW (cT (ah cv).names ["table","amounts","prices","shared"] ["number","shared"] 1 [3] rfl rfl rfl (by decide +kernel)) rfl (by decide) (cU (iv 2) rfl) (λ_ _ _ _ _=>(bD (ax (i:=0) (show List.Nodup (α:=Str) ["number","shared"] by decide +kernel) rfl (.inl rfl)))) (λ_ _ _ _ _=>bG) (λ_ _ _ _ _=>(aC nJ (iv 0) (iv 1))) (λ_=>rfl))) ae rfl) (by decide) (by decide) rfl rfl) ae rfl) rfl) rfl) rfl)))))))
theorem oG (T:Txt K mg t):bV P w K mg base CX0 2 t.f23 t.g23 ["table"] (spI K iO):=
 fm (N:=["table","amounts","prices","shared"]) (b:=gu) T.F23 fI (mf T)
theorem ph (T:Txt K mg t):Bdy P w K mg base 3 ["rows","bounds","gains","table","step"] "most_of" fB t.f24 iM:=
 λ_ _ _ _ _ _ hr=>(ai (aH (i:=3) iN.nd rfl (.inl rfl) (yx (N:=["self","rows","bounds","gains"]) (ps:=["self","rows","bounds","gains"]) (k:=2) T.mk_Table (ou T) (by decide) hr rfl T.cm_Table T.b11 T.cl_Table T.na_Table rfl (by decide) (ab (iv 0) (ab (iv 1) (ab (iv 2) ae rfl) rfl) rfl) (by decide) rfl rfl) rfl (.inl rfl)) (ai (aH (i:=4) iN.nd rfl (.inl rfl) (jA (kW T) (by decide) hr rfl T.m17 T.F17.kp T.b17 (ab (iv 3) ae rfl) (by decide) rfl rfl) rfl (.inl rfl)) (ai (rR (2 ^ 8000) (bm xy (iv 4) jz (aO _)) (ai (bW (bm pP (aA (iv 4) ak rfl rfl) jz (aO _)) (ao (aE (cr (ab fF (ab (jA (vf T) (by decide) hr rfl T.m20 T.F20.kp T.b20 (ab (iv 3) (ab (aA (iv 4) ak rfl rfl) ae rfl) rfl) (by decide) rfl rfl) ae rfl) rfl)))) aR) (ai (qs (av (qT T) (by decide) hr rfl T.m19 T.F19.kp T.b19 (ab (iv 3) (ab (aA (iv 4) ak rfl rfl) (ab (aA (iv 4) ak rfl rfl) ae rfl) rfl) rfl) (by decide) rfl rfl) rfl) (ao (aH (i:=4) iN.nd rfl (.inl rfl) (jA (kW T) (by decide) hr rfl T.m17 T.F17.kp T.b17 (ab (iv 3) ae rfl) (by decide) rfl rfl) rfl (.inl rfl))))) PassesOwn.never) (ao (aE (jA (oG T) (by decide) hr rfl T.m23 T.F23.kp T.b23 (ab (iv 3) ae rfl) (by decide) rfl rfl))))))
theorem so (T:Txt K mg t):bV P w K mg base CX0 4 t.f24 t.g24 ["rows","bounds","gains"] (spI K jU):=
 fm (N:=["rows","bounds","gains","table","step"]) (b:=iM) T.F24 iN (ph T)
theorem oz (T:Txt K mg t):Bdy P w K mg base 0 ["_law_script","_law_k","_law_cell","_law_great"] "_law_pot" eE t.f25 gN:=
 λ_ _ _ _ _ _ hr=>(ai (aH (i:=2) jt.nd rfl (.inl rfl) (vP (bm kX (iv 1) (bh (bT rfl) rfl T.z_len PySem.boot_len (ab (iv 0) ae rfl) (by decide) (by decide) rfl rfl) (aO _)) (aA (iv 0) (iv 1) rfl rfl) ak) rfl (.inl rfl)) (ai (aH (i:=3) jt.nd rfl (.inl rfl) (aC (bR rfl) (bh sK rfl T.z_abs PyProof.Rows.boot_abs (ab (iv 2) ae rfl) (by decide) (by decide) rfl rfl) (jf vU rfl T.z_int PyProof.Rows.boot_int (ab (d0 oM (bh sK rfl T.z_abs PyProof.Rows.boot_abs (ab (iv 2) ae rfl) (by decide) (by decide) rfl rfl) (aC su ak ak) (aO _)) ae rfl) (by decide) (by decide) rfl rfl)) rfl (.inl rfl)) (ao (aE (i5 (cQ (ab (iv 3) (ab (aC i8 (aC (bR rfl) (aC (bP rfl) (aC (bP rfl) (aC i8 (iv 2) ak) (aC (bR rfl) (aC (bR rfl) ak (iv 1)) (iv 1))) ak) ak) ak) (ab ak ae rfl) rfl) rfl)))))))
theorem rN (T:Txt K mg t):bV P w K mg base CX0 1 t.f25 t.g25 ["_law_script","_law_k"] (spI K fv):=
 fm (N:=["_law_script","_law_k","_law_cell","_law_great"]) (b:=gN) T.F25 jt (oz T)
theorem no (T:Txt K mg t):Bdy P w K mg base 0 ["_law_pot_here","_law_many","_law_digit"] "_law_pick" dA t.f26 eH:=
 λ_ _ _ _ _ _ hr=>(ai (d7 (iv 0) ak (aC (bP rfl) (aA (iv 0) ak rfl rfl) ak) rfl rfl rfl) (ai (bW (fD (xM (bm lQ (aA (iv 0) ak rfl rfl) ak (aO _)) (wM (bm wU (aA (iv 0) ak rfl rfl) ak (aO _))))) (ai (aH (i:=2) lc.nd rfl (.inl rfl) (aC i8 (aA (iv 0) ak rfl rfl) (iv 1)) rfl (.inl rfl)) (ai (d7 (iv 0) ak (aC t9 (aA (iv 0) ak rfl rfl) (iv 1)) rfl rfl rfl) (ao (aE (iv 2))))) aR) (ai (d7 (iv 0) ak (aC i8 (aC (bP rfl) (aC (bP rfl) (aC (bR rfl) (aA (iv 0) ak rfl rfl) ak) ak) (aA (iv 0) ak rfl rfl)) ak) rfl rfl rfl) (ao (aE (aC i8 (aC t9 (aC i8 (aC (bR rfl) (aA (iv 0) ak rfl rfl) (aC (bP rfl) (aC i8 (aA (iv 0) ak rfl rfl) ak) ak)) ak) ak) (iv 1)))))))
theorem bv (T:Txt K mg t):bV P w K mg base CX0 1 t.f26 t.g26 ["_law_pot_here","_law_many"] (spI K aB):=
 fm (N:=["_law_pot_here","_law_many","_law_digit"]) (b:=eH) T.F26 lc (no T)
theorem mM (T:Txt K mg t):Bdy P w K mg base 1 ["_law_pot_here","_law_many","_law_low","_law_rows","_law_row","_law_far","_law_bounds"] "_law_case" cy t.f27 fQ:=
 λ_ _ _ _ _ _ hr=>(ai (aH (i:=1) dj.nd rfl (.inl rfl) (aC (bP rfl) ak (av (bv T) (by decide) hr rfl T.m26 T.F26.kp T.b26 (ab (iv 0) (ab ak ae rfl) rfl) (by decide) rfl rfl)) rfl (.inl rfl)) (ai (aH (i:=2) dj.nd rfl (.inr rfl) (aA (aL (cQ (ab ak (ab ak (ab ak ae rfl) rfl) rfl))) (av (bv T) (by decide) hr rfl T.m26 T.F26.kp T.b26 (ab (iv 0) (ab ak ae rfl) rfl) (by decide) rfl rfl) rfl rfl) rfl (.inl rfl)) (ai (aH (i:=3) dj.nd rfl (.inl rfl) (i5 (cQ ae)) rfl (.inl rfl)) (ai (gh (iX rfl T.z_range (ab (av (bv T) (by decide) hr rfl T.m26 T.F26.kp T.b26 (ab (iv 0) (ab ak ae rfl) rfl) (by decide) rfl rfl) ae rfl) rfl) (bD (ax (i:=4) dj.nd rfl (.inl rfl))) (ao (qs (oS (iv 3) (ab (jf (iw rfl) rfl T.z_tuple PyProof.Rows.boot_tuple (ab (aL (dW (cT (ah cy).names ["_law_pot_here","_law_many","_law_low","_law_rows","_law_row","_law_far","_law_bounds"] ["_law_k","_law_pot_here","_law_low"] 1 [0,2] rfl rfl rfl (by decide +kernel)) rfl (by decide) (iX rfl T.z_range (ab (iv 1) ae rfl) rfl) (λ_ _ _ _ _=>(bD (ax (i:=0) (show List.Nodup (α:=Str) ["_law_k","_law_pot_here","_law_low"] by decide +kernel) rfl (.inl rfl)))) (λ_ _ _ _ _=>bG) (λ_ _ _ _ _=>(aC (bR rfl) (aC lv (av (bv T) (by decide) hr rfl T.m26 T.F26.kp T.b26 (ab (iv 1) (ab ak ae rfl) rfl) (by decide) rfl rfl) (iv 2)) (jf vU rfl T.z_int PyProof.Rows.boot_int (ab (d0 lQ (av (bv T) (by decide) hr rfl T.m26 T.F26.kp T.b26 (ab (iv 1) (ab ak ae rfl) rfl) (by decide) rfl rfl) ak (aO _)) ae rfl) (by decide) (by decide) rfl rfl))) (λ_=>rfl))) ae rfl) (by decide) (by decide) rfl rfl) ae rfl) rfl rfl (by decide) rfl rfl) rfl)) PassesOwn.never rfl (λ_=>rfl)) (ai (aH (i:=5) dj.nd rfl (.inr rfl) (aA (aL (cQ (ab ak (ab ak (ab ak (ab (aC su ak ak) ae rfl) rfl) rfl) rfl))) (av (bv T) (by decide) hr rfl T.m26 T.F26.kp T.b26 (ab (iv 0) (ab ak ae rfl) rfl) (by decide) rfl rfl) rfl rfl) rfl (.inl rfl)) (ai (aH (i:=6) dj.nd rfl (.inl rfl) (jf (iw rfl) rfl T.z_tuple PyProof.Rows.boot_tuple (ab (aL (zv (cT (ah cy).names ["_law_pot_here","_law_many","_law_low","_law_rows","_law_row","_law_far","_law_bounds"] ["_law_row","_law_pot_here","_law_far"] 1 [0,5] rfl rfl rfl (by decide +kernel)) rfl (by decide) (iv 3) rfl (λ_ _ _ _ _=>(bD (ax (i:=0) (show List.Nodup (α:=Str) ["_law_row","_law_pot_here","_law_far"] by decide +kernel) rfl (.inl rfl)))) (λ_ _ _ _ _=>bG) (λ_ _ _ _ _=>(aC (bR rfl) (av (bv T) (by decide) hr rfl T.m26 T.F26.kp T.b26 (ab (iv 1) (ab ak ae rfl) rfl) (by decide) rfl rfl) (iv 2))) (λ_=>rfl))) ae rfl) (by decide) (by decide) rfl rfl) rfl (.inl rfl)) (ao (aE (cr (ab (jf (iw rfl) rfl T.z_tuple PyProof.Rows.boot_tuple (ab (iv 3) ae rfl) (by decide) (by decide) rfl rfl) (ab (iv 6) (ab (jf (iw rfl) rfl T.z_tuple PyProof.Rows.boot_tuple (ab (aL (dW (cT (ah cy).names ["_law_pot_here","_law_many","_law_low","_law_rows","_law_row","_law_far","_law_bounds"] ["_law_k","_law_pot_here"] 1 [0] rfl rfl rfl (by decide +kernel)) rfl (by decide) (iX rfl T.z_range (ab (iv 1) ae rfl) rfl) (λ_ _ _ _ _=>(bD (ax (i:=0) (show List.Nodup (α:=Str) ["_law_k","_law_pot_here"] by decide +kernel) rfl (.inl rfl)))) (λ_ _ _ _ _=>bG) (λ_ _ _ _ _=>(aC lv (av (bv T) (by decide) hr rfl T.m26 T.F26.kp T.b26 (ab (iv 1) (ab ak ae rfl) rfl) (by decide) rfl rfl) ak)) (λ_=>rfl))) ae rfl) (by decide) (by decide) rfl rfl) ae rfl) rfl) rfl))))))))))
theorem px (T:Txt K mg t):bV P w K mg base CX0 2 t.f27 t.g27 ["_law_pot_here"] (spI K jG):=
 qS (N:=["_law_pot_here","_law_many","_law_low","_law_rows","_law_row","_law_far","_law_bounds"]) (b:=fQ) T.F27 dj (mM T)
theorem oF (T:Txt K mg t):Bdy P w K mg base 0 ["_law_one","_law_other"] "_law_dot" dD t.f28 kG:=
 λ_ _ _ _ _ _ hr=>(ao (aE (bh (tF rfl rfl) rfl T.z_sum PyProof.Rows.boot_sum (ab (aL (dW (cT (ah dD).names ["_law_one","_law_other"] ["_law_number","_law_by"] 2 [] rfl rfl rfl (by decide +kernel)) rfl (by decide) (kE rfl T.z_zip (ab (iv 0) (ab (iv 1) ae rfl) rfl) rfl rfl rfl) (λ_ _ _ _ _=>(eG (aM (ax (i:=0) (show List.Nodup (α:=Str) ["_law_number","_law_by"] by decide +kernel) rfl (.inl rfl)) (aM (ax (i:=1) (show List.Nodup (α:=Str) ["_law_number","_law_by"] by decide +kernel) rfl (.inl rfl)) di)) rfl rfl rfl rfl rfl)) (λ_ _ _ _ _=>bG) (λ_ _ _ _ _=>(aC (bR rfl) (iv 0) (iv 1))) (λ_=>rfl))) ae rfl) (by decide) (by decide) rfl rfl)))
theorem fW (T:Txt K mg t):bV P w K mg base CX0 1 t.f28 t.g28 ["_law_one","_law_other"] (spI K cP):=
 fm (N:=["_law_one","_law_other"]) (b:=kG) T.F28 qX (oF T)
theorem ma (T:Txt K mg t):Bdy P w K mg base 0 ["_law_item"] "_law_whole" dh t.f29 iU:=
 λ_ _ _ _ _ _ hr=>(ao (aE (jd (bh (gM rfl) rfl T.z_isinstance PyProof.Rows.boot_isinstance (ab (iv 0) (ab (jF rfl T.z_int PyProof.Rows.boot_int (by decide) (by decide)) ae rfl) rfl) (by decide) (by decide) rfl rfl) (ja (wg (bh (gM rfl) rfl T.z_isinstance PyProof.Rows.boot_isinstance (ab (iv 0) (ab (jF rfl T.z_bool PyProof.Rows.boot_bool (by decide) (by decide)) ae rfl) rfl) (by decide) (by decide) rfl rfl))))))
theorem j8 (T:Txt K mg t):bV P w K mg base CX0 1 t.f29 t.g29 ["_law_item"] (spI K eV):=
 fm (N:=["_law_item"]) (b:=iU) T.F29 ot (ma T)
theorem kS (T:Txt K mg t):Bdy P w K mg base 1 ["_law_item","_law_many"] "_law_numbers" cf t.f30 gJ:=
 λ_ _ _ _ _ _ hr=>(ai (bW (fD (eA (dI (cS (bh (gM rfl) rfl T.z_isinstance PyProof.Rows.boot_isinstance (ab (iv 0) (ab (jF rfl T.z_tuple PyProof.Rows.boot_tuple (by decide) (by decide)) ae rfl) rfl) (by decide) (by decide) rfl rfl) rfl rfl)) (eh (bm (oX hr rfl) (bh (bT rfl) rfl T.z_len PySem.boot_len (ab (iv 0) ae rfl) (by decide) (by decide) rfl rfl) (iv 1) (aO _))))) (ao (aE fo)) aR) (ao (aE (bh (nQ rfl rfl) rfl T.z_all PyProof.Rows.boot_all (ab (aL (dW (cT (ah cf).names ["_law_item","_law_many"] ["_law_one"] 1 [] rfl rfl rfl (by decide +kernel)) rfl (by decide) (cU (iv 0) rfl) (λ_ _ _ _ _=>(bD (ax (i:=0) (show List.Nodup (α:=Str) ["_law_one"] by decide +kernel) rfl (.inl rfl)))) (λ_ _ _ _ _=>bG) (λ_ _ _ _ _=>(jd (av (j8 T) (by decide) hr rfl T.m29 T.F29.kp T.b29 (ab (iv 0) ae rfl) (by decide) rfl rfl) (ja (d0 oM (iv 0) ak (aO _))))) (λ_=>rfl))) ae rfl) (by decide) (by decide) rfl rfl))))
theorem fZ (T:Txt K mg t):bV P w K mg base CX0 2 t.f30 t.g30 ["_law_item","_law_many"] (spI K cc):=
 fm (N:=["_law_item","_law_many"]) (b:=gJ) T.F30 me (kS T)
theorem kI (T:Txt K mg t):Bdy P w K mg base 2 ["_law_case_here","_law_part","_law_amounts","_law_prices","_law_rows","_law_bounds","_law_gains","_law_k"] "_law_greatest" bK t.f31 dn:=
 λ_ _ _ _ _ _ hr=>(ai (tJ (iv 0) (eG (aM (ax (i:=4) cW.nd rfl (.inl rfl)) (aM (ax (i:=5) cW.nd rfl (.inl rfl)) (aM (ax (i:=6) cW.nd rfl (.inl rfl)) di))) rfl rfl rfl rfl rfl) rfl rfl rfl) (ai (bW (fD (eA (dI (cS (av (j8 T) (by decide) hr rfl T.m29 T.F29.kp T.b29 (ab (iv 1) ae rfl) (by decide) rfl rfl) rfl rfl)) (eA (bm kX (iv 1) ak (aO _)) (eh (dI (cS (av (fZ T) (by decide) hr rfl T.m30 T.F30.kp T.b30 (ab (iv 2) (ab (bh (bT rfl) rfl T.z_len PySem.boot_len (ab (iv 6) ae rfl) (by decide) (by decide) rfl rfl) ae rfl) rfl) (by decide) rfl rfl) rfl rfl)))))) (ao (aE fo)) aR) (ai (bW (dI (cS (av (fZ T) (by decide) hr rfl T.m30 T.F30.kp T.b30 (ab (iv 3) (ab (bh (bT rfl) rfl T.z_len PySem.boot_len (ab (iv 4) ae rfl) (by decide) (by decide) rfl rfl) ae rfl) rfl) (by decide) rfl rfl) rfl rfl)) (ao (aE fo)) aR) (ai (bW (cS (bh (yj rfl rfl) rfl T.z_any PyProof.Rows.boot_any (ab (aL (dW (cT (ah bK).names ["_law_case_here","_law_part","_law_amounts","_law_prices","_law_rows","_law_bounds","_law_gains","_law_k"] ["_law_row","_law_bound","_law_amounts","_law_part"] 2 [2,1] rfl rfl rfl (by decide +kernel)) rfl (by decide) (kE rfl T.z_zip (ab (iv 4) (ab (iv 5) ae rfl) rfl) rfl rfl rfl) (λ_ _ _ _ _=>(eG (aM (ax (i:=0) (show List.Nodup (α:=Str) ["_law_row","_law_bound","_law_amounts","_law_part"] by decide +kernel) rfl (.inl rfl)) (aM (ax (i:=1) (show List.Nodup (α:=Str) ["_law_row","_law_bound","_law_amounts","_law_part"] by decide +kernel) rfl (.inl rfl)) di)) rfl rfl rfl rfl rfl)) (λ_ _ _ _ _=>bG) (λ_ _ _ _ _=>(d0 lQ (av (fW T) (by decide) hr rfl T.m28 T.F28.kp T.b28 (ab (iv 0) (ab (iv 2) ae rfl) rfl) (by decide) rfl rfl) (aC (bR rfl) (iv 1) (iv 3)) (aO _))) (λ_=>rfl))) ae rfl) (by decide) (by decide) rfl rfl) rfl rfl) (ao (aE fo)) aR) (ai (gh (iX rfl T.z_range (ab (bh (bT rfl) rfl T.z_len PySem.boot_len (ab (iv 6) ae rfl) (by decide) (by decide) rfl rfl) ae rfl) rfl) (bD (ax (i:=7) cW.nd rfl (.inr rfl))) (ao (bW (bm kX (bh (tF rfl rfl) rfl T.z_sum PyProof.Rows.boot_sum (ab (aL (dW (cT (ah bK).names ["_law_case_here","_law_part","_law_amounts","_law_prices","_law_rows","_law_bounds","_law_gains","_law_k"] ["_law_row","_law_price","_law_k"] 2 [7] rfl rfl rfl (by decide +kernel)) rfl (by decide) (kE rfl T.z_zip (ab (iv 4) (ab (iv 3) ae rfl) rfl) rfl rfl rfl) (λ_ _ _ _ _=>(eG (aM (ax (i:=0) (show List.Nodup (α:=Str) ["_law_row","_law_price","_law_k"] by decide +kernel) rfl (.inl rfl)) (aM (ax (i:=1) (show List.Nodup (α:=Str) ["_law_row","_law_price","_law_k"] by decide +kernel) rfl (.inl rfl)) di)) rfl rfl rfl rfl rfl)) (λ_ _ _ _ _=>bG) (λ_ _ _ _ _=>(aC (bR rfl) (aA (iv 0) (iv 2) rfl rfl) (iv 1))) (λ_=>rfl))) ae rfl) (by decide) (by decide) rfl rfl) (aC (bR rfl) (aA (iv 6) (iv 7) rfl rfl) (iv 1)) (aO _)) (ao (aE fo)) aR)) PassesOwn.never rfl (λ_=>rfl)) (ao (aE (d0 (iK hr rfl) (av (fW T) (by decide) hr rfl T.m28 T.F28.kp T.b28 (ab (iv 5) (ab (iv 3) ae rfl) rfl) (by decide) rfl rfl) (av (fW T) (by decide) hr rfl T.m28 T.F28.kp T.b28 (ab (iv 6) (ab (iv 2) ae rfl) rfl) (by decide) rfl rfl) (aO _)))))))))
theorem lG (T:Txt K mg t):bV P w K mg base CX0 3 t.f31 t.g31 ["_law_case_here","_law_part","_law_amounts","_law_prices"] (spI K gi):=
 fm (N:=["_law_case_here","_law_part","_law_amounts","_law_prices","_law_rows","_law_bounds","_law_gains","_law_k"]) (b:=dn) T.F31 cW (kI T)
theorem oH (T:Txt K mg t):Bdy P w K mg base 3 ["_law_case_here","_law_item"] "_law_due" dF t.f32 fA:=
 λ_ _ _ _ _ _ hr=>(ai (bW (fD (eA (dI (cS (bh (gM rfl) rfl T.z_isinstance PyProof.Rows.boot_isinstance (ab (iv 1) (ab (jF rfl T.z_tuple PyProof.Rows.boot_tuple (by decide) (by decide)) ae rfl) rfl) (by decide) (by decide) rfl rfl) rfl rfl)) (eA (bm (rP rfl) (bh (bT rfl) rfl T.z_len PySem.boot_len (ab (iv 1) ae rfl) (by decide) (by decide) rfl rfl) (cr (ab ak (ab ak ae rfl) rfl)) rfl) (eh (dI (cS (bh (gM rfl) rfl T.z_isinstance PyProof.Rows.boot_isinstance (ab (aA (iv 1) ak rfl rfl) (ab (jF rfl T.z_str PyProof.Rows.boot_str (by decide) (by decide)) ae rfl) rfl) (by decide) (by decide) rfl rfl) rfl rfl)))))) (ao (aE fo)) aR) (ai (bW (bm (iK hr rfl) (bh (bT rfl) rfl T.z_len PySem.boot_len (ab (iv 1) ae rfl) (by decide) (by decide) rfl rfl) ak (aO _)) (ao (aE (jd (d0 (iK hr rfl) (aA (iv 1) ak rfl rfl) fF (aO _)) (ja (av (lG T) (by decide) hr rfl T.m31 T.F31.kp T.b31 (ab (iv 0) (ab (aA (iv 1) ak rfl rfl) (ab (aA (iv 1) ak rfl rfl) (ab (aA (iv 1) ak rfl rfl) ae rfl) rfl) rfl) rfl) (by decide) rfl rfl))))) aR) (ai (bW (fD (eA (bm (oX hr rfl) (aA (iv 1) ak rfl rfl) fF (aO _)) (eh (dI (cS (av (fZ T) (by decide) hr rfl T.m30 T.F30.kp T.b30 (ab (aA (iv 1) ak rfl rfl) (ab (bh (bT rfl) rfl T.z_len PySem.boot_len (ab (aA (iv 0) ak rfl rfl) ae rfl) (by decide) (by decide) rfl rfl) ae rfl) rfl) (by decide) rfl rfl) rfl rfl))))) (ao (aE fo)) aR) (ao (aE (jd (bh (nQ rfl rfl) rfl T.z_all PyProof.Rows.boot_all (ab (aL (dW (cT (ah dF).names ["_law_case_here","_law_item"] ["_law_row","_law_item"] 1 [1] rfl rfl rfl (by decide +kernel)) rfl (by decide) (cU (aA (iv 0) ak rfl rfl) rfl) (λ_ _ _ _ _=>(bD (ax (i:=0) (show List.Nodup (α:=Str) ["_law_row","_law_item"] by decide +kernel) rfl (.inl rfl)))) (λ_ _ _ _ _=>bG) (λ_ _ _ _ _=>(d0 wU (av (fW T) (by decide) hr rfl T.m28 T.F28.kp T.b28 (ab (iv 0) (ab (aA (iv 1) ak rfl rfl) ae rfl) rfl) (by decide) rfl rfl) ak (aO _))) (λ_=>rfl))) ae rfl) (by decide) (by decide) rfl rfl) (ja (d0 lQ (av (fW T) (by decide) hr rfl T.m28 T.F28.kp T.b28 (ab (aA (iv 0) ak rfl rfl) (ab (aA (iv 1) ak rfl rfl) ae rfl) rfl) (by decide) rfl rfl) ak (aO _)))))))))
theorem rm (T:Txt K mg t):bV P w K mg base CX0 4 t.f32 t.g32 ["_law_case_here","_law_item"] (spI K gQ):=
 fm (N:=["_law_case_here","_law_item"]) (b:=fA) T.F32 rT (oH T)
theorem jl (T:Txt K mg t):Bdy P w K mg base 1 ["_law_pot_here","_law_number"] "_law_bent_number" bO t.f33 dg:=
 λ_ _ _ _ _ _ hr=>(ao (aE (aA (aL (cQ (ab (aC (bP rfl) (iv 1) ak) (ab (aC lv (iv 1) ak) (ab (aC (bR rfl) ak (iv 1)) (ab ak (ab (aC (bP rfl) (iv 1) (aC su ak ak)) ae rfl) rfl) rfl) rfl) rfl))) (av (bv T) (by decide) hr rfl T.m26 T.F26.kp T.b26 (ab (iv 0) (ab ak ae rfl) rfl) (by decide) rfl rfl) rfl rfl)))
theorem gj (T:Txt K mg t):bV P w K mg base CX0 2 t.f33 t.g33 ["_law_pot_here","_law_number"] (spI K bZ):=
 fm (N:=["_law_pot_here","_law_number"]) (b:=dg) T.F33 j5 (jl T)
theorem ky (T:Txt K mg t):Bdy P w K mg base 2 ["_law_pot_here","_law_row","_law_at","_law_way"] "_law_bent_row" cj t.f34 cJ:=
 λ_ _ _ _ _ _ hr=>(ai (aH (i:=2) dO.nd rfl (.inl rfl) (av (bv T) (by decide) hr rfl T.m26 T.F26.kp T.b26 (ab (iv 0) (ab (aC (bP rfl) (bh (bT rfl) rfl T.z_len PySem.boot_len (ab (iv 1) ae rfl) (by decide) (by decide) rfl rfl) ak) ae rfl) rfl) (by decide) rfl rfl) rfl (.inl rfl)) (ai (aH (i:=3) dO.nd rfl (.inl rfl) (av (bv T) (by decide) hr rfl T.m26 T.F26.kp T.b26 (ab (iv 0) (ab ak ae rfl) rfl) (by decide) rfl rfl) rfl (.inl rfl)) (ai (bW (bm (iK hr rfl) (iv 3) ak (aO _)) (ao (aE (aC (bP rfl) (aC (bP rfl) (nV (iv 1) iP (i4 (iv 2)) rfl) (cr (ab (av (bv T) (by decide) hr rfl T.m26 T.F26.kp T.b26 (ab (iv 0) (ab ak ae rfl) rfl) (by decide) rfl rfl) ae rfl))) (nV (iv 1) (i4 (iv 2)) iP rfl)))) aR) (ai (bW (fD (eA (bm (iK hr rfl) (iv 3) ak (aO _)) (eh (bm (iK hr rfl) (iv 1) (cr ae) (aO _))))) (ao (aE (aC (bP rfl) (nV (iv 1) iP (i4 (iv 2)) rfl) (nV (iv 1) (i4 (aC (bP rfl) (iv 2) ak)) iP rfl)))) aR) (ai (aH (i:=2) dO.nd rfl (.inl rfl) (aC i8 (iv 2) (bh (bT rfl) rfl T.z_len PySem.boot_len (ab (iv 1) ae rfl) (by decide) (by decide) rfl rfl)) rfl (.inl rfl)) (ao (aE (aC (bP rfl) (aC (bP rfl) (nV (iv 1) iP (i4 (iv 2)) rfl) (cr (ab (av (gj T) (by decide) hr rfl T.m33 T.F33.kp T.b33 (ab (iv 0) (ab (aA (iv 1) (iv 2) rfl rfl) ae rfl) rfl) (by decide) rfl rfl) ae rfl))) (nV (iv 1) (i4 (aC (bP rfl) (iv 2) ak)) iP rfl)))))))))
theorem cY (T:Txt K mg t):bV P w K mg base CX0 3 t.f34 t.g34 ["_law_pot_here","_law_row"] (spI K aW):=
 fm (N:=["_law_pot_here","_law_row","_law_at","_law_way"]) (b:=cJ) T.F34 dO (ky T)
theorem mT (T:Txt K mg t):Bdy P w K mg base 3 ["_law_pot_here","_law_item","_law_way","_law_by","_law_some","_law_word","_law_part","_law_amounts","_law_prices","_law_longer"] "_law_bent" cA t.f35 fT:=
 λ_ _ _ _ _ _ hr=>(ai (aH (i:=2) bN.nd rfl (.inl rfl) (av (bv T) (by decide) hr rfl T.m26 T.F26.kp T.b26 (ab (iv 0) (ab ak ae rfl) rfl) (by decide) rfl rfl) rfl (.inl rfl)) (ai (aH (i:=3) bN.nd rfl (.inr rfl) (aC (bP rfl) ak (av (bv T) (by decide) hr rfl T.m26 T.F26.kp T.b26 (ab (iv 0) (ab ak ae rfl) rfl) (by decide) rfl rfl)) rfl (.inl rfl)) (ai (bW (bm (iK hr rfl) (aA (iv 1) ak rfl rfl) fF (aO _)) (ai (aH (i:=4) bN.nd rfl (.inl rfl) (aL (cQ (ab (cr (ab fF (ab (jf (iw rfl) rfl T.z_tuple PyProof.Rows.boot_tuple (ab (aL (dW (cT (ah cA).names ["_law_pot_here","_law_item","_law_way","_law_by","_law_some","_law_word","_law_part","_law_amounts","_law_prices","_law_longer"] ["_law_one","_law_by"] 1 [3] rfl rfl rfl (by decide +kernel)) rfl (by decide) (cU (aA (iv 1) ak rfl rfl) rfl) (λ_ _ _ _ _=>(bD (ax (i:=0) (show List.Nodup (α:=Str) ["_law_one","_law_by"] by decide +kernel) rfl (.inl rfl)))) (λ_ _ _ _ _=>bG) (λ_ _ _ _ _=>(aC (bR rfl) (iv 1) (iv 0))) (λ_=>rfl))) ae rfl) (by decide) (by decide) rfl rfl) ae rfl) rfl)) (ab (cr (ab fF (ab (aA (iv 1) ak rfl rfl) ae rfl) rfl)) (ab (cr (ab fF (ab (aC (bR rfl) (cr (ab ak ae rfl)) (bh (bT rfl) rfl T.z_len PySem.boot_len (ab (aA (iv 1) ak rfl rfl) ae rfl) (by decide) (by decide) rfl rfl)) ae rfl) rfl)) ae rfl) rfl) rfl))) rfl (.inl rfl)) (ao (aE (aA (aC (bP rfl) (iv 4) (aC (bR rfl) (aL (cQ (ab (cr (ab fF (ab (av (cY T) (by decide) hr rfl T.m34 T.F34.kp T.b34 (ab (iv 0) (ab (aA (iv 1) ak rfl rfl) ae rfl) rfl) (by decide) rfl rfl) ae rfl) rfl)) ae rfl))) ak)) (iv 2) rfl rfl)))) aR) (ai (tJ (iv 1) (eG (aM (ax (i:=5) bN.nd rfl (.inl rfl)) (aM (ax (i:=6) bN.nd rfl (.inl rfl)) (aM (ax (i:=7) bN.nd rfl (.inl rfl)) (aM (ax (i:=8) bN.nd rfl (.inl rfl)) di)))) rfl rfl rfl rfl rfl) rfl rfl rfl) (ai (And.left (uw (i0:=9) bN.nd rfl (.inl rfl) (cT (ah cA).names ["_law_pot_here","_law_item","_law_way","_law_by","_law_some","_law_word","_law_part","_law_amounts","_law_prices","_law_longer"] ["_law_row","_law_by"] 1 [3] rfl rfl rfl (by decide +kernel)) rfl (by decide) (cU (cr (ab (iv 7) (ab (iv 8) ae rfl) rfl)) rfl) (λ_ _ _ _ _=>(bD (ax (i:=0) (show List.Nodup (α:=Str) ["_law_row","_law_by"] by decide +kernel) rfl (.inl rfl)))) (λ_ _ _ _ _=>bG) (λ_ _ _ _ _=>(jf (iw rfl) rfl T.z_tuple PyProof.Rows.boot_tuple (ab (aL (dW (cT _ ["_law_row","_law_by"] ["_law_one","_law_by"] 1 [1] (yC (ns:=(ah cA).names) rfl rfl) rfl rfl (by decide +kernel)) rfl (by decide) (cU (iv 0) rfl) (λ_ _ _ _ _=>(bD (ax (i:=0) (show List.Nodup (α:=Str) ["_law_one","_law_by"] by decide +kernel) rfl (.inl rfl)))) (λ_ _ _ _ _=>bG) (λ_ _ _ _ _=>(aC (bR rfl) (iv 1) (iv 0))) (λ_=>rfl))) ae rfl) (by decide) (by decide) rfl rfl)) rfl (.inl rfl) (λ_=>rfl))) (ai (aH (i:=4) bN.nd rfl (.inl rfl) (aL (cQ (ab (cr (ab (iv 5) (ab (aC (bR rfl) (iv 3) (iv 6)) (ab (aA (iv 9) ak rfl rfl) (ab (aA (iv 9) ak rfl rfl) ae rfl) rfl) rfl) rfl)) (ab (cr (ab (iv 5) (ab (iv 6) (ab (aA (iv 9) ak rfl rfl) (ab (iv 8) ae rfl) rfl) rfl) rfl)) (ab (cr (ab (iv 5) (ab (iv 6) (ab (iv 8) (ab (iv 7) ae rfl) rfl) rfl) rfl)) ae rfl) rfl) rfl))) rfl (.inl rfl)) (ai (aH (i:=4) bN.nd rfl (.inl rfl) (aC (bP rfl) (iv 4) (aL (cQ (ab (cr (ab (iv 5) (ab (av (gj T) (by decide) hr rfl T.m33 T.F33.kp T.b33 (ab (iv 0) (ab (iv 6) ae rfl) rfl) (by decide) rfl rfl) (ab (iv 7) (ab (iv 8) ae rfl) rfl) rfl) rfl)) (ab (cr (ab fF (ab (iv 7) ae rfl) rfl)) (ab (aC (bP rfl) (cr (ab fF ae rfl)) (nV (iv 1) (i4 ak) iP rfl)) ae rfl) rfl) rfl)))) rfl (.inl rfl)) (ai (aH (i:=4) bN.nd rfl (.inl rfl) (aC (bP rfl) (iv 4) (aL (cQ (ab (cr (ab (iv 5) (ab (iv 6) (ab (av (cY T) (by decide) hr rfl T.m34 T.F34.kp T.b34 (ab (iv 0) (ab (iv 7) ae rfl) rfl) (by decide) rfl rfl) (ab (iv 8) ae rfl) rfl) rfl) rfl)) (ab (cr (ab (iv 5) (ab (iv 6) (ab (iv 7) (ab (av (cY T) (by decide) hr rfl T.m34 T.F34.kp T.b34 (ab (iv 0) (ab (iv 8) ae rfl) rfl) (by decide) rfl rfl) ae rfl) rfl) rfl) rfl)) ae rfl) rfl)))) rfl (.inl rfl)) (ao (aE (aA (aC (bP rfl) (iv 4) (aL (cQ (ab (cr (ab (iv 5) (ab (iv 6) (ab (av (cY T) (by decide) hr rfl T.m34 T.F34.kp T.b34 (ab (iv 0) (ab (iv 7) ae rfl) rfl) (by decide) rfl rfl) (ab (av (cY T) (by decide) hr rfl T.m34 T.F34.kp T.b34 (ab (iv 0) (ab (iv 8) ae rfl) rfl) (by decide) rfl rfl) ae rfl) rfl) rfl) rfl)) ae rfl)))) (iv 2) rfl rfl)))))))))))
theorem pG (T:Txt K mg t):bV P w K mg base CX0 4 t.f35 t.g35 ["_law_pot_here","_law_item"] (spI K eJ):=
 fm (N:=["_law_pot_here","_law_item","_law_way","_law_by","_law_some","_law_word","_law_part","_law_amounts","_law_prices","_law_longer"]) (b:=fT) T.F35 bN (mT T)
theorem wC (T:Txt K mg t):Bdy P w K mg base 4 ["_law_script","_law_k","_law_pot_here","_law_case_here","_law_rows","_law_bounds","_law_gains","_law_found","_law_turn","_law_item","_law_truth"] "law" nq t.f36 uD:=
 λ_ _ _ _ _ _ hr=>(ai (gh (iX rfl T.z_range (ab (aC (bP rfl) ak (bh (zF rfl) rfl T.z_min PyProof.Rows.boot_min (ab ak (ab (bh (bT rfl) rfl T.z_len PySem.boot_len (ab (iv 0) ae rfl) (by decide) (by decide) rfl rfl) ae rfl) rfl) (by decide) (by decide) rfl rfl)) ae rfl) rfl) (bD (ax (i:=1) gP.nd rfl (.inl rfl))) (ai (aH (i:=2) gP.nd rfl (.inl rfl) (av (rN T) (by decide) hr rfl T.m25 T.F25.kp T.b25 (ab (iv 0) (ab (iv 1) ae rfl) rfl) (by decide) rfl rfl) rfl (.inl rfl)) (ai (aH (i:=3) gP.nd rfl (.inl rfl) (av (px T) (by decide) hr rfl T.m27 T.F27.kp T.b27 (ab (iv 2) ae rfl) (by decide) rfl rfl) rfl (.inl rfl)) (ai (tJ (iv 3) (eG (aM (ax (i:=4) gP.nd rfl (.inl rfl)) (aM (ax (i:=5) gP.nd rfl (.inl rfl)) (aM (ax (i:=6) gP.nd rfl (.inl rfl)) di))) rfl rfl rfl rfl rfl) rfl rfl rfl) (ai (aH (i:=7) gP.nd rfl (.inl rfl) (av (so T) (by decide) hr rfl T.m24 T.F24.kp T.b24 (ab (iv 4) (ab (iv 5) (ab (iv 6) ae rfl) rfl) rfl) (by decide) rfl rfl) rfl (.inl rfl)) (ai (bW (bm yb (av (ke T) (by decide) hr rfl T.m10 T.F10.kp T.b10 (ab (iv 4) (ab (iv 5) (ab (iv 6) (ab (iv 7) ae rfl) rfl) rfl) rfl) (by decide) rfl rfl) fo (aO _)) (ao (aE fo)) aR) (ao (gh (iX rfl T.z_range (ab ak ae rfl) rfl) (bD (ax (i:=8) gP.nd rfl (.inl rfl))) (ai (aH (i:=9) gP.nd rfl (.inl rfl) (av (pG T) (by decide) hr rfl T.m35 T.F35.kp T.b35 (ab (iv 2) (ab (iv 7) ae rfl) rfl) (by decide) rfl rfl) rfl (.inl rfl)) (ai (aH (i:=10) gP.nd rfl (.inl rfl) (av (ke T) (by decide) hr rfl T.m10 T.F10.kp T.b10 (ab (iv 4) (ab (iv 5) (ab (iv 6) (ab (iv 9) ae rfl) rfl) rfl) rfl) (by decide) rfl rfl) rfl (.inl rfl)) (ao (bW (fD (eA (dI (cS (bh (gM rfl) rfl T.z_isinstance PyProof.Rows.boot_isinstance (ab (iv 10) (ab (jF rfl T.z_bool PyProof.Rows.boot_bool (by decide) (by decide)) ae rfl) rfl) (by decide) (by decide) rfl rfl) rfl rfl)) (eh (bm (oX hr rfl) (iv 10) (av (rm T) (by decide) hr rfl T.m32 T.F32.kp T.b32 (ab (iv 3) (ab (iv 9) ae rfl) rfl) (by decide) rfl rfl) (aO _))))) (ao (aE fo)) aR)))) PassesOwn.never rfl (λ_=>rfl)))))))) PassesOwn.never rfl (λ_=>rfl)) (ao (aE fo)))
theorem zo (T:Txt K mg t):bV P w K mg base CX0 5 t.f36 t.g36 ["_law_script"] (spI K rq):=
 qS (N:=["_law_script","_law_k","_law_pot_here","_law_case_here","_law_rows","_law_bounds","_law_gains","_law_found","_law_turn","_law_item","_law_truth"]) (b:=uD) T.F36 gP (wC T)
end
end Own
end
namespace L2
open PySem
end L2
namespace L2
end L2
namespace L2
end L2
namespace L2
open PySem
end L2
namespace L2
open PySem
noncomputable def gT:Nat->List Int->Nat
 | g,[]=>g
 | g,n::ns=>gT (Nat.gcd g n.natAbs) ns
theorem rO (n:Int):∀ (g:Nat) (ns:List Int),gT g (ns++[n])=Nat.gcd (gT g ns) n.natAbs
 | g,[]=>rfl
 | g,m::ns=>rO n _ ns
theorem kO:∀ (g:Nat) (ns:List Int),gT g ns∣g/\∀ n ∈ ns,gT g ns∣n.natAbs
 | g,[]=>⟨Nat.dvd_refl _,λ_ h=>by cases h⟩
 | g,m::ns=>by
  have ih:=kO (Nat.gcd g m.natAbs) ns
  refine⟨Nat.dvd_trans ih.1 (Nat.gcd_dvd_left _ _),λn hn=>?_⟩
  rcases List.mem_cons.mp hn with rfl | hn
  ·exact Nat.dvd_trans ih.1 (Nat.gcd_dvd_right _ _)
  ·exact ih.2 n hn
theorem wt {ns:List Int}{n:Int} (hn:n ∈ ns) (h0:n≠0):0 < gT 0 ns/\gT 0 ns<=n.natAbs:=by
 have h:=(kO 0 ns).2 n hn
 have hp:0 < n.natAbs:=by lia
 exact⟨Nat.pos_of_dvd_of_pos h hp,Nat.le_of_dvd hp h⟩
end L2
namespace L2
open PySem
theorem aj {g:Sto->W->W->Option D}{a b:Ef}{env:Ev}{st s1 s2:Sto}{x y:W}{d:D} (ha:a env st=some (x,s1)) (hb:b env s1=some (y,s2)) (hg:g s2 x y=some d):iOp g a b env st=some (.d d,s2):=by
 simp only [iOp,ha,hb,hg,Option.bind_some,Option.map_some]
theorem aY {g:Sto->W->W->Option D}{a b:Ef}{env:Ev}{st s1 s2:Sto}{x y:W}{k:Bool} (ha:a env st=some (x,s1)) (hb:b env s1=some (y,s2)) (hg:g s2 x y=some (.bl k)):bg g a b env st=some (k,s2):=by
 simp only [bg,ha,hb,hg,Option.bind_some,r8,Option.map_some]
theorem az {i:Nat}{f:Ef}{env:Ev}{st s:Sto}{w:W} (h:f env st=some (w,s)):aG (.nm i) f env st=some (.nx (env.set i (some w)) s):=by
 simp only [aG,h,Option.bind_some,eU,Option.map_some]
theorem aw {m:Fn}{a:Af}{env:Ev}{st s:Sto}{ws:List W}{r:W×Sto} (ha:a env st=some (ws,s)) (hm:m ws s=some r):au m a env st=some r:=by
 simp only [au,ha,hm,Option.bind_some]
theorem aZ {g:Sto->List W->Option D}{a:Af}{env:Ev}{st s:Sto}{ws:List W}{d:D} (ha:a env st=some (ws,s)) (hm:g s ws=some d):iCB g a env st=some (.d d,s):=by
 simp only [iCB,ha,hm,Option.bind_some,Option.map_some]
theorem ac {a:Ef}{b:Af}{env:Ev}{st s1 s2:Sto}{x:W}{y:List W} (ha:a env st=some (x,s1)) (hb:b env s1=some (y,s2)):aa a b env st=some (x::y,s2):=by
 simp only [aa,ha,hb,Option.bind_some,Option.map_some]
theorem dc {fi:Lf}{g:Tg}{b:Sf}{env:Ev}{st s:Sto}{ds:List D}{r:Fl} (h:fi env st=some (ds,s)) (hf:dR g b ds env s=some r):jD fi g b env st=some r:=by
 simp only [jD,h,hf,Option.bind_some]
theorem bn {f:Ef}{env:Ev}{st s:Sto}{w:W} (h:f env st=some (w,s)):bi f env st=some (.rt w s):=by
 simp only [bi,h,Option.map_some]
theorem cu {k:Nat}{js:List Nat}{fi:Lf}{g:Tg}{tt:Tf}{te:Ef}{env:Ev}{st s s2:Sto}{ds ys:List D} (h:fi env st=some (ds,s)) (hl:ds.length<=1000000) (hc:lcI g tt te (iR k js env) ds s=some (ys,s2)):iLc k js fi g tt te env st=some (ys,s2):=by
 simp only [iLc,h,hc,hl,Option.bind_some,if_true]
theorem aI {a:Lf}{env:Ev}{st s:Sto}{ds:List D} (h:a env st=some (ds,s)):aD a env st=some (.d (.lst ds),s):=by
 simp only [aD,h,Option.map_some]
theorem aQ {n k:Nat}{b:Sf}{ws:List W}{st s:Sto}{w:W} (hl:ws.length=k) (h:b (ws.map some++List.replicate (n - k) none) st=some (.rt w s)):cK n k b ws st=some (w,s):=by
 simp only [cK,hl,if_true,h,Option.bind_some]
theorem mO {n k:Nat}{b:Sf}{ws:List W}{st s:Sto}{x:D} (hl:ws.length=k) (h:b (ws.map some++List.replicate (n - k) none) st=some (.rt (.d x) s)):j7 n k b ws st=some (.d x,s.take st.length):=by
 simp only [j7,hl,if_true,h,Option.bind_some,vX]
end L2
namespace Sx
abbrev Vec:=Nat->Int
noncomputable def sumN:Nat->(Nat->Int)->Int
 | 0,_=>0
 | n+1,f=>sumN n f+f n
theorem sumN_congr {n:Nat}{f g:Nat->Int} (h:∀ k,k < n->f k=g k):sumN n f=sumN n g:=by
 induction n with
 | zero=>rfl
 | succ n ih=>rw [sumN,sumN,ih λk hk=>h k (by omega),h n (by omega)]
theorem sumN_add (n:Nat) (f g:Nat->Int):sumN n (λk=>f k+g k)=sumN n f+sumN n g:=by
 induction n with
 | zero=>rfl
 | succ n ih=>rw [sumN,sumN,sumN,ih];omega
theorem sumN_mul (n:Nat) (c:Int) (f:Nat->Int):sumN n (λk=>c*f k)=c*sumN n f:=by
 induction n with
 | zero=>simp [sumN]
 | succ n ih=>rw [sumN,sumN,ih,Int.mul_add]
theorem sumN_zero (n:Nat):sumN n (λ_=>0)=0:=by
 induction n with
 | zero=>rfl
 | succ n ih=>rw [sumN,ih];rfl
theorem sumN_single {n i:Nat} (hi:i < n) {f:Nat->Int} (h:∀ k,k < n->k≠i->f k=0):sumN n f=f i:=by
 induction n with
 | zero=>omega
 | succ n ih=>
  rw [sumN]
  by_cases e:i=n
  ·subst e
   rw [sumN_congr (g:=λ_=>0) λk hk=>h k (by omega) (by omega),sumN_zero];omega
  ·rw [ih (by omega) λk hk hne=>h k (by omega) hne,h n (by omega) (by omega)];omega
theorem sumN_pair {n i j:Nat} (hi:i < n) (hj:j < n) (hij:i≠j) {f:Nat->Int} (h:∀ k,k < n->k≠i->k≠j->f k=0):sumN n f=f i+f j:=by
 have e:sumN n f=sumN n (λk=>(if k=i then f i else 0)+(if k=j then f j else 0)):=by
  refine sumN_congr λk hk=>?_
  by_cases h1:k=i
  ·subst h1;rw [if_pos rfl,if_neg hij];omega
  ·by_cases h2:k=j
   ·subst h2;rw [if_neg h1,if_pos rfl];omega
   ·rw [if_neg h1,if_neg h2,h k hk h1 h2];rfl
 rw [e,sumN_add,sumN_single hi λk _ hne=>if_neg hne,sumN_single hj λk _ hne=>if_neg hne,if_pos rfl,if_pos rfl]
noncomputable def skip (k j:Nat):Nat:=if j < k then j else j+1
noncomputable def sg (k:Nat):Int:=if k % 2=0 then 1 else -1
theorem sg_succ (k:Nat):sg (k+1)=- sg k:=by
 unfold sg
 by_cases h:k % 2=0
 ·rw [if_pos h,if_neg (by omega)]
 ·rw [if_neg h,if_pos (by omega)];rfl
noncomputable def det:Nat->(Nat->Vec)->Int
 | 0,_=>1
 | m+1,C=>sumN (m+1) λk=>sg k*C k 0*det m (λj t=>C (skip k j) (t+1))
theorem det_congr:∀ (m:Nat) {C E:Nat->Vec},(∀ k t,k < m->t < m->C k t=E k t)->det m C=det m E:=by
 intro m
 induction m with
 | zero=>intros;rfl
 | succ m ih=>
  intro C E h
  rw [det,det]
  refine sumN_congr λk hk=>?_
  rw [h k 0 hk (by omega),ih (C:=λj t=>C (skip k j) (t+1)) (E:=λj t=>E (skip k j) (t+1)) λj t hj ht=>h (skip k j) (t+1) (by unfold skip;split<;>omega) (by omega)]
noncomputable def upd (C:Nat->Vec) (i:Nat) (v:Vec):Nat->Vec:=λj=>if j=i then v else C j
theorem upd_same (C:Nat->Vec) (i:Nat) (v:Vec):upd C i v i=v:=if_pos rfl
theorem upd_ne {C:Nat->Vec}{i j:Nat}{v:Vec} (h:j≠i):upd C i v j=C j:=if_neg h
theorem upd_self (C:Nat->Vec) (i:Nat):upd C i (C i)=C:=by
 funext j
 by_cases h:j=i
 ·rw [h,upd_same]
 ·rw [upd_ne h]
theorem upd_upd (C:Nat->Vec) (i:Nat) (u v:Vec):upd (upd C i u) i v=upd C i v:=by
 funext j
 by_cases h:j=i
 ·rw [h,upd_same,upd_same]
 ·rw [upd_ne h,upd_ne h,upd_ne h]
theorem upd_comm {C:Nat->Vec}{i j:Nat}{u v:Vec} (h:i≠j):upd (upd C i u) j v=upd (upd C j v) i u:=by
 funext k
 by_cases h1:k=i
 ·subst h1;rw [upd_ne h,upd_same,upd_same]
 ·by_cases h2:k=j
  ·subst h2;rw [upd_same,upd_ne h1,upd_same]
  ·rw [upd_ne h2,upd_ne h1,upd_ne h1,upd_ne h2]
noncomputable def unskip (k i:Nat):Nat:=if i < k then i else i - 1
theorem skip_upd {C:Nat->Vec}{k i:Nat}{v:Vec} (h:k≠i):(λj t=>upd C i v (skip k j) (t+1))=upd (λj t=>C (skip k j) (t+1)) (unskip k i) (λt=>v (t+1)):=by
 funext j t
 unfold upd skip unskip
 by_cases h1:j < k<;>by_cases h2:i < k<;>simp only [h1,h2,if_true,if_false]
 ·by_cases e:j=i
  ·rw [if_pos e,if_pos e]
  ·rw [if_neg e,if_neg e]
 ·rw [if_neg (by omega),if_neg (by omega)]
 ·rw [if_neg (by omega),if_neg (by omega)]
 ·by_cases e:j+1=i
  ·rw [if_pos e,if_pos (by omega)]
  ·rw [if_neg e,if_neg (by omega)]
theorem skip_self {C:Nat->Vec}{i:Nat}{v:Vec}:(λj t=>upd C i v (skip i j) (t+1))=λj t=>C (skip i j) (t+1):=by
 funext j t
 rw [upd_ne]
 unfold skip
 split<;>omega
theorem det_add:∀ (m:Nat) (C:Nat->Vec) (i:Nat) (u v:Vec),i < m->det m (upd C i λt=>u t+v t)=det m (upd C i u)+det m (upd C i v):=by
 intro m
 induction m with
 | zero=>intros;omega
 | succ m ih=>
  intro C i u v hi
  rw [det,det,det,<-sumN_add]
  refine sumN_congr λk hk=>?_
  by_cases e:k=i
  ·subst e
   rw [skip_self,skip_self,skip_self,upd_same,upd_same,upd_same,Int.mul_add,Int.add_mul]
  ·rw [skip_upd e,skip_upd e,skip_upd e,upd_ne e,upd_ne e,upd_ne e,ih _ _ (λt=>u (t+1)) (λt=>v (t+1)) (by unfold unskip;split<;>omega),Int.mul_add]
theorem det_mul:∀ (m:Nat) (C:Nat->Vec) (i:Nat) (c:Int) (u:Vec),i < m->det m (upd C i λt=>c*u t)=c*det m (upd C i u):=by
 intro m
 induction m with
 | zero=>intros;omega
 | succ m ih=>
  intro C i c u hi
  rw [det,det,<-sumN_mul]
  refine sumN_congr λk hk=>?_
  by_cases e:k=i
  ·subst e
   rw [skip_self,skip_self,upd_same,upd_same]
   rw [show sg k*(c*u 0)=c*(sg k*u 0) by rw [Int.mul_left_comm],Int.mul_assoc]
  ·rw [skip_upd e,skip_upd e,upd_ne e,upd_ne e,ih _ _ c (λt=>u (t+1)) (by unfold unskip;split<;>omega),Int.mul_left_comm]
theorem det_adj:∀ (m:Nat) (C:Nat->Vec) (i:Nat),i+1 < m->C i=C (i+1)->det m C=0:=by
 intro m
 induction m with
 | zero=>intros;omega
 | succ m ih=>
  intro C i hi h
  rw [det,sumN_pair (i:=i) (j:=i+1) (by omega) (by omega) (by omega) λk hk h1 h2=>?_]
  ·have e:(λj t=>C (skip i j) (t+1))=λj t=>C (skip (i+1) j) (t+1):=by
    funext j t
    by_cases e:j=i
    ·subst e
     have a1:skip j j=j+1:=by unfold skip;rw [if_neg (by omega)]
     have a2:skip (j+1) j=j:=by unfold skip;rw [if_pos (by omega)]
     rw [a1,a2,h]
    ·have:skip i j=skip (i+1) j:=by
      unfold skip
      by_cases h1:j < i
      ·rw [if_pos h1,if_pos (by omega)]
      ·rw [if_neg h1,if_neg (by omega)]
     rw [this]
   rw [e,h,sg_succ]
   rw [<-Int.add_mul,<-Int.add_mul]
   rw [show sg i+-sg i=0 by omega]
   simp
  ·have hz:det m (λj t=>C (skip k j) (t+1))=0:=by
    by_cases hk':k < i
    ·refine ih _ (i - 1) (by omega) ?_
     funext t
     have a1:skip k (i - 1)=i:=by unfold skip;rw [if_neg (by omega)];omega
     have a2:skip k (i - 1+1)=i+1:=by unfold skip;rw [if_neg (by omega)];omega
     rw [a1,a2,h]
    ·refine ih _ i (by omega) ?_
     funext t
     have a1:skip k i=i:=by unfold skip;rw [if_pos (by omega)]
     have a2:skip k (i+1)=i+1:=by unfold skip;rw [if_pos (by omega)]
     rw [a1,a2,h]
   rw [hz,Int.mul_zero]
theorem det_swap {m:Nat} (C:Nat->Vec) {i:Nat} (hi:i+1 < m):det m (upd (upd C i (C (i+1))) (i+1) (C i))=- det m C:=by
 have key:∀ u v:Vec,det m (upd (upd C i u) (i+1) v)+det m (upd (upd C i v) (i+1) u)=0:=λu v=>by
  have h0:det m (upd (upd C i λt=>u t+v t) (i+1) λt=>u t+v t)=0:=det_adj m _ i hi (by rw [upd_ne (by omega),upd_same,upd_same])
  have hu:det m (upd (upd C i u) (i+1) u)=0:=det_adj m _ i hi (by rw [upd_ne (by omega),upd_same,upd_same])
  have hv:det m (upd (upd C i v) (i+1) v)=0:=det_adj m _ i hi (by rw [upd_ne (by omega),upd_same,upd_same])
  rw [det_add m _ (i+1) u v hi,upd_comm (by omega),upd_comm (v:=v) (by omega),det_add m _ i u v (by omega),det_add m _ i u v (by omega)] at h0
  rw [<-upd_comm (C:=C) (i:=i) (j:=i+1) (u:=u) (v:=u) (by omega),<-upd_comm (C:=C) (i:=i) (j:=i+1) (u:=v) (v:=u) (by omega),<-upd_comm (C:=C) (i:=i) (j:=i+1) (u:=u) (v:=v) (by omega),<-upd_comm (C:=C) (i:=i) (j:=i+1) (u:=v) (v:=v) (by omega),hu,hv] at h0
  omega
 have:=key (C i) (C (i+1))
 have e:upd (upd C i (C i)) (i+1) (C (i+1))=C:=by rw [upd_self,upd_self]
 rw [e] at this
 omega
theorem det_same {m:Nat}:∀ (d:Nat) (C:Nat->Vec) (i j:Nat),j=i+d+1->j < m->C i=C j->det m C=0:=by
 intro d
 induction d with
 | zero=>intro C i j hj hm h;subst hj;exact det_adj m C i hm h
 | succ d ih=>
  intro C i j hj hm h
  have hs:=det_swap (m:=m) C (i:=j - 1) (by omega)
  have e1:j - 1+1=j:=by omega
  rw [e1] at hs
  have:=ih (upd (upd C (j - 1) (C j)) j (C (j - 1))) i (j - 1) (by omega) (by omega) (by rw [upd_ne (by omega),upd_ne (by omega),upd_ne (by omega),upd_same,h])
  rw [this] at hs
  omega
theorem det_eq0 {m:Nat} (C:Nat->Vec) {i j:Nat} (hi:i < m) (hj:j < m) (hij:i≠j) (h:C i=C j):det m C=0:=by
 rcases Nat.lt_or_gt_of_ne hij with h1 | h1
 ·exact det_same (j - i - 1) C i j (by omega) hj h
 ·exact det_same (i - j - 1) C j i (by omega) hi h.symm
theorem det_zero {m:Nat} (C:Nat->Vec) {i:Nat} (hi:i < m):det m (upd C i λ_=>0)=0:=by
 have:=det_mul m C i 0 (λ_=>0) hi
 simpa using this
theorem det_sum {m:Nat} (C:Nat->Vec) {i:Nat} (hi:i < m) (x:Nat->Int) (V:Nat->Vec):∀ n,det m (upd C i λt=>sumN n λk=>x k*V k t)=sumN n λk=>x k*det m (upd C i (V k)):=by
 intro n
 induction n with
 | zero=>exact det_zero C hi
 | succ n ih=>
  have e:(λt=>sumN (n+1) λk=>x k*V k t)=λt=>(sumN n λk=>x k*V k t)+x n*V n t:=rfl
  rw [e,det_add m C i _ _ hi,ih,det_mul m C i (x n) (V n) hi]
  rfl
theorem cramer {m:Nat} (B:Nat->Vec) (a:Vec) (p:Int) (x:Nat->Int) (h:∀ t,p*a t=sumN m λk=>x k*B k t) {i:Nat} (hi:i < m):p*det m (upd B i a)=x i*det m B:=by
 rw [<-det_mul m B i p a hi]
 have e:(λt=>p*a t)=λt=>sumN m λk=>x k*B k t:=funext h
 rw [e,det_sum B hi x B m,sumN_single hi λk hk hne=>?_,upd_self]
 rw [det_eq0 (upd B i (B k)) hi hk (Ne.symm hne) (by rw [upd_same,upd_ne hne]),Int.mul_zero]
theorem cramer2 {m:Nat} (B:Nat->Vec) (a b:Vec) (p:Int) (hp:p=det m B) (hp0:p≠0) (x y:Nat->Int) (hx:∀ t,p*a t=sumN m λk=>x k*B k t) (hy:∀ t,p*b t=sumN m λk=>y k*B k t) {i r:Nat} (hi:i < m) (hr:r < m) (hir:i≠r) :
  p*det m (upd (upd B r a) i b)=x r*y i - x i*y r:=by
 have h1:p*det m (upd (upd B r a) i b)=sumN m λk=>y k*det m (upd (upd B r a) i (B k)):=by
  rw [<-det_mul m _ i p b hi]
  have e:(λt=>p*b t)=λt=>sumN m λk=>y k*B k t:=funext hy
  rw [e,det_sum _ hi y B m]
 rw [h1,sumN_pair hi hr hir λk hk h2 h3=>?_]
 ·have e1:upd (upd B r a) i (B i)=upd B r a:=by
   have:(upd B r a) i=B i:=upd_ne hir
   rw [<-this,upd_self]
  have e2:p*det m (upd B r a)=x r*p:=by rw [cramer B a p x hx hr,<-hp]
  have e3:p*det m (upd (upd B r a) i (B r))=- (x i*p):=by
   have hc:upd (upd B r a) i (B r)=upd (upd B i (B r)) r a:=upd_comm (Ne.symm hir)
   rw [hc,<-det_mul m _ r p a hr]
   have e:(λt=>p*a t)=λt=>sumN m λk=>x k*B k t:=funext hx
   rw [e,det_sum _ hr x B m,sumN_single hi λk hk hne=>?_]
   ·-- columns i and r exchanged
    have hsw:det m (upd (upd B i (B r)) r (B i))=- det m B:=by
     have key:∀ u v:Vec,det m (upd (upd B i u) r v)+det m (upd (upd B i v) r u)=0:=λu v=>by
      have z:∀ w:Vec,det m (upd (upd B i w) r w)=0:=λw=>det_eq0 _ hi hr hir (by rw [upd_ne hir,upd_same,upd_same])
      have h0:=z λt=>u t+v t
      rw [det_add m _ r u v hr,upd_comm hir,upd_comm (v:=v) hir,det_add m _ i u v hi,det_add m _ i u v hi] at h0
      rw [<-upd_comm (C:=B) (i:=i) (j:=r) (u:=u) (v:=u) hir,<-upd_comm (C:=B) (i:=i) (j:=r) (u:=v) (v:=u) hir,<-upd_comm (C:=B) (i:=i) (j:=r) (u:=u) (v:=v) hir,<-upd_comm (C:=B) (i:=i) (j:=r) (u:=v) (v:=v) hir,z u,z v] at h0
      omega
     have:=key (B i) (B r)
     rw [show upd (upd B i (B i)) r (B r)=B by rw [upd_self,upd_self]] at this
     omega
    rw [hsw,<-hp,Int.mul_neg]
   ·by_cases hkr:k=r
    ·subst hkr
     rw [det_eq0 _ hi hr hir (by rw [upd_ne hir,upd_same,upd_same]),Int.mul_zero]
    ·rw [det_eq0 (upd (upd B i (B r)) r (B k)) hr hk (Ne.symm hkr) (by rw [upd_same,upd_ne hkr,upd_ne hne]),Int.mul_zero]
  rw [e1]
  have:p*(y i*det m (upd B r a)+y r*det m (upd (upd B r a) i (B r)))=p*(x r*y i - x i*y r):=by
   rw [Int.mul_add,Int.mul_left_comm,e2,Int.mul_left_comm p (y r),e3,Int.mul_sub,Int.mul_neg]
   rw [show y i*(x r*p)=p*(x r*y i) by rw [Int.mul_comm (y i),Int.mul_right_comm,Int.mul_comm]]
   rw [show y r*(x i*p)=p*(x i*y r) by rw [Int.mul_comm (y r),Int.mul_assoc,Int.mul_comm p (y r),<-Int.mul_assoc,Int.mul_comm (x i*y r) p]]
   omega
  exact Int.eq_of_mul_eq_mul_left hp0 this
 ·rw [det_eq0 (upd (upd B r a) i (B k)) hi hk (Ne.symm h2) (by rw [upd_same,upd_ne h2,upd_ne h3]),Int.mul_zero]
noncomputable def unit (k:Nat):Vec:=λt=>if t=k then 1 else 0
theorem det_unit:∀ m,det m unit=1:=by
 intro m
 induction m with
 | zero=>rfl
 | succ m ih=>
  rw [det,sumN_single (i:=0) (by omega) λk hk hne=>by rw [show unit k 0=0 by unfold unit;rw [if_neg (by omega)]];simp]
  have e:(λj t=>unit (skip 0 j) (t+1))=unit:=by
   funext j t
   unfold unit skip
   rw [if_neg (by omega:¬ j < 0)]
   by_cases h:t=j
   ·rw [if_pos (by omega),if_pos h]
   ·rw [if_neg (by omega),if_neg h]
  rw [e,ih]
  rfl
end Sx
namespace Sx
structure Pb where
 m:Nat
 n:Nat
 A:Nat->Vec
 b:Vec
 g:Nat->Int
structure Tb where
 p:Int
 kept:Nat->Nat
 free:Nat->Nat
 T:Nat->Nat->Int
 G:Nat->Int
variable (P:Pb)
noncomputable def colV (S:Tb) (c:Nat):Vec:=if c < P.n then P.A (S.free c) else P.b
noncomputable def gainC (S:Tb) (c:Nat):Int:=if c < P.n then P.g (S.free c) else 0
noncomputable def basis (S:Tb):Nat->Vec:=λi=>P.A (S.kept i)
structure Good (S:Tb):Prop where
 pos:0 < S.p
 dt:S.p=det P.m (basis P S)
 eq:∀ c,c<=P.n->∀ t,S.p*colV P S c t=sumN P.m λi=>S.T i c*P.A (S.kept i) t
 goal:∀ c,c<=P.n->S.G c=(sumN P.m λi=>P.g (S.kept i)*S.T i c) - S.p*gainC P S c
noncomputable def piv (S:Tb) (r e:Nat):Tb where
 p:=S.T r e
 kept:=λi=>if i=r then S.free e else S.kept i
 free:=λc=>if c=e then S.kept r else S.free c
 T:=λi c=>if i=r then (if c=e then S.p else S.T r c) else (if c=e then - S.T i e else (S.T r e*S.T i c - S.T i e*S.T r c) / S.p)
 G:=λc=>if c=e then - S.G e else (S.T r e*S.G c - S.G e*S.T r c) / S.p
variable {P}
theorem Good.entry {S:Tb} (h:Good P S) {c i:Nat} (hc:c<=P.n) (hi:i < P.m):S.T i c=det P.m (upd (basis P S) i (colV P S c)):=by
 have:=cramer (basis P S) (colV P S c) S.p (λk=>S.T k c) (λt=>h.eq c hc t) hi
 rw [<-h.dt,Int.mul_comm] at this
 exact (Int.eq_of_mul_eq_mul_right (by have:=h.pos;omega) this).symm
theorem Good.whole {S:Tb} (h:Good P S) {r e c i:Nat} (he:e<=P.n) (hc:c<=P.n) (hi:i < P.m) (hr:r < P.m) (hir:i≠r):∃ d,S.T r e*S.T i c - S.T i e*S.T r c=S.p*d:=
 ⟨_,(cramer2 (basis P S) (colV P S e) (colV P S c) S.p h.dt (by have:=h.pos;omega) (λk=>S.T k e) (λk=>S.T k c) (λt=>h.eq e he t) (λt=>h.eq c hc t) hi hr hir).symm⟩
theorem ediv_of {p a d:Int} (hp:0 < p) (h:a=p*d):p*(a / p)=a:=by
 rw [h,Int.mul_ediv_cancel_left _ (by omega)]
theorem piv_T {S:Tb} (h:Good P S) {r e c i:Nat} (he:e<=P.n) (hc:c<=P.n) (hi:i < P.m) (hr:r < P.m) (hir:i≠r) (hce:c≠e):S.p*(piv S r e).T i c=S.T r e*S.T i c - S.T i e*S.T r c:=by
 obtain⟨d,hd⟩:=h.whole (c:=c) he hc hi hr hir
 show S.p*(if i=r then _ else (if c=e then _ else _))=_
 rw [if_neg hir,if_neg hce]
 exact ediv_of h.pos hd
theorem sumN_split {n r:Nat} (hr:r < n) (f:Nat->Int):sumN n f=f r+sumN n (λk=>if k=r then 0 else f k):=by
 have e:sumN n f=sumN n (λk=>(if k=r then f r else 0)+(if k=r then 0 else f k)):=by
  refine sumN_congr λk hk=>?_
  by_cases h:k=r
  ·rw [if_pos h,if_pos h,h];omega
  ·rw [if_neg h,if_neg h];omega
 rw [e,sumN_add,sumN_single hr λk _ hne=>if_neg hne,if_pos rfl]
theorem sumN_sub (n:Nat) (f g:Nat->Int):sumN n (λk=>f k - g k)=sumN n f - sumN n g:=by
 induction n with
 | zero=>rfl
 | succ n ih=>rw [sumN,sumN,sumN,ih];omega
theorem piv_eq {S:Tb} (h:Good P S) {r e:Nat} (he:e < P.n) (hr:r < P.m):∀ c,c<=P.n->∀ t,(piv S r e).p*colV P (piv S r e) c t=sumN P.m λi=>(piv S r e).T i c*P.A ((piv S r e).kept i) t:=by
 intro c hc t
 have hp:=h.pos
 have hE:=h.eq e (by omega) t
 have hcE:colV P S e=P.A (S.free e):=if_pos he
 rw [hcE,sumN_split hr] at hE
 have kr:(piv S r e).kept r=S.free e:=if_pos rfl
 have kn:∀ i,i≠r->(piv S r e).kept i=S.kept i:=λi hi=>if_neg hi
 rw [sumN_split hr,kr]
 by_cases hce:c=e
 ·subst hce
  have c1:colV P (piv S r c) c=P.A (S.kept r):=by
   unfold colV;rw [if_pos he];show P.A (if c=c then _ else _)=_;rw [if_pos rfl]
  have t1:(piv S r c).T r c=S.p:=by show (if r=r then (if c=c then _ else _) else _)=_;rw [if_pos rfl,if_pos rfl]
  have t2:(sumN P.m λk=>if k=r then 0 else (piv S r c).T k c*P.A ((piv S r c).kept k) t)=- sumN P.m λk=>if k=r then 0 else S.T k c*P.A (S.kept k) t:=by
   have:(sumN P.m λk=>if k=r then 0 else (piv S r c).T k c*P.A ((piv S r c).kept k) t)=sumN P.m λk=>(-1)*(if k=r then 0 else S.T k c*P.A (S.kept k) t):=by
    refine sumN_congr λk hk=>?_
    by_cases hk':k=r
    ·rw [if_pos hk',if_pos hk'];rfl
    ·rw [if_neg hk',if_neg hk',kn k hk']
     show (if k=r then _ else (if c=c then - S.T k c else _))*_=_
     rw [if_neg hk',if_pos rfl,Int.neg_mul,Int.neg_mul,Int.one_mul]
   rw [this,sumN_mul];omega
  rw [c1,t1,t2]
  show S.T r c*P.A (S.kept r) t=_
  omega
 ·have c1:colV P (piv S r e) c=colV P S c:=by
   unfold colV
   by_cases hcn:c < P.n
   ·rw [if_pos hcn,if_pos hcn];show P.A (if c=e then _ else _)=_;rw [if_neg hce]
   ·rw [if_neg hcn,if_neg hcn]
  have t1:(piv S r e).T r c=S.T r c:=by show (if r=r then (if c=e then _ else _) else _)=_;rw [if_pos rfl,if_neg hce]
  have hC:=h.eq c hc t
  rw [sumN_split hr] at hC
  rw [c1,t1]
  refine Int.eq_of_mul_eq_mul_left (a:=S.p) (by omega) ?_
  have t2:S.p*(sumN P.m λk=>if k=r then 0 else (piv S r e).T k c*P.A ((piv S r e).kept k) t)=(sumN P.m λk=>S.T r e*(if k=r then 0 else S.T k c*P.A (S.kept k) t)) - sumN P.m λk=>S.T r c*(if k=r then 0 else S.T k e*P.A (S.kept k) t):=by
   rw [<-sumN_mul,<-sumN_sub]
   refine sumN_congr λk hk=>?_
   by_cases hk':k=r
   ·rw [if_pos hk',if_pos hk',if_pos hk'];simp
   ·rw [if_neg hk',if_neg hk',if_neg hk',kn k hk',<-Int.mul_assoc,piv_T h (by omega) hc hk hr hk' hce,Int.sub_mul]
    rw [Int.mul_assoc,Int.mul_comm (S.T k e),Int.mul_assoc]
  rw [Int.mul_add,t2,sumN_mul,sumN_mul]
  show S.p*(S.T r e*colV P S c t)=_
  rw [Int.mul_left_comm,hC,<-Int.mul_assoc S.p,Int.mul_comm S.p (S.T r c),Int.mul_assoc,hE,Int.mul_add,Int.mul_add]
  generalize (sumN P.m λk=>if k=r then 0 else S.T k c*P.A (S.kept k) t)=X
  generalize (sumN P.m λk=>if k=r then 0 else S.T k e*P.A (S.kept k) t)=Y
  rw [show S.T r e*(S.T r c*P.A (S.kept r) t)=S.T r c*(S.T r e*P.A (S.kept r) t) by rw [Int.mul_left_comm]]
  omega
theorem piv_goal {S:Tb} (h:Good P S) {r e:Nat} (he:e < P.n) (hr:r < P.m):∀ c,c<=P.n->(piv S r e).G c=(sumN P.m λi=>P.g ((piv S r e).kept i)*(piv S r e).T i c) - (piv S r e).p*gainC P (piv S r e) c:=by
 intro c hc
 have hp:=h.pos
 have hE:=h.goal e (by omega)
 have gE:gainC P S e=P.g (S.free e):=if_pos he
 rw [gE,sumN_split hr] at hE
 have kr:(piv S r e).kept r=S.free e:=if_pos rfl
 have kn:∀ i,i≠r->(piv S r e).kept i=S.kept i:=λi hi=>if_neg hi
 rw [sumN_split hr,kr]
 by_cases hce:c=e
 ·subst hce
  have c1:gainC P (piv S r c) c=P.g (S.kept r):=by
   unfold gainC;rw [if_pos he];show P.g (if c=c then _ else _)=_;rw [if_pos rfl]
  have t1:(piv S r c).T r c=S.p:=by show (if r=r then (if c=c then _ else _) else _)=_;rw [if_pos rfl,if_pos rfl]
  have t2:(sumN P.m λk=>if k=r then 0 else P.g ((piv S r c).kept k)*(piv S r c).T k c)=- sumN P.m λk=>if k=r then 0 else P.g (S.kept k)*S.T k c:=by
   have:(sumN P.m λk=>if k=r then 0 else P.g ((piv S r c).kept k)*(piv S r c).T k c)=sumN P.m λk=>(-1)*(if k=r then 0 else P.g (S.kept k)*S.T k c):=by
    refine sumN_congr λk hk=>?_
    by_cases hk':k=r
    ·rw [if_pos hk',if_pos hk'];rfl
    ·rw [if_neg hk',if_neg hk',kn k hk']
     show _*(if k=r then _ else (if c=c then - S.T k c else _))=_
     rw [if_neg hk',if_pos rfl,Int.mul_neg,Int.neg_mul,Int.one_mul]
   rw [this,sumN_mul];omega
  rw [c1,t1,t2]
  show (if c=c then - S.G c else _)=_ - S.T r c*_
  rw [if_pos rfl,hE,Int.mul_comm (S.T r c),Int.mul_comm S.p]
  omega
 ·have c1:gainC P (piv S r e) c=gainC P S c:=by
   unfold gainC
   by_cases hcn:c < P.n
   ·rw [if_pos hcn,if_pos hcn];show P.g (if c=e then _ else _)=_;rw [if_neg hce]
   ·rw [if_neg hcn,if_neg hcn]
  have t1:(piv S r e).T r c=S.T r c:=by show (if r=r then (if c=e then _ else _) else _)=_;rw [if_pos rfl,if_neg hce]
  have hC:=h.goal c hc
  rw [sumN_split hr] at hC
  rw [c1,t1]
  have t2:S.p*(sumN P.m λk=>if k=r then 0 else P.g ((piv S r e).kept k)*(piv S r e).T k c)=(sumN P.m λk=>S.T r e*(if k=r then 0 else P.g (S.kept k)*S.T k c)) - sumN P.m λk=>S.T r c*(if k=r then 0 else P.g (S.kept k)*S.T k e):=by
   rw [<-sumN_mul,<-sumN_sub]
   refine sumN_congr λk hk=>?_
   by_cases hk':k=r
   ·rw [if_pos hk',if_pos hk',if_pos hk'];simp
   ·rw [if_neg hk',if_neg hk',if_neg hk',kn k hk',Int.mul_left_comm,piv_T h (by omega) hc hk hr hk' hce,Int.mul_sub]
    rw [Int.mul_left_comm,Int.mul_comm (S.T k e),Int.mul_left_comm (S.T r c)]
  rw [sumN_mul,sumN_mul] at t2
  have key:S.T r e*S.G c - S.G e*S.T r c=S.p*(P.g (S.free e)*S.T r c+(sumN P.m λk=>if k=r then 0 else P.g ((piv S r e).kept k)*(piv S r e).T k c) - S.T r e*gainC P S c):=by
   rw [Int.mul_sub,Int.mul_add,t2,hC,hE]
   generalize (sumN P.m λk=>if k=r then 0 else P.g (S.kept k)*S.T k c)=X
   generalize (sumN P.m λk=>if k=r then 0 else P.g (S.kept k)*S.T k e)=Y
   rw [Int.mul_sub,Int.mul_add,Int.sub_mul,Int.add_mul]
   rw [show S.T r e*(P.g (S.kept r)*S.T r c)=P.g (S.kept r)*S.T r e*S.T r c by rw [Int.mul_left_comm,Int.mul_assoc]]
   rw [show S.T r e*(S.p*gainC P S c)=S.p*(S.T r e*gainC P S c) by rw [Int.mul_left_comm]]
   rw [show S.p*(P.g (S.free e)*S.T r c)=S.p*P.g (S.free e)*S.T r c by rw [Int.mul_assoc]]
   rw [Int.mul_comm Y]
   omega
  show (if c=e then _ else (S.T r e*S.G c - S.G e*S.T r c) / S.p)=_
  rw [if_neg hce,key,Int.mul_ediv_cancel_left _ (by omega)]
  rfl
theorem Good.piv {S:Tb} (h:Good P S) {r e:Nat} (he:e < P.n) (hr:r < P.m) (hq:0 < S.T r e):Good P (piv S r e):=by
 refine⟨hq,?_,piv_eq h he hr,piv_goal h he hr⟩
 show S.T r e=_
 rw [h.entry (by omega) hr]
 refine congrArg _ ?_
 funext i
 unfold basis
 by_cases hi:i=r
 ·rw [hi,upd_same]
  show colV P S e=P.A (if r=r then _ else _)
  rw [if_pos rfl];exact if_pos he
 ·rw [upd_ne hi]
  show _=P.A (if i=r then _ else _)
  rw [if_neg hi]
end Sx
namespace Sx
noncomputable def lexP (M:Nat) (v:Nat->Int):Prop:=∃ j,j < M/\0 < v j/\∀ l,l < j->v l=0
theorem lexP_congr {M:Nat}{v w:Nat->Int} (h:∀ s,s < M->v s=w s) (hv:lexP M v):lexP M w:=by
 obtain⟨j,h1,h2,h3⟩:=hv
 exact⟨j,h1,by rw [<-h j h1];exact h2,λl hl=>by rw [<-h l (by omega)];exact h3 l hl⟩
theorem lexP_mul {M:Nat}{v:Nat->Int}{c:Int} (hc:0 < c) (hv:lexP M v):lexP M λs=>c*v s:=by
 obtain⟨j,h1,h2,h3⟩:=hv
 exact⟨j,h1,Int.mul_pos hc h2,λl hl=>by show c*v l=0;rw [h3 l hl,Int.mul_zero]⟩
theorem lexP_unmul {M:Nat}{v:Nat->Int}{c:Int} (hc:0 < c) (hv:lexP M λs=>c*v s):lexP M v:=by
 obtain⟨j,h1,h2,h3⟩:=hv
 have h2':0 < v j*c:=by rw [Int.mul_comm];exact h2
 refine⟨j,h1,Int.pos_of_mul_pos_left h2' hc,λl hl=>?_⟩
 have:=h3 l hl
 rcases Int.mul_eq_zero.mp this with h | h
 ·omega
 ·exact h
theorem lexP_add {M:Nat}{v w:Nat->Int} (hv:lexP M v) (hw:lexP M w):lexP M λs=>v s+w s:=by
 obtain⟨j,h1,h2,h3⟩:=hv
 obtain⟨k,k1,k2,k3⟩:=hw
 rcases Nat.lt_trichotomy j k with h | h | h
 ·exact⟨j,h1,by show 0 < v j+w j;rw [k3 j h];omega,λl hl=>by show v l+w l=0;rw [h3 l hl,k3 l (by omega)];rfl⟩
 ·subst h
  exact⟨j,h1,by show 0 < v j+w j;omega,λl hl=>by show v l+w l=0;rw [h3 l hl,k3 l hl];rfl⟩
 ·exact⟨k,k1,by show 0 < v k+w k;rw [h3 k h];omega,λl hl=>by show v l+w l=0;rw [h3 l (by omega),k3 l hl];rfl⟩
theorem lexP_addn {M:Nat}{v w:Nat->Int}{c:Int} (hc:0<=c) (hv:lexP M v) (hw:lexP M w):lexP M λs=>v s+c*w s:=by
 rcases Int.lt_or_eq_of_le hc with h | h
 ·exact lexP_add hv (lexP_mul h hw)
 ·subst h
  exact lexP_congr (λs _=>by rw [Int.zero_mul,Int.add_zero]) hv
theorem lexP_not0 {M:Nat}{v:Nat->Int} (h:∀ s,s < M->v s=0):¬ lexP M v:=λ⟨j,h1,h2,_⟩=>by rw [h j h1] at h2;omega
theorem lexP_first {M:Nat}{v:Nat->Int} (hM:0 < M) (h:lexP M v):0<=v 0:=by
 obtain⟨j,h1,h2,h3⟩:=h
 rcases Nat.eq_zero_or_pos j with e | e
 ·subst e;omega
 ·rw [h3 0 e];exact Int.le_refl _
variable (P:Pb)
noncomputable def XV (s:Nat):Vec:=if s=0 then P.b else unit (s - 1)
noncomputable def LV (S:Tb) (i s:Nat):Int:=det P.m (upd (basis P S) i (XV P s))
noncomputable def ZV (S:Tb) (s:Nat):Int:=sumN P.m λi=>P.g (S.kept i)*LV P S i s
structure Named (S:Tb):Prop where
 one:∀ r,r < P.m->P.A (P.n+r)=unit r
 all:∀ k,k < P.n+P.m->(∃ c,c < P.n/\S.free c=k)\/∃ i,i < P.m/\S.kept i=k
 bound:(∀ c,c < P.n->S.free c < P.n+P.m)/\∀ i,i < P.m->S.kept i < P.n+P.m
noncomputable def Fe (S:Tb):Prop:=∀ i,i < P.m->lexP (P.m+1) (LV P S i)
variable {P}
theorem Good.rep_free {S:Tb} (h:Good P S) {c:Nat} (hc:c<=P.n) (t:Nat):S.p*colV P S c t=sumN P.m λi=>det P.m (upd (basis P S) i (colV P S c))*P.A (S.kept i) t:=by
 rw [h.eq c hc t]
 exact sumN_congr λi hi=>by rw [h.entry hc hi]
theorem det_kept {S:Tb} (h:Good P S) {i j:Nat} (hi:i < P.m) (hj:j < P.m):det P.m (upd (basis P S) i (basis P S j))=if i=j then S.p else 0:=by
 by_cases e:i=j
 ·subst e;rw [upd_self,if_pos rfl,h.dt]
 ·rw [if_neg e]
  exact det_eq0 _ hi hj e (by rw [upd_same,upd_ne (Ne.symm e)])
theorem Good.rep_kept {S:Tb} (h:Good P S) {j:Nat} (hj:j < P.m) (t:Nat):S.p*P.A (S.kept j) t=sumN P.m λi=>det P.m (upd (basis P S) i (P.A (S.kept j)))*P.A (S.kept i) t:=by
 rw [sumN_single hj λi hi hne=>?_]
 ·have:=det_kept h hj hj
  rw [if_pos rfl] at this
  have e:det P.m (upd (basis P S) j (P.A (S.kept j)))=S.p:=this
  rw [e]
 ·have:=det_kept h hi hj
  rw [if_neg hne] at this
  have e:det P.m (upd (basis P S) i (P.A (S.kept j)))=0:=this
  rw [e,Int.zero_mul]
theorem Good.rep {S:Tb} (h:Good P S) (hn:Named P S) {s:Nat} (hs:s < P.m+1) (t:Nat):S.p*XV P s t=sumN P.m λi=>LV P S i s*P.A (S.kept i) t:=by
 unfold LV
 by_cases h0:s=0
 ·subst h0
  have e:XV P 0=colV P S P.n:=by unfold XV colV;rw [if_pos rfl,if_neg (Nat.lt_irrefl _)]
  rw [e]
  exact h.rep_free (Nat.le_refl _) t
 ·have e:XV P s=P.A (P.n+(s - 1)):=by unfold XV;rw [if_neg h0,hn.one (s - 1) (by omega)]
  rw [e]
  rcases hn.all (P.n+(s - 1)) (by omega) with⟨c,hc,hk⟩ | ⟨j,hj,hk⟩
  ·have e2:P.A (P.n+(s - 1))=colV P S c:=by unfold colV;rw [if_pos hc,hk]
   rw [e2]
   exact h.rep_free (by omega) t
  ·rw [<-hk]
   exact h.rep_kept hj t
theorem piv_basis {S:Tb}{r e:Nat} (he:e < P.n):basis P (piv S r e)=upd (basis P S) r (colV P S e):=by
 funext i
 unfold basis
 by_cases hi:i=r
 ·rw [hi,upd_same]
  show P.A (if r=r then _ else _)=colV P S e
  rw [if_pos rfl];exact (if_pos he).symm
 ·rw [upd_ne hi]
  show P.A (if i=r then _ else _)=_
  rw [if_neg hi]
theorem LV_r {S:Tb}{r e s:Nat} (he:e < P.n):LV P (piv S r e) r s=LV P S r s:=by
 unfold LV
 rw [piv_basis he,upd_upd]
theorem LV_i {S:Tb} (h:Good P S) (hn:Named P S) {r e s i:Nat} (he:e < P.n) (hs:s < P.m+1) (hi:i < P.m) (hr:r < P.m) (hir:i≠r):S.p*LV P (piv S r e) i s=S.T r e*LV P S i s - S.T i e*LV P S r s:=by
 unfold LV
 rw [piv_basis he]
 exact cramer2 (basis P S) (colV P S e) (XV P s) S.p h.dt (by have:=h.pos;omega) (λk=>S.T k e) (λk=>LV P S k s) (λt=>h.eq e (by omega) t) (λt=>h.rep hn hs t) hi hr hir
theorem ZV_piv {S:Tb} (h:Good P S) (hn:Named P S) {r e s:Nat} (he:e < P.n) (hs:s < P.m+1) (hr:r < P.m):S.p*ZV P (piv S r e) s=S.T r e*ZV P S s - S.G e*LV P S r s:=by
 have hE:=h.goal e (by omega)
 have gE:gainC P S e=P.g (S.free e):=if_pos he
 rw [gE,sumN_split hr] at hE
 unfold ZV
 have kr:(piv S r e).kept r=S.free e:=if_pos rfl
 have kn:∀ i,i≠r->(piv S r e).kept i=S.kept i:=λi hi=>if_neg hi
 rw [sumN_split hr,kr,LV_r he,Int.mul_add]
 have t2:S.p*(sumN P.m λk=>if k=r then 0 else P.g ((piv S r e).kept k)*LV P (piv S r e) k s)=(sumN P.m λk=>S.T r e*(if k=r then 0 else P.g (S.kept k)*LV P S k s)) - sumN P.m λk=>LV P S r s*(if k=r then 0 else P.g (S.kept k)*S.T k e):=by
  rw [<-sumN_mul,<-sumN_sub]
  refine sumN_congr λk hk=>?_
  by_cases hk':k=r
  ·rw [if_pos hk',if_pos hk',if_pos hk'];simp
  ·rw [if_neg hk',if_neg hk',if_neg hk',kn k hk',Int.mul_left_comm,LV_i h hn he hs hk hr hk',Int.mul_sub]
   rw [Int.mul_left_comm,Int.mul_comm (S.T k e),Int.mul_left_comm (LV P S r s)]
 rw [t2,sumN_mul,sumN_mul,sumN_split hr (λi=>P.g (S.kept i)*LV P S i s),hE]
 generalize (sumN P.m λk=>if k=r then 0 else P.g (S.kept k)*LV P S k s)=X
 generalize (sumN P.m λk=>if k=r then 0 else P.g (S.kept k)*S.T k e)=Y
 generalize LV P S r s=L
 rw [Int.sub_mul,Int.add_mul,Int.mul_add]
 rw [show S.T r e*(P.g (S.kept r)*L)=P.g (S.kept r)*S.T r e*L by rw [Int.mul_left_comm,Int.mul_assoc]]
 rw [show S.p*(P.g (S.free e)*L)=S.p*P.g (S.free e)*L by rw [Int.mul_assoc]]
 rw [Int.mul_comm Y]
 omega
noncomputable def less (P:Pb) (S S':Tb):Prop:=lexP (P.m+1) λs=>S.p*ZV P S' s - S'.p*ZV P S s
theorem less_trans {S1 S2 S3:Tb} (h1:0 < S1.p) (h2:0 < S2.p) (h3:0 < S3.p) (a:less P S1 S2) (b:less P S2 S3):less P S1 S3:=by
 refine lexP_unmul h2 (lexP_congr (λs _=>?_) (lexP_add (lexP_mul h1 b) (lexP_mul h3 a)))
 generalize ZV P S1 s=x
 generalize ZV P S2 s=y
 generalize ZV P S3 s=z
 rw [Int.mul_sub,Int.mul_sub,Int.mul_sub]
 rw [show S1.p*(S3.p*y)=S3.p*(S1.p*y) by rw [Int.mul_left_comm],show S1.p*(S2.p*z)=S2.p*(S1.p*z) by rw [Int.mul_left_comm],show S3.p*(S2.p*x)=S2.p*(S3.p*x) by rw [Int.mul_left_comm]]
 omega
theorem same_kept {S S':Tb} (h:Good P S) (h':Good P S') (e:∀ i,i < P.m->S.kept i=S'.kept i):S.p=S'.p/\∀ s,ZV P S s=ZV P S' s:=by
 have hb:∀ i,i < P.m->basis P S i=basis P S' i:=λi hi=>by unfold basis;rw [e i hi]
 have hL:∀ i s,i < P.m->LV P S i s=LV P S' i s:=λi s hi=>by
  unfold LV
  refine det_congr P.m λk t hk _=>?_
  by_cases hki:k=i
  ·rw [hki,upd_same,upd_same]
  ·rw [upd_ne hki,upd_ne hki,hb k hk]
 refine⟨?_,λs=>?_⟩
 ·rw [h.dt,h'.dt]
  exact det_congr P.m λk t hk _=>by rw [hb k hk]
 ·unfold ZV
  exact sumN_congr λi hi=>by rw [e i hi,hL i s hi]
theorem less_kept {S S':Tb} (h:Good P S) (h':Good P S') (l:less P S S'):¬ ∀ i,i < P.m->S.kept i=S'.kept i:=λe=>by
 obtain⟨e1,e2⟩:=same_kept h h' e
 refine lexP_not0 (λs _=>?_) l
 rw [e1,e2 s];omega
theorem lines_unlike {S:Tb} (h:Good P S) (hA:∀ i,i < P.m->∀ t,P.m<=t->P.A (S.kept i) t=0) {i r:Nat} (hi:i < P.m) (hr:r < P.m) (hir:i≠r) {a b:Int} (ha:0 < a) (hs:∀ s,s < P.m+1->a*LV P S i s=b*LV P S r s):False:=by
 have key:∀ k,k < P.m->det P.m (upd (basis P S) k (basis P S i))=sumN P.m λs=>basis P S i s*LV P S k (s+1):=λk hk=>by
  have e:basis P S i=λt=>sumN P.m λs=>basis P S i s*unit s t:=by
   funext t
   by_cases ht:t < P.m
   ·rw [sumN_single ht λs _ hne=>by unfold unit;rw [if_neg (Ne.symm hne),Int.mul_zero]]
    unfold unit
    rw [if_pos rfl,Int.mul_one]
   ·rw [sumN_congr (g:=λ_=>0) λs hs'=>by unfold unit;rw [if_neg (by omega),Int.mul_zero],sumN_zero]
    exact hA i hi t (by omega)
  have e2:=det_sum (m:=P.m) (basis P S) hk (λs=>basis P S i s) unit P.m
  rw [<-e] at e2
  rw [e2]
  refine sumN_congr λs hs'=>?_
  unfold LV XV
  rw [if_neg (by omega),Nat.add_sub_cancel]
 have k1:=key i hi
 have k2:=key r hr
 rw [det_kept h hi hi,if_pos rfl] at k1
 rw [det_kept h hr hi,if_neg (Ne.symm hir)] at k2
 have:a*S.p=b*0:=by
  rw [k1,k2,<-sumN_mul,<-sumN_mul]
  refine sumN_congr λs hs'=>?_
  rw [Int.mul_left_comm,hs (s+1) (by omega),Int.mul_left_comm]
 have:=Int.mul_pos ha h.pos
 omega
theorem Named.piv {S:Tb} (hn:Named P S) {r e:Nat} (he:e < P.n) (hr:r < P.m):Named P (piv S r e):=by
 refine⟨hn.one,λk hk=>?_,λc hc=>?_,λi hi=>?_⟩
 ·rcases hn.all k hk with⟨c,hc,e1⟩ | ⟨i,hi,e1⟩
  ·by_cases hce:c=e
   ·subst hce;exact .inr ⟨r,hr,by show (if r=r then _ else _)=_;rw [if_pos rfl];exact e1⟩
   ·exact .inl ⟨c,hc,by show (if c=e then _ else _)=_;rw [if_neg hce];exact e1⟩
  ·by_cases hir:i=r
   ·subst hir;exact .inl ⟨e,he,by show (if e=e then _ else _)=_;rw [if_pos rfl];exact e1⟩
   ·exact .inr ⟨i,hi,by show (if i=r then _ else _)=_;rw [if_neg hir];exact e1⟩
 ·show (if c=e then _ else _) < _
  split
  ·exact hn.bound.2 r hr
  ·exact hn.bound.1 c hc
 ·show (if i=r then _ else _) < _
  split
  ·exact hn.bound.1 e he
  ·exact hn.bound.2 i hi
theorem step {S:Tb} (h:Good P S) (hn:Named P S) (hf:Fe P S) {r e:Nat} (he:e < P.n) (hr:r < P.m) (hq:0 < S.T r e) (hg:S.G e < 0)
  (hmin:∀ i,i < P.m->i≠r->0 < S.T i e->lexP (P.m+1) λs=>S.T r e*LV P S i s - S.T i e*LV P S r s) :
  Good P (piv S r e)/\Named P (piv S r e)/\Fe P (piv S r e)/\less P S (piv S r e):=by
 refine⟨h.piv he hr hq,hn.piv he hr,λi hi=>?_,?_⟩
 ·by_cases hir:i=r
  ·subst hir
   exact lexP_congr (λs _=>(LV_r he).symm) (hf i hi)
  ·refine lexP_unmul h.pos (lexP_congr (λs hs=>(LV_i h hn he hs hi hr hir).symm) ?_)
   by_cases ht:0 < S.T i e
   ·exact hmin i hi hir ht
   ·refine lexP_congr (λs _=>?_) (lexP_addn (c:=- S.T i e) (by omega) (lexP_mul hq (hf i hi)) (hf r hr))
    show S.T r e*LV P S i s+- S.T i e*LV P S r s=_
    rw [Int.neg_mul];omega
 ·refine lexP_congr (λs hs=>?_) (lexP_mul (c:=- S.G e) (by omega) (hf r hr))
  show - S.G e*LV P S r s=S.p*ZV P (piv S r e) s - S.T r e*ZV P S s
  rw [ZV_piv h hn he hs hr,Int.neg_mul];omega
theorem filt_len (N:Nat):∀ l:List Nat,(l.filter λx=>decide (x=N)).length+(l.filter λx=>decide (x≠N)).length=l.length
 | []=>rfl
 | x::l=>by
  have ih:=filt_len N l
  by_cases h:x=N
  ·rw [List.filter_cons_of_pos (by simpa using h),List.filter_cons_of_neg (by simpa using h),List.length_cons,List.length_cons];omega
  ·rw [List.filter_cons_of_neg (by simpa using h),List.filter_cons_of_pos (by simpa using h),List.length_cons,List.length_cons];omega
theorem nodup_le:∀ (N:Nat) (l:List Nat),l.Nodup->(∀ x ∈ l,x < N)->l.length<=N:=by
 intro N
 induction N with
 | zero=>
  intro l _ h
  cases l with
  | nil=>exact Nat.le_refl _
  | cons x l=>exact absurd (h x List.mem_cons_self) (by omega)
 | succ N ih=>
  intro l hl h
  have h1:=ih (l.filter λx=>decide (x≠N)) (hl.filter _) λx hx=>by
   have:=List.mem_filter.mp hx
   have h2:=h x this.1
   have h3:x≠N:=by simpa using this.2
   omega
  have h2:(l.filter λx=>decide (x=N)).length<=1:=by
   have hn:=hl.filter λx=>decide (x=N)
   have hall:∀ x ∈ l.filter (λx=>decide (x=N)),x=N:=λx hx=>by simpa using (List.mem_filter.mp hx).2
   match l.filter (λx=>decide (x=N)),hn,hall with
   | [],_,_=>exact Nat.zero_le _
   | [x],_,_=>exact Nat.le_refl _
   | x::y::r,hn,hall=>
    have e1:=hall x List.mem_cons_self
    have e2:=hall y (List.mem_cons_of_mem _ List.mem_cons_self)
    exact absurd (e1.trans e2.symm) ((List.pairwise_cons.mp hn).1 y List.mem_cons_self)
  have h3:=filt_len N l
  omega
noncomputable def code (b:Nat) (f:Nat->Nat):Nat->Nat
 | 0=>0
 | m+1=>code b f m*b+f m
theorem code_lt {b:Nat}{f:Nat->Nat}:∀ {m:Nat},(∀ i,i < m->f i < b)->code b f m < b ^ m
 | 0,_=>Nat.one_pos
 | m+1,h=>by
  have ih:=code_lt (m:=m) λi hi=>h i (by omega)
  have h1:=h m (by omega)
  rw [code,Nat.pow_succ]
  calc code b f m*b+f m < code b f m*b+b:=by omega
   _=(code b f m+1)*b:=by rw [Nat.add_mul,Nat.one_mul]
   _<=b ^ m*b:=Nat.mul_le_mul_right b ih
theorem code_inj {b:Nat}{f g:Nat->Nat}:∀ {m:Nat},(∀ i,i < m->f i < b)->(∀ i,i < m->g i < b)->code b f m=code b g m->∀ i,i < m->f i=g i
 | 0,_,_,_,i,hi=>absurd hi (by omega)
 | m+1,hf,hg,e,i,hi=>by
  rw [code,code] at e
  have h1:=hf m (by omega)
  have h2:=hg m (by omega)
  have e1:f m=g m:=by
   have:=congrArg (· % b) e
   simp only [Nat.mul_add_mod_self_right] at this
   rw [Nat.mod_eq_of_lt h1,Nat.mod_eq_of_lt h2] at this
   exact this
  have e2:code b f m=code b g m:=by
   rw [e1] at e
   exact Nat.eq_of_mul_eq_mul_right (by omega:0 < b) (by omega)
  by_cases him:i=m
  ·rw [him];exact e1
  ·exact code_inj (m:=m) (λi hi=>hf i (by omega)) (λi hi=>hg i (by omega)) e2 i (by omega)
end Sx
namespace Sx
noncomputable def leastR (tops bots:Nat->Int):List Nat->List Nat->List Nat
 | [],least=>least
 | p::ps,[]=>leastR tops bots ps [p]
 | p::ps,l0::r=>if tops p*bots l0 > tops l0*bots p then leastR tops bots ps (l0::r) else if tops p*bots l0 < tops l0*bots p then leastR tops bots ps [p] else leastR tops bots ps ((l0::r)++[p])
structure Least (tops bots:Nat->Int) (ps out:List Nat):Prop where
 ne:ps≠[]->out≠[]
 sub:∀ x ∈ out,x ∈ ps
 nd:ps.Nodup->out.Nodup
 eq:∀ x ∈ out,∀ y ∈ out,tops x*bots y=tops y*bots x
 lt:∀ x ∈ out,∀ y ∈ ps,y ∉ out->tops x*bots y < tops y*bots x
theorem ratio_lt {a b c p q r:Int} (hp:0 < p) (hq:0 < q) (hr:0 < r) (h1:a*q < b*p) (h2:b*r<=c*q):a*r < c*p:=by
 have e1:a*q*r < b*p*r:=Int.mul_lt_mul_of_pos_right h1 hr
 have e2:b*r*p<=c*q*p:=Int.mul_le_mul_of_nonneg_right h2 (by omega)
 rw [Int.mul_right_comm b p r] at e1
 have e3:a*r*q < c*p*q:=by rw [Int.mul_right_comm a r q,Int.mul_right_comm c p q];omega
 exact Int.lt_of_mul_lt_mul_right e3 (by omega)
theorem leastR_ok {tops bots:Nat->Int}:∀ (ps done least:List Nat),(∀ x ∈ done++ps,0 < bots x)->(done++ps).Nodup->Least tops bots done least->Least tops bots (done++ps) (leastR tops bots ps least):=by
 intro ps
 induction ps with
 | nil=>intro done least _ _ h;rw [List.append_nil];cases least<;>exact h
 | cons p ps ih=>
  intro done least hb hnd h
  have hp:0 < bots p:=hb p (List.mem_append_right _ List.mem_cons_self)
  have hpd:p ∉ done:=λhm=>by
   rw [List.nodup_append] at hnd
   exact hnd.2.2 p hm p List.mem_cons_self rfl
  have e:done++p::ps=(done++[p])++ps:=by simp
  have hdn:done.Nodup:=(List.nodup_append.mp hnd).1
  rw [e] at hb hnd ⊢
  cases least with
  | nil=>
   have hd:done=[]:=by
    cases done with
    | nil=>rfl
    | cons x d=>exact absurd rfl (h.ne (by simp))
   subst hd
   rw [leastR]
   refine ih _ _ hb hnd ⟨λ_=>by simp,λx hx=>by simpa using hx,λ_=>by simp,λx hx y hy=>?_,λx hx y hy hn=>absurd (by simpa using hy) (by simpa using hn)⟩
   rw [List.mem_singleton.mp hx,List.mem_singleton.mp hy]
  | cons l0 r=>
   have hl0:l0 ∈ l0::r:=List.mem_cons_self
   have hl0d:=h.sub l0 hl0
   have hb0:0 < bots l0:=hb l0 (List.mem_append_left _ (List.mem_append_left _ hl0d))
   have hbd:∀ y ∈ done,0 < bots y:=λy hy=>hb y (List.mem_append_left _ (List.mem_append_left _ hy))
   rw [leastR]
   by_cases c1:tops p*bots l0 > tops l0*bots p
   ·rw [if_pos c1]
    refine ih _ _ hb hnd ⟨λ_=>by simp,λx hx=>List.mem_append_left _ (h.sub x hx),λ_=>h.nd hdn,h.eq,λx hx y hy hn=>?_⟩
    rcases List.mem_append.mp hy with hy | hy
    ·exact h.lt x hx y hy hn
    ·rw [List.mem_singleton.mp hy]
     have hx0:=h.eq l0 hl0 x hx
     have hxb:0 < bots x:=hbd x (h.sub x hx)
     -- x is as l0,l0 is below p
     exact Int.lt_of_lt_of_le (by
      have e1:tops x*bots l0*bots p=tops l0*bots p*bots x:=by rw [<-hx0,Int.mul_right_comm]
      have e2:tops l0*bots p*bots x < tops p*bots l0*bots x:=Int.mul_lt_mul_of_pos_right c1 hxb
      have e3:tops x*bots p*bots l0 < tops p*bots x*bots l0:=by rw [Int.mul_right_comm,e1,Int.mul_right_comm (tops p)];exact e2
      exact Int.lt_of_mul_lt_mul_right e3 (by omega)) (Int.le_refl _)
   ·rw [if_neg c1]
    by_cases c2:tops p*bots l0 < tops l0*bots p
    ·rw [if_pos c2]
     refine ih _ _ hb hnd ⟨λ_=>by simp,λx hx=>by rw [List.mem_singleton.mp hx];simp,λ_=>by simp,λx hx y hy=>by rw [List.mem_singleton.mp hx,List.mem_singleton.mp hy],λx hx y hy hn=>?_⟩
     rw [List.mem_singleton.mp hx]
     rcases List.mem_append.mp hy with hy | hy
     ·have hyb:=hbd y hy
      have hle:tops l0*bots y<=tops y*bots l0:=by
       by_cases hm:y ∈ l0::r
       ·exact Int.le_of_eq (h.eq l0 hl0 y hm)
       ·exact Int.le_of_lt (h.lt l0 hl0 y hy hm)
      exact ratio_lt hp hb0 hyb c2 hle
     ·exact absurd (by simpa using hy) (by simpa using hn)
    ·rw [if_neg c2]
     have ceq:tops p*bots l0=tops l0*bots p:=by omega
     have hpx:∀ x ∈ l0::r,tops p*bots x=tops x*bots p:=λx hx=>by
      have hx0:=h.eq l0 hl0 x hx
      have hxb:0 < bots x:=hbd x (h.sub x hx)
      have e1:tops p*bots x*bots l0=tops x*bots p*bots l0:=by
       rw [Int.mul_right_comm,ceq,Int.mul_right_comm,hx0,Int.mul_right_comm]
      exact Int.eq_of_mul_eq_mul_right (by omega) e1
     refine ih _ _ hb hnd ⟨λ_=>by simp,λx hx=>?_,λ_=>?_,λx hx y hy=>?_,λx hx y hy hn=>?_⟩
     ·rcases List.mem_append.mp hx with hx | hx
      ·exact List.mem_append_left _ (h.sub x hx)
      ·exact List.mem_append_right _ hx
     ·rw [List.nodup_append]
      refine⟨h.nd hdn,by simp,λx hx y hy e=>?_⟩
      rw [List.mem_singleton.mp hy] at e
      rw [e] at hx
      exact hpd (h.sub p hx)
     ·rcases List.mem_append.mp hx with hx | hx<;>rcases List.mem_append.mp hy with hy | hy
      ·exact h.eq x hx y hy
      ·rw [List.mem_singleton.mp hy];exact (hpx x hx).symm
      ·rw [List.mem_singleton.mp hx];exact hpx y hy
      ·rw [List.mem_singleton.mp hx,List.mem_singleton.mp hy]
     ·have hyd:y ∈ done:=by
       rcases List.mem_append.mp hy with hy | hy
       ·exact hy
       ·exact absurd (List.mem_append_right _ hy) hn
      have hyn:y ∉ l0::r:=λhm=>hn (List.mem_append_left _ hm)
      rcases List.mem_append.mp hx with hx | hx
      ·exact h.lt x hx y hyd hyn
      ·rw [List.mem_singleton.mp hx]
       have hl:=h.lt l0 hl0 y hyd hyn
       have hyb:=hbd y hyd
       have e1:tops p*bots y*bots l0 < tops y*bots p*bots l0:=by
        rw [Int.mul_right_comm,ceq,Int.mul_right_comm (tops l0),Int.mul_right_comm (tops y)]
        exact Int.mul_lt_mul_of_pos_right hl hp
       exact Int.lt_of_mul_lt_mul_right e1 (by omega)
theorem least_of {tops bots:Nat->Int}{ps:List Nat} (hb:∀ x ∈ ps,0 < bots x) (hnd:ps.Nodup):Least tops bots ps (leastR tops bots ps []):=by
 have:=leastR_ok (tops:=tops) (bots:=bots) ps [] [] (by simpa using hb) (by simpa using hnd) ⟨λh=>absurd rfl h,λx hx=>(nomatch hx),λ_=>List.nodup_nil,λx hx=>(nomatch hx),λx hx=>(nomatch hx)⟩
 simpa using this
noncomputable def leaveL (W:Nat->Nat->Int) (bots:Nat->Int):List Nat->List Nat->List Nat
 | [],ps=>ps
 | s::ss,ps=>if ps.length < 2 then ps else leaveL W bots ss (leastR (W s) bots ps [])
structure Lv (W:Nat->Nat->Int) (bots:Nat->Int) (C:List Nat) (s:Nat) (ps:List Nat):Prop where
 ne:ps≠[]
 nd:ps.Nodup
 sub:∀ x ∈ ps,x ∈ C
 eq:∀ x ∈ ps,∀ y ∈ ps,∀ l,l < s->bots x*W l y - bots y*W l x=0
 lt:∀ x ∈ ps,∀ y ∈ C,y ∉ ps->lexP s λl=>bots x*W l y - bots y*W l x
theorem lexP_mono {M N:Nat}{v:Nat->Int} (h:M<=N) (hv:lexP M v):lexP N v:=let ⟨j,h1,h2,h3⟩:=hv;⟨j,by omega,h2,h3⟩
theorem Lv.step {W:Nat->Nat->Int}{bots:Nat->Int}{C ps:List Nat}{s:Nat} (hb:∀ x ∈ C,0 < bots x) (h:Lv W bots C s ps):Lv W bots C (s+1) (leastR (W s) bots ps []):=by
 have L:=least_of (tops:=W s) (bots:=bots) (ps:=ps) (λx hx=>hb x (h.sub x hx)) h.nd
 refine⟨L.ne h.ne,L.nd h.nd,λx hx=>h.sub x (L.sub x hx),λx hx y hy l hl=>?_,λx hx y hy hn=>?_⟩
 ·rcases Nat.lt_or_ge l s with h1 | h1
  ·exact h.eq x (L.sub x hx) y (L.sub y hy) l h1
  ·have:l=s:=by omega
   subst this
   have:=L.eq y hy x hx
   rw [Int.mul_comm (bots x),Int.mul_comm (bots y),this];omega
 ·by_cases hm:y ∈ ps
  ·have hl:=L.lt x hx y hm hn
   refine⟨s,by omega,?_,λl hl'=>h.eq x (L.sub x hx) y hm l hl'⟩
   show 0 < bots x*W s y - bots y*W s x
   rw [Int.mul_comm (bots x),Int.mul_comm (bots y)];omega
  ·exact lexP_mono (by omega) (h.lt x (L.sub x hx) y hy hm)
theorem leaveL_ok {W:Nat->Nat->Int}{bots:Nat->Int}{C:List Nat} (hb:∀ x ∈ C,0 < bots x):∀ (k s:Nat) (ps:List Nat),Lv W bots C s ps->∃ s',s<=s'/\s'<=s+k/\Lv W bots C s' (leaveL W bots ((List.range k).map λj=>s+j) ps)/\(s' < s+k->(leaveL W bots ((List.range k).map λj=>s+j) ps).length < 2):=by
 intro k
 induction k with
 | zero=>intro s ps h;exact⟨s,Nat.le_refl _,Nat.le_refl _,h,λh=>absurd h (by omega)⟩
 | succ k ih=>
  intro s ps h
  have e:(List.range (k+1)).map (λj=>s+j)=s::(List.range k).map λj=>(s+1)+j:=by
   rw [List.range_succ_eq_map,List.map_cons,List.map_map]
   congr 1
   refine List.map_congr_left λj _=>?_
   show s+(j+1)=_
   omega
  rw [e,leaveL]
  by_cases hl:ps.length < 2
  ·rw [if_pos hl]
   exact⟨s,Nat.le_refl _,by omega,h,λ_=>hl⟩
  ·rw [if_neg hl]
   obtain⟨s',h1,h2,h3,h4⟩:=ih (s+1) _ (h.step hb)
   exact⟨s',by omega,by omega,h3,λh=>h4 (by omega)⟩
variable {P:Pb}
theorem leaving_ok {S:Tb} (h:Good P S) (hA:∀ i,i < P.m->∀ t,P.m<=t->P.A (S.kept i) t=0) {e:Nat}{C:List Nat} (hC:∀ i,i ∈ C↔i < P.m/\0 < S.T i e) (hn:C.Nodup) (hne:C≠[]) :
  ∃ r,leaveL (λs i=>LV P S i s) (λi=>S.T i e) ((List.range (P.m+1)).map λj=>0+j) C=[r]/\r < P.m/\0 < S.T r e/\∀ i,i < P.m->i≠r->0 < S.T i e->lexP (P.m+1) λs=>S.T r e*LV P S i s - S.T i e*LV P S r s:=by
 have hb:∀ x ∈ C,0 < S.T x e:=λx hx=>((hC x).mp hx).2
 have h0:Lv (λs i=>LV P S i s) (λi=>S.T i e) C 0 C:=⟨hne,hn,λx hx=>hx,λx _ y _ l hl=>absurd hl (by omega),λx _ y hy hm=>absurd hy hm⟩
 obtain⟨s',h1,h2,h3,h4⟩:=leaveL_ok hb (P.m+1) 0 C h0
 generalize leaveL (λs i=>LV P S i s) (λi=>S.T i e) ((List.range (P.m+1)).map λj=>0+j) C=out at h3 h4
 have hone:out.length < 2:=by
  rcases Nat.lt_or_ge out.length 2 with hl | hl
  ·exact hl
  ·exfalso
   have hs:s'=P.m+1:=by
    rcases Nat.lt_or_ge s' (0+(P.m+1)) with hlt | hge
    ·exact absurd (h4 hlt) (by omega)
    ·omega
   match out,hl,h3 with
   | x::y::r,_,h3=>
    have hx:=(hC x).mp (h3.sub x List.mem_cons_self)
    have hy:=(hC y).mp (h3.sub y (List.mem_cons_of_mem _ List.mem_cons_self))
    have hxy:x≠y:=λe=>by
     have:=(List.pairwise_cons.mp h3.nd).1 y List.mem_cons_self
     exact this e
    refine lines_unlike h hA hy.1 hx.1 (Ne.symm hxy) (a:=S.T x e) (b:=S.T y e) hx.2 λs hs'=>?_
    have:=h3.eq x List.mem_cons_self y (List.mem_cons_of_mem _ List.mem_cons_self) s (by omega)
    omega
 match out,hone,h3 with
 | [],_,h3=>exact absurd rfl h3.ne
 | [r],_,h3=>
  have hr:=(hC r).mp (h3.sub r List.mem_cons_self)
  refine⟨r,rfl,hr.1,hr.2,λi hi hir hT=>?_⟩
  exact lexP_mono (by omega) (h3.lt r List.mem_cons_self i ((hC i).mpr ⟨hi,hT⟩) (by simpa using hir))
end Sx
namespace Sx
variable {P:Pb}
theorem sumN_swap (n m:Nat) (f:Nat->Nat->Int):(sumN n λi=>sumN m λk=>f i k)=sumN m λk=>sumN n λi=>f i k:=by
 induction n with
 | zero=>rw [sumN];exact (sumN_zero m).symm
 | succ n ih=>
  rw [sumN,ih]
  rw [<-sumN_add]
  rfl
theorem sumN_nonneg {n:Nat}{f:Nat->Int} (h:∀ k,k < n->0<=f k):0<=sumN n f:=by
 induction n with
 | zero=>exact Int.le_refl _
 | succ n ih=>rw [sumN];have:=ih λk hk=>h k (by omega);have:=h n (by omega);omega
theorem sumN_append (a b:Nat) (f:Nat->Int):sumN (a+b) f=sumN a f+sumN b λk=>f (a+k):=by
 induction b with
 | zero=>rw [sumN];simp
 | succ b ih=>rw [<-Nat.add_assoc,sumN,ih,sumN];omega
theorem sumN_right (n:Nat) (c:Int) (f:Nat->Int):sumN n (λk=>f k*c)=sumN n f*c:=by
 rw [Int.mul_comm,<-sumN_mul]
 exact sumN_congr λk _=>Int.mul_comm _ _
noncomputable def byName (P:Pb) (S:Tb) (y:Nat->Int) (k:Nat):Int:=sumN P.m λi=>if S.kept i=k then y i else 0
theorem byName_sum (S:Tb) (y:Nat->Int) {N:Nat} (hN:∀ i,i < P.m->S.kept i < N) (f:Nat->Int):(sumN N λk=>byName P S y k*f k)=sumN P.m λi=>y i*f (S.kept i):=by
 have e:(sumN N λk=>byName P S y k*f k)=sumN N λk=>sumN P.m λi=>(if S.kept i=k then y i else 0)*f k:=sumN_congr λk _=>(sumN_right _ _ _).symm
 rw [e,sumN_swap]
 refine sumN_congr λi hi=>?_
 rw [sumN_single (hN i hi) λk _ hne=>by rw [if_neg (Ne.symm hne),Int.zero_mul],if_pos rfl]
theorem byName_nonneg {S:Tb}{y:Nat->Int} (h:∀ i,i < P.m->0<=y i) (k:Nat):0<=byName P S y k:=sumN_nonneg λi hi=>by split;exact h i hi;exact Int.le_refl _
theorem byName_at {S:Tb}{y:Nat->Int} (hinj:∀ i j,i < P.m->j < P.m->S.kept i=S.kept j->i=j) {i:Nat} (hi:i < P.m):byName P S y (S.kept i)=y i:=by
 unfold byName
 rw [sumN_single hi λj hj hne=>if_neg λe=>hne (hinj j i hj hi e),if_pos rfl]
theorem byName_not {S:Tb}{y:Nat->Int}{k:Nat} (h:∀ i,i < P.m->S.kept i≠k):byName P S y k=0:=by
 unfold byName
 rw [sumN_congr (g:=λ_=>0) λi hi=>if_neg (h i hi),sumN_zero]
theorem unit_sum {m:Nat}{v:Vec}{r:Nat} (hr:r < m):(sumN m λk=>v k*unit k r)=v r:=by
 rw [sumN_single hr λk _ hne=>by unfold unit;rw [if_neg (Ne.symm hne),Int.mul_zero]]
 unfold unit
 rw [if_pos rfl,Int.mul_one]
theorem amounts_ok {S:Tb} (h:Good P S) (hn:Named P S) (hT:∀ i,i < P.m->0<=S.T i P.n) {r:Nat} (hr:r < P.m):(sumN P.n λj=>byName P S (λi=>S.T i P.n) j*P.A j r)<=S.p*P.b r:=by
 have e1:=h.eq P.n (Nat.le_refl _) r
 have c1:colV P S P.n=P.b:=by unfold colV;rw [if_neg (Nat.lt_irrefl _)]
 rw [c1] at e1
 have e2:=byName_sum (P:=P) S (λi=>S.T i P.n) (N:=P.n+P.m) hn.bound.2 λk=>P.A k r
 rw [<-e1,sumN_append] at e2
 have e3:(sumN P.m λk=>byName P S (λi=>S.T i P.n) (P.n+k)*P.A (P.n+k) r)=byName P S (λi=>S.T i P.n) (P.n+r):=by
  rw [sumN_congr (g:=λk=>byName P S (λi=>S.T i P.n) (P.n+k)*unit k r) λk hk=>by rw [hn.one k hk]]
  exact unit_sum (v:=λk=>byName P S (λi=>S.T i P.n) (P.n+k)) hr
 have e4:=byName_nonneg (P:=P) (S:=S) (y:=λi=>S.T i P.n) hT (P.n+r)
 omega
theorem gains_amounts {S:Tb} (h:Good P S) (hn:Named P S) (hg:∀ r,r < P.m->P.g (P.n+r)=0):(sumN P.n λj=>byName P S (λi=>S.T i P.n) j*P.g j)=S.G P.n:=by
 have e2:=byName_sum (P:=P) S (λi=>S.T i P.n) (N:=P.n+P.m) hn.bound.2 P.g
 rw [sumN_append,sumN_congr (n:=P.m) (g:=λ_=>0) λk hk=>by rw [hg k hk,Int.mul_zero],sumN_zero,Int.add_zero] at e2
 rw [e2,h.goal P.n (Nat.le_refl _)]
 have:gainC P S P.n=0:=by unfold gainC;rw [if_neg (Nat.lt_irrefl _)]
 rw [this,Int.mul_zero,Int.sub_zero]
 exact sumN_congr λi _=>Int.mul_comm _ _
theorem det_by_units {S:Tb}{v:Vec} (hv:∀ t,P.m<=t->v t=0) {i:Nat} (hi:i < P.m):det P.m (upd (basis P S) i v)=sumN P.m λs=>v s*LV P S i (s+1):=by
 have e:v=λt=>sumN P.m λs=>v s*unit s t:=by
  funext t
  by_cases ht:t < P.m
  ·exact (unit_sum (v:=v) ht).symm
  ·rw [sumN_congr (g:=λ_=>0) λs hs'=>by unfold unit;rw [if_neg (by omega),Int.mul_zero],sumN_zero]
   exact hv t (by omega)
 have e2:=det_sum (m:=P.m) (basis P S) hi (λs=>v s) unit P.m
 rw [<-e] at e2
 rw [e2]
 refine sumN_congr λs hs'=>?_
 unfold LV XV
 rw [if_neg (by omega),Nat.add_sub_cancel]
theorem prices_col {S:Tb}{v:Vec} (hv:∀ t,P.m<=t->v t=0):(sumN P.m λr=>v r*ZV P S (r+1))=sumN P.m λi=>P.g (S.kept i)*det P.m (upd (basis P S) i v):=by
 have e:(sumN P.m λr=>v r*ZV P S (r+1))=sumN P.m λr=>sumN P.m λi=>P.g (S.kept i)*(v r*LV P S i (r+1)):=sumN_congr λr _=>by
  unfold ZV
  rw [<-sumN_mul]
  exact sumN_congr λi _=>by rw [Int.mul_left_comm]
 rw [e,sumN_swap]
 refine sumN_congr λi hi=>?_
 rw [sumN_mul,det_by_units hv hi]
theorem prices_ok {S:Tb} (h:Good P S) (hn:Named P S) (hA:∀ k,k < P.n+P.m->∀ t,P.m<=t->P.A k t=0) (hG:∀ c,c < P.n->0<=S.G c) {j:Nat} (hj:j < P.n):S.p*P.g j<=sumN P.m λr=>P.A j r*ZV P S (r+1):=by
 rw [prices_col (hA j (by omega))]
 rcases hn.all j (by omega) with⟨c,hc,e⟩ | ⟨i,hi,e⟩
 ·have e1:=h.goal c (by omega)
  have g1:gainC P S c=P.g j:=by unfold gainC;rw [if_pos hc,e]
  have c1:colV P S c=P.A j:=by unfold colV;rw [if_pos hc,e]
  have e2:(sumN P.m λi=>P.g (S.kept i)*det P.m (upd (basis P S) i (P.A j)))=sumN P.m λi=>P.g (S.kept i)*S.T i c:=sumN_congr λi hi=>by rw [<-c1,<-h.entry (by omega) hi]
  rw [g1] at e1
  rw [e2]
  have:=hG c hc
  omega
 ·rw [sumN_single hi λk hk hne=>?_]
  ·have:=det_kept h hi hi
   rw [if_pos rfl] at this
   have e2:det P.m (upd (basis P S) i (P.A j))=S.p:=by rw [<-e];exact this
   rw [e2,e,Int.mul_comm]
   exact Int.le_refl _
  ·have:=det_kept h hk hi
   rw [if_neg hne] at this
   have e2:det P.m (upd (basis P S) k (P.A j))=0:=by rw [<-e];exact this
   rw [e2,Int.mul_zero]
theorem bounds_prices {S:Tb} (h:Good P S) (hb:∀ t,P.m<=t->P.b t=0):(sumN P.m λr=>P.b r*ZV P S (r+1))=S.G P.n:=by
 have c1:colV P S P.n=P.b:=by unfold colV;rw [if_neg (Nat.lt_irrefl _)]
 have:gainC P S P.n=0:=by unfold gainC;rw [if_neg (Nat.lt_irrefl _)]
 rw [prices_col hb,h.goal P.n (Nat.le_refl _),this,Int.mul_zero,Int.sub_zero]
 exact sumN_congr λi hi=>by rw [h.entry (Nat.le_refl _) hi,c1]
theorem price_free {S:Tb} (h:Good P S) (hn:Named P S) (hg:∀ r,r < P.m->P.g (P.n+r)=0) {r c:Nat} (hr:r < P.m) (hc:c < P.n) (e:S.free c=P.n+r):ZV P S (r+1)=S.G c:=by
 have g1:gainC P S c=0:=by unfold gainC;rw [if_pos hc,e,hg r hr]
 have c1:colV P S c=unit r:=by unfold colV;rw [if_pos hc,e,hn.one r hr]
 rw [h.goal c (by omega),g1,Int.mul_zero,Int.sub_zero]
 unfold ZV
 refine sumN_congr λi hi=>?_
 rw [h.entry (by omega) hi,c1]
 unfold LV XV
 rw [if_neg (by omega),Nat.add_sub_cancel]
theorem price_kept {S:Tb} (h:Good P S) (hn:Named P S) (hg:∀ r,r < P.m->P.g (P.n+r)=0) {r j:Nat} (hr:r < P.m) (hj:j < P.m) (e:S.kept j=P.n+r):ZV P S (r+1)=0:=by
 unfold ZV
 rw [sumN_single hj λk hk hne=>?_]
 ·rw [e,hg r hr,Int.zero_mul]
 ·have:=det_kept h hk hj
  rw [if_neg hne] at this
  have e2:LV P S k (r+1)=0:=by
   unfold LV XV
   rw [if_neg (by omega),Nat.add_sub_cancel,<-hn.one r hr,<-e]
   exact this
  rw [e2,Int.mul_zero]
noncomputable def wayN (P:Pb) (S:Tb) (e k:Nat):Int:=byName P S (λi=>- S.T i e) k+if S.free e=k then S.p else 0
theorem way_sum {S:Tb} (hn:Named P S) {e:Nat} (he:e < P.n) (f:Nat->Int):(sumN (P.n+P.m) λk=>wayN P S e k*f k)=S.p*f (S.free e) - sumN P.m λi=>S.T i e*f (S.kept i):=by
 have e1:=byName_sum (P:=P) S (λi=>- S.T i e) (N:=P.n+P.m) hn.bound.2 f
 have e2:(sumN (P.n+P.m) λk=>(if S.free e=k then S.p else 0)*f k)=S.p*f (S.free e):=by
  rw [sumN_single (hn.bound.1 e he) λk _ hne=>by rw [if_neg (Ne.symm hne),Int.zero_mul],if_pos rfl]
 have e3:(sumN (P.n+P.m) λk=>wayN P S e k*f k)=sumN (P.n+P.m) λk=>byName P S (λi=>- S.T i e) k*f k+(if S.free e=k then S.p else 0)*f k:=sumN_congr λk _=>by unfold wayN;rw [Int.add_mul]
 rw [e3,sumN_add,e1,e2]
 have e4:(sumN P.m λi=>- S.T i e*f (S.kept i))=- sumN P.m λi=>S.T i e*f (S.kept i):=by
  have:(sumN P.m λi=>- S.T i e*f (S.kept i))=sumN P.m λi=>(-1)*(S.T i e*f (S.kept i)):=sumN_congr λi _=>by rw [Int.neg_mul,Int.neg_mul,Int.one_mul]
  rw [this,sumN_mul];omega
 rw [e4];omega
theorem way_nonneg {S:Tb} (h:Good P S) {e:Nat} (ht:∀ i,i < P.m->S.T i e<=0) (k:Nat):0<=wayN P S e k:=by
 unfold wayN
 have:=byName_nonneg (P:=P) (S:=S) (y:=λi=>- S.T i e) (λi hi=>by have:=ht i hi;show 0<=- S.T i e;omega) k
 have:=h.pos
 split<;>omega
theorem way_rows {S:Tb} (h:Good P S) (hn:Named P S) {e:Nat} (he:e < P.n) (ht:∀ i,i < P.m->S.T i e<=0) {r:Nat} (hr:r < P.m):(sumN P.n λk=>wayN P S e k*P.A k r)<=0:=by
 have e1:=way_sum (S:=S) hn he λk=>P.A k r
 have e2:=h.eq e (by omega) r
 have c1:colV P S e=P.A (S.free e):=by unfold colV;rw [if_pos he]
 rw [c1] at e2
 rw [e2,Int.sub_self,sumN_append] at e1
 have e3:(sumN P.m λk=>wayN P S e (P.n+k)*P.A (P.n+k) r)=wayN P S e (P.n+r):=by
  rw [sumN_congr (g:=λk=>wayN P S e (P.n+k)*unit k r) λk hk=>by rw [hn.one k hk]]
  exact unit_sum (v:=λk=>wayN P S e (P.n+k)) hr
 have:=way_nonneg h ht (P.n+r)
 omega
theorem way_gains {S:Tb} (h:Good P S) (hn:Named P S) (hg:∀ r,r < P.m->P.g (P.n+r)=0) {e:Nat} (he:e < P.n) (hG:S.G e < 0):0 < sumN P.n λk=>wayN P S e k*P.g k:=by
 have e1:=way_sum (S:=S) hn he P.g
 rw [sumN_append,sumN_congr (n:=P.m) (g:=λ_=>0) λk hk=>by rw [hg k hk,Int.mul_zero],sumN_zero,Int.add_zero] at e1
 have e2:=h.goal e (by omega)
 have g1:gainC P S e=P.g (S.free e):=by unfold gainC;rw [if_pos he]
 rw [g1] at e2
 have e3:(sumN P.m λi=>S.T i e*P.g (S.kept i))=sumN P.m λi=>P.g (S.kept i)*S.T i e:=sumN_congr λi _=>Int.mul_comm _ _
 rw [e1,e3]
 omega
noncomputable def tb0 (P:Pb) (T:Nat->Nat->Int) (G:Nat->Int):Tb:=⟨1,λi=>P.n+i,λc=>c,T,G⟩
theorem good0 {T:Nat->Nat->Int}{G:Nat->Int} (h1:∀ r,r < P.m->P.A (P.n+r)=unit r) (hA:∀ k,k < P.n->∀ t,P.m<=t->P.A k t=0) (hb:∀ t,P.m<=t->P.b t=0) (hg:∀ r,r < P.m->P.g (P.n+r)=0)
  (hT:∀ i c,i < P.m->c < P.n->T i c=P.A c i) (hL:∀ i,i < P.m->T i P.n=P.b i) (hG:∀ c,c < P.n->G c=- P.g c) (hGn:G P.n=0):Good P (tb0 P T G)/\Named P (tb0 P T G)/\((∀ t,t < P.m->0<=P.b t)->Fe P (tb0 P T G)):=by
 have hbas:∀ i,i < P.m->basis P (tb0 P T G) i=unit i:=λi hi=>h1 i hi
 have hdet:det P.m (basis P (tb0 P T G))=1:=by
  rw [det_congr P.m (E:=unit) λk t hk _=>by rw [hbas k hk],det_unit]
 have heq:∀ c,c<=P.n->∀ t,(1:Int)*colV P (tb0 P T G) c t=sumN P.m λi=>T i c*P.A (P.n+i) t:=λc hc t=>by
  rw [Int.one_mul,sumN_congr (g:=λi=>T i c*unit i t) λi hi=>by rw [h1 i hi]]
  have hcol:∀ t',P.m<=t'->colV P (tb0 P T G) c t'=0:=λt' ht'=>by
   unfold colV
   by_cases hcn:c < P.n
   ·rw [if_pos hcn];exact hA c hcn t' ht'
   ·rw [if_neg hcn];exact hb t' ht'
  by_cases ht:t < P.m
  ·rw [unit_sum (v:=λi=>T i c) ht]
   unfold colV
   by_cases hcn:c < P.n
   ·rw [if_pos hcn,hT t c ht hcn];rfl
   ·have:c=P.n:=by omega
    subst this
    rw [if_neg hcn,hL t ht]
  ·rw [hcol t (by omega),sumN_congr (g:=λ_=>0) λi hi=>by unfold unit;rw [if_neg (by omega),Int.mul_zero],sumN_zero]
 have hgood:Good P (tb0 P T G):=by
  refine⟨by show (0:Int) < 1;decide,hdet.symm,heq,λc hc=>?_⟩
  show G c=(sumN P.m λi=>P.g (P.n+i)*T i c) - 1*gainC P (tb0 P T G) c
  rw [sumN_congr (g:=λ_=>0) λi hi=>by rw [hg i hi,Int.zero_mul],sumN_zero]
  unfold gainC
  by_cases hcn:c < P.n
  ·rw [if_pos hcn,hG c hcn]
   show - P.g c=0 - 1*P.g c
   omega
  ·have:c=P.n:=by omega
   subst this
   rw [if_neg hcn,hGn];rfl
 refine⟨hgood,⟨h1,λk hk=>?_,λc hc=>by show c < _;omega,λi hi=>by show P.n+i < _;omega⟩,λhbn i hi=>?_⟩
 ·by_cases hkn:k < P.n
  ·exact .inl ⟨k,hkn,rfl⟩
  ·exact .inr ⟨k - P.n,by omega,by show P.n+(k - P.n)=k;omega⟩
 ·have l0:LV P (tb0 P T G) i 0=P.b i:=by
   have e:=hgood.entry (c:=P.n) (Nat.le_refl _) hi
   have c1:colV P (tb0 P T G) P.n=P.b:=by unfold colV;rw [if_neg (Nat.lt_irrefl _)]
   rw [c1] at e
   unfold LV XV
   rw [if_pos rfl,<-e]
   exact hL i hi
  have ls:∀ s,s < P.m->LV P (tb0 P T G) i (s+1)=if i=s then 1 else 0:=λs hs=>by
   have:=det_kept hgood hi hs
   unfold LV XV
   rw [if_neg (by omega),Nat.add_sub_cancel,<-hbas s hs]
   exact this
  have hb0:=hbn i hi
  rcases Int.lt_or_eq_of_le hb0 with hp | hp
  ·exact⟨0,by omega,by rw [l0];exact hp,λl hl=>absurd hl (by omega)⟩
  ·refine⟨i+1,by omega,by rw [ls i hi,if_pos rfl];decide,λl hl=>?_⟩
   cases l with
   | zero=>rw [l0,<-hp]
   | succ l=>rw [ls l (by omega),if_neg (by omega)]
end Sx
set_option maxHeartbeats 1000000
namespace Own
open PySem L2
open Sx (Pb Tb Good Named Fe LV ZV piv lexP leastR leaveL sumN unit colV basis)
theorem lC {e:Ef}{z:Int}{m:Nat}{env:Ev}{st s:Sto} (he:e env st=some (.d (.int z),s)) (h0:0<=z) (h1:z<=1000) (hm:z.toNat=m):dk (aa e ag) env st=some (dE 0 m,s):=by
 have hb:-(2 ^ 62)<=z/\z < 2 ^ 62:=⟨Int.le_trans (by decide) h0,Int.lt_of_le_of_lt h1 (by decide)⟩
 have h2:=ac (b:=ag) he rfl
 simp only [dk,h2,Option.bind_some,hb,and_self,if_true,hm]
theorem cX {f:Ef}{env:Ev}{st s:Sto}{ds:List D} (h:f env st=some (.d (.lst ds),s)):aX f env st=some (ds,s):=by
 simp only [aX,h,Option.bind_some]
theorem gw {f:Ef}{env:Ev}{st s:Sto}{ds:List D} (h:f env st=some (.d (.tup ds),s)):aX f env st=some (ds,s):=by
 simp only [aX,h,Option.bind_some]
theorem wz {c:Tf}{a b:Ef}{env:Ev}{st s:Sto}{r:Option (W×Sto)} (h:c env st=some (true,s)) (ha:a env s=r):mr c a b env st=r:=by
 simp only [mr,h,Option.bind_some,if_true,ha]
theorem Ag {c:Tf}{a b:Ef}{env:Ev}{st s:Sto}{r:Option (W×Sto)} (h:c env st=some (false,s)) (hb:b env s=r):mr c a b env st=r:=by
 simp only [mr,h,Option.bind_some,Bool.false_eq_true,if_false,hb]
theorem yT (s:Sto) (ns:List Int):qp s [.d (.lst (ns.map D.int))]=some (.int ns.sum):=by
 show (jO (ns.map D.int)).map (λns=>D.int ns.sum)=_
 rw [kD];rfl
theorem oP (s:Sto) (a b:Int):dEq s (.d (.int a)) (.d (.int b))=some (.bl (a==b)):=by
 show ((eqK (.fl (.int a)) (.fl (.int b))).map λk=>D.bl k)=_
 rfl
theorem wL (s:Sto) (a b:Str):dEq s (.d (.str a)) (.d (.str b))=some (.bl (a==b)):=by
 show ((eqK (.fl (.str a)) (.fl (.str b))).map λk=>D.bl k)=_
 rfl
theorem iS (s:Sto) {a b:List D} (h:a.length+b.length<=1000000):bH s (.d (.lst a)) (.d (.lst b))=some (.lst (a++b)):=if_pos h
theorem zK (s:Sto) {a b:List D} (h:a.length+b.length<=1000000):bH s (.d (.tup a)) (.d (.tup b))=some (.tup (a++b)):=if_pos h
noncomputable def mpI (n:Nat) (f:Nat->Int):List D:=(List.range n).map λk=>D.int (f k)
noncomputable def lnD (n:Nat) (T:Nat->Nat->Int) (i:Nat):D:=.lst (mpI (n+1) (T i))
noncomputable def aT (m n:Nat) (T:Nat->Nat->Int):List D:=(List.range m).map (lnD n T)
noncomputable def nI (f:Nat->Nat):Nat->Int:=λk=>((f k:Nat):Int)
abbrev obN:List Str:=["amounts","lines","goal","part","free","kept"]
noncomputable def obD (P:Pb) (S:Tb):D:=.ob obN [.int (P.n:Int),.lst (aT P.m P.n S.T),.lst (mpI (P.n+1) S.G),.int S.p,.lst (mpI P.n (nI S.free)),.lst (mpI P.m (nI S.kept))]
theorem bQ (n:Nat) (f:Nat->Int):(mpI n f).length=n:=by unfold mpI;rw [List.length_map,List.length_range]
theorem eB (m n:Nat) (T:Nat->Nat->Int):(aT m n T).length=m:=by unfold aT;rw [List.length_map,List.length_range]
theorem dN {n:Nat}{f:Nat->Int}{k:Nat} (h:k < n):(mpI n f)[k]?=some (.int (f k)):=by
 unfold mpI;rw [List.getElem?_map,List.getElem?_range h];rfl
theorem nG {m n:Nat}{T:Nat->Nat->Int}{k:Nat} (h:k < m):(aT m n T)[k]?=some (lnD n T k):=by
 unfold aT;rw [List.getElem?_map,List.getElem?_range h];rfl
theorem cD {n:Nat}{f g:Nat->Int} (h:∀ k,k < n->f k=g k):mpI n f=mpI n g:=by
 unfold mpI
 refine List.map_congr_left λk hk=>?_
 rw [h k (List.mem_range.mp hk)]
theorem qM (n:Nat) (f:Nat->Int):mpI (n+1) f=mpI n f++[.int (f n)]:=by
 unfold mpI;rw [List.range_succ,List.map_append];rfl
theorem cL (n:Nat) (f:Nat->Int):mpI n f=((List.range n).map f).map D.int:=by unfold mpI;rw [List.map_map];rfl
theorem rF (n:Nat) (f:Nat->Int):(mpI n f).all eL=true:=by
 rw [List.all_eq_true]
 intro d hd
 obtain⟨k,_,rfl⟩:=List.mem_map.mp hd
 rfl
theorem i6 {n:Nat}{f:Nat->Int}{k:Nat}{x:Int}:(mpI n f).set k (.int x)=mpI n λj=>if j=k then x else f j:=by
 apply List.ext_getElem?
 intro j
 by_cases hj:j < n
 ·rw [dN hj]
  by_cases e:j=k
  ·subst e;rw [if_pos rfl,List.getElem?_set_self (by rw [bQ];exact hj)]
  ·rw [if_neg e,List.getElem?_set_ne (Ne.symm e),dN hj]
 ·rw [List.getElem?_eq_none (by rw [List.length_set,bQ];lia),List.getElem?_eq_none (by rw [bQ];lia)]
theorem gF (st:Sto) {n:Nat}{f:Nat->Int}{k:Nat} (h:k < n):dIx st (.d (.lst (mpI n f))) (.d (.int (k:Int)))=some (.int (f k)):=dU (dN h)
theorem qV (st:Sto) {m n:Nat}{T:Nat->Nat->Int}{k:Nat} (h:k < m):dIx st (.d (.lst (aT m n T))) (.d (.int (k:Int)))=some (lnD n T k):=dU (nG h)
theorem qC (st:Sto) {n:Nat}{T:Nat->Nat->Int}{i c:Nat} (h:c<=n):dIx st (.d (lnD n T i)) (.d (.int (c:Int)))=some (.int (T i c)):=gF st (by lia)
theorem uK (st:Sto) {n:Nat}{T:Nat->Nat->Int}{i:Nat}:dIx st (.d (lnD n T i)) (.d (.int (-1)))=some (.int (T i n)):=by
 show atI (mpI (n+1) (T i)) (-1)=_
 rw [qM];exact wG _ _
section
variable {P:Pb}{S:Tb}{a:Ef}{env:Ev}{st s:Sto}
theorem dz (h:a env st=some (.d (obD P S),s)):ay "amounts" a env st=some (.d (.int (P.n:Int)),s):=by simp only [ay,h,Option.bind_some,obD];rfl
theorem fj (h:a env st=some (.d (obD P S),s)):ay "lines" a env st=some (.d (.lst (aT P.m P.n S.T)),s):=by simp only [ay,h,Option.bind_some,obD];rfl
theorem mz (h:a env st=some (.d (obD P S),s)):ay "goal" a env st=some (.d (.lst (mpI (P.n+1) S.G)),s):=by simp only [ay,h,Option.bind_some,obD];rfl
theorem mE (h:a env st=some (.d (obD P S),s)):ay "part" a env st=some (.d (.int S.p),s):=by simp only [ay,h,Option.bind_some,obD];rfl
theorem mx (h:a env st=some (.d (obD P S),s)):ay "free" a env st=some (.d (.lst (mpI P.n (nI S.free))),s):=by simp only [ay,h,Option.bind_some,obD];rfl
theorem qq (h:a env st=some (.d (obD P S),s)):ay "kept" a env st=some (.d (.lst (mpI P.m (nI S.kept))),s):=by simp only [ay,h,Option.bind_some,obD];rfl
end
theorem kL {te:Ef}{l:Ev}{st:Sto}{g:Nat->D} (F:Nat->D):∀ {ks:List Nat},(∀ k ∈ ks,te (some (.d (g k))::l) st=some (.d (F k),st))->lcI (.nm 0) bf te (none::l) (ks.map g) st=some (ks.map F,st)
 | [],_=>rfl
 | k::ks,h=>by
  have ih:=kL (te:=te) (l:=l) (st:=st) (g:=g) F (ks:=ks) λx hx=>h x (List.mem_cons_of_mem _ hx)
  have h1:=h k List.mem_cons_self
  rw [List.map_cons,List.map_cons]
  unfold lcI
  rw [show eU (.nm 0) (.d (g k)) (none::l)=some (some (.d (g k))::l) from rfl,Option.bind_some,show bf (some (.d (g k))::l) st=some (true,st) from rfl,Option.bind_some,if_pos rfl,h1,Option.bind_some,ih];rfl
noncomputable def Sm (z:Int):Prop:=z.natAbs < 2 ^ 4000
theorem mulOk {a b:Int} (x y:Nat) (ha:a.natAbs < 2 ^ x) (hb:b.natAbs < 2 ^ y) (h:x+y<=134217728):PySem.IntMulOk a b:=
 PySem.IntMulOk.of_le (PySem.intBits_le_iff.mpr ha) (PySem.intBits_le_iff.mpr hb) h
theorem zU {a b:Int}{x y:Nat} (ha:a.natAbs < 2 ^ x) (hb:b.natAbs < 2 ^ y):(a*b).natAbs < 2 ^ (x+y):=by
 rw [Int.natAbs_mul,Nat.pow_add]
 exact Nat.mul_lt_mul'' ha hb
theorem Sm.mulOk {a b:Int} (ha:Sm a) (hb:Sm b):PySem.IntMulOk a b:=Own.mulOk 4000 4000 ha hb (by decide)
theorem df (st:Sto) {a b:Int} (h:PySem.IntMulOk a b):bM st (.d (.int a)) (.d (.int b))=some (.int (a*b)):=if_pos h
theorem Sm.log {a:Int} (h:Sm a):a.natAbs.log2 < 9000:=by
 by_cases h0:a.natAbs=0
 ·rw [h0];decide
 ·have:=(Nat.log2_lt h0).mpr h
  lia
theorem tP (st:Sto) {a b:Int} (h0:0 < b) (h:Sm b):ny st (.d (.int a)) (.d (.int b))=some (.int (a / b)):=if_pos ⟨h0,h.log⟩
end Own
set_option maxHeartbeats 1000000
namespace Own
open PySem L2
open Sx (Pb Tb Good Named Fe LV ZV piv lexP leastR leaveL sumN unit colV basis)
theorem ig {a b:Sf}{env:Ev}{st s:Sto}{w:W} (h:a env st=some (.rt w s)):aq a b env st=some (.rt w s):=by simp only [aq,h,Option.bind_some]
theorem ar {a b:Sf}{env e:Ev}{st s:Sto}{r:Option Fl} (h:a env st=some (.nx e s)) (hb:b e s=r):aq a b env st=r:=by simp only [aq,h,Option.bind_some,hb]
theorem gf {c:Tf}{a b:Sf}{env:Ev}{st s:Sto}{r:Option Fl} (h:c env st=some (true,s)) (ha:a env s=r):ce c a b env st=r:=by simp only [ce,h,Option.bind_some,if_true,ha]
theorem dy {c:Tf}{a b:Sf}{env:Ev}{st s:Sto}{r:Option Fl} (h:c env st=some (false,s)) (hb:b env s=r):ce c a b env st=r:=by simp only [ce,h,Option.bind_some,Bool.false_eq_true,if_false,hb]
theorem BB {o a:Ef}{env:Ev}{st s1 s2:Sto}{n:Nat}{d:D}{ds0 ds:List D} (ho:o env st=some (.h n,s1)) (ha:a env s1=some (.d d,s2)) (h0:lg s1 n=some ds0) (hg:lg s2 n=some ds) (hz:ds.length < 1000000):ki (lZ ik o (aa a ag)) env st=some (.nx env (s2.set n (.l (ds++[d])))):=by
 have hc:=ac (b:=ag) ha rfl
 simp only [ki,lZ,ho,hc,h0,hg,ik,hz,if_true,Option.bind_some,Option.map_some]
theorem qG (st:Sto) (a b:C):(st++[a]).set st.length b=st++[b]:=by
 rw [List.set_append];simp
structure Okt (P:Pb) (S:Tb):Prop where
 good:Good P S
 named:Named P S
 m64:P.m<=100
 n64:P.n<=100
 sT:∀ i c,i < P.m->c<=P.n->Sm (S.T i c)
 sL:∀ i s,i < P.m->s<=P.m->Sm (LV P S i s)
 sG:∀ c,c<=P.n->Sm (S.G c)
 sp:Sm S.p
noncomputable def psD (ps:List Nat):List D:=ps.map λk=>D.int ((k:Nat):Int)
theorem uE (ps:List Nat):(psD ps).length=ps.length:=by unfold psD;rw [List.length_map]
theorem mC {n k:Nat}{b:Sf}{ws:List W}{st s:Sto}{h:Nat}{ds:List D} (hl:ws.length=k) (hb:b (ws.map some++List.replicate (n - k) none) st=some (.rt (.h h) s)) (hh:st.length<=h) (hd:lg s h=some ds):j7 n k b ws st=some (.d (.lst ds),s.take st.length):=by
 simp only [j7,hl,if_true,hb,Option.bind_some,vX,if_neg (Nat.not_lt.mpr hh),hd,Option.map_some]
theorem uB {st u:Sto}{h:Nat}{c:C} (hh:st.length<=h):(st++u).set h c=st++u.set (h - st.length) c:=by
 rw [List.set_append_right _ _ hh]
theorem zL {s:Sto}{h:Nat}{ds es:List D} (hg:lg s h=some ds):lg (s.set h (.l es)) h=some es:=by
 have:=(List.getElem?_eq_some_iff.mp (uv hg)).1
 unfold lg
 rw [List.getElem?_set_self this]
theorem kA (s:Sto) (ds:List D):lg (s++[.l ds]) s.length=some ds:=by unfold lg;simp
theorem yP (s:Sto) {h:Nat}{ds:List D} (hg:lg s h=some ds):cG s (.h h)=some (!ds.isEmpty):=by
 show (i7 s (.h h)).map _=_
 show (lg s h).map _=_
 rw [hg];rfl
theorem Bx (s:Sto) {h:Nat}{d:D}{ds:List D} (hg:lg s h=some (d::ds)):dIx s (.h h) (.d (.int 0))=some d:=by
 show (lg s h).bind (λds=>atI ds 0)=_
 rw [hg,Option.bind_some,wP]
theorem qU (s:Sto) (a b:Int):dLt s (.d (.int a)) (.d (.int b))=some (.bl (decide (a < b))):=rfl
theorem tq (s:Sto) (a b:Int):dGt s (.d (.int a)) (.d (.int b))=some (.bl (decide (a > b))):=rfl
theorem xR (s:Sto) (a b:Int):dGe s (.d (.int a)) (.d (.int b))=some (.bl (decide (a>=b))):=rfl
section
variable {tops bots:Nat->Int}{m:Nat}{st:Sto}{x0:Option W}
theorem ld (ht:∀ i,i < m->Sm (tops i)) (hb:∀ i,i < m->Sm (bots i)):∀ (ps least:List Nat) (u:Sto) (h:Nat) (o4 o5 o6:Option W),(∀ x ∈ ps,x < m)->(∀ x ∈ least,x < m)->lg (st++u) h=some (psD least)->st.length<=h->least.length+ps.length<=1000->
  ∃ u' h' o4' o5' o6',dR (.nm 4) bF (psD ps) [x0,some (.d (.lst (mpI m tops))),some (.d (.lst (mpI m bots))),some (.h h),o4,o5,o6] (st++u)=some (.nx [x0,some (.d (.lst (mpI m tops))),some (.d (.lst (mpI m bots))),some (.h h'),o4',o5',o6'] (st++u'))/\
   lg (st++u') h'=some (psD (leastR tops bots ps least))/\st.length<=h'
 | [],least,u,h,o4,o5,o6,_,_,hg,hh,_=>⟨u,h,o4,o5,o6,rfl,by rw [leastR];exact hg,hh⟩
 | p::ps,least,u,h,o4,o5,o6,hp,hl,hg,hh,hz=>by
  have hp0:p < m:=hp p List.mem_cons_self
  have hps:∀ x ∈ ps,x < m:=λx hx=>hp x (List.mem_cons_of_mem _ hx)
  rw [List.length_cons] at hz
  have hs:∀ o5 o6 hh',eU (.nm 4) (.d (.int ((p:Nat):Int))) [x0,some (.d (.lst (mpI m tops))),some (.d (.lst (mpI m bots))),some (.h hh'),o4,o5,o6]=some [x0,some (.d (.lst (mpI m tops))),some (.d (.lst (mpI m bots))),some (.h hh'),some (.d (.int ((p:Nat):Int))),o5,o6]:=λ_ _ _=>rfl
  have app:∀ (u:Sto) (h:Nat) (ls:List Nat) (o5 o6:Option W),lg (st++u) h=some (psD ls)->st.length<=h->ls.length < 1000->ki (lZ ik (iV 3) (aa (iV 4) ag)) [x0,some (.d (.lst (mpI m tops))),some (.d (.lst (mpI m bots))),some (.h h),some (.d (.int ((p:Nat):Int))),o5,o6] (st++u)=some (.nx [x0,some (.d (.lst (mpI m tops))),some (.d (.lst (mpI m bots))),some (.h h),some (.d (.int ((p:Nat):Int))),o5,o6] (st++u.set (h - st.length) (.l (psD (ls++[p])))))/\lg (st++u.set (h - st.length) (.l (psD (ls++[p])))) h=some (psD (ls++[p])):=λu h ls o5 o6 hg hh hl=>by
   have e:=BB (o:=iV 3) (a:=iV 4) (env:=[x0,some (.d (.lst (mpI m tops))),some (.d (.lst (mpI m bots))),some (.h h),some (.d (.int ((p:Nat):Int))),o5,o6]) (st:=st++u) (n:=h) (d:=.int ((p:Nat):Int)) rfl rfl hg hg (by rw [uE];lia)
   have e2:psD ls++[.int ((p:Nat):Int)]=psD (ls++[p]):=by unfold psD;rw [List.map_append];rfl
   rw [e2,uB hh] at e
   refine⟨e,?_⟩
   rw [<-uB hh]
   exact zL hg
  cases least with
  | nil=>
   have t0:cE cG (iV 3) [x0,some (.d (.lst (mpI m tops))),some (.d (.lst (mpI m bots))),some (.h h),some (.d (.int ((p:Nat):Int))),o5,o6] (st++u)=some (false,st++u):=by
    have:=yP (st++u) hg
    simp only [cE,show iV 3 [x0,some (.d (.lst (mpI m tops))),some (.d (.lst (mpI m bots))),some (.h h),some (.d (.int ((p:Nat):Int))),o5,o6] (st++u)=some (.h h,st++u) from rfl,Option.bind_some,this];rfl
   obtain⟨a1,a2⟩:=app u h [] o5 o6 hg hh (by decide)
   obtain⟨u',h',o4',o5',o6',i1,i2,i3⟩:=ld ht hb ps [p] _ h (some (.d (.int ((p:Nat):Int)))) o5 o6 hps (λx hx=>by rw [List.mem_singleton.mp hx];exact hp0) a2 hh (by simp at hz ⊢;lia)
   refine⟨u',h',o4',o5',o6',?_,by rw [leastR];exact i2,i3⟩
   have hb':bF [x0,some (.d (.lst (mpI m tops))),some (.d (.lst (mpI m bots))),some (.h h),some (.d (.int ((p:Nat):Int))),o5,o6] (st++u)=_:=ar (dy t0 rfl) a1
   show dR (.nm 4) bF (.int ((p:Nat):Int)::psD ps) _ _=_
   simp only [dR,hs,Option.bind_some,hb']
   exact i1
  | cons l0 r=>
   have hl0:l0 < m:=hl l0 List.mem_cons_self
   have t0:cE cG (iV 3) [x0,some (.d (.lst (mpI m tops))),some (.d (.lst (mpI m bots))),some (.h h),some (.d (.int ((p:Nat):Int))),o5,o6] (st++u)=some (true,st++u):=by
    have:=yP (st++u) hg
    simp only [cE,show iV 3 [x0,some (.d (.lst (mpI m tops))),some (.d (.lst (mpI m bots))),some (.h h),some (.d (.int ((p:Nat):Int))),o5,o6] (st++u)=some (.h h,st++u) from rfl,Option.bind_some,this];rfl
   have i0:∀ o5 o6,iOp dIx (iV 3) (iC (.int 0)) [x0,some (.d (.lst (mpI m tops))),some (.d (.lst (mpI m bots))),some (.h h),some (.d (.int ((p:Nat):Int))),o5,o6] (st++u)=some (.d (.int ((l0:Nat):Int)),st++u):=λ_ _=>aj rfl rfl (Bx (st++u) hg)
   have s5:aG (.nm 5) (iOp bM (iOp dIx (iV 1) (iV 4)) (iOp dIx (iV 2) (iOp dIx (iV 3) (iC (.int 0))))) [x0,some (.d (.lst (mpI m tops))),some (.d (.lst (mpI m bots))),some (.h h),some (.d (.int ((p:Nat):Int))),o5,o6] (st++u)=some (.nx [x0,some (.d (.lst (mpI m tops))),some (.d (.lst (mpI m bots))),some (.h h),some (.d (.int ((p:Nat):Int))),some (.d (.int (tops p*bots l0))),o6] (st++u)):=
    az (aj (aj rfl rfl (gF _ hp0)) (aj rfl (i0 _ _) (gF _ hl0)) (df _ (Sm.mulOk (ht p hp0) (hb l0 hl0))))
   have s6:aG (.nm 6) (iOp bM (iOp dIx (iV 1) (iOp dIx (iV 3) (iC (.int 0)))) (iOp dIx (iV 2) (iV 4))) [x0,some (.d (.lst (mpI m tops))),some (.d (.lst (mpI m bots))),some (.h h),some (.d (.int ((p:Nat):Int))),some (.d (.int (tops p*bots l0))),o6] (st++u)=some (.nx [x0,some (.d (.lst (mpI m tops))),some (.d (.lst (mpI m bots))),some (.h h),some (.d (.int ((p:Nat):Int))),some (.d (.int (tops p*bots l0))),some (.d (.int (tops l0*bots p)))] (st++u)):=
    az (aj (aj rfl (i0 _ _) (gF _ hl0)) (aj rfl rfl (gF _ hp0)) (df _ (Sm.mulOk (ht l0 hl0) (hb p hp0))))
   generalize hM:tops p*bots l0=M at *
   generalize hB:tops l0*bots p=B at *
   have tg:bg dGt (iV 5) (iV 6) [x0,some (.d (.lst (mpI m tops))),some (.d (.lst (mpI m bots))),some (.h h),some (.d (.int ((p:Nat):Int))),some (.d (.int M)),some (.d (.int B))] (st++u)=some (decide (M > B),st++u):=aY rfl rfl (tq _ _ _)
   have tl:bg dLt (iV 5) (iV 6) [x0,some (.d (.lst (mpI m tops))),some (.d (.lst (mpI m bots))),some (.h h),some (.d (.int ((p:Nat):Int))),some (.d (.int M)),some (.d (.int B))] (st++u)=some (decide (M < B),st++u):=aY rfl rfl (qU _ _ _)
   by_cases c1:M > B
   ·rw [decide_eq_true c1] at tg
    obtain⟨u',h',o4',o5',o6',i1,i2,i3⟩:=ld ht hb ps (l0::r) u h (some (.d (.int ((p:Nat):Int)))) (some (.d (.int M))) (some (.d (.int B))) hps hl hg hh (by lia)
    refine⟨u',h',o4',o5',o6',?_,by rw [leastR,hM,hB,if_pos c1];exact i2,i3⟩
    have hb':bF [x0,some (.d (.lst (mpI m tops))),some (.d (.lst (mpI m bots))),some (.h h),some (.d (.int ((p:Nat):Int))),o5,o6] (st++u)=some (.ct [x0,some (.d (.lst (mpI m tops))),some (.d (.lst (mpI m bots))),some (.h h),some (.d (.int ((p:Nat):Int))),some (.d (.int M)),some (.d (.int B))] (st++u)):=by
     have inner:ce (cE cG (iV 3)) (aq (aG (.nm 5) (iOp bM (iOp dIx (iV 1) (iV 4)) (iOp dIx (iV 2) (iOp dIx (iV 3) (iC (.int 0)))))) (aq (aG (.nm 6) (iOp bM (iOp dIx (iV 1) (iOp dIx (iV 3) (iC (.int 0)))) (iOp dIx (iV 2) (iV 4)))) (aq (ce (bg dGt (iV 5) (iV 6)) oR bj) (ce (bg dLt (iV 5) (iV 6)) (aG (.nm 3) (ft (ck ag))) bj)))) bj [x0,some (.d (.lst (mpI m tops))),some (.d (.lst (mpI m bots))),some (.h h),some (.d (.int ((p:Nat):Int))),o5,o6] (st++u)=some (.ct [x0,some (.d (.lst (mpI m tops))),some (.d (.lst (mpI m bots))),some (.h h),some (.d (.int ((p:Nat):Int))),some (.d (.int M)),some (.d (.int B))] (st++u)):=by
      refine gf t0 (ar s5 (ar s6 ?_))
      have:=gf (a:=oR) (b:=bj) tg rfl
      simp only [aq,this];rfl
     show aq _ _ _ _=_
     simp only [aq,inner];rfl
    show dR (.nm 4) bF (.int ((p:Nat):Int)::psD ps) _ _=_
    simp only [dR,hs,Option.bind_some,hb']
    exact i1
   ·rw [decide_eq_false c1] at tg
    by_cases c2:M < B
    ·rw [decide_eq_true c2] at tl
     have hn:lg (st++(u++[.l []])) (st++u).length=some (psD []):=by rw [<-List.append_assoc];exact kA _ _
     have hlen:st.length<=(st++u).length:=by rw [List.length_append];lia
     obtain⟨a1,a2⟩:=app (u++[.l []]) (st++u).length [] (some (.d (.int M))) (some (.d (.int B))) hn hlen (by decide)
     obtain⟨u',h',o4',o5',o6',i1,i2,i3⟩:=ld ht hb ps [p] _ (st++u).length (some (.d (.int ((p:Nat):Int)))) (some (.d (.int M))) (some (.d (.int B))) hps (λx hx=>by rw [List.mem_singleton.mp hx];exact hp0) a2 hlen (by simp at hz ⊢;lia)
     refine⟨u',h',o4',o5',o6',?_,by rw [leastR,hM,hB,if_neg c1,if_pos c2];exact i2,i3⟩
     have sn:aG (.nm 3) (ft (ck ag)) [x0,some (.d (.lst (mpI m tops))),some (.d (.lst (mpI m bots))),some (.h h),some (.d (.int ((p:Nat):Int))),some (.d (.int M)),some (.d (.int B))] (st++u)=some (.nx [x0,some (.d (.lst (mpI m tops))),some (.d (.lst (mpI m bots))),some (.h (st++u).length),some (.d (.int ((p:Nat):Int))),some (.d (.int M)),some (.d (.int B))] (st++(u++[.l []]))):=by rw [<-List.append_assoc];rfl
     have hb':bF [x0,some (.d (.lst (mpI m tops))),some (.d (.lst (mpI m bots))),some (.h h),some (.d (.int ((p:Nat):Int))),o5,o6] (st++u)=_:=ar (gf t0 (ar s5 (ar s6 (ar (dy tg rfl) (gf tl sn))))) a1
     show dR (.nm 4) bF (.int ((p:Nat):Int)::psD ps) _ _=_
     simp only [dR,hs,Option.bind_some,hb']
     exact i1
    ·rw [decide_eq_false c2] at tl
     obtain⟨a1,a2⟩:=app u h (l0::r) (some (.d (.int M))) (some (.d (.int B))) hg hh (by rw [List.length_cons] at hz ⊢;lia)
     obtain⟨u',h',o4',o5',o6',i1,i2,i3⟩:=ld ht hb ps ((l0::r)++[p]) _ h (some (.d (.int ((p:Nat):Int)))) (some (.d (.int M))) (some (.d (.int B))) hps (λx hx=>by
      rcases List.mem_append.mp hx with z | z
      ·exact hl x z
      ·rw [List.mem_singleton.mp z];exact hp0) a2 hh (by rw [List.length_append,List.length_singleton];lia)
     refine⟨u',h',o4',o5',o6',?_,by rw [leastR,hM,hB,if_neg c1,if_neg c2];exact i2,i3⟩
     have hb':bF [x0,some (.d (.lst (mpI m tops))),some (.d (.lst (mpI m bots))),some (.h h),some (.d (.int ((p:Nat):Int))),o5,o6] (st++u)=_:=ar (gf t0 (ar s5 (ar s6 (ar (dy tg rfl) (dy tl rfl))))) a1
     show dR (.nm 4) bF (.int ((p:Nat):Int)::psD ps) _ _=_
     simp only [dR,hs,Option.bind_some,hb']
     exact i1
theorem AD (ht:∀ i,i < m->Sm (tops i)) (hb:∀ i,i < m->Sm (bots i)) {ps:List Nat} (hp:∀ x ∈ ps,x < m) (hz:ps.length<=1000):iA [.d (.lst (psD ps)),.d (.lst (mpI m tops)),.d (.lst (mpI m bots))] st=some (.d (.lst (psD (leastR tops bots ps []))),st):=by
 obtain⟨u',h',o4',o5',o6',i1,i2,i3⟩:=ld (st:=st) (x0:=some (.d (.lst (psD ps)))) ht hb ps [] [.l []] st.length none none none hp (λx hx=>nomatch hx) (kA st []) (Nat.le_refl _) (by simpa using hz)
 have hit:aX (iV 0) [some (.d (.lst (psD ps))),some (.d (.lst (mpI m tops))),some (.d (.lst (mpI m bots))),some (.h st.length),none,none,none] (st++[.l []])=some (psD ps,st++[.l []]):=rfl
 have:=mC (n:=7) (k:=3) (b:=fM) (ws:=[.d (.lst (psD ps)),.d (.lst (mpI m tops)),.d (.lst (mpI m bots))]) (st:=st) (h:=h') rfl (ar (s:=st++[.l []]) (e:=[some (.d (.lst (psD ps))),some (.d (.lst (mpI m tops))),some (.d (.lst (mpI m bots))),some (.h st.length),none,none,none]) rfl (ar (dc hit i1) rfl)) i3 i2
 rw [List.take_left] at this
 exact this
end
end Own
set_option maxHeartbeats 1000000
namespace Own
open PySem L2
open Sx (Pb Tb Good Named Fe LV ZV piv lexP leastR leaveL sumN unit colV basis)
theorem ur (s:Sto) (i:Int):kz s (.d (.int i)) (.d .non)=some (.bl false):=rfl
theorem pb (s:Sto):kz s (.d .non) (.d .non)=some (.bl true):=rfl
theorem xW (s:Sto) (l:List D):kz s (.d (.tup l)) (.d .non)=some (.bl false):=rfl
noncomputable def cF (n:Nat):Nat->D
 | 0=>.non
 | r+1=>.int (((n+r:Nat)):Int)
theorem vg (n m:Nat):D.non::dE (n:Int) m=(List.range (m+1)).map (cF n):=by
 rw [List.range_succ_eq_map,List.map_cons,List.map_map]
 show _=D.non::_
 unfold dE
 congr 1
theorem kT (st:Sto) (ds:List D):bA st [.d (.lst ds)]=some (.int (ds.length:Nat)):=rfl
theorem nk {P:Pb}{S:Tb}{st:Sto} (h:Okt P S):gx [.d (obD P S)] st=some (.d (.lst ((List.range (P.m+1)).map (cF P.n))),st):=by
 have hm:=h.m64
 have hn:=h.n64
 have v0:iV 0 [some (.d (obD P S))] st=some (.d (obD P S),st):=rfl
 have a1:=dz (P:=P) (S:=S) v0
 have a2:=fj (P:=P) (S:=S) v0
 refine aQ (n:=1) (k:=1) (b:=jW) rfl (bn (aj (x:=.d (.lst [.non])) (y:=.d (.lst (dE (P.n:Int) P.m))) (s1:=st) rfl (aI ?_) ?_))
 ·show pH _ [some (.d (obD P S))] st=_
  have e:aa (ay "amounts" (iV 0)) (aa (iOp bH (ay "amounts" (iV 0)) (iCB bA (aa (ay "lines" (iV 0)) ag))) ag) [some (.d (obD P S))] st=some ([.d (.int (P.n:Int)),.d (.int ((P.n:Int)+(P.m:Int)))],st):=by
   refine ac a1 (ac (aj a1 (aZ (ac a2 rfl) (kT _ _)) ?_) rfl)
   rw [eB];rfl
  simp only [pH,e,Option.bind_some]
  rw [if_pos (by lia),show ((P.n:Int)+(P.m:Int) - (P.n:Int)).toNat=P.m by lia]
 ·rw [<-vg]
  exact iS st (by rw [rG];simp;lia)
theorem zP {n k:Nat}{f:Nat->Nat}:inD (.int (k:Int)) (mpI n (nI f))=decide (∃ c,c < n/\f c=k):=by
 rw [Bool.eq_iff_iff]
 unfold inD mpI
 rw [List.any_map,List.any_eq_true,decide_eq_true_eq]
 constructor
 ·rintro⟨c,hc,e⟩
  refine⟨c,List.mem_range.mp hc,?_⟩
  have e:(((f c:Nat):Int)==(k:Int))=true:=e
  have:=beq_iff_eq.mp e
  lia
 ·rintro⟨c,hc,e⟩
  refine⟨c,List.mem_range.mpr hc,?_⟩
  show (((f c:Nat):Int)==(k:Int))=true
  rw [e];exact beq_self_eq_true _
theorem Ao {n k:Nat}{f:Nat->Nat} (h:∃ c,c < n/\f c=k):∃ c,c < n/\f c=k/\((List.range n).map (nI f)).idxOf? (k:Int)=some c:=by
 obtain⟨c,hc,e⟩:=h
 cases q:((List.range n).map (nI f)).idxOf? (k:Int) with
 | none=>
  have:=List.idxOf?_eq_none_iff.mp q
  exact absurd (List.mem_map.mpr ⟨c,List.mem_range.mpr hc,by unfold nI;rw [e]⟩) this
 | some j=>
  obtain⟨h1,h2,_⟩:=List.idxOf?_eq_some_iff.mp q
  rw [List.length_map,List.length_range] at h1
  refine⟨j,h1,?_,rfl⟩
  rw [List.getElem_map,List.getElem_range] at h2
  have h2:((f j:Nat):Int)=(k:Int):=h2
  lia
theorem jp {P:Pb}{S:Tb} (h:Good P S) {i j:Nat} (hi:i < P.m) (hj:j < P.m) (e:S.kept i=S.kept j):i=j:=by
 rcases Nat.decEq i j with hne | he
 ·exfalso
  have h0:=Sx.det_eq0 (basis P S) hi hj hne (by unfold basis;rw [e])
  have:=h.pos
  rw [h.dt,h0] at this
  exact absurd this (by decide)
 ·exact he
theorem yN {P:Pb}{S:Tb}{st:Sto} (h:Okt P S) {s:Nat} (hs:s<=P.m):eN [.d (obD P S),.d (cF P.n s)] st=some (.d (.lst (mpI P.m λi=>LV P S i s)),st):=by
 have hg:=h.good
 have hm:=h.m64
 have hn:=h.n64
 cases s with
 | zero=>
  have e:mpI P.m (λi=>LV P S i 0)=mpI P.m λi=>S.T i P.n:=cD λi hi=>by
   have e:=hg.entry (c:=P.n) (Nat.le_refl _) hi
   have c1:colV P S P.n=P.b:=by unfold Sx.colV;rw [if_neg (Nat.lt_irrefl _)]
   rw [c1] at e
   unfold LV Sx.XV
   rw [if_pos rfl,<-e]
  rw [e]
  have a2:=fj (P:=P) (S:=S) (env:=[some (.d (obD P S)),some (.d .non),none]) (st:=st) (a:=iV 0) rfl
  refine aQ (n:=3) (k:=2) (b:=fg) rfl (ig (gf (s:=st) (aY (x:=.d .non) rfl rfl (pb st)) (bn (aI (cu (cX a2) (by rw [eB];lia) ?_)))))
  exact kL (g:=lnD P.n S.T) (λi=>D.int (S.T i P.n)) λi _=>aj rfl rfl (uK st)
 | succ r=>
  have hr:r < P.m:=by lia
  have v0:∀ o,iV 0 [some (.d (obD P S)),some (.d (.int ((P.n+r:Nat):Int))),o] st=some (.d (obD P S),st):=λ_=>rfl
  have af:=mx (P:=P) (S:=S) (v0 none)
  have hXV:Sx.XV P (r+1)=unit r:=by unfold Sx.XV;rw [if_neg (by lia),Nat.add_sub_cancel]
  have tI:bg dIn (iV 1) (ay "free" (iV 0)) [some (.d (obD P S)),some (.d (.int ((P.n+r:Nat):Int))),none] st=some (decide (∃ c,c < P.n/\S.free c=P.n+r),st):=by
   refine aY rfl af ?_
   simp only [dIn,i7,eL,rF,Option.bind_some,and_self,if_true,zP]
  have t0:bg kz (iV 1) (iC .non) [some (.d (obD P S)),some (.d (.int ((P.n+r:Nat):Int))),none] st=some (false,st):=aY rfl rfl (ur st _)
  refine aQ (n:=3) (k:=2) (b:=fg) rfl (ar (dy t0 rfl) ?_)
  by_cases hf:∃ c,c < P.n/\S.free c=P.n+r
  ·rw [decide_eq_true hf] at tI
   obtain⟨c,hc,ec,hidx⟩:=Ao hf
   have e:mpI P.m (λi=>LV P S i (r+1))=mpI P.m λi=>S.T i c:=cD λi hi=>by
    have e:=hg.entry (c:=c) (by lia) hi
    have c1:colV P S c=unit r:=by unfold Sx.colV;rw [if_pos hc,ec,h.named.one r hr]
    rw [c1] at e
    unfold LV
    rw [hXV,<-e]
   rw [e]
   have sx:aG (.nm 2) (wo (ay "free" (iV 0)) (aa (iV 1) ag)) [some (.d (obD P S)),some (.d (.int ((P.n+r:Nat):Int))),none] st=some (.nx [some (.d (obD P S)),some (.d (.int ((P.n+r:Nat):Int))),some (.d (.int (c:Int)))] st):=by
    refine az ?_
    have ei:jO (mpI P.n (nI S.free))=some ((List.range P.n).map (nI S.free)):=by rw [cL];exact kD _
    simp only [wo,af,Option.bind_some,show aa (iV 1) ag [some (.d (obD P S)),some (.d (.int ((P.n+r:Nat):Int))),none] st=some ([.d (.int ((P.n+r:Nat):Int))],st) from rfl,ei]
    rw [if_pos (by rw [List.length_map,List.length_range];lia),hidx];rfl
   have a2:=fj (P:=P) (S:=S) (v0 (some (.d (.int (c:Int)))))
   refine ig (gf tI (ar sx (bn (aI (cu (cX a2) (by rw [eB];lia) ?_)))))
   exact kL (g:=lnD P.n S.T) (λi=>D.int (S.T i c)) λi _=>aj rfl rfl (qC st (by lia))
  ·rw [decide_eq_false hf] at tI
   obtain⟨j,hj,ej⟩:∃ j,j < P.m/\S.kept j=P.n+r:=(h.named.all (P.n+r) (by lia)).elim (λz=>absurd z hf) id
   have e:mpI P.m (λi=>LV P S i (r+1))=mpI P.m λi=>if S.kept i=P.n+r then S.p else 0:=cD λi hi=>by
    have e:=Sx.det_kept hg hi hj
    have c1:basis P S j=unit r:=by unfold Sx.basis;rw [ej,h.named.one r hr]
    rw [c1] at e
    unfold LV
    rw [hXV,e]
    by_cases hij:i=j
    ·rw [if_pos hij,if_pos (by rw [hij];exact ej)]
    ·rw [if_neg hij,if_neg λz=>hij (jp hg hi hj (z.trans ej.symm))]
   rw [e]
   have a2:=qq (P:=P) (S:=S) (v0 none)
   refine ar (dy tI rfl) (bn (aI (cu (cX a2) (by rw [bQ];lia) ?_)))
   refine kL (g:=λi=>D.int (nI S.kept i)) (λi=>D.int (if S.kept i=P.n+r then S.p else 0)) λi _=>?_
   have ap:=mE (P:=P) (S:=S) (env:=[some (.d (.int (nI S.kept i))),some (.d (.int ((P.n+r:Nat):Int))),some (.d (obD P S))]) (st:=st) (a:=iV 2) rfl
   have te:bg dEq (iV 0) (iV 1) [some (.d (.int (nI S.kept i))),some (.d (.int ((P.n+r:Nat):Int))),some (.d (obD P S))] st=some (decide (S.kept i=P.n+r),st):=by
    refine aY rfl rfl ?_
    rw [oP]
    congr 2
    rw [Bool.eq_iff_iff,beq_iff_eq,decide_eq_true_eq]
    unfold nI;lia
   by_cases hk:S.kept i=P.n+r
   ·rw [decide_eq_true hk] at te
    rw [if_pos hk]
    exact wz te ap
   ·rw [decide_eq_false hk] at te
    rw [if_neg hk]
    exact Ag te rfl
theorem qr (m:Nat) (f:Nat->Int):jJ 0 (mpI m f)=(List.range m).map λi=>D.tup [.int ((i:Nat):Int),.int (f i)]:=by
 apply List.ext_getElem?
 intro i
 rw [li,List.getElem?_map]
 by_cases hi:i < m
 ·rw [dN hi,List.getElem?_range hi,Nat.zero_add];rfl
 ·rw [List.getElem?_eq_none (by rw [bQ];lia),List.getElem?_eq_none (by rw [List.length_range];lia)];rfl
theorem sE {tt:Tf}{te:Ef}{l:Ev}{st:Sto}{g:Nat->D×D} (p:Nat->Bool) (F:Nat->D):∀ {ks:List Nat},(∀ k ∈ ks,tt (some (.d (g k).1)::some (.d (g k).2)::l) st=some (p k,st)/\(p k=true->te (some (.d (g k).1)::some (.d (g k).2)::l) st=some (.d (F k),st)))->
  lcI (.tp [0,1]) tt te (none::none::l) (ks.map λk=>D.tup [(g k).1,(g k).2]) st=some ((ks.filter p).map F,st)
 | [],_=>rfl
 | k::ks,h=>by
  have ih:=sE (tt:=tt) (te:=te) (l:=l) (st:=st) (g:=g) p F (ks:=ks) λx hx=>h x (List.mem_cons_of_mem _ hx)
  obtain⟨h1,h2⟩:=h k List.mem_cons_self
  rw [List.map_cons]
  unfold lcI
  rw [show eU (.tp [0,1]) (.d (.tup [(g k).1,(g k).2])) (none::none::l)=some (some (.d (g k).1)::some (.d (g k).2)::l) from rfl,Option.bind_some,h1,Option.bind_some]
  cases hp:p k with
  | true=>rw [if_pos rfl,h2 hp,Option.bind_some,ih,List.filter_cons_of_pos hp];rfl
  | false=>rw [if_neg (show ¬ (false=true) by decide),ih,List.filter_cons_of_neg (by rw [hp];decide)]
noncomputable def ji (P:Pb) (S:Tb) (c:Nat):List Nat:=(List.range P.m).filter λi=>decide (S.T i c > 0)
noncomputable def je (P:Pb) (S:Tb) (c:Nat):List Nat:=leaveL (λs i=>LV P S i s) (λi=>S.T i c) (List.range (P.m+1)) (ji P S c)
theorem gA {tops bots:Nat->Int}{m:Nat}:∀ {ps least:List Nat},(∀ x ∈ ps,x < m)->(∀ x ∈ least,x < m)->(∀ x ∈ leastR tops bots ps least,x < m)/\(leastR tops bots ps least).length<=ps.length+least.length
 | [],least,_,h=>by rw [leastR];exact⟨h,by simp⟩
 | p::ps,[],hp,_=>by
  rw [leastR]
  have:=gA (tops:=tops) (bots:=bots) (ps:=ps) (least:=[p]) (λx hx=>hp x (List.mem_cons_of_mem _ hx)) λx hx=>by rw [List.mem_singleton.mp hx];exact hp p List.mem_cons_self
  exact⟨this.1,by have:=this.2;simp at this ⊢;lia⟩
 | p::ps,l0::r,hp,hl=>by
  have hps:∀ x ∈ ps,x < m:=λx hx=>hp x (List.mem_cons_of_mem _ hx)
  have hp0:=hp p List.mem_cons_self
  rw [leastR]
  split
  ·have:=gA (tops:=tops) (bots:=bots) hps hl
   exact⟨this.1,by have:=this.2;simp at this ⊢;lia⟩
  ·split
   ·have:=gA (tops:=tops) (bots:=bots) (ps:=ps) (least:=[p]) hps λx hx=>by rw [List.mem_singleton.mp hx];exact hp0
    exact⟨this.1,by have:=this.2;simp at this ⊢;lia⟩
   ·have:=gA (tops:=tops) (bots:=bots) (ps:=ps) (least:=(l0::r)++[p]) hps λx hx=>by
     rcases List.mem_append.mp hx with z | z
     ·exact hl x z
     ·rw [List.mem_singleton.mp z];exact hp0
    exact⟨this.1,by have:=this.2;simp at this ⊢;lia⟩
section
variable {P:Pb}{S:Tb}{st:Sto}{c:Nat}
theorem ux (h:Okt P S) (hc:c<=P.n):∀ (ss ps:List Nat) (o4:Option W),(∀ s ∈ ss,s<=P.m)->(∀ x ∈ ps,x < P.m)->ps.length<=1000->
  ∃ o4',dR (.nm 4) gX (ss.map (cF P.n)) [some (.d (obD P S)),some (.d (.int (c:Int))),some (.d (.lst (mpI P.m λi=>S.T i c))),some (.d (.lst (psD ps))),o4] st=some (.nx [some (.d (obD P S)),some (.d (.int (c:Int))),some (.d (.lst (mpI P.m λi=>S.T i c))),some (.d (.lst (psD (leaveL (λs i=>LV P S i s) (λi=>S.T i c) ss ps)))),o4'] st)
 | [],ps,o4,_,_,_=>⟨o4,rfl⟩
 | s::ss,ps,o4,hs,hp,hz=>by
  have hset:eU (.nm 4) (.d (cF P.n s)) [some (.d (obD P S)),some (.d (.int (c:Int))),some (.d (.lst (mpI P.m λi=>S.T i c))),some (.d (.lst (psD ps))),o4]=some [some (.d (obD P S)),some (.d (.int (c:Int))),some (.d (.lst (mpI P.m λi=>S.T i c))),some (.d (.lst (psD ps))),some (.d (cF P.n s))]:=rfl
  have t0:bg dLt (iCB bA (aa (iV 3) ag)) (iC (.int 2)) [some (.d (obD P S)),some (.d (.int (c:Int))),some (.d (.lst (mpI P.m λi=>S.T i c))),some (.d (.lst (psD ps))),some (.d (cF P.n s))] st=some (decide (ps.length < 2),st):=by
   refine aY (aZ (ws:=[.d (.lst (psD ps))]) rfl (kT _ _)) rfl ?_
   rw [uE,qU]
   congr 2
   rw [Bool.eq_iff_iff,decide_eq_true_eq,decide_eq_true_eq]
   lia
  rw [List.map_cons,leaveL]
  by_cases h2:ps.length < 2
  ·rw [decide_eq_true h2] at t0
   rw [if_pos h2]
   refine⟨some (.d (cF P.n s)),?_⟩
   have hb:gX [some (.d (obD P S)),some (.d (.int (c:Int))),some (.d (.lst (mpI P.m λi=>S.T i c))),some (.d (.lst (psD ps))),some (.d (cF P.n s))] st=some (.bk [some (.d (obD P S)),some (.d (.int (c:Int))),some (.d (.lst (mpI P.m λi=>S.T i c))),some (.d (.lst (psD ps))),some (.d (cF P.n s))] st):=by
    have:=gf (a:=tR) (b:=bj) t0 rfl
    show aq _ _ _ _=_
    simp only [aq,this];rfl
   simp only [dR,hset,Option.bind_some,hb]
  ·rw [decide_eq_false h2] at t0
   rw [if_neg h2]
   have e1:=yN (st:=st) h (hs s List.mem_cons_self)
   have e2:=AD (st:=st) (tops:=λi=>LV P S i s) (bots:=λi=>S.T i c) (m:=P.m) (λi hi=>h.sL i s hi (hs s List.mem_cons_self)) (λi hi=>h.sT i c hi hc) hp hz
   have hmem:=gA (tops:=λi=>LV P S i s) (bots:=λi=>S.T i c) (m:=P.m) (ps:=ps) (least:=[]) hp (λx hx=>nomatch hx)
   obtain⟨o4',ih⟩:=ux h hc ss (leastR (λi=>LV P S i s) (λi=>S.T i c) ps []) (some (.d (cF P.n s))) (λx hx=>hs x (List.mem_cons_of_mem _ hx)) hmem.1 (by have:=hmem.2;simp at this;lia)
   refine⟨o4',?_⟩
   have hb:gX [some (.d (obD P S)),some (.d (.int (c:Int))),some (.d (.lst (mpI P.m λi=>S.T i c))),some (.d (.lst (psD ps))),some (.d (cF P.n s))] st=some (.nx [some (.d (obD P S)),some (.d (.int (c:Int))),some (.d (.lst (mpI P.m λi=>S.T i c))),some (.d (.lst (psD (leastR (λi=>LV P S i s) (λi=>S.T i c) ps [])))),some (.d (cF P.n s))] st):=
    ar (dy t0 rfl) (az (aw (ac rfl (ac (aw (ws:=[.d (obD P S),.d (cF P.n s)]) rfl e1) (ac rfl rfl))) e2))
   simp only [dR,hset,Option.bind_some,hb]
   exact ih
noncomputable def tW (l:List Nat):D:=match l with
 | []=>.non
 | r::_=>.int ((r:Nat):Int)
theorem sD (h:Okt P S) (hc:c<=P.n):jV [.d (obD P S),.d (.int (c:Int))] st=some (.d (tW (je P S c)),st):=by
 have hm:=h.m64
 have a1:=fj (P:=P) (S:=S) (env:=[some (.d (obD P S)),some (.d (.int (c:Int))),none,none,none]) (st:=st) (a:=iV 0) rfl
 have s2:aG (.nm 2) (aD (iLc 1 [1] (aX (ay "lines" (iV 0))) (.nm 0) bf lV)) [some (.d (obD P S)),some (.d (.int (c:Int))),none,none,none] st=some (.nx [some (.d (obD P S)),some (.d (.int (c:Int))),some (.d (.lst (mpI P.m λi=>S.T i c))),none,none] st):=
  az (aI (cu (cX a1) (by rw [eB];lia) (kL (g:=lnD P.n S.T) (λi=>D.int (S.T i c)) λi _=>aj rfl rfl (qC st hc))))
 have hen:fX (aa (iV 2) ag) [some (.d (obD P S)),some (.d (.int (c:Int))),some (.d (.lst (mpI P.m λi=>S.T i c))),none,none] st=some ((List.range P.m).map λi=>D.tup [.int ((i:Nat):Int),.int (S.T i c)],st):=by
  rw [<-qr];rfl
 have s3:aG (.nm 3) (aD (iLc 2 [] (fX (aa (iV 2) ag)) (.tp [0,1]) lN lO)) [some (.d (obD P S)),some (.d (.int (c:Int))),some (.d (.lst (mpI P.m λi=>S.T i c))),none,none] st=some (.nx [some (.d (obD P S)),some (.d (.int (c:Int))),some (.d (.lst (mpI P.m λi=>S.T i c))),some (.d (.lst (psD (ji P S c)))),none] st):=
  az (aI (cu hen (by rw [List.length_map,List.length_range];lia) (sE (g:=λi=>(D.int ((i:Nat):Int),.int (S.T i c))) (λi=>decide (S.T i c > 0)) (λi=>D.int ((i:Nat):Int)) λi _=>⟨aY rfl rfl (tq _ _ _),λ_=>rfl⟩)))
 have hcm:∀ x ∈ ji P S c,x < P.m:=λx hx=>List.mem_range.mp (List.mem_filter.mp hx).1
 have hcl:(ji P S c).length<=1000:=by
  have:(ji P S c).length<=(List.range P.m).length:=List.length_filter_le ..
  rw [List.length_range] at this
  lia
 obtain⟨o4,hl⟩:=ux (st:=st) h hc (List.range (P.m+1)) (ji P S c) none (λs hs=>by have:=List.mem_range.mp hs;lia) hcm hcl
 have hw:=nk (st:=st) h
 have hit:aX (au gx (aa (iV 0) ag)) [some (.d (obD P S)),some (.d (.int (c:Int))),some (.d (.lst (mpI P.m λi=>S.T i c))),some (.d (.lst (psD (ji P S c)))),none] st=some ((List.range (P.m+1)).map (cF P.n),st):=cX (aw (ws:=[.d (obD P S)]) rfl hw)
 refine aQ (n:=5) (k:=2) (b:=jQ) rfl (ar s2 (ar s3 (ar (dc hit hl) (bn ?_))))
 show mr (cE cG (iV 3)) (iOp dIx (iV 3) (iC (.int 0))) (iC .non) [some (.d (obD P S)),some (.d (.int (c:Int))),some (.d (.lst (mpI P.m λi=>S.T i c))),some (.d (.lst (psD (je P S c)))),o4] st=_
 cases je P S c with
 | nil=>rfl
 | cons r l=>exact wz (s:=st) rfl (aj rfl rfl (show atI (.int ((r:Nat):Int)::psD l) 0=_ from wP _ _))
theorem tN (hz:∀ i,i < P.m->S.T i c<=0):je P S c=[]:=by
 have:ji P S c=[]:=by
  unfold ji
  rw [List.filter_eq_nil_iff]
  intro i hi
  have:=hz i (List.mem_range.mp hi)
  simp;lia
 unfold je
 rw [this,List.range_succ_eq_map,leaveL,if_pos (by decide)]
theorem tu (h:Okt P S) (hA:∀ i,i < P.m->∀ t,P.m<=t->P.A (S.kept i) t=0) (hz:¬ ∀ i,i < P.m->S.T i c<=0) :
  ∃ r,je P S c=[r]/\r < P.m/\0 < S.T r c/\∀ i,i < P.m->i≠r->0 < S.T i c->lexP (P.m+1) λs=>S.T r c*LV P S i s - S.T i c*LV P S r s:=by
 have hC:∀ i,i ∈ ji P S c↔i < P.m/\0 < S.T i c:=λi=>by
  unfold ji
  rw [List.mem_filter,List.mem_range,decide_eq_true_eq]
 have hne:ji P S c≠[]:=λe=>hz λi hi=>by
  have:¬ (i < P.m/\0 < S.T i c):=λz=>by
   have:=(hC i).mpr z
   rw [e] at this
   exact absurd this List.not_mem_nil
  lia
 obtain⟨r,h1,h2⟩:=Sx.leaving_ok h.good hA hC (List.Pairwise.sublist List.filter_sublist List.nodup_range) hne
 refine⟨r,?_,h2⟩
 rw [<-h1]
 unfold je
 congr 1
 rw [show (λj=>0+j)=id by funext j;simp,List.map_id]
end
end Own
set_option maxHeartbeats 1000000
namespace Own
open PySem L2
open Sx (Pb Tb Good Named Fe LV ZV piv lexP leastR leaveL sumN unit colV basis)
theorem nX (s:Sto) (a b:D):dIx s (.d (.tup [a,b])) (.d (.int 0))=some a:=rfl
theorem mh (s:Sto) (a b:D):dIx s (.d (.tup [a,b])) (.d (.int 1))=some b:=rfl
theorem i9 {a:Af}{env:Ev}{st s:Sto}{ws:List W}{ds:List D} (ha:a env st=some (ws,s)) (h:nE ws=some ds) (hl:ds.length<=1000):bo a env st=some (.d (.tup ds),s):=by
 simp only [bo,ha,Option.bind_some,h,hl,if_true]
section
variable {P:Pb}{S:Tb}{st:Sto}
theorem yJ (s:Sto) (a:Int):dNe s (.d (.int a)) (.d (.int 0))=some (.bl (!(a==0))):=rfl
theorem Sm.two {a b:Int} (ha:Sm a) (hb:Sm b):(a*b).natAbs < 2 ^ 8000:=zU (x:=4000) (y:=4000) ha hb
theorem ui (h:Okt P S) {c1 r1 c2 r2:Nat}{M B:Int} (hr1:r1 < P.m) (hr2:r2 < P.m) (hM:M.natAbs < 2 ^ 8000) (hB:B.natAbs < 2 ^ 8000):∀ (ss:List Nat) (o5 o6 o7:Option W),(∀ s ∈ ss,s<=P.m)->
  (∃ b,dR (.nm 5) dH (ss.map (cF P.n)) [some (.d (obD P S)),some (.d (.tup [.int (c1:Int),.int (r1:Int)])),some (.d (.tup [.int (c2:Int),.int (r2:Int)])),some (.d (.int M)),some (.d (.int B)),o5,o6,o7] st=some (.rt (.d (.bl b)) st))\/
  ∃ e,dR (.nm 5) dH (ss.map (cF P.n)) [some (.d (obD P S)),some (.d (.tup [.int (c1:Int),.int (r1:Int)])),some (.d (.tup [.int (c2:Int),.int (r2:Int)])),some (.d (.int M)),some (.d (.int B)),o5,o6,o7] st=some (.nx e st)
 | [],o5,o6,o7,_=>.inr ⟨_,rfl⟩
 | s::ss,o5,o6,o7,hs=>by
  have hsm:=hs s List.mem_cons_self
  have e1:=yN (st:=st) h hsm
  have hset:eU (.nm 5) (.d (cF P.n s)) [some (.d (obD P S)),some (.d (.tup [.int (c1:Int),.int (r1:Int)])),some (.d (.tup [.int (c2:Int),.int (r2:Int)])),some (.d (.int M)),some (.d (.int B)),o5,o6,o7]=some [some (.d (obD P S)),some (.d (.tup [.int (c1:Int),.int (r1:Int)])),some (.d (.tup [.int (c2:Int),.int (r2:Int)])),some (.d (.int M)),some (.d (.int B)),some (.d (cF P.n s)),o6,o7]:=rfl
  have s6:aG (.nm 6) (au eN (aa (iV 0) (aa (iV 5) ag))) [some (.d (obD P S)),some (.d (.tup [.int (c1:Int),.int (r1:Int)])),some (.d (.tup [.int (c2:Int),.int (r2:Int)])),some (.d (.int M)),some (.d (.int B)),some (.d (cF P.n s)),o6,o7] st=some (.nx [some (.d (obD P S)),some (.d (.tup [.int (c1:Int),.int (r1:Int)])),some (.d (.tup [.int (c2:Int),.int (r2:Int)])),some (.d (.int M)),some (.d (.int B)),some (.d (cF P.n s)),some (.d (.lst (mpI P.m λi=>LV P S i s))),o7] st):=az (aw (ws:=[.d (obD P S),.d (cF P.n s)]) rfl e1)
  have m1:PySem.IntMulOk B (LV P S r2 s):=mulOk 8000 4000 hB (h.sL r2 s hr2 hsm) (by decide)
  have m2:PySem.IntMulOk M (LV P S r1 s):=mulOk 8000 4000 hM (h.sL r1 s hr1 hsm) (by decide)
  have s7:aG (.nm 7) (iOp mj (iOp bM (iV 4) (iOp dIx (iV 6) (iOp dIx (iV 2) (iC (.int 1))))) (iOp bM (iV 3) (iOp dIx (iV 6) (iOp dIx (iV 1) (iC (.int 1)))))) [some (.d (obD P S)),some (.d (.tup [.int (c1:Int),.int (r1:Int)])),some (.d (.tup [.int (c2:Int),.int (r2:Int)])),some (.d (.int M)),some (.d (.int B)),some (.d (cF P.n s)),some (.d (.lst (mpI P.m λi=>LV P S i s))),o7] st=some (.nx [some (.d (obD P S)),some (.d (.tup [.int (c1:Int),.int (r1:Int)])),some (.d (.tup [.int (c2:Int),.int (r2:Int)])),some (.d (.int M)),some (.d (.int B)),some (.d (cF P.n s)),some (.d (.lst (mpI P.m λi=>LV P S i s))),some (.d (.int (B*LV P S r2 s - M*LV P S r1 s)))] st):=
   az (aj (aj rfl (aj rfl (aj rfl rfl (mh st _ _)) (gF st hr2)) (df st m1)) (aj rfl (aj rfl (aj rfl rfl (mh st _ _)) (gF st hr1)) (df st m2)) rfl)
  generalize B*LV P S r2 s - M*LV P S r1 s=Z at s7
  have tz:bg dNe (iV 7) (iC (.int 0)) [some (.d (obD P S)),some (.d (.tup [.int (c1:Int),.int (r1:Int)])),some (.d (.tup [.int (c2:Int),.int (r2:Int)])),some (.d (.int M)),some (.d (.int B)),some (.d (cF P.n s)),some (.d (.lst (mpI P.m λi=>LV P S i s))),some (.d (.int Z))] st=some (!(Z==0),st):=aY rfl rfl (yJ st Z)
  rw [List.map_cons]
  cases hz:(Z==0) with
  | false=>
   rw [hz] at tz
   left
   refine⟨decide (Z > 0),?_⟩
   have hb:dH [some (.d (obD P S)),some (.d (.tup [.int (c1:Int),.int (r1:Int)])),some (.d (.tup [.int (c2:Int),.int (r2:Int)])),some (.d (.int M)),some (.d (.int B)),some (.d (cF P.n s)),o6,o7] st=some (.rt (.d (.bl (decide (Z > 0)))) st):=ar s6 (ar s7 (gf tz (bn (aj rfl rfl (tq st _ _)))))
   simp only [dR,hset,Option.bind_some,hb]
  | true=>
   rw [hz] at tz
   have hb:dH [some (.d (obD P S)),some (.d (.tup [.int (c1:Int),.int (r1:Int)])),some (.d (.tup [.int (c2:Int),.int (r2:Int)])),some (.d (.int M)),some (.d (.int B)),some (.d (cF P.n s)),o6,o7] st=some (.nx [some (.d (obD P S)),some (.d (.tup [.int (c1:Int),.int (r1:Int)])),some (.d (.tup [.int (c2:Int),.int (r2:Int)])),some (.d (.int M)),some (.d (.int B)),some (.d (cF P.n s)),some (.d (.lst (mpI P.m λi=>LV P S i s))),some (.d (.int Z))] st):=ar s6 (ar s7 (dy tz rfl))
   have ih:=ui h (c1:=c1) (c2:=c2) hr1 hr2 hM hB ss (some (.d (cF P.n s))) (some (.d (.lst (mpI P.m λi=>LV P S i s)))) (some (.d (.int Z))) λx hx=>hs x (List.mem_cons_of_mem _ hx)
   simp only [dR,hset,Option.bind_some,hb]
   exact ih
theorem Bu (h:Okt P S) {c1 r1 c2 r2:Nat} (hc1:c1 < P.n) (hr1:r1 < P.m) (hc2:c2 < P.n) (hr2:r2 < P.m):∃ b,dS [.d (obD P S),.d (.tup [.int (c1:Int),.int (r1:Int)]),.d (.tup [.int (c2:Int),.int (r2:Int)])] st=some (.d (.bl b),st):=by
 have v0:∀ o3 o4 o5 o6 o7,iV 0 [some (.d (obD P S)),some (.d (.tup [.int (c1:Int),.int (r1:Int)])),some (.d (.tup [.int (c2:Int),.int (r2:Int)])),o3,o4,o5,o6,o7] st=some (.d (obD P S),st):=λ_ _ _ _ _=>rfl
 have s3:aG (.nm 3) (iOp bM (iOp dIx (ay "goal" (iV 0)) (iOp dIx (iV 1) (iC (.int 0)))) (iOp dIx (iOp dIx (ay "lines" (iV 0)) (iOp dIx (iV 2) (iC (.int 1)))) (iOp dIx (iV 2) (iC (.int 0))))) [some (.d (obD P S)),some (.d (.tup [.int (c1:Int),.int (r1:Int)])),some (.d (.tup [.int (c2:Int),.int (r2:Int)])),none,none,none,none,none] st=some (.nx [some (.d (obD P S)),some (.d (.tup [.int (c1:Int),.int (r1:Int)])),some (.d (.tup [.int (c2:Int),.int (r2:Int)])),some (.d (.int (S.G c1*S.T r2 c2))),none,none,none,none] st):=
  az (aj (aj (mz (v0 _ _ _ _ _)) (aj rfl rfl (nX st _ _)) (gF st (by lia))) (aj (aj (fj (v0 _ _ _ _ _)) (aj rfl rfl (mh st _ _)) (qV st hr2)) (aj rfl rfl (nX st _ _)) (qC st (by lia))) (df st (Sm.mulOk (h.sG c1 (by lia)) (h.sT r2 c2 hr2 (by lia)))))
 have s4:aG (.nm 4) (iOp bM (iOp dIx (ay "goal" (iV 0)) (iOp dIx (iV 2) (iC (.int 0)))) (iOp dIx (iOp dIx (ay "lines" (iV 0)) (iOp dIx (iV 1) (iC (.int 1)))) (iOp dIx (iV 1) (iC (.int 0))))) [some (.d (obD P S)),some (.d (.tup [.int (c1:Int),.int (r1:Int)])),some (.d (.tup [.int (c2:Int),.int (r2:Int)])),some (.d (.int (S.G c1*S.T r2 c2))),none,none,none,none] st=some (.nx [some (.d (obD P S)),some (.d (.tup [.int (c1:Int),.int (r1:Int)])),some (.d (.tup [.int (c2:Int),.int (r2:Int)])),some (.d (.int (S.G c1*S.T r2 c2))),some (.d (.int (S.G c2*S.T r1 c1))),none,none,none] st):=
  az (aj (aj (mz (v0 _ _ _ _ _)) (aj rfl rfl (nX st _ _)) (gF st (by lia))) (aj (aj (fj (v0 _ _ _ _ _)) (aj rfl rfl (mh st _ _)) (qV st hr1)) (aj rfl rfl (nX st _ _)) (qC st (by lia))) (df st (Sm.mulOk (h.sG c2 (by lia)) (h.sT r1 c1 hr1 (by lia)))))
 have hit:aX (au gx (aa (iV 0) ag)) [some (.d (obD P S)),some (.d (.tup [.int (c1:Int),.int (r1:Int)])),some (.d (.tup [.int (c2:Int),.int (r2:Int)])),some (.d (.int (S.G c1*S.T r2 c2))),some (.d (.int (S.G c2*S.T r1 c1))),none,none,none] st=some ((List.range (P.m+1)).map (cF P.n),st):=cX (aw (ws:=[.d (obD P S)]) rfl (nk h))
 rcases ui (st:=st) h (c1:=c1) (c2:=c2) hr1 hr2 (Sm.two (h.sG c1 (by lia)) (h.sT r2 c2 hr2 (by lia))) (Sm.two (h.sG c2 (by lia)) (h.sT r1 c1 hr1 (by lia))) (List.range (P.m+1)) none none none (λs hs=>by have:=List.mem_range.mp hs;lia) with⟨b,e⟩ | ⟨e,he⟩
 ·exact⟨b,aQ (n:=8) (k:=3) (b:=eR) rfl (ar s3 (ar s4 (ig (dc hit e))))⟩
 ·exact⟨false,aQ (n:=8) (k:=3) (b:=eR) rfl (ar s3 (ar s4 (ar (dc hit he) rfl)))⟩
noncomputable def lw (P:Pb) (S:Tb) (x:D):Prop:=x=.non\/∃ c r,c < P.n/\S.G c < 0/\je P S c=[r]/\r < P.m/\0 < S.T r c/\(∀ i,i < P.m->i≠r->0 < S.T i c->lexP (P.m+1) λs=>S.T r c*LV P S i s - S.T i c*LV P S r s)/\x=.tup [.int (c:Int),.int (r:Int)]
theorem qh (h:Okt P S) (hA:∀ i,i < P.m->∀ t,P.m<=t->P.A (S.kept i) t=0):∀ (j k:Nat) (x:D) (o2 o3:Option W),k+j=P.n->lw P S x->(x=.non->∀ c,c < k->0<=S.G c)->
  (∃ c,c < P.n/\S.G c < 0/\(∀ i,i < P.m->S.T i c<=0)/\dR (.nm 2) dv ((List.range' k j).map λc=>D.int ((c:Nat):Int)) [some (.d (obD P S)),some (.d x),o2,o3] st=some (.rt (.d (.tup [.int (c:Int),.non])) st))\/
  ∃ y o2' o3',lw P S y/\(y=.non->∀ c,c < P.n->0<=S.G c)/\dR (.nm 2) dv ((List.range' k j).map λc=>D.int ((c:Nat):Int)) [some (.d (obD P S)),some (.d x),o2,o3] st=some (.nx [some (.d (obD P S)),some (.d y),o2',o3'] st)
 | 0,k,x,o2,o3,hk,hx,hxn=>.inr ⟨x,o2,o3,hx,by rw [<-hk,Nat.add_zero];exact hxn,rfl⟩
 | j+1,k,x,o2,o3,hk,hx,hxn=>by
  have hkn:k < P.n:=by lia
  have hset:eU (.nm 2) (.d (.int ((k:Nat):Int))) [some (.d (obD P S)),some (.d x),o2,o3]=some [some (.d (obD P S)),some (.d x),some (.d (.int ((k:Nat):Int))),o3]:=rfl
  have v0:∀ a b d,iV 0 [some (.d (obD P S)),a,b,d] st=some (.d (obD P S),st):=λ_ _ _=>rfl
  have tg:bg dGe (iOp dIx (ay "goal" (iV 0)) (iV 2)) (iC (.int 0)) [some (.d (obD P S)),some (.d x),some (.d (.int ((k:Nat):Int))),o3] st=some (decide (S.G k>=0),st):=aY (aj (mz (v0 _ _ _)) rfl (gF st (by lia))) rfl (xR st _ _)
  rw [List.range'_succ,List.map_cons]
  by_cases hg:S.G k>=0
  ·rw [decide_eq_true hg] at tg
   have hb:dv [some (.d (obD P S)),some (.d x),some (.d (.int ((k:Nat):Int))),o3] st=some (.ct [some (.d (obD P S)),some (.d x),some (.d (.int ((k:Nat):Int))),o3] st):=by
    have:=gf (a:=oR) (b:=bj) tg rfl
    show aq _ _ _ _=_
    simp only [aq,this];rfl
   have ih:=qh h hA j (k+1) x (some (.d (.int ((k:Nat):Int)))) o3 (by lia) hx λe c hc=>by
    by_cases z:c=k
    ·rw [z];exact hg
    ·exact hxn e c (by lia)
   simp only [dR,hset,Option.bind_some,hb]
   exact ih
  ·rw [decide_eq_false hg] at tg
   have hgl:S.G k < 0:=by lia
   have el:=sD (st:=st) (c:=k) h (by lia)
   have s3:aG (.nm 3) (bo (aa (iV 2) (aa (au jV (aa (iV 0) (aa (iV 2) ag))) ag))) [some (.d (obD P S)),some (.d x),some (.d (.int ((k:Nat):Int))),o3] st=some (.nx [some (.d (obD P S)),some (.d x),some (.d (.int ((k:Nat):Int))),some (.d (.tup [.int ((k:Nat):Int),tW (je P S k)]))] st):=
    az (i9 (ac rfl (ac (aw (ws:=[.d (obD P S),.d (.int ((k:Nat):Int))]) rfl el) rfl)) rfl (by show 2<=1000;decide))
   by_cases hz:∀ i,i < P.m->S.T i k<=0
   ·rw [tN hz] at s3
    left
    refine⟨k,hkn,hgl,hz,?_⟩
    have tn:bg kz (iOp dIx (iV 3) (iC (.int 1))) (iC .non) [some (.d (obD P S)),some (.d x),some (.d (.int ((k:Nat):Int))),some (.d (.tup [.int ((k:Nat):Int),tW []]))] st=some (true,st):=aY (aj rfl rfl (mh st _ _)) rfl (pb st)
    have hb:dv [some (.d (obD P S)),some (.d x),some (.d (.int ((k:Nat):Int))),o3] st=some (.rt (.d (.tup [.int ((k:Nat):Int),.non])) st):=ar (dy tg rfl) (ar s3 (ig (gf tn rfl)))
    simp only [dR,hset,Option.bind_some,hb]
   ·obtain⟨r,l1,l2,l3,l4⟩:=tu h hA hz
    rw [l1] at s3
    have tn:bg kz (iOp dIx (iV 3) (iC (.int 1))) (iC .non) [some (.d (obD P S)),some (.d x),some (.d (.int ((k:Nat):Int))),some (.d (.tup [.int ((k:Nat):Int),.int ((r:Nat):Int)]))] st=some (false,st):=aY (aj rfl rfl (mh st _ _)) rfl (ur st _)
    have hnew:lw P S (.tup [.int ((k:Nat):Int),.int ((r:Nat):Int)]):=.inr ⟨k,r,hkn,hgl,l1,l2,l3,l4,rfl⟩
    have key:∃ y,lw P S y/\y≠.non/\dv [some (.d (obD P S)),some (.d x),some (.d (.int ((k:Nat):Int))),o3] st=some (.nx [some (.d (obD P S)),some (.d y),some (.d (.int ((k:Nat):Int))),some (.d (.tup [.int ((k:Nat):Int),.int ((r:Nat):Int)]))] st):=by
     rcases hx with rfl | ⟨c,r',c1,c2,c3,c4,c5,c6,rfl⟩
     ·have t1:bg kz (iV 1) (iC .non) [some (.d (obD P S)),some (.d .non),some (.d (.int ((k:Nat):Int))),some (.d (.tup [.int ((k:Nat):Int),.int ((r:Nat):Int)]))] st=some (true,st):=aY rfl rfl (pb st)
      have t2:dL (bg kz (iV 1) (iC .non)) (cE cG (au dS (aa (iV 0) (aa (iV 3) (aa (iV 1) ag))))) [some (.d (obD P S)),some (.d .non),some (.d (.int ((k:Nat):Int))),some (.d (.tup [.int ((k:Nat):Int),.int ((r:Nat):Int)]))] st=some (true,st):=by simp only [dL,t1,Option.bind_some,if_true]
      exact⟨_,hnew,by simp,ar (dy tg rfl) (ar s3 (ar (dy tn rfl) (gf t2 rfl)))⟩
     ·obtain⟨b,eb⟩:=Bu (st:=st) h hkn l2 c1 c4
      have t1:bg kz (iV 1) (iC .non) [some (.d (obD P S)),some (.d (.tup [.int (c:Int),.int (r':Int)])),some (.d (.int ((k:Nat):Int))),some (.d (.tup [.int ((k:Nat):Int),.int ((r:Nat):Int)]))] st=some (false,st):=aY rfl rfl (xW st _)
      have t3:au dS (aa (iV 0) (aa (iV 3) (aa (iV 1) ag))) [some (.d (obD P S)),some (.d (.tup [.int (c:Int),.int (r':Int)])),some (.d (.int ((k:Nat):Int))),some (.d (.tup [.int ((k:Nat):Int),.int ((r:Nat):Int)]))] st=some (.d (.bl b),st):=aw (ws:=[.d (obD P S),.d (.tup [.int ((k:Nat):Int),.int ((r:Nat):Int)]),.d (.tup [.int (c:Int),.int (r':Int)])]) rfl eb
      have t2:dL (bg kz (iV 1) (iC .non)) (cE cG (au dS (aa (iV 0) (aa (iV 3) (aa (iV 1) ag))))) [some (.d (obD P S)),some (.d (.tup [.int (c:Int),.int (r':Int)])),some (.d (.int ((k:Nat):Int))),some (.d (.tup [.int ((k:Nat):Int),.int ((r:Nat):Int)]))] st=some (b,st):=by simp only [dL,t1,cE,t3,Option.bind_some,Bool.false_eq_true,if_false,cG,Option.map_some]
      cases b with
      | true=>exact⟨_,hnew,by simp,ar (dy tg rfl) (ar s3 (ar (dy tn rfl) (gf t2 rfl)))⟩
      | false=>exact⟨_,.inr ⟨c,r',c1,c2,c3,c4,c5,c6,rfl⟩,by simp,ar (dy tg rfl) (ar s3 (ar (dy tn rfl) (dy t2 rfl)))⟩
    obtain⟨y,hy,hyn,hb⟩:=key
    have ih:=qh h hA j (k+1) y (some (.d (.int ((k:Nat):Int)))) (some (.d (.tup [.int ((k:Nat):Int),.int ((r:Nat):Int)]))) (by lia) hy λe=>absurd e hyn
    simp only [dR,hset,Option.bind_some,hb]
    exact ih
theorem Bm (h:Okt P S) (hA:∀ i,i < P.m->∀ t,P.m<=t->P.A (S.kept i) t=0) :
  (∃ c,c < P.n/\S.G c < 0/\(∀ i,i < P.m->S.T i c<=0)/\db [.d (obD P S)] st=some (.d (.tup [.int (c:Int),.non]),st))\/
  ∃ y,lw P S y/\(y=.non->∀ c,c < P.n->0<=S.G c)/\db [.d (obD P S)] st=some (.d y,st):=by
 have hn:=h.n64
 have af:=mx (P:=P) (S:=S) (env:=[some (.d (obD P S)),some (.d .non),none,none]) (st:=st) (a:=iV 0) rfl
 have hr:dk (aa (iCB bA (aa (ay "free" (iV 0)) ag)) ag) [some (.d (obD P S)),some (.d .non),none,none] st=some ((List.range' 0 P.n).map λc=>D.int ((c:Nat):Int),st):=by
  have this:=lC (z:=(P.n:Int)) (m:=P.n) (aZ (ac (b:=ag) af rfl) (show bA st [.d (.lst (mpI P.n (nI S.free)))]=some (.int (P.n:Int)) by rw [kT,bQ])) (by lia) (by lia) (by lia)
  have e2:dE 0 P.n=(List.range' 0 P.n).map λc=>D.int ((c:Nat):Int):=by
   unfold dE
   rw [List.range_eq_range']
   exact List.map_congr_left λk _=>by rw [Int.zero_add]
  rw [<-e2]
  exact this
 rcases qh (st:=st) h hA P.n 0 .non none none (by lia) (.inl rfl) (λ_ c hc=>absurd hc (by lia)) with⟨c,c1,c2,c3,e⟩ | ⟨y,o2,o3,y1,y2,e⟩
 ·exact .inl ⟨c,c1,c2,c3,aQ (n:=4) (k:=1) (b:=fV) rfl (ar (s:=st) (e:=[some (.d (obD P S)),some (.d .non),none,none]) rfl (ig (dc hr e)))⟩
 ·exact .inr ⟨y,y1,y2,aQ (n:=4) (k:=1) (b:=fV) rfl (ar (s:=st) (e:=[some (.d (obD P S)),some (.d .non),none,none]) rfl (ar (dc hr e) rfl))⟩
end
end Own
set_option maxHeartbeats 1000000
namespace Own
open PySem L2
open Sx (Pb Tb Good Named Fe LV ZV piv lexP leastR leaveL sumN unit colV basis)
theorem fK {n k:Nat} (h:k < n):ixN n (k:Int)=some k:=by
 unfold ixN
 rw [if_pos (by lia),if_pos (by lia)]
 rfl
theorem zh (n:Nat) (f g:Nat->Int):jC (mpI n f) (mpI n g)=(List.range n).map λc=>D.tup [.int (f c),.int (g c)]:=by
 apply List.ext_getElem?
 intro i
 rw [jo,List.getElem?_map]
 by_cases hi:i < n
 ·rw [dN hi,dN hi,List.getElem?_range hi];rfl
 ·rw [List.getElem?_eq_none (l:=mpI n f) (by rw [bQ];lia),List.getElem?_eq_none (l:=List.range n) (by rw [List.length_range];lia)];rfl
theorem rY {te:Ef}{l:Ev}{st:Sto}{g:Nat->D×D} (F:Nat->D) {ks:List Nat} (h:∀ k ∈ ks,te (some (.d (g k).1)::some (.d (g k).2)::l) st=some (.d (F k),st)) :
  lcI (.tp [0,1]) bf te (none::none::l) (ks.map λk=>D.tup [(g k).1,(g k).2]) st=some (ks.map F,st):=by
 have:=sE (tt:=bf) (te:=te) (l:=l) (st:=st) (g:=g) (λ_=>true) F (ks:=ks) λk hk=>⟨rfl,λ_=>h k hk⟩
 rw [this,List.filter_eq_self.mpr λ_ _=>rfl]
theorem rV {st:Sto}{n e:Nat}{f g:Nat->Int}{p:Int} (he:e<=n) (p0:0 < p) (sp:Sm p) (sf:∀ c,c<=n->Sm (f c)) (sg:∀ c,c<=n->Sm (g c)) (hn:n<=1000) :
  jT [.d (.lst (mpI (n+1) f)),.d (.lst (mpI (n+1) g)),.d (.int (e:Int)),.d (.int p)] st=some (.d (.lst (mpI (n+1) λc=>if c=e then - f e else (g e*f c - f e*g c) / p)),st):=by
 have he1:e < n+1:=by lia
 have hz:d8 (aa (iV 0) (aa (iV 1) ag)) [some (.d (.lst (mpI (n+1) f))),some (.d (.lst (mpI (n+1) g))),some (.d (.int (e:Int))),some (.d (.int p)),some (.d (.int (g e))),some (.d (.int (f e))),none] st=some ((List.range (n+1)).map λc=>D.tup [.int (f c),.int (g c)],st):=by
  rw [<-zh];rfl
 have hl:lcI (.tp [0,1]) bf lE [none,none,some (.d (.int (g e))),some (.d (.int (f e))),some (.d (.int p))] ((List.range (n+1)).map λc=>D.tup [.int (f c),.int (g c)]) st=some (mpI (n+1) λc=>(g e*f c - f e*g c) / p,st):=by
  refine rY (g:=λc=>(D.int (f c),.int (g c))) (λc=>D.int ((g e*f c - f e*g c) / p)) λc hc=>?_
  have hc':c<=n:=by have:=List.mem_range.mp hc;lia
  exact aj (aj (aj rfl rfl (df st (Sm.mulOk (sg e he) (sf c hc')))) (aj rfl rfl (df st (Sm.mulOk (sf e he) (sg c hc')))) rfl) rfl (tP st p0 sp)
 have s6:aG (.nm 6) (ft (iLc 2 [4,5,3] (d8 (aa (iV 0) (aa (iV 1) ag))) (.tp [0,1]) bf lE)) [some (.d (.lst (mpI (n+1) f))),some (.d (.lst (mpI (n+1) g))),some (.d (.int (e:Int))),some (.d (.int p)),some (.d (.int (g e))),some (.d (.int (f e))),none] st=some (.nx [some (.d (.lst (mpI (n+1) f))),some (.d (.lst (mpI (n+1) g))),some (.d (.int (e:Int))),some (.d (.int p)),some (.d (.int (g e))),some (.d (.int (f e))),some (.h st.length)] (st++[.l (mpI (n+1) λc=>(g e*f c - f e*g c) / p)])):=by
  refine az ?_
  have:=cu (k:=2) (js:=[4,5,3]) hz (by rw [List.length_map,List.length_range];lia) hl
  simp only [ft,this,Option.map_some]
 have s7:cq (iV 6) (iV 2) (iUn oA (iV 5)) [some (.d (.lst (mpI (n+1) f))),some (.d (.lst (mpI (n+1) g))),some (.d (.int (e:Int))),some (.d (.int p)),some (.d (.int (g e))),some (.d (.int (f e))),some (.h st.length)] (st++[.l (mpI (n+1) λc=>(g e*f c - f e*g c) / p)])=some (.nx [some (.d (.lst (mpI (n+1) f))),some (.d (.lst (mpI (n+1) g))),some (.d (.int (e:Int))),some (.d (.int p)),some (.d (.int (g e))),some (.d (.int (f e))),some (.h st.length)] (st++[.l (mpI (n+1) λc=>if c=e then - f e else (g e*f c - f e*g c) / p)])):=by
  have hs:hW (st++[.l (mpI (n+1) λc=>(g e*f c - f e*g c) / p)]) (.h st.length) (.d (.int (e:Int))) (.d (.int (- f e)))=some (st++[.l (mpI (n+1) λc=>if c=e then - f e else (g e*f c - f e*g c) / p)]):=by
   simp only [hW,kA,Option.bind_some,bQ,fK he1,Option.map_some,qG,i6]
  have v:iUn oA (iV 5) [some (.d (.lst (mpI (n+1) f))),some (.d (.lst (mpI (n+1) g))),some (.d (.int (e:Int))),some (.d (.int p)),some (.d (.int (g e))),some (.d (.int (f e))),some (.h st.length)] (st++[.l (mpI (n+1) λc=>(g e*f c - f e*g c) / p)])=some (.d (.int (- f e)),st++[.l (mpI (n+1) λc=>(g e*f c - f e*g c) / p)]):=rfl
  have v6:iV 6 [some (.d (.lst (mpI (n+1) f))),some (.d (.lst (mpI (n+1) g))),some (.d (.int (e:Int))),some (.d (.int p)),some (.d (.int (g e))),some (.d (.int (f e))),some (.h st.length)] (st++[.l (mpI (n+1) λc=>(g e*f c - f e*g c) / p)])=some (.h st.length,st++[.l (mpI (n+1) λc=>(g e*f c - f e*g c) / p)]):=rfl
  have v2:iV 2 [some (.d (.lst (mpI (n+1) f))),some (.d (.lst (mpI (n+1) g))),some (.d (.int (e:Int))),some (.d (.int p)),some (.d (.int (g e))),some (.d (.int (f e))),some (.h st.length)] (st++[.l (mpI (n+1) λc=>(g e*f c - f e*g c) / p)])=some (.d (.int (e:Int)),st++[.l (mpI (n+1) λc=>(g e*f c - f e*g c) / p)]):=rfl
  simp only [cq,v,v6,v2,Option.bind_some,hs,Option.map_some]
 have:=mC (n:=7) (k:=4) (b:=mD) (ws:=[.d (.lst (mpI (n+1) f)),.d (.lst (mpI (n+1) g)),.d (.int (e:Int)),.d (.int p)]) (st:=st) (h:=st.length) rfl (ar (az (aj rfl rfl (gF st he1))) (ar (az (aj rfl rfl (gF st he1))) (ar s6 (ar s7 rfl)))) (Nat.le_refl _) (kA _ _)
 rw [List.take_left] at this
 exact this
abbrev stG (st0:Sto) (fr kp:List D) (fs:List (Str×W)):Sto:=st0++[.l fr,.l kp,.o fs]
noncomputable def fsO (n:Nat) (ln:List D) (gl:List D) (p:Int) (L:Nat):List (Str×W):=[("amounts",.d (.int (n:Int))),("lines",.d (.lst ln)),("goal",.d (.lst gl)),("part",.d (.int p)),("free",.h L),("kept",.h (L+1))]
section
variable {st0:Sto}{fr kp:List D}{fs:List (Str×W)}
theorem sg2:(stG st0 fr kp fs)[st0.length+2]?=some (.o fs):=by rw [List.getElem?_append_right (by lia)];simp
theorem sg0:lg (stG st0 fr kp fs) st0.length=some fr:=by unfold lg;rw [List.getElem?_append_right (by lia)];simp
theorem sg1:lg (stG st0 fr kp fs) (st0.length+1)=some kp:=by unfold lg;rw [List.getElem?_append_right (by lia)];simp
theorem ss2 {gs:List (Str×W)}:(stG st0 fr kp fs).set (st0.length+2) (.o gs)=stG st0 fr kp gs:=by rw [List.set_append_right _ _ (by lia)];simp
theorem ss0 {x:List D}:(stG st0 fr kp fs).set st0.length (.l x)=stG st0 x kp fs:=by rw [List.set_append_right _ _ (by lia)];simp
theorem ss1 {x:List D}:(stG st0 fr kp fs).set (st0.length+1) (.l x)=stG st0 fr x fs:=by rw [List.set_append_right _ _ (by lia)];simp
theorem lS {f:Str}{w:W}{a:Ef}{env:Ev} (h:a env (stG st0 fr kp fs)=some (.h (st0.length+2),stG st0 fr kp fs)) (hl:fs.lookup f=some w):ay f a env (stG st0 fr kp fs)=some (w,stG st0 fr kp fs):=by
 simp only [ay,h,Option.bind_some,sg2,hl,Option.map_some]
theorem pi {f:Str}{x:D}{o v:Ef}{env:Ev} (hv:v env (stG st0 fr kp fs)=some (.d x,stG st0 fr kp fs)) (ho:o env (stG st0 fr kp fs)=some (.h (st0.length+2),stG st0 fr kp fs)) (hz:fs.length < 1000) (hl:(fs.lookup f).isSome=true):kc f o v env (stG st0 fr kp fs)=some (.nx env (stG st0 fr kp (lH f (.d x) fs))):=by
 simp only [kc,hv,ho,Option.bind_some,sg2,hz,hl,and_self,if_true,ss2]
end
section
variable {n L:Nat}{ln gl ln' gl':List D}{p p':Int}
theorem yg:lH ("goal" : Str) (.d (.lst gl')) (fsO n ln gl p L)=fsO n ln gl' p L:=rfl
theorem wR:lH ("lines" : Str) (.d (.lst ln')) (fsO n ln gl p L)=fsO n ln' gl p L:=rfl
theorem ya:lH ("part" : Str) (.d (.int p')) (fsO n ln gl p L)=fsO n ln gl p' L:=rfl
theorem rZ:(fsO n ln gl p L).lookup ("lines" : Str)=some (.d (.lst ln)):=rfl
theorem xC:(fsO n ln gl p L).lookup ("goal" : Str)=some (.d (.lst gl)):=rfl
theorem yd:(fsO n ln gl p L).lookup ("part" : Str)=some (.d (.int p)):=rfl
end
noncomputable def stO (st0:Sto) (P:Pb) (S:Tb):Sto:=stG st0 (mpI P.n (nI S.free)) (mpI P.m (nI S.kept)) (fsO P.n (aT P.m P.n S.T) (mpI (P.n+1) S.G) S.p st0.length)
theorem v5 {st0:Sto}{P:Pb}{S:Tb}{ws:List W}{ws':List W} (h:vwA (stO st0 P S) ws=some ws'):vwA (stO st0 P S) (.h (st0.length+2)::ws)=some (.d (obD P S)::ws'):=by
 have e:vwW (stO st0 P S) (.h (st0.length+2))=some (.d (obD P S)):=by
  unfold vwW stO
  dsimp only
  rw [sg2]
  dsimp only
  rw [if_pos (by show 5 < 6;decide)]
  have:vwF (stG st0 (mpI P.n (nI S.free)) (mpI P.m (nI S.kept)) (fsO P.n (aT P.m P.n S.T) (mpI (P.n+1) S.G) S.p st0.length)) (fsO P.n (aT P.m P.n S.T) (mpI (P.n+1) S.G) S.p st0.length)=some [.int (P.n:Int),.lst (aT P.m P.n S.T),.lst (mpI (P.n+1) S.G),.int S.p,.lst (mpI P.n (nI S.free)),.lst (mpI P.m (nI S.kept))]:=by
   simp only [fsO,vwF,Option.map_some]
   rw [show lg (stG st0 (mpI P.n (nI S.free)) (mpI P.m (nI S.kept)) [("amounts",W.d (.int (P.n:Int))),("lines",.d (.lst (aT P.m P.n S.T))),("goal",.d (.lst (mpI (P.n+1) S.G))),("part",.d (.int S.p)),("free",.h st0.length),("kept",.h (st0.length+1))]) st0.length=some (mpI P.n (nI S.free)) from sg0,show lg (stG st0 (mpI P.n (nI S.free)) (mpI P.m (nI S.kept)) [("amounts",W.d (.int (P.n:Int))),("lines",.d (.lst (aT P.m P.n S.T))),("goal",.d (.lst (mpI (P.n+1) S.G))),("part",.d (.int S.p)),("free",.h st0.length),("kept",.h (st0.length+1))]) (st0.length+1)=some (mpI P.m (nI S.kept)) from sg1]
   rfl
  rw [this];rfl
 simp only [vwA,e,h,Option.bind_some,Option.map_some]
theorem u7 {m n r:Nat}{F:Nat->Nat->Int}{g:Nat->Int}:((List.range m).map λi=>D.lst (mpI (n+1) (F i))).set r (.lst (mpI (n+1) g))=aT m n λi=>if i=r then g else F i:=by
 apply List.ext_getElem?
 intro i
 by_cases hi:i < m
 ·rw [nG hi]
  by_cases e:i=r
  ·subst e
   rw [List.getElem?_set_self (by rw [List.length_map,List.length_range];exact hi)]
   unfold lnD;dsimp only;rw [if_pos rfl]
  ·rw [List.getElem?_set_ne (Ne.symm e),List.getElem?_map,List.getElem?_range hi]
   unfold lnD;dsimp only;rw [if_neg e];rfl
 ·rw [List.getElem?_eq_none (by rw [List.length_set,List.length_map,List.length_range];lia),List.getElem?_eq_none (by rw [eB];lia)]
theorem xB {st0:Sto}{P:Pb}{S:Tb} (h:Okt P S) {r e:Nat} (hr:r < P.m) (he:e < P.n):fC [.h (st0.length+2),.d (.int (r:Int)),.d (.int (e:Int))] (stO st0 P S)=some (.d .non,stO st0 P (piv S r e)):=by
 have hm:=h.m64
 have hn:=h.n64
 have hp:=h.good.pos
 -- turning,part
 generalize hT:S.T=T at *
 have fin:∀ (env:Ev) (s:Sto),gK [some (.h (st0.length+2)),some (.d (.int (r:Int))),some (.d (.int (e:Int))),none,none,none,none] (stO st0 P S)=some (.nx env s)->s.take (stO st0 P S).length=s->fC [.h (st0.length+2),.d (.int (r:Int)),.d (.int (e:Int))] (stO st0 P S)=some (.d .non,s):=λenv s h1 h2=>by
  show (gK [some (.h (st0.length+2)),some (.d (.int (r:Int))),some (.d (.int (e:Int))),none,none,none,none] (stO st0 P S)).bind _=_
  rw [h1]
  show some (W.d .non,s.take (stO st0 P S).length)=_
  rw [h2]
 have v0:∀ (a b c d g i:Option W) (s:Sto),iV 0 [some (.h (st0.length+2)),a,b,c,d,g,i] s=some (.h (st0.length+2),s):=λ_ _ _ _ _ _ _=>rfl
 have s3:aG (.nm 3) (iOp dIx (ay ("lines" : Str) (iV 0)) (iV 1)) [some (.h (st0.length+2)),some (.d (.int (r:Int))),some (.d (.int (e:Int))),none,none,none,none] (stO st0 P S)=some (.nx [some (.h (st0.length+2)),some (.d (.int (r:Int))),some (.d (.int (e:Int))),some (.d (.lst (mpI (P.n+1) (T r)))),none,none,none] (stO st0 P S)):=by
  refine az (aj (lS (v0 _ _ _ _ _ _ _) rZ) rfl ?_)
  rw [hT];exact qV _ hr
 have s4:aG (.nm 4) (ay ("part" : Str) (iV 0)) [some (.h (st0.length+2)),some (.d (.int (r:Int))),some (.d (.int (e:Int))),some (.d (.lst (mpI (P.n+1) (T r)))),none,none,none] (stO st0 P S)=some (.nx [some (.h (st0.length+2)),some (.d (.int (r:Int))),some (.d (.int (e:Int))),some (.d (.lst (mpI (P.n+1) (T r)))),some (.d (.int S.p)),none,none] (stO st0 P S)):=az (lS (v0 _ _ _ _ _ _ _) yd)
 have sT:∀ i c,i < P.m->c<=P.n->Sm (T i c):=λi c hi hc=>by rw [<-hT];exact h.sT i c hi hc
 have hfl:iLc 1 [3,2,4] (aX (ay ("lines" : Str) (iV 0))) (.nm 0) bf gr [some (.h (st0.length+2)),some (.d (.int (r:Int))),some (.d (.int (e:Int))),some (.d (.lst (mpI (P.n+1) (T r)))),some (.d (.int S.p)),none,none] (stO st0 P S)=some ((List.range P.m).map λi=>D.lst (mpI (P.n+1) λc=>if c=e then - T i e else (T r e*T i c - T i e*T r c) / S.p),stO st0 P S):=by
  have a1:=lS (f:=("lines" : Str)) (a:=iV 0) (st0:=st0) (fr:=mpI P.n (nI S.free)) (kp:=mpI P.m (nI S.kept)) (fs:=fsO P.n (aT P.m P.n S.T) (mpI (P.n+1) S.G) S.p st0.length) (v0 (some (.d (.int (r:Int)))) (some (.d (.int (e:Int)))) (some (.d (.lst (mpI (P.n+1) (T r))))) (some (.d (.int S.p))) none none _) rZ
  refine cu (cX a1) (by rw [eB];lia) ?_
  show lcI (.nm 0) bf gr [none,some (.d (.lst (mpI (P.n+1) (T r)))),some (.d (.int (e:Int))),some (.d (.int S.p))] (aT P.m P.n S.T) (stO st0 P S)=_
  rw [show aT P.m P.n S.T=(List.range P.m).map (lnD P.n T) by rw [hT];rfl]
  refine kL (g:=lnD P.n T) _ λi hi=>?_
  have hi':=List.mem_range.mp hi
  exact aw (ws:=[.d (lnD P.n T i),.d (.lst (mpI (P.n+1) (T r))),.d (.int (e:Int)),.d (.int S.p)]) rfl (rV (f:=T i) (g:=T r) (by lia) hp h.sp (λc hc=>sT i c hi' hc) (λc hc=>sT r c hr hc) (by lia))
 have s5:i3 5 1 2 3 4 (iLc 1 [3,2,4] (aX (ay ("lines" : Str) (iV 0))) (.nm 0) bf gr) [some (.h (st0.length+2)),some (.d (.int (r:Int))),some (.d (.int (e:Int))),some (.d (.lst (mpI (P.n+1) (T r)))),some (.d (.int S.p)),none,none] (stO st0 P S)=some (.nx [some (.h (st0.length+2)),some (.d (.int (r:Int))),some (.d (.int (e:Int))),some (.d (.lst (mpI (P.n+1) (T r)))),some (.d (.int S.p)),some (.d (.lst (aT P.m P.n (piv S r e).T))),none] (stO st0 P S)):=by
  simp only [i3,hfl,Option.bind_some,List.getD_cons_succ,List.getD_cons_zero]
  rw [List.length_map,List.length_range,fK hr,bQ,fK (by lia:e < P.n+1),Option.bind_some,Option.bind_some,if_pos ⟨by lia,by show 5 < 7;decide,rF _ _⟩,i6,u7]
  show some (Fl.nx [_,_,_,_,_,some (W.d (.lst (aT P.m P.n _))),none] _)=_
  have:(λi=>if i=r then (λj=>if j=e then S.p else T r j) else λc=>if c=e then - T i e else (T r e*T i c - T i e*T r c) / S.p)=(piv S r e).T:=by
   funext i c
   show _=if i=r then (if c=e then S.p else S.T r c) else (if c=e then - S.T i e else (S.T r e*S.T i c - S.T i e*S.T r c) / S.p)
   rw [hT]
   by_cases hi:i=r
   ·rw [if_pos hi,if_pos hi]
   ·rw [if_neg hi,if_neg hi]
  rw [this]
 have s6:kc ("goal" : Str) (iV 0) (au jT (aa (ay ("goal" : Str) (iV 0)) (aa (iV 3) (aa (iV 2) (aa (iV 4) ag))))) [some (.h (st0.length+2)),some (.d (.int (r:Int))),some (.d (.int (e:Int))),some (.d (.lst (mpI (P.n+1) (T r)))),some (.d (.int S.p)),some (.d (.lst (aT P.m P.n (piv S r e).T))),none] (stO st0 P S)=some (.nx [some (.h (st0.length+2)),some (.d (.int (r:Int))),some (.d (.int (e:Int))),some (.d (.lst (mpI (P.n+1) (T r)))),some (.d (.int S.p)),some (.d (.lst (aT P.m P.n (piv S r e).T))),none] (stG st0 (mpI P.n (nI S.free)) (mpI P.m (nI S.kept)) (fsO P.n (aT P.m P.n S.T) (mpI (P.n+1) (piv S r e).G) S.p st0.length))):=by
  have e0:(λc=>if c=e then - S.G e else (T r e*S.G c - S.G e*T r c) / S.p)=(piv S r e).G:=by
   funext c
   show _=if c=e then - S.G e else (S.T r e*S.G c - S.G e*S.T r c) / S.p
   rw [hT]
  have e1:=rV (st:=stO st0 P S) (f:=S.G) (g:=T r) (n:=P.n) (e:=e) (by lia) hp h.sp (λc hc=>h.sG c hc) (λc hc=>sT r c hr hc) (by lia)
  rw [e0] at e1
  have a1:=lS (f:=("goal" : Str)) (a:=iV 0) (st0:=st0) (fr:=mpI P.n (nI S.free)) (kp:=mpI P.m (nI S.kept)) (fs:=fsO P.n (aT P.m P.n S.T) (mpI (P.n+1) S.G) S.p st0.length) (v0 (some (.d (.int (r:Int)))) (some (.d (.int (e:Int)))) (some (.d (.lst (mpI (P.n+1) (T r))))) (some (.d (.int S.p))) (some (.d (.lst (aT P.m P.n (piv S r e).T)))) none _) xC
  have:=pi (f:=("goal" : Str)) (o:=iV 0) (v:=au jT (aa (ay ("goal" : Str) (iV 0)) (aa (iV 3) (aa (iV 2) (aa (iV 4) ag))))) (st0:=st0) (fr:=mpI P.n (nI S.free)) (kp:=mpI P.m (nI S.kept)) (fs:=fsO P.n (aT P.m P.n S.T) (mpI (P.n+1) S.G) S.p st0.length) (aw (ac a1 (ac rfl (ac rfl (ac rfl rfl)))) e1) (v0 _ _ _ _ _ _ _) (by show 6 < 1000;decide) rfl
  rw [yg] at this
  exact this
 have s7:kc ("lines" : Str) (iV 0) (iV 5) [some (.h (st0.length+2)),some (.d (.int (r:Int))),some (.d (.int (e:Int))),some (.d (.lst (mpI (P.n+1) (T r)))),some (.d (.int S.p)),some (.d (.lst (aT P.m P.n (piv S r e).T))),none] (stG st0 (mpI P.n (nI S.free)) (mpI P.m (nI S.kept)) (fsO P.n (aT P.m P.n S.T) (mpI (P.n+1) (piv S r e).G) S.p st0.length))=some (.nx [some (.h (st0.length+2)),some (.d (.int (r:Int))),some (.d (.int (e:Int))),some (.d (.lst (mpI (P.n+1) (T r)))),some (.d (.int S.p)),some (.d (.lst (aT P.m P.n (piv S r e).T))),none] (stG st0 (mpI P.n (nI S.free)) (mpI P.m (nI S.kept)) (fsO P.n (aT P.m P.n (piv S r e).T) (mpI (P.n+1) (piv S r e).G) S.p st0.length))):=by
  have:=pi (f:=("lines" : Str)) (o:=iV 0) (v:=iV 5) (x:=.lst (aT P.m P.n (piv S r e).T)) (env:=[some (.h (st0.length+2)),some (.d (.int (r:Int))),some (.d (.int (e:Int))),some (.d (.lst (mpI (P.n+1) (T r)))),some (.d (.int S.p)),some (.d (.lst (aT P.m P.n (piv S r e).T))),none]) (st0:=st0) (fr:=mpI P.n (nI S.free)) (kp:=mpI P.m (nI S.kept)) (fs:=fsO P.n (aT P.m P.n S.T) (mpI (P.n+1) (piv S r e).G) S.p st0.length) rfl rfl (by show 6 < 1000;decide) rfl
  rw [wR] at this
  exact this
 have s8:kc ("part" : Str) (iV 0) (iOp dIx (iV 3) (iV 2)) [some (.h (st0.length+2)),some (.d (.int (r:Int))),some (.d (.int (e:Int))),some (.d (.lst (mpI (P.n+1) (T r)))),some (.d (.int S.p)),some (.d (.lst (aT P.m P.n (piv S r e).T))),none] (stG st0 (mpI P.n (nI S.free)) (mpI P.m (nI S.kept)) (fsO P.n (aT P.m P.n (piv S r e).T) (mpI (P.n+1) (piv S r e).G) S.p st0.length))=some (.nx [some (.h (st0.length+2)),some (.d (.int (r:Int))),some (.d (.int (e:Int))),some (.d (.lst (mpI (P.n+1) (T r)))),some (.d (.int S.p)),some (.d (.lst (aT P.m P.n (piv S r e).T))),none] (stG st0 (mpI P.n (nI S.free)) (mpI P.m (nI S.kept)) (fsO P.n (aT P.m P.n (piv S r e).T) (mpI (P.n+1) (piv S r e).G) (piv S r e).p st0.length))):=by
  have ep:(piv S r e).p=T r e:=by show S.T r e=_;rw [hT]
  have:=pi (f:=("part" : Str)) (o:=iV 0) (v:=iOp dIx (iV 3) (iV 2)) (x:=.int (T r e)) (env:=[some (.h (st0.length+2)),some (.d (.int (r:Int))),some (.d (.int (e:Int))),some (.d (.lst (mpI (P.n+1) (T r)))),some (.d (.int S.p)),some (.d (.lst (aT P.m P.n (piv S r e).T))),none]) (st0:=st0) (fr:=mpI P.n (nI S.free)) (kp:=mpI P.m (nI S.kept)) (fs:=fsO P.n (aT P.m P.n (piv S r e).T) (mpI (P.n+1) (piv S r e).G) S.p st0.length) (aj rfl rfl (gF _ (by lia))) rfl (by show 6 < 1000;decide) rfl
  rw [ya] at this
  rw [ep]
  exact this
 generalize hfs:fsO P.n (aT P.m P.n (piv S r e).T) (mpI (P.n+1) (piv S r e).G) (piv S r e).p st0.length=FS at s8
 generalize hLN:W.d (.lst (aT P.m P.n (piv S r e).T))=LN at *
 generalize hTR:W.d (.lst (mpI (P.n+1) (T r)))=TR at *
 have ixh0:∀ {fr kp:List D}{k:Nat}{d:D},fr[k]?=some d->dIx (stG st0 fr kp FS) (.h st0.length) (.d (.int (k:Int)))=some d:=λ{fr kp k d} hk=>by
  show (lg (stG st0 fr kp FS) st0.length).bind (λds=>atI ds (k:Int))=_
  rw [sg0,Option.bind_some,dU hk]
 have ixh1:∀ {fr kp:List D}{k:Nat}{d:D},kp[k]?=some d->dIx (stG st0 fr kp FS) (.h (st0.length+1)) (.d (.int (k:Int)))=some d:=λ{fr kp k d} hk=>by
  show (lg (stG st0 fr kp FS) (st0.length+1)).bind (λds=>atI ds (k:Int))=_
  rw [sg1,Option.bind_some,dU hk]
 have lf:FS.lookup ("free" : Str)=some (.h st0.length):=by rw [<-hfs];rfl
 have lk:FS.lookup ("kept" : Str)=some (.h (st0.length+1)):=by rw [<-hfs];rfl
 have s9:aG (.nm 6) (iOp dIx (ay ("free" : Str) (iV 0)) (iV 2)) [some (.h (st0.length+2)),some (.d (.int (r:Int))),some (.d (.int (e:Int))),some TR,some (.d (.int S.p)),some LN,none] (stG st0 (mpI P.n (nI S.free)) (mpI P.m (nI S.kept)) FS)=some (.nx [some (.h (st0.length+2)),some (.d (.int (r:Int))),some (.d (.int (e:Int))),some TR,some (.d (.int S.p)),some LN,some (.d (.int (nI S.free e)))] (stG st0 (mpI P.n (nI S.free)) (mpI P.m (nI S.kept)) FS)):=az (aj (lS (v0 _ _ _ _ _ _ _) lf) rfl (ixh0 (dN he)))
 have s10:cq (ay ("free" : Str) (iV 0)) (iV 2) (iOp dIx (ay ("kept" : Str) (iV 0)) (iV 1)) [some (.h (st0.length+2)),some (.d (.int (r:Int))),some (.d (.int (e:Int))),some TR,some (.d (.int S.p)),some LN,some (.d (.int (nI S.free e)))] (stG st0 (mpI P.n (nI S.free)) (mpI P.m (nI S.kept)) FS)=some (.nx [some (.h (st0.length+2)),some (.d (.int (r:Int))),some (.d (.int (e:Int))),some TR,some (.d (.int S.p)),some LN,some (.d (.int (nI S.free e)))] (stG st0 (mpI P.n (nI (piv S r e).free)) (mpI P.m (nI S.kept)) FS)):=by
  have q1:iOp dIx (ay ("kept" : Str) (iV 0)) (iV 1) [some (.h (st0.length+2)),some (.d (.int (r:Int))),some (.d (.int (e:Int))),some TR,some (.d (.int S.p)),some LN,some (.d (.int (nI S.free e)))] (stG st0 (mpI P.n (nI S.free)) (mpI P.m (nI S.kept)) FS)=some (.d (.int (nI S.kept r)),stG st0 (mpI P.n (nI S.free)) (mpI P.m (nI S.kept)) FS):=aj (lS (v0 _ _ _ _ _ _ _) lk) rfl (ixh1 (dN hr))
  have q2:=lS (f:=("free" : Str)) (a:=iV 0) (st0:=st0) (fr:=mpI P.n (nI S.free)) (kp:=mpI P.m (nI S.kept)) (fs:=FS) (v0 (some (.d (.int (r:Int)))) (some (.d (.int (e:Int)))) (some TR) (some (.d (.int S.p))) (some LN) (some (.d (.int (nI S.free e)))) _) lf
  have q3:iV 2 [some (.h (st0.length+2)),some (.d (.int (r:Int))),some (.d (.int (e:Int))),some TR,some (.d (.int S.p)),some LN,some (.d (.int (nI S.free e)))] (stG st0 (mpI P.n (nI S.free)) (mpI P.m (nI S.kept)) FS)=some (.d (.int (e:Int)),stG st0 (mpI P.n (nI S.free)) (mpI P.m (nI S.kept)) FS):=rfl
  have hs:hW (stG st0 (mpI P.n (nI S.free)) (mpI P.m (nI S.kept)) FS) (.h st0.length) (.d (.int (e:Int))) (.d (.int (nI S.kept r)))=some (stG st0 (mpI P.n (nI (piv S r e).free)) (mpI P.m (nI S.kept)) FS):=by
   simp only [hW,sg0,Option.bind_some,bQ,fK he,Option.map_some,ss0,i6]
   congr 3
   funext j
   show _=(((if j=e then S.kept r else S.free j:Nat)):Int)
   by_cases hj:j=e
   ·rw [if_pos hj,if_pos hj];rfl
   ·rw [if_neg hj,if_neg hj];rfl
  simp only [cq,q1,q2,q3,Option.bind_some,hs,Option.map_some]
 have s11:cq (ay ("kept" : Str) (iV 0)) (iV 1) (iV 6) [some (.h (st0.length+2)),some (.d (.int (r:Int))),some (.d (.int (e:Int))),some TR,some (.d (.int S.p)),some LN,some (.d (.int (nI S.free e)))] (stG st0 (mpI P.n (nI (piv S r e).free)) (mpI P.m (nI S.kept)) FS)=some (.nx [some (.h (st0.length+2)),some (.d (.int (r:Int))),some (.d (.int (e:Int))),some TR,some (.d (.int S.p)),some LN,some (.d (.int (nI S.free e)))] (stG st0 (mpI P.n (nI (piv S r e).free)) (mpI P.m (nI (piv S r e).kept)) FS)):=by
  have q1:iV 6 [some (.h (st0.length+2)),some (.d (.int (r:Int))),some (.d (.int (e:Int))),some TR,some (.d (.int S.p)),some LN,some (.d (.int (nI S.free e)))] (stG st0 (mpI P.n (nI (piv S r e).free)) (mpI P.m (nI S.kept)) FS)=some (.d (.int (nI S.free e)),stG st0 (mpI P.n (nI (piv S r e).free)) (mpI P.m (nI S.kept)) FS):=rfl
  have q2:=lS (f:=("kept" : Str)) (a:=iV 0) (st0:=st0) (fr:=mpI P.n (nI (piv S r e).free)) (kp:=mpI P.m (nI S.kept)) (fs:=FS) (v0 (some (.d (.int (r:Int)))) (some (.d (.int (e:Int)))) (some TR) (some (.d (.int S.p))) (some LN) (some (.d (.int (nI S.free e)))) _) lk
  have q3:iV 1 [some (.h (st0.length+2)),some (.d (.int (r:Int))),some (.d (.int (e:Int))),some TR,some (.d (.int S.p)),some LN,some (.d (.int (nI S.free e)))] (stG st0 (mpI P.n (nI (piv S r e).free)) (mpI P.m (nI S.kept)) FS)=some (.d (.int (r:Int)),stG st0 (mpI P.n (nI (piv S r e).free)) (mpI P.m (nI S.kept)) FS):=rfl
  have hs:hW (stG st0 (mpI P.n (nI (piv S r e).free)) (mpI P.m (nI S.kept)) FS) (.h (st0.length+1)) (.d (.int (r:Int))) (.d (.int (nI S.free e)))=some (stG st0 (mpI P.n (nI (piv S r e).free)) (mpI P.m (nI (piv S r e).kept)) FS):=by
   simp only [hW,sg1,Option.bind_some,bQ,fK hr,Option.map_some,ss1,i6]
   congr 3
   congr 1
   funext j
   show _=(((if j=r then S.free e else S.kept j:Nat)):Int)
   by_cases hj:j=r
   ·rw [if_pos hj,if_pos hj];rfl
   ·rw [if_neg hj,if_neg hj];rfl
  simp only [cq,q1,q2,q3,Option.bind_some,hs,Option.map_some]
 have:=fin _ _ (ar s3 (ar s4 (ar s5 (ar s6 (ar s7 (ar s8 (ar s9 (ar s10 s11)))))))) ?_
 ·rw [this,<-hfs];rfl
 ·refine List.take_of_length_le ?_
  unfold stO stG
  rw [List.length_append,List.length_append];exact Nat.le_refl _
end Own
namespace Sx
theorem sumN_abs {n:Nat}{f:Nat->Int}{B:Nat} (h:∀ k,k < n->(f k).natAbs<=B):(sumN n f).natAbs<=n*B:=by
 induction n with
 | zero=>rw [sumN];omega
 | succ n ih=>
  rw [sumN,Nat.add_mul,Nat.one_mul]
  have h1:=ih λk hk=>h k (by omega)
  have h2:=h n (by omega)
  have h3:=Int.natAbs_add_le (sumN n f) (f n)
  omega
theorem sg_abs (k:Nat):(sg k).natAbs=1:=by unfold sg;split<;>rfl
theorem det_le {B X:Nat}:∀ (m:Nat) {C:Nat->Vec},m*B<=X->(∀ k t,k < m->t < m->(C k t).natAbs<=B)->(det m C).natAbs<=X ^ m
 | 0,C,_,_=>by rw [det];exact Nat.le_refl _
 | m+1,C,hX,h=>by
  rw [det]
  have hm:m*B<=X:=Nat.le_trans (Nat.mul_le_mul_right B (by omega)) hX
  have:=sumN_abs (n:=m+1) (f:=λk=>sg k*C k 0*det m (λj t=>C (skip k j) (t+1))) (B:=B*X ^ m) λk hk=>by
   have ih:=det_le m (C:=λj t=>C (skip k j) (t+1)) hm λj t hj ht=>h _ _ (by unfold skip;split<;>omega) (by omega)
   rw [Int.natAbs_mul,Int.natAbs_mul,sg_abs,Nat.one_mul]
   exact Nat.mul_le_mul (h k 0 hk (by omega)) ih
  refine Nat.le_trans this ?_
  rw [<-Nat.mul_assoc,Nat.pow_succ,Nat.mul_comm (X ^ m)]
  exact Nat.mul_le_mul_right _ hX
structure Bd (P:Pb):Prop where
 m64:P.m<=64
 n64:P.n<=100
 A:∀ k,k < P.n+P.m->∀ t,t < P.m->(P.A k t).natAbs<=2 ^ 50
 b:∀ t,t < P.m->(P.b t).natAbs<=2 ^ 50
 g:∀ k,k < P.n+P.m->(P.g k).natAbs<=2 ^ 50
variable {P:Pb}
theorem Bd.det (h:Bd P) {C:Nat->Vec} (hC:∀ k t,k < P.m->t < P.m->(C k t).natAbs<=2 ^ 50):(det P.m C).natAbs<=2 ^ 3584:=by
 have hm:=h.m64
 have h1:=det_le (B:=2 ^ 50) (X:=2 ^ 56) P.m (C:=C) (by
  have:P.m*2 ^ 50<=64*2 ^ 50:=Nat.mul_le_mul_right _ hm
  exact Nat.le_trans this (by decide)) hC
 refine Nat.le_trans h1 ?_
 rw [<-Nat.pow_mul]
 exact Nat.pow_le_pow_right (by decide) (by omega)
theorem unit_le (r t:Nat):(unit r t).natAbs<=2 ^ 50:=by unfold unit;split<;>decide
theorem Bd.basis (h:Bd P) {S:Tb} (hn:Named P S) {v:Vec} (hv:∀ t,t < P.m->(v t).natAbs<=2 ^ 50) (i k t:Nat) (hk:k < P.m) (ht:t < P.m):(upd (basis P S) i v k t).natAbs<=2 ^ 50:=by
 unfold upd
 split
 ·exact hv t ht
 ·exact h.A _ (hn.bound.2 k hk) t ht
theorem Bd.T (h:Bd P) {S:Tb} (hg:Good P S) (hn:Named P S) {i c:Nat} (hi:i < P.m) (hc:c<=P.n):(S.T i c).natAbs<=2 ^ 3584:=by
 rw [hg.entry hc hi]
 refine h.det λk t hk ht=>h.basis hn (λt ht=>?_) i k t hk ht
 unfold colV
 by_cases hcn:c < P.n
 ·rw [if_pos hcn];exact h.A _ (hn.bound.1 c hcn) t ht
 ·rw [if_neg hcn];exact h.b t ht
theorem Bd.L (h:Bd P) {S:Tb} (hn:Named P S) (i s:Nat):(LV P S i s).natAbs<=2 ^ 3584:=by
 refine h.det λk t hk ht=>h.basis hn (λt ht=>?_) i k t hk ht
 unfold XV
 split
 ·exact h.b t ht
 ·exact unit_le _ _
theorem Bd.p (h:Bd P) {S:Tb} (hg:Good P S) (hn:Named P S):S.p.natAbs<=2 ^ 3584:=by
 rw [hg.dt]
 exact h.det λk t hk ht=>h.A _ (hn.bound.2 k hk) t ht
theorem Bd.G (h:Bd P) {S:Tb} (hg:Good P S) (hn:Named P S) {c:Nat} (hc:c<=P.n):(S.G c).natAbs<=65*(2 ^ 50*2 ^ 3584):=by
 rw [hg.goal c hc]
 have h1:=sumN_abs (n:=P.m) (f:=λi=>P.g (S.kept i)*S.T i c) (B:=2 ^ 50*2 ^ 3584) λi hi=>by
  rw [Int.natAbs_mul]
  exact Nat.mul_le_mul (h.g _ (hn.bound.2 i hi)) (h.T hg hn hi hc)
 have h2:(S.p*gainC P S c).natAbs<=2 ^ 50*2 ^ 3584:=by
  rw [Int.natAbs_mul,Nat.mul_comm]
  refine Nat.mul_le_mul ?_ (h.p hg hn)
  unfold gainC
  by_cases hcn:c < P.n
  ·rw [if_pos hcn];exact h.g _ (hn.bound.1 c hcn)
  ·rw [if_neg hcn];decide
 have h3:=Int.natAbs_sub_le (sumN P.m λi=>P.g (S.kept i)*S.T i c) (S.p*gainC P S c)
 have h4:P.m*(2 ^ 50*2 ^ 3584)<=64*(2 ^ 50*2 ^ 3584):=Nat.mul_le_mul_right _ h.m64
 generalize 2 ^ 50*2 ^ 3584=Z at *
 omega
end Sx
set_option maxHeartbeats 1000000
namespace Own
open PySem L2
open Sx (Pb Tb Good Named Fe LV ZV piv lexP leastR leaveL sumN unit colV basis)
theorem uj {a b:Nat} (h:a < b):2 ^ a < 2 ^ b:=Nat.pow_lt_pow_right (by decide) h
theorem wq {z:Int} (h:z.natAbs<=2 ^ 3584):Sm z:=Nat.lt_of_le_of_lt h (uj (by decide))
theorem zM {z:Int} (h:z.natAbs<=65*(2 ^ 50*2 ^ 3584)):Sm z:=by
 refine Nat.lt_of_le_of_lt h ?_
 refine Nat.lt_of_le_of_lt (Nat.mul_le_mul_right (2 ^ 50*2 ^ 3584) (by decide:65<=2 ^ 7)) ?_
 rw [<-Nat.pow_add,<-Nat.pow_add]
 exact uj (by decide)
theorem zT {P:Pb}{S:Tb} (b:Sx.Bd P) (g:Good P S) (n:Named P S):Okt P S:=by
 have h1:=b.m64
 exact⟨g,n,by lia,b.n64,λi c hi hc=>wq (b.T g n hi hc),λi s _ _=>wq (b.L n i s),λc hc=>zM (b.G g n hc),wq (b.p g n)⟩
theorem yO {c:Tf}{b:Sf}{m:Nat}{env:Ev}{st s:Sto} (h:c env st=some (false,s)):d6 c b (m+1) env st=some (.nx env s):=by
 rw [d6,h];rfl
theorem ww {c:Tf}{b:Sf}{m:Nat}{env e:Ev}{st s s2:Sto}{r:Option Fl} (h:c env st=some (true,s)) (hb:b env s=some (.nx e s2)) (hr:d6 c b m e s2=r):d6 c b (m+1) env st=r:=by
 rw [d6,h]
 show ((b env s).bind _)=_
 rw [hb];exact hr
theorem BL {c:Tf}{b:Sf}{m:Nat}{env:Ev}{st s s2:Sto}{w:W} (h:c env st=some (true,s)) (hb:b env s=some (.rt w s2)):d6 c b (m+1) env st=some (.rt w s2):=by
 rw [d6,h]
 show ((b env s).bind _)=_
 rw [hb];rfl
theorem lT {st:Sto}{a0 a2:Option W}:∀ (n a b:Nat) (o:Option W),b < n->∃ o',d6 gI gY n [a0,some (.d (.int (a:Int))),a2,some (.d (.int (b:Int))),o] st=some (.nx [a0,some (.d (.int ((Nat.gcd a b:Nat):Int))),a2,some (.d (.int 0)),o'] st)
 | 0,a,b,o,h=>by lia
 | n+1,a,b,o,h=>by
  by_cases hb:b=0
  ·subst hb
   refine⟨o,?_⟩
   rw [Nat.gcd_zero_right]
   exact yO rfl
  ·have hf:(!((b:Int)==(0:Int)))=true:=by simp;lia
   obtain⟨o',ih⟩:=lT n b (a % b) (some (.d (.int ((a % b:Nat):Int)))) (by have:=Nat.mod_lt a (Nat.pos_of_ne_zero hb);lia)
   refine⟨o',?_⟩
   have eg:Nat.gcd a b=Nat.gcd b (a % b):=by rw [Nat.gcd_comm a b,Nat.gcd_rec b a,Nat.gcd_comm]
   have hp:(0:Int) < (b:Int):=by lia
   have em:iH st (.d (.int (a:Int))) (.d (.int (b:Int)))=some (.int ((a % b:Nat):Int)):=by
    simp only [iH,hp,if_true];rfl
   rw [eg,<-ih]
   exact ww (s:=st) (aY rfl rfl ((yJ st _).trans (by rw [hf]))) (ar (az (aj rfl rfl em)) rfl) rfl
theorem qK {st:Sto}{ns:List Int} (hn:∀ n ∈ ns,Sm n):dq [.d (.lst (ns.map D.int))] st=some (.d (.int ((gT 0 ns:Nat):Int)),st):=by
 obtain⟨env',s2,e2,⟨o2,o3,o4,rfl⟩,rfl⟩:=fU (g:=.nm 2) (body:=gZ) (ds:=ns.map D.int) (λi env s=>(∃ o2 o3 o4,env=[some (.d (.lst (ns.map D.int))),some (.d (.int ((gT 0 (ns.take i):Nat):Int))),o2,o3,o4])/\s=st)
  (env:=[some (.d (.lst (ns.map D.int))),some (.d (.int 0)),none,none,none]) (st:=st) ⟨⟨_,_,_,rfl⟩,rfl⟩ (λi d env s hd ⟨⟨o2,o3,o4,e⟩,es⟩=>by
   subst e es
   rw [List.getElem?_map,Option.map_eq_some_iff] at hd
   obtain⟨n,hk,rfl⟩:=hd
   obtain⟨hi,hk'⟩:=List.getElem?_eq_some_iff.mp hk
   have hb:=hn n (List.mem_of_getElem? hk)
   have ea:sS s [.d (.int n)]=some (.int ((n.natAbs:Nat):Int)):=by
    show some (D.int (if n < 0 then -n else n))=_
    rw [show (if n < 0 then -n else n)=((n.natAbs:Nat):Int) by split<;>lia]
   have eg:gT 0 (ns.take (i+1))=Nat.gcd (gT 0 (ns.take i)) n.natAbs:=by
    rw [List.take_succ_eq_append_getElem hi,hk',rO]
   obtain⟨o',ew⟩:=lT (st:=s) (a0:=some (.d (.lst (ns.map D.int)))) (a2:=some (.d (.int n))) (2 ^ 8000) (gT 0 (ns.take i)) n.natAbs o4 (Nat.lt_trans hb (uj (by decide)))
   refine⟨_,[some (.d (.lst (ns.map D.int))),some (.d (.int ((gT 0 (ns.take (i+1)):Nat):Int))),some (.d (.int n)),some (.d (.int 0)),o'],s,rfl,.inl ?_,⟨_,_,_,rfl⟩,rfl⟩
   rw [eg]
   generalize ns.map D.int=L at ew ⊢
   exact ar (az (aZ (ac rfl rfl) ea)) ew)
 rw [List.length_map,List.take_length] at e2
 generalize ns.map D.int=L at e2 ⊢
 exact aQ (n:=5) (k:=1) (b:=d9) rfl (ar rfl (ar (dc (cX rfl) e2) rfl))
theorem sk {te:Ef}{st:Sto}{ns:List Int}{g:Int} (h0:0 < g) (hg:Sm g) (ht:te=iOp ny (iV 0) (iV 1)):lcI (.nm 0) bf te [none,some (.d (.int g))] (ns.map D.int) st=some ((ns.map λx=>x / g).map D.int,st):=by
 subst ht
 have h:=xz (g:=.nm 0) (te:=iOp ny (iV 0) (iV 1)) (env:=[none,some (.d (.int g))]) (st:=st) (λd=>match d with | .int x=>.int (x / g) | d=>d) (ds:=ns.map D.int) λd hd=>by
  obtain⟨y,hy,rfl⟩:=List.mem_map.mp hd
  exact⟨_,rfl,aj rfl rfl (tP st h0 hg)⟩
 rw [h,List.map_map,List.map_map];rfl
theorem s0 {ns:List Int}{x:Int} (hx:x ∈ ns) (x0:x≠0) (hs:Sm x):0 < ((gT 0 ns:Nat):Int)/\Sm ((gT 0 ns:Nat):Int):=by
 obtain⟨g0,g1⟩:=wt hx x0
 refine⟨by lia,?_⟩
 show ((gT 0 ns:Nat):Int).natAbs < _
 rw [Int.natAbs_natCast]
 exact Nat.lt_of_le_of_lt g1 hs
theorem sO {st:Sto}{ns:List Int} (hb:∀ x ∈ ns,Sm x) (hp:∃ x ∈ ns,x≠0) (hl:ns.length<=1000):iG [.d (.lst (ns.map D.int))] st=some (.d (.tup ((ns.map λx=>x / ((gT 0 ns:Nat):Int)).map D.int)),st):=by
 obtain⟨x,hx,x0⟩:=hp
 have e1:=qK (st:=st) hb
 obtain⟨g0,g1⟩:=s0 hx x0 (hb x hx)
 generalize ((gT 0 ns:Nat):Int)=g at *
 have f0:(g==(0:Int))=false:=by simp;lia
 have key:=sk (te:=lP) (st:=st) (ns:=ns) g0 g1 rfl
 have hz:(ns.map D.int).length<=1000000:=by rw [List.length_map];lia
 generalize (ns.map λx=>x / g).map D.int=G at *
 generalize ns.map D.int=N at *
 exact aQ (n:=2) (k:=1) (b:=jX) rfl (ar (az (i:=1) (aw rfl e1)) (ar (dy (aY rfl rfl (by rw [oP,f0])) rfl) (bn (aZ (ac (aI (cu (cX rfl) hz key)) rfl) rfl))))
noncomputable def acc (e:Nat->Nat) (y:Nat->Int) (i k:Nat):Int:=sumN i λj=>if e j=k then y j else 0
theorem qZ (e:Nat->Nat) (y:Nat->Int) (i k:Nat):acc e y (i+1) k=acc e y i k+if e i=k then y i else 0:=rfl
theorem pA {e:Nat->Nat}{y:Nat->Int}{i k:Nat} (h:∀ j,j < i->e j≠k):acc e y i k=0:=by
 unfold acc
 rw [Sx.sumN_congr (g:=λ_=>0) λj hj=>if_neg (h j hj),Sx.sumN_zero]
theorem ua {e:Nat->Nat}{y:Nat->Int}{d N i:Nat} (hd:d<=e i) (hj:∀ j,j < i->e j≠e i):(mpI N λr=>acc e y i (d+r)).set (e i - d) (.int (y i))=mpI N λr=>acc e y (i+1) (d+r):=by
 rw [i6]
 refine cD λr _=>?_
 rw [qZ]
 by_cases hr:r=e i - d
 ·rw [if_pos hr,if_pos (by lia),pA λj hj'=>by have:=hj j hj';lia];lia
 ·rw [if_neg hr,if_neg (by lia)];lia
theorem rC {e:Nat->Nat}{y:Nat->Int}{d N i:Nat} (h:∀ r,r < N->e i≠d+r):(mpI N λr=>acc e y i (d+r))=mpI N λr=>acc e y (i+1) (d+r):=by
 refine cD λr hr=>?_
 rw [qZ,if_neg (h r hr)];lia
theorem rA (n:Nat) (e:Nat->Nat) (y:Nat->Int) (d:Nat):(List.replicate n [D.int 0]).flatten=mpI n λr=>acc e y 0 (d+r):=by
 show _=(List.range n).map λ_=>D.int 0
 induction n with
 | zero=>rfl
 | succ n ih=>rw [List.replicate_succ',List.flatten_append,ih,List.range_succ,List.map_append];rfl
theorem lh {f:Ef}{env:Ev}{st:Sto}{n:Nat} (hf:f env st=some (.d (.int (n:Int)),st)) (hn:n<=900) (e:Nat->Nat) (y:Nat->Int) (d:Nat):ft (sr og (aD (ck (aa (iC (.int 0)) ag))) f) env st=some (.h st.length,st++[.l (mpI n λr=>acc e y 0 (d+r))]):=by
 have h0:sr og (aD (ck (aa (iC (.int 0)) ag))) f env st=some (mpI n λr=>acc e y 0 (d+r),st):=by
  show ((f env st).bind λq=>(og q.2 (.d (.lst [.int 0])) q.1).map λl=>(l,q.2))=_
  rw [hf]
  show (og st (.d (.lst [.int 0])) (.d (.int (n:Int)))).map (λl=>(l,st))=_
  unfold og;dsimp only
  rw [if_pos ⟨by show 1<=1000;decide,by lia,by lia⟩,Int.toNat_natCast,rA n e y d];rfl
 simp only [ft,h0,Option.map_some]
end Own
set_option maxHeartbeats 1000000
namespace Own
open PySem L2
open Sx (Pb Tb Good Named Fe LV ZV piv lexP leastR leaveL sumN unit colV basis)
theorem sIx {o i v:Ef}{env:Ev}{st:Sto}{xs:List D}{k:Nat}{d:D} (hv:v env (st++[.l xs])=some (.d d,st++[.l xs])) (ho:o env (st++[.l xs])=some (.h st.length,st++[.l xs])) (hi:i env (st++[.l xs])=some (.d (.int (k:Int)),st++[.l xs])) (hk:k < xs.length):cq o i v env (st++[.l xs])=some (.nx env (st++[.l (xs.set k d)])):=by
 have hs:hW (st++[.l xs]) (.h st.length) (.d (.int (k:Int))) (.d d)=some (st++[.l (xs.set k d)]):=by
  simp only [hW,kA,Option.bind_some,fK hk,Option.map_some,qG]
 simp only [cq,hv,ho,hi,Option.bind_some,hs,Option.map_some]
theorem pO {a:Ef}{env:Ev}{st:Sto}{m:Nat}{f:Nat->Nat} (h:a env st=some (.d (.lst (mpI m (nI f))),st)):fX (aa a ag) env st=some ((List.range m).map λi=>D.tup [.int ((i:Nat):Int),.int (nI f i)],st):=by
 have:=ac (b:=ag) h rfl
 rw [<-qr]
 simp only [fX,this,Option.bind_some]
theorem nv {m:Nat}{g:Nat->D}{i:Nat}{d:D} (h:((List.range m).map g)[i]?=some d):i < m/\d=g i:=by
 rw [List.getElem?_map,Option.map_eq_some_iff] at h
 obtain⟨k,hk,rfl⟩:=h
 obtain⟨hi,hk'⟩:=List.getElem?_eq_some_iff.mp hk
 rw [List.getElem_range] at hk'
 rw [List.length_range] at hi
 exact⟨hi,by rw [hk']⟩
theorem jS:∀ ns:List Int,tY (ns.map D.int)=true
 | []=>rfl
 | n::ns=>jS ns
theorem wb (n:Nat) (f:Nat->Int):okT (.tup (mpI n f))=true:=by
 rw [cL];exact jS _
section
variable {P:Pb}{S:Tb}{st:Sto}
theorem BN (h:Okt P S):iW [.d (obD P S)] st=some (.d (.lst (mpI P.n λk=>acc S.kept (λi=>S.T i P.n) P.m k)),st):=by
 have hm:=h.m64
 have hn:=h.n64
 generalize hy:(λi=>S.T i P.n)=y
 have v0:∀ (a b c:Option W) (s:Sto),iV 0 [some (.d (obD P S)),a,b,c] s=some (.d (obD P S),s):=λ_ _ _ _=>rfl
 have s1:=lh (st:=st) (dz (v0 none none none st)) (by lia) S.kept y 0
 obtain⟨env',s2,e2,⟨o2,o3,rfl⟩,rfl⟩:=fU (g:=.tp [2,3]) (body:=jv) (ds:=(List.range P.m).map λi=>D.tup [.int ((i:Nat):Int),.int (nI S.kept i)])
  (λi env s=>(∃ o2 o3,env=[some (.d (obD P S)),some (.h st.length),o2,o3])/\s=st++[.l (mpI P.n λr=>acc S.kept y i (0+r))])
  (env:=[some (.d (obD P S)),some (.h st.length),none,none]) (st:=st++[.l (mpI P.n λr=>acc S.kept y 0 (0+r))]) ⟨⟨_,_,rfl⟩,rfl⟩ (λi d env s hd ⟨⟨o2,o3,e⟩,es⟩=>by
   subst e es
   obtain⟨hi,rfl⟩:=nv hd
   refine⟨_,_,_,rfl,.inl ?_,⟨some (.d (.int ((i:Nat):Int))),some (.d (.int (nI S.kept i))),rfl⟩,rfl⟩
   generalize hX:(mpI P.n λr=>acc S.kept y i (0+r))=xs
   have tl:bg dLt (iV 3) (ay ("amounts" : Str) (iV 0)) [some (.d (obD P S)),some (.h st.length),some (.d (.int ((i:Nat):Int))),some (.d (.int (nI S.kept i)))] (st++[.l xs])=some (decide (nI S.kept i < (P.n:Int)),st++[.l xs]):=aY rfl (dz (v0 _ _ _ _)) (qU _ _ _)
   by_cases hk:S.kept i < P.n
   ·rw [decide_eq_true (by show ((S.kept i:Nat):Int) < _;lia)] at tl
    have hv:iOp dIx (iOp dIx (ay ("lines" : Str) (iV 0)) (iV 2)) (iUn oA (iC (.int 1))) [some (.d (obD P S)),some (.h st.length),some (.d (.int ((i:Nat):Int))),some (.d (.int (nI S.kept i)))] (st++[.l xs])=some (.d (.int (y i)),st++[.l xs]):=by
     rw [<-hy]
     exact aj (aj (fj (v0 _ _ _ _)) rfl (qV _ hi)) rfl (uK _)
    have:=sIx (k:=S.kept i) hv (o:=iV 1) (i:=iV 3) rfl rfl (by rw [<-hX,bQ];exact hk)
    rw [<-hX] at this ⊢ tl
    rw [<-ua (d:=0) (N:=P.n) (e:=S.kept) (y:=y) (i:=i) (by lia) λj hj e=>by have:=jp h.good (by lia) hi e;lia]
    exact gf tl this
   ·rw [decide_eq_false (by show ¬ ((S.kept i:Nat):Int) < _;lia)] at tl
    rw [<-rC (d:=0) (N:=P.n) (e:=S.kept) (y:=y) (i:=i) λr hr=>by lia,hX]
    exact dy tl rfl)
 rw [List.length_map,List.length_range] at e2
 have:=mC (n:=4) (k:=1) (b:=gm) (ws:=[.d (obD P S)]) (st:=st) (h:=st.length) rfl (ar (az s1) (ar (dc (pO (qq (v0 _ _ _ _))) e2) rfl)) (Nat.le_refl _) (kA _ _)
 rw [List.take_left] at this
 simp only [Nat.zero_add] at this
 exact this
noncomputable def pr (P:Pb) (S:Tb) (i r:Nat):Int:=if ∃ c,c < i/\S.free c=P.n+r then ZV P S (r+1) else 0
theorem A7 (h:Okt P S) (hg:∀ r,r < P.m->P.g (P.n+r)=0):jM [.d (obD P S)] st=some (.d (.lst (mpI P.m λr=>ZV P S (r+1))),st):=by
 have hm:=h.m64
 have hn:=h.n64
 have v0:∀ (a b c:Option W) (s:Sto),iV 0 [some (.d (obD P S)),a,b,c] s=some (.d (obD P S),s):=λ_ _ _ _=>rfl
 have hz:(mpI P.m λr=>acc S.free S.G 0 (0+r))=mpI P.m λr=>pr P S 0 r:=cD λr _=>by
  unfold pr
  rw [if_neg λ⟨c,hc,_⟩=>by lia];rfl
 have hlen:iCB bA (aa (ay ("lines" : Str) (iV 0)) ag) [some (.d (obD P S)),none,none,none] st=some (.d (.int ((P.m:Nat):Int)),st):=by
  have:=aZ (g:=bA) (ac (b:=ag) (fj (v0 none none none st)) rfl) (kT _ _)
  rw [eB] at this
  exact this
 have s1:=lh (st:=st) hlen (by lia) S.free S.G 0
 rw [hz] at s1
 obtain⟨env',s2,e2,⟨o2,o3,rfl⟩,rfl⟩:=fU (g:=.tp [2,3]) (body:=km) (ds:=(List.range P.n).map λi=>D.tup [.int ((i:Nat):Int),.int (nI S.free i)])
  (λi env s=>(∃ o2 o3,env=[some (.d (obD P S)),some (.h st.length),o2,o3])/\s=st++[.l (mpI P.m λr=>pr P S i r)])
  (env:=[some (.d (obD P S)),some (.h st.length),none,none]) (st:=st++[.l (mpI P.m λr=>pr P S 0 r)]) ⟨⟨_,_,rfl⟩,rfl⟩ (λi d env s hd ⟨⟨o2,o3,e⟩,es⟩=>by
   subst e es
   obtain⟨hi,rfl⟩:=nv hd
   refine⟨_,_,_,rfl,.inl ?_,⟨some (.d (.int ((i:Nat):Int))),some (.d (.int (nI S.free i))),rfl⟩,rfl⟩
   have hb:=h.named.bound.1 i hi
   generalize hX:(mpI P.m λr=>pr P S i r)=xs
   have tl:bg dGe (iV 3) (ay ("amounts" : Str) (iV 0)) [some (.d (obD P S)),some (.h st.length),some (.d (.int ((i:Nat):Int))),some (.d (.int (nI S.free i)))] (st++[.l xs])=some (decide (nI S.free i>=(P.n:Int)),st++[.l xs]):=aY rfl (dz (v0 _ _ _ _)) (xR _ _ _)
   by_cases hk:P.n<=S.free i
   ·rw [decide_eq_true (by show ((S.free i:Nat):Int)>=_;lia)] at tl
    have ho:iOp mj (iV 3) (ay ("amounts" : Str) (iV 0)) [some (.d (obD P S)),some (.h st.length),some (.d (.int ((i:Nat):Int))),some (.d (.int (nI S.free i)))] (st++[.l xs])=some (.d (.int ((S.free i - P.n:Nat):Int)),st++[.l xs]):=by
     rw [show ((S.free i - P.n:Nat):Int)=nI S.free i - (P.n:Int) by show _=((S.free i:Nat):Int) - _;lia]
     exact aj rfl (dz (v0 _ _ _ _)) rfl
    have hv:iOp dIx (ay ("goal" : Str) (iV 0)) (iV 2) [some (.d (obD P S)),some (.h st.length),some (.d (.int ((i:Nat):Int))),some (.d (.int (nI S.free i)))] (st++[.l xs])=some (.d (.int (S.G i)),st++[.l xs]):=aj (mz (v0 _ _ _ _)) rfl (gF _ (by lia))
    have:=sIx (k:=S.free i - P.n) hv (o:=iV 1) (i:=iOp mj (iV 3) (ay ("amounts" : Str) (iV 0))) rfl ho (by rw [<-hX,bQ];lia)
    have eX:xs.set (S.free i - P.n) (.int (S.G i))=mpI P.m λr=>pr P S (i+1) r:=by
     rw [<-hX,i6]
     refine cD λr hr=>?_
     by_cases er:r=S.free i - P.n
     ·rw [if_pos er]
      unfold pr
      rw [if_pos ⟨i,by lia,by lia⟩]
      exact (Sx.price_free h.good h.named hg hr hi (by lia)).symm
     ·rw [if_neg er]
      unfold pr
      by_cases ex:∃ c,c < i/\S.free c=P.n+r
      ·rw [if_pos ex];obtain⟨c,h1,h2⟩:=ex;rw [if_pos ⟨c,by lia,h2⟩]
      ·rw [if_neg ex,if_neg λ⟨c,h1,h2⟩=>ex ⟨c,by
        by_cases z:c=i
        ·subst z;lia
        ·lia,h2⟩]
    rw [<-eX]
    exact gf tl this
   ·rw [decide_eq_false (by show ¬ ((S.free i:Nat):Int)>=_;lia)] at tl
    have eX:xs=mpI P.m λr=>pr P S (i+1) r:=by
     rw [<-hX]
     refine cD λr hr=>?_
     unfold pr
     by_cases ex:∃ c,c < i/\S.free c=P.n+r
     ·rw [if_pos ex];obtain⟨c,h1,h2⟩:=ex;rw [if_pos ⟨c,by lia,h2⟩]
     ·rw [if_neg ex,if_neg λ⟨c,h1,h2⟩=>ex ⟨c,by
        by_cases z:c=i
        ·subst z;lia
        ·lia,h2⟩]
    rw [<-eX]
    exact dy tl rfl)
 rw [List.length_map,List.length_range] at e2
 have:=mC (n:=4) (k:=1) (b:=hJ) (ws:=[.d (obD P S)]) (st:=st) (h:=st.length) rfl (ar (az s1) (ar (dc (pO (mx (v0 _ _ _ _))) e2) rfl)) (Nat.le_refl _) (kA _ _)
 rw [List.take_left] at this
 rw [cD (f:=λr=>pr P S P.n r) (g:=λr=>ZV P S (r+1)) λr hr=>by
  unfold pr
  by_cases ex:∃ c,c < P.n/\S.free c=P.n+r
  ·rw [if_pos ex]
  ·rw [if_neg ex]
   rcases h.named.all (P.n+r) (by lia) with hc | ⟨j,hj,e⟩
   ·exact absurd hc ex
   ·exact (Sx.price_kept h.good h.named hg hr hj e).symm] at this
 exact this
theorem Bo (h:Okt P S) {e:Nat} (he:e < P.n) (ht:∀ i,i < P.m->S.T i e<=0) (hp:∃ k,k < P.n/\Sx.wayN P S e k≠0):∃ g:Int,0 < g/\(∀ k,k < P.n->g∣Sx.wayN P S e k)/\kN [.d (obD P S),.d (.int (e:Int))] []=some (.d (.tup (mpI P.n λk=>Sx.wayN P S e k / g)),[]):=by
 have hm:=h.m64
 have hn:=h.n64
 have v0:∀ (a b c d:Option W) (s:Sto),iV 0 [some (.d (obD P S)),a,b,c,d] s=some (.d (obD P S),s):=λ_ _ _ _ _=>rfl
 have hnk:∀ i,i < P.m->S.kept i≠S.free e:=λi hi e1=>by
  have h1:=h.good.entry (c:=e) (by lia) hi
  have h2:colV P S e=basis P S i:=by unfold colV basis;rw [if_pos he,e1]
  rw [h2,Sx.upd_self,<-h.good.dt] at h1
  have:=ht i hi
  have:=h.good.pos
  lia
 generalize hy:(λi=>- S.T i e)=y
 have hw:∀ k,Sx.wayN P S e k=if k=S.free e then S.p else acc S.kept y P.m k:=λk=>by
  show Sx.byName P S (λi=>- S.T i e) k+(if S.free e=k then S.p else 0)=_
  rw [hy]
  by_cases hk:k=S.free e
  ·rw [if_pos hk,if_pos hk.symm,Sx.byName_not λi hi=>by rw [hk];exact hnk i hi];lia
  ·rw [if_neg hk,if_neg (Ne.symm hk)]
   show acc S.kept y P.m k+0=_
   lia
 have s1:=lh (st:=[]) (dz (v0 (some (.d (.int (e:Int)))) none none none [])) (by lia) S.kept y 0
 obtain⟨env',s2,e2,⟨o2,o3,rfl⟩,rfl⟩:=fU (g:=.tp [3,4]) (body:=nD) (ds:=(List.range P.m).map λi=>D.tup [.int ((i:Nat):Int),.int (nI S.kept i)])
  (λi env s=>(∃ o2 o3,env=[some (.d (obD P S)),some (.d (.int (e:Int))),some (.h 0),o2,o3])/\s=[]++[.l (mpI P.n λr=>acc S.kept y i (0+r))])
  (env:=[some (.d (obD P S)),some (.d (.int (e:Int))),some (.h 0),none,none]) (st:=[]++[.l (mpI P.n λr=>acc S.kept y 0 (0+r))]) ⟨⟨_,_,rfl⟩,rfl⟩ (λi d env s hd ⟨⟨o2,o3,e0⟩,es⟩=>by
   subst e0 es
   obtain⟨hi,rfl⟩:=nv hd
   refine⟨_,_,_,rfl,.inl ?_,⟨some (.d (.int ((i:Nat):Int))),some (.d (.int (nI S.kept i))),rfl⟩,rfl⟩
   generalize hX:(mpI P.n λr=>acc S.kept y i (0+r))=xs
   have tl:bg dLt (iV 4) (ay ("amounts" : Str) (iV 0)) [some (.d (obD P S)),some (.d (.int (e:Int))),some (.h 0),some (.d (.int ((i:Nat):Int))),some (.d (.int (nI S.kept i)))] ([]++[.l xs])=some (decide (nI S.kept i < (P.n:Int)),[]++[.l xs]):=aY rfl (dz (v0 _ _ _ _ _)) (qU _ _ _)
   by_cases hk:S.kept i < P.n
   ·rw [decide_eq_true (by show ((S.kept i:Nat):Int) < _;lia)] at tl
    have hv:iUn oA (iOp dIx (iOp dIx (ay ("lines" : Str) (iV 0)) (iV 3)) (iV 1)) [some (.d (obD P S)),some (.d (.int (e:Int))),some (.h 0),some (.d (.int ((i:Nat):Int))),some (.d (.int (nI S.kept i)))] ([]++[.l xs])=some (.d (.int (y i)),[]++[.l xs]):=by
     rw [<-hy]
     have:=aj (g:=dIx) (aj (g:=dIx) (fj (v0 (some (.d (.int (e:Int)))) (some (.h 0)) (some (.d (.int ((i:Nat):Int)))) (some (.d (.int (nI S.kept i)))) ([]++[C.l xs]))) (b:=iV 3) rfl (qV _ hi)) (b:=iV 1) rfl (qC (c:=e) _ (by lia))
     simp only [iUn,this,Option.bind_some];rfl
    have:=sIx (st:=[]) (k:=S.kept i) hv (o:=iV 2) (i:=iV 4) rfl rfl (by rw [<-hX,bQ];exact hk)
    rw [<-hX] at this ⊢ tl
    rw [<-ua (d:=0) (N:=P.n) (e:=S.kept) (y:=y) (i:=i) (by lia) λj hj e=>by have:=jp h.good (by lia) hi e;lia]
    exact gf tl this
   ·rw [decide_eq_false (by show ¬ ((S.kept i:Nat):Int) < _;lia)] at tl
    rw [<-rC (d:=0) (N:=P.n) (e:=S.kept) (y:=y) (i:=i) λr hr=>by lia,hX]
    exact dy tl rfl)
 rw [List.length_map,List.length_range] at e2
 have s3:ce (bg dLt (iOp dIx (ay ("free" : Str) (iV 0)) (iV 1)) (ay ("amounts" : Str) (iV 0))) (cq (iV 2) (iOp dIx (ay ("free" : Str) (iV 0)) (iV 1)) (ay ("part" : Str) (iV 0))) bj [some (.d (obD P S)),some (.d (.int (e:Int))),some (.h 0),o2,o3] ([]++[.l (mpI P.n λr=>acc S.kept y P.m (0+r))])=some (.nx [some (.d (obD P S)),some (.d (.int (e:Int))),some (.h 0),o2,o3] ([]++[.l (mpI P.n λk=>Sx.wayN P S e k)])):=by
  have qf:∀ s,iOp dIx (ay ("free" : Str) (iV 0)) (iV 1) [some (.d (obD P S)),some (.d (.int (e:Int))),some (.h 0),o2,o3] s=some (.d (.int (nI S.free e)),s):=λs=>aj (mx (v0 _ _ _ _ _)) rfl (gF _ he)
  generalize hX:(mpI P.n λr=>acc S.kept y P.m (0+r))=xs
  have tl:bg dLt (iOp dIx (ay ("free" : Str) (iV 0)) (iV 1)) (ay ("amounts" : Str) (iV 0)) [some (.d (obD P S)),some (.d (.int (e:Int))),some (.h 0),o2,o3] ([]++[.l xs])=some (decide (nI S.free e < (P.n:Int)),[]++[.l xs]):=aY (qf _) (dz (v0 _ _ _ _ _)) (qU _ _ _)
  by_cases hk:S.free e < P.n
  ·rw [decide_eq_true (by show ((S.free e:Nat):Int) < _;lia)] at tl
   have:=sIx (st:=[]) (k:=S.free e) (mE (v0 (some (.d (.int (e:Int)))) (some (.h 0)) o2 o3 ([]++[C.l xs]))) (o:=iV 2) (i:=iOp dIx (ay ("free" : Str) (iV 0)) (iV 1)) rfl (qf _) (by rw [<-hX,bQ];exact hk)
   have eX:xs.set (S.free e) (.int S.p)=mpI P.n λk=>Sx.wayN P S e k:=by
    rw [<-hX,i6]
    refine cD λk _=>?_
    rw [hw k,Nat.zero_add]
   rw [eX] at this
   exact gf tl this
  ·rw [decide_eq_false (by show ¬ ((S.free e:Nat):Int) < _;lia)] at tl
   have eX:xs=mpI P.n λk=>Sx.wayN P S e k:=by
    rw [<-hX]
    refine cD λk hk'=>?_
    rw [hw k,Nat.zero_add,if_neg (by lia)]
   rw [<-eX]
   exact dy tl rfl
 obtain⟨k0,hk0,hk1⟩:=hp
 have hsm:∀ x ∈ (List.range P.n).map (Sx.wayN P S e),Sm x:=λx hx=>by
  obtain⟨k,hk,rfl⟩:=List.mem_map.mp hx
  rw [hw k]
  by_cases z:k=S.free e
  ·rw [if_pos z];exact h.sp
  ·rw [if_neg z]
   by_cases ex:∃ i,i < P.m/\S.kept i=k
   ·obtain⟨i,hi,rfl⟩:=ex
    have:acc S.kept y P.m (S.kept i)=y i:=Sx.byName_at (λi j hi hj=>jp h.good hi hj) hi
    rw [this,<-hy]
    show (- S.T i e).natAbs < _
    rw [Int.natAbs_neg]
    exact h.sT i e hi (by lia)
   ·rw [pA λj hj e=>ex ⟨j,hj,e⟩]
    exact Nat.pow_pos (by decide)
 have hlo:=sO (st:=[]) hsm ⟨_,List.mem_map.mpr ⟨k0,List.mem_range.mpr hk0,rfl⟩,hk1⟩ (by rw [List.length_map,List.length_range];lia)
 obtain⟨g0,g1⟩:=s0 (ns:=(List.range P.n).map (Sx.wayN P S e)) (List.mem_map.mpr ⟨k0,List.mem_range.mpr hk0,rfl⟩) hk1 (hsm _ (List.mem_map.mpr ⟨k0,List.mem_range.mpr hk0,rfl⟩))
 have gd:∀ k,k < P.n->((gT 0 ((List.range P.n).map (Sx.wayN P S e)):Nat):Int)∣Sx.wayN P S e k:=λk hk=>Int.ofNat_dvd_left.mpr ((kO 0 _).2 _ (List.mem_map.mpr ⟨k,List.mem_range.mpr hk,rfl⟩))
 generalize hG:((gT 0 ((List.range P.n).map (Sx.wayN P S e)):Nat):Int)=g at *
 refine⟨g,g0,gd,?_⟩
 rw [<-cL,List.map_map,List.map_map] at hlo
 have hc:ge iG (aa (iV 2) ag) [some (.d (obD P S)),some (.d (.int (e:Int))),some (.h 0),o2,o3] ([]++[.l (mpI P.n λk=>Sx.wayN P S e k)])=some (.d (.tup (mpI P.n λk=>Sx.wayN P S e k / g)),[]++[.l (mpI P.n λk=>Sx.wayN P S e k)]):=by
  have ha:aa (iV 2) ag [some (.d (obD P S)),some (.d (.int (e:Int))),some (.h 0),o2,o3] ([]++[.l (mpI P.n λk=>Sx.wayN P S e k)])=some ([.h 0],[]++[.l (mpI P.n λk=>Sx.wayN P S e k)]):=rfl
  have hvw:vwA ([]++[.l (mpI P.n λk=>Sx.wayN P S e k)]) [.h 0]=some [.d (.lst (mpI P.n λk=>Sx.wayN P S e k))]:=rfl
  have hl2:iG [.d (.lst (mpI P.n λk=>Sx.wayN P S e k))] []=some (.d (.tup (mpI P.n λk=>Sx.wayN P S e k / g)),[]):=hlo
  simp only [ge,ha,Option.bind_some,hvw,hl2]
  rw [if_pos]
  exact wb _ _
 have:=mO (n:=5) (k:=2) (b:=le) (ws:=[.d (obD P S),.d (.int (e:Int))]) (st:=[]) rfl (ar (az s1) (ar (dc (pO (qq (v0 _ _ _ _ _))) e2) (ar s3 (bn hc))))
 exact this
end
end Own
set_option maxHeartbeats 1000000
namespace Own
open PySem L2
open Sx (Pb Tb Good Named Fe LV ZV piv lexP leastR leaveL sumN unit colV basis)
theorem mZ {m:Fn}{a:Af}{env:Ev}{st:Sto}{ws vs:List W}{x:D} (ha:a env st=some (ws,st)) (hv:vwA st ws=some vs) (hm:m vs []=some (.d x,[])) (hx:okT x=true):ge m a env st=some (.d x,st):=by
 simp only [ge,ha,Option.bind_some,hv,hm]
 rw [if_pos hx]
structure Pd (P:Pb):Prop where
 bd:Sx.Bd P
 hA:∀ k,k < P.n+P.m->∀ t,P.m<=t->P.A k t=0
 hb:∀ t,P.m<=t->P.b t=0
 hg:∀ r,r < P.m->P.g (P.n+r)=0
section
variable {P:Pb}{S:Tb}
theorem Pd.okt (d:Pd P) (g:Good P S) (n:Named P S):Okt P S:=zT d.bd g n
theorem Pd.kept (d:Pd P) (n:Named P S):∀ i,i < P.m->∀ t,P.m<=t->P.A (S.kept i) t=0:=λi hi t ht=>d.hA _ (n.bound.2 i hi) t ht
theorem Ci (g:Good P S) (f:Fe P S):∀ i,i < P.m->0<=S.T i P.n:=λi hi=>by
 have h1:=Sx.lexP_first (by lia) (f i hi)
 rw [g.entry (Nat.le_refl _) hi]
 have:colV P S P.n=Sx.XV P 0:=by unfold colV Sx.XV;rw [if_neg (Nat.lt_irrefl _),if_pos rfl]
 rw [this]
 exact h1
structure sQ (P:Pb) (p:Int) (am pr:Nat->Int):Prop where
 p1:1<=p
 am0:∀ k,k < P.n->0<=am k
 pr0:∀ r,r < P.m->0<=pr r
 rows:∀ r,r < P.m->(sumN P.n λj=>am j*P.A j r)<=p*P.b r
 cols:∀ j,j < P.n->p*P.g j<=sumN P.m λr=>P.A j r*pr r
 same:(sumN P.m λr=>P.b r*pr r)=sumN P.n λj=>am j*P.g j
structure kU (P:Pb) (way:Nat->Int):Prop where
 w0:∀ k,k < P.n->0<=way k
 rows:∀ r,r < P.m->(sumN P.n λj=>way j*P.A j r)<=0
 gain:0 < sumN P.n λj=>way j*P.g j
theorem nr {g a:Int} (h:g∣a):g*(a / g)=a:=Int.mul_ediv_cancel' h
theorem pf {n:Nat}{g:Int}{f h:Nat->Int} (hd:∀ k,k < n->g∣f k):g*(sumN n λk=>f k / g*h k)=sumN n λk=>f k*h k:=by
 rw [<-Sx.sumN_mul]
 refine Sx.sumN_congr λk hk=>?_
 rw [<-Int.mul_assoc,nr (hd k hk)]
theorem uf {n:Nat}{g:Int}{f h:Nat->Int} (hd:∀ k,k < n->g∣f k):g*(sumN n λk=>h k*(f k / g))=sumN n λk=>h k*f k:=by
 rw [<-Sx.sumN_mul]
 refine Sx.sumN_congr λk hk=>?_
 rw [Int.mul_left_comm,nr (hd k hk)]
theorem AT (h:Okt P S) (hg:∀ r,r < P.m->P.g (P.n+r)=0) (hG:∀ c,c < P.n->0<=S.G c) {r:Nat} (hr:r < P.m):Sm (ZV P S (r+1))/\0<=ZV P S (r+1):=by
 rcases h.named.all (P.n+r) (by lia) with⟨c,hc,e⟩ | ⟨j,hj,e⟩
 ·rw [Sx.price_free h.good h.named hg hr hc e];exact⟨h.sG c (by lia),hG c hc⟩
 ·rw [Sx.price_kept h.good h.named hg hr hj e];exact⟨Nat.pow_pos (by decide),Int.le_refl _⟩
theorem A8 (h:Okt P S) (k:Nat):Sm (acc S.kept (λi=>S.T i P.n) P.m k):=by
 by_cases ex:∃ i,i < P.m/\S.kept i=k
 ·obtain⟨i,hi,rfl⟩:=ex
  have:acc S.kept (λi=>S.T i P.n) P.m (S.kept i)=S.T i P.n:=Sx.byName_at (λi j hi hj=>jp h.good hi hj) hi
  rw [this]
  exact h.sT i P.n hi (Nat.le_refl _)
 ·rw [pA λj hj e=>ex ⟨j,hj,e⟩]
  exact Nat.pow_pos (by decide)
theorem sV {g a b:Int} (g0:0 < g) (h:g*a<=g*b):a<=b:=Int.le_of_mul_le_mul_left h g0
theorem Br (d:Pd P) (g:Good P S) (n:Named P S) (f:Fe P S) (hG:∀ c,c < P.n->0<=S.G c):∃ p am pr,sQ P p am pr/\iO [.d (obD P S)] []=some (.d (.tup [.str "most",.int p,.tup (mpI P.n am),.tup (mpI P.m pr)]),[]):=by
 have h:=d.okt g n
 have hm:=h.m64
 have hn:=h.n64
 have hT:=Ci g f
 have e1:=BN (st:=[]) h
 have e2:=A7 (st:=[]) h d.hg
 have hg:=d.hg
 have M1:=λr hr=>Sx.amounts_ok g n hT (r:=r) hr
 have M2:=Sx.gains_amounts g n d.hg
 have M3:=λj hj=>Sx.prices_ok g n d.hA hG (j:=j) hj
 have M4:=Sx.bounds_prices g d.hb
 have M5:∀ k,0<=acc S.kept (λi=>S.T i P.n) P.m k:=λk=>Sx.byName_nonneg (P:=P) (S:=S) (y:=λi=>S.T i P.n) hT k
 have M6:=A8 h
 have M7:=λr hr=>AT h d.hg hG (r:=r) hr
 have M8:(λj=>Sx.byName P S (λi=>S.T i P.n) j)=acc S.kept (λi=>S.T i P.n) P.m:=rfl
 have M9:∀ j,Sx.byName P S (λi=>S.T i P.n) j=acc S.kept (λi=>S.T i P.n) P.m j:=λ_=>rfl
 simp only [M9] at M1 M2
 generalize acc S.kept (λi=>S.T i P.n) P.m=am at *
 generalize hpr:(λr=>ZV P S (r+1))=pr at *
 have hpr':∀ r,ZV P S (r+1)=pr r:=λr=>by rw [<-hpr]
 simp only [hpr'] at M3 M4 M7
 have hns:D.int S.p::(mpI P.n am++mpI P.m pr)=(S.p::((List.range P.n).map am++(List.range P.m).map pr)).map D.int:=by
  rw [List.map_cons,List.map_append,cL,cL]
 have hsm:∀ x ∈ S.p::((List.range P.n).map am++(List.range P.m).map pr),Sm x:=λx hx=>by
  rcases List.mem_cons.mp hx with rfl | hx
  ·exact h.sp
  ·rcases List.mem_append.mp hx with hx | hx
   ·obtain⟨k,_,rfl⟩:=List.mem_map.mp hx;exact M6 k
   ·obtain⟨k,hk,rfl⟩:=List.mem_map.mp hx;exact (M7 k (List.mem_range.mp hk)).1
 have e3:=qK (st:=[]) hsm
 have hp:=g.pos
 obtain⟨q0,q1⟩:=s0 (ns:=S.p::((List.range P.n).map am++(List.range P.m).map pr)) List.mem_cons_self (by lia) h.sp
 have qd:∀ x ∈ S.p::((List.range P.n).map am++(List.range P.m).map pr),((gT 0 (S.p::((List.range P.n).map am++(List.range P.m).map pr)):Nat):Int)∣x:=λx hx=>Int.ofNat_dvd_left.mpr ((kO 0 _).2 _ hx)
 rw [<-hns] at e3
 generalize ((gT 0 (S.p::((List.range P.n).map am++(List.range P.m).map pr)):Nat):Int)=q at *
 have dp:q∣S.p:=qd _ List.mem_cons_self
 have da:∀ k,k < P.n->q∣am k:=λk hk=>qd _ (List.mem_cons_of_mem _ (List.mem_append_left _ (List.mem_map.mpr ⟨k,List.mem_range.mpr hk,rfl⟩)))
 have dr:∀ k,k < P.m->q∣pr k:=λk hk=>qd _ (List.mem_cons_of_mem _ (List.mem_append_right _ (List.mem_map.mpr ⟨k,List.mem_range.mpr hk,rfl⟩)))
 refine⟨S.p / q,λk=>am k / q,λr=>pr r / q,⟨?_,λk _=>Int.ediv_nonneg (M5 k) (by lia),λr hr=>Int.ediv_nonneg (M7 r hr).2 (by lia),λr hr=>?_,λj hj=>?_,?_⟩,?_⟩
 ·have:=nr dp
  rcases Int.lt_or_le (S.p / q) 1 with z | z
  ·have:q*(S.p / q)<=q*0:=Int.mul_le_mul_of_nonneg_left (by lia) (by lia)
   lia
  ·exact z
 ·refine sV q0 ?_
  rw [pf (h:=λj=>P.A j r) da,<-Int.mul_assoc,nr dp]
  exact M1 r hr
 ·refine sV q0 ?_
  rw [uf (h:=λr=>P.A j r) dr,<-Int.mul_assoc,nr dp]
  exact M3 j hj
 ·refine Int.eq_of_mul_eq_mul_left (a:=q) (by lia) ?_
  rw [uf (h:=λr=>P.b r) dr,pf (h:=λj=>P.g j) da,M4,M2]
 ·have v0:∀ (a b c:Option W) (s:Sto),iV 0 [some (.d (obD P S)),a,b,c] s=some (.d (obD P S),s):=λ_ _ _ _=>rfl
  have ka:lcI (.nm 0) bf eQ [none,some (.d (.int q))] (mpI P.n am) []=some (mpI P.n λk=>am k / q,[]):=by
   have:=sk (te:=eQ) (st:=[]) (ns:=(List.range P.n).map am) q0 q1 rfl
   rw [<-cL,List.map_map,List.map_map] at this
   exact this
  have kr:lcI (.nm 0) bf e9 [none,some (.d (.int q))] (mpI P.m pr) []=some (mpI P.m λk=>pr k / q,[]):=by
   have:=sk (te:=e9) (st:=[]) (ns:=(List.range P.m).map pr) q0 q1 rfl
   rw [<-cL,List.map_map,List.map_map] at this
   exact this
  have la:(mpI P.n am).length<=1000000:=by rw [bQ];lia
  have lr:(mpI P.m pr).length<=1000000:=by rw [bQ];lia
  have ls1:[D.int S.p].length+(mpI P.n am).length<=1000000:=by rw [bQ];show 1+_<=_;lia
  have ls2:([D.int S.p]++mpI P.n am).length+(mpI P.m pr).length<=1000000:=by rw [List.length_append,bQ,bQ];show 1+_+_<=_;lia
  generalize mpI P.n am=AM at *
  generalize mpI P.m pr=PR at *
  generalize (mpI P.n λk=>am k / q)=AQ at *
  generalize (mpI P.m λk=>pr k / q)=RQ at *
  have s3:aG (.nm 3) (au dq (aa (iOp bH (iOp bH (aD (ck (aa (ay ("part" : Str) (iV 0)) ag))) (iV 1)) (iV 2)) ag)) [some (.d (obD P S)),some (.d (.lst AM)),some (.d (.lst PR)),none] []=some (.nx [some (.d (obD P S)),some (.d (.lst AM)),some (.d (.lst PR)),some (.d (.int q))] []):=by
   have hl:ck (aa (ay ("part" : Str) (iV 0)) ag) [some (.d (obD P S)),some (.d (.lst AM)),some (.d (.lst PR)),none] []=some ([.int S.p],[]):=by
    have:=ac (b:=ag) (mE (v0 (some (.d (.lst AM))) (some (.d (.lst PR))) none [])) rfl
    simp only [ck,this,Option.bind_some];rfl
   exact az (aw (ac (aj (aj (aI hl) rfl (iS _ ls1)) rfl (iS _ ls2)) rfl) e3)
  have s4:bo (aa (iC (.str "most")) (aa (iOp ny (ay ("part" : Str) (iV 0)) (iV 3)) (aa (iCB iy (aa (aD (iLc 1 [3] (aX (iV 1)) (.nm 0) bf eQ)) ag)) (aa (iCB iy (aa (aD (iLc 1 [3] (aX (iV 2)) (.nm 0) bf e9)) ag)) ag)))) [some (.d (obD P S)),some (.d (.lst AM)),some (.d (.lst PR)),some (.d (.int q))] []=some (.d (.tup [.str "most",.int (S.p / q),.tup AQ,.tup RQ]),[]):=
   i9 (ac rfl (ac (aj (mE (v0 _ _ _ _)) rfl (tP _ q0 q1)) (ac (aZ (ac (aI (cu (cX rfl) la ka)) rfl) rfl) (ac (aZ (ac (aI (cu (cX rfl) lr kr)) rfl) rfl) rfl)))) rfl (by show 4<=1000;decide)
  exact aQ (n:=4) (k:=1) (b:=gu) rfl (ar (az (aw (ac (v0 _ _ _ _) rfl) e1)) (ar (az (aw (ac (v0 _ _ _ _) rfl) e2)) (ar s3 (bn s4))))
theorem Bb (d:Pd P) (g:Good P S) (n:Named P S) {e:Nat} (he:e < P.n) (ht:∀ i,i < P.m->S.T i e<=0) (hG:S.G e < 0):∃ way,kU P way/\kN [.d (obD P S),.d (.int (e:Int))] []=some (.d (.tup (mpI P.n way)),[]):=by
 have h:=d.okt g n
 have W1:=Sx.way_gains g n d.hg he hG
 have hp:∃ k,k < P.n/\Sx.wayN P S e k≠0:=by
  by_cases z:∃ k,k < P.n/\Sx.wayN P S e k≠0
  ·exact z
  ·exfalso
   rw [Sx.sumN_congr (g:=λ_=>0) λk hk=>by
    by_cases z':Sx.wayN P S e k=0
    ·rw [z',Int.zero_mul]
    ·exact absurd ⟨k,hk,z'⟩ z,Sx.sumN_zero] at W1
   lia
 obtain⟨q,q0,qd,ew⟩:=Bo h he ht hp
 refine⟨λk=>Sx.wayN P S e k / q,⟨λk _=>Int.ediv_nonneg (Sx.way_nonneg g ht k) (by lia),λr hr=>?_,?_⟩,ew⟩
 ·refine sV q0 ?_
  rw [pf (h:=λj=>P.A j r) qd,Int.mul_zero]
  exact Sx.way_rows g n he ht hr
 ·refine Int.lt_of_mul_lt_mul_left (a:=q) ?_ (by lia)
  rw [pf (h:=λj=>P.g j) qd,Int.mul_zero]
  exact W1
end
end Own
set_option maxHeartbeats 1000000
namespace Own
open PySem L2
open Sx (Pb Tb Good Named Fe LV ZV piv lexP leastR leaveL sumN unit colV basis)
theorem BW (n:Nat) (f:Nat->Int):okT (.tup [.str "beyond",.tup (mpI n f)])=true:=by
 simp only [okT,tY,cL,jS,Bool.and_self]
theorem Bf (n m:Nat) (p:Int) (f g:Nat->Int):okT (.tup [.str "most",.int p,.tup (mpI n f),.tup (mpI m g)])=true:=by
 simp only [okT,tY,cL,jS,Bool.and_self]
noncomputable def BJ (P:Pb) (S:Tb) (x:D):Prop:=(∃ c,c < P.n/\S.G c < 0/\(∀ i,i < P.m->S.T i c<=0)/\x=.tup [.int (c:Int),.non])\/(lw P S x/\(x=.non->∀ c,c < P.n->0<=S.G c))
section
variable {P:Pb}{S:Tb}
theorem wp (d:Pd P) (g:Good P S) (n:Named P S):∃ x,BJ P S x/\okT x=true/\db [.d (obD P S)] []=some (.d x,[]):=by
 rcases Bm (st:=[]) (d.okt g n) (d.kept n) with⟨c,hc,hg,ht,e⟩ | ⟨y,hy,hn,e⟩
 ·exact⟨_,.inl ⟨c,hc,hg,ht,rfl⟩,rfl,e⟩
 ·refine⟨y,.inr ⟨hy,hn⟩,?_,e⟩
  rcases hy with rfl | ⟨c,r,_,_,_,_,_,_,rfl⟩<;>rfl
theorem lm {st0:Sto}{a b c o:Option W}{x:D} (e:db [.d (obD P S)] []=some (.d x,[])) (hx:okT x=true):ge db (aa (iV 3) ag) [a,b,c,some (.h (st0.length+2)),o] (stO st0 P S)=some (.d x,stO st0 P S):=
 mZ (ws:=[.h (st0.length+2)]) rfl (v5 (ws:=[]) (ws':=[]) rfl) e hx
noncomputable def n6 (P:Pb) (f:Nat) (S:Tb) (x:D):Prop:=
 (∃ S' way,kU P way/\∀ (st0:Sto) (a b c:Option W),d6 iQ gW f [a,b,c,some (.h (st0.length+2)),some (.d x)] (stO st0 P S)=some (.rt (.d (.tup [.str "beyond",.tup (mpI P.n way)])) (stO st0 P S')))\/
 ∃ S',Good P S'/\Named P S'/\Fe P S'/\(∀ c,c < P.n->0<=S'.G c)/\∀ (st0:Sto) (a b c:Option W),d6 iQ gW f [a,b,c,some (.h (st0.length+2)),some (.d x)] (stO st0 P S)=some (.nx [a,b,c,some (.h (st0.length+2)),some (.d .non)] (stO st0 P S'))
theorem uA (d:Pd P):∀ (f:Nat) (V:List Nat) (S:Tb) (x:D),Good P S->Named P S->Fe P S->BJ P S x->V.Nodup->(∀ v ∈ V,v < (P.n+P.m) ^ P.m)->(∀ v ∈ V,∃ S',Good P S'/\Named P S'/\Sx.code (P.n+P.m) S'.kept P.m=v/\Sx.less P S' S)->(P.n+P.m) ^ P.m < f+V.length->n6 P f S x
 | 0,V,S,x,_,_,_,_,hV,hb,_,hf=>by
  have:=Sx.nodup_le _ V hV hb
  lia
 | f+1,V,S,x,hg,hn,hF,hx,hV,hb,hl,hf=>by
  have h:=d.okt hg hn
  rcases hx with⟨c,hc,hG,ht,rfl⟩ | ⟨hx,hxn⟩
  ·obtain⟨way,bw,ew⟩:=Bb d hg hn hc ht hG
   refine .inl ⟨S,way,bw,λst0 a b o=>?_⟩
   refine BL (s:=stO st0 P S) rfl (ig (gf (s:=stO st0 P S) rfl (bn (i9 (ws:=[.d (.str "beyond"),.d (.tup (mpI P.n way))]) (ac rfl (ac ?_ rfl)) rfl (by show 2<=1000;decide)))))
   refine mZ (ws:=[.h (st0.length+2),.d (.int (c:Int))]) (ac rfl (ac (aj rfl rfl (nX _ _ _)) rfl)) (v5 (ws:=[.d (.int (c:Int))]) (ws':=[.d (.int (c:Int))]) rfl) ew ?_
   exact wb _ _
  ·rcases hx with rfl | ⟨c,r,hc,hG,_,hr,hT,hmin,rfl⟩
   ·exact .inr ⟨S,hg,hn,hF,hxn rfl,λst0 a b o=>yO rfl⟩
   ·obtain⟨g2,n2,f2,l2⟩:=Sx.step hg hn hF hc hr hT hG hmin
    obtain⟨y,sy,oy,ey⟩:=wp d g2 n2
    have hcode:∀ {S':Tb},Named P S'->∀ i,i < P.m->S'.kept i < P.n+P.m:=λn' i hi=>n'.bound.2 i hi
    have ih:=uA d f (Sx.code (P.n+P.m) S.kept P.m::V) (piv S r c) y g2 n2 f2 sy
     (List.nodup_cons.mpr ⟨λhm=>by
       obtain⟨S',g',n',e',l'⟩:=hl _ hm
       exact Sx.less_kept g' hg l' (Sx.code_inj (hcode n') (hcode hn) e'),hV⟩)
     (λv hv=>by
       rcases List.mem_cons.mp hv with rfl | hv
       ·exact Sx.code_lt (hcode hn)
       ·exact hb v hv)
     (λv hv=>by
       rcases List.mem_cons.mp hv with rfl | hv
       ·exact⟨S,hg,hn,rfl,l2⟩
       ·obtain⟨S',g',n',e',l'⟩:=hl v hv
        exact⟨S',g',n',e',Sx.less_trans g'.pos hg.pos g2.pos l' l2⟩)
     (by rw [List.length_cons];lia)
    have key:∀ (st0:Sto) (a b o:Option W),gW [a,b,o,some (.h (st0.length+2)),some (.d (.tup [.int (c:Int),.int (r:Int)]))] (stO st0 P S)=some (.nx [a,b,o,some (.h (st0.length+2)),some (.d y)] (stO st0 P (piv S r c))):=λst0 a b o=>by
     have ed:ki (au fC (aa (iV 3) (aa (iOp dIx (iV 4) (iC (.int 1))) (aa (iOp dIx (iV 4) (iC (.int 0))) ag)))) [a,b,o,some (.h (st0.length+2)),some (.d (.tup [.int (c:Int),.int (r:Int)]))] (stO st0 P S)=some (.nx [a,b,o,some (.h (st0.length+2)),some (.d (.tup [.int (c:Int),.int (r:Int)]))] (stO st0 P (piv S r c))):=by
      have:=aw (m:=fC) (a:=aa (iV 3) (aa (iOp dIx (iV 4) (iC (.int 1))) (aa (iOp dIx (iV 4) (iC (.int 0))) ag))) (env:=[a,b,o,some (.h (st0.length+2)),some (.d (.tup [.int (c:Int),.int (r:Int)]))]) (st:=stO st0 P S) (ac rfl (ac (aj rfl rfl (mh _ _ _)) (ac (aj rfl rfl (nX _ _ _)) rfl))) (xB h hr hc)
      simp only [ki,this,Option.map_some]
     exact ar (dy (s:=stO st0 P S) rfl rfl) (ar ed (az (lm ey oy)))
    rcases ih with⟨S',way,bw,hw⟩ | ⟨S',gS,nS,fS,hS,hw⟩
    ·exact .inl ⟨S',way,bw,λst0 a b o=>ww (s:=stO st0 P S) rfl (key st0 a b o) (hw st0 a b o)⟩
    ·exact .inr ⟨S',gS,nS,fS,hS,λst0 a b o=>ww (s:=stO st0 P S) rfl (key st0 a b o) (hw st0 a b o)⟩
end
noncomputable def gR (m n:Nat) (R:Nat->Nat->Int) (b g:Nat->Int):Pb where
 m:=m
 n:=n
 A:=λk t=>if k < n then (if t < m then R t k else 0) else unit (k - n) t
 b:=λt=>if t < m then b t else 0
 g:=λk=>if k < n then g k else 0
noncomputable def wH (m n:Nat) (R:Nat->Nat->Int) (b g:Nat->Int):Tb:=Sx.tb0 (gR m n R b g) (λi c=>if c < n then R i c else b i) (λc=>if c < n then - g c else 0)
noncomputable def bC (m n:Nat) (R:Nat->Nat->Int):D:=.tup ((List.range m).map λi=>D.tup (mpI n (R i)))
structure Inp (m n:Nat) (R:Nat->Nat->Int) (b g:Nat->Int):Prop where
 m64:m<=64
 n64:n<=100
 R:∀ i c,i < m->c < n->(R i c).natAbs<=2 ^ 50
 b:∀ i,i < m->(b i).natAbs<=2 ^ 50/\0<=b i
 g:∀ c,c < n->(g c).natAbs<=2 ^ 50
section
variable {m n:Nat}{R:Nat->Nat->Int}{b g:Nat->Int}
theorem yS (h:Inp m n R b g):Pd (gR m n R b g) where
 bd:={
  m64:=h.m64
  n64:=h.n64
  A:=λk _ t ht=>by
   show (if k < n then (if t < m then R t k else 0) else unit (k - n) t).natAbs<=_
   by_cases hk:k < n
   ·rw [if_pos hk,if_pos (show t < m from ht)];exact h.R t k ht hk
   ·rw [if_neg hk];exact Sx.unit_le _ _
  b:=λt ht=>by
   show (if t < m then b t else 0).natAbs<=_
   rw [if_pos (show t < m from ht)];exact (h.b t ht).1
  g:=λk _=>by
   show (if k < n then g k else 0).natAbs<=_
   by_cases hk:k < n
   ·rw [if_pos hk];exact h.g k hk
   ·rw [if_neg hk];exact Nat.zero_le _ }
 hA:=λk hk t ht=>by
  have hk':k < n+m:=hk
  have ht':m<=t:=ht
  show (if k < n then (if t < m then R t k else 0) else unit (k - n) t)=0
  by_cases hkn:k < n
  ·rw [if_pos hkn,if_neg (by lia)]
  ·rw [if_neg hkn];unfold unit;rw [if_neg (by lia)]
 hb:=λt ht=>if_neg (Nat.not_lt.mpr ht)
 hg:=λr _=>if_neg (by show ¬ n+r < n;lia)
theorem yA (h:Inp m n R b g):Good (gR m n R b g) (wH m n R b g)/\Named (gR m n R b g) (wH m n R b g)/\Fe (gR m n R b g) (wH m n R b g):=by
 have d:=yS h
 have:=Sx.good0 (P:=gR m n R b g) (T:=λi c=>if c < n then R i c else b i) (G:=λc=>if c < n then - g c else 0)
  (λr _=>by
    funext t
    show (if n+r < n then _ else unit (n+r - n) t)=_
    rw [if_neg (by lia),Nat.add_sub_cancel_left])
  (λk hk=>d.hA k (by show k < n+m;have:k < n:=hk;lia)) d.hb d.hg
  (λi c hi hc=>by
    show (if c < n then R i c else b i)=if c < n then (if i < m then R i c else 0) else _
    rw [if_pos (show c < n from hc),if_pos (show c < n from hc),if_pos (show i < m from hi)])
  (λi hi=>by
    show (if n < n then _ else b i)=if i < m then b i else 0
    rw [if_neg (Nat.lt_irrefl _),if_pos (show i < m from hi)])
  (λc hc=>by
    show (if c < n then - g c else 0)=- (if c < n then g c else 0)
    rw [if_pos (show c < n from hc),if_pos (show c < n from hc)])
  (by show (if n < n then _ else (0:Int))=0;rw [if_neg (Nat.lt_irrefl _)])
 refine⟨this.1,this.2.1,this.2.2 λt ht=>?_⟩
 show 0<=if t < m then b t else 0
 rw [if_pos (show t < m from ht)]
 exact (h.b t ht).2
theorem uN (f:Nat->Int) (x:Int):mpI n f++[.int x]=mpI (n+1) λc=>if c < n then f c else x:=by
 rw [qM,if_neg (Nat.lt_irrefl _)]
 rw [cD (n:=n) (g:=λc=>if c < n then f c else x) λk hk=>by rw [if_pos hk]]
theorem v4 (lo:Nat) (m:Nat):dE (lo:Int) m=mpI m (nI λi=>lo+i):=by
 unfold dE mpI
 refine List.map_congr_left λk _=>?_
 show D.int ((lo:Int)+(k:Int))=D.int (((lo+k:Nat)):Int)
 rw [Int.natCast_add]
theorem Ba {st0:Sto}{o3 o4:Option W} (h:Inp m n R b g):oQ 4 4 dM (aa (iV 0) (aa (iV 1) (aa (iV 2) ag))) [some (.d (bC m n R)),some (.d (.tup (mpI m b))),some (.d (.tup (mpI n g))),o3,o4] st0=some (.h (st0.length+2),stO st0 (gR m n R b g) (wH m n R b g)):=by
 have hm:=h.m64
 have hn:=h.n64
 have ev:∀ {o:Option W},[o,some (.d (bC m n R)),some (.d (.tup (mpI m b))),some (.d (.tup (mpI n g)))]=o::([W.d (bC m n R),.d (.tup (mpI m b)),.d (.tup (mpI n g))].map some++List.replicate (4 - 4) none):=rfl
 generalize hE:([none,some (.d (bC m n R)),some (.d (.tup (mpI m b))),some (.d (.tup (mpI n g)))]:Ev)=E
 have v1:∀ s,iV 1 E s=some (.d (bC m n R),s):=λs=>by rw [<-hE];rfl
 have v2:∀ s,iV 2 E s=some (.d (.tup (mpI m b)),s):=λs=>by rw [<-hE];rfl
 have v3:∀ s,iV 3 E s=some (.d (.tup (mpI n g)),s):=λs=>by rw [<-hE];rfl
 have lenG:∀ s,iCB bA (aa (iV 3) ag) E s=some (.d (.int (n:Int)),s):=λs=>by
  have:=aZ (g:=bA) (d:=.int ((mpI n g).length:Nat)) (ac (b:=ag) (v3 s) rfl) rfl
  rw [bQ] at this;exact this
 have lenR:∀ s,iCB bA (aa (iV 1) ag) E s=some (.d (.int (m:Int)),s):=λs=>by
  have:=aZ (g:=bA) (d:=.int (((List.range m).map λi=>D.tup (mpI n (R i))).length:Nat)) (ac (b:=ag) (v1 s) rfl) rfl
  rw [List.length_map,List.length_range] at this;exact this
 have f2:aD (iLc 2 [] (d8 (aa (iV 1) (aa (iV 2) ag))) (.tp [0,1]) bf jK) E st0=some (.d (.lst (aT m n λi c=>if c < n then R i c else b i)),st0):=by
  have hz:d8 (aa (iV 1) (aa (iV 2) ag)) E st0=some ((List.range m).map λi=>D.tup [.tup (mpI n (R i)),.int (b i)],st0):=by
   have e1:jC ((List.range m).map λi=>D.tup (mpI n (R i))) (mpI m b)=(List.range m).map λi=>D.tup [.tup (mpI n (R i)),.int (b i)]:=by
    apply List.ext_getElem?
    intro i
    rw [jo,List.getElem?_map,List.getElem?_map]
    by_cases hi:i < m
    ·rw [dN hi,List.getElem?_range hi];rfl
    ·rw [List.getElem?_eq_none (l:=List.range m) (by rw [List.length_range];lia)];rfl
   rw [<-e1]
   have:=ac (v1 st0) (ac (b:=ag) (v2 st0) rfl)
   simp only [d8,this,Option.bind_some];rfl
  refine aI (cu hz (by rw [List.length_map,List.length_range];lia) ?_)
  refine rY (g:=λi=>(D.tup (mpI n (R i)),.int (b i))) (lnD n λi c=>if c < n then R i c else b i) λi hi=>?_
  unfold lnD
  rw [<-uN (R i) (b i)]
  exact aj (aI (show iCL uO (aa (iV 0) ag) _ _=some (mpI n (R i),_) from rfl)) (aI (show ck (aa (iV 1) ag) _ _=some ([.int (b i)],_) from rfl)) (iS _ (by rw [bQ];show _+1<=_;lia))
 have f3:iOp bH (aD (iLc 1 [] (aX (iV 3)) (.nm 0) bf jy)) (aD (ck (aa (iC (.int 0)) ag))) E st0=some (.d (.lst (mpI (n+1) λc=>if c < n then - g c else 0)),st0):=by
  rw [<-uN (λc=>- g c) 0]
  refine aj (aI (cu (gw (v3 st0)) (by rw [bQ];lia) (kL (g:=λk=>D.int (g k)) (λk=>D.int (- g k)) λk _=>rfl))) (aI (show ck (aa (iC (.int 0)) ag) E st0=some ([.int 0],st0) from rfl)) (iS _ ?_)
  rw [List.length_map,List.length_range];show _+1<=_;lia
 have f5:ft (vo (aa (iCB bA (aa (iV 3) ag)) ag)) E st0=some (.h st0.length,st0++[.l (mpI n (nI λc=>c))]):=by
  have:=ac (b:=ag) (lenG st0) rfl
  have e1:vo (aa (iCB bA (aa (iV 3) ag)) ag) E st0=some (mpI n (nI λc=>c),st0):=by
   simp only [vo,this,Option.bind_some]
   rw [if_pos ⟨by lia,by lia⟩,Int.toNat_natCast,show dE 0 n=dE ((0:Nat):Int) n from rfl,v4]
   simp only [Nat.zero_add]
  simp only [ft,e1,Option.map_some]
 have f6:ft (pH (aa (iCB bA (aa (iV 3) ag)) (aa (iOp bH (iCB bA (aa (iV 3) ag)) (iCB bA (aa (iV 1) ag))) ag))) E (st0++[.l (mpI n (nI λc=>c))])=some (.h (st0.length+1),st0++[.l (mpI n (nI λc=>c)),.l (mpI m (nI λi=>n+i))]):=by
  generalize hs:(st0++[C.l (mpI n (nI λc=>c))])=s1
  have h2:iOp bH (iCB bA (aa (iV 3) ag)) (iCB bA (aa (iV 1) ag)) E s1=some (.d (.int ((n:Int)+(m:Int))),s1):=aj (lenG s1) (lenR s1) rfl
  have:=ac (lenG s1) (ac (b:=ag) h2 rfl)
  have e1:pH (aa (iCB bA (aa (iV 3) ag)) (aa (iOp bH (iCB bA (aa (iV 3) ag)) (iCB bA (aa (iV 1) ag))) ag)) E s1=some (mpI m (nI λi=>n+i),s1):=by
   simp only [pH,this,Option.bind_some]
   rw [if_pos ⟨by lia,by lia,by lia,by lia⟩,show (((n:Int)+(m:Int)) - (n:Int)).toNat=m by lia,v4]
  simp only [ft,e1,Option.map_some]
  rw [<-hs,List.length_append]
  simp
 have hini:pv dM E st0=some (fsO n (aT m n λi c=>if c < n then R i c else b i) (mpI (n+1) λc=>if c < n then - g c else 0) 1 st0.length,st0++[.l (mpI n (nI λc=>c)),.l (mpI m (nI λi=>n+i))]):=by
  unfold dM
  simp only [pv,lenG st0,f2,f3,f5,f6,Option.bind_some,Option.map_some,show iC (.int 1) E st0=some (.d (.int 1),st0) from rfl]
  rfl
 have ha:aa (iV 0) (aa (iV 1) (aa (iV 2) ag)) [some (.d (bC m n R)),some (.d (.tup (mpI m b))),some (.d (.tup (mpI n g))),o3,o4] st0=some ([.d (bC m n R),.d (.tup (mpI m b)),.d (.tup (mpI n g))],st0):=rfl
 simp only [oQ,ha,Option.bind_some]
 rw [if_pos (show [W.d (bC m n R),W.d (D.tup (mpI m b)),W.d (D.tup (mpI n g))].length+1=4 from rfl)]
 show (pv dM [none,some (.d (bC m n R)),some (.d (.tup (mpI m b))),some (.d (.tup (mpI n g)))] st0).map _=_
 rw [hE,hini,Option.map_some]
 show some (W.h (st0++[C.l (mpI n (nI λc=>c)),.l (mpI m (nI λi=>n+i))]).length,(st0++[C.l (mpI n (nI λc=>c)),.l (mpI m (nI λi=>n+i))])++[_])=_
 rw [List.length_append,List.append_assoc]
 rfl
inductive v7 (P:Pb):D->Prop
 | most (p:Int) (am pr:Nat->Int):sQ P p am pr->v7 P (.tup [.str "most",.int p,.tup (mpI P.n am),.tup (mpI P.m pr)])
 | beyond (way:Nat->Int):kU P way->v7 P (.tup [.str "beyond",.tup (mpI P.n way)])
theorem wT {m n:Nat} (hm:m<=64) (hn:n<=100):(n+m) ^ m < 2 ^ 8000:=by
 have h1:(n+m) ^ m<=(2 ^ 8) ^ m:=Nat.pow_le_pow_left (by show n+m<=256;lia) m
 rw [<-Nat.pow_mul] at h1
 exact Nat.lt_of_le_of_lt h1 (uj (by lia))
theorem xD (h:Inp m n R b g):∃ x,v7 (gR m n R b g) x/\okT x=true/\∀ st:Sto,∃ u,jU [.d (bC m n R),.d (.tup (mpI m b)),.d (.tup (mpI n g))] st=some (.d x,st++u):=by
 have d:=yS h
 obtain⟨g1,n1,f1⟩:=yA h
 obtain⟨y,sy,oy,ey⟩:=wp d g1 n1
 have hl:=uA d (2 ^ 8000) [] _ y g1 n1 f1 sy List.nodup_nil (λv hv=>nomatch hv) (λv hv=>nomatch hv) (by rw [List.length_nil,Nat.add_zero];exact wT h.m64 h.n64)
 generalize hM:(bC m n R)=A at *
 generalize hB:D.tup (mpI m b)=B at *
 generalize hC:D.tup (mpI n g)=C at *
 have s3:∀ st0,aG (.nm 3) (oQ 4 4 dM (aa (iV 0) (aa (iV 1) (aa (iV 2) ag)))) [some (.d A),some (.d B),some (.d C),none,none] st0=some (.nx [some (.d A),some (.d B),some (.d C),some (.h (st0.length+2)),none] (stO st0 (gR m n R b g) (wH m n R b g))):=λst0=>by
  rw [<-hM,<-hB,<-hC]
  exact az (Ba h)
 rcases hl with⟨S',way,bw,hw⟩ | ⟨S',gS,nS,fS,hS,hw⟩
 ·refine⟨_,.beyond way bw,BW _ _,λst0=>⟨_,aQ (n:=5) (k:=3) (b:=iM) rfl (ar (s3 st0) (ar (az (lm ey oy)) (ig (hw st0 _ _ _))))⟩⟩
 ·obtain⟨p,am,pr,mi,em⟩:=Br d gS nS fS hS
  refine⟨_,.most p am pr mi,Bf _ _ _ _ _,λst0=>⟨_,aQ (n:=5) (k:=3) (b:=iM) rfl (ar (s3 st0) (ar (az (lm ey oy)) (ar (hw st0 _ _ _) (bn (mZ (ws:=[.h (st0.length+2)]) rfl (v5 (ws:=[]) (ws':=[]) rfl) em (Bf _ _ _ _ _))))))⟩⟩
end
end Own
set_option maxHeartbeats 1000000
namespace Own
open PySem L2
open Sx (Pb Tb Good Named Fe LV ZV piv lexP leastR leaveL sumN unit colV basis)
theorem xO {st:Sto}{n:Nat}{m:Int} (h:bU st n) (m0:0 < m) (m1:m<=1000):∃ r st',0<=r/\r < m/\Stp n st st'/\aB [.h n,.d (.int m)] st=some (.d (.int r),st'):=by
 have hn:=h.lt
 obtain⟨x,y,z,h0,h⟩:=h
 have m2:m < 1073741824:=by lia
 have slow:(x > 0/\z+1<=400->False)->∃ r st',0<=r/\r < m/\Stp n st st'/\aB [.h n,.d (.int m)] st=some (.d (.int r),st'):=λhne=>by
  have hy0:0<=(y*48271+12345+(z+1)) % 2147483647:=Int.emod_nonneg _ (by decide)
  have hy1:(y*48271+12345+(z+1)) % 2147483647 < 2147483647:=Int.emod_lt_of_pos _ (by decide)
  have k1:PySem.IntMulOk y 48271:=mF (by decide)
  have k3:∀ q,PySem.IntMulOk ((y*48271+12345+(z+1)) % 2147483647) q:=λq=>ii (by lia)
  have hw:∃ w:Int,(y*48271+12345+(z+1)) % 2147483647=w:=⟨_,rfl⟩
  obtain⟨w,hw⟩:=hw
  rw [hw] at hy0 hy1 k3
  refine⟨w*(w % 39373+7) % 2147483629 / 64 % m,st.set n (.l [.int x,.int w,.int (z+1)]),Int.emod_nonneg _ (by lia),Int.emod_lt_of_pos _ m0,⟨⟨_,rfl⟩,_,_,_,h0,kP hn⟩,?_⟩
  by_cases hx:x > 0
  ·have hz:¬ z+1<=400:=λq=>hne ⟨hx,q⟩
   simp only [aB,eH,iV,iC,iOp,bg,oK,bj,aq,aG,hW,cq,bi,ce,cK,eU,r8,i7,lsD,dIx,bH,bM,nC,iH,dLe,dGt,Option.bind_some,Option.map_some,List.getD_cons_zero,List.getD_cons_succ,List.set_cons_zero,List.set_cons_succ,List.map_cons,List.map_nil,List.length_cons,List.length_nil,List.replicate_succ,List.replicate_zero,List.cons_append,List.nil_append,Nat.reduceAdd,Nat.reduceSub,if_true,if_false,Bool.false_eq_true,wP,BE,zw,Bs,zc,Nat.zero_add,and_self,decide_true,decide_false,lg,Int.reduceNeg,h,hx,hz,m0,decide_false,and_self,kP hn,List.set_set,k1,k3,hw,show (0:Int) < 2147483647 by decide,show (0:Int) < 39373 by decide,show (0:Int) < 2147483629 by decide,show (0:Int) < 64 by decide,show (64:Int) < 1073741824 by decide]
  ·simp only [aB,eH,iV,iC,iOp,bg,oK,bj,aq,aG,hW,cq,bi,ce,cK,eU,r8,i7,lsD,dIx,bH,bM,nC,iH,dLe,dGt,Option.bind_some,Option.map_some,List.getD_cons_zero,List.getD_cons_succ,List.set_cons_zero,List.set_cons_succ,List.map_cons,List.map_nil,List.length_cons,List.length_nil,List.replicate_succ,List.replicate_zero,List.cons_append,List.nil_append,Nat.reduceAdd,Nat.reduceSub,if_true,if_false,Bool.false_eq_true,wP,BE,zw,Bs,zc,Nat.zero_add,and_self,decide_false,lg,Int.reduceNeg,h,hx,m0,decide_false,and_self,kP hn,List.set_set,k1,k3,hw,show (0:Int) < 2147483647 by decide,show (0:Int) < 39373 by decide,show (0:Int) < 2147483629 by decide,show (0:Int) < 64 by decide,show (64:Int) < 1073741824 by decide]
 by_cases hq:x > 0/\z+1<=400
 ·obtain⟨hx,hz⟩:=hq
  refine⟨x % m,st.set n (.l [.int (x / m),.int y,.int (z+1)]),Int.emod_nonneg _ (by lia),Int.emod_lt_of_pos _ m0,⟨⟨_,rfl⟩,_,_,_,Int.ediv_nonneg h0 (by lia),kP hn⟩,?_⟩
  simp only [aB,eH,iV,iC,iOp,bg,oK,bj,aq,aG,hW,cq,bi,ce,cK,eU,r8,i7,lsD,dIx,bH,bM,nC,iH,dLe,dGt,Option.bind_some,Option.map_some,List.getD_cons_zero,List.getD_cons_succ,List.set_cons_zero,List.set_cons_succ,List.map_cons,List.map_nil,List.length_cons,List.length_nil,List.replicate_succ,List.replicate_zero,List.cons_append,List.nil_append,Nat.reduceAdd,Nat.reduceSub,if_true,wP,zw,B6,zc,Nat.zero_add,and_self,decide_true,lg,Int.reduceNeg,h,hx,hz,m0,m2,decide_true,and_self,kP hn,List.set_set]
 ·exact slow hq
theorem AZ (b:Bool):(0:Int)<=if b=true then 1 else 0:=by cases b<;>decide
theorem A1 (b:Bool):(if b=true then (1:Int) else 0) < 2 ^ 64:=by cases b<;>decide
theorem AV (b:Bool):-(2 ^ 64) < (if b=true then (1:Int) else 0):=by cases b<;>decide
theorem Ad {st:Sto}{ns:List Int}{k:Nat} (hk8:k<=1000):∃ x y:Int,0<=x/\fv [.d (.scr ns),.d (.int k)] st=some (.h st.length,st++[.l [.int x,.int y,.int 0]]):=by
 have p18':re 10 18:=p18
 have k1:∀ q,PySem.IntMulOk 5303 q:=λq=>ii (by decide)
 have k2:∀ q,PySem.IntMulOk q 48271:=λq=>mF (by decide)
 have k4:∀ q,PySem.IntMulOk q (k:Int):=λq=>mF (by lia)
 have k3:∀ (q:Int) (b:Bool),PySem.IntMulOk q (if b=true then 1 else 0):=λq b=>mF ⟨AV b,A1 b⟩
 have key:∀ c:Int,(if (k:Int) < ((ns.map D.int).length:Nat) then atI (ns.map D.int) (k:Int)=some (.int c) else c=0)->∃ x y:Int,0<=x/\fv [.d (.scr ns),.d (.int k)] st=some (.h st.length,st++[.l [.int x,.int y,.int 0]]):=λc hc=>by
  have ha:∃ a:Int,(if c < 0 then -c else c)=a/\0<=a:=⟨_,rfl,by split<;>lia⟩
  obtain⟨a,ha,a0⟩:=ha
  obtain⟨g,hg⟩:∃ g,decide (a>=10 ^ Int.toNat 18)=g:=⟨_,rfl⟩
  refine⟨a*(if g=true then 1 else 0),(c % 2147483629+5303*(k:Int)*k+17)*48271 % 2147483647,Int.mul_nonneg a0 (AZ _),?_⟩
  by_cases hk:(k:Int) < ((ns.map D.int).length:Nat)
  ·rw [if_pos hk] at hc
   simp only [fv,gN,iV,iC,iOp,bg,mr,ag,aa,iCB,ck,ft,aq,aG,bi,cK,eU,nE,r8,i7,lsD,dIx,bH,bM,iH,mq,dLt,dGe,bA,sS,u5,Option.bind_some,Option.map_some,List.getD_cons_zero,List.getD_cons_succ,List.set_cons_zero,List.set_cons_succ,List.map_cons,List.map_nil,List.length_cons,List.length_nil,List.replicate_succ,List.replicate_zero,List.cons_append,List.nil_append,Nat.reduceAdd,Nat.reduceSub,if_true,Nat.zero_add,decide_true,lg,Int.reduceNeg,hk,hc,ha,hg,p18',k1,k2,k3,k4,show (0:Int) < 2147483629 by decide,show (0:Int) < 2147483647 by decide,show (3:Nat)<=1000 by decide]
  ·rw [if_neg hk] at hc
   subst hc
   have ha0:a=0:=by rw [<-ha];rfl
   subst ha0
   rw [<-hg]
   simp only [fv,gN,iV,iC,iOp,bg,mr,ag,aa,iCB,ck,ft,aq,aG,bi,cK,eU,nE,r8,i7,lsD,dIx,bH,bM,iH,mq,dLt,dGe,bA,sS,u5,Option.bind_some,Option.map_some,List.getD_cons_zero,List.getD_cons_succ,List.set_cons_zero,List.set_cons_succ,List.map_cons,List.map_nil,List.length_cons,List.length_nil,List.replicate_succ,List.replicate_zero,List.cons_append,List.nil_append,Nat.reduceAdd,Nat.reduceSub,if_true,if_false,Bool.false_eq_true,Nat.zero_add,decide_false,lg,Int.reduceLT,Int.reduceNeg,hk,p18',k1,k2,k3,k4,show (0:Int) < 2147483629 by decide,show (0:Int) < 2147483647 by decide,show (3:Nat)<=1000 by decide]
 by_cases hk:(k:Int) < ((ns.map D.int).length:Nat)
 ·have hk':k < ns.length:=by rw [List.length_map] at hk;lia
  exact key ns[k] (by rw [if_pos hk];exact dU (by rw [List.getElem?_map,List.getElem?_eq_getElem hk'];rfl))
 ·exact key 0 (by rw [if_neg hk])
theorem wK {te:Ef}{st:Sto}{n:Nat}{a:Option W}{l:Ev} (Q:D->Prop) {ds:List D} (h:bU st n) (hte:∀ s d,d ∈ ds->bU s n->∃ x s',Q x/\Stp n s s'/\te (some (.d d)::l) s=some (.d x,s')) :
  ∃ us st',us.length=ds.length/\(∀ u ∈ us,Q u)/\Stp n st st'/\lcI (.nm 0) bf te (a::l) ds st=some (us,st'):=by
 obtain⟨us,s2,e2,t2,hl,hv⟩:=pd (g:=.nm 0) (tt:=bf) (te:=te) (env:=a::l) (ds:=ds)
  (λi ys s=>Stp n st s/\ys.length=i/\∀ u ∈ ys,Q u) (st:=st) (ys0:=[]) ⟨Stp.refl h,rfl,(λ_ h=>nomatch h)⟩ (λi d ys s hd ⟨p1,p3,p4⟩=>by
   obtain⟨x,s2,hx,t2,e2⟩:=hte s d (List.mem_of_getElem? hd) p1.hand
   exact⟨_,rfl,.inl ⟨s,x,s2,rfl,e2,p1.trans t2,by rw [List.length_append,p3];rfl,λu hu=>by
    rcases List.mem_append.mp hu with z | z
    ·exact p4 u z
    ·rw [List.mem_singleton.mp z];exact hx⟩⟩)
 exact⟨us,s2,by simpa using hl,by simpa using hv,t2,e2⟩
end Own
set_option maxHeartbeats 1000000
namespace Own
open PySem L2
open Sx (Pb Tb Good Named Fe LV ZV piv lexP leastR leaveL sumN unit colV basis)
theorem jh {f:Tf}{env:Ev}{st s:Sto}{k:Bool} (h:f env st=some (k,s)):cn f env st=some (!k,s):=by
 simp only [cn,h,Option.map_some]
theorem jE {a b:Tf}{env:Ev}{st s s':Sto}{k:Bool} (ha:a env st=some (false,s)) (hb:b env s=some (k,s')):dL a b env st=some (k,s'):=by
 simp only [dL,ha,Option.bind_some,Bool.false_eq_true,if_false,hb]
theorem Be {a b:Tf}{env:Ev}{st s:Sto} (ha:a env st=some (true,s)):dL a b env st=some (true,s):=by
 simp only [dL,ha,Option.bind_some,if_true]
theorem lW {a b:Tf}{env:Ev}{st:Sto}{k j:Bool} (ha:a env st=some (k,st)) (hb:b env st=some (j,st)):dL a b env st=some (k || j,st):=by
 cases k with
 | true=>exact Be ha
 | false=>exact jE ha hb
theorem lA {a b:Ef}{env:Ev}{st:Sto}{k j:Bool} (ha:a env st=some (.d (.bl k),st)) (hb:b env st=some (.d (.bl j),st)):fq a b env st=some (.d (.bl (k && j)),st):=by
 cases k with
 | true=>simp only [fq,ha,Option.bind_some,blW,if_true,hb];rfl
 | false=>simp only [fq,ha,Option.bind_some,blW,Bool.false_eq_true,if_false];rfl
theorem kM {c:Tf}{r:Sf}{env:Ev}{st:Sto}{k j:Bool} (hc:c env st=some (k,st)) (hr:r env st=some (.rt (.d (.bl j)) st)):aq (ce c (bi (iC (.bl false))) bj) r env st=some (.rt (.d (.bl (!k && j))) st):=by
 cases k with
 | true=>exact ig (gf (s:=st) hc rfl)
 | false=>exact ar (dy (s:=st) hc rfl) hr
theorem lp {f:Ef}{env:Ev}{st s:Sto}{k:Bool} (h:f env st=some (.d (.bl k),s)):cE cG f env st=some (k,s):=by
 simp only [cE,h,Option.bind_some];rfl
noncomputable def ti (xs:List Int):D:=.tup (xs.map D.int)
noncomputable def dX (xs ys:List Int):Int:=(List.zipWith (λa b=>a*b) xs ys).sum
noncomputable def Sml (xs:List Int):Prop:=xs.length<=1000/\∀ x ∈ xs,x.natAbs<=2 ^ 50
theorem sF {α:Type}{te:Ef}{l:Ev}{st:Sto}{g:α->D×D} (F:α->D):∀ {ks:List α},(∀ k ∈ ks,te (some (.d (g k).1)::some (.d (g k).2)::l) st=some (.d (F k),st))->
  lcI (.tp [0,1]) bf te (none::none::l) (ks.map λk=>D.tup [(g k).1,(g k).2]) st=some (ks.map F,st)
 | [],_=>rfl
 | k::ks,h=>by
  have ih:=sF (te:=te) (l:=l) (st:=st) (g:=g) F (ks:=ks) λx hx=>h x (List.mem_cons_of_mem _ hx)
  have h1:=h k List.mem_cons_self
  rw [List.map_cons,List.map_cons]
  unfold lcI
  rw [show eU (.tp [0,1]) (.d (.tup [(g k).1,(g k).2])) (none::none::l)=some (some (.d (g k).1)::some (.d (g k).2)::l) from rfl,Option.bind_some,show bf (some (.d (g k).1)::some (.d (g k).2)::l) st=some (true,st) from rfl,Option.bind_some,if_pos rfl,h1,Option.bind_some,ih];rfl
theorem qu {α:Type}{te:Ef}{l:Ev}{st:Sto}{g:α->D} (F:α->D):∀ {ks:List α},(∀ k ∈ ks,te (some (.d (g k))::l) st=some (.d (F k),st))->lcI (.nm 0) bf te (none::l) (ks.map g) st=some (ks.map F,st)
 | [],_=>rfl
 | k::ks,h=>by
  have ih:=qu (te:=te) (l:=l) (st:=st) (g:=g) F (ks:=ks) λx hx=>h x (List.mem_cons_of_mem _ hx)
  have h1:=h k List.mem_cons_self
  rw [List.map_cons,List.map_cons]
  unfold lcI
  rw [show eU (.nm 0) (.d (g k)) (none::l)=some (some (.d (g k))::l) from rfl,Option.bind_some,show bf (some (.d (g k))::l) st=some (true,st) from rfl,Option.bind_some,if_pos rfl,h1,Option.bind_some,ih];rfl
theorem mI {α β:Type} (f:α->D) (g:β->D):∀ (xs:List α) (ys:List β),jC (xs.map f) (ys.map g)=(xs.zip ys).map λq=>D.tup [f q.1,g q.2]
 | [],ys=>by cases ys<;>rfl
 | x::xs,[]=>rfl
 | x::xs,y::ys=>by rw [List.map_cons,List.map_cons,jC,mI f g xs ys];rfl
theorem qy {α:Type} (f:α->Int):∀ (xs:List α) (ys:List Int),((xs.zip ys).map λq=>f q.1*q.2).sum=dX (xs.map f) ys
 | [],ys=>by cases ys<;>rfl
 | x::xs,[]=>rfl
 | x::xs,y::ys=>by
  have ih:=qy f xs ys
  unfold dX at ih ⊢
  rw [List.zip_cons_cons,List.map_cons,List.map_cons,List.zipWith_cons_cons,List.sum_cons,List.sum_cons,ih]
theorem lj {a b:Int} (h:a.natAbs<=2 ^ 50):PySem.IntMulOk a b:=ii (by lia)
abbrev AE:Sf:=bi (iCB qp (aa (aD (iLc 2 [] (d8 (aa (iV 0) (aa (iV 1) ag))) (.tp [0,1]) bf (iOp bM (iV 0) (iV 1)))) ag))
theorem ue {st:Sto}{d:D}{xs ys:List Int} (hd:d=.tup (xs.map D.int)\/d=.lst (xs.map D.int)) (hx:Sml xs):cK 2 2 AE [.d d,.d (ti ys)] st=some (.d (.int (dX xs ys)),st):=by
 have hz:d8 (aa (iV 0) (aa (iV 1) ag)) [some (.d d),some (.d (ti ys))] st=some ((xs.zip ys).map λq=>D.tup [.int q.1,.int q.2],st):=by
  rw [<-mI D.int D.int]
  rcases hd with rfl | rfl<;>rfl
 have hl:lcI (.tp [0,1]) bf (iOp bM (iV 0) (iV 1)) [none,none] ((xs.zip ys).map λq=>D.tup [.int q.1,.int q.2]) st=some ((xs.zip ys).map λq=>D.int (q.1*q.2),st):=
  sF (g:=λq:Int×Int=>(D.int q.1,D.int q.2)) (λq=>D.int (q.1*q.2)) λq hq=>aj rfl rfl (df st (lj (hx.2 q.1 (List.of_mem_zip hq).1)))
 have hs:qp st [.d (.lst ((xs.zip ys).map λq=>D.int (q.1*q.2)))]=some (.int (dX xs ys)):=by
  have:=yT st ((xs.zip ys).map λq=>q.1*q.2)
  rw [qy (λx=>x),List.map_map,List.map_id'] at this
  exact this
 have hlen:((xs.zip ys).map λq=>D.tup [.int q.1,.int q.2]).length<=1000000:=by
  rw [List.length_map,List.length_zip];have:=hx.1;lia
 exact aQ (n:=2) (k:=2) (b:=AE) rfl (bn (aZ (ac (aI (cu hz hlen hl)) rfl) hs))
theorem rd {st:Sto}{d:D}{xs ys:List Int} (hd:d=.tup (xs.map D.int)\/d=.lst (xs.map D.int)) (hx:Sml xs):aU [.d d,.d (ti ys)] st=some (.d (.int (dX xs ys)),st):=ue hd hx
theorem rX {st:Sto}{xs ys:List Int} (hx:Sml xs):cP [.d (ti xs),.d (ti ys)] st=some (.d (.int (dX xs ys)),st):=ue (.inl rfl) hx
theorem ug (s:Sto) {α:Type} (f:α->Bool) (ks:List α):oB s [.d (.lst (ks.map λk=>D.bl (f k)))]=some (.bl (ks.all f)):=by
 show (jH _).map _=_
 rw [show (ks.map λk=>D.bl (f k))=(ks.map f).map D.bl by rw [List.map_map];rfl,kH]
 show some (D.bl ((ks.map f).all id))=_
 rw [List.all_map];rfl
theorem AJ (s:Sto) {α:Type} (f:α->Bool) (ks:List α):ub s [.d (.lst (ks.map λk=>D.bl (f k)))]=some (.bl (ks.any f)):=by
 show (jH _).map _=_
 rw [show (ks.map λk=>D.bl (f k))=(ks.map f).map D.bl by rw [List.map_map];rfl,kH]
 show some (D.bl ((ks.map f).any id))=_
 rw [List.any_map];rfl
noncomputable def eY (xs:List Int) (k:Nat):Bool:=(xs.length==k) && xs.all λx=>decide (x>=0)
theorem ze (s:Sto) (xs:List Int):bA s [.d (ti xs)]=some (.int (xs.length:Int)):=by
 show some (D.int ((xs.map D.int).length:Nat))=_
 rw [List.length_map]
theorem rM {w:Fn}{st:Sto}{xs:List Int}{k:Nat} (hw:∀ (i:Int) (s:Sto),w [.d (.int i)] s=some (.d (.bl true),s)) (hl:xs.length<=1000):cK 2 2 (aq (ce (dL (cn (cE cG (iCB kK (aa (iV 0) (aa (iC (.ty "tuple")) ag))))) (bg dNe (iCB bA (aa (iV 0) ag)) (iV 1))) (bi (iC (.bl false))) bj) (bi (iCB oB (aa (aD (iLc 1 [] (aX (iV 0)) (.nm 0) bf (fq (au w (aa (iV 0) ag)) (iOp dGe (iV 0) (iC (.int 0)))))) ag)))) [.d (ti xs),.d (.int (k:Int))] st=some (.d (.bl (eY xs k)),st):=by
 have h1:dL (cn (cE cG (iCB kK (aa (iV 0) (aa (iC (.ty "tuple")) ag))))) (bg dNe (iCB bA (aa (iV 0) ag)) (iV 1)) [some (.d (ti xs)),some (.d (.int (k:Int)))] st=some (!(xs.length==k),st):=by
  refine jE (s:=st) rfl (aY (aZ (ac rfl rfl) (ze st xs)) rfl ?_)
  show some (D.bl (!((xs.length:Int)==(k:Int))))=_
  rw [show ((xs.length:Int)==(k:Int))=(xs.length==k) by rw [Bool.eq_iff_iff];simp;lia]
 have hlc:lcI (.nm 0) bf (fq (au w (aa (iV 0) ag)) (iOp dGe (iV 0) (iC (.int 0)))) [none] (xs.map D.int) st=some (xs.map λx=>D.bl (decide (x>=0)),st):=
  qu (g:=D.int) (λx=>D.bl (decide (x>=0))) λx _=>lA (k:=true) (aw rfl (hw x st)) (aj rfl rfl (xR st _ _))
 have:=kM (r:=bi (iCB oB (aa (aD (iLc 1 [] (aX (iV 0)) (.nm 0) bf (fq (au w (aa (iV 0) ag)) (iOp dGe (iV 0) (iC (.int 0)))))) ag))) h1 (bn (aZ (ac (aI (cu (gw rfl) (by rw [List.length_map];lia) hlc)) rfl) (ug st (λx:Int=>decide (x>=0)) xs)))
 rw [Bool.not_not] at this
 exact aQ (n:=2) (k:=2) rfl this
theorem zO {st:Sto}{xs:List Int}{k:Nat} (hl:xs.length<=1000):cw [.d (ti xs),.d (.int (k:Int))] st=some (.d (.bl (eY xs k)),st):=rM (w:=gG) (λ_ _=>rfl) hl
theorem Az {st:Sto}{xs:List Int}{k:Nat} (hl:xs.length<=1000):cc [.d (ti xs),.d (.int (k:Int))] st=some (.d (.bl (eY xs k)),st):=rM (w:=eV) (λ_ _=>rfl) hl
end Own
set_option maxHeartbeats 1000000
namespace Own
open PySem L2
open Sx (Pb Tb Good Named Fe LV ZV piv lexP leastR leaveL sumN unit colV basis)
noncomputable def rlL (n:Nat) (R:Nat->Nat->Int) (i:Nat):List Int:=(List.range n).map (R i)
noncomputable def clL (m:Nat) (R:Nat->Nat->Int) (k:Nat):List Int:=(List.range m).map λr=>R r k
theorem iq (n:Nat) (f:Nat->Int):D.tup (mpI n f)=ti ((List.range n).map f):=by unfold ti;rw [cL]
theorem wc (m n:Nat) (R:Nat->Nat->Int) (b:Nat->Int):jC ((List.range m).map λi=>D.tup (mpI n (R i))) (mpI m b)=(List.range m).map λi=>D.tup [.tup (mpI n (R i)),.int (b i)]:=by
 apply List.ext_getElem?
 intro i
 rw [jo,List.getElem?_map,List.getElem?_map]
 by_cases hi:i < m
 ·rw [dN hi,List.getElem?_range hi];rfl
 ·rw [List.getElem?_eq_none (l:=List.range m) (by rw [List.length_range];lia)];rfl
section
variable {m n:Nat}{R:Nat->Nat->Int}{b g:Nat->Int}
theorem Inp.row (h:Inp m n R b g) {i:Nat} (hi:i < m):Sml (rlL n R i):=by
 have:=h.n64
 refine⟨by unfold rlL;rw [List.length_map,List.length_range];lia,λx hx=>?_⟩
 obtain⟨c,hc,rfl⟩:=List.mem_map.mp hx
 exact h.R i c hi (List.mem_range.mp hc)
theorem Inp.col (h:Inp m n R b g) {k:Nat} (hk:k < n):Sml (clL m R k):=by
 have:=h.m64
 refine⟨by unfold clL;rw [List.length_map,List.length_range];lia,λx hx=>?_⟩
 obtain⟨c,hc,rfl⟩:=List.mem_map.mp hx
 exact h.R c k (List.mem_range.mp hc) hk
theorem Inp.bL (h:Inp m n R b g):Sml ((List.range m).map b):=by
 have:=h.m64
 refine⟨by rw [List.length_map,List.length_range];lia,λx hx=>?_⟩
 obtain⟨c,hc,rfl⟩:=List.mem_map.mp hx
 exact (h.b c (List.mem_range.mp hc)).1
theorem Inp.gL (h:Inp m n R b g):Sml ((List.range n).map g):=by
 have:=h.n64
 refine⟨by rw [List.length_map,List.length_range];lia,λx hx=>?_⟩
 obtain⟨c,hc,rfl⟩:=List.mem_map.mp hx
 exact h.g c (List.mem_range.mp hc)
noncomputable def jg (m n:Nat) (R:Nat->Nat->Int) (b:Nat->Int) (am:List Int) (p:Int):Bool:=(List.range m).all λr=>decide (dX (rlL n R r) am<=b r*p)
noncomputable def rH (m n:Nat) (R:Nat->Nat->Int) (g:Nat->Int) (pr:List Int) (p:Int):Bool:=(List.range n).all λk=>decide (dX (clL m R k) pr>=g k*p)
noncomputable def eqB (m n:Nat) (b g:Nat->Int) (am pr:List Int):Bool:=dX ((List.range m).map b) pr==dX ((List.range n).map g) am
noncomputable def lU (m n:Nat) (R:Nat->Nat->Int) (b g:Nat->Int) (p:Int) (am pr:List Int):Bool:=!(decide (p < 1)) && (eY am n && (eY pr m && (jg m n R b am p && (rH m n R g pr p && eqB m n b g am pr))))
noncomputable def uW (m n:Nat) (R:Nat->Nat->Int) (g:Nat->Int) (way:List Int):Bool:=eY way n && (jg m n R (λ_=>0) way 1 && decide (dX ((List.range n).map g) way > 0))
theorem A4 (s:Sto) (a b:Int):dLe s (.d (.int a)) (.d (.int b))=some (.bl (decide (a<=b))):=rfl
theorem uz {st:Sto}{B:D}{am:List Int}{p:Int} (hm:m<=64) (hB:B=.tup (mpI m b)\/B=.lst (mpI m b)) (hR:∀ i,i < m->Sml (rlL n R i)) (hb:∀ i,i < m->(b i).natAbs<=2 ^ 50):cI [.d (bC m n R),.d B,.d (ti am),.d (.int p)] st=some (.d (.bl (jg m n R b am p)),st):=by
 have hz:d8 (aa (iV 0) (aa (iV 1) ag)) [some (.d (bC m n R)),some (.d B),some (.d (ti am)),some (.d (.int p))] st=some ((List.range m).map λi=>D.tup [.tup (mpI n (R i)),.int (b i)],st):=by
  rw [<-wc]
  rcases hB with rfl | rfl<;>rfl
 have hl:lcI (.tp [0,1]) bf hZ [none,none,some (.d (ti am)),some (.d (.int p))] ((List.range m).map λi=>D.tup [.tup (mpI n (R i)),.int (b i)]) st=some ((List.range m).map λr=>D.bl (decide (dX (rlL n R r) am<=b r*p)),st):=
  rY (g:=λi=>(D.tup (mpI n (R i)),.int (b i))) (λr=>D.bl (decide (dX (rlL n R r) am<=b r*p))) λi hi=>by
   have hi':=List.mem_range.mp hi
   exact aj (aw (ws:=[.d (.tup (mpI n (R i))),.d (ti am)]) rfl (rd (xs:=rlL n R i) (.inl (by unfold rlL;rw [<-cL])) (hR i hi'))) (aj rfl rfl (df st (lj (hb i hi')))) (A4 _ _ _)
 exact aQ (n:=4) (k:=4) (b:=ef) rfl (bn (aZ (ac (aI (cu hz (by rw [List.length_map,List.length_range];lia) hl)) rfl) (ug st _ _)))
theorem zl {st:Sto}{k:Nat} (hm:m<=64) (hk:k < n):jB [.d (bC m n R),.d (.int (k:Int))] st=some (.d (.lst ((clL m R k).map D.int)),st):=by
 have hl:lcI (.nm 0) bf kf [none,some (.d (.int (k:Int)))] ((List.range m).map λi=>D.tup (mpI n (R i))) st=some ((List.range m).map λr=>D.int (R r k),st):=
  kL (g:=λi=>D.tup (mpI n (R i))) (λr=>D.int (R r k)) λi _=>aj rfl rfl (show dIx st (.d (.tup (mpI n (R i)))) (.d (.int (k:Int)))=some (.int (R i k)) from dU (dN hk))
 unfold clL
 rw [List.map_map]
 exact aQ (n:=2) (k:=2) (b:=io) rfl (bn (aI (cu (gw rfl) (by rw [List.length_map,List.length_range];lia) hl)))
theorem Aq {st:Sto}{pr:List Int}{p:Int} (h:Inp m n R b g):fJ [.d (bC m n R),.d (.tup (mpI n g)),.d (ti pr),.d (.int p)] st=some (.d (.bl (rH m n R g pr p)),st):=by
 have hm:=h.m64
 have hn:=h.n64
 have hz:fX (aa (iV 1) ag) [some (.d (bC m n R)),some (.d (.tup (mpI n g))),some (.d (ti pr)),some (.d (.int p))] st=some ((List.range n).map λi=>D.tup [.int ((i:Nat):Int),.int (g i)],st):=by
  rw [<-qr];rfl
 have hl:lcI (.tp [0,1]) bf jj [none,none,some (.d (bC m n R)),some (.d (ti pr)),some (.d (.int p))] ((List.range n).map λi=>D.tup [.int ((i:Nat):Int),.int (g i)]) st=some ((List.range n).map λk=>D.bl (decide (dX (clL m R k) pr>=g k*p)),st):=
  rY (g:=λi=>(D.int ((i:Nat):Int),.int (g i))) (λk=>D.bl (decide (dX (clL m R k) pr>=g k*p))) λi hi=>by
   have hi':=List.mem_range.mp hi
   exact aj (aw (ac (aw (ws:=[.d (bC m n R),.d (.int ((i:Nat):Int))]) rfl (zl hm hi')) (ac rfl rfl)) (rd (.inr rfl) (h.col hi'))) (aj rfl rfl (df st (lj (h.g i hi')))) (xR _ _ _)
 exact aQ (n:=4) (k:=4) (b:=fL) rfl (bn (aZ (ac (aI (cu hz (by rw [List.length_map,List.length_range];lia) hl)) rfl) (ug st _ _)))
theorem uJ (s:Sto) (f:Nat->Int):bA s [.d (.tup (mpI n f))]=some (.int (n:Int)):=by
 show some (D.int ((mpI n f).length:Nat))=_
 rw [bQ]
theorem wY (s:Sto):bA s [.d (bC m n R)]=some (.int (m:Int)):=by
 show some (D.int (((List.range m).map λi=>D.tup (mpI n (R i))).length:Nat))=_
 rw [List.length_map,List.length_range]
theorem zr {st:Sto}{p:Int}{am pr:List Int} (h:Inp m n R b g) (ha:am.length<=1000) (hp:pr.length<=1000):kJ [.d (bC m n R),.d (.tup (mpI m b)),.d (.tup (mpI n g)),.d (.int p),.d (ti am),.d (ti pr)] st=some (.d (.bl (lU m n R b g p am pr)),st):=by
 have k1:=zO (st:=st) (xs:=am) (k:=n) ha
 have k2:=zO (st:=st) (xs:=pr) (k:=m) hp
 have k3:=uz (st:=st) (m:=m) (n:=n) (R:=R) (b:=b) (am:=am) (p:=p) h.m64 (.inl rfl) (λi hi=>h.row hi) (λi hi=>(h.b i hi).1)
 have k4:=Aq (st:=st) (pr:=pr) (p:=p) h
 have k5:=rd (st:=st) (d:=.tup (mpI m b)) (xs:=(List.range m).map b) (ys:=pr) (.inl (by rw [cL])) h.bL
 have k6:=rd (st:=st) (d:=.tup (mpI n g)) (xs:=(List.range n).map g) (ys:=am) (.inl (by rw [cL])) h.gL
 have l1:=uJ (n:=n) st g
 have l2:=wY (m:=m) (n:=n) (R:=R) st
 generalize bC m n R=rs at *
 generalize D.tup (mpI m b)=bs at *
 generalize D.tup (mpI n g)=gs at *
 generalize ti am=ta at *
 generalize ti pr=tp at *
 have c1:dL (cn (cE cG (au gG (aa (iV 3) ag)))) (bg dLt (iV 3) (iC (.int 1))) [some (.d rs),some (.d bs),some (.d gs),some (.d (.int p)),some (.d ta),some (.d tp)] st=some (false || decide (p < 1),st):=lW (k:=false) rfl (aY rfl rfl (qU _ _ _))
 have c2:dL (cn (cE cG (au cw (aa (iV 4) (aa (iCB bA (aa (iV 2) ag)) ag))))) (cn (cE cG (au cw (aa (iV 5) (aa (iCB bA (aa (iV 0) ag)) ag))))) [some (.d rs),some (.d bs),some (.d gs),some (.d (.int p)),some (.d ta),some (.d tp)] st=some (!(eY am n) || !(eY pr m),st):=lW (jh (lp (aw (ac rfl (ac (aZ (ac rfl rfl) l1) rfl)) k1))) (jh (lp (aw (ac rfl (ac (aZ (ac rfl rfl) l2) rfl)) k2)))
 have c3:dL (cn (cE cG (au cI (aa (iV 0) (aa (iV 1) (aa (iV 4) (aa (iV 3) ag))))))) (cn (cE cG (au fJ (aa (iV 0) (aa (iV 2) (aa (iV 5) (aa (iV 3) ag))))))) [some (.d rs),some (.d bs),some (.d gs),some (.d (.int p)),some (.d ta),some (.d tp)] st=some (!(jg m n R b am p) || !(rH m n R g pr p),st):=lW (jh (lp (aw rfl k3))) (jh (lp (aw rfl k4)))
 have c4:iOp dEq (au aU (aa (iV 1) (aa (iV 5) ag))) (au aU (aa (iV 2) (aa (iV 4) ag))) [some (.d rs),some (.d bs),some (.d gs),some (.d (.int p)),some (.d ta),some (.d tp)] st=some (.d (.bl (eqB m n b g am pr)),st):=aj (aw rfl k5) (aw rfl k6) (oP _ _ _)
 have:=aQ (n:=6) (k:=6) (b:=gH) (ws:=[.d rs,.d bs,.d gs,.d (.int p),.d ta,.d tp]) rfl (kM c1 (kM c2 (kM c3 (bn c4))))
 show cK 6 6 gH _ st=_
 rw [this]
 unfold lU
 cases decide (p < 1)<;>cases eY am n<;>cases eY pr m<;>cases jg m n R b am p<;>cases rH m n R g pr p<;>rfl
theorem zJ {st:Sto}{way:List Int} (h:Inp m n R b g) (hw:way.length<=1000):nj [.d (bC m n R),.d (.tup (mpI n g)),.d (ti way)] st=some (.d (.bl (uW m n R g way)),st):=by
 have hm:=h.m64
 have k1:=zO (st:=st) (xs:=way) (k:=n) hw
 have k3:=uz (st:=st) (m:=m) (n:=n) (R:=R) (b:=λ_=>0) (am:=way) (p:=1) h.m64 (.inr rfl) (λi hi=>h.row hi) (λi hi=>Nat.zero_le _)
 have k6:=rd (st:=st) (d:=.tup (mpI n g)) (xs:=(List.range n).map g) (ys:=way) (.inl (by rw [cL])) h.gL
 have l1:=uJ (n:=n) st g
 have l2:=wY (m:=m) (n:=n) (R:=R) st
 have hz:bM st (.d (.lst [.int 0])) (.d (.int (m:Int)))=some (.lst (mpI m λ_=>0)):=by
  unfold bM;dsimp only
  rw [if_pos ⟨by show 1<=1000;decide,by lia,by lia⟩,Int.toNat_natCast,rA m (λ_=>0) (λ_=>0) 0]
  rw [cD (g:=λ_=>0) λk _=>pA λj hj=>absurd hj (Nat.not_lt_zero _)]
 generalize bC m n R=rs at *
 generalize D.tup (mpI n g)=gs at *
 generalize ti way=tw at *
 have c1:cn (cE cG (au cw (aa (iV 2) (aa (iCB bA (aa (iV 1) ag)) ag)))) [some (.d rs),some (.d gs),some (.d tw)] st=some (!(eY way n),st):=jh (lp (aw (ac rfl (ac (aZ (ac rfl rfl) l1) rfl)) k1))
 have c2:au cI (aa (iV 0) (aa (iOp bM (aD (ck (aa (iC (.int 0)) ag))) (iCB bA (aa (iV 0) ag))) (aa (iV 2) (aa (iC (.int 1)) ag)))) [some (.d rs),some (.d gs),some (.d tw)] st=some (.d (.bl (jg m n R (λ_=>0) way 1)),st):=aw (ac rfl (ac (aj rfl (aZ (ac rfl rfl) l2) hz) rfl)) k3
 have:=aQ (n:=3) (k:=3) (b:=jm) (ws:=[.d rs,.d gs,.d tw]) rfl (kM c1 (bn (lA c2 (aj (aw rfl k6) rfl (tq _ _ _)))))
 show cK 3 3 jm _ st=_
 rw [this,Bool.not_not];rfl
end
end Own
set_option maxHeartbeats 1000000
namespace Own
open PySem L2
open Sx (Pb Tb Good Named Fe LV ZV piv lexP leastR leaveL sumN unit colV basis)
inductive Itm:D->Prop
 | two (w:Str) (xs:List Int):xs.length<=1000->Itm (.tup [.str w,ti xs])
 | four (w:Str) (p:Int) (xs ys:List Int):xs.length<=1000->ys.length<=1000->Itm (.tup [.str w,.int p,ti xs,ti ys])
noncomputable def eM (m n:Nat) (R:Nat->Nat->Int) (b g:Nat->Int):D:=.tup [bC m n R,.tup (mpI m b),.tup (mpI n g)]
theorem vO (s:Sto) (a b:Str):dEq s (.d (.str a)) (.d (.str b))=some (.bl (a==b)):=wL s a b
section
variable {m n:Nat}{R:Nat->Nat->Int}{b g:Nat->Int}
theorem vJ {st:Sto}{w:Str}{xs:List Int} (h:Inp m n R b g) (hx:xs.length<=1000):cp [.d (bC m n R),.d (.tup (mpI m b)),.d (.tup (mpI n g)),.d (.tup [.str w,ti xs])] st=some (.d (.bl ((w=="beyond") && uW m n R g xs)),st):=by
 have k:=zJ (st:=st) (way:=xs) h hx
 generalize bC m n R=rs at *
 generalize D.tup (mpI m b)=bs at *
 generalize D.tup (mpI n g)=gs at *
 generalize ti xs=tx at *
 exact aQ (n:=4) (k:=4) (b:=eO) rfl (ar (dy (s:=st) (jE (s:=st) rfl (jE (s:=st) rfl (jh (k:=true) (lp (aZ (ac (aj rfl rfl (nX _ _ _)) (ac rfl rfl)) rfl))))) rfl) (ar (dy (s:=st) rfl rfl) (bn (lA (aj (aj rfl rfl (nX _ _ _)) rfl (vO _ _ _)) (aw (ac rfl (ac rfl (ac (aj rfl rfl (mh _ _ _)) rfl))) k)))))
theorem vK {st:Sto}{w:Str}{p:Int}{xs ys:List Int} (h:Inp m n R b g) (hx:xs.length<=1000) (hy:ys.length<=1000):cp [.d (bC m n R),.d (.tup (mpI m b)),.d (.tup (mpI n g)),.d (.tup [.str w,.int p,ti xs,ti ys])] st=some (.d (.bl ((w=="most") && lU m n R b g p xs ys)),st):=by
 have k:=zr (st:=st) (p:=p) (am:=xs) (pr:=ys) h hx hy
 generalize bC m n R=rs at *
 generalize D.tup (mpI m b)=bs at *
 generalize D.tup (mpI n g)=gs at *
 generalize ti xs=tx at *
 generalize ti ys=ty at *
 have i0:dIx st (.d (.tup [.str w,.int p,tx,ty])) (.d (.int 0))=some (.str w):=rfl
 have i1:dIx st (.d (.tup [.str w,.int p,tx,ty])) (.d (.int 1))=some (.int p):=rfl
 have i2:dIx st (.d (.tup [.str w,.int p,tx,ty])) (.d (.int 2))=some tx:=rfl
 have i3:dIx st (.d (.tup [.str w,.int p,tx,ty])) (.d (.int 3))=some ty:=rfl
 exact aQ (n:=4) (k:=4) (b:=eO) rfl (ar (dy (s:=st) (jE (s:=st) rfl (jE (s:=st) rfl (jh (k:=true) (lp (aZ (ac (aj rfl rfl i0) (ac rfl rfl)) rfl))))) rfl) (ig (gf (s:=st) rfl (bn (lA (aj (aj rfl rfl i0) rfl (vO _ _ _)) (aw (ac rfl (ac rfl (ac rfl (ac (aj rfl rfl i1) (ac (aj rfl rfl i2) (ac (aj rfl rfl i3) rfl)))))) k))))))
theorem uQ {st:Sto}{cs ta:D}{p:Int}{pr:List Int} (h:Inp m n R b g):∀ (ks:List Nat) (o:Option W),(∀ k ∈ ks,k < n)->∃ o',dR (.nm 7) ci (ks.map λk=>D.int (0+((k:Nat):Int))) [some (.d cs),some (.d (.int p)),some (.d ta),some (.d (ti pr)),some (.d (bC m n R)),some (.d (.tup (mpI m b))),some (.d (.tup (mpI n g))),o] st=if (ks.all λk=>decide (dX (clL m R k) pr>=g k*p))=true then some (.nx [some (.d cs),some (.d (.int p)),some (.d ta),some (.d (ti pr)),some (.d (bC m n R)),some (.d (.tup (mpI m b))),some (.d (.tup (mpI n g))),o'] st) else some (.rt (.d (.bl false)) st)
 | [],o,_=>⟨o,rfl⟩
 | k::ks,o,hk=>by
  have hm:=h.m64
  have hkn:=hk k List.mem_cons_self
  obtain⟨o',ih⟩:=uQ (st:=st) (cs:=cs) (ta:=ta) (p:=p) (pr:=pr) h ks (some (.d (.int ((k:Nat):Int)))) λx hx=>hk x (List.mem_cons_of_mem _ hx)
  have hz:d8 (aa (iV 4) (aa (iV 3) ag)) [some (.d cs),some (.d (.int p)),some (.d ta),some (.d (ti pr)),some (.d (bC m n R)),some (.d (.tup (mpI m b))),some (.d (.tup (mpI n g))),some (.d (.int ((k:Nat):Int)))] st=some (((List.range m).zip pr).map λq=>D.tup [.tup (mpI n (R q.1)),.int q.2],st):=by
   rw [<-mI (λi=>D.tup (mpI n (R i))) D.int];rfl
  have hl:lcI (.tp [0,1]) bf eZ [none,none,some (.d (.int ((k:Nat):Int)))] (((List.range m).zip pr).map λq=>D.tup [.tup (mpI n (R q.1)),.int q.2]) st=some (((List.range m).zip pr).map λq=>D.int (R q.1 k*q.2),st):=
   sF (g:=λq:Nat×Int=>(D.tup (mpI n (R q.1)),D.int q.2)) (λq=>D.int (R q.1 k*q.2)) λq hq=>aj (aj rfl rfl (show dIx st (.d (.tup (mpI n (R q.1)))) (.d (.int ((k:Nat):Int)))=some (.int (R q.1 k)) from dU (dN hkn))) rfl (df st (lj (h.R q.1 k (List.mem_range.mp (List.of_mem_zip hq).1) hkn)))
  have hs:qp st [.d (.lst (((List.range m).zip pr).map λq=>D.int (R q.1 k*q.2)))]=some (.int (dX (clL m R k) pr)):=by
   have:=yT st (((List.range m).zip pr).map λq=>R q.1 k*q.2)
   rw [qy (λr=>R r k),List.map_map] at this
   exact this
  have hlen:(((List.range m).zip pr).map λq=>D.tup [.tup (mpI n (R q.1)),.int q.2]).length<=1000000:=by
   rw [List.length_map,List.length_zip,List.length_range];lia
  have ht:bg dLt (iCB qp (aa (aD (iLc 2 [7] (d8 (aa (iV 4) (aa (iV 3) ag))) (.tp [0,1]) bf eZ)) ag)) (iOp bM (iOp dIx (iV 6) (iV 7)) (iV 1)) [some (.d cs),some (.d (.int p)),some (.d ta),some (.d (ti pr)),some (.d (bC m n R)),some (.d (.tup (mpI m b))),some (.d (.tup (mpI n g))),some (.d (.int ((k:Nat):Int)))] st=some (decide (dX (clL m R k) pr < g k*p),st):=
   aY (aZ (ac (aI (cu hz hlen hl)) rfl) hs) (aj (aj rfl rfl (show dIx st (.d (.tup (mpI n g))) (.d (.int ((k:Nat):Int)))=some (.int (g k)) from dU (dN hkn))) rfl (df st (lj (h.g k hkn)))) (qU _ _ _)
  have ek:(0:Int)+((k:Nat):Int)=((k:Nat):Int):=by lia
  refine⟨o',?_⟩
  rw [List.map_cons,ek]
  by_cases hc:dX (clL m R k) pr < g k*p
  ·rw [decide_eq_true hc] at ht
   have hb:ci [some (.d cs),some (.d (.int p)),some (.d ta),some (.d (ti pr)),some (.d (bC m n R)),some (.d (.tup (mpI m b))),some (.d (.tup (mpI n g))),some (.d (.int ((k:Nat):Int)))] st=some (.rt (.d (.bl false)) st):=gf ht rfl
   rw [List.all_cons,decide_eq_false (show ¬ dX (clL m R k) pr>=g k*p by lia),Bool.false_and,if_neg (by decide)]
   simp only [dR,show eU (.nm 7) (.d (.int ((k:Nat):Int))) [some (.d cs),some (.d (.int p)),some (.d ta),some (.d (ti pr)),some (.d (bC m n R)),some (.d (.tup (mpI m b))),some (.d (.tup (mpI n g))),o]=some [some (.d cs),some (.d (.int p)),some (.d ta),some (.d (ti pr)),some (.d (bC m n R)),some (.d (.tup (mpI m b))),some (.d (.tup (mpI n g))),some (.d (.int ((k:Nat):Int)))] from rfl,Option.bind_some,hb]
  ·rw [decide_eq_false hc] at ht
   have hb:ci [some (.d cs),some (.d (.int p)),some (.d ta),some (.d (ti pr)),some (.d (bC m n R)),some (.d (.tup (mpI m b))),some (.d (.tup (mpI n g))),some (.d (.int ((k:Nat):Int)))] st=some (.nx [some (.d cs),some (.d (.int p)),some (.d ta),some (.d (ti pr)),some (.d (bC m n R)),some (.d (.tup (mpI m b))),some (.d (.tup (mpI n g))),some (.d (.int ((k:Nat):Int)))] st):=dy ht rfl
   rw [List.all_cons,decide_eq_true (show dX (clL m R k) pr>=g k*p by lia),Bool.true_and,<-ih]
   simp only [dR,show eU (.nm 7) (.d (.int ((k:Nat):Int))) [some (.d cs),some (.d (.int p)),some (.d ta),some (.d (ti pr)),some (.d (bC m n R)),some (.d (.tup (mpI m b))),some (.d (.tup (mpI n g))),o]=some [some (.d cs),some (.d (.int p)),some (.d ta),some (.d (ti pr)),some (.d (bC m n R)),some (.d (.tup (mpI m b))),some (.d (.tup (mpI n g))),some (.d (.int ((k:Nat):Int)))] from rfl,Option.bind_some,hb]
theorem AW {st:Sto}{p:Int}{am pr:List Int} (h:Inp m n R b g) (ha:am.length<=1000) (hp:pr.length<=1000):gi [.d (eM m n R b g),.d (.int p),.d (ti am),.d (ti pr)] st=some (.d (.bl (lU m n R b g p am pr)),st):=by
 have hm:=h.m64
 have hn:=h.n64
 have k1:=Az (st:=st) (xs:=am) (k:=n) ha
 have k2:=Az (st:=st) (xs:=pr) (k:=m) hp
 have k5:=rX (st:=st) (xs:=(List.range m).map b) (ys:=pr) h.bL
 have k6:=rX (st:=st) (xs:=(List.range n).map g) (ys:=am) h.gL
 rw [<-iq] at k5 k6
 have l1:=uJ (n:=n) st g
 have l2:=wY (m:=m) (n:=n) (R:=R) st
 obtain⟨o',hf⟩:=uQ (st:=st) (cs:=eM m n R b g) (ta:=ti am) (p:=p) (pr:=pr) h (List.range n) none λk hk=>List.mem_range.mp hk
 have hzb:d8 (aa (iV 4) (aa (iV 5) ag)) [some (.d (eM m n R b g)),some (.d (.int p)),some (.d (ti am)),some (.d (ti pr)),some (.d (bC m n R)),some (.d (.tup (mpI m b))),some (.d (.tup (mpI n g))),none] st=some ((List.range m).map λi=>D.tup [.tup (mpI n (R i)),.int (b i)],st):=by
  rw [<-wc];rfl
 have hany:lcI (.tp [0,1]) bf eS [none,none,some (.d (ti am)),some (.d (.int p))] ((List.range m).map λi=>D.tup [.tup (mpI n (R i)),.int (b i)]) st=some ((List.range m).map λr=>D.bl (decide (dX (rlL n R r) am > b r*p)),st):=
  rY (g:=λi=>(D.tup (mpI n (R i)),.int (b i))) (λr=>D.bl (decide (dX (rlL n R r) am > b r*p))) λi hi=>by
   have hi':=List.mem_range.mp hi
   have kd:=rX (st:=st) (xs:=rlL n R i) (ys:=am) (h.row hi')
   unfold rlL at kd
   rw [<-iq] at kd
   exact aj (aw (ws:=[.d (.tup (mpI n (R i))),.d (ti am)]) rfl kd) (aj rfl rfl (df st (lj (h.b i hi').1))) (tq _ _ _)
 have c0:aG (.tp [4,5,6]) (iV 0) [some (.d (eM m n R b g)),some (.d (.int p)),some (.d (ti am)),some (.d (ti pr)),none,none,none,none] st=some (.nx [some (.d (eM m n R b g)),some (.d (.int p)),some (.d (ti am)),some (.d (ti pr)),some (.d (bC m n R)),some (.d (.tup (mpI m b))),some (.d (.tup (mpI n g))),none] st):=rfl
 have hrng:dk (aa (iCB bA (aa (iV 6) ag)) ag) [some (.d (eM m n R b g)),some (.d (.int p)),some (.d (ti am)),some (.d (ti pr)),some (.d (bC m n R)),some (.d (.tup (mpI m b))),some (.d (.tup (mpI n g))),none] st=some (dE 0 n,st):=lC (aZ (ac rfl rfl) l1) (by lia) (by lia) (by lia)
 generalize eM m n R b g=cs at *
 generalize bC m n R=rs at *
 generalize D.tup (mpI m b)=bs at *
 generalize D.tup (mpI n g)=gs at *
 generalize ti am=ta at *
 generalize ti pr=tp at *
 have c1:dL (cn (cE cG (au eV (aa (iV 1) ag)))) (dL (bg dLt (iV 1) (iC (.int 1))) (cn (cE cG (au cc (aa (iV 2) (aa (iCB bA (aa (iV 6) ag)) ag)))))) [some (.d cs),some (.d (.int p)),some (.d ta),some (.d tp),some (.d rs),some (.d bs),some (.d gs),none] st=some (false || (decide (p < 1) || !(eY am n)),st):=lW (k:=false) rfl (lW (aY rfl rfl (qU _ _ _)) (jh (lp (aw (ac rfl (ac (aZ (ac rfl rfl) l1) rfl)) k1))))
 have c2:cn (cE cG (au cc (aa (iV 3) (aa (iCB bA (aa (iV 4) ag)) ag)))) [some (.d cs),some (.d (.int p)),some (.d ta),some (.d tp),some (.d rs),some (.d bs),some (.d gs),none] st=some (!(eY pr m),st):=jh (lp (aw (ac rfl (ac (aZ (ac rfl rfl) l2) rfl)) k2))
 have c3:cE cG (iCB ub (aa (aD (iLc 2 [2,1] (d8 (aa (iV 4) (aa (iV 5) ag))) (.tp [0,1]) bf eS)) ag)) [some (.d cs),some (.d (.int p)),some (.d ta),some (.d tp),some (.d rs),some (.d bs),some (.d gs),none] st=some ((List.range m).any λr=>decide (dX (rlL n R r) am > b r*p),st):=lp (aZ (ac (aI (cu hzb (by rw [List.length_map,List.length_range];lia) hany)) rfl) (AJ st _ _))
 have c4:aq (jD (dk (aa (iCB bA (aa (iV 6) ag)) ag)) (.nm 7) ci) (bi (iOp dEq (au cP (aa (iV 5) (aa (iV 3) ag))) (au cP (aa (iV 6) (aa (iV 2) ag))))) [some (.d cs),some (.d (.int p)),some (.d ta),some (.d tp),some (.d rs),some (.d bs),some (.d gs),none] st=some (.rt (.d (.bl (rH m n R g pr p && eqB m n b g am pr))) st):=by
  change dR (.nm 7) ci (dE 0 n) _ st=if rH m n R g pr p=true then _ else _ at hf
  cases hcv:rH m n R g pr p with
  | true=>
   rw [hcv,if_pos rfl] at hf
   exact ar (dc hrng hf) (bn (aj (aw rfl k5) (aw rfl k6) (oP _ _ _)))
  | false=>
   rw [hcv,if_neg (by decide)] at hf
   exact ig (dc hrng hf)
 have:=aQ (n:=8) (k:=4) (b:=dn) (ws:=[.d cs,.d (.int p),.d ta,.d tp]) rfl (ar c0 (kM c1 (kM c2 (kM c3 c4))))
 show cK 8 4 dn _ st=_
 rw [this]
 have e3:((List.range m).any λr=>decide (dX (rlL n R r) am > b r*p))=!(jg m n R b am p):=by
  unfold jg
  rw [List.not_all_eq_any_not]
  congr 1
  funext r
  rw [Bool.eq_iff_iff];simp
 rw [e3]
 unfold lU
 cases decide (p < 1)<;>cases eY am n<;>cases eY pr m<;>cases jg m n R b am p<;>rfl
theorem Cs {st:Sto}{w:Str}{xs:List Int} (h:Inp m n R b g) (hx:xs.length<=1000):gQ [.d (eM m n R b g),.d (.tup [.str w,ti xs])] st=some (.d (.bl ((w=="beyond") && uW m n R g xs)),st):=by
 have hm:=h.m64
 have k1:=Az (st:=st) (xs:=xs) (k:=n) hx
 have k6:=rX (st:=st) (xs:=(List.range n).map g) (ys:=xs) h.gL
 rw [<-iq] at k6
 have l1:=uJ (n:=n) st g
 have hl:lcI (.nm 0) bf jb [none,some (.d (.tup [.str w,ti xs]))] ((List.range m).map λi=>D.tup (mpI n (R i))) st=some ((List.range m).map λr=>D.bl (decide (dX (rlL n R r) xs<=0)),st):=
  kL (g:=λi=>D.tup (mpI n (R i))) (λr=>D.bl (decide (dX (rlL n R r) xs<=0))) λi hi=>by
   have kd:=rX (st:=st) (xs:=rlL n R i) (ys:=xs) (h.row (List.mem_range.mp hi))
   unfold rlL at kd
   rw [<-iq] at kd
   exact aj (aw (ws:=[.d (.tup (mpI n (R i))),.d (ti xs)]) (ac rfl (ac (aj rfl rfl (mh _ _ _)) rfl)) kd) rfl (A4 _ _ _)
 have j0:dIx st (.d (eM m n R b g)) (.d (.int 0))=some (bC m n R):=rfl
 have j2:dIx st (.d (eM m n R b g)) (.d (.int 2))=some (.tup (mpI n g)):=rfl
 generalize eM m n R b g=cs at *
 generalize D.tup (mpI n g)=gs at *
 generalize ti xs=tx at *
 have c1:dL (bg dNe (iOp dIx (iV 1) (iC (.int 0))) (iC (.str "beyond"))) (cn (cE cG (au cc (aa (iOp dIx (iV 1) (iC (.int 1))) (aa (iCB bA (aa (iOp dIx (iV 0) (iC (.int 2))) ag)) ag))))) [some (.d cs),some (.d (.tup [.str w,tx]))] st=some (!(w=="beyond") || !(eY xs n),st):=lW (aY (aj rfl rfl (nX _ _ _)) rfl rfl) (jh (lp (aw (ac (aj rfl rfl (mh _ _ _)) (ac (aZ (ac (aj rfl rfl j2) rfl) l1) rfl)) k1)))
 have c2:fq (iCB oB (aa (aD (iLc 1 [1] (aX (iOp dIx (iV 0) (iC (.int 0)))) (.nm 0) bf jb)) ag)) (iOp dGt (au cP (aa (iOp dIx (iV 0) (iC (.int 2))) (aa (iOp dIx (iV 1) (iC (.int 1))) ag))) (iC (.int 0))) [some (.d cs),some (.d (.tup [.str w,tx]))] st=some (.d (.bl (((List.range m).all λr=>decide (dX (rlL n R r) xs<=0)) && decide (dX ((List.range n).map g) xs > 0))),st):=lA (aZ (ac (aI (cu (gw (aj rfl rfl j0)) (by rw [List.length_map,List.length_range];lia) hl)) rfl) (ug st _ _)) (aj (aw (ac (aj rfl rfl j2) (ac (aj rfl rfl (mh _ _ _)) rfl)) k6) rfl (tq _ _ _))
 have:=aQ (n:=2) (k:=2) (b:=fA) (ws:=[.d cs,.d (.tup [.str w,tx])]) rfl (ar (dy (s:=st) (jE (s:=st) rfl (jE (s:=st) rfl (jh (k:=true) (lp (aZ (ac (aj rfl rfl (nX _ _ _)) (ac rfl rfl)) rfl))))) rfl) (ar (dy (s:=st) rfl rfl) (kM c1 (bn c2))))
 show cK 2 2 fA _ st=_
 rw [this]
 have e3:((List.range m).all λr=>decide (dX (rlL n R r) xs<=0))=jg m n R (λ_=>0) xs 1:=rfl
 rw [e3]
 unfold uW
 cases (w=="beyond")<;>cases eY xs n<;>rfl
theorem B5 {st:Sto}{w:Str}{p:Int}{xs ys:List Int} (h:Inp m n R b g) (hx:xs.length<=1000) (hy:ys.length<=1000):gQ [.d (eM m n R b g),.d (.tup [.str w,.int p,ti xs,ti ys])] st=some (.d (.bl ((w=="most") && lU m n R b g p xs ys)),st):=by
 have k:=AW (st:=st) (p:=p) (am:=xs) (pr:=ys) h hx hy
 generalize eM m n R b g=cs at *
 generalize ti xs=tx at *
 generalize ti ys=ty at *
 have i0:dIx st (.d (.tup [.str w,.int p,tx,ty])) (.d (.int 0))=some (.str w):=rfl
 have i1:dIx st (.d (.tup [.str w,.int p,tx,ty])) (.d (.int 1))=some (.int p):=rfl
 have i2:dIx st (.d (.tup [.str w,.int p,tx,ty])) (.d (.int 2))=some tx:=rfl
 have i3:dIx st (.d (.tup [.str w,.int p,tx,ty])) (.d (.int 3))=some ty:=rfl
 exact aQ (n:=2) (k:=2) (b:=fA) rfl (ar (dy (s:=st) (jE (s:=st) rfl (jE (s:=st) rfl (jh (k:=true) (lp (aZ (ac (aj rfl rfl i0) (ac rfl rfl)) rfl))))) rfl) (ig (gf (s:=st) rfl (bn (lA (aj (aj rfl rfl i0) rfl (vO _ _ _)) (aw (ac rfl (ac (aj rfl rfl i1) (ac (aj rfl rfl i2) (ac (aj rfl rfl i3) rfl)))) k))))))
theorem u2 {x:D} (h:Inp m n R b g) (hx:Itm x):∃ k:Bool,∀ st,cp [.d (bC m n R),.d (.tup (mpI m b)),.d (.tup (mpI n g)),.d x] st=some (.d (.bl k),st)/\gQ [.d (eM m n R b g),.d x] st=some (.d (.bl k),st):=by
 cases hx with
 | two w xs h1=>exact⟨_,λst=>⟨vJ h h1,Cs h h1⟩⟩
 | four w p xs ys h1 h2=>exact⟨_,λst=>⟨vK h h1 h2,B5 h h1 h2⟩⟩
end
end Own
set_option maxHeartbeats 1000000
namespace Own
open PySem L2
open Sx (Pb Tb Good Named Fe LV ZV piv lexP leastR leaveL sumN unit colV basis)
noncomputable def BC (z:Int):Prop:=z.natAbs<=2 ^ 50
theorem tH {α:Type} [Inhabited α] {Q:α->Prop}{G:α->D}:∀ {us:List D},(∀ u ∈ us,∃ x,Q x/\u=G x)->∃ F:Nat->α,us=(List.range us.length).map (λi=>G (F i))/\∀ i,i < us.length->Q (F i)
 | [],_=>⟨λ_=>default,rfl,λi hi=>absurd hi (Nat.not_lt_zero _)⟩
 | u::us,h=>by
  obtain⟨x,hx,e⟩:=h u List.mem_cons_self
  obtain⟨F,e2,h2⟩:=tH (us:=us) λv hv=>h v (List.mem_cons_of_mem _ hv)
  refine⟨λi=>match i with | 0=>x | i+1=>F i,?_,λi hi=>?_⟩
  ·rw [List.length_cons,List.range_succ_eq_map,List.map_cons,List.map_map,e]
   congr 1
  ·match i,hi with
   | 0,_=>exact hx
   | i+1,hi=>exact h2 i (by rw [List.length_cons] at hi;lia)
theorem xn {Q:Int->Prop}{us:List D}{n:Nat} (h:∀ u ∈ us,∃ z,Q z/\u=.int z) (hn:us.length=n):∃ f,us=mpI n f/\∀ k,k < n->Q (f k):=by
 obtain⟨F,e,h2⟩:=tH h
 rw [hn] at e h2
 exact⟨F,e,h2⟩
noncomputable def sY (lo hi:Int) (u:D):Prop:=∃ z,(lo<=z/\z<=hi)/\u=.int z
noncomputable def y8 (n:Nat) (u:D):Prop:=∃ f:Nat->Int,(∀ c,c < n->BC (f c))/\u=.tup (mpI n f)
theorem Ar {us:List D}{n:Nat}{lo hi:Int} (h:∀ u ∈ us,sY lo hi u) (hl:-1000000000000000<=lo) (hh:hi<=1000000000000000) (hn:us.length=n):y8 n (.tup us):=by
 obtain⟨f,e,hf⟩:=xn h hn
 refine⟨f,λc hc=>?_,by rw [e]⟩
 have:=hf c hc
 unfold BC
 lia
theorem Am {rs bs gs:List D}{m n:Nat} (hm:m<=64) (hn:n<=100) (hr:rs.length=m) (h1:∀ u ∈ rs,y8 n u) (hb:bs.length=m) (h2:∀ u ∈ bs,sY 0 1000000000000000 u) (hg:gs.length=n) (h3:∀ u ∈ gs,sY (-1000000) 1000000 u):∃ R b g,Inp m n R b g/\D.tup [.tup rs,.tup bs,.tup gs]=eM m n R b g:=by
 obtain⟨F,e,hF⟩:=tH (α:=Nat->Int) h1
 obtain⟨b,eb,hB⟩:=xn h2 hb
 obtain⟨g,eg,hG⟩:=xn h3 hg
 rw [hr] at e hF
 refine⟨F,b,g,⟨hm,hn,λi c hi hc=>hF i hi c hc,λi hi=>⟨?_,(hB i hi).1⟩,λc hc=>?_⟩,by rw [e,eb,eg];rfl⟩
 ·have:=hB i hi;lia
 ·have:=hG c hc;lia
theorem bX {a b:Ef}{env:Ev}{st:Sto}{p:Nat}{m:Int} (ha:a env st=some (.h p,st)) (hb:b env st=some (.d (.int m),st)) (h:bU st p) (m0:0 < m) (m1:m<=1000):∃ r st',0<=r/\r < m/\Stp p st st'/\au aB (aa a (aa b ag)) env st=some (.d (.int r),st'):=by
 obtain⟨r,st',r0,r1,t,e⟩:=xO h m0 m1
 exact⟨r,st',r0,r1,t,aw (ac ha (ac hb rfl)) e⟩
theorem qR {a b:Ef}{env:Ev}{st u:Sto}{p:Nat}{m:Int} (ha:a env (st++u)=some (.h p,st++u)) (hb:b env (st++u)=some (.d (.int m),st++u)) (h:bU st p) (m0:0 < m) (m1:m<=1000):∃ r st',0<=r/\r < m/\Stp p st st'/\au aB (aa a (aa b ag)) env (st++u)=some (.d (.int r),st'++u):=by
 obtain⟨r,s,r0,r1,t,e⟩:=bX ha hb (h.app u) m0 m1
 obtain⟨st',rfl,t'⟩:=t.unapp h.lt
 exact⟨r,st',r0,r1,t',e⟩
theorem oJ {te:Ef}{st u:Sto}{n:Nat}{a:Option W}{l:Ev} (Q:D->Prop) {ds:List D} (h:bU st n) (hte:∀ s d,d ∈ ds->bU s n->∃ x s',Q x/\Stp n s s'/\te (some (.d d)::l) s=some (.d x,s')) :
  ∃ us st',us.length=ds.length/\(∀ u ∈ us,Q u)/\Stp n st st'/\lcI (.nm 0) bf te (a::l) ds (st++u)=some (us,st'++u):=by
 obtain⟨us,s,h1,h2,t,e⟩:=wK (a:=a) Q (h.app u) hte
 obtain⟨st',rfl,t'⟩:=t.unapp h.lt
 exact⟨us,st',h1,h2,t',e⟩
theorem wu {te:Ef}{p L:Nat}{all:List D}{l:Ev}{u:Sto} (Q:D->Prop) (hte:∀ s d,d ∈ all->bU s p->∃ x s',Q x/\Stp p s s'/\te (some (.d d)::l) s=some (.d x,s')):∀ (ds:List D) (a:Option W) (st:Sto),(∀ d ∈ ds,d ∈ all)->st.length=L->bU st p->
  ∃ us st',us.length=ds.length/\(∀ u ∈ us,Q u)/\Stp p st st'/\lcH L all (.nm 0) bf te (a::l) ds (st++.l all::u)=some (us,st'++.l all::u)
 | [],a,st,_,hL,h=>by
  refine⟨[],st,rfl,(λ_ h=>nomatch h),Stp.refl h,?_⟩
  unfold lcH
  rw [if_pos (by unfold lg;rw [List.getElem?_append_right (by lia),hL,Nat.sub_self];rfl)]
 | d::ds,a,st,hm,hL,h=>by
  obtain⟨x,s,hx,t,e⟩:=hte (st++.l all::u) d (hm d List.mem_cons_self) (h.app _)
  obtain⟨b,rfl,t'⟩:=t.unapp h.lt
  obtain⟨us,st',h1,h2,t2,e2⟩:=wu Q hte ds a b (λv hv=>hm v (List.mem_cons_of_mem _ hv)) (by rw [t'.len,hL]) t'.hand
  refine⟨x::us,st',by rw [List.length_cons,List.length_cons,h1],λv hv=>?_,t'.trans t2,?_⟩
  ·rcases List.mem_cons.mp hv with rfl | hv
   ·exact hx
   ·exact h2 v hv
  ·unfold lcH
   rw [if_pos (by unfold lg;rw [List.getElem?_append_right (by lia),hL,Nat.sub_self];rfl)]
   rw [show eU (.nm 0) (.d d) (a::l)=some (some (.d d)::l) from rfl,Option.bind_some,show bf (some (.d d)::l) (st++.l all::u)=some (true,st++.l all::u) from rfl,Option.bind_some,if_pos rfl,e,Option.bind_some,show nE [W.d x]=some [x] from rfl,Option.bind_some,e2]
   rfl
theorem qe {b u:Sto}{L:Nat}{xs:List D} (h:b.length=L):lg (b++.l xs::u) L=some xs:=by
 unfold lg;rw [List.getElem?_append_right (by lia),h,Nat.sub_self];rfl
theorem ym {b u:Sto}{L:Nat}{c c':C} (h:b.length=L):(b++c::u).set L c'=b++c'::u:=by
 rw [List.set_append_right _ _ (by lia),h,Nat.sub_self];rfl
theorem vD {a b lo hi:Int} (h0:lo<=a) (h1:a<=hi) (hl:lo<=0) (hh:0<=hi) (hb:b=0\/b=1):lo<=a*b/\a*b<=hi:=by
 rcases hb with rfl | rfl
 ·rw [Int.mul_zero];lia
 ·rw [Int.mul_one];lia
theorem xP {st:Sto}{p:Nat} (h:bU st p):∃ m n R b g st',1<=n/\Inp m n R b g/\Stp p st st'/\jG [.h p] st=some (.d (eM m n R b g),st'):=by
 -- many
 obtain⟨r1,a1,q0,q1,t1,e1⟩:=bX (a:=iV 0) (b:=iC (.int 5)) (env:=[some (.h p),none,none,none,none,none,none]) rfl rfl h (by decide) (by decide)
 obtain⟨many,hmany⟩:∃ many:Nat,(many:Int)=1+r1:=⟨(1+r1).toNat,by lia⟩
 have s1:aG (.nm 1) (iOp bH (iC (.int 1)) (au aB (aa (iV 0) (aa (iC (.int 5)) ag)))) [some (.h p),none,none,none,none,none,none] st=some (.nx [some (.h p),some (.d (.int (many:Int))),none,none,none,none,none] a1):=by
  rw [hmany];exact az (aj rfl e1 rfl)
 -- low
 obtain⟨r2,a2,q2,q3,t2,e2⟩:=bX (a:=iV 0) (b:=iC (.int 3)) (env:=[some (.h p),some (.d (.int (many:Int))),none,none,none,none,none]) (st:=a1) rfl rfl t1.hand (by decide) (by decide)
 have hlow:∃ low:Int,0<=low/\low<=3/\∀ s,dIx s (.d (.lst [.int 0,.int 3,.int 1])) (.d (.int r2))=some (.int low):=by
  have:r2=0\/r2=1\/r2=2:=by lia
  rcases this with rfl | rfl | rfl
  ·exact⟨0,by decide,by decide,λ_=>rfl⟩
  ·exact⟨3,by decide,by decide,λ_=>rfl⟩
  ·exact⟨1,by decide,by decide,λ_=>rfl⟩
 obtain⟨low,l0,l1,hlow⟩:=hlow
 have s2:aG (.nm 2) (iOp dIx (aD (ck (aa (iC (.int 0)) (aa (iC (.int 3)) (aa (iC (.int 1)) ag))))) (au aB (aa (iV 0) (aa (iC (.int 3)) ag)))) [some (.h p),some (.d (.int (many:Int))),none,none,none,none,none] a1=some (.nx [some (.h p),some (.d (.int (many:Int))),some (.d (.int low)),none,none,none,none] a2):=az (aj rfl e2 (hlow _))
 have t12:=t1.trans t2
 have s3:aG (.nm 3) (ft (ck ag)) [some (.h p),some (.d (.int (many:Int))),some (.d (.int low)),none,none,none,none] a2=some (.nx [some (.h p),some (.d (.int (many:Int))),some (.d (.int low)),some (.h a2.length),none,none,none] (a2++[.l []])):=rfl
 obtain⟨r4,a4,q4,q5,t4,e4⟩:=qR (a:=iV 0) (b:=iC (.int 6)) (env:=[some (.h p),some (.d (.int (many:Int))),some (.d (.int low)),some (.h a2.length),none,none,none]) (st:=a2) (u:=[.l []]) rfl rfl t2.hand (by decide) (by decide)
 obtain⟨m,hm⟩:∃ m:Nat,r4.toNat=m:=⟨_,rfl⟩
 have hit:=lC e4 q4 (by lia) hm
 have rngM:∀ (o3 o4 o5 o6:Option W) (s:Sto),dk (aa (iV 1) ag) [some (.h p),some (.d (.int (many:Int))),some (.d (.int low)),o3,o4,o5,o6] s=some (dE 0 many,s):=λo3 o4 o5 o6 s=>lC (e:=iV 1) (z:=(many:Int)) rfl (by lia) (by lia) (by lia)
 have rlen:(dE 0 many).length=many:=by unfold dE;rw [List.length_map,List.length_range]
 have row1:∀ s d,d ∈ dE 0 many->bU s p->∃ x s',sY (-9) 9 x/\Stp p s s'/\fH (some (.d d)::[some (.h p),some (.d (.int low))]) s=some (.d x,s'):=λs d _ hs=>by
  obtain⟨x1,c1,y0,y1,v1,f1⟩:=bX (a:=iV 1) (b:=iC (.int 7)) (env:=[some (.d d),some (.h p),some (.d (.int low))]) (st:=s) rfl rfl hs (by decide) (by decide)
  obtain⟨x2,c2,y2,y3,v2,f2⟩:=bX (a:=iV 1) (b:=iC (.int 4)) (env:=[some (.d d),some (.h p),some (.d (.int low))]) (st:=c1) rfl rfl v1.hand (by decide) (by decide)
  have hi:∃ k:Int,(k=0\/k=1)/\u5 c2 [.d (.bl (decide (x2 > 0)))]=some (.int k):=by
   cases decide (x2 > 0) with
   | true=>exact⟨1,.inr rfl,rfl⟩
   | false=>exact⟨0,.inl rfl,rfl⟩
  obtain⟨k,hk,ek⟩:=hi
  have sm:=vD (lo:=-9) (hi:=9) (a:=x1 - low) (b:=k) (by lia) (by lia) (by decide) (by decide) hk
  exact⟨_,c2,⟨_,sm,rfl⟩,v1.trans v2,aj (aj f1 rfl rfl) (aZ (ac (aj f2 rfl (tq _ _ _)) rfl) ek) (df _ (ii (by lia)))⟩
 obtain⟨env',s5,e5,⟨o4,rfl⟩,us,b5,rfl,tb5,ul,uq⟩:=fU (g:=.nm 4) (body:=kg) (ds:=dE 0 m)
  (λi env s=>(∃ o4,env=[some (.h p),some (.d (.int (many:Int))),some (.d (.int low)),some (.h a2.length),o4,none,none])/\∃ us b,s=b++[.l us]/\Stp p a2 b/\us.length=i/\∀ u ∈ us,y8 many u)
  (env:=[some (.h p),some (.d (.int (many:Int))),some (.d (.int low)),some (.h a2.length),none,none,none]) (st:=a4++[.l []]) ⟨⟨_,rfl⟩,[],a4,rfl,t4,rfl,λ_ h=>nomatch h⟩ (λi d env s hd ⟨⟨o4,e0⟩,us,b,es,tb,hl,hq⟩=>by
   subst e0 es
   obtain⟨hi,rfl⟩:=nv hd
   obtain⟨vs,b',vl,vq,tv,ev⟩:=oJ (a:=none) (u:=[.l us]) (sY (-9) 9) tb.hand row1
   refine⟨_,[some (.h p),some (.d (.int (many:Int))),some (.d (.int low)),some (.h a2.length),some (.d (.int (0+((i:Nat):Int)))),none,none],b'++[.l (us++[.tup vs])],rfl,.inl ?_,⟨_,rfl⟩,us++[.tup vs],b',rfl,tb.trans tv,by rw [List.length_append,hl];rfl,λu hu=>?_⟩
   ·have hb':b'.length=a2.length:=by rw [tv.len,tb.len]
    have ha:iCB iy (aa (aD (iLc 1 [0,2] (dk (aa (iV 1) ag)) (.nm 0) bf fH)) ag) [some (.h p),some (.d (.int (many:Int))),some (.d (.int low)),some (.h a2.length),some (.d (.int (0+((i:Nat):Int)))),none,none] (b++[C.l us])=some (.d (.tup vs),b'++[C.l us]):=aZ (ac (aI (cu (rngM _ _ _ _ _) (by rw [rlen];lia) ev)) rfl) rfl
    have:=BB (o:=iV 3) (a:=iCB iy (aa (aD (iLc 1 [0,2] (dk (aa (iV 1) ag)) (.nm 0) bf fH)) ag)) (env:=[some (.h p),some (.d (.int (many:Int))),some (.d (.int low)),some (.h a2.length),some (.d (.int (0+((i:Nat):Int)))),none,none]) (st:=b++[C.l us]) (s1:=b++[C.l us]) (s2:=b'++[C.l us]) (d:=.tup vs) rfl ha (qe tb.len) (qe hb') (by lia)
    rw [ym hb'] at this
    exact this
   ·rcases List.mem_append.mp hu with hu | hu
    ·exact hq u hu
    ·rw [List.mem_singleton.mp hu]
     exact Ar vq (by decide) (by decide) (by rw [vl,rlen]))
 have ml:(dE 0 m).length=m:=by unfold dE;rw [List.length_map,List.length_range]
 rw [ml] at ul
 have hb5:b5.length=a2.length:=tb5.len
 -- far
 obtain⟨r6,b6,q6,q7,t6,e6⟩:=qR (a:=iV 0) (b:=iC (.int 4)) (env:=[some (.h p),some (.d (.int (many:Int))),some (.d (.int low)),some (.h a2.length),o4,none,none]) (st:=b5) (u:=[.l us]) rfl rfl tb5.hand (by decide) (by decide)
 have hpow:∀ s,mq s (.d (.int 10)) (.d (.int 12))=some (.int 1000000000000):=λs=>by
  show (if re 10 12 then some (D.int (10 ^ Int.toNat 12)) else none)=_
  rw [if_pos ⟨by decide,by decide,by decide⟩];rfl
 have hfar:∃ far:Int,(0<=far/\far<=1000000000000)/\∀ s,dIx s (.d (.lst [.int 1,.int 1,.int 1,.int 1000000000000])) (.d (.int r6))=some (.int far):=by
  have:r6=0\/r6=1\/r6=2\/r6=3:=by lia
  rcases this with rfl | rfl | rfl | rfl
  ·exact⟨1,by decide,λ_=>rfl⟩
  ·exact⟨1,by decide,λ_=>rfl⟩
  ·exact⟨1,by decide,λ_=>rfl⟩
  ·exact⟨1000000000000,by decide,λ_=>rfl⟩
 obtain⟨far,hf,efar⟩:=hfar
 have s6:aG (.nm 5) (iOp dIx (aD (ck (aa (iC (.int 1)) (aa (iC (.int 1)) (aa (iC (.int 1)) (aa (iOp mq (iC (.int 10)) (iC (.int 12))) ag)))))) (au aB (aa (iV 0) (aa (iC (.int 4)) ag)))) [some (.h p),some (.d (.int (many:Int))),some (.d (.int low)),some (.h a2.length),o4,none,none] (b5++[.l us])=some (.nx [some (.h p),some (.d (.int (many:Int))),some (.d (.int low)),some (.h a2.length),o4,some (.d (.int far)),none] (b6++[.l us])):=by
  have hl:ck (aa (iC (.int 1)) (aa (iC (.int 1)) (aa (iC (.int 1)) (aa (iOp mq (iC (.int 10)) (iC (.int 12))) ag)))) [some (.h p),some (.d (.int (many:Int))),some (.d (.int low)),some (.h a2.length),o4,none,none] (b5++[.l us])=some ([.int 1,.int 1,.int 1,.int 1000000000000],b5++[.l us]):=by
   have:=ac (a:=iC (.int 1)) (env:=[some (.h p),some (.d (.int (many:Int))),some (.d (.int low)),some (.h a2.length),o4,none,none]) (st:=b5++[.l us]) rfl (ac (a:=iC (.int 1)) rfl (ac (a:=iC (.int 1)) rfl (ac (b:=ag) (aj (a:=iC (.int 10)) (b:=iC (.int 12)) rfl rfl (hpow _)) rfl)))
   simp only [ck,this,Option.bind_some];rfl
  exact az (aj (aI hl) e6 (efar _))
 have t56:=tb5.trans t6
 -- bounds
 obtain⟨bs,b7,bl,bq,t7,e7⟩:=wu (p:=p) (L:=a2.length) (all:=us) (te:=fG) (l:=[some (.h p),some (.d (.int far))]) (u:=[]) (sY 0 1000000000000000) (λs d _ hs=>by
  obtain⟨x1,c1,y0,y1,v1,f1⟩:=bX (a:=iV 1) (b:=iC (.int 8)) (env:=[some (.d d),some (.h p),some (.d (.int far))]) (st:=s) rfl rfl hs (by decide) (by decide)
  refine⟨_,c1,⟨x1*far,⟨Int.mul_nonneg y0 hf.1,?_⟩,rfl⟩,v1,aj f1 rfl (df _ (ii (by lia)))⟩
  have h1:x1*far<=7*far:=Int.mul_le_mul_of_nonneg_right (by lia) hf.1
  lia) us none b6 (λ_ h=>h) (by rw [t6.len,hb5]) t6.hand
 have hb6:b6.length=a2.length:=by rw [t6.len,hb5]
 have s7:aG (.nm 6) (iCB iy (aa (aD (td 1 [0,5] (iV 3) (.nm 0) bf fG)) ag)) [some (.h p),some (.d (.int (many:Int))),some (.d (.int low)),some (.h a2.length),o4,some (.d (.int far)),none] (b6++[.l us])=some (.nx [some (.h p),some (.d (.int (many:Int))),some (.d (.int low)),some (.h a2.length),o4,some (.d (.int far)),some (.d (.tup bs))] (b7++[.l us])):=by
  have hlc:td 1 [0,5] (iV 3) (.nm 0) bf fG [some (.h p),some (.d (.int (many:Int))),some (.d (.int low)),some (.h a2.length),o4,some (.d (.int far)),none] (b6++[.l us])=some (bs,b7++[.l us]):=by
   have hv:iV 3 [some (.h p),some (.d (.int (many:Int))),some (.d (.int low)),some (.h a2.length),o4,some (.d (.int far)),none] (b6++[.l us])=some (.h a2.length,b6++[.l us]):=rfl
   simp only [td,hv,Option.bind_some,qe hb6]
   rw [if_pos (by lia)]
   exact e7
  exact az (aZ (ac (aI hlc) rfl) rfl)
 -- gains
 obtain⟨gs,b8,gl,gq,t8,e8⟩:=oJ (te:=iD) (a:=none) (l:=[some (.h p)]) (ds:=dE 0 many) (u:=[.l us]) (sY (-1000000) 1000000) t7.hand (λs d _ hs=>by
  obtain⟨x1,c1,y0,y1,v1,f1⟩:=bX (a:=iV 1) (b:=iC (.int 9)) (env:=[some (.d d),some (.h p)]) (st:=s) rfl rfl hs (by decide) (by decide)
  exact⟨_,c1,⟨x1 - 3,⟨by lia,by lia⟩,rfl⟩,v1,aj f1 rfl rfl⟩)
 have hb7:b7.length=a2.length:=by rw [t7.len,hb6]
 have s8:bo (aa (iCB iy (aa (iV 3) ag)) (aa (iV 6) (aa (iCB iy (aa (aD (iLc 1 [0] (dk (aa (iV 1) ag)) (.nm 0) bf iD)) ag)) ag))) [some (.h p),some (.d (.int (many:Int))),some (.d (.int low)),some (.h a2.length),o4,some (.d (.int far)),some (.d (.tup bs))] (b7++[.l us])=some (.d (.tup [.tup us,.tup bs,.tup gs]),b8++[.l us]):=by
  have hd:iy (b7++[.l us]) [.h a2.length]=some (.tup us):=by
   show (lg (b7++[.l us]) a2.length).map _=_
   rw [qe hb7];rfl
  exact i9 (ac (aZ (ac rfl rfl) hd) (ac rfl (ac (aZ (ac (aI (cu (rngM _ _ _ _ _) (by rw [rlen];lia) e8)) rfl) rfl) rfl))) rfl (by show 3<=1000;decide)
 obtain⟨R,bb,gg,hinp,hcase⟩:=Am (m:=m) (n:=many) (by lia) (by lia) ul uq (by rw [bl,ul]) bq (by rw [gl,rlen]) gq
 refine⟨m,many,R,bb,gg,b8,by lia,hinp,t12.trans (t56.trans (t7.trans t8)),?_⟩
 rw [<-hcase]
 have:=mO (n:=7) (k:=1) (b:=fQ) (ws:=[.h p]) (st:=st) rfl (ar s1 (ar s2 (ar s3 (ar (dc hit e5) (ar s6 (ar s7 (bn s8)))))))
 show j7 7 1 fQ [.h p] st=_
 rw [this,List.take_left' (by rw [t8.len,hb7,t12.len])]
end Own
set_option maxHeartbeats 1000000
namespace Own
open PySem L2
open Sx (Pb Tb Good Named Fe LV ZV piv lexP leastR leaveL sumN unit colV basis)
theorem vT (xs:List Int) (lo hi:Option Int):∃ ys:List Int,mm (xs.map D.int) lo hi=ys.map D.int/\ys.length<=xs.length:=by
 refine⟨(xs.drop (HT.sIx (xs.map D.int).length 0 lo)).take (HT.sIx (xs.map D.int).length (xs.map D.int).length hi - HT.sIx (xs.map D.int).length 0 lo),?_,?_⟩
 ·unfold mm;rw [List.map_take,List.map_drop]
 ·rw [List.length_take,List.length_drop];lia
theorem u4 {f:Ef}{lo hi:Pf}{env:Ev}{st:Sto}{xs:List Int}{l h:Option Int} (hf:f env st=some (.d (ti xs),st)) (hl:lo env st=some (l,st)) (hh:hi env st=some (h,st)):∃ ys:List Int,ys.length<=xs.length/\iSl f lo hi env st=some (.d (ti ys),st):=by
 obtain⟨ys,e,hy⟩:=vT xs l h
 refine⟨ys,hy,?_⟩
 simp only [iSl,hf,hl,hh,Option.bind_some]
 show (some (D.tup (mm (xs.map D.int) l h))).map _=_
 rw [e];rfl
theorem uU {f:Ef}{env:Ev}{st:Sto}{i:Int} (h:f env st=some (.d (.int i),st)):iPs f env st=some (some i,st):=by
 simp only [iPs,h,Option.bind_some,Ak,Option.map_some]
theorem nn (s:Sto) {xs ys:List Int} (h:xs.length+ys.length<=1000):bH s (.d (ti xs)) (.d (ti ys))=some (ti (xs++ys)):=by
 unfold ti
 rw [zK s (by rw [List.length_map,List.length_map];lia),List.map_append]
theorem yY {st:Sto}{p:Nat}{z:Int} (h:bU st p):∃ y st',Stp p st st'/\bZ [.h p,.d (.int z)] st=some (.d (.int y),st'):=by
 obtain⟨r,s1,r0,r1,t1,e1⟩:=bX (a:=iV 0) (b:=iC (.int 5)) (env:=[some (.h p),some (.d (.int z))]) rfl rfl h (by decide) (by decide)
 have hpow:∀ s,mq s (.d (.int 10)) (.d (.int 12))=some (.int 1000000000000):=λs=>by
  show (if re 10 12 then some (D.int (10 ^ Int.toNat 12)) else none)=_
  rw [if_pos ⟨by decide,by decide,by decide⟩];rfl
 have hl:ck (aa (iOp bH (iV 1) (iC (.int 1))) (aa (iOp mj (iV 1) (iC (.int 1))) (aa (iOp bM (iC (.int 2)) (iV 1)) (aa (iC (.int 0)) (aa (iOp bH (iV 1) (iOp mq (iC (.int 10)) (iC (.int 12)))) ag))))) [some (.h p),some (.d (.int z))] st=some ([.int (z+1),.int (z - 1),.int (2*z),.int 0,.int (z+1000000000000)],st):=by
  have:=ac (a:=iOp bH (iV 1) (iC (.int 1))) (env:=[some (.h p),some (.d (.int z))]) (st:=st) (x:=.d (.int (z+1))) rfl (ac (a:=iOp mj (iV 1) (iC (.int 1))) (x:=.d (.int (z - 1))) rfl (ac (a:=iOp bM (iC (.int 2)) (iV 1)) (aj rfl rfl (df st (ii (by decide)))) (ac (a:=iC (.int 0)) (x:=.d (.int 0)) rfl (ac (b:=ag) (aj (g:=bH) (a:=iV 1) (d:=.int (z+1000000000000)) rfl (aj (a:=iC (.int 10)) (b:=iC (.int 12)) rfl rfl (hpow _)) rfl) rfl))))
  simp only [ck,this,Option.bind_some];rfl
 have hd:∃ y:Int,∀ s,dIx s (.d (.lst [.int (z+1),.int (z - 1),.int (2*z),.int 0,.int (z+1000000000000)])) (.d (.int r))=some (.int y):=by
  have:r=0\/r=1\/r=2\/r=3\/r=4:=by lia
  rcases this with rfl | rfl | rfl | rfl | rfl<;>exact⟨_,λ_=>rfl⟩
 obtain⟨y,hy⟩:=hd
 exact⟨y,s1,t1,aQ (n:=2) (k:=2) (b:=dg) rfl (bn (aj (aI hl) e1 (hy _)))⟩
theorem rh {st:Sto}{p:Nat}{xs:List Int} (h:bU st p) (hx:xs.length<=200):∃ ys st',ys.length<=500/\Stp p st st'/\aW [.h p,.d (ti xs)] st=some (.d (ti ys),st'):=by
 have hlen:∀ (s:Sto) (o2 o3:Option W),iCB bA (aa (iV 1) ag) [some (.h p),some (.d (ti xs)),o2,o3] s=some (.d (.int (xs.length:Int)),s):=λs o2 o3=>aZ (ac rfl rfl) (ze s xs)
 obtain⟨at0,s1,a0,a1,t1,e1⟩:=bX (a:=iV 0) (b:=iOp bH (iCB bA (aa (iV 1) ag)) (iC (.int 1))) (env:=[some (.h p),some (.d (ti xs)),none,none]) (st:=st) (m:=(xs.length:Int)+1) rfl (aj (hlen _ _ _) rfl rfl) h (by lia) (by lia)
 obtain⟨wy,s2,w0,w1,t2,e2⟩:=bX (a:=iV 0) (b:=iC (.int 6)) (env:=[some (.h p),some (.d (ti xs)),some (.d (.int at0)),none]) (st:=s1) rfl rfl t1.hand (by decide) (by decide)
 have c1:bg dEq (iV 3) (iC (.int 0)) [some (.h p),some (.d (ti xs)),some (.d (.int at0)),some (.d (.int wy))] s2=some (wy==0,s2):=aY rfl rfl (oP _ _ _)
 have c2:bg dEq (iV 3) (iC (.int 1)) [some (.h p),some (.d (ti xs)),some (.d (.int at0)),some (.d (.int wy))] s2=some (wy==1,s2):=aY rfl rfl (oP _ _ _)
 have c3:bg dEq (iV 1) (bo ag) [some (.h p),some (.d (ti xs)),some (.d (.int at0)),some (.d (.int wy))] s2=some (xs.isEmpty,s2):=by
  refine aY rfl (y:=.d (.tup [])) rfl ?_
  cases xs with
  | nil=>rfl
  | cons x xs=>rfl
 cases hb1:(wy==0) with
 | true=>
  rw [hb1] at c1
  obtain⟨y1,hy1,f1⟩:=u4 (f:=iV 1) (lo:=iPn) (hi:=iPs (iV 2)) (env:=[some (.h p),some (.d (ti xs)),some (.d (.int at0)),some (.d (.int wy))]) (st:=s2) rfl rfl (uU rfl)
  obtain⟨z,s3,z0,z1,t3,e3⟩:=bX (a:=iV 0) (b:=iC (.int 4)) (env:=[some (.h p),some (.d (ti xs)),some (.d (.int at0)),some (.d (.int wy))]) (st:=s2) rfl rfl t2.hand (by decide) (by decide)
  obtain⟨y2,hy2,f2⟩:=u4 (f:=iV 1) (lo:=iPs (iV 2)) (hi:=iPn) (env:=[some (.h p),some (.d (ti xs)),some (.d (.int at0)),some (.d (.int wy))]) (st:=s3) rfl (uU rfl) rfl
  have f3:bo (aa (au aB (aa (iV 0) (aa (iC (.int 4)) ag))) ag) [some (.h p),some (.d (ti xs)),some (.d (.int at0)),some (.d (.int wy))] s2=some (.d (ti [z]),s3):=i9 (ac e3 rfl) rfl (by show 1<=1000;decide)
  have l1:(y1++[z]).length=y1.length+1:=by rw [List.length_append];rfl
  refine⟨(y1++[z])++y2,s3,by rw [List.length_append,l1];lia,t1.trans (t2.trans t3),?_⟩
  exact aQ (n:=4) (k:=2) (b:=cJ) rfl (ar (az e1) (ar (az e2) (ig (gf c1 (bn (aj (aj f1 f3 (nn _ (by show y1.length+1<=1000;lia))) f2 (nn _ (by rw [l1];lia))))))))
 | false=>
  rw [hb1] at c1
  cases hb2:((wy==1) || xs.isEmpty) with
  | true=>
   obtain⟨y1,hy1,f1⟩:=u4 (f:=iV 1) (lo:=iPn) (hi:=iPs (iV 2)) (env:=[some (.h p),some (.d (ti xs)),some (.d (.int at0)),some (.d (.int wy))]) (st:=s2) rfl rfl (uU rfl)
   obtain⟨y2,hy2,f2⟩:=u4 (f:=iV 1) (lo:=iPs (iOp bH (iV 2) (iC (.int 1)))) (hi:=iPn) (env:=[some (.h p),some (.d (ti xs)),some (.d (.int at0)),some (.d (.int wy))]) (st:=s2) (l:=some (at0+1)) rfl (uU rfl) rfl
   have c4:=lW c2 c3
   rw [hb2] at c4
   refine⟨y1++y2,s2,by rw [List.length_append];lia,t1.trans t2,?_⟩
   exact aQ (n:=4) (k:=2) (b:=cJ) rfl (ar (az e1) (ar (az e2) (ar (dy c1 rfl) (ig (gf c4 (bn (aj f1 f2 (nn _ (by lia)))))))))
  | false=>
   have c4:=lW c2 c3
   rw [hb2] at c4
   have hne:0 < xs.length:=by
    cases xs with
    | nil=>rw [List.isEmpty_nil,Bool.or_true] at hb2;cases hb2
    | cons x xs=>rw [List.length_cons];lia
   obtain⟨k,hk,hkl⟩:∃ k:Nat,at0 % (xs.length:Int)=(k:Int)/\k < xs.length:=by
    have h0:=Int.emod_nonneg at0 (show (xs.length:Int)≠0 by lia)
    have h1:=Int.emod_lt_of_pos at0 (show (0:Int) < (xs.length:Int) by lia)
    obtain⟨k,hk⟩:=Int.eq_ofNat_of_zero_le h0
    exact⟨k,hk,by lia⟩
   have s5:aG (.nm 2) (iOp iH (iV 2) (iCB bA (aa (iV 1) ag))) [some (.h p),some (.d (ti xs)),some (.d (.int at0)),some (.d (.int wy))] s2=some (.nx [some (.h p),some (.d (ti xs)),some (.d (.int (k:Int))),some (.d (.int wy))] s2):=by
    rw [<-hk]
    refine az (aj rfl (hlen _ _ _) ?_)
    simp only [iH,show (0:Int) < (xs.length:Int) by lia,if_true]
   obtain⟨y1,hy1,f1⟩:=u4 (f:=iV 1) (lo:=iPn) (hi:=iPs (iV 2)) (env:=[some (.h p),some (.d (ti xs)),some (.d (.int (k:Int))),some (.d (.int wy))]) (st:=s2) rfl rfl (uU rfl)
   obtain⟨z,s3,t3,e3⟩:=yY (z:=xs[k]) t2.hand
   obtain⟨y2,hy2,f2⟩:=u4 (f:=iV 1) (lo:=iPs (iOp bH (iV 2) (iC (.int 1)))) (hi:=iPn) (env:=[some (.h p),some (.d (ti xs)),some (.d (.int (k:Int))),some (.d (.int wy))]) (st:=s3) (l:=some ((k:Int)+1)) rfl (uU rfl) rfl
   have hix:∀ s,dIx s (.d (ti xs)) (.d (.int (k:Int)))=some (.int xs[k]):=λs=>dU (by rw [List.getElem?_map,List.getElem?_eq_getElem hkl];rfl)
   have f3:bo (aa (au bZ (aa (iV 0) (aa (iOp dIx (iV 1) (iV 2)) ag))) ag) [some (.h p),some (.d (ti xs)),some (.d (.int (k:Int))),some (.d (.int wy))] s2=some (.d (ti [z]),s3):=i9 (ac (aw (ac rfl (ac (aj rfl rfl (hix _)) rfl)) e3) rfl) rfl (by show 1<=1000;decide)
   have l1:(y1++[z]).length=y1.length+1:=by rw [List.length_append];rfl
   refine⟨(y1++[z])++y2,s3,by rw [List.length_append,l1];lia,t1.trans (t2.trans t3),?_⟩
   exact aQ (n:=4) (k:=2) (b:=cJ) rfl (ar (az e1) (ar (az e2) (ar (dy c1 rfl) (ar (dy c4 rfl) (ar s5 (bn (aj (aj f1 f3 (nn _ (by show y1.length+1<=1000;lia))) f2 (nn _ (by rw [l1];lia)))))))))
end Own
set_option maxHeartbeats 1000000
namespace Own
open PySem L2
open Sx (Pb Tb Good Named Fe LV ZV piv lexP leastR leaveL sumN unit colV basis)
theorem oI {a:Af}{env:Ev}{st s:Sto}{ws:List W}{ds:List D} (h:a env st=some (ws,s)) (hd:nE ws=some ds) (hl:ds.length<=1000):ck a env st=some (ds,s):=by
 simp only [ck,h,Option.bind_some,hd,hl,if_true]
theorem y9 {st:Sto}{y:Int}{xs:List Int}{te:Ef} (hy:y=2\/y=3) (ht:te=iOp bM (iV 1) (iV 0)):lcI (.nm 0) bf te [none,some (.d (.int y))] (xs.map D.int) st=some ((xs.map λx=>y*x).map D.int,st):=by
 subst ht
 rw [List.map_map]
 exact qu (g:=D.int) (λx=>D.int (y*x)) λx _=>aj rfl rfl (df st (ii (by lia)))
theorem wD {st:Sto}{y:Int}{xs:List Int}{te f:Ef}{env:Ev}{js:List Nat} (hy:y=2\/y=3) (ht:te=iOp bM (iV 1) (iV 0)) (hf:f env st=some (.d (ti xs),st)) (he:iR 1 js env=[none,some (.d (.int y))]) (hx:xs.length<=1000):iCB iy (aa (aD (iLc 1 js (aX f) (.nm 0) bf te)) ag) env st=some (.d (ti (xs.map λx=>y*x)),st):=by
 refine aZ (ac (aI (cu (gw hf) (by rw [List.length_map];lia) ?_)) rfl) rfl
 rw [he]
 exact y9 hy ht
theorem wl {s:Sto}{L:List D}{r:Int} (r0:0<=r) (r1:r < (L.length:Int)):∃ d ∈ L,dIx s (.d (.lst L)) (.d (.int r))=some d:=by
 obtain⟨k,rfl⟩:=Int.eq_ofNat_of_zero_le r0
 have hk:k < L.length:=by lia
 exact⟨L[k],List.getElem_mem hk,dU (List.getElem?_eq_getElem hk)⟩
theorem AI {st:Sto}{p:Nat}{xs:List Int} (h:bU st p) (hx:xs.length<=100) (hx1:1<=xs.length):∃ x st',Itm x/\Stp p st st'/\eJ [.h p,.d (.tup [.str "beyond",ti xs])] st=some (.d x,st'):=by
 obtain⟨wy,s1,w0,w1,t1,e1⟩:=bX (a:=iV 0) (b:=iC (.int 9)) (env:=[some (.h p),some (.d (.tup [.str "beyond",ti xs])),none,none,none,none,none,none,none,none]) rfl rfl h (by decide) (by decide)
 obtain⟨r2,s2,q0,q1,t2,e2⟩:=bX (a:=iV 0) (b:=iC (.int 2)) (env:=[some (.h p),some (.d (.tup [.str "beyond",ti xs])),some (.d (.int wy)),none,none,none,none,none,none,none]) (st:=s1) rfl rfl t1.hand (by decide) (by decide)
 have hy:2+r2=2\/2+r2=3:=by lia
 obtain⟨y,ey⟩:∃ y,2+r2=y:=⟨_,rfl⟩
 have c2:aG (.nm 3) (iOp bH (iC (.int 2)) (au aB (aa (iV 0) (aa (iC (.int 2)) ag)))) [some (.h p),some (.d (.tup [.str "beyond",ti xs])),some (.d (.int wy)),none,none,none,none,none,none,none] s1=some (.nx [some (.h p),some (.d (.tup [.str "beyond",ti xs])),some (.d (.int wy)),some (.d (.int y)),none,none,none,none,none,none] s2):=by
  rw [<-ey];exact az (aj rfl e2 rfl)
 rw [ey] at hy
 obtain⟨ys,s3,hys,t3,e3⟩:=rh (xs:=xs) t2.hand (by lia)
 have i1:∀ s (o4:Option W),iOp dIx (iV 1) (iC (.int 1)) [some (.h p),some (.d (.tup [.str "beyond",ti xs])),some (.d (.int wy)),some (.d (.int y)),o4,none,none,none,none,none] s=some (.d (ti xs),s):=λs o4=>aj rfl rfl (mh _ _ _)
 have hones:∀ s,bM s (.d (.tup [.int 1])) (.d (.int (xs.length:Int)))=some (ti (List.replicate xs.length 1)):=λs=>by
  unfold bM;dsimp only
  rw [if_pos ⟨by simp,by show 1<=1000;decide,by lia,by lia⟩,Int.toNat_natCast]
  have:∀ n:Nat,(List.replicate n [D.int 1]).flatten=(List.replicate n (1:Int)).map D.int:=λn=>by
   induction n with
   | zero=>rfl
   | succ n ih=>rw [List.replicate_succ,List.flatten_cons,ih,List.replicate_succ];rfl
  rw [this];rfl
 have c4:aD (ck (aa (bo (aa (iC (.str "beyond")) (aa (iCB iy (aa (aD (iLc 1 [3] (aX (iOp dIx (iV 1) (iC (.int 1)))) (.nm 0) bf j9)) ag)) ag))) (aa (bo (aa (iC (.str "most")) (aa (iOp dIx (iV 1) (iC (.int 1))) ag))) (aa (bo (aa (iC (.str "beyond")) (aa (iOp bM (bo (aa (iC (.int 1)) ag)) (iCB bA (aa (iOp dIx (iV 1) (iC (.int 1))) ag))) ag))) ag)))) [some (.h p),some (.d (.tup [.str "beyond",ti xs])),some (.d (.int wy)),some (.d (.int y)),none,none,none,none,none,none] s2=some (.d (.lst [.tup [.str "beyond",ti (xs.map λx=>y*x)],.tup [.str "most",ti xs],.tup [.str "beyond",ti (List.replicate xs.length 1)]]),s2):=
  aI (oI (ac (i9 (ac rfl (ac (wD hy rfl (i1 _ _) rfl (by lia)) rfl)) rfl (by show 2<=1000;decide)) (ac (i9 (ac rfl (ac (i1 _ _) rfl)) rfl (by show 2<=1000;decide)) (ac (i9 (ac rfl (ac (aj (x:=.d (.tup [.int 1])) rfl (aZ (ac (i1 _ _) rfl) (ze _ _)) (hones _)) rfl)) rfl (by show 2<=1000;decide)) rfl))) rfl (by show 3<=1000;decide))
 generalize hL:[D.tup [.str "beyond",ti (xs.map λx=>y*x)],.tup [.str "most",ti xs],.tup [.str "beyond",ti (List.replicate xs.length 1)]]=L3 at c4
 have hI3:∀ d ∈ L3,Itm d:=λd hd=>by
  rw [<-hL] at hd
  rcases List.mem_cons.mp hd with rfl | hd
  ·exact .two _ _ (by rw [List.length_map];lia)
  ·rcases List.mem_cons.mp hd with rfl | hd
   ·exact .two _ _ (by lia)
   ·rw [List.mem_singleton.mp hd];exact .two _ _ (by rw [List.length_replicate];lia)
 have hl3:L3.length=3:=by rw [<-hL];rfl
 have hmul:∀ s,bM s (.d (.lst [.tup [.str "beyond",ti ys]])) (.d (.int 6))=some (.lst (List.replicate 6 (.tup [.str "beyond",ti ys]))):=λs=>rfl
 have ha:∀ s,bH s (.d (.lst L3)) (.d (.lst (List.replicate 6 (.tup [.str "beyond",ti ys]))))=some (.lst (L3++List.replicate 6 (.tup [.str "beyond",ti ys]))):=λs=>iS s (by rw [hl3,List.length_replicate];decide)
 obtain⟨x,hxm,ex⟩:=wl (s:=s3) (L:=L3++List.replicate 6 (.tup [.str "beyond",ti ys])) (r:=wy) w0 (by rw [List.length_append,hl3,List.length_replicate];lia)
 refine⟨x,s3,?_,t1.trans (t2.trans t3),?_⟩
 ·rcases List.mem_append.mp hxm with hm | hm
  ·exact hI3 x hm
  ·rw [List.eq_of_mem_replicate hm];exact .two _ _ (by lia)
 ·have cb:bg dEq (iOp dIx (iV 1) (iC (.int 0))) (iC (.str "beyond")) [some (.h p),some (.d (.tup [.str "beyond",ti xs])),some (.d (.int wy)),some (.d (.int y)),none,none,none,none,none,none] s2=some (true,s2):=aY (aj rfl rfl (nX _ _ _)) rfl ((wL _ _ _).trans (by simp))
  have c5:iOp dIx (iOp bH (iV 4) (iOp bM (aD (ck (aa (bo (aa (iC (.str "beyond")) (aa (au aW (aa (iV 0) (aa (iOp dIx (iV 1) (iC (.int 1))) ag))) ag))) ag))) (iC (.int 6)))) (iV 2) [some (.h p),some (.d (.tup [.str "beyond",ti xs])),some (.d (.int wy)),some (.d (.int y)),some (.d (.lst L3)),none,none,none,none,none] s2=some (.d x,s3):=
   aj (aj rfl (aj (aI (oI (ac (i9 (ac rfl (ac (aw (ac rfl (ac (i1 _ _) rfl)) e3) rfl)) rfl (by show 2<=1000;decide)) rfl) rfl (by show 1<=1000;decide))) rfl (hmul _)) (ha _)) rfl ex
  exact aQ (n:=10) (k:=2) (b:=fT) rfl (ar (az e1) (ar c2 (ig (gf cb (ar (az c4) (bn c5))))))
end Own
set_option maxHeartbeats 1000000
namespace Own
open PySem L2
open Sx (Pb Tb Good Named Fe LV ZV piv lexP leastR leaveL sumN unit colV basis)
theorem AH {st:Sto}{p:Nat}{q:Int}{xs zs:List Int} (h:bU st p) (hx:xs.length<=100) (hz:zs.length<=100):∃ x st',Itm x/\Stp p st st'/\eJ [.h p,.d (.tup [.str "most",.int q,ti xs,ti zs])] st=some (.d x,st'):=by
 obtain⟨it,hit⟩:∃ it:D,D.tup [.str "most",.int q,ti xs,ti zs]=it:=⟨_,rfl⟩
 have i0:∀ s,dIx s (.d it) (.d (.int 0))=some (.str "most"):=λs=>by rw [<-hit];rfl
 have un:∀ (o2 o3:Option W) s,aG (.tp [5,6,7,8]) (iV 1) [some (.h p),some (.d it),o2,o3,none,none,none,none,none,none] s=some (.nx [some (.h p),some (.d it),o2,o3,none,some (.d (.str "most")),some (.d (.int q)),some (.d (ti xs)),some (.d (ti zs)),none] s):=λo2 o3 s=>by rw [<-hit];rfl
 have sl:∀ (o2 o3 o4 o5 o6 o7 o8 o9:Option W) s,iOp bH (bo (aa (iC (.str "beyond")) ag)) (iSl (iV 1) (iPs (iC (.int 1))) iPn) [some (.h p),some (.d it),o2,o3,o4,o5,o6,o7,o8,o9] s=some (.d (.tup [.str "beyond",.int q,ti xs,ti zs]),s):=λo2 o3 o4 o5 o6 o7 o8 o9 s=>by rw [<-hit];rfl
 rw [hit]
 obtain⟨wy,s1,w0,w1,t1,e1⟩:=bX (a:=iV 0) (b:=iC (.int 9)) (env:=[some (.h p),some (.d it),none,none,none,none,none,none,none,none]) rfl rfl h (by decide) (by decide)
 obtain⟨r2,s2,q0,q1,t2,e2⟩:=bX (a:=iV 0) (b:=iC (.int 2)) (env:=[some (.h p),some (.d it),some (.d (.int wy)),none,none,none,none,none,none,none]) (st:=s1) rfl rfl t1.hand (by decide) (by decide)
 have hy:2+r2=2\/2+r2=3:=by lia
 obtain⟨y,ey⟩:∃ y,2+r2=y:=⟨_,rfl⟩
 have c2:aG (.nm 3) (iOp bH (iC (.int 2)) (au aB (aa (iV 0) (aa (iC (.int 2)) ag)))) [some (.h p),some (.d it),some (.d (.int wy)),none,none,none,none,none,none,none] s1=some (.nx [some (.h p),some (.d it),some (.d (.int wy)),some (.d (.int y)),none,none,none,none,none,none] s2):=by
  rw [<-ey];exact az (aj rfl e2 rfl)
 rw [ey] at hy
 have cb:bg dEq (iOp dIx (iV 1) (iC (.int 0))) (iC (.str "beyond")) [some (.h p),some (.d it),some (.d (.int wy)),some (.d (.int y)),none,none,none,none,none,none] s2=some (false,s2):=aY (aj rfl rfl (i0 _)) rfl ((wL _ _ _).trans (by rw [show (("most" : Str)=="beyond")=false by decide]))
 -- longer
 have c9:aG (.nm 9) (aD (iLc 1 [3] (aX (bo (aa (iV 7) (aa (iV 8) ag)))) (.nm 0) bf iu)) [some (.h p),some (.d it),some (.d (.int wy)),some (.d (.int y)),none,some (.d (.str "most")),some (.d (.int q)),some (.d (ti xs)),some (.d (ti zs)),none] s2=some (.nx [some (.h p),some (.d it),some (.d (.int wy)),some (.d (.int y)),none,some (.d (.str "most")),some (.d (.int q)),some (.d (ti xs)),some (.d (ti zs)),some (.d (.lst [ti (xs.map λx=>y*x),ti (zs.map λx=>y*x)]))] s2):=by
  have hl:lcI (.nm 0) bf iu [none,some (.d (.int y))] ([xs,zs].map ti) s2=some ([xs,zs].map λl=>ti (l.map λx=>y*x),s2):=
   qu (g:=ti) (λl=>ti (l.map λx=>y*x)) λl hl=>by
    have:l.length<=1000:=by
     rcases List.mem_cons.mp hl with rfl | hl
     ·lia
     ·rw [List.mem_singleton.mp hl];lia
    exact wD hy rfl rfl rfl this
  exact az (aI (cu (gw (i9 (ds:=[ti xs,ti zs]) (ac rfl (ac rfl rfl)) rfl (by show 2<=1000;decide))) (by show 2<=1000000;decide) hl))
 have j0:∀ s,dIx s (.d (.lst [ti (xs.map λx=>y*x),ti (zs.map λx=>y*x)])) (.d (.int 0))=some (ti (xs.map λx=>y*x)):=λs=>rfl
 have j1:∀ s,dIx s (.d (.lst [ti (xs.map λx=>y*x),ti (zs.map λx=>y*x)])) (.d (.int 1))=some (ti (zs.map λx=>y*x)):=λs=>rfl
 have hA:(xs.map λx=>y*x).length<=100:=by rw [List.length_map];exact hx
 have hB:(zs.map λx=>y*x).length<=100:=by rw [List.length_map];exact hz
 generalize (xs.map λx=>y*x)=lx at *
 generalize (zs.map λx=>y*x)=lz at *
 generalize hlo:D.lst [ti lx,ti lz]=lo at *
 have c4:aG (.nm 4) (aD (ck (aa (bo (aa (iV 5) (aa (iOp bM (iV 3) (iV 6)) (aa (iOp dIx (iV 9) (iC (.int 0))) (aa (iOp dIx (iV 9) (iC (.int 1))) ag))))) (aa (bo (aa (iV 5) (aa (iV 6) (aa (iOp dIx (iV 9) (iC (.int 0))) (aa (iV 8) ag))))) (aa (bo (aa (iV 5) (aa (iV 6) (aa (iV 8) (aa (iV 7) ag))))) ag))))) [some (.h p),some (.d it),some (.d (.int wy)),some (.d (.int y)),none,some (.d (.str "most")),some (.d (.int q)),some (.d (ti xs)),some (.d (ti zs)),some (.d lo)] s2=some (.nx [some (.h p),some (.d it),some (.d (.int wy)),some (.d (.int y)),some (.d (.lst [.tup [.str "most",.int (y*q),ti lx,ti lz],.tup [.str "most",.int q,ti lx,ti zs],.tup [.str "most",.int q,ti zs,ti xs]])),some (.d (.str "most")),some (.d (.int q)),some (.d (ti xs)),some (.d (ti zs)),some (.d lo)] s2):=
  az (aI (oI (ac (i9 (ds:=[.str "most",.int (y*q),ti lx,ti lz]) (ac rfl (ac (aj rfl rfl (df _ (ii (by lia)))) (ac (aj rfl rfl (j0 _)) (ac (aj rfl rfl (j1 _)) rfl)))) rfl (by show 4<=1000;decide)) (ac (i9 (ds:=[.str "most",.int q,ti lx,ti zs]) (ac rfl (ac rfl (ac (aj rfl rfl (j0 _)) (ac rfl rfl)))) rfl (by show 4<=1000;decide)) (ac (i9 (ds:=[.str "most",.int q,ti zs,ti xs]) (ac rfl (ac rfl (ac rfl (ac rfl rfl)))) rfl (by show 4<=1000;decide)) rfl))) rfl (by show 3<=1000;decide)))
 generalize hL:[D.tup [.str "most",.int (y*q),ti lx,ti lz],.tup [.str "most",.int q,ti lx,ti zs],.tup [.str "most",.int q,ti zs,ti xs]]=L3 at c4
 have hI3:∀ d ∈ L3,Itm d:=λd hd=>by
  rw [<-hL] at hd
  rcases List.mem_cons.mp hd with rfl | hd
  ·exact .four _ _ _ _ (by lia) (by lia)
  ·rcases List.mem_cons.mp hd with rfl | hd
   ·exact .four _ _ _ _ (by lia) (by lia)
   ·rw [List.mem_singleton.mp hd];exact .four _ _ _ _ (by lia) (by lia)
 have hl3:L3.length=3:=by rw [<-hL];rfl
 obtain⟨v,s3,t3,e3⟩:=yY (z:=q) t2.hand
 obtain⟨M3,hM3⟩:∃ M3,[D.tup [.str "most",.int v,ti xs,ti zs],.tup [.str "beyond",ti xs],.tup [.str "beyond",.int q,ti xs,ti zs]]=M3:=⟨_,rfl⟩
 have hJ3:∀ d ∈ M3,Itm d:=λd hd=>by
  rw [<-hM3] at hd
  rcases List.mem_cons.mp hd with rfl | hd
  ·exact .four _ _ _ _ (by lia) (by lia)
  ·rcases List.mem_cons.mp hd with rfl | hd
   ·exact .two _ _ (by lia)
   ·rw [List.mem_singleton.mp hd];exact .four _ _ _ _ (by lia) (by lia)
 have hm3:M3.length=3:=by rw [<-hM3];rfl
 have c6:aG (.nm 4) (iOp bH (iV 4) (aD (ck (aa (bo (aa (iV 5) (aa (au bZ (aa (iV 0) (aa (iV 6) ag))) (aa (iV 7) (aa (iV 8) ag))))) (aa (bo (aa (iC (.str "beyond")) (aa (iV 7) ag))) (aa (iOp bH (bo (aa (iC (.str "beyond")) ag)) (iSl (iV 1) (iPs (iC (.int 1))) iPn)) ag)))))) [some (.h p),some (.d it),some (.d (.int wy)),some (.d (.int y)),some (.d (.lst L3)),some (.d (.str "most")),some (.d (.int q)),some (.d (ti xs)),some (.d (ti zs)),some (.d lo)] s2=some (.nx [some (.h p),some (.d it),some (.d (.int wy)),some (.d (.int y)),some (.d (.lst (L3++M3))),some (.d (.str "most")),some (.d (.int q)),some (.d (ti xs)),some (.d (ti zs)),some (.d lo)] s3):=
  az (aj rfl (aI (oI (ds:=M3) (ac (i9 (ds:=[.str "most",.int v,ti xs,ti zs]) (ac rfl (ac (aw (ac rfl (ac rfl rfl)) e3) (ac rfl (ac rfl rfl)))) rfl (by show 4<=1000;decide)) (ac (i9 (ds:=[.str "beyond",ti xs]) (ac rfl (ac rfl rfl)) rfl (by show 2<=1000;decide)) (ac (sl _ _ _ _ _ _ _ _ _) rfl))) (by rw [<-hM3];rfl) (by rw [hm3];decide))) (iS _ (by rw [hl3,hm3];decide)))
 obtain⟨bx,s4,hbx,t4,e4⟩:=rh (xs:=xs) t3.hand (by lia)
 obtain⟨bz,s5,hbz,t5,e5⟩:=rh (xs:=zs) t4.hand (by lia)
 obtain⟨N2,hN2⟩:∃ N2,[D.tup [.str "most",.int q,ti bx,ti zs],.tup [.str "most",.int q,ti xs,ti bz]]=N2:=⟨_,rfl⟩
 have hK2:∀ d ∈ N2,Itm d:=λd hd=>by
  rw [<-hN2] at hd
  rcases List.mem_cons.mp hd with rfl | hd
  ·exact .four _ _ _ _ (by lia) (by lia)
  ·rw [List.mem_singleton.mp hd];exact .four _ _ _ _ (by lia) (by lia)
 have hn2:N2.length=2:=by rw [<-hN2];rfl
 have c7:aG (.nm 4) (iOp bH (iV 4) (aD (ck (aa (bo (aa (iV 5) (aa (iV 6) (aa (au aW (aa (iV 0) (aa (iV 7) ag))) (aa (iV 8) ag))))) (aa (bo (aa (iV 5) (aa (iV 6) (aa (iV 7) (aa (au aW (aa (iV 0) (aa (iV 8) ag))) ag))))) ag))))) [some (.h p),some (.d it),some (.d (.int wy)),some (.d (.int y)),some (.d (.lst (L3++M3))),some (.d (.str "most")),some (.d (.int q)),some (.d (ti xs)),some (.d (ti zs)),some (.d lo)] s3=some (.nx [some (.h p),some (.d it),some (.d (.int wy)),some (.d (.int y)),some (.d (.lst ((L3++M3)++N2))),some (.d (.str "most")),some (.d (.int q)),some (.d (ti xs)),some (.d (ti zs)),some (.d lo)] s5):=
  az (aj rfl (aI (oI (ds:=N2) (ac (i9 (ds:=[.str "most",.int q,ti bx,ti zs]) (ac rfl (ac rfl (ac (aw (ac rfl (ac rfl rfl)) e4) (ac rfl rfl)))) rfl (by show 4<=1000;decide)) (ac (i9 (ds:=[.str "most",.int q,ti xs,ti bz]) (ac rfl (ac rfl (ac rfl (ac (aw (ac rfl (ac rfl rfl)) e5) rfl)))) rfl (by show 4<=1000;decide)) rfl)) (by rw [<-hN2];rfl) (by rw [hn2];decide))) (iS _ (by rw [List.length_append,hl3,hm3,hn2];decide)))
 obtain⟨cx,s6,hcx,t6,e6⟩:=rh (xs:=xs) t5.hand (by lia)
 obtain⟨cz,s7,hcz,t7,e7⟩:=rh (xs:=zs) t6.hand (by lia)
 obtain⟨x,hxm,ex⟩:=wl (s:=s7) (L:=((L3++M3)++N2)++[.tup [.str "most",.int q,ti cx,ti cz]]) (r:=wy) w0 (by rw [List.length_append,List.length_append,List.length_append,hl3,hm3,hn2];show wy < 9;lia)
 refine⟨x,s7,?_,t1.trans (t2.trans (t3.trans (t4.trans (t5.trans (t6.trans t7))))),?_⟩
 ·rcases List.mem_append.mp hxm with hm | hm
  ·rcases List.mem_append.mp hm with hm | hm
   ·rcases List.mem_append.mp hm with hm | hm
    ·exact hI3 x hm
    ·exact hJ3 x hm
   ·exact hK2 x hm
  ·rw [List.mem_singleton.mp hm];exact .four _ _ _ _ (by lia) (by lia)
 ·have c8:iOp dIx (iOp bH (iV 4) (aD (ck (aa (bo (aa (iV 5) (aa (iV 6) (aa (au aW (aa (iV 0) (aa (iV 7) ag))) (aa (au aW (aa (iV 0) (aa (iV 8) ag))) ag))))) ag)))) (iV 2) [some (.h p),some (.d it),some (.d (.int wy)),some (.d (.int y)),some (.d (.lst ((L3++M3)++N2))),some (.d (.str "most")),some (.d (.int q)),some (.d (ti xs)),some (.d (ti zs)),some (.d lo)] s5=some (.d x,s7):=
   aj (aj rfl (aI (oI (ds:=[.tup [.str "most",.int q,ti cx,ti cz]]) (ac (i9 (ds:=[.str "most",.int q,ti cx,ti cz]) (ac rfl (ac rfl (ac (aw (ac rfl (ac rfl rfl)) e6) (ac (aw (ac rfl (ac rfl rfl)) e7) rfl)))) rfl (by show 4<=1000;decide)) rfl) rfl (by show 1<=1000;decide))) (iS _ (by rw [List.length_append,List.length_append,hl3,hm3,hn2];show 9<=1000000;decide))) rfl ex
  exact aQ (n:=10) (k:=2) (b:=fT) rfl (ar (az e1) (ar c2 (ar (dy cb rfl) (ar (un _ _ _) (ar c9 (ar c4 (ar c6 (ar c7 (bn c8)))))))))
end Own
section
set_option maxHeartbeats 1000000
namespace Own
open PySem L2
open Sx (Pb Tb Good Named Fe LV ZV piv lexP leastR leaveL sumN unit colV basis)
theorem uo (f h:Nat->Int):∀ l:List Nat,dX (l.map f) (l.map h)=(l.map λk=>f k*h k).sum
 | []=>rfl
 | k::l=>by
  have ih:=uo f h l
  unfold dX at ih ⊢
  rw [List.map_cons,List.map_cons,List.map_cons,List.zipWith_cons_cons,List.sum_cons,List.sum_cons,ih]
theorem Ap (n:Nat) (f:Nat->Int):((List.range n).map f).sum=sumN n f:=by
 induction n with
 | zero=>rfl
 | succ n ih=>rw [List.range_succ,List.map_append,List.sum_append,ih,Sx.sumN];simp
theorem lq (n:Nat) (f h:Nat->Int):dX ((List.range n).map f) ((List.range n).map h)=sumN n λk=>f k*h k:=by rw [uo,Ap]
theorem qz {n:Nat}{f:Nat->Int} (h:∀ k,k < n->0<=f k):eY ((List.range n).map f) n=true:=by
 unfold eY
 rw [Bool.and_eq_true]
 refine⟨by rw [List.length_map,List.length_range];simp,?_⟩
 rw [List.all_eq_true]
 intro x hx
 obtain⟨k,hk,rfl⟩:=List.mem_map.mp hx
 exact decide_eq_true (h k (List.mem_range.mp hk))
section
variable {m n:Nat}{R:Nat->Nat->Int}{b g:Nat->Int}
theorem pbA (hr:r < m) (hj:j < n):(gR m n R b g).A j r=R r j:=by
 show (if j < n then (if r < m then R r j else 0) else _)=_
 rw [if_pos hj,if_pos hr]
theorem pbb (hr:r < m):(gR m n R b g).b r=b r:=by show (if r < m then _ else _)=_;rw [if_pos hr]
theorem pbg (hj:j < n):(gR m n R b g).g j=g j:=by show (if j < n then _ else _)=_;rw [if_pos hj]
theorem sC {n:Nat}{P:Nat->Prop} [∀ k,Decidable (P k)] (h:∀ k,k < n->P k):((List.range n).all λk=>decide (P k))=true:=by
 rw [List.all_eq_true]
 intro k hk
 exact decide_eq_true (h k (List.mem_range.mp hk))
theorem uX {p:Int}{am pr:Nat->Int} (M:sQ (gR m n R b g) p am pr):lU m n R b g p ((List.range n).map am) ((List.range m).map pr)=true:=by
 have c1:∀ r,r < m->(sumN n λj=>R r j*am j)<=b r*p:=λr hr=>by
  have:=M.rows r hr
  rw [pbb hr,Int.mul_comm p] at this
  rw [Sx.sumN_congr (g:=λj=>am j*(gR m n R b g).A j r) λj hj=>by rw [pbA hr hj,Int.mul_comm]]
  exact this
 have c2:∀ j,j < n->(sumN m λr=>R r j*pr r)>=g j*p:=λj hj=>by
  have:=M.cols j hj
  rw [pbg hj,Int.mul_comm p] at this
  rw [Sx.sumN_congr (g:=λr=>(gR m n R b g).A j r*pr r) λr hr=>by rw [pbA hr hj]]
  exact this
 have c3:(sumN m λr=>b r*pr r)=sumN n λj=>g j*am j:=by
  have:=M.same
  rw [Sx.sumN_congr (g:=λr=>(gR m n R b g).b r*pr r) λr hr=>by rw [pbb hr],Sx.sumN_congr (n:=n) (g:=λj=>am j*(gR m n R b g).g j) λj hj=>by rw [pbg hj,Int.mul_comm]]
  exact this
 have p1:=M.p1
 have e1:jg m n R b ((List.range n).map am) p=true:=sC λr hr=>by unfold rlL;rw [lq];exact c1 r hr
 have e2:rH m n R g ((List.range m).map pr) p=true:=sC λk hk=>by unfold clL;rw [lq];exact c2 k hk
 have e3:eqB m n b g ((List.range n).map am) ((List.range m).map pr)=true:=by unfold eqB;rw [lq,lq,c3];simp
 unfold lU
 rw [decide_eq_false (by lia),qz (n:=n) (f:=am) M.am0,qz (n:=m) (f:=pr) M.pr0,e1,e2,e3];rfl
theorem wr {way:Nat->Int} (M:kU (gR m n R b g) way):uW m n R g ((List.range n).map way)=true:=by
 have c1:∀ r,r < m->(sumN n λj=>R r j*way j)<=0*1:=λr hr=>by
  have:=M.rows r hr
  rw [Sx.sumN_congr (g:=λj=>way j*(gR m n R b g).A j r) λj hj=>by rw [pbA hr hj,Int.mul_comm]]
  exact this
 have c2:(sumN n λj=>g j*way j) > 0:=by
  have:=M.gain
  rw [Sx.sumN_congr (n:=n) (g:=λj=>way j*(gR m n R b g).g j) λj hj=>by rw [pbg hj,Int.mul_comm]]
  exact this
 have e1:jg m n R (λ_=>0) ((List.range n).map way) 1=true:=sC λr hr=>by unfold rlL;rw [lq];exact c1 r hr
 unfold uW
 rw [qz (n:=n) (f:=way) M.w0,e1,lq,decide_eq_true c2];rfl
theorem xr {x:D} (h:Inp m n R b g) (M:v7 (gR m n R b g) x) (st:Sto):cp [.d (bC m n R),.d (.tup (mpI m b)),.d (.tup (mpI n g)),.d x] st=some (.d (.bl true),st):=by
 have hm:=h.m64
 have hn:=h.n64
 cases M with
 | most p am pr M=>
  have:=vK (st:=st) (w:="most") (p:=p) (xs:=(List.range n).map am) (ys:=(List.range m).map pr) h (by rw [List.length_map,List.length_range];lia) (by rw [List.length_map,List.length_range];lia)
  rw [uX M,<-iq,<-iq] at this
  exact this
 | beyond way M=>
  have:=vJ (st:=st) (w:="beyond") (xs:=(List.range n).map way) h (by rw [List.length_map,List.length_range];lia)
  rw [wr M,<-iq] at this
  exact this
theorem yy {x:D}{st:Sto}{p:Nat} (h:Inp m n R b g) (h1:1<=n) (M:v7 (gR m n R b g) x) (hh:bU st p):∃ y st',Itm y/\Stp p st st'/\eJ [.h p,.d x] st=some (.d y,st'):=by
 have hm:=h.m64
 have hn:=h.n64
 cases M with
 | most q am pr M=>
  have:=AH (q:=q) (xs:=(List.range n).map am) (zs:=(List.range m).map pr) hh (by rw [List.length_map,List.length_range];lia) (by rw [List.length_map,List.length_range];lia)
  rw [<-iq,<-iq] at this
  exact this
 | beyond way M=>
  have:=AI (xs:=(List.range n).map way) hh (by rw [List.length_map,List.length_range];lia) (by rw [List.length_map,List.length_range];lia)
  rw [<-iq] at this
  exact this
end
theorem xY (s:Sto) (k:Bool):dNe s (.d (.bl k)) (.d (.bl k))=some (.bl false):=by
 show some (D.bl (!(k==k)))=_
 cases k<;>rfl
theorem xT {ns:List Int}{i:Nat}{s:Sto}{o2 o3 o4 o5 o6 o7 o8 o9 o10:Option W} (hi:i<=1000):∃ q2 q3 q4 q5 q6 q7 q8 q9 q10 s',qt [some (.d (.scr ns)),some (.d (.int (i:Int))),o2,o3,o4,o5,o6,o7,o8,o9,o10] s=some (.nx [some (.d (.scr ns)),some (.d (.int (i:Int))),q2,q3,q4,q5,q6,q7,q8,q9,q10] s'):=by
 obtain⟨x,y,x0,e1⟩:=Ad (st:=s) (ns:=ns) (k:=i) hi
 have h1:bU (s++[.l [.int x,.int y,.int 0]]) s.length:=⟨x,y,0,x0,by rw [List.getElem?_append_right (Nat.le_refl _),Nat.sub_self];rfl⟩
 generalize s++[C.l [.int x,.int y,.int 0]]=s1 at *
 generalize s.length=p at *
 obtain⟨m,n,R,b,g,s2,n1,hinp,t2,e2⟩:=xP h1
 obtain⟨f,M,_,hf⟩:=xD hinp
 obtain⟨u3,e3⟩:=hf s2
 have e4:=xr hinp M (s2++u3)
 have h3:bU (s2++u3) p:=t2.hand.app u3
 have hb:=λ{st:Sto} (hh:bU st p)=>yy hinp n1 M hh
 have hs:=λ{z:D} (hz:Itm z)=>u2 hinp hz
 have un:∀ s,aG (.tp [4,5,6]) (iV 3) [some (.d (.scr ns)),some (.d (.int (i:Int))),some (.h p),some (.d (eM m n R b g)),o4,o5,o6,o7,o8,o9,o10] s=some (.nx [some (.d (.scr ns)),some (.d (.int (i:Int))),some (.h p),some (.d (eM m n R b g)),some (.d (bC m n R)),some (.d (.tup (mpI m b))),some (.d (.tup (mpI n g))),o7,o8,o9,o10] s):=λs=>rfl
 generalize s2++u3=s3 at *
 generalize eM m n R b g=cs at *
 generalize bC m n R=rs at *
 generalize D.tup (mpI m b)=bs at *
 generalize D.tup (mpI n g)=gs at *
 obtain⟨env',s5,e5,⟨q8,q9,q10,rfl⟩,h5⟩:=fU (g:=.nm 8) (body:=uk) (ds:=dE 0 9)
  (λj env s=>(∃ q8 q9 q10,env=[some (.d (.scr ns)),some (.d (.int (i:Int))),some (.h p),some (.d cs),some (.d rs),some (.d bs),some (.d gs),some (.d f),q8,q9,q10])/\bU s p)
  (env:=[some (.d (.scr ns)),some (.d (.int (i:Int))),some (.h p),some (.d cs),some (.d rs),some (.d bs),some (.d gs),some (.d f),o8,o9,o10]) (st:=s3) ⟨⟨_,_,_,rfl⟩,h3⟩ (λj d env s hd ⟨⟨q8,q9,q10,e0⟩,hh⟩=>by
   subst e0
   obtain⟨z,s6,hz,t6,e6⟩:=hb hh
   obtain⟨k,hk⟩:=hs hz
   have hk6:=hk s6
   refine⟨_,[some (.d (.scr ns)),some (.d (.int (i:Int))),some (.h p),some (.d cs),some (.d rs),some (.d bs),some (.d gs),some (.d f),some (.d d),some (.d z),some (.d (.bl k))],s6,rfl,.inl ?_,⟨_,_,_,rfl⟩,t6.hand⟩
   have n9:aG (.nm 9) (au eJ (aa (iV 2) (aa (iV 7) ag))) [some (.d (.scr ns)),some (.d (.int (i:Int))),some (.h p),some (.d cs),some (.d rs),some (.d bs),some (.d gs),some (.d f),some (.d d),q9,q10] s=some (.nx [some (.d (.scr ns)),some (.d (.int (i:Int))),some (.h p),some (.d cs),some (.d rs),some (.d bs),some (.d gs),some (.d f),some (.d d),some (.d z),q10] s6):=az (aw rfl e6)
   have n10:aG (.nm 10) (au cp (aa (iV 4) (aa (iV 5) (aa (iV 6) (aa (iV 9) ag))))) [some (.d (.scr ns)),some (.d (.int (i:Int))),some (.h p),some (.d cs),some (.d rs),some (.d bs),some (.d gs),some (.d f),some (.d d),some (.d z),q10] s6=some (.nx [some (.d (.scr ns)),some (.d (.int (i:Int))),some (.h p),some (.d cs),some (.d rs),some (.d bs),some (.d gs),some (.d f),some (.d d),some (.d z),some (.d (.bl k))] s6):=az (aw rfl hk6.1)
   exact ar n9 (ar n10 (dy (s:=s6) (jE (s:=s6) rfl (aY rfl (aw rfl hk6.2) (xY _ _))) rfl)))
 have n7:aG (.nm 7) (au jU (aa (iV 4) (aa (iV 5) (aa (iV 6) ag)))) [some (.d (.scr ns)),some (.d (.int (i:Int))),some (.h p),some (.d cs),some (.d rs),some (.d bs),some (.d gs),o7,o8,o9,o10] s2=some (.nx [some (.d (.scr ns)),some (.d (.int (i:Int))),some (.h p),some (.d cs),some (.d rs),some (.d bs),some (.d gs),some (.d f),o8,o9,o10] s3):=az (aw rfl e3)
 have n8:ce (bg we (au cp (aa (iV 4) (aa (iV 5) (aa (iV 6) (aa (iV 7) ag))))) (iC (.bl true))) (bi (iC (.bl false))) bj [some (.d (.scr ns)),some (.d (.int (i:Int))),some (.h p),some (.d cs),some (.d rs),some (.d bs),some (.d gs),some (.d f),o8,o9,o10] s3=some (.nx [some (.d (.scr ns)),some (.d (.int (i:Int))),some (.h p),some (.d cs),some (.d rs),some (.d bs),some (.d gs),some (.d f),o8,o9,o10] s3):=dy (s:=s3) (aY (aw rfl e4) rfl rfl) rfl
 exact⟨_,_,_,_,_,_,_,_,_,_,ar (az (aw rfl e1)) (ar (az (aw rfl e2)) (ar (un _) (ar n7 (ar n8 (dc (lC (e:=iC (.int 9)) (z:=9) (m:=9) rfl (by decide) (by decide) rfl) e5)))))⟩
theorem wJ (ns:List Int) (hl:ns.length<=63):∃ st,rq [.d (.scr ns)] []=some (.d (.bl true),st):=by
 obtain⟨m,hm,em⟩:∃ m:Nat,m<=9/\∀ s,dk (aa (iOp bH (iC (.int 1)) (iCB xF (aa (iC (.int 8)) (aa (iCB bA (aa (iV 0) ag)) ag)))) ag) [some (.d (.scr ns)),none,none,none,none,none,none,none,none,none,none] s=some (dE 0 m,s):=by
  have hlen:∀ s,bA s [.d (.scr ns)]=some (.int (((ns.map D.int).length:Nat):Int)):=λs=>rfl
  have hmin:∃ z:Int,(0<=z/\z<=8)/\∀ s,xF s [.d (.int 8),.d (.int (((ns.map D.int).length:Nat):Int))]=some (.int z):=by
   rw [List.length_map]
   refine⟨if ((ns.length:Nat):Int) < 8 then ((ns.length:Nat):Int) else 8,by split<;>lia,λs=>?_⟩
   rfl
  obtain⟨z,hz,ez⟩:=hmin
  exact⟨(1+z).toNat,by lia,λs=>lC (aj rfl (aZ (ac rfl (ac (aZ (ac rfl rfl) (hlen s)) rfl)) (ez s)) rfl) (by lia) (by lia) rfl⟩
 obtain⟨env',s2,e2,o1,o2,o3,o4,o5,o6,o7,o8,o9,o10,rfl⟩:=fU (g:=.nm 1) (body:=qt) (ds:=dE 0 m)
  (λi env s=>∃ o1 o2 o3 o4 o5 o6 o7 o8 o9 o10,env=[some (.d (.scr ns)),o1,o2,o3,o4,o5,o6,o7,o8,o9,o10])
  (env:=[some (.d (.scr ns)),none,none,none,none,none,none,none,none,none,none]) (st:=[]) ⟨_,_,_,_,_,_,_,_,_,_,rfl⟩ (λi d env s hd ⟨o1,o2,o3,o4,o5,o6,o7,o8,o9,o10,e0⟩=>by
   subst e0
   obtain⟨hi,rfl⟩:=nv hd
   have ei:(0:Int)+((i:Nat):Int)=((i:Nat):Int):=by lia
   obtain⟨q2,q3,q4,q5,q6,q7,q8,q9,q10,s',e⟩:=xT (ns:=ns) (i:=i) (s:=s) (o2:=o2) (o3:=o3) (o4:=o4) (o5:=o5) (o6:=o6) (o7:=o7) (o8:=o8) (o9:=o9) (o10:=o10) (by lia)
   refine⟨[some (.d (.scr ns)),some (.d (.int (0+((i:Nat):Int)))),o2,o3,o4,o5,o6,o7,o8,o9,o10],[some (.d (.scr ns)),some (.d (.int (i:Int))),q2,q3,q4,q5,q6,q7,q8,q9,q10],s',rfl,.inl ?_,⟨_,_,_,_,_,_,_,_,_,_,rfl⟩⟩
   rw [ei];exact e)
 exact⟨_,mO (n:=11) (k:=1) (b:=uD) rfl (ar (dc (em []) e2) rfl)⟩
end Own
end
namespace Own
open PySem L2
theorem nw {us:List Value} (h:us.length=1):∃ a0,us=[a0]:=match us,h with | [a0],_=>⟨a0,rfl⟩
theorem kQ {us:List Value} (h:us.length=2):∃ a0 a1,us=[a0,a1]:=match us,h with | [a0,a1],_=>⟨a0,a1,rfl⟩
theorem wS {us:List Value} (h:us.length=3):∃ a0 a1 a2,us=[a0,a1,a2]:=match us,h with | [a0,a1,a2],_=>⟨a0,a1,a2,rfl⟩
theorem u9 {us:List Value} (h:us.length=4):∃ a0 a1 a2 a3,us=[a0,a1,a2,a3]:=match us,h with | [a0,a1,a2,a3],_=>⟨a0,a1,a2,a3,rfl⟩
theorem BZ {us:List Value} (h:us.length=6):∃ a0 a1 a2 a3 a4 a5,us=[a0,a1,a2,a3,a4,a5]:=match us,h with | [a0,a1,a2,a3,a4,a5],_=>⟨a0,a1,a2,a3,a4,a5,rfl⟩
theorem txt_mk {K:PySem.W.Frag}{h:Heap}{mg:Str->Option Value} (X:K.In h) (G:h.Ns mainGlobals mg)
  {f0:Addr}{od0 an0:Option Addr}{sl0:Array (Option Value)}{oc0 kV0 dc0 pm0 cd0 ct0:Value}
  (a0:PySem.W.nsIn K mainGlobals "is_whole" = some (some (.ref f0))) (l0:K.lookup f0=some ⟨oc0,od0,.func (PySem.W.fnOf "is_whole" "is_whole" (aN eD) (aF eD) (ah eD) .none kV0 dc0 pm0 an0 cd0 ct0),sl0⟩) (c0:PySem.W.codeIn K cd0 "is_whole" = true) (k0:PySem.W.keepIn K (.ref f0)=true)
  {f1:Addr}{od1 an1:Option Addr}{sl1:Array (Option Value)}{oc1 kV1 dc1 pm1 cd1 ct1:Value}
  (a1:PySem.W.nsIn K mainGlobals "are_amounts" = some (some (.ref f1))) (l1:K.lookup f1=some ⟨oc1,od1,.func (PySem.W.fnOf "are_amounts" "are_amounts" (aN cC) (aF cC) (ah cC) .none kV1 dc1 pm1 an1 cd1 ct1),sl1⟩) (c1:PySem.W.codeIn K cd1 "are_amounts" = true) (k1:PySem.W.keepIn K (.ref f1)=true)
  {f2:Addr}{od2 an2:Option Addr}{sl2:Array (Option Value)}{oc2 kV2 dc2 pm2 cd2 ct2:Value}
  (a2:PySem.W.nsIn K mainGlobals "greatest_part" = some (some (.ref f2))) (l2:K.lookup f2=some ⟨oc2,od2,.func (PySem.W.fnOf "greatest_part" "greatest_part" (aN cm) (aF cm) (ah cm) .none kV2 dc2 pm2 an2 cd2 ct2),sl2⟩) (c2:PySem.W.codeIn K cd2 "greatest_part" = true) (k2:PySem.W.keepIn K (.ref f2)=true)
  {f3:Addr}{od3 an3:Option Addr}{sl3:Array (Option Value)}{oc3 kV3 dc3 pm3 cd3 ct3:Value}
  (a3:PySem.W.nsIn K mainGlobals "lowered" = some (some (.ref f3))) (l3:K.lookup f3=some ⟨oc3,od3,.func (PySem.W.fnOf "lowered" "lowered" (aN eI) (aF eI) (ah eI) .none kV3 dc3 pm3 an3 cd3 ct3),sl3⟩) (c3:PySem.W.codeIn K cd3 "lowered" = true) (k3:PySem.W.keepIn K (.ref f3)=true)
  {f4:Addr}{od4 an4:Option Addr}{sl4:Array (Option Value)}{oc4 kV4 dc4 pm4 cd4 ct4:Value}
  (a4:PySem.W.nsIn K mainGlobals "products_together" = some (some (.ref f4))) (l4:K.lookup f4=some ⟨oc4,od4,.func (PySem.W.fnOf "products_together" "products_together" (aN br) (aF br) (ah br) .none kV4 dc4 pm4 an4 cd4 ct4),sl4⟩) (c4:PySem.W.codeIn K cd4 "products_together" = true) (k4:PySem.W.keepIn K (.ref f4)=true)
  {f5:Addr}{od5 an5:Option Addr}{sl5:Array (Option Value)}{oc5 kV5 dc5 pm5 cd5 ct5:Value}
  (a5:PySem.W.nsIn K mainGlobals "column_of" = some (some (.ref f5))) (l5:K.lookup f5=some ⟨oc5,od5,.func (PySem.W.fnOf "column_of" "column_of" (aN cZ) (aF cZ) (ah cZ) .none kV5 dc5 pm5 an5 cd5 ct5),sl5⟩) (c5:PySem.W.codeIn K cd5 "column_of" = true) (k5:PySem.W.keepIn K (.ref f5)=true)
  {f6:Addr}{od6 an6:Option Addr}{sl6:Array (Option Value)}{oc6 kV6 dc6 pm6 cd6 ct6:Value}
  (a6:PySem.W.nsIn K mainGlobals "within_bounds" = some (some (.ref f6))) (l6:K.lookup f6=some ⟨oc6,od6,.func (PySem.W.fnOf "within_bounds" "within_bounds" (aN bS) (aF bS) (ah bS) .none kV6 dc6 pm6 an6 cd6 ct6),sl6⟩) (c6:PySem.W.codeIn K cd6 "within_bounds" = true) (k6:PySem.W.keepIn K (.ref f6)=true)
  {f7:Addr}{od7 an7:Option Addr}{sl7:Array (Option Value)}{oc7 kV7 dc7 pm7 cd7 ct7:Value}
  (a7:PySem.W.nsIn K mainGlobals "cover_gains" = some (some (.ref f7))) (l7:K.lookup f7=some ⟨oc7,od7,.func (PySem.W.fnOf "cover_gains" "cover_gains" (aN cB) (aF cB) (ah cB) .none kV7 dc7 pm7 an7 cd7 ct7),sl7⟩) (c7:PySem.W.codeIn K cd7 "cover_gains" = true) (k7:PySem.W.keepIn K (.ref f7)=true)
  {f8:Addr}{od8 an8:Option Addr}{sl8:Array (Option Value)}{oc8 kV8 dc8 pm8 cd8 ct8:Value}
  (a8:PySem.W.nsIn K mainGlobals "are_most" = some (some (.ref f8))) (l8:K.lookup f8=some ⟨oc8,od8,.func (PySem.W.fnOf "are_most" "are_most" (aN en) (aF en) (ah en) .none kV8 dc8 pm8 an8 cd8 ct8),sl8⟩) (c8:PySem.W.codeIn K cd8 "are_most" = true) (k8:PySem.W.keepIn K (.ref f8)=true)
  {f9:Addr}{od9 an9:Option Addr}{sl9:Array (Option Value)}{oc9 kV9 dc9 pm9 cd9 ct9:Value}
  (a9:PySem.W.nsIn K mainGlobals "is_way" = some (some (.ref f9))) (l9:K.lookup f9=some ⟨oc9,od9,.func (PySem.W.fnOf "is_way" "is_way" (aN gB) (aF gB) (ah gB) .none kV9 dc9 pm9 an9 cd9 ct9),sl9⟩) (c9:PySem.W.codeIn K cd9 "is_way" = true) (k9:PySem.W.keepIn K (.ref f9)=true)
  {f10:Addr}{od10 an10:Option Addr}{sl10:Array (Option Value)}{oc10 kV10 dc10 pm10 cd10 ct10:Value}
  (a10:PySem.W.nsIn K mainGlobals "shows_most" = some (some (.ref f10))) (l10:K.lookup f10=some ⟨oc10,od10,.func (PySem.W.fnOf "shows_most" "shows_most" (aN dl) (aF dl) (ah dl) .none kV10 dc10 pm10 an10 cd10 ct10),sl10⟩) (c10:PySem.W.codeIn K cd10 "shows_most" = true) (k10:PySem.W.keepIn K (.ref f10)=true)
  {f11:Addr}{od11 an11:Option Addr}{sl11:Array (Option Value)}{oc11 kV11 dc11 pm11 cd11 ct11:Value}
  {ca_Table:Addr} (cm_Table:PySem.W.nsIn K mainGlobals "Table" = some (some (.ref ca_Table)))
  (a11:PySem.W.findIn K (.ref ca_Table) "__init__" = some (some (.ref f11))) (l11:K.lookup f11=some ⟨oc11,od11,.func (PySem.W.fnOf "__init__" "Table.__init__" (aN cM) (aF cM) (ah cM) .none kV11 dc11 pm11 an11 cd11 ct11),sl11⟩) (c11:PySem.W.codeIn K cd11 "Table.__init__" = true) (k11:PySem.W.keepIn K (.ref f11)=true)
  {f12:Addr}{od12 an12:Option Addr}{sl12:Array (Option Value)}{oc12 kV12 dc12 pm12 cd12 ct12:Value}
  (a12:PySem.W.nsIn K mainGlobals "least_ratio" = some (some (.ref f12))) (l12:K.lookup f12=some ⟨oc12,od12,.func (PySem.W.fnOf "least_ratio" "least_ratio" (aN cR) (aF cR) (ah cR) .none kV12 dc12 pm12 an12 cd12 ct12),sl12⟩) (c12:PySem.W.codeIn K cd12 "least_ratio" = true) (k12:PySem.W.keepIn K (.ref f12)=true)
  {f13:Addr}{od13 an13:Option Addr}{sl13:Array (Option Value)}{oc13 kV13 dc13 pm13 cd13 ct13:Value}
  (a13:PySem.W.nsIn K mainGlobals "weighed" = some (some (.ref f13))) (l13:K.lookup f13=some ⟨oc13,od13,.func (PySem.W.fnOf "weighed" "weighed" (aN fu) (aF fu) (ah fu) .none kV13 dc13 pm13 an13 cd13 ct13),sl13⟩) (c13:PySem.W.codeIn K cd13 "weighed" = true) (k13:PySem.W.keepIn K (.ref f13)=true)
  {f14:Addr}{od14 an14:Option Addr}{sl14:Array (Option Value)}{oc14 kV14 dc14 pm14 cd14 ct14:Value}
  (a14:PySem.W.nsIn K mainGlobals "numbers_by" = some (some (.ref f14))) (l14:K.lookup f14=some ⟨oc14,od14,.func (PySem.W.fnOf "numbers_by" "numbers_by" (aN ca) (aF ca) (ah ca) .none kV14 dc14 pm14 an14 cd14 ct14),sl14⟩) (c14:PySem.W.codeIn K cd14 "numbers_by" = true) (k14:PySem.W.keepIn K (.ref f14)=true)
  {f15:Addr}{od15 an15:Option Addr}{sl15:Array (Option Value)}{oc15 kV15 dc15 pm15 cd15 ct15:Value}
  (a15:PySem.W.nsIn K mainGlobals "leaving" = some (some (.ref f15))) (l15:K.lookup f15=some ⟨oc15,od15,.func (PySem.W.fnOf "leaving" "leaving" (aN dP) (aF dP) (ah dP) .none kV15 dc15 pm15 an15 cd15 ct15),sl15⟩) (c15:PySem.W.codeIn K cd15 "leaving" = true) (k15:PySem.W.keepIn K (.ref f15)=true)
  {f16:Addr}{od16 an16:Option Addr}{sl16:Array (Option Value)}{oc16 kV16 dc16 pm16 cd16 ct16:Value}
  (a16:PySem.W.nsIn K mainGlobals "gains_more" = some (some (.ref f16))) (l16:K.lookup f16=some ⟨oc16,od16,.func (PySem.W.fnOf "gains_more" "gains_more" (aN de) (aF de) (ah de) .none kV16 dc16 pm16 an16 cd16 ct16),sl16⟩) (c16:PySem.W.codeIn K cd16 "gains_more" = true) (k16:PySem.W.keepIn K (.ref f16)=true)
  {f17:Addr}{od17 an17:Option Addr}{sl17:Array (Option Value)}{oc17 kV17 dc17 pm17 cd17 ct17:Value}
  (a17:PySem.W.nsIn K mainGlobals "best_step" = some (some (.ref f17))) (l17:K.lookup f17=some ⟨oc17,od17,.func (PySem.W.fnOf "best_step" "best_step" (aN dJ) (aF dJ) (ah dJ) .none kV17 dc17 pm17 an17 cd17 ct17),sl17⟩) (c17:PySem.W.codeIn K cd17 "best_step" = true) (k17:PySem.W.keepIn K (.ref f17)=true)
  {f18:Addr}{od18 an18:Option Addr}{sl18:Array (Option Value)}{oc18 kV18 dc18 pm18 cd18 ct18:Value}
  (a18:PySem.W.nsIn K mainGlobals "swept" = some (some (.ref f18))) (l18:K.lookup f18=some ⟨oc18,od18,.func (PySem.W.fnOf "swept" "swept" (aN im) (aF im) (ah im) .none kV18 dc18 pm18 an18 cd18 ct18),sl18⟩) (c18:PySem.W.codeIn K cd18 "swept" = true) (k18:PySem.W.keepIn K (.ref f18)=true)
  {f19:Addr}{od19 an19:Option Addr}{sl19:Array (Option Value)}{oc19 kV19 dc19 pm19 cd19 ct19:Value}
  (a19:PySem.W.nsIn K mainGlobals "exchange" = some (some (.ref f19))) (l19:K.lookup f19=some ⟨oc19,od19,.func (PySem.W.fnOf "exchange" "exchange" (aN dG) (aF dG) (ah dG) .none kV19 dc19 pm19 an19 cd19 ct19),sl19⟩) (c19:PySem.W.codeIn K cd19 "exchange" = true) (k19:PySem.W.keepIn K (.ref f19)=true)
  {f20:Addr}{od20 an20:Option Addr}{sl20:Array (Option Value)}{oc20 kV20 dc20 pm20 cd20 ct20:Value}
  (a20:PySem.W.nsIn K mainGlobals "way_of" = some (some (.ref f20))) (l20:K.lookup f20=some ⟨oc20,od20,.func (PySem.W.fnOf "way_of" "way_of" (aN gO) (aF gO) (ah gO) .none kV20 dc20 pm20 an20 cd20 ct20),sl20⟩) (c20:PySem.W.codeIn K cd20 "way_of" = true) (k20:PySem.W.keepIn K (.ref f20)=true)
  {f21:Addr}{od21 an21:Option Addr}{sl21:Array (Option Value)}{oc21 kV21 dc21 pm21 cd21 ct21:Value}
  (a21:PySem.W.nsIn K mainGlobals "amounts_of" = some (some (.ref f21))) (l21:K.lookup f21=some ⟨oc21,od21,.func (PySem.W.fnOf "amounts_of" "amounts_of" (aN dm) (aF dm) (ah dm) .none kV21 dc21 pm21 an21 cd21 ct21),sl21⟩) (c21:PySem.W.codeIn K cd21 "amounts_of" = true) (k21:PySem.W.keepIn K (.ref f21)=true)
  {f22:Addr}{od22 an22:Option Addr}{sl22:Array (Option Value)}{oc22 kV22 dc22 pm22 cd22 ct22:Value}
  (a22:PySem.W.nsIn K mainGlobals "prices_of" = some (some (.ref f22))) (l22:K.lookup f22=some ⟨oc22,od22,.func (PySem.W.fnOf "prices_of" "prices_of" (aN dC) (aF dC) (ah dC) .none kV22 dc22 pm22 an22 cd22 ct22),sl22⟩) (c22:PySem.W.codeIn K cd22 "prices_of" = true) (k22:PySem.W.keepIn K (.ref f22)=true)
  {f23:Addr}{od23 an23:Option Addr}{sl23:Array (Option Value)}{oc23 kV23 dc23 pm23 cd23 ct23:Value}
  (a23:PySem.W.nsIn K mainGlobals "found_most" = some (some (.ref f23))) (l23:K.lookup f23=some ⟨oc23,od23,.func (PySem.W.fnOf "found_most" "found_most" (aN cv) (aF cv) (ah cv) .none kV23 dc23 pm23 an23 cd23 ct23),sl23⟩) (c23:PySem.W.codeIn K cd23 "found_most" = true) (k23:PySem.W.keepIn K (.ref f23)=true)
  {f24:Addr}{od24 an24:Option Addr}{sl24:Array (Option Value)}{oc24 kV24 dc24 pm24 cd24 ct24:Value}
  (a24:PySem.W.nsIn K mainGlobals "most_of" = some (some (.ref f24))) (l24:K.lookup f24=some ⟨oc24,od24,.func (PySem.W.fnOf "most_of" "most_of" (aN fB) (aF fB) (ah fB) .none kV24 dc24 pm24 an24 cd24 ct24),sl24⟩) (c24:PySem.W.codeIn K cd24 "most_of" = true) (k24:PySem.W.keepIn K (.ref f24)=true)
  {f25:Addr}{od25 an25:Option Addr}{sl25:Array (Option Value)}{oc25 kV25 dc25 pm25 cd25 ct25:Value}
  (a25:PySem.W.nsIn K mainGlobals "_law_pot" = some (some (.ref f25))) (l25:K.lookup f25=some ⟨oc25,od25,.func (PySem.W.fnOf "_law_pot" "_law_pot" (aN eE) (aF eE) (ah eE) .none kV25 dc25 pm25 an25 cd25 ct25),sl25⟩) (c25:PySem.W.codeIn K cd25 "_law_pot" = true) (k25:PySem.W.keepIn K (.ref f25)=true)
  {f26:Addr}{od26 an26:Option Addr}{sl26:Array (Option Value)}{oc26 kV26 dc26 pm26 cd26 ct26:Value}
  (a26:PySem.W.nsIn K mainGlobals "_law_pick" = some (some (.ref f26))) (l26:K.lookup f26=some ⟨oc26,od26,.func (PySem.W.fnOf "_law_pick" "_law_pick" (aN dA) (aF dA) (ah dA) .none kV26 dc26 pm26 an26 cd26 ct26),sl26⟩) (c26:PySem.W.codeIn K cd26 "_law_pick" = true) (k26:PySem.W.keepIn K (.ref f26)=true)
  {f27:Addr}{od27 an27:Option Addr}{sl27:Array (Option Value)}{oc27 kV27 dc27 pm27 cd27 ct27:Value}
  (a27:PySem.W.nsIn K mainGlobals "_law_case" = some (some (.ref f27))) (l27:K.lookup f27=some ⟨oc27,od27,.func (PySem.W.fnOf "_law_case" "_law_case" (aN cy) (aF cy) (ah cy) .none kV27 dc27 pm27 an27 cd27 ct27),sl27⟩) (c27:PySem.W.codeIn K cd27 "_law_case" = true) (k27:PySem.W.keepIn K (.ref f27)=true)
  {f28:Addr}{od28 an28:Option Addr}{sl28:Array (Option Value)}{oc28 kV28 dc28 pm28 cd28 ct28:Value}
  (a28:PySem.W.nsIn K mainGlobals "_law_dot" = some (some (.ref f28))) (l28:K.lookup f28=some ⟨oc28,od28,.func (PySem.W.fnOf "_law_dot" "_law_dot" (aN dD) (aF dD) (ah dD) .none kV28 dc28 pm28 an28 cd28 ct28),sl28⟩) (c28:PySem.W.codeIn K cd28 "_law_dot" = true) (k28:PySem.W.keepIn K (.ref f28)=true)
  {f29:Addr}{od29 an29:Option Addr}{sl29:Array (Option Value)}{oc29 kV29 dc29 pm29 cd29 ct29:Value}
  (a29:PySem.W.nsIn K mainGlobals "_law_whole" = some (some (.ref f29))) (l29:K.lookup f29=some ⟨oc29,od29,.func (PySem.W.fnOf "_law_whole" "_law_whole" (aN dh) (aF dh) (ah dh) .none kV29 dc29 pm29 an29 cd29 ct29),sl29⟩) (c29:PySem.W.codeIn K cd29 "_law_whole" = true) (k29:PySem.W.keepIn K (.ref f29)=true)
  {f30:Addr}{od30 an30:Option Addr}{sl30:Array (Option Value)}{oc30 kV30 dc30 pm30 cd30 ct30:Value}
  (a30:PySem.W.nsIn K mainGlobals "_law_numbers" = some (some (.ref f30))) (l30:K.lookup f30=some ⟨oc30,od30,.func (PySem.W.fnOf "_law_numbers" "_law_numbers" (aN cf) (aF cf) (ah cf) .none kV30 dc30 pm30 an30 cd30 ct30),sl30⟩) (c30:PySem.W.codeIn K cd30 "_law_numbers" = true) (k30:PySem.W.keepIn K (.ref f30)=true)
  {f31:Addr}{od31 an31:Option Addr}{sl31:Array (Option Value)}{oc31 kV31 dc31 pm31 cd31 ct31:Value}
  (a31:PySem.W.nsIn K mainGlobals "_law_greatest" = some (some (.ref f31))) (l31:K.lookup f31=some ⟨oc31,od31,.func (PySem.W.fnOf "_law_greatest" "_law_greatest" (aN bK) (aF bK) (ah bK) .none kV31 dc31 pm31 an31 cd31 ct31),sl31⟩) (c31:PySem.W.codeIn K cd31 "_law_greatest" = true) (k31:PySem.W.keepIn K (.ref f31)=true)
  {f32:Addr}{od32 an32:Option Addr}{sl32:Array (Option Value)}{oc32 kV32 dc32 pm32 cd32 ct32:Value}
  (a32:PySem.W.nsIn K mainGlobals "_law_due" = some (some (.ref f32))) (l32:K.lookup f32=some ⟨oc32,od32,.func (PySem.W.fnOf "_law_due" "_law_due" (aN dF) (aF dF) (ah dF) .none kV32 dc32 pm32 an32 cd32 ct32),sl32⟩) (c32:PySem.W.codeIn K cd32 "_law_due" = true) (k32:PySem.W.keepIn K (.ref f32)=true)
  {f33:Addr}{od33 an33:Option Addr}{sl33:Array (Option Value)}{oc33 kV33 dc33 pm33 cd33 ct33:Value}
  (a33:PySem.W.nsIn K mainGlobals "_law_bent_number" = some (some (.ref f33))) (l33:K.lookup f33=some ⟨oc33,od33,.func (PySem.W.fnOf "_law_bent_number" "_law_bent_number" (aN bO) (aF bO) (ah bO) .none kV33 dc33 pm33 an33 cd33 ct33),sl33⟩) (c33:PySem.W.codeIn K cd33 "_law_bent_number" = true) (k33:PySem.W.keepIn K (.ref f33)=true)
  {f34:Addr}{od34 an34:Option Addr}{sl34:Array (Option Value)}{oc34 kV34 dc34 pm34 cd34 ct34:Value}
  (a34:PySem.W.nsIn K mainGlobals "_law_bent_row" = some (some (.ref f34))) (l34:K.lookup f34=some ⟨oc34,od34,.func (PySem.W.fnOf "_law_bent_row" "_law_bent_row" (aN cj) (aF cj) (ah cj) .none kV34 dc34 pm34 an34 cd34 ct34),sl34⟩) (c34:PySem.W.codeIn K cd34 "_law_bent_row" = true) (k34:PySem.W.keepIn K (.ref f34)=true)
  {f35:Addr}{od35 an35:Option Addr}{sl35:Array (Option Value)}{oc35 kV35 dc35 pm35 cd35 ct35:Value}
  (a35:PySem.W.nsIn K mainGlobals "_law_bent" = some (some (.ref f35))) (l35:K.lookup f35=some ⟨oc35,od35,.func (PySem.W.fnOf "_law_bent" "_law_bent" (aN cA) (aF cA) (ah cA) .none kV35 dc35 pm35 an35 cd35 ct35),sl35⟩) (c35:PySem.W.codeIn K cd35 "_law_bent" = true) (k35:PySem.W.keepIn K (.ref f35)=true)
  {f36:Addr}{od36 an36:Option Addr}{sl36:Array (Option Value)}{oc36 kV36 dc36 pm36 cd36 ct36:Value}
  (a36:PySem.W.nsIn K mainGlobals "law" = some (some (.ref f36))) (l36:K.lookup f36=some ⟨oc36,od36,.func (PySem.W.fnOf "law" "law" (aN nq) (aF nq) (ah nq) .none kV36 dc36 pm36 an36 cd36 ct36),sl36⟩) (c36:PySem.W.codeIn K cd36 "law" = true) (k36:PySem.W.keepIn K (.ref f36)=true)
  (z_abs:PySem.W.nsIn K mainGlobals "abs" = some none)
  (z_all:PySem.W.nsIn K mainGlobals "all" = some none)
  (z_any:PySem.W.nsIn K mainGlobals "any" = some none)
  (z_bool:PySem.W.nsIn K mainGlobals "bool" = some none)
  (z_enumerate:PySem.W.nsIn K mainGlobals "enumerate" = some none)
  (z_int:PySem.W.nsIn K mainGlobals "int" = some none)
  (z_isinstance:PySem.W.nsIn K mainGlobals "isinstance" = some none)
  (z_len:PySem.W.nsIn K mainGlobals "len" = some none)
  (z_list:PySem.W.nsIn K mainGlobals "list" = some none)
  (z_min:PySem.W.nsIn K mainGlobals "min" = some none)
  (z_range:PySem.W.nsIn K mainGlobals "range" = some none)
  (z_str:PySem.W.nsIn K mainGlobals "str" = some none)
  (z_sum:PySem.W.nsIn K mainGlobals "sum" = some none)
  (z_tuple:PySem.W.nsIn K mainGlobals "tuple" = some none)
  (z_zip:PySem.W.nsIn K mainGlobals "zip" = some none)
  (mk0_Table:PySem.W.makesIn K ca_Table=true)
  (mk2_Table:PySem.W.isFn K (.ref f11)=true)
  (mk3_Table:PySem.W.keepIn K (.ref ca_Table)=true)
  (cl0_Table:PySem.W.plainGet K ca_Table Str.empty=true)
  (cl1_Table:PySem.W.hasDictIn K ca_Table=true)
  (cl2_Table:PySem.W.plainOver K ca_Table=true)
  (cl3_Table:PySem.W.findIn K (.ref ca_Table) "__setattr__" = some (some (.builtin "object.__setattr__")))
  (na0_Table:PySem.W.findIn K (.ref ca_Table) "amounts" = some none)
  (na1_Table:PySem.W.findIn K (.ref ca_Table) "lines" = some none)
  (na2_Table:PySem.W.findIn K (.ref ca_Table) "goal" = some none)
  (na3_Table:PySem.W.findIn K (.ref ca_Table) "part" = some none)
  (na4_Table:PySem.W.findIn K (.ref ca_Table) "free" = some none)
  (na5_Table:PySem.W.findIn K (.ref ca_Table) "kept" = some none)
  : ∃ t,Txt K mg t/\t.f36=f36:=by
 have F0:=bu (st:=eD) l0 c0 k0
 have F1:=bu (st:=cC) l1 c1 k1
 have F2:=bu (st:=cm) l2 c2 k2
 have F3:=bu (st:=eI) l3 c3 k3
 have F4:=bu (st:=br) l4 c4 k4
 have F5:=bu (st:=cZ) l5 c5 k5
 have F6:=bu (st:=bS) l6 c6 k6
 have F7:=bu (st:=cB) l7 c7 k7
 have F8:=bu (st:=en) l8 c8 k8
 have F9:=bu (st:=gB) l9 c9 k9
 have F10:=bu (st:=dl) l10 c10 k10
 have F11:=bu (st:=cM) l11 c11 k11
 have F12:=bu (st:=cR) l12 c12 k12
 have F13:=bu (st:=fu) l13 c13 k13
 have F14:=bu (st:=ca) l14 c14 k14
 have F15:=bu (st:=dP) l15 c15 k15
 have F16:=bu (st:=de) l16 c16 k16
 have F17:=bu (st:=dJ) l17 c17 k17
 have F18:=bu (st:=im) l18 c18 k18
 have F19:=bu (st:=dG) l19 c19 k19
 have F20:=bu (st:=gO) l20 c20 k20
 have F21:=bu (st:=dm) l21 c21 k21
 have F22:=bu (st:=dC) l22 c22 k22
 have F23:=bu (st:=cv) l23 c23 k23
 have F24:=bu (st:=fB) l24 c24 k24
 have F25:=bu (st:=eE) l25 c25 k25
 have F26:=bu (st:=dA) l26 c26 k26
 have F27:=bu (st:=cy) l27 c27 k27
 have F28:=bu (st:=dD) l28 c28 k28
 have F29:=bu (st:=dh) l29 c29 k29
 have F30:=bu (st:=cf) l30 c30 k30
 have F31:=bu (st:=bK) l31 c31 k31
 have F32:=bu (st:=dF) l32 c32 k32
 have F33:=bu (st:=bO) l33 c33 k33
 have F34:=bu (st:=cj) l34 c34 k34
 have F35:=bu (st:=cA) l35 c35 k35
 have F36:=bu (st:=nq) l36 c36 k36
 refine⟨⟨f0,_,f1,_,f2,_,f3,_,f4,_,f5,_,f6,_,f7,_,f8,_,f9,_,f10,_,f11,_,f12,_,f13,_,f14,_,f15,_,f16,_,f17,_,f18,_,f19,_,f20,_,f21,_,f22,_,f23,_,f24,_,f25,_,f26,_,f27,_,f28,_,f29,_,f30,_,f31,_,f32,_,f33,_,f34,_,f35,_,f36,_,ca_Table⟩,⟨PySem.W.mg_of X G cm_Table,F0,PySem.W.mg_of X G a0,F0.binds λ_ _ _ _ _ _ us hl=>(by obtain⟨_,rfl⟩:=nw hl;rfl),F1,PySem.W.mg_of X G a1,F1.binds λ_ _ _ _ _ _ us hl=>(by obtain⟨_,_,rfl⟩:=kQ hl;rfl),F2,PySem.W.mg_of X G a2,F2.binds λ_ _ _ _ _ _ us hl=>(by obtain⟨_,rfl⟩:=nw hl;rfl),F3,PySem.W.mg_of X G a3,F3.binds λ_ _ _ _ _ _ us hl=>(by obtain⟨_,rfl⟩:=nw hl;rfl),F4,PySem.W.mg_of X G a4,F4.binds λ_ _ _ _ _ _ us hl=>(by obtain⟨_,_,rfl⟩:=kQ hl;rfl),F5,PySem.W.mg_of X G a5,F5.binds λ_ _ _ _ _ _ us hl=>(by obtain⟨_,_,rfl⟩:=kQ hl;rfl),F6,PySem.W.mg_of X G a6,F6.binds λ_ _ _ _ _ _ us hl=>(by obtain⟨_,_,_,_,rfl⟩:=u9 hl;rfl),F7,PySem.W.mg_of X G a7,F7.binds λ_ _ _ _ _ _ us hl=>(by obtain⟨_,_,_,_,rfl⟩:=u9 hl;rfl),F8,PySem.W.mg_of X G a8,F8.binds λ_ _ _ _ _ _ us hl=>(by obtain⟨_,_,_,_,_,_,rfl⟩:=BZ hl;rfl),F9,PySem.W.mg_of X G a9,F9.binds λ_ _ _ _ _ _ us hl=>(by obtain⟨_,_,_,rfl⟩:=wS hl;rfl),F10,PySem.W.mg_of X G a10,F10.binds λ_ _ _ _ _ _ us hl=>(by obtain⟨_,_,_,_,rfl⟩:=u9 hl;rfl),F11,F11.binds λ_ _ _ _ _ _ us hl=>(by obtain⟨_,_,_,_,rfl⟩:=u9 hl;rfl),⟨mk0_Table,a11,mk2_Table,mk3_Table⟩,⟨cl0_Table,cl1_Table,cl2_Table,cl3_Table⟩,List.forall_mem_cons.mpr ⟨na0_Table,List.forall_mem_cons.mpr ⟨na1_Table,List.forall_mem_cons.mpr ⟨na2_Table,List.forall_mem_cons.mpr ⟨na3_Table,List.forall_mem_cons.mpr ⟨na4_Table,List.forall_mem_cons.mpr ⟨na5_Table,λ_ h=>nomatch h⟩⟩⟩⟩⟩⟩,F12,PySem.W.mg_of X G a12,F12.binds λ_ _ _ _ _ _ us hl=>(by obtain⟨_,_,_,rfl⟩:=wS hl;rfl),F13,PySem.W.mg_of X G a13,F13.binds λ_ _ _ _ _ _ us hl=>(by obtain⟨_,rfl⟩:=nw hl;rfl),F14,PySem.W.mg_of X G a14,F14.binds λ_ _ _ _ _ _ us hl=>(by obtain⟨_,_,rfl⟩:=kQ hl;rfl),F15,PySem.W.mg_of X G a15,F15.binds λ_ _ _ _ _ _ us hl=>(by obtain⟨_,_,rfl⟩:=kQ hl;rfl),F16,PySem.W.mg_of X G a16,F16.binds λ_ _ _ _ _ _ us hl=>(by obtain⟨_,_,_,rfl⟩:=wS hl;rfl),F17,PySem.W.mg_of X G a17,F17.binds λ_ _ _ _ _ _ us hl=>(by obtain⟨_,rfl⟩:=nw hl;rfl),F18,PySem.W.mg_of X G a18,F18.binds λ_ _ _ _ _ _ us hl=>(by obtain⟨_,_,_,_,rfl⟩:=u9 hl;rfl),F19,PySem.W.mg_of X G a19,F19.binds λ_ _ _ _ _ _ us hl=>(by obtain⟨_,_,_,rfl⟩:=wS hl;rfl),F20,PySem.W.mg_of X G a20,F20.binds λ_ _ _ _ _ _ us hl=>(by obtain⟨_,_,rfl⟩:=kQ hl;rfl),F21,PySem.W.mg_of X G a21,F21.binds λ_ _ _ _ _ _ us hl=>(by obtain⟨_,rfl⟩:=nw hl;rfl),F22,PySem.W.mg_of X G a22,F22.binds λ_ _ _ _ _ _ us hl=>(by obtain⟨_,rfl⟩:=nw hl;rfl),F23,PySem.W.mg_of X G a23,F23.binds λ_ _ _ _ _ _ us hl=>(by obtain⟨_,rfl⟩:=nw hl;rfl),F24,PySem.W.mg_of X G a24,F24.binds λ_ _ _ _ _ _ us hl=>(by obtain⟨_,_,_,rfl⟩:=wS hl;rfl),F25,PySem.W.mg_of X G a25,F25.binds λ_ _ _ _ _ _ us hl=>(by obtain⟨_,_,rfl⟩:=kQ hl;rfl),F26,PySem.W.mg_of X G a26,F26.binds λ_ _ _ _ _ _ us hl=>(by obtain⟨_,_,rfl⟩:=kQ hl;rfl),F27,PySem.W.mg_of X G a27,F27.binds λ_ _ _ _ _ _ us hl=>(by obtain⟨_,rfl⟩:=nw hl;rfl),F28,PySem.W.mg_of X G a28,F28.binds λ_ _ _ _ _ _ us hl=>(by obtain⟨_,_,rfl⟩:=kQ hl;rfl),F29,PySem.W.mg_of X G a29,F29.binds λ_ _ _ _ _ _ us hl=>(by obtain⟨_,rfl⟩:=nw hl;rfl),F30,PySem.W.mg_of X G a30,F30.binds λ_ _ _ _ _ _ us hl=>(by obtain⟨_,_,rfl⟩:=kQ hl;rfl),F31,PySem.W.mg_of X G a31,F31.binds λ_ _ _ _ _ _ us hl=>(by obtain⟨_,_,_,_,rfl⟩:=u9 hl;rfl),F32,PySem.W.mg_of X G a32,F32.binds λ_ _ _ _ _ _ us hl=>(by obtain⟨_,_,rfl⟩:=kQ hl;rfl),F33,PySem.W.mg_of X G a33,F33.binds λ_ _ _ _ _ _ us hl=>(by obtain⟨_,_,rfl⟩:=kQ hl;rfl),F34,PySem.W.mg_of X G a34,F34.binds λ_ _ _ _ _ _ us hl=>(by obtain⟨_,_,rfl⟩:=kQ hl;rfl),F35,PySem.W.mg_of X G a35,F35.binds λ_ _ _ _ _ _ us hl=>(by obtain⟨_,_,rfl⟩:=kQ hl;rfl),F36,PySem.W.mg_of X G a36,F36.binds λ_ _ _ _ _ _ us hl=>(by obtain⟨_,rfl⟩:=nw hl;rfl),PySem.W.mg_none_of X G z_abs,PySem.W.mg_none_of X G z_all,PySem.W.mg_none_of X G z_any,PySem.W.mg_none_of X G z_bool,PySem.W.mg_none_of X G z_enumerate,PySem.W.mg_none_of X G z_int,PySem.W.mg_none_of X G z_isinstance,PySem.W.mg_none_of X G z_len,PySem.W.mg_none_of X G z_list,PySem.W.mg_none_of X G z_min,PySem.W.mg_none_of X G z_range,PySem.W.mg_none_of X G z_str,PySem.W.mg_none_of X G z_sum,PySem.W.mg_none_of X G z_tuple,PySem.W.mg_none_of X G z_zip⟩,rfl⟩
theorem txt_ex {K:PySem.W.Frag}{mg:Str->Option Value}{f:Addr} (h:∃ t,Txt K mg t/\t.f36=f):∃ t,Txt K mg t:=let ⟨t,a,_⟩:=h;⟨t,a⟩
theorem walk {l:PySem.W.OpenLaw}{q:Program}{loose:List Str}{XP:(Str->Option Value)->Heap->Prop}{YP:World->Heap->Prop}{d:DefRec}{K:Params->PySem.W.Frag} (hn:l.most=some 63) (hdf:d.params.defaults=[])
  (hY:∀ (w:World) (h:Heap),YP w h->(K w.params).In h)
  (F:∀ (w:World) (mg:Str->Option Value) (fa:Addr) (h:Heap),(K w.params).In h->h.Ns mainGlobals mg->mg d.name=some (.ref fa)->
    ∃ fd:FuncData,(∀ (s:Shared) (u:Value),BindsTo s fd ⟨[u],[]⟩ [("_law_script",u)])/\∀ base:Heap,(K w.params).In base->base.Ns mainGlobals mg->bV l.prog w (K w.params) mg base CX0 5 fa fd ["_law_script"] (spI (K w.params) rq)) :
  PySem.W.WalkO q loose XP YP l.row.toRowW d [] (λf vs=>PySem.call f vs):=
 L2.walk_of (n:=63) (k:=5) (x:="_law_script") (CX:=λ_=>CX0) (sp:=λw=>spI (K w.params) rq) hn (by decide) hdf ⟨rfl,by decide,by decide,rfl⟩ hY F (λ_ _ a ns hl hO hS=>yE hO hS (wJ ns hl)) λ_ _ _ _ _ z=>z
theorem law_mk {l:PySem.W.OpenLaw}{w:World}{K:PySem.W.Frag}{h:Heap}{mg:Str->Option Value}{fa:Addr} (hfa:mg "law" = some (.ref fa)) (T0:∃ t,Txt K mg t) :
  ∃ fd:FuncData,(∀ (s:Shared) (v:Value),BindsTo s fd ⟨[v],[]⟩ [("_law_script",v)])/\∀ base:Heap,K.In base->base.Ns mainGlobals mg->bV l.prog w K mg base CX0 5 fa fd ["_law_script"] (spI K rq):=by
 obtain⟨t,T⟩:=T0
 have e:=hfa.symm.trans T.m36
 cases e
 refine⟨t.g36,λs v=>?_,λbase _ _=>zo T⟩
 obtain⟨oc,od,kV,doc,pm,an,cdv,ct,osl,e,_⟩:=T.F36.ex
 rw [e]
 exact .of_eq rfl
end Own
theorem PySem.W.Fast.tw16436273465362761090:True:=trivial
theorem PySem.W.Fast.tw3309646584248725832:True:=trivial
theorem PySem.W.Fast.tw1417554737511286901:True:=trivial
theorem PySem.W.Fast.tw3708365252764114084:True:=trivial
theorem PySem.W.Fast.tw6009221992976981760:True:=trivial
theorem PySem.W.Fast.tw2672517990017652237:True:=trivial
theorem PySem.W.Fast.tw10467349862650817754:True:=trivial
theorem PySem.W.Fast.tw11538095989193583052:True:=trivial
theorem PySem.W.Fast.tw7500600295076331854:True:=trivial
theorem PySem.W.Fast.tw5967585119408636668:True:=trivial
theorem PySem.W.Fast.tw14666100165886140769:True:=trivial
theorem PySem.W.Fast.tw13893476827150269296:True:=trivial
theorem PySem.W.Fast.tw16964585396727045795:True:=trivial
theorem PySem.W.Fast.tw2528090844177054593:True:=trivial
theorem PySem.W.Fast.tw8272564412500735084:True:=trivial
theorem PySem.W.Fast.tw5483694623424456577:True:=trivial
theorem PySem.W.Fast.tw2889938069219319522:True:=trivial
theorem PySem.W.Fast.tw13566658545910694381:True:=trivial
theorem PySem.W.Fast.tw5119475612928748028:True:=trivial
theorem PySem.W.Fast.tw7752386447752012187:True:=trivial
theorem PySem.W.Fast.tw2348330309706973146:True:=trivial
theorem PySem.W.Fast.tw14448517103906170293:True:=trivial
theorem PySem.W.Fast.tw1621411430759135496:True:=trivial
theorem PySem.W.Fast.tw7938611694985932670:True:=trivial
theorem PySem.W.Fast.tw13814667811877260077:True:=trivial
theorem PySem.W.Fast.tw2895624616908575800:True:=trivial
theorem PySem.W.Fast.tw11728444477914407811:True:=trivial
theorem PySem.W.Fast.tw2371911957868849176:True:=trivial
theorem PySem.W.Fast.tw3485094818587158978:True:=trivial
theorem PySem.W.Fast.tw10353205026718181037:True:=trivial
theorem PySem.W.Fast.tw16898167911462211995:True:=trivial
theorem PySem.W.Fast.tw15853504163560566102:True:=trivial
theorem PySem.W.Fast.tw16699612082967138530:True:=trivial
theorem PySem.W.Fast.tw1490443713566434563:True:=trivial
theorem PySem.W.Fast.tw9748014844494464906:True:=trivial
theorem PySem.W.Fast.tw9112933551952402001:True:=trivial
theorem PySem.W.Fast.tw7170849178183867548:True:=trivial
theorem PySem.W.Fast.tw15706879652017984831:True:=trivial
theorem PySem.W.Fast.tw4005549788477117478:True:=trivial
theorem PySem.W.Fast.tw827193722752087513:True:=trivial
theorem PySem.W.Fast.tw2077892272168313578:True:=trivial
theorem PySem.W.Fast.tw11479796349915557262:True:=trivial
theorem PySem.W.Fast.tw4941421576510503255:True:=trivial
theorem PySem.W.Fast.tw833646400993457682:True:=trivial
theorem PySem.W.Fast.tw4579815932915319810:True:=trivial
theorem PySem.W.Fast.tw8933635188078081243:True:=trivial
theorem PySem.W.Fast.tw5131177472544554141:True:=trivial
theorem PySem.W.Fast.tw11330045781710059515:True:=trivial
theorem PySem.W.Fast.tw10281996321834196753:True:=trivial
theorem PySem.W.Fast.tw13981974703278898802:True:=trivial
theorem PySem.W.Fast.tw12629568540510238943:True:=trivial
theorem PySem.W.Fast.tw6868139079587092563:True:=trivial
theorem PySem.W.Fast.tw6332635514461220674:True:=trivial
theorem PySem.W.Fast.tw13719770729957034805:True:=trivial
theorem PySem.W.Fast.tw10849298378582647065:True:=trivial
theorem PySem.W.Fast.tw10825146421003109798:True:=trivial
theorem PySem.W.Fast.tw7464827906714826137:True:=trivial
theorem PySem.W.Fast.tw1715791587180072361:True:=trivial
theorem PySem.W.Fast.tw12898669645301691369:True:=trivial
theorem PySem.W.Fast.tw3478573260786683682:True:=trivial
theorem PySem.W.Fast.tw10041442157620064973:True:=trivial
theorem PySem.W.Fast.tw7966275158848086784:True:=trivial
theorem PySem.W.Fast.tw4067458663200712999:True:=trivial
theorem PySem.W.Fast.tw2891551490609030255:True:=trivial
theorem PySem.W.Fast.tw13308197738792912239:True:=trivial
theorem PySem.W.Fast.tw17797253249449935885:True:=trivial
theorem PySem.W.Fast.tw877534347822793479:True:=trivial
theorem PySem.W.Fast.tw11935685882864213459:True:=trivial
theorem PySem.W.Fast.tw13934395524620016919:True:=trivial
theorem PySem.W.Fast.tw18399436789970825404:True:=trivial
theorem PySem.W.Fast.tw3150407709323670133:True:=trivial
theorem PySem.W.Fast.tw4121746368593090273:True:=trivial
theorem PySem.W.Fast.tw1827199093471789887:True:=trivial
theorem PySem.W.Fast.tw2802501753274296313:True:=trivial
theorem PySem.W.Fast.tw7237457424503506844:True:=trivial
theorem PySem.W.Fast.tw10537837029066009730:True:=trivial
theorem PySem.W.Fast.tw3338307874209416391:True:=trivial
theorem PySem.W.Fast.tw10073043093280685103:True:=trivial
theorem PySem.W.Fast.tw5958674323757263458:True:=trivial
open PySem PySem.W PyProof.Rows
set_option maxRecDepth 100000 in
set_option maxHeartbeats 0 in
theorem PySem.Challenge.cw_signpoly_k26_most_looked_at_holds : PySem.Challenge.rw_signpoly_k26_most_looked_at.Holds := by
 w_on;o_law;k_head;(case hw=>w_witness2)
 k_fill
 refine Own.walk (l:=PySem.Challenge.rw_signpoly_k26_most_looked_at) rfl rfl (λw h Y=>PySem.W.kIn_of Y) ?F
 case F=>
  intro w mg fa h KX G hmg
  refine Own.law_mk (h:=h) hmg ?T
  case T=>
   refine' Own.txt_ex (Own.txt_mk KX G ?a0 ?l0 ?c0 ?k0 ?a1 ?l1 ?c1 ?k1 ?a2 ?l2 ?c2 ?k2 ?a3 ?l3 ?c3 ?k3 ?a4 ?l4 ?c4 ?k4 ?a5 ?l5 ?c5 ?k5 ?a6 ?l6 ?c6 ?k6 ?a7 ?l7 ?c7 ?k7 ?a8 ?l8 ?c8 ?k8 ?a9 ?l9 ?c9 ?k9 ?a10 ?l10 ?c10 ?k10 ?cm_Table ?a11 ?l11 ?c11 ?k11 ?a12 ?l12 ?c12 ?k12 ?a13 ?l13 ?c13 ?k13 ?a14 ?l14 ?c14 ?k14 ?a15 ?l15 ?c15 ?k15 ?a16 ?l16 ?c16 ?k16 ?a17 ?l17 ?c17 ?k17 ?a18 ?l18 ?c18 ?k18 ?a19 ?l19 ?c19 ?k19 ?a20 ?l20 ?c20 ?k20 ?a21 ?l21 ?c21 ?k21 ?a22 ?l22 ?c22 ?k22 ?a23 ?l23 ?c23 ?k23 ?a24 ?l24 ?c24 ?k24 ?a25 ?l25 ?c25 ?k25 ?a26 ?l26 ?c26 ?k26 ?a27 ?l27 ?c27 ?k27 ?a28 ?l28 ?c28 ?k28 ?a29 ?l29 ?c29 ?k29 ?a30 ?l30 ?c30 ?k30 ?a31 ?l31 ?c31 ?k31 ?a32 ?l32 ?c32 ?k32 ?a33 ?l33 ?c33 ?k33 ?a34 ?l34 ?c34 ?k34 ?a35 ?l35 ?c35 ?k35 ?a36 ?l36 ?c36 ?k36 ?z_abs ?z_all ?z_any ?z_bool ?z_enumerate ?z_int ?z_isinstance ?z_len ?z_list ?z_min ?z_range ?z_str ?z_sum ?z_tuple ?z_zip ?mk0_Table ?mk2_Table ?mk3_Table ?cl0_Table ?cl1_Table ?cl2_Table ?cl3_Table ?na0_Table ?na1_Table ?na2_Table ?na3_Table ?na4_Table ?na5_Table)
   case a0=>k_is
   case l0=>k_is
   case c0=>k_is
   case k0=>k_is
   case a1=>k_is
   case l1=>k_is
   case c1=>k_is
   case k1=>k_is
   case a2=>k_is
   case l2=>k_is
   case c2=>k_is
   case k2=>k_is
   case a3=>k_is
   case l3=>k_is
   case c3=>k_is
   case k3=>k_is
   case a4=>k_is
   case l4=>k_is
   case c4=>k_is
   case k4=>k_is
   case a5=>k_is
   case l5=>k_is
   case c5=>k_is
   case k5=>k_is
   case a6=>k_is
   case l6=>k_is
   case c6=>k_is
   case k6=>k_is
   case a7=>k_is
   case l7=>k_is
   case c7=>k_is
   case k7=>k_is
   case a8=>k_is
   case l8=>k_is
   case c8=>k_is
   case k8=>k_is
   case a9=>k_is
   case l9=>k_is
   case c9=>k_is
   case k9=>k_is
   case a10=>k_is
   case l10=>k_is
   case c10=>k_is
   case k10=>k_is
   case cm_Table=>k_is
   case a11=>k_is
   case l11=>k_is
   case c11=>k_is
   case k11=>k_is
   case a12=>k_is
   case l12=>k_is
   case c12=>k_is
   case k12=>k_is
   case a13=>k_is
   case l13=>k_is
   case c13=>k_is
   case k13=>k_is
   case a14=>k_is
   case l14=>k_is
   case c14=>k_is
   case k14=>k_is
   case a15=>k_is
   case l15=>k_is
   case c15=>k_is
   case k15=>k_is
   case a16=>k_is
   case l16=>k_is
   case c16=>k_is
   case k16=>k_is
   case a17=>k_is
   case l17=>k_is
   case c17=>k_is
   case k17=>k_is
   case a18=>k_is
   case l18=>k_is
   case c18=>k_is
   case k18=>k_is
   case a19=>k_is
   case l19=>k_is
   case c19=>k_is
   case k19=>k_is
   case a20=>k_is
   case l20=>k_is
   case c20=>k_is
   case k20=>k_is
   case a21=>k_is
   case l21=>k_is
   case c21=>k_is
   case k21=>k_is
   case a22=>k_is
   case l22=>k_is
   case c22=>k_is
   case k22=>k_is
   case a23=>k_is
   case l23=>k_is
   case c23=>k_is
   case k23=>k_is
   case a24=>k_is
   case l24=>k_is
   case c24=>k_is
   case k24=>k_is
   case a25=>k_is
   case l25=>k_is
   case c25=>k_is
   case k25=>k_is
   case a26=>k_is
   case l26=>k_is
   case c26=>k_is
   case k26=>k_is
   case a27=>k_is
   case l27=>k_is
   case c27=>k_is
   case k27=>k_is
   case a28=>k_is
   case l28=>k_is
   case c28=>k_is
   case k28=>k_is
   case a29=>k_is
   case l29=>k_is
   case c29=>k_is
   case k29=>k_is
   case a30=>k_is
   case l30=>k_is
   case c30=>k_is
   case k30=>k_is
   case a31=>k_is
   case l31=>k_is
   case c31=>k_is
   case k31=>k_is
   case a32=>k_is
   case l32=>k_is
   case c32=>k_is
   case k32=>k_is
   case a33=>k_is
   case l33=>k_is
   case c33=>k_is
   case k33=>k_is
   case a34=>k_is
   case l34=>k_is
   case c34=>k_is
   case k34=>k_is
   case a35=>k_is
   case l35=>k_is
   case c35=>k_is
   case k35=>k_is
   case a36=>k_is
   case l36=>k_is
   case c36=>k_is
   case k36=>k_is
   case z_abs=>k_is
   case z_all=>k_is
   case z_any=>k_is
   case z_bool=>k_is
   case z_enumerate=>k_is
   case z_int=>k_is
   case z_isinstance=>k_is
   case z_len=>k_is
   case z_list=>k_is
   case z_min=>k_is
   case z_range=>k_is
   case z_str=>k_is
   case z_sum=>k_is
   case z_tuple=>k_is
   case z_zip=>k_is
   case mk0_Table=>kernel_rfl
   case mk2_Table=>kernel_rfl
   case mk3_Table=>kernel_rfl
   case cl0_Table=>kernel_rfl
   case cl1_Table=>kernel_rfl
   case cl2_Table=>kernel_rfl
   case cl3_Table=>kernel_rfl
   case na0_Table=>kernel_rfl
   case na1_Table=>kernel_rfl
   case na2_Table=>kernel_rfl
   case na3_Table=>kernel_rfl
   case na4_Table=>kernel_rfl
   case na5_Table=>kernel_rfl
