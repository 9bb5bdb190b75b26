import PyProof.Rows.All
import Wide.All
import OpenK.AllK
import Wide.FinOn
import Lean
import PyProof.EqAt
import PyProof.EqKinds
import PyProof.TupleCall
import PyProof.ListRange
import PyProof.NeKinds
import KE.KUnpack
import KE.KSortTup
import PyProof.ZipIter
import PyProof.Rows.CallKwBuiltin
import PySem.Challenge.RW_signpoly_k60_weights_by_counts
set_option Elab.async false
set_option linter.all false
set_option maxRecDepth 100000
set_option genSizeOf false
noncomputable section
namespace L2
open PySem PySem.Spec PyProof.Rows
abbrev Key:=Sum Int Str
noncomputable def xP:Key->Value->Bool
 | .inl k,v=>Value.isInt k v
 | .inr x,v=>Value.isStrOf x v
noncomputable def AL (w:World):Key->Int
 | .inl k=>hashInt k
 | .inr x=>hashStr w x
theorem bZ:∀ {k:Key}{v:Value},xP k v=true->(∃ i t,k=Sum.inl i/\v=Value.int i t)\/(∃ x t,k=Sum.inr x/\v=Value.str x t)
 | .inl i,v,h=>by
  obtain⟨t,e⟩:=Value.isInt_shape (k:=i) (v:=v) h
  exact .inl ⟨i,t,rfl,e⟩
 | .inr x,v,h=>by
  obtain⟨t,e⟩:=Value.isStrOf_shape (x:=x) (v:=v) h
  exact .inr ⟨x,t,rfl,e⟩
theorem yF (a b:Int):decide ((Sum.inl a:Key)=Sum.inl b)=(a==b):=by
 by_cases e:a=b
 ·subst e;simp
 ·have h:¬ (Sum.inl a:Key)=Sum.inl b:=λq=>e (Sum.inl.inj q)
  rw [decide_eq_false h]
  exact (beq_eq_false_iff_ne.mpr e).symm
theorem zG (a b:Str):decide ((Sum.inr a:Key)=Sum.inr b)=decide (a=b):=by
 by_cases e:a=b
 ·subst e;simp
 ·have h:¬ (Sum.inr a:Key)=Sum.inr b:=λq=>e (Sum.inr.inj q)
  rw [decide_eq_false h,decide_eq_false e]
theorem xZ (a:Int) (b:Str):decide ((Sum.inl a:Key)=Sum.inr b)=false:=decide_eq_false (λq=>nomatch q)
theorem zq (a:Str) (b:Int):decide ((Sum.inr a:Key)=Sum.inl b)=false:=decide_eq_false (λq=>nomatch q)
noncomputable def nk (prog:Program) (w:World):PySem.KeyKind prog w Key where
 is:=xP
 hash:=AL w
 inj:=λv a b ha hb=>by
  rcases bZ ha with⟨i,t,rfl,rfl⟩ | ⟨x,t,rfl,rfl⟩
  ·rcases bZ hb with⟨j,u,rfl,e⟩ | ⟨y,u,rfl,e⟩
   ·injection e with e1 _;rw [e1]
   ·exact nomatch e
  ·rcases bZ hb with⟨j,u,rfl,e⟩ | ⟨y,u,rfl,e⟩
   ·exact nomatch e
   ·injection e with e1 _;rw [e1]
 byValue:=λk v h=>by
  rcases bZ h with⟨i,t,rfl,rfl⟩ | ⟨x,t,rfl,rfl⟩<;>rfl
 pyHash:=λhv h=>by
  rcases bZ hv with⟨i,t,rfl,rfl⟩ | ⟨x,t,rfl,rfl⟩
  ·exact wpAny_pyHash_int h
  ·exact wpAny_pyHash_str h
 eqBool:=λhu hv h=>by
  rcases bZ hu with⟨i,t,rfl,rfl⟩ | ⟨x,t,rfl,rfl⟩
  ·rcases bZ hv with⟨j,u,rfl,rfl⟩ | ⟨y,u,rfl,rfl⟩
   ·rw [yF] at h;exact wpAny_eqBool_int h
   ·rw [xZ] at h;exact SeqAt.EqAt.int_str i t y u _ _ _ _ h
  ·rcases bZ hv with⟨j,u,rfl,rfl⟩ | ⟨y,u,rfl,rfl⟩
   ·rw [zq] at h;exact SeqAt.EqAt.str_int x t j u _ _ _ _ h
   ·rw [zG] at h;exact wpAny_eqBool_str h
 «strs»:=λk x t v h=>by
  rcases bZ h with⟨i,u,rfl,e⟩ | ⟨y,u,rfl,e⟩
  ·exact nomatch e
  ·injection e with e1 _
   subst e1
   cases v<;>rfl
end L2
namespace L2
open PySem PySem.Spec PyProof.Rows
inductive V where
 | non | bl (b:Bool) | int (i:Int) | str (x:Str) | byt (b:Array UInt8) | flt (b:UInt64) | ref (a:Addr) | ty (n:String)
 deriving DecidableEq
noncomputable def aX:V->Value->Prop
 | .non,u=>u=Value.none
 | .bl b,u=>u=Value.bool b
 | .int i,u=>∃ t,u=Value.int i t
 | .str x,u=>∃ t,u=Value.str x t
 | .byt b,u=>∃ t,u=Value.bytes b t
 | .flt b,u=>∃ t,u=Value.float b t
 | .ref a,u=>u=Value.ref a
 | .ty n,u=>u=Value.type n
abbrev aK:List V->List Value->Prop:=Paired aX
theorem aK.length {xs:List V}{us:List Value} (r:aK xs us):xs.length=us.length:=Paired.length r
theorem aK.get:∀ {xs:List V}{us:List Value}{i:Nat}{x:V},aK xs us->xs[i]?=some x->∃ u,us[i]?=some u/\aX x u
 | _,_,_,_,.nil,e=>by simp at e
 | _,_,0,_,.cons r _,e=>by simp at e;subst e;exact⟨_,rfl,r⟩
 | _,_,i+1,x,.cons _ t,e=>by
  obtain⟨u,h1,h2⟩:=aK.get (i:=i) (x:=x) t (by simpa using e)
  exact⟨u,by simpa using h1,h2⟩
theorem aK.set {x:V}{u:Value} (r:aX x u):∀ {xs:List V}{us:List Value} (i:Nat),aK xs us->aK (xs.set i x) (us.set i u)
 | _,_,_,.nil=>.nil
 | _,_,0,.cons _ t=>.cons r t
 | _,_,i+1,.cons q t=>.cons q (aK.set r i t)
theorem aK.append:∀ {xs ys:List V}{us ws:List Value},aK xs us->aK ys ws->aK (xs++ys) (us++ws)
 | _,_,_,_,.nil,s=>s
 | _,_,_,_,.cons r t,s=>.cons r (aK.append t s)
theorem aK.take:∀ {xs:List V}{us:List Value} (n:Nat),aK xs us->aK (xs.take n) (us.take n)
 | _,_,0,_=>.nil
 | _,_,_+1,.nil=>.nil
 | _,_,n+1,.cons r t=>.cons r (aK.take n t)
theorem aK.drop:∀ {xs:List V}{us:List Value} (n:Nat),aK xs us->aK (xs.drop n) (us.drop n)
 | _,_,0,r=>r
 | _,_,_+1,.nil=>.nil
 | _,_,n+1,.cons _ t=>aK.drop n t
noncomputable def yI:Option V->Option Value->Prop
 | some v,some u=>aX v u
 | none,none=>True
 | _,_=>False
noncomputable def KV {κ:Type}:List (κ×V)->List (κ×Value)->Prop:=Paired λ(p:κ×V) (q:κ×Value)=>p.1=q.1/\aX p.2 q.2
noncomputable def kV:Key->V
 | .inl i=>.int i
 | .inr x=>.str x
inductive HO where
 | lst (xs:List V)
 | tup (xs:List V)
 | dK (kvs:List (Key×V)) | dT (kvs:List (List Key×V))
 | set (S:Int->Bool) (n:Nat)
 | ins (C dx:Addr) (fs:List (Str×V))
 | own (x:Addr)
 | xd (fs:List (Str×V))
 | met (f x:Addr)
 | rng (lo hi:Int)
 | frz (o:Obj) (u:HO)
 | tbl (ps:Array Value)
 | ext (φ:Heap->Prop)
abbrev Hp:=Addr->Option HO
noncomputable def upd (H:Hp) (a:Addr) (o:HO):Hp:=λb=>if b=a then some o else H b
theorem aW {H:Hp}{a:Addr}{o:HO}:upd H a o a=some o:=by unfold upd;rw [if_pos rfl]
theorem aF {H:Hp}{a b:Addr}{o:HO} (h:b≠a):upd H a o b=H b:=by unfold upd;rw [if_neg h]
theorem aG {H:Hp}{a b:Addr}{o:HO} (h:H a=some o) (h':H b=none):a≠b:=by
 intro e;subst e;rw [h] at h';cases h'
noncomputable def di (h:Heap) (a:Addr) (its:Array Value):Prop:=∃ o:Obj,h.get? a=some o/\o.cls=.type "tuple"/\(∃ n,o.data=.seq its n)/\o.dict=none
theorem di.tup {h:Heap}{a:Addr}{its:Array Value} (x:di h a its):IsTup h a its:=let ⟨o,e,c,n,_⟩:=x;⟨o,e,c,n⟩
theorem di.new (h:Heap) (its:Array Value):di (h.push { cls:=.type "tuple",data:=.seq its }) h.objs.size its:=⟨_,Heap.get?_push_size _ rfl,rfl,⟨_,rfl⟩,rfl⟩
section
variable (P:Program) (w:World)
noncomputable def cv (H:Hp) (h:Heap) (a:Addr):HO->Prop
 | .lst xs=>xs.length<=sizeLine/\∃ (its:List Value) (n:Nat),aK xs its/\h.get? a=some { cls:=.type "list",data:=.seq its.toArray n }
 | .tup xs=>xs.length<=sizeLine/\∃ its:List Value,aK xs its/\di h a its.toArray
 | .dK kvs=>kvs.length<=sizeLine/\(a==sysModules)=false/\∃ vs,KV kvs vs/\h.DictOf (nk P w) a vs
 | .dT kvs=>kvs.length<=sizeLine/\(a==sysModules)=false/\∃ xs:List (List Key×Addr×Value),
   Paired (λ(p:List Key×V) (q:List Key×Addr×Value)=>p.1=q.1/\H q.2.1=some (.tup (p.1.map kV))/\aX p.2 q.2.2) kvs xs/\
   ∃ o es ep,h.get? a=some o/\o.ExactDict/\o.data=.dict es ep/\es.toList=xs.map (entryOfKey (tupleKind (nk P w)))/\(xs.map (·.1)).Nodup
 | .set S n=>h.SetOf (intKind P w) a S n
 | .ins C dx fs=>H dx=some (.own a)/\fs.length<=1000/\dx≠a/\h.get? a=some (PySem.W.instObj C dx)/\
   ∃ mA,h.Ns1 dx mA/\(∀ f,yI (fs.lookup f) (mA f))/\PySem.Within mA (fs.map (·.1))
 | .own _=>∃ o,h.get? a=some o
 | .xd fs=>∃ mA,h.Ns1 a mA/\∀ f,yI (fs.lookup f) (mA f)
 | .rng lo hi=>∃ t u v,h.get? a=some { cls:=.type "range",data:=.fields #[.int lo t,.int hi u,.int 1 v] }
 | .frz o u=>h.get? a=some o/\cv H h a u
 | .tbl ps=>h.get? a=some { cls:=.none,data:=.fields ps }
 | .met f x=>h.get? a=some (PySem.W.methodObj (.ref f) (.ref x))
 | .ext φ=>φ h/\(∃ o,h.get? a=some o)/\∀ h1 h2:Heap,φ h1->(∀ o,h1.get? a=some o->h2.get? a=some o)->φ h2
noncomputable def HOk (H:Hp) (h:Heap):Prop:=∀ a o,H a=some o->cv P w H h a o
end
section
variable {P:Program}{w:World}{H H':Hp}{h h':Heap}{a:Addr}{o:HO}
theorem cv.lt (x:cv P w H h a o):a < h.objs.size:=by
 cases o with
 | lst xs=>obtain⟨_,_,_,_,e⟩:=x;exact Heap.lt_size e
 | tup xs=>obtain⟨_,_,_,p⟩:=x;exact p.tup.lt
 | dK kvs=>obtain⟨_,_,_,_,o,_,_,e,_⟩:=x;exact Heap.lt_size e
 | dT kvs=>obtain⟨_,_,_,_,o,_,_,e,_⟩:=x;exact Heap.lt_size e
 | set S n=>obtain⟨o,_,_,_,e,_⟩:=x;exact Heap.lt_size e
 | ins C dx fs=>obtain⟨_,_,_,e,_⟩:=x;exact Heap.lt_size e
 | own y=>obtain⟨_,e⟩:=x;exact Heap.lt_size e
 | xd fs=>obtain⟨_,⟨_,_,_,e,_⟩,_⟩:=x;exact Heap.lt_size e
 | rng lo hi=>obtain⟨_,_,_,e⟩:=x;exact Heap.lt_size e
 | frz ob u=>obtain⟨e,_⟩:=x;exact Heap.lt_size e
 | tbl ps=>exact Heap.lt_size (show h.get? a=some _ from x)
 | met f y=>exact Heap.lt_size (show h.get? a=some _ from x)
 | ext φ=>obtain⟨_,⟨_,e⟩,_⟩:=x;exact Heap.lt_size e
theorem Paired.mapP {α β:Type}{F G:α->β->Prop}:∀ {l₁:List α}{l₂:List β},Paired F l₁ l₂->(∀ a b,F a b->G a b)->Paired G l₁ l₂
 | _,_,.nil,_=>.nil
 | _,_,.cons r t,f=>.cons (f _ _ r) (Paired.mapP t f)
theorem cv.stay (x:cv P w H h a o) (k:∀ b u,(b=a\/H b=some (.own a))->h.get? b=some u->h'.get? b=some u)
  (ho:∀ b,H b=some (.own a)->H' b=some (.own a)) (ht:∀ b xs,H b=some (.tup xs)->H' b=some (.tup xs)):cv P w H' h' a o:=by
 induction o with
 | lst xs=>obtain⟨z,its,n,r,e⟩:=x;exact⟨z,its,n,r,k _ _ (.inl rfl) e⟩
 | tup xs=>obtain⟨z,its,r,ob,e,c⟩:=x;exact⟨z,its,r,ob,k _ _ (.inl rfl) e,c⟩
 | dK kvs=>obtain⟨z,y,vs,r,ob,es,ep,e,c⟩:=x;exact⟨z,y,vs,r,ob,es,ep,k _ _ (.inl rfl) e,c⟩
 | dT kvs=>
  obtain⟨z,y,xs,r,ob,es,ep,e,c⟩:=x
  exact⟨z,y,xs,Paired.mapP r λp q z=>⟨z.1,ht _ _ z.2.1,z.2.2⟩,ob,es,ep,k _ _ (.inl rfl) e,c⟩
 | set S n=>obtain⟨ob,es,ep,t,e,c⟩:=x;exact⟨ob,es,ep,t,k _ _ (.inl rfl) e,c⟩
 | ins C dx fs=>
  obtain⟨d,z,ne,e,mA,⟨od,es,ep,e2,c⟩,r⟩:=x
  exact⟨ho _ d,z,ne,k _ _ (.inl rfl) e,mA,⟨od,es,ep,k _ _ (.inr d) e2,c⟩,r⟩
 | own y=>obtain⟨ob,e⟩:=x;exact⟨ob,k _ _ (.inl rfl) e⟩
 | xd fs=>obtain⟨mA,⟨od,es,ep,e,c⟩,r⟩:=x;exact⟨mA,⟨od,es,ep,k _ _ (.inl rfl) e,c⟩,r⟩
 | rng lo hi=>obtain⟨t,u,v,e⟩:=x;exact⟨t,u,v,k _ _ (.inl rfl) e⟩
 | frz ob u ih=>obtain⟨e,q⟩:=x;exact⟨k _ _ (.inl rfl) e,ih q⟩
 | tbl ps=>
  have e:h.get? a=some { cls:=.none,data:=.fields ps }:=x
  show h'.get? a=some { cls:=.none,data:=.fields ps }
  exact k a _ (.inl rfl) e
 | met f y=>
  have e:h.get? a=some (PySem.W.methodObj (.ref f) (.ref y)):=x
  show h'.get? a=some (PySem.W.methodObj (.ref f) (.ref y))
  exact k a _ (.inl rfl) e
 | ext φ=>obtain⟨p,⟨o,e⟩,st⟩:=x;exact⟨st _ _ p λo q=>k _ _ (.inl rfl) q,⟨o,k _ _ (.inl rfl) e⟩,st⟩
theorem HOk.lt (x:HOk P w H h) (e:H a=some o):a < h.objs.size:=(x a o e).lt
theorem HOk.fresh (x:HOk P w H h) (e:h.objs.size<=a):H a=none:=by
 cases q:H a with
 | none=>rfl
 | some u=>exact absurd (Nat.lt_of_lt_of_le (x.lt q) e) (Nat.lt_irrefl _)
theorem HOk.kept (x:HOk P w H h) (k:∀ b u,h.get? b=some u->h'.get? b=some u):HOk P w H h':=λa o e=>
 (x a o e).stay (λb u _ q=>k b u q) (λ_ q=>q) λ_ _ q=>q
theorem HOk.laid (x:HOk P w H h) (k:∀ b u,h.get? b=some u->h'.get? b=some u) (hp:h.objs.size<=a) (new:cv P w (upd H a o) h' a o):HOk P w (upd H a o) h':=λb u e=>by
 have hn:=x.fresh hp
 by_cases hb:b=a
 ·subst hb;rw [aW] at e;cases e;exact new
 ·rw [aF hb] at e
  exact (x b u e).stay (λc v _ q=>k c v q) (λc q=>by rw [aF (aG q hn)];exact q) λc xs q=>by rw [aF (aG q hn)];exact q
end
noncomputable def Rd (H:Hp) (a:Addr) (u:HO):Prop:=H a=some u\/∃ o,H a=some (.frz o u)
theorem Rd.of {H:Hp}{a:Addr}{u:HO} (h:H a=some u):Rd H a u:=.inl h
theorem Rd.ok {P:Program}{w:World}{H:Hp}{h:Heap}{a:Addr}{u:HO} (r:Rd H a u) (x:HOk P w H h):cv P w H h a u:=by
 rcases r with r | ⟨o,r⟩
 ·exact x a u r
 ·obtain⟨_,q⟩:=x a _ r
  exact q
noncomputable def Mut:Option HO->Prop
 | some (.lst _)=>True
 | some (.dK _)=>True
 | some (.dT _)=>True
 | some (.set _ _)=>True
 | some (.ins _ _ _)=>True
 | some (.ext _)=>True
 | _=>False
section
variable {P:Program}{w:World}{H:Hp}{h h':Heap}{x e:Addr}{o':HO}
theorem HOk.write (ok:HOk P w H h) (mu:Mut (H x)) (he:e=x\/H e=some (.own x)) (k:∀ b u,b≠e->h.get? b=some u->h'.get? b=some u) (heo:∃ u,h'.get? e=some u)
  (new:cv P w (upd H x o') h' x o'):HOk P w (upd H x o') h':=λb u q=>by
 have nown:∀ c y,H c=some (.own y)->c≠x:=λc y r z=>by subst z;rw [r] at mu;exact mu
 have ntup:∀ c xs,H c=some (.tup xs)->c≠x:=λc xs r z=>by subst z;rw [r] at mu;exact mu
 by_cases hb:b=x
 ·subst hb;rw [aW] at q;cases q;exact new
 ·rw [aF hb] at q
  by_cases hbe:b=e
  ·have q':H b=some (.own x):=by
    rcases he with z | z
    ·exact absurd (hbe.trans z) hb
    ·rw [hbe];exact z
   rw [q] at q';cases q'
   obtain⟨v,hv⟩:=heo
   exact⟨v,by rw [hbe];exact hv⟩
  ·refine (ok b u q).stay (λc v hc r=>k c v ?_ r) (λc r=>by rw [aF (nown c b r)];exact r) λc xs r=>by rw [aF (ntup c xs r)];exact r
   rcases hc with rfl | hc
   ·exact hbe
   ·rintro rfl
    rcases he with z | z
    ·exact nown c b hc z
    ·rw [hc] at z;cases z;exact hb rfl
end
structure Un (fs ex:List Addr) (H H':Hp) (h h':Heap):Prop where
 keep:∀ b o,h.get? b=some o->H b=none->b ∉ fs->b ∉ ex->h'.get? b=some o
 slot:∀ b o,h.get? b=some o->H b=none->b ∈ fs->b ∉ ex->∃ sl,h'.get? b=some { o with slots:=sl }
 free:∀ b o,h.get? b=some o->H b=none->b ∉ ex->H' b=none
 there:∀ b o,h.get? b=some o->b ∉ ex->∃ o',h'.get? b=some o'
 tups:∀ b xs,H b=some (.tup xs)->H' b=some (.tup xs)
 frzs:∀ b o u,H b=some (.frz o u)->H' b=some (.frz o u)
 tbls:∀ b ps,H b=some (.tbl ps)->∃ more,H' b=some (.tbl (ps++more))
section
variable {fs fs' ex ex':List Addr}{H H1 H2:Hp}{h h1 h2 h':Heap}{a x e:Addr}{o:HO}
theorem Un.any (u:Un fs ex H H1 h h1) {b:Addr}{ob:Obj} (q:h.get? b=some ob) (n:H b=none) (hx:b ∉ ex):∃ sl,h1.get? b=some { ob with slots:=sl }:=by
 by_cases hb:b ∈ fs
 ·exact u.slot b ob q n hb hx
 ·exact⟨ob.slots,u.keep b ob q n hb hx⟩
theorem Un.kept (k:∀ b u,h.get? b=some u->h'.get? b=some u):Un fs ex H H h h':=
 ⟨λb ob q _ _ _=>k b ob q,λb ob q _ _ _=>⟨ob.slots,k b ob q⟩,λ_ _ _ n _=>n,λb ob q _=>⟨ob,k b ob q⟩,λ_ _ q=>q,λ_ _ _ q=>q,λ_ ps q=>⟨#[],by rw [q];simp⟩⟩
theorem Un.refl:Un fs ex H H h h:=Un.kept λ_ _ q=>q
theorem Un.laid (k:∀ b u,h.get? b=some u->h'.get? b=some u) (hp:h.objs.size<=a) (hn:H a=none):Un fs ex H (upd H a o) h h' where
 keep:=λb u q _ _ _=>k b u q
 slot:=λb u q _ _ _=>⟨u.slots,k b u q⟩
 free:=λb u q n _=>by rw [aF (Nat.ne_of_lt (Nat.lt_of_lt_of_le (Heap.lt_size q) hp))];exact n
 there:=λb u q _=>⟨u,k b u q⟩
 tups:=λb xs q=>by rw [aF (aG q hn)];exact q
 frzs:=λb u xs q=>by rw [aF (aG q hn)];exact q
 tbls:=λb ps q=>⟨#[],by rw [aF (aG q hn),q];simp⟩
theorem Un.write (mu:Mut (H x)) (he:e=x\/H e=some (.own x)) (k:∀ b u,b≠e->h.get? b=some u->h'.get? b=some u) (heo:∃ u,h'.get? e=some u):Un fs ex H (upd H x o) h h':=by
 have hx:∀ b,H b=none->b≠x:=λb n z=>by subst z;rw [n] at mu;exact mu
 have hb:∀ b,H b=none->b≠e:=λb n z=>by
  subst z
  rcases he with r | r
  ·exact hx b n r
  ·rw [n] at r;cases r
 have hm:∀ b u,H b=some u->¬ Mut (some u)->b≠x:=λb u q nm z=>by subst z;rw [q] at mu;exact nm mu
 refine⟨λb u q n _ _=>k b u (hb b n) q,λb u q n _ _=>⟨u.slots,k b u (hb b n) q⟩,λb u q n _=>by rw [aF (hx b n)];exact n,λb u q _=>?_,
  λb xs q=>by rw [aF (hm b _ q λz=>z)];exact q,λb u xs q=>by rw [aF (hm b _ q λz=>z)];exact q,λb ps q=>⟨#[],by rw [aF (hm b _ q λz=>z),q];simp⟩⟩
 by_cases hbe:b=e
 ·subst hbe;exact heo
 ·exact⟨u,k b u hbe q⟩
end
noncomputable def trk (h:Heap) (H:Hp):List Addr:=(List.range h.objs.size).filter λa=>(H a).isSome
noncomputable def mJ (h:Heap) (H:Hp):Heap:=PySem.W.hideAll h (trk h H)
theorem sT (h:Heap) (H:Hp):(mJ h H).objs.size=h.objs.size:=PySem.W.hideAll_size _ _
theorem uL {h:Heap}{H:Hp}{b:Addr}{o:Obj} (e:h.get? b=some o) (n:H b=none):(mJ h H).get? b=some o:=
 PySem.W.hideAll_get _ e λhm=>by
  have q:(H b).isSome=true:=(List.mem_filter.mp hm).2
  rw [n] at q;simp at q
theorem vQ {h:Heap}{H:Hp}{b:Addr}{o:Obj} (e:(mJ h H).get? b=some o):h.get? b=some o/\H b=none:=by
 have e':h.get? b=some o:=PySem.W.of_hideAll (trk h H) e
 refine⟨e',?_⟩
 cases q:H b with
 | none=>rfl
 | some x=>
  have hm:b ∈ trk h H:=List.mem_filter.mpr ⟨List.mem_range.mpr (Heap.lt_size e'),by simp [q]⟩
  have z:(mJ h H).get? b=none:=PySem.W.hideAll_none (trk h H) hm
  rw [z] at e;cases e
end L2
namespace L2
open PySem PySem.Spec PyProof.Rows
structure Mod (K:PySem.W.Frag) (mg:Str->Option Value) (base:Heap):Prop where
 kin:K.In base
 glob:base.Ns mainGlobals mg
 blt:∃ mb,base.Ns builtinsNs mb/\∀ x:Str,x≠"__name__"->mb x=bootBuiltins x
 nolimit:base.NoLimit
structure Cx where
 prog:Program
 w:World
 K:PySem.W.Frag
 mg:Str->Option Value
 base:Heap
 A:Around
 N:List Str
 s₀:Shared
 H₀:Hp
 env:Env
 outer:List Env
 stack:List Env
 ex:List Addr
 fn:Str->Bool
 calm:Bool
 pn:List (Addr×Obj)
 xe:Value->Shared->Prop
noncomputable def frs (l:List Env):List Addr:=l.filterMap (·.frame)
abbrev Cx.fs (X:Cx):List Addr:=frs X.outer
noncomputable def Vis (sc:Scope) (x:Str):Prop:=sc.names.lookup x=some .local\/sc.names.lookup x=some .cell\/sc.names.lookup x=some .free
noncomputable def Loc (sc:Scope) (x:Str):Prop:=sc.names.lookup x=some .local\/sc.names.lookup x=some .cell
noncomputable def AU (env:Env) (h:Heap) (m:Str->Option Value) (x:Str) (u:Value):Prop:=
 (env.kindOf x=some .local/\m x=some u)\/((env.kindOf x=some .cell\/env.kindOf x=some .free)/\∃ c,env.cells.lookup x=some c/\h.IsCell c (some u))
structure Cx.Ok (X:Cx):Prop where
 mod:Mod X.K X.mg X.base
 kind:X.env.scope.kind=.function
 glob:X.env.globals=mainGlobals
 blt:X.env.builtins=builtinsNs
 above:X.s₀.heap.objs.size<=X.env.locals
 inj:∀ x y c,X.env.cells.lookup x=some c->X.env.cells.lookup y=some c->x=y
 has:∀ x,(X.env.kindOf x=some .cell\/X.env.kindOf x=some .free)->∃ c,X.env.cells.lookup x=some c
 cab:∀ x c,X.fn x=true->X.env.cells.lookup x=some c->X.s₀.heap.objs.size<=c
 hd:X.calm=true->X.A.handled=none
 frames:X.A.frames=some X.stack
 stk:X.stack=X.outer\/(X.stack=X.env::X.outer/\X.env.frame=some X.env.locals)
 exf:∀ b ∈ X.ex,b≠X.env.locals/\∀ x c,X.env.cells.lookup x=some c->c≠b
 bs:∀ b o,X.base.get? b=some o->X.s₀.heap.get? b=some o/\X.H₀ b=none
 bsz:X.base.objs.size<=X.s₀.heap.objs.size
 noex:∀ b o,X.base.get? b=some o->b ∉ X.ex
 exfs:∀ b ∈ X.ex,b ∉ X.fs
 funs:X.s₀.heap.FunFrames X.base X.outer
 frf:∀ b ∈ X.fs,X.H₀ b=none
structure Inv (X:Cx) (pins:List (Addr×Obj)) (σ:List (Option V)) (H:Hp) (s:Shared):Prop where
 ok:X.Ok
 os:s.os=X.s₀.os
 bare:AllBare s.gens
 base:Un X.fs X.ex X.H₀ H X.s₀.heap s.heap
 loc:∃ m,s.heap.Ns X.env.locals m/\∀ (i:Nat) (x:Str) (v:V),X.N[i]?=some x->σ[i]?=some (some v)->Vis X.env.scope x->∃ u,aX v u/\AU X.env s.heap m x u
 cell:∀ x c,X.env.cells.lookup x=some c->∃ v,s.heap.IsCell c v
 free:H X.env.locals=none
 freeC:∀ x c,X.env.cells.lookup x=some c->H c=none
 pin:∀ p ∈ X.pn++pins,s.heap.get? p.1=some p.2/\H p.1=none/\p.1≠X.env.locals/\p.1 ∉ X.fs/\∀ v,p.2.data≠.cell v
 hok:HOk X.prog X.w H s.heap
 len:σ.length=X.N.length
section
variable {X:Cx}{pins:List (Addr×Obj)}{σ:List (Option V)}{H H':Hp}{s:Shared}{h':Heap}
theorem Cx.Ok.nofr (ok:X.Ok) {b:Addr}{o:Obj} (e:X.base.get? b=some o):b ∉ X.fs:=λhb=>by
 have:=(ok.funs.mem hb).1
 rw [e] at this;cases this
theorem Inv.bs (I:Inv X pins σ H s):∀ b o,X.base.get? b=some o->s.heap.get? b=some o/\H b=none:=λb o e=>
 ⟨I.base.keep b o (I.ok.bs b o e).1 (I.ok.bs b o e).2 (I.ok.nofr e) (I.ok.noex b o e),I.base.free b o (I.ok.bs b o e).1 (I.ok.bs b o e).2 (I.ok.noex b o e)⟩
theorem Inv.bk (I:Inv X pins σ H s):∀ b o,X.base.get? b=some o->s.heap.get? b=some o:=λb o e=>(I.bs b o e).1
theorem Inv.mod (I:Inv X pins σ H s):Mod X.K X.mg X.base:=I.ok.mod
theorem Inv.kIn (I:Inv X pins σ H s):X.K.In s.heap:=I.ok.mod.kin.keeps I.bk
theorem Inv.fr (I:Inv X pins σ H s):∃ m,Fr X.base X.env.locals s.heap m:=
 let ⟨m,hn,_⟩:=I.loc
 ⟨m,hn,I.bk,Nat.le_trans I.ok.bsz I.ok.above⟩
theorem Inv.lt (I:Inv X pins σ H s):X.env.locals < s.heap.objs.size:=let ⟨_,hn,_⟩:=I.loc;hn.lt
theorem Inv.sz (I:Inv X pins σ H s):X.s₀.heap.objs.size<=s.heap.objs.size:=Nat.le_trans I.ok.above (Nat.le_of_lt I.lt)
theorem Inv.nofs (I:Inv X pins σ H s) {a:Addr} (h:s.heap.objs.size<=a):a ∉ X.fs:=λhb=>by
 obtain⟨_,o,ho,_⟩:=I.ok.funs.mem hb
 exact absurd (Nat.lt_of_lt_of_le (Heap.lt_size ho) (Nat.le_trans I.sz h)) (Nat.lt_irrefl _)
theorem Inv.cne (I:Inv X pins σ H s):∀ x c,X.env.cells.lookup x=some c->c≠X.env.locals:=λx c e z=>by
 obtain⟨v,o,ho,hd⟩:=I.cell x c e
 obtain⟨m,⟨o',es,ep,ho',hd',_⟩,_⟩:=I.loc
 rw [z,ho'] at ho;cases ho;rw [hd'] at hd;cases hd
theorem Inv.funs (I:Inv X pins σ H s):s.heap.FunFrames X.base X.outer:=by
 have all:∀ (l:List Env),(∀ b ∈ frs l,b ∈ X.fs)->X.s₀.heap.FunFrames X.base l->s.heap.FunFrames X.base l:=by
  intro l
  induction l with
  | nil=>intro _ _;trivial
  | cons env r ih=>
   intro hs hl
   obtain⟨hk,⟨L,o,hf,hn,ho,hd⟩,hr⟩:=hl
   have hL:L ∈ X.fs:=hs L (by unfold frs;rw [List.filterMap_cons,hf];exact List.mem_cons_self)
   obtain⟨sl,e⟩:=I.base.slot L o ho (I.ok.frf L hL) hL λz=>I.ok.exfs L z hL
   exact⟨hk,⟨L,_,hf,hn,e,hd⟩,ih (λb hb=>hs b (by unfold frs;rw [List.filterMap_cons,hf];exact List.mem_cons_of_mem _ hb)) hr⟩
 exact all X.outer (λ_ hb=>hb) I.ok.funs
theorem Inv.stack (I:Inv X pins σ H s):s.heap.FunFrames X.base X.stack:=by
 rcases I.ok.stk with e | ⟨e,hf⟩
 ·rw [e];exact I.funs
 ·rw [e]
  obtain⟨m,hn,_⟩:=I.loc
  refine .cons (by rw [I.ok.kind];decide) hf hn ?_ I.funs
  exact Heap.get?_none_of_le (Nat.le_trans I.ok.bsz I.ok.above)
theorem Inv.stkSub (I:Inv X pins σ H s):∀ b ∈ frs X.stack,b ∈ X.env.locals::X.fs:=λb hb=>by
 rcases I.ok.stk with e | ⟨e,hf⟩
 ·rw [e] at hb;exact List.mem_cons_of_mem _ hb
 ·rw [e] at hb
  unfold frs at hb
  rw [List.filterMap_cons,hf] at hb
  exact hb
theorem Inv.stkFree (I:Inv X pins σ H s):∀ b ∈ frs X.stack,H b=none:=λb hb=>by
 rcases List.mem_cons.mp (I.stkSub b hb) with e | hb
 ·rw [e];exact I.free
 ·obtain⟨_,o,ho,_⟩:=I.ok.funs.mem hb
  exact I.base.free b o ho (I.ok.frf b hb) λz=>I.ok.exfs b z hb
theorem Inv.step {g':Array GenState}{t':Nat}{d':Drawn}{ch:List Addr} (I:Inv X pins σ H s)
  (hch:∀ b ∈ ch,(b ∈ X.ex\/X.s₀.heap.objs.size<=b)/\b≠X.env.locals/\(∀ x c,X.env.cells.lookup x=some c->c≠b)/\∀ p ∈ X.pn++pins,p.1≠b)
  (keep:∀ b o,b≠X.env.locals->b ∉ X.fs->b ∉ ch->s.heap.get? b=some o->H b=none->h'.get? b=some o)
  (slot:∀ b o,b≠X.env.locals->b ∈ X.fs->b ∉ ch->s.heap.get? b=some o->H b=none->∃ sl,h'.get? b=some { o with slots:=sl }) (free:∀ b o,b ∉ ch->s.heap.get? b=some o->H b=none->H' b=none)
  (there:∀ b o,b ∉ ch->s.heap.get? b=some o->∃ o',h'.get? b=some o')
  (tups:∀ b xs,H b=some (.tup xs)->H' b=some (.tup xs)) (frzs:∀ b o u,H b=some (.frz o u)->H' b=some (.frz o u)) (tbls:∀ b ps,H b=some (.tbl ps)->∃ more,H' b=some (.tbl (ps++more)))
  (ns:∀ m,s.heap.Ns X.env.locals m->h'.Ns X.env.locals m) (hok:HOk X.prog X.w H' h') (hg:AllBare g') :
  Inv X pins σ H' { s with heap:=h',gens:=g',drawn:=d',toks:=t' }:=by
 have neL:∀ b o,X.s₀.heap.get? b=some o->b≠X.env.locals:=λb o e=>Nat.ne_of_lt (Nat.lt_of_lt_of_le (Heap.lt_size e) I.ok.above)
 have neC:∀ b o,X.s₀.heap.get? b=some o->b ∉ X.ex->b ∉ ch:=λb o e hx hb=>by
  rcases (hch b hb).1 with z | z
  ·exact hx z
  ·exact absurd (Nat.lt_of_lt_of_le (Heap.lt_size e) z) (Nat.lt_irrefl _)
 have cellK:∀ x c,X.env.cells.lookup x=some c->∀ v,s.heap.IsCell c v->h'.IsCell c v:=λx c e v ⟨o,ho,hd⟩=>by
  have nch:c ∉ ch:=λz=>(hch c z).2.2.1 x c e rfl
  by_cases hc:c ∈ X.fs
  ·obtain⟨sl,q⟩:=slot c o (I.cne x c e) hc nch ho (I.freeC x c e)
   exact⟨_,q,hd⟩
  ·exact⟨o,keep c o (I.cne x c e) hc nch ho (I.freeC x c e),hd⟩
 refine⟨I.ok,I.os,hg,⟨λb o e n hb hx=>?_,λb o e n hb hx=>?_,λb o e n hx=>?_,λb o e hx=>?_,λb xs e=>tups b xs (I.base.tups b xs e),λb o xs e=>frzs b o xs (I.base.frzs b o xs e),λb ps e=>?_⟩,?_,λx c e=>?_,?_,λx c e=>?_,λp hp=>?_,hok,I.len⟩
 ·exact keep b o (neL b o e) hb (neC b o e hx) (I.base.keep b o e n hb hx) (I.base.free b o e n hx)
 ·obtain⟨sl,e1⟩:=I.base.slot b o e n hb hx
  obtain⟨sl',e2⟩:=slot b _ (neL b o e) hb (neC b o e hx) e1 (I.base.free b o e n hx)
  exact⟨sl',e2⟩
 ·obtain⟨o',e1⟩:=I.base.there b o e hx
  exact free b o' (neC b o e hx) e1 (I.base.free b o e n hx)
 ·obtain⟨o',e1⟩:=I.base.there b o e hx
  exact there b o' (neC b o e hx) e1
 ·obtain⟨m1,e1⟩:=I.base.tbls b ps e
  obtain⟨m2,e2⟩:=tbls b _ e1
  exact⟨m1++m2,by rw [e2,Array.append_assoc]⟩
 ·obtain⟨m,hn,hl⟩:=I.loc
  refine⟨m,ns m hn,λi x v e1 e2 e3=>?_⟩
  obtain⟨u,r,l⟩:=hl i x v e1 e2 e3
  refine⟨u,r,?_⟩
  rcases l with l | ⟨k,c,e,z⟩
  ·exact .inl l
  ·exact .inr ⟨k,c,e,cellK x c e _ z⟩
 ·obtain⟨v,z⟩:=I.cell x c e
  exact⟨v,cellK x c e v z⟩
 ·obtain⟨m,⟨o,_,_,ho,_⟩,_⟩:=I.loc
  exact free _ o (λz=>(hch _ z).2.1 rfl) ho I.free
 ·obtain⟨v,o,ho,hd⟩:=I.cell x c e
  exact free c o (λz=>(hch c z).2.2.1 x c e rfl) ho (I.freeC x c e)
 ·obtain⟨e,n,ne,nf,d⟩:=I.pin p hp
  have nch:p.1 ∉ ch:=λz=>(hch p.1 z).2.2.2 p hp rfl
  exact⟨keep p.1 p.2 ne nf nch e n,free p.1 p.2 nch e n,ne,nf,d⟩
theorem Inv.un {t':Nat} (I:Inv X pins σ H s) (u:Un X.fs [] H H' s.heap h') (hok:HOk X.prog X.w H' h'):Inv X pins σ H' { s with heap:=h',toks:=t' }:=by
 obtain⟨m,⟨o,es,ep,ho,r⟩,_⟩:=id I.loc
 obtain⟨sl,hL⟩:=u.any ho I.free (by simp)
 exact I.step (g':=s.gens) (d':=s.drawn) (ch:=[]) (λ_ z=>nomatch z) (λb o _ hb _ e n=>u.keep b o e n hb (by simp)) (λb o _ hb _ e n=>u.slot b o e n hb (by simp)) (λb o _ e n=>u.free b o e n (by simp)) (λb o _ e=>u.there b o e (by simp)) u.tups u.frzs u.tbls (λm' hm=>by
  obtain⟨o',es',ep',ho',r'⟩:=hm
  rw [ho] at ho';cases ho'
  exact⟨_,es',ep',hL,r'⟩) hok I.bare
theorem Inv.call {g':Array GenState}{t':Nat}{d':Drawn}{ch:List Addr} (I:Inv X pins σ H s) (u:Un (frs X.stack) ch H H' s.heap h') (hok:HOk X.prog X.w H' h') (hg:AllBare g')
  (hch:∀ b ∈ ch,(b ∈ X.ex\/X.s₀.heap.objs.size<=b)/\b≠X.env.locals/\(∀ x c,X.env.cells.lookup x=some c->c≠b)/\∀ p ∈ X.pn++pins,p.1≠b) :
  Inv X pins σ H' { s with heap:=h',gens:=g',drawn:=d',toks:=t' }:=by
 obtain⟨m,⟨o,es,ep,ho,r⟩,_⟩:=id I.loc
 obtain⟨sl,hL⟩:=u.any ho I.free λz=>(hch _ z).2.1 rfl
 exact I.step (ch:=ch) hch (λb o hL hb hc e n=>u.keep b o e n (λz=>(List.mem_cons.mp (I.stkSub b z)).elim hL hb) hc) (λb o _ _ hc e n=>u.any e n hc) (λb o hc e n=>u.free b o e n hc) (λb o hc e=>u.there b o e hc) u.tups u.frzs u.tbls (λm' hm=>by
  obtain⟨o',es',ep',ho',r'⟩:=hm
  rw [ho] at ho';cases ho'
  exact⟨_,es',ep',hL,r'⟩) hok hg
theorem Inv.turned {t':Nat}{it:Addr} (I:Inv X pins σ H s) (k:∀ b o,b≠it->s.heap.get? b=some o->h'.get? b=some o) (hn:H it=none) (hL:it≠X.env.locals)
  (h1:it ∈ X.ex\/X.s₀.heap.objs.size<=it) (h2:∀ x c,X.env.cells.lookup x=some c->c≠it) (h3:∀ p ∈ X.pn++pins,p.1≠it):Inv X pins σ H { s with heap:=h',toks:=t' }:=by
 have nit:∀ b u,H b=some u->b≠it:=λb u e z=>by rw [z,hn] at e;cases e
 refine I.step (g':=s.gens) (d':=s.drawn) (ch:=[it]) (λb hb=>?_) (λb o _ _ hc e _=>k b o (λz=>hc (by simp [z])) e) (λb o _ _ hc e _=>⟨o.slots,k b o (λz=>hc (by simp [z])) e⟩) (λ_ _ _ _ n=>n)
  (λb o hc e=>⟨o,k b o (λz=>hc (by simp [z])) e⟩) (λ_ _ e=>e) (λ_ _ _ e=>e) (λb ps e=>⟨#[],by rw [e];simp⟩) (λm hm=>?_) (λb u e=>?_) I.bare
 ·have e:b=it:=by simpa using hb
  subst e
  exact⟨h1,hL,h2,h3⟩
 ·obtain⟨o,es,ep,ho,r⟩:=hm
  exact⟨o,es,ep,k _ o (Ne.symm hL) ho,r⟩
 ·refine (I.hok b u e).stay (λc v hc q=>k c v ?_ q) (λ_ q=>q) λ_ _ q=>q
  rcases hc with z | z
  ·rw [z];exact nit b u e
  ·exact nit c _ z
theorem Inv.tok (I:Inv X pins σ H s) (t:Nat):Inv X pins σ H { s with toks:=t }:=I.un (h':=s.heap) (t':=t) Un.refl I.hok
theorem Inv.kept {t':Nat} (I:Inv X pins σ H s) (k:∀ b u,s.heap.get? b=some u->h'.get? b=some u):Inv X pins σ H { s with heap:=h',toks:=t' }:=I.un (Un.kept k) (I.hok.kept k)
theorem Inv.laid {a:Addr}{o:HO}{t':Nat} (I:Inv X pins σ H s) (k:∀ b u,s.heap.get? b=some u->h'.get? b=some u) (hp:s.heap.objs.size<=a) (new:cv X.prog X.w (upd H a o) h' a o) :
  Inv X pins σ (upd H a o) { s with heap:=h',toks:=t' }:=I.un (Un.laid k hp (I.hok.fresh hp)) (I.hok.laid k hp new)
theorem Inv.write {x e:Addr}{o:HO}{t':Nat} (I:Inv X pins σ H s) (mu:Mut (H x)) (he:e=x\/H e=some (.own x)) (k:∀ b u,b≠e->s.heap.get? b=some u->h'.get? b=some u) (heo:∃ u,h'.get? e=some u)
  (new:cv X.prog X.w (upd H x o) h' x o):Inv X pins σ (upd H x o) { s with heap:=h',toks:=t' }:=I.un (Un.write mu he k heo) (I.hok.write mu he k heo new)
theorem Inv.weak {σ':List (Option V)} (I:Inv X pins σ H s) (hl:σ'.length=σ.length) (w:∀ (i:Nat) v,σ'[i]?=some (some v)->σ[i]?=some (some v)):Inv X pins σ' H s:=
 ⟨I.ok,I.os,I.bare,I.base,let ⟨m,hn,hl'⟩:=I.loc;⟨m,hn,λi x v e1 e2 e3=>hl' i x v e1 (w i v e2) e3⟩,I.cell,I.free,I.freeC,I.pin,I.hok,hl.trans I.len⟩
theorem Inv.pins_of {pins':List (Addr×Obj)} (I:Inv X pins σ H s) (h:∀ p ∈ pins',s.heap.get? p.1=some p.2/\H p.1=none/\p.1≠X.env.locals/\p.1 ∉ X.fs/\∀ v,p.2.data≠.cell v):Inv X pins' σ H s:=
 ⟨I.ok,I.os,I.bare,I.base,I.loc,I.cell,I.free,I.freeC,λp hp=>(List.mem_append.mp hp).elim (λz=>I.pin p (List.mem_append_left _ z)) (h p),I.hok,I.len⟩
theorem oK {N:List Str} (hN:N.Nodup) {i j:Nat}{x:Str} (a:N[i]?=some x) (b:N[j]?=some x):i=j:=by
 obtain⟨h1,e1⟩:=List.getElem?_eq_some_iff.mp a
 obtain⟨h2,e2⟩:=List.getElem?_eq_some_iff.mp b
 exact (List.getElem_inj hN).mp (e1.trans e2.symm)
theorem sk {M:Model}{A:Around}{E:Value->Shared->Prop}{i:Nat}{x:Str}{v:V}{u:Value}{Q:Unit->Shared->Prop} (I:Inv X pins σ H s) (hN:X.N.Nodup) (hi:X.N[i]?=some x) (hx:Loc X.env.scope x) (r:aX v u)
  (h:∀ s',Inv X pins (σ.set i (some v)) H s'->(∃ a,Heap.SameBut a s.heap s'.heap/\(a=X.env.locals\/X.env.cells.lookup x=some a))->Q () s') (hf:X.fn x=true\/X.env.scope.names.lookup x=some .local:=by first | exact .inl rfl | exact .inr rfl | assumption):wpAny M A (storeName X.env x u) Q E s:=by
 obtain⟨m,hn,hl⟩:=id I.loc
 have hcls:(X.env.scope.kind==.class || (X.env.scope.kind==.module && X.env.locals != X.env.globals))=false:=by rw [I.ok.kind];rfl
 have hiσ:i < σ.length:=by rw [I.len];exact (List.getElem?_eq_some_iff.mp hi).1
 have cne:=I.cne
 have tracked:∀ {a:Addr}{h':Heap},(∃ o,s.heap.get? a=some o/\H a=none)->Heap.SameBut a s.heap h'->HOk X.prog X.w H h':=λ{a h'} ha hs b ob e=>by
  obtain⟨_,_,hfree⟩:=ha
  refine (I.hok b ob e).stay (λc w' hc q=>(hs.2 c ?_).trans q) (λ_ q=>q) λ_ _ q=>q
  rintro rfl
  rcases hc with rfl | hc
  ·rw [hfree] at e;cases e
  ·rw [hfree] at hc;cases hc
 rcases hx with hk | hk
 ·refine wpAny_storeName_local hk hn (λh' hn' hs=>?_) hcls
  obtain⟨oL,_,_,hoL,_⟩:=id hn
  refine h _ ⟨I.ok,I.os,I.bare,⟨λb o e n hb hx=>?_,λb o e n hb hx=>?_,I.base.free,λb o e hx=>?_,I.base.tups,I.base.frzs,I.base.tbls⟩,⟨_,hn',λj y v' e1 e2 e3=>?_⟩,λy c e=>?_,I.free,I.freeC,λp hp=>?_,tracked ⟨oL,hoL,I.free⟩ hs,by simpa using I.len⟩ ⟨_,hs,.inl rfl⟩
  ·exact (hs.2 b (Nat.ne_of_lt (Nat.lt_of_lt_of_le (Heap.lt_size e) I.ok.above))).trans (I.base.keep b o e n hb hx)
  ·obtain⟨sl,e1⟩:=I.base.slot b o e n hb hx
   exact⟨sl,(hs.2 b (Nat.ne_of_lt (Nat.lt_of_lt_of_le (Heap.lt_size e) I.ok.above))).trans e1⟩
  ·obtain⟨o',e1⟩:=I.base.there b o e hx
   exact⟨o',(hs.2 b (Nat.ne_of_lt (Nat.lt_of_lt_of_le (Heap.lt_size e) I.ok.above))).trans e1⟩
  ·by_cases hj:j=i
   ·subst hj
    rw [hi] at e1;cases e1
    rw [List.getElem?_set_self hiσ] at e2
    cases e2
    exact⟨u,r,.inl ⟨hk,by simp⟩⟩
   ·rw [List.getElem?_set_ne (Ne.symm hj)] at e2
    obtain⟨u',r',q⟩:=hl j y v' e1 e2 e3
    refine⟨u',r',?_⟩
    rcases q with⟨k,e⟩ | ⟨k,c,e,z⟩
    ·refine .inl ⟨k,?_⟩
     have:y≠x:=λe=>hj (oK hN e1 (e ▸ hi))
     simp [this,e]
    ·exact .inr ⟨k,c,e,z.sameBut hs (cne y c e)⟩
  ·obtain⟨w',z⟩:=I.cell y c e
   exact⟨w',z.sameBut hs (cne y c e)⟩
  ·obtain⟨e,n,ne,nf,d⟩:=I.pin p hp
   exact⟨(hs.2 p.1 ne).trans e,n,ne,nf,d⟩
 ·have hfn:X.fn x=true:=by
   rcases hf with z | z
   ·exact z
   ·rw [z] at hk;cases hk
  obtain⟨c,hc⟩:=I.ok.has x (.inl hk)
  obtain⟨w',z⟩:=I.cell x c hc
  refine wpAny_storeName_cell I.ok.kind hk hc z (λh' hc' hs=>?_)
  obtain⟨oc,hoc,hocd⟩:=id z
  refine h { s with heap:=h' } ⟨I.ok,I.os,I.bare,⟨λb o e n hb hx=>?_,λb o e n hb hx=>?_,I.base.free,λb o e hx=>?_,I.base.tups,I.base.frzs,I.base.tbls⟩,⟨m,hn.sameBut hs (Ne.symm (cne x c hc)),λj y v' e1 e2 e3=>?_⟩,λy c' e=>?_,I.free,I.freeC,λp hp=>?_,tracked ⟨oc,hoc,I.freeC x c hc⟩ hs,by simpa using I.len⟩ ⟨c,hs,.inr hc⟩
  ·exact (hs.2 b (Nat.ne_of_lt (Nat.lt_of_lt_of_le (Heap.lt_size e) (I.ok.cab x c hfn hc)))).trans (I.base.keep b o e n hb hx)
  ·obtain⟨sl,e1⟩:=I.base.slot b o e n hb hx
   exact⟨sl,(hs.2 b (Nat.ne_of_lt (Nat.lt_of_lt_of_le (Heap.lt_size e) (I.ok.cab x c hfn hc)))).trans e1⟩
  ·obtain⟨o',e1⟩:=I.base.there b o e hx
   exact⟨o',(hs.2 b (Nat.ne_of_lt (Nat.lt_of_lt_of_le (Heap.lt_size e) (I.ok.cab x c hfn hc)))).trans e1⟩
  ·by_cases hj:j=i
   ·subst hj
    rw [hi] at e1;cases e1
    rw [List.getElem?_set_self hiσ] at e2
    cases e2
    exact⟨u,r,.inr ⟨.inl hk,c,hc,hc'⟩⟩
   ·rw [List.getElem?_set_ne (Ne.symm hj)] at e2
    obtain⟨u',r',q⟩:=hl j y v' e1 e2 e3
    refine⟨u',r',?_⟩
    rcases q with q | ⟨k,c',e,z'⟩
    ·exact .inl q
    ·refine .inr ⟨k,c',e,z'.sameBut hs ?_⟩
     rintro rfl
     exact hj (oK hN e1 (I.ok.inj _ _ _ e hc ▸ hi))
  ·by_cases hcc:c'=c
   ·subst hcc;exact⟨_,hc'⟩
   ·obtain⟨w2,z2⟩:=I.cell y c' e
    exact⟨w2,z2.sameBut hs hcc⟩
  ·obtain⟨e,n,ne,nf,d⟩:=I.pin p hp
   refine⟨(hs.2 p.1 ?_).trans e,n,ne,nf,d⟩
   intro q
   rw [q,hoc] at e
   have q':oc=p.2:=Option.some.inj e
   exact d w' (by rw [<-q'];exact hocd)
theorem fv {M:Model}{A:Around}{E:Value->Shared->Prop}{i:Nat}{x:Str}{v:V}{u:Value}{Q:Unit->Shared->Prop} (I:Inv X pins σ H s) (hN:X.N.Nodup) (hi:X.N[i]?=some x) (hx:Loc X.env.scope x) (r:aX v u)
  (h:∀ s',Inv X pins (σ.set i (some v)) H s'->Q () s') (hf:X.fn x=true\/X.env.scope.names.lookup x=some .local:=by first | exact .inl rfl | exact .inr rfl | assumption):wpAny M A (storeName X.env x u) Q E s:=
 sk I hN hi hx r (λs' I' _=>h s' I') hf
theorem Inv.call' {s':Shared}{ch:List Addr} (I:Inv X pins σ H s) (ho:s'.os=s.os) (u:Un (frs X.stack) ch H H' s.heap s'.heap) (hok:HOk X.prog X.w H' s'.heap) (hg:AllBare s'.gens)
  (hch:∀ b ∈ ch,(b ∈ X.ex\/X.s₀.heap.objs.size<=b)/\b≠X.env.locals/\(∀ x c,X.env.cells.lookup x=some c->c≠b)/\∀ p ∈ X.pn++pins,p.1≠b):Inv X pins σ H' s':=by
 obtain⟨h',g',d',t',o'⟩:=s'
 have e:o'=s.os:=ho
 subst e
 exact I.call (g':=g') (t':=t') (d':=d') u hok hg hch
end
abbrev XK:=Value->Option Addr->Hp->Prop
abbrev St:=List (Option V)
abbrev VK:=V->Hp->Prop
abbrev TE:=St->Hp->VK->Prop
abbrev TT:=St->Hp->(Bool->Hp->Prop)->Prop
abbrev TA:=St->Hp->(List V->Hp->Prop)->Prop
structure og where
 nx:St->Hp->Prop
 rt:VK
 bk:St->Hp->Prop:=λ_ _=>False
 ct:St->Hp->Prop:=λ_ _=>False
abbrev TS:=og->St->Hp->Prop
noncomputable def EP (X:Cx) (pins:List (Addr×Obj)) (σ:St) (Q:VK) (u:Value) (s':Shared):Prop:=∃ v H',Inv X pins σ H' s'/\aX v u/\Q v H'
noncomputable def TP (X:Cx) (pins:List (Addr×Obj)) (σ:St) (Q:Bool->Hp->Prop) (b:Bool) (s':Shared):Prop:=∃ H',Inv X pins σ H' s'/\Q b H'
noncomputable def AP (X:Cx) (pins:List (Addr×Obj)) (σ:St) (Q:List V->Hp->Prop) (us:List Value) (s':Shared):Prop:=∃ vs H',Inv X pins σ H' s'/\aK vs us/\Q vs H'
noncomputable def SP (X:Cx) (pins:List (Addr×Obj)) (D:og) (f:Flow) (s':Shared):Prop:=
 match f with
 | .next=>∃ σ' H',Inv X pins σ' H' s'/\D.nx σ' H'
 | .brk=>∃ σ' H',Inv X pins σ' H' s'/\D.bk σ' H'
 | .cont=>∃ σ' H',Inv X pins σ' H' s'/\D.ct σ' H'
 | .ret u=>∃ v σ' H',Inv X pins σ' H' s'/\aX v u/\D.rt v H'
noncomputable def PE (X:Cx) (e:Expr) (t:TE):Prop:=
 ∀ (pins:List (Addr×Obj)) (s:Shared) (σ:St) (H:Hp) (Q:VK),Inv X pins σ H s->t σ H Q->wpAny (model X.prog X.w) X.A (eval e X.env) (EP X pins σ Q) X.xe s
noncomputable def PT (X:Cx) (e:Expr) (t:TT):Prop:=
 ∀ (pins:List (Addr×Obj)) (s:Shared) (σ:St) (H:Hp) (Q:Bool->Hp->Prop),Inv X pins σ H s->t σ H Q->wpAny (model X.prog X.w) X.A (isTrue e X.env (eval e X.env)) (TP X pins σ Q) X.xe s
noncomputable def PW (X:Cx) (e:Expr) (t:TT):Prop:=
 ∀ (whole:Sem Value) (pins:List (Addr×Obj)) (s:Shared) (σ:St) (H:Hp) (Q:Bool->Hp->Prop),Inv X pins σ H s->t σ H Q->wpAny (model X.prog X.w) X.A (isTrue e X.env whole) (TP X pins σ Q) X.xe s
theorem PW.pt {X:Cx}{e:Expr}{t:TT} (h:PW X e t):PT X e t:=h _
noncomputable def PA (X:Cx) (es:List Expr) (t:TA):Prop:=
 ∀ (pos:Pos) (pins:List (Addr×Obj)) (s:Shared) (σ:St) (H:Hp) (Q:List V->Hp->Prop),Inv X pins σ H s->t σ H Q->wpAny (model X.prog X.w) X.A (spliced (backTo pos (starEach es X.env))) (AP X pins σ Q) X.xe s
noncomputable def PS (X:Cx) (st:Stmt) (t:TS):Prop:=
 ∀ (pins:List (Addr×Obj)) (s:Shared) (σ:St) (H:Hp) (D:og),Inv X pins σ H s->t D σ H->wpAny (model X.prog X.w) X.A (exec st X.env) (SP X pins D) X.xe s
noncomputable def PSs (X:Cx) (st:List Stmt) (t:TS):Prop:=
 ∀ (pins:List (Addr×Obj)) (s:Shared) (σ:St) (H:Hp) (D:og),Inv X pins σ H s->t D σ H->wpAny (model X.prog X.w) X.A (execs st X.env) (SP X pins D) X.xe s
theorem thn {α:Type}{t:Sem α}{Q Q':α->Shared->Prop}{M:Model}{A:Around}{E:Value->Shared->Prop}{s:Shared} (h:wpAny M A t Q E s) (hQ:∀ a s,Q a s->Q' a s):wpAny M A t Q' E s:=wpAny_mono h hQ λ_ _ x=>x
end L2
namespace L2
open PySem PySem.Spec PyProof.Rows
section
variable {X:Cx}
theorem bin {a b:Expr}{ta tb:TE} (ha:PE X a ta) (hb:PE X b tb) {pins:List (Addr×Obj)}{s:Shared}{σ:St}{H:Hp}{R:V->V->Hp->Prop} (I:Inv X pins σ H s) (h:ta σ H λx H1=>tb σ H1 λy H2=>R x y H2)
  {α:Type}{Q:α->Shared->Prop}{f:Value->Value->Sem α}
  (hf:∀ v u s2 x y H2,Inv X pins σ H2 s2->aX x v->aX y u->R x y H2->wpAny (model X.prog X.w) X.A (f v u) Q X.xe s2) :
  wpAny (model X.prog X.w) X.A (eval a X.env) (λv s₁=>wpAny (model X.prog X.w) X.A (eval b X.env) (λu s₂=>wpAny (model X.prog X.w) X.A (f v u) Q X.xe s₂) X.xe s₁) X.xe s:=by
 refine thn (ha pins s σ H _ I h) λv s1 ⟨x,H1,I1,r1,q1⟩=>?_
 refine thn (hb pins s1 σ H1 _ I1 q1) λu s2 ⟨y,H2,I2,r2,q2⟩=>?_
 exact hf v u s2 x y H2 I2 r1 r2 q2
noncomputable def yW (i:Nat):TE:=λσ H Q=>∃ v,σ[i]?=some (some v)/\Q v H
noncomputable def tC (v:V):TE:=λ_ H Q=>Q v H
theorem y0 {i:Nat}{x:Str}{pos:Pos} (hN:X.N[i]?=some x) (hv:Vis X.env.scope x) (hd:(x==("__debug__" : Str))=false:=by decide) (hcd:(x==("__classdict__" : Str))=false:=by decide):PE X (.Name x pos) (yW i):=by
 intro pins s σ H Q I h
 obtain⟨v,e,h⟩:=h
 obtain⟨m,hn,hl⟩:=I.loc
 obtain⟨u,r,l⟩:=hl i x v hN e hv
 have fin:EP X pins σ Q u s:=⟨v,H,I,r,h⟩
 rcases l with⟨hk,hm⟩ | ⟨hk,c,hc,hcell⟩
 ·exact wpAny_Name (wpAny_loadName_local I.ok.kind hk hn hm fin) hd
 ·rcases hk with hk | hk
  ·exact wpAny_Name (wpAny_loadName_cell I.ok.kind hk hc hcell fin) hd
  ·exact wpAny_Name (wpAny_loadName_free I.ok.kind hk hc hcell fin hcd) hd
theorem yp {i j pos}:PE X (.Constant (.int i) j pos) (tC (.int i)):=λ_ _ _ H _ I h=>wpAny_Constant_int ⟨.int i,H,I.tok _,⟨_,rfl⟩,h⟩
theorem Am {b j pos}:PE X (.Constant (.bool b) j pos) (tC (.bl b)):=λ_ _ _ H _ I h=>Constant_bool ⟨.bl b,H,I,rfl,h⟩
theorem y7 {j pos}:PE X (.Constant .none j pos) (tC .non):=λ_ _ _ H _ I h=>Constant_none ⟨.non,H,I,rfl,h⟩
theorem yv {x j pos}:PE X (.Constant (.str x) j pos) (tC (.str x)):=λ_ _ _ H _ I h=>Calls.Constant_str ⟨.str x,H,I.tok _,⟨_,rfl⟩,h⟩
noncomputable def Gl (X:Cx) (x:Str):Prop:=X.env.kindOf x=some .globalImplicit
theorem wf {E:Value->Shared->Prop}{pins:List (Addr×Obj)}{s:Shared}{σ:St}{H:Hp}{x:Str}{u:Value}{pos:Pos}{Q:Value->Shared->Prop} (I:Inv X pins σ H s) (hg:Gl X x) (hm:X.mg x=some u) (h:Q u s)
  (hd:(x==("__debug__" : Str))=false:=by decide):wpAny (model X.prog X.w) X.A (eval (.Name x pos) X.env) Q E s:=
 Calls.Name_function_global I.ok.kind hg (Calls.loadGlobal_global (by rw [I.ok.glob];exact I.mod.glob.keeps I.bk) hm h) hd
theorem iI {E:Value->Shared->Prop}{pins:List (Addr×Obj)}{s:Shared}{σ:St}{H:Hp}{x:Str}{u:Value}{pos:Pos}{Q:Value->Shared->Prop} (I:Inv X pins σ H s) (hg:Gl X x) (hm:X.mg x=none) (hv:bootBuiltins x=some u) (h:Q u s)
  (hn:x≠"__name__":=by decide) (hd:(x==("__debug__" : Str))=false:=by decide):wpAny (model X.prog X.w) X.A (eval (.Name x pos) X.env) Q E s:=by
 obtain⟨mb,h1,h2⟩:=I.mod.blt
 exact Calls.Name_function_global I.ok.kind hg (Calls.loadGlobal_builtin (by rw [I.ok.glob];exact I.mod.glob.keeps I.bk) hm (by rw [I.ok.blt];exact h1.keeps I.bk) ((h2 x hn).trans hv) h) hd
theorem wb {x:Str}{v:V}{u:Value}{pos:Pos} (hg:Gl X x) (hm:X.mg x=none) (hv:bootBuiltins x=some u) (r:aX v u) (hn:x≠"__name__":=by decide) (hd:(x==("__debug__" : Str))=false:=by decide):PE X (.Name x pos) (tC v):=
 λ_ _ _ H _ I h=>iI I hg hm hv ⟨v,H,I,r,h⟩ hn hd
variable {a b:Expr}{ta tb:TE}{pos:Pos}
variable {tA tB':TT}{rest:List Expr}
noncomputable def AO (t u:TT):TT:=λσ H Q=>t σ H λc H1=>if c=true then u σ H1 Q else Q false H1
noncomputable def tOr (t u:TT):TT:=λσ H Q=>t σ H λc H1=>if c=true then Q true H1 else u σ H1 Q
noncomputable def A7 (t:TT):TT:=λσ H Q=>t σ H λc H1=>Q (!c) H1
theorem vS (ha:PT X a tA):PW X (.BoolOp .And [a] pos) tA:=by
 intro wh pins s σ H Q I h
 refine isTrue_and (thn (ha pins s σ H Q I h) λc s1 e=>?_)
 cases c with
 | true=>exact isTrue_and_nil e
 | false=>exact e
theorem yo (ha:PT X a tA):PW X (.BoolOp .Or [a] pos) tA:=by
 intro wh pins s σ H Q I h
 refine isTrue_or (thn (ha pins s σ H Q I h) λc s1 e=>?_)
 cases c with
 | false=>exact isTrue_or_nil e
 | true=>exact e
theorem vJ (ha:PT X a tA) (hb:PW X (.BoolOp .And (b::rest) pos) tB'):PW X (.BoolOp .And (a::b::rest) pos) (AO tA tB'):=by
 intro wh pins s σ H Q I h
 refine isTrue_and (thn (ha pins s σ H _ I h) λc s1 ⟨H1,I1,q1⟩=>?_)
 cases c with
 | true=>exact hb wh pins s1 σ H1 Q I1 q1
 | false=>exact⟨H1,I1,q1⟩
theorem xO (ha:PT X a tA) (hb:PW X (.BoolOp .Or (b::rest) pos) tB'):PW X (.BoolOp .Or (a::b::rest) pos) (tOr tA tB'):=by
 intro wh pins s σ H Q I h
 refine isTrue_or (thn (ha pins s σ H _ I h) λc s1 ⟨H1,I1,q1⟩=>?_)
 cases c with
 | true=>exact⟨H1,I1,q1⟩
 | false=>exact hb wh pins s1 σ H1 Q I1 q1
theorem yn (ha:PT X a tA):PT X (.UnaryOp .Not a pos) (A7 tA):=by
 intro pins s σ H Q I h
 exact isTrue_not (ha pins s σ H (λc H1=>Q (!c) H1) I h)
noncomputable def AA (ta tb:TE):TE:=λσ H Q=>ta σ H λx H1=>∃ c,x=.bl c/\if c=true then tb σ H1 Q else Q (.bl false) H1
noncomputable def z8 (ta:TE):TE:=λσ H Q=>ta σ H λx H1=>∃ c,x=.bl c/\Q (.bl (!c)) H1
theorem yQ {op}{t:TE} (h:PE X a t):PE X (.BoolOp op [a] pos) t:=λpins s σ H Q I hw=>BoolOp_one (h pins s σ H Q I hw)
theorem uN (ha:PE X a ta) (hb:PE X (.BoolOp .And (b::rest) pos) tb):PE X (.BoolOp .And (a::b::rest) pos) (AA ta tb):=by
 intro pins s σ H Q I h
 refine BoolOp_and (thn (ha pins s σ H _ I h) λv s1 ⟨x,H1,I1,r1,q1⟩=>?_)
 obtain⟨c,rfl,q1⟩:=q1
 cases r1
 refine wpAny_truthy_bool ?_
 cases c with
 | true=>exact hb pins s1 σ H1 Q I1 q1
 | false=>exact⟨.bl false,H1,I1,rfl,q1⟩
theorem zb (ha:PE X a ta):PE X (.UnaryOp .Not a pos) (z8 ta):=by
 intro pins s σ H Q I h
 refine UnaryOp_ (thn (ha pins s σ H _ I h) λv s1 ⟨x,H1,I1,r1,q1⟩=>?_)
 obtain⟨c,rfl,q1⟩:=q1
 cases r1
 exact not_of (wpAny_truthy_bool ⟨.bl (!c),H1,I1,rfl,q1⟩)
noncomputable def tIf (t:TT) (ta tb:TE):TE:=λσ H Q=>t σ H λc H1=>if c=true then ta σ H1 Q else tb σ H1 Q
theorem n4 {c:Expr} (hc:PT X c tA) (ha:PE X a ta) (hb:PE X b tb):PE X (.IfExp c a b pos) (tIf tA ta tb):=by
 intro pins s σ H Q I h
 refine wpAny_IfExp (thn (hc pins s σ H _ I h) λd s1 ⟨H1,I1,q1⟩=>?_)
 cases d with
 | true=>exact ha pins s1 σ H1 Q I1 q1
 | false=>exact hb pins s1 σ H1 Q I1 q1
end
end L2
namespace L2
open PySem PySem.Spec PyProof.Rows
noncomputable def SqL (K:PySem.W.Frag) (H:Hp) (a:Addr) (xs:List V):Prop:=
 Rd H a (.lst xs)\/
  ∃ (o:Obj) (its:Array Value) (n:Nat),K.lookup a=some o/\o.cls=.type "list"/\o.dict=none/\o.data=.seq its n/\its.size<=sizeLine/\aK xs its.toList
noncomputable def SqT (K:PySem.W.Frag) (H:Hp) (a:Addr) (xs:List V):Prop:=
 H a=some (.tup xs)\/
  ∃ (o:Obj) (its:Array Value) (n:Nat),K.lookup a=some o/\o.cls=.type "tuple"/\o.data=.seq its n/\its.size<=sizeLine/\aK xs its.toList/\o.dict=none
noncomputable def AQ:Value->Option V
 | .none=>some .non
 | .bool b=>some (.bl b)
 | .int i _=>some (.int i)
 | .str x _=>some (.str x)
 | .bytes b _=>some (.byt b)
 | .float b _=>some (.flt b)
 | .ref a=>some (.ref a)
 | .type n=>some (.ty n)
 | _=>none
theorem aX.abs {x:V}{u:Value} (r:aX x u):AQ u=some x:=by
 cases x with
 | non=>cases r;rfl
 | bl _=>cases r;rfl
 | int _=>obtain⟨t,rfl⟩:=r;rfl
 | str _=>obtain⟨t,rfl⟩:=r;rfl
 | byt _=>obtain⟨t,rfl⟩:=r;rfl
 | flt _=>obtain⟨t,rfl⟩:=r;rfl
 | ref _=>cases r;rfl
 | ty _=>cases r;rfl
theorem aX.inj {x y:V}{u:Value} (r:aX x u) (q:aX y u):x=y:=Option.some.inj (r.abs.symm.trans q.abs)
theorem aK.inj:∀ {xs ys:List V}{us:List Value},aK xs us->aK ys us->xs=ys
 | _,_,_,.nil,.nil=>rfl
 | _,_,_,.cons r t,.cons r' t'=>by rw [r.inj r',aK.inj t t']
section
variable {X:Cx}{pins:List (Addr×Obj)}{σ:St}{H:Hp}{s:Shared}{a:Addr}{xs ys:List V}
theorem SqL.of {K:PySem.W.Frag} (h:H a=some (.lst xs)):SqL K H a xs:=.inl (.inl h)
theorem SqT.of {K:PySem.W.Frag} (h:H a=some (.tup xs)):SqT K H a xs:=.inl h
theorem Inv.list (I:Inv X pins σ H s) (h:SqL X.K H a xs):∃ its:List Value,aK xs its/\PlainL s.heap a its.toArray/\xs.length<=sizeLine:=by
 rcases h with h | ⟨o,its,n,hk,hc,hd,hs,hz,r⟩
 ·obtain⟨z,its,n,r,e⟩:=h.ok I.hok
  exact⟨its,r,⟨_,n,e,rfl,rfl,rfl⟩,z⟩
 ·refine⟨its.toList,r,⟨o,n,I.kIn a o hk,hc,hd,by simpa using hs⟩,?_⟩
  have e:=r.length
  simp only [Array.length_toList] at e
  lia
theorem Inv.tuple (I:Inv X pins σ H s) (h:SqT X.K H a xs):∃ its:List Value,aK xs its/\IsTup s.heap a its.toArray/\xs.length<=sizeLine:=by
 rcases h with h | ⟨o,its,n,hk,hc,hs,hz,r,_⟩
 ·obtain⟨z,its,r,p⟩:=(Rd.of h).ok I.hok
  exact⟨its,r,p.tup,z⟩
 ·refine⟨its.toList,r,⟨o,I.kIn a o hk,hc,n,by simpa using hs⟩,?_⟩
  have e:=r.length
  simp only [Array.length_toList] at e
  lia
theorem Inv.tuple1 (I:Inv X pins σ H s) (h:SqT X.K H a xs):∃ o:Obj,s.heap.get? a=some o/\o.cls=.type "tuple"/\o.dict=none:=by
 rcases h with h | ⟨o,its,n,hk,hc,hs,hz,r,hd⟩
 ·obtain⟨z,its,r,o,e,c,_,hd⟩:=(Rd.of h).ok I.hok
  exact⟨o,e,c,hd⟩
 ·exact⟨o,I.kIn a o hk,hc,hd⟩
theorem Inv.list_inj (I:Inv X pins σ H s) (h:SqL X.K H a xs) (h':SqL X.K H a ys):xs=ys:=by
 obtain⟨its,r,⟨o,n,e,_,_,d⟩,_⟩:=I.list h
 obtain⟨its',r',⟨o',n',e',_,_,d'⟩,_⟩:=I.list h'
 rw [e] at e';cases e'
 rw [d] at d'
 injection d' with d1 _
 have:its=its':=by simpa using congrArg Array.toList d1
 subst this
 exact r.inj r'
theorem Inv.tuple_inj (I:Inv X pins σ H s) (h:SqT X.K H a xs) (h':SqT X.K H a ys):xs=ys:=by
 obtain⟨its,r,⟨o,e,_,n,d⟩,_⟩:=I.tuple h
 obtain⟨its',r',⟨o',e',_,n',d'⟩,_⟩:=I.tuple h'
 rw [e] at e';cases e'
 rw [d] at d'
 injection d' with d1 _
 have:its=its':=by simpa using congrArg Array.toList d1
 subst this
 exact r.inj r'
end
abbrev Cx.wish (X:Cx) (E:Value->Shared->Prop):Cx:={ X with xe:=E }
abbrev Cx.nox (X:Cx):Cx:=X.wish λ_ _=>False
theorem Cx.Ok.wish {X:Cx} (ok:X.Ok) (E:Value->Shared->Prop):(X.wish E).Ok:=
 ⟨ok.mod,ok.kind,ok.glob,ok.blt,ok.above,ok.inj,ok.has,ok.cab,ok.hd,ok.frames,ok.stk,ok.exf,ok.bs,ok.bsz,ok.noex,ok.exfs,ok.funs,ok.frf⟩
theorem Cx.Ok.unwish {X:Cx}{E:Value->Shared->Prop} (ok:(X.wish E).Ok):X.Ok:=
 ⟨ok.mod,ok.kind,ok.glob,ok.blt,ok.above,ok.inj,ok.has,ok.cab,ok.hd,ok.frames,ok.stk,ok.exf,ok.bs,ok.bsz,ok.noex,ok.exfs,ok.funs,ok.frf⟩
section
variable {X:Cx}{pins:List (Addr×Obj)}{σ:St}{H:Hp}{s:Shared}{E:Value->Shared->Prop}
theorem Inv.wish (I:Inv X pins σ H s) (E:Value->Shared->Prop):Inv (X.wish E) pins σ H s:=⟨I.ok.wish E,I.os,I.bare,I.base,I.loc,I.cell,I.free,I.freeC,I.pin,I.hok,I.len⟩
theorem Inv.unwish (I:Inv (X.wish E) pins σ H s):Inv X pins σ H s:=⟨I.ok.unwish,I.os,I.bare,I.base,I.loc,I.cell,I.free,I.freeC,I.pin,I.hok,I.len⟩
theorem SP.unwish {D:og}{f:Flow}{s':Shared} (h:SP (X.wish E) pins D f s'):SP X pins D f s':=by
 cases f with
 | next=>obtain⟨σ',H',I,q⟩:=h;exact⟨σ',H',I.unwish,q⟩
 | brk=>obtain⟨σ',H',I,q⟩:=h;exact⟨σ',H',I.unwish,q⟩
 | cont=>obtain⟨σ',H',I,q⟩:=h;exact⟨σ',H',I.unwish,q⟩
 | ret u=>obtain⟨v,σ',H',I,r,q⟩:=h;exact⟨v,σ',H',I.unwish,r,q⟩
theorem PSs.nox {st:List Stmt}{t:TS} (h:PSs X.nox st t):PSs X st t:=λpins s σ H D I hw=>
 wpAny_mono (h pins s σ H D (I.wish _) hw) (λ_ _ q=>q.unwish) λ_ _ z=>False.elim z
end
section
variable {X:Cx}{st:Stmt}{rest:List Stmt}{t u:TS}{e:Expr}{te:TE}{pos:Pos}
noncomputable def AI:TS:=λD σ H=>D.nx σ H
noncomputable def A2 (t u:TS):TS:=λD σ H=>t { D with nx:=u D } σ H
theorem we:PSs X [] AI:=λ_ _ σ H _ I h=>wpAny_execs_nil ⟨σ,H,I,h⟩
theorem je (h1:PS X st t) (h2:PSs X rest u):PSs X (st::rest) (A2 t u):=by
 intro pins s σ H D I h
 refine wpAny_execs_cons (thn (h1 pins s σ H { D with nx:=u D } I h) λf s1 q=>?_)
 cases f with
 | next=>
  obtain⟨σ',H',I',q⟩:=q
  exact h2 pins s1 σ' H' D I' q
 | ret v=>exact q
 | brk=>exact q
 | cont=>exact q
theorem xr (h1:PS X st t):PSs X [st] t:=by
 intro pins s σ H D I h
 refine wpAny_execs_cons (thn (h1 pins s σ H D I h) λf s1 q=>?_)
 cases f with
 | next=>exact wpAny_execs_nil q
 | ret v=>exact q
 | brk=>exact q
 | cont=>exact q
theorem Inv.quiet {pins:List (Addr×Obj)}{σ:St}{H:Hp}{s:Shared} (I:Inv X pins σ H s):interactive X.env=false:=by simp [interactive,I.ok.kind]
noncomputable def zY (te:TE):TS:=λD σ H=>te σ H λ_ H1=>D.nx σ H1
theorem wE (he:PE X e te) (hs:swapsWith e none pos.line X.env=pure false:=by rfl):PS X (.Expr e pos) (zY te):=by
 intro pins s σ H D I h
 exact wpAny_Expr_any (thn (he pins s σ H _ I h) λv s1 ⟨x,H1,I1,r1,q1⟩=>⟨σ,H1,I1,q1⟩) I.quiet hs
noncomputable def A0 (te:TE):TS:=λD σ H=>te σ H D.rt
theorem zt (he:PE X e te):PS X (.Return (some e) pos) (A0 te):=by
 intro pins s σ H D I h
 exact wpAny_Return_some (thn (he pins s σ H _ I h) λv s1 ⟨x,H1,I1,r1,q1⟩=>⟨x,σ,H1,I1,r1,q1⟩)
noncomputable def A8 (c:TT) (t u:TS):TS:=λD σ H=>c σ H λb H1=>if b=true then t D σ H1 else u D σ H1
theorem xV {c:Expr}{a b:List Stmt}{tc:TT} (hc:PT X c tc) (ha:PSs X a t) (hb:PSs X b u):PS X (.If c a b pos) (A8 tc t u):=by
 intro pins s σ H D I h
 refine wpAny_If (thn (hc pins s σ H _ I h) λd s1 ⟨H1,I1,q1⟩=>?_)
 cases d with
 | true=>exact ha pins s1 σ H1 D I1 q1
 | false=>exact hb pins s1 σ H1 D I1 q1
noncomputable def zB:TS:=λ_ _ _=>False
theorem fH {sts:List Stmt}:PSs X sts zB:=λ_ _ _ _ _ _ h=>h.elim
end
abbrev TG:=V->St->Hp->(St->Hp->Prop)->Prop
abbrev TGs:=List V->St->Hp->(St->Hp->Prop)->Prop
noncomputable def PG (X:Cx) (target:Expr) (t:TG):Prop:=
 ∀ (pins:List (Addr×Obj)) (s:Shared) (σ:St) (H:Hp) (v:V) (u:Value) (Q:St->Hp->Prop),Inv X pins σ H s->aX v u->t v σ H Q->
  wpAny (model X.prog X.w) X.A (assign target X.env u) (λ_ s'=>∃ σ' H',Inv X pins σ' H' s'/\Q σ' H') X.xe s
noncomputable def PGs (X:Cx) (ts:List Expr) (t:TGs):Prop:=
 ∀ (pins:List (Addr×Obj)) (s:Shared) (σ:St) (H:Hp) (vs:List V) (us:List Value) (Q:St->Hp->Prop),Inv X pins σ H s->aK vs us->t vs σ H Q->
  wpAny (model X.prog X.w) X.A (assignInOrder ((assignEach ts X.env).map (·.2)) us) (λ_ s'=>∃ σ' H',Inv X pins σ' H' s'/\Q σ' H') X.xe s
abbrev yM:=V->V->V->Hp->(Hp->Prop)->Prop
noncomputable def zZ (X:Cx) (t:yM):Prop:=
 ∀ (pins:List (Addr×Obj)) (s:Shared) (σ:St) (H:Hp) (o i v:V) (ov iv u:Value) (Q:Hp->Prop),Inv X pins σ H s->aX o ov->aX i iv->aX v u->t o i v H Q->
  wpAny (model X.prog X.w) X.A (setItem ov iv u) (λ_ s'=>∃ H',Inv X pins σ H' s'/\Q H') X.xe s
section
variable {X:Cx}{pos:Pos}
noncomputable def oo (i:Nat):TG:=λv σ H Q=>Q (σ.set i (some v)) H
theorem ax {i:Nat}{x:Str} (hN:X.N.Nodup) (hi:X.N[i]?=some x) (hx:Loc X.env.scope x) (hf:X.fn x=true\/X.env.scope.names.lookup x=some .local:=by first | exact .inl rfl | exact .inr rfl | assumption):PG X (.Name x pos) (oo i):=by
 intro pins s σ H v u Q I r h
 exact wpAny_assign_Name (fv I hN hi hx r (λs' I'=>⟨_,H,I',h⟩) hf)
noncomputable def A3:TGs:=λvs σ H Q=>vs=[]/\Q σ H
noncomputable def Ax (t:TG) (u:TGs):TGs:=λvs σ H Q=>∃ v r,vs=v::r/\t v σ H λσ' H'=>u r σ' H' Q
theorem wP:PGs X [] A3:=by
 intro pins s σ H vs us Q I r h
 obtain⟨e,h⟩:=h
 subst e
 cases r
 exact assignInOrder_nil ⟨σ,H,I,h⟩
theorem tK {e:Expr}{es:List Expr}{t:TG}{u:TGs} (h1:PG X e t) (h2:PGs X es u)
  (hs:(assignEach (e::es) X.env).map (·.2)=assign e X.env::(assignEach es X.env).map (·.2):=by rfl):PGs X (e::es) (Ax t u):=by
 intro pins s σ H vs us Q I r h
 obtain⟨v,vr,e1,h⟩:=h
 subst e1
 cases r with
 | cons r rr=>
  rw [hs]
  refine assignInOrder_cons (thn (h1 pins s σ H _ _ _ I r h) λ_ s1 ⟨σ1,H1,I1,q1⟩=>?_)
  exact h2 pins s1 σ1 H1 _ _ Q I1 rr q1
noncomputable def AY (K:PySem.W.Frag) (n:Nat) (t:TGs):TG:=λv σ H Q=>∃ a xs,v=.ref a/\SqT K H a xs/\xs.length=n/\t xs σ H Q
theorem ym {es:List Expr}{k:Nat}{t:TGs}{n:Nat} (hc:X.calm=true) (h:PGs X es t)
  (hn:(assignEach es X.env).length=n:=by rfl) (hst:(assignEach es X.env).findIdx? (·.1)=none:=by rfl):PG X (.Tuple es k pos) (AY X.K n t):=by
 intro pins s σ H v u Q I r hw
 obtain⟨a,xs,e1,hq,hl,hw⟩:=hw
 subst e1
 cases r
 obtain⟨its,rv,ht,hz⟩:=I.tuple hq
 refine assign_Tuple_tuple (I.ok.hd hc) ht (by simp [hn,<-hl,rv.length]) hst λh' hx=>?_
 have I1:Inv X pins σ H { s with heap:=h' }:=I.kept (t':=s.toks) λb o e=>hx b o (Nat.ne_of_lt (Heap.lt_size e)) e
 exact h pins _ σ H xs _ Q I1 (by simpa using rv) hw
noncomputable def A4 (to ti:TE) (t:yM):TG:=λv σ H Q=>to σ H λo H1=>ti σ H1 λi H2=>t o i v H2 λH3=>Q σ H3
theorem uF {o i:Expr}{to ti:TE}{t:yM} (ho:PE X o to) (hi:PE X i ti) (hs:zZ X t)
  (ha:∀ v,assign (.Subscript o i pos) X.env v=(do
    let ov <-holding [v] (eval o X.env)
    let iv <-holding [v,ov] (eval i X.env)
    standAt pos
    holding [v,ov,iv] (setItem ov iv v)
    release [v,ov,iv] []):=by intro _;rfl):PG X (.Subscript o i pos) (A4 to ti t):=by
 intro pins s σ H v u Q I r h
 rw [ha]
 refine wpAny_bind (wpAny_holding (thn (ho pins s σ H _ I h) λov s1 ⟨x,H1,I1,r1,q1⟩=>?_))
 refine wpAny_bind (wpAny_holding (thn (hi pins s1 σ H1 _ I1 q1) λiv s2 ⟨y,H2,I2,r2,q2⟩=>?_))
 refine wpAny_bind (wpAny_standAt (wpAny_bind (wpAny_holding (thn (hs pins s2 σ H2 x y v ov iv u _ I2 r1 r2 r q2) λ_ s3 ⟨H3,I3,q3⟩=>?_))))
 exact wpAny_release ⟨σ,H3,I3,q3⟩
noncomputable def zm (te:TE) (g:TG):TS:=λD σ H=>te σ H λx H1=>g x σ H1 D.nx
theorem tZ {tg e:Expr}{te:TE}{g:TG} (he:PE X e te) (hg:PG X tg g) (hs:swapsWithSole [tg] e pos.line X.env=pure false:=by rfl) (hw:swappedStores [tg] e X.env=pure none:=by rfl)
  (h1:(assignEach [tg] X.env).map (·.2)=[assign tg X.env]:=by rfl):PS X (.Assign [tg] e pos) (zm te g):=by
 intro pins s σ H D I h
 refine wpAny_Assign_stores (thn (he pins s σ H _ I h) λv s1 ⟨x,H1,I1,r1,q1⟩=>?_) hs hw
 rw [h1]
 exact thn (hg pins s1 σ H1 x v _ I1 r1 q1) λ_ s2 q=>q
theorem yd {i:Nat}{x:Str}{e:Expr}{te:TE}{pos':Pos} (hN:X.N.Nodup) (hi:X.N[i]?=some x) (hx:Loc X.env.scope x) (he:PE X e te) (hs:swapsWith e (some (.Name x pos')) pos.line X.env=pure false:=by rfl) (hf:X.fn x=true\/X.env.scope.names.lookup x=some .local:=by first | exact .inl rfl | exact .inr rfl | assumption) :
  PS X (.Assign [.Name x pos'] e pos) (zm te (oo i)):=by
 intro pins s σ H D I h
 refine wpAny_Assign_Name (thn (he pins s σ H _ I h) λv s1 ⟨y,H1,I1,r1,q1⟩=>?_) hs
 exact fv I1 hN hi hx r1 (λs2 I2=>⟨_,H1,I2,q1⟩) hf
end
section
variable {X:Cx}{pos:Pos}
noncomputable def yR (c:TT) (tb:TS):TS:=λD σ H=>∃ W:Nat->St->Hp->Prop,(∃ m,W m σ H)/\∀ m σ H,W m σ H->
 c σ H λb H1=>if b=true then ∃ N:St->Hp->Prop,(∀ σ' H',N σ' H'->∃ m',m' < m/\W m' σ' H')/\tb { D with nx:=N,ct:=N,bk:=D.nx } σ H1 else D.nx σ H1
theorem tM {c:Expr}{body:List Stmt}{tc:TT}{tb:TS} (hp:PassesOwn (model X.prog X.w) X.A X.env X.xe) (hc:PT X c tc) (hb:PSs X body tb):PS X (.While c body [] pos) (yR tc tb):=by
 intro pins s σ H D I h
 obtain⟨W,⟨m0,w0⟩,turn⟩:=h
 refine wpAny_While (codeAny_whileLoop (λn s'=>∃ σ' H',Inv X pins σ' H' s'/\W n σ' H') ?_ m0 ⟨σ,H,I,w0⟩)
 rintro n s1 ⟨σ1,H1,I1,w1⟩
 refine wpAny_passesOwn hp (thn (hc pins s1 σ1 H1 _ I1 (turn n σ1 H1 w1)) λb s2 ⟨H2,I2,q2⟩=>?_)
 cases b with
 | true=>
  obtain⟨N,hN,q2⟩:=q2
  rw [if_pos rfl]
  refine wpAny_passesOwn hp (thn (hb pins s2 σ1 H2 _ I2 q2) λf s3 q3=>?_)
  cases f with
  | next=>
   obtain⟨σ3,H3,I3,n3⟩:=q3
   obtain⟨m',hm,w3⟩:=hN σ3 H3 n3
   exact⟨m',hm,σ3,H3,I3,w3⟩
  | cont=>
   obtain⟨σ3,H3,I3,n3⟩:=q3
   obtain⟨m',hm,w3⟩:=hN σ3 H3 n3
   exact⟨m',hm,σ3,H3,I3,w3⟩
  | brk=>exact q3
  | ret v=>exact q3
 | false=>
  rw [if_neg Bool.false_ne_true]
  exact wpAny_execs_nil ⟨σ1,H2,I2,q2⟩
end
structure It where
 go:Nat->Hp->Prop
 yld:Nat->Hp->V->Hp->Prop
 stop:Nat->Hp->Prop
noncomputable def ic (X:Cx) (pins:List (Addr×Obj)) (H:Hp) (b:Addr):Prop:=
 H b=none/\b≠X.env.locals/\b ∉ X.fs/\(b ∈ X.ex\/X.s₀.heap.objs.size<=b)/\(∀ x c,X.env.cells.lookup x=some c->c≠b)/\∀ p ∈ X.pn++pins,p.1≠b
theorem Inv.fpOk {X:Cx}{pins:List (Addr×Obj)}{σ:St}{H H':Hp}{s:Shared}{b:Addr} (I:Inv X pins σ H s) (hb:s.heap.objs.size<=b) (hn:H' b=none):ic X pins H' b:=by
 refine⟨hn,Nat.ne_of_gt (Nat.lt_of_lt_of_le I.lt hb),I.nofs hb,.inr (Nat.le_trans I.sz hb),λx c e z=>?_,λp hp z=>?_⟩
 ·obtain⟨v,q⟩:=I.cell x c e
  exact absurd (Nat.lt_of_lt_of_le q.lt (by rw [z];exact hb)) (Nat.lt_irrefl _)
 ·exact absurd (Nat.lt_of_lt_of_le (Heap.lt_size (I.pin p hp).1) (by rw [z];exact hb)) (Nat.lt_irrefl _)
structure pU (P:Program) (w:World) (K:PySem.W.Frag) (tg:Expr) (J:It) (fp:List Addr) (it:Addr) (tn:Nat->Heap->Prop):Prop where
 mem:it ∈ fp
 obj:∀ i h,tn i h->∀ b ∈ fp,∃ o,h.get? b=some o/\∀ v,o.data≠.cell v
 keep:∀ i h h',tn i h->(∀ b ∈ fp,∀ o,h.get? b=some o->h'.get? b=some o)->tn i h'
 item:∀ (X:Cx),X.prog=P->X.w=w->X.K=K->X.calm=true->∀ (i:Nat) (pins:List (Addr×Obj)) (s:Shared) (σ:St) (H:Hp) (E:Value->Shared->Prop),Inv X pins σ H s->(∀ b ∈ fp,ic X pins H b)->tn i s.heap->J.go i H->
  wpAny (model P w) X.A (pyNext (.ref it)) (λr s1=>∃ u,r=some u/\
   wpAny (model P w) X.A (letOwnedTupleGo tg (.ref it) u) (λ_ s2=>∃ x H',Inv X pins σ H' s2/\aX x u/\J.yld i H x H'/\tn (i+1) s2.heap/\∀ b ∈ fp,H' b=none) E s1) E s
 done:∀ (X:Cx),X.prog=P->X.w=w->X.K=K->X.calm=true->∀ (i:Nat) (pins:List (Addr×Obj)) (s:Shared) (σ:St) (H:Hp) (E:Value->Shared->Prop),Inv X pins σ H s->(∀ b ∈ fp,ic X pins H b)->tn i s.heap->J.stop i H->
  wpAny (model P w) X.A (pyNext (.ref it)) (λr s1=>r=none/\Inv X pins σ H s1) E s
 self:∀ (A:Around) (i:Nat) (s:Shared) (Q:Value->Shared->Prop) (E:Value->Shared->Prop),tn i s.heap->Q (.ref it) s->wpAny (model P w) A (pyIter (.ref it)) Q E s
abbrev TI:=St->Hp->(It->Hp->Prop)->Prop
noncomputable def PIE (X:Cx) (pins:List (Addr×Obj)) (σ:St) (tg:Expr) (R:It->Hp->Prop) (itv:Value) (s2:Shared):Prop:=
 ∃ (it:Addr) (fp:List Addr) (tn:Nat->Heap->Prop) (J:It) (H':Hp),itv=.ref it/\Inv X pins σ H' s2/\pU X.prog X.w X.K tg J fp it tn/\tn 0 s2.heap/\(∀ b ∈ fp,ic X pins H' b)/\R J H'
noncomputable def PI (X:Cx) (tg iter:Expr) (wi:TI):Prop:=
 ∀ (pins:List (Addr×Obj)) (s:Shared) (σ:St) (H:Hp) (R:It->Hp->Prop),Inv X pins σ H s->wi σ H R->
  wpAny (model X.prog X.w) X.A (eval iter X.env) (λv s1=>wpAny (model X.prog X.w) X.A (pyIter v) (PIE X pins σ tg R) X.xe s1) X.xe s
theorem tF {M:Model}{A:Around}{E:Value->Shared->Prop}{s:Shared}{tg:Expr}{it:Addr}{u:Value}{o:Obj}{n:String}{vs:Array Value}{Q:Unit->Shared->Prop} (ho:s.heap.get? it=some o) (hc:o.cls=.type n) (hd:o.data=.fields vs)
  (hn:["enumerate","zip","dict_itemiterator","dict_reverseitemiterator","odict_iterator","itertools.zip_longest","itertools.pairwise"].contains n=false) (hQ:Q () s):wpAny M A (letOwnedTupleGo tg (.ref it) u) Q E s:=by
 unfold letOwnedTupleGo
 cases tg<;>first
  | exact wpAny_pure hQ
  | (cases u<;>first
      | exact wpAny_pure hQ
      | (refine wpAny_bind (wpAny_load ho ?_)
         rw [hc,hd]
         show wpAny M A (if (["enumerate","zip","dict_itemiterator","dict_reverseitemiterator","odict_iterator","itertools.zip_longest","itertools.pairwise"].contains n && vs[0]?==some (rawInt _))=true then _ else _) Q E s
         rw [if_neg (by intro h;rw [hn,Bool.false_and] at h;cases h)]
         exact wpAny_pure hQ))
noncomputable def Itl (K:PySem.W.Frag) (a:Addr):It:=
 ⟨λi H=>∃ xs x,SqL K H a xs/\xs[i]?=some x,λi H x H'=>H'=H/\∀ xs,SqL K H a xs->xs[i]?=some x,λi H=>∃ xs,SqL K H a xs/\xs.length<=i⟩
noncomputable def Itt (K:PySem.W.Frag) (a:Addr):It:=
 ⟨λi H=>∃ xs x,SqT K H a xs/\xs[i]?=some x,λi H x H'=>H'=H/\∀ xs,SqT K H a xs->xs[i]?=some x,λi H=>∃ xs,SqT K H a xs/\xs.length<=i⟩
noncomputable def Itr (lo:Int) (n:Nat):It:=⟨λi _=>i < n,λi H x H'=>H'=H/\x=.int (lo+i),λi _=>n<=i⟩
theorem sM {P:Program}{w:World}{K:PySem.W.Frag}{tg:Expr} (a it:Addr):pU P w K tg (Itl K a) [it] it (λi h=>h.IsListIter it a i) where
 mem:=by simp
 obj:=λi h st b hb=>by
  have e:b=it:=by simpa using hb
  subst e
  obtain⟨o,e,c,d⟩:=st
  exact⟨o,e,λv z=>by rw [d] at z;cases z⟩
 keep:=λi h h' st k=>st.at λo e=>k it (by simp) o e
 item:=by
  intro X hP hw hK hc i pins s σ H E I hf st hg
  subst hP hw hK
  obtain⟨xs,x,hq,hx⟩:=hg
  obtain⟨its,rv,p,hz⟩:=I.list hq
  obtain⟨u,hu,ru⟩:=rv.get hx
  obtain⟨f0,f1,f2,f3,f4,f5⟩:=hf it (by simp)
  refine wpAny_pyNext_list_item st p.isList (x:=u) (by simpa using hu) λh' st' sb=>?_
  have I1:Inv X pins σ H { s with heap:=h' }:=I.turned (t':=s.toks) (λb o hb e=>(sb.2 b hb).trans e) f0 f1 f3 f4 f5
  obtain⟨o,e,c,d⟩:=id st'
  exact⟨u,rfl,tF (s:={ s with heap:=h' }) e c d (by decide) ⟨x,H,I1,ru,⟨rfl,λys hy=>by rw [I.list_inj hy hq];exact hx⟩,st',λb hb=>(hf b hb).1⟩⟩
 done:=by
  intro X hP hw hK hc i pins s σ H E I hf st hg
  subst hP hw hK
  obtain⟨xs,hq,hx⟩:=hg
  obtain⟨its,rv,p,hz⟩:=I.list hq
  obtain⟨f0,f1,f2,f3,f4,f5⟩:=hf it (by simp)
  have hl:=rv.length
  exact wpAny_pyNext_list_end (I.ok.hd hc) st p.isList (by simp;lia) λh' eb=>⟨rfl,I.turned (t':=s.toks) (λb o hb e=>eb b o hb e) f0 f1 f3 f4 f5⟩
 self:=λ_ _ _ _ _ st h=>wpAny_pyIter_listiter st h
theorem p7 {P:Program}{w:World}{K:PySem.W.Frag}{tg:Expr} (a it:Addr):pU P w K tg (Itt K a) [it] it (λi h=>h.IsTupleIter it a i) where
 mem:=by simp
 obj:=λi h st b hb=>by
  have e:b=it:=by simpa using hb
  subst e
  obtain⟨o,e,c,d⟩:=st
  exact⟨o,e,λv z=>by rw [d] at z;cases z⟩
 keep:=λi h h' st k=>st.at λo e=>k it (by simp) o e
 item:=by
  intro X hP hw hK hc i pins s σ H E I hf st hg
  subst hP hw hK
  obtain⟨xs,x,hq,hx⟩:=hg
  obtain⟨its,rv,p,hz⟩:=I.tuple hq
  obtain⟨u,hu,ru⟩:=rv.get hx
  obtain⟨f0,f1,f2,f3,f4,f5⟩:=hf it (by simp)
  refine wpAny_pyNext_tuple_item st (show s.heap.IsTuple a its.toArray from p) (x:=u) (by simpa using hu) λh' st' sb=>?_
  have I1:Inv X pins σ H { s with heap:=h' }:=I.turned (t':=s.toks) (λb o hb e=>(sb.2 b hb).trans e) f0 f1 f3 f4 f5
  obtain⟨o,e,c,d⟩:=id st'
  exact⟨u,rfl,tF (s:={ s with heap:=h' }) e c d (by decide) ⟨x,H,I1,ru,⟨rfl,λys hy=>by rw [I.tuple_inj hy hq];exact hx⟩,st',λb hb=>(hf b hb).1⟩⟩
 done:=by
  intro X hP hw hK hc i pins s σ H E I hf st hg
  subst hP hw hK
  obtain⟨xs,hq,hx⟩:=hg
  obtain⟨its,rv,p,hz⟩:=I.tuple hq
  obtain⟨f0,f1,f2,f3,f4,f5⟩:=hf it (by simp)
  have hl:=rv.length
  exact wpAny_pyNext_tuple_end (I.ok.hd hc) st (show s.heap.IsTuple a its.toArray from p) (by simp;lia) λh' eb=>⟨rfl,I.turned (t':=s.toks) (λb o hb e=>eb b o hb e) f0 f1 f3 f4 f5⟩
 self:=λ_ _ _ _ _ st h=>wpAny_pyIter_tupleiter st h
theorem qh {P:Program}{w:World}{K:PySem.W.Frag}{tg:Expr} (it:Addr) (lo:Int) (n:Nat):pU P w K tg (Itr lo n) [it] it (λi h=>IsRangeIter h it (lo+(i:Nat)*1) ((n:Int) - (i:Nat)) 1) where
 mem:=by simp
 obj:=λi h st b hb=>by
  have e:b=it:=by simpa using hb
  subst e
  exact⟨_,st,λv z=>by
   have z':Data.fields _=Data.cell v:=z
   cases z'⟩
 keep:=λi h h' st k=>k it (by simp) _ st
 item:=by
  intro X hP hw hK hc i pins s σ H E I hf st hg
  subst hP hw hK
  obtain⟨f0,f1,f2,f3,f4,f5⟩:=hf it (by simp)
  have W:=Walks.range (prog:=X.prog) (w:=X.w) (I.ok.hd hc) it lo 1 n
  refine W.item i s _ _ hg st λv h' tk hv st' kk=>?_
  obtain⟨t,rfl⟩:=hv
  have I1:Inv X pins σ H { s with heap:=h',toks:=tk }:=I.turned (λb o hb e=>kk b o (by simpa using hb) e) f0 f1 f3 f4 f5
  refine⟨_,rfl,tF (s:={ s with heap:=h',toks:=tk }) (n:="range_iterator") st' rfl rfl (by decide) ⟨.int (lo+i),H,I1,⟨t,?_⟩,⟨rfl,rfl⟩,st',λb hb=>(hf b hb).1⟩⟩
  rw [Int.mul_one]
 done:=by
  intro X hP hw hK hc i pins s σ H E I hf st hg
  subst hP hw hK
  obtain⟨f0,f1,f2,f3,f4,f5⟩:=hf it (by simp)
  exact wpAny_pyNext_range_end (I.ok.hd hc) st (by have:n<=i:=hg;lia) λh' eb=>⟨rfl,I.turned (t':=s.toks) (λb o hb e=>eb b o hb e) f0 f1 f3 f4 f5⟩
 self:=λ_ _ _ _ _ st h=>wpAny_pyIter_rangeiter st h
end L2
namespace L2
open PySem PySem.Spec PyProof.Rows
section
variable {X:Cx}{tg:Expr}
noncomputable def AJ (K:PySem.W.Frag) (tl:TE):TI:=λσ H R=>tl σ H λx H1=>∃ a,x=.ref a/\(∃ xs,SqL K H1 a xs)/\R (Itl K a) H1
noncomputable def AR (K:PySem.W.Frag) (tl:TE):TI:=λσ H R=>tl σ H λx H1=>∃ a,x=.ref a/\(∃ xs,SqT K H1 a xs)/\R (Itt K a) H1
theorem xx {l:Expr}{tl:TE} (hl:PE X l tl):PI X tg l (AJ X.K tl):=by
 intro pins s σ H R I h
 refine thn (hl pins s σ H _ I h) λv s1 ⟨x,H1,I1,r1,q1⟩=>?_
 obtain⟨a,e,⟨xs,hq⟩,q⟩:=q1
 subst e
 cases r1
 obtain⟨its,rv,p,hz⟩:=I1.list hq
 refine wpAny_pyIter_list p.isList ?_
 refine⟨s1.heap.objs.size,[s1.heap.objs.size],_,_,H1,rfl,I1.kept (t':=s1.toks) λb o e=>Heap.get?_push_of_some _ e,sM a _,⟨_,Heap.get?_push_size _ rfl,rfl,rfl⟩,λb hb=>?_,q⟩
 have e:b=s1.heap.objs.size:=by simpa using hb
 subst e
 exact I1.fpOk (Nat.le_refl _) (I1.hok.fresh (Nat.le_refl _))
theorem ya {l:Expr}{tl:TE} (hl:PE X l tl):PI X tg l (AR X.K tl):=by
 intro pins s σ H R I h
 refine thn (hl pins s σ H _ I h) λv s1 ⟨x,H1,I1,r1,q1⟩=>?_
 obtain⟨a,e,⟨xs,hq⟩,q⟩:=q1
 subst e
 cases r1
 obtain⟨its,rv,p,hz⟩:=I1.tuple hq
 refine wpAny_pyIter_tuple (show s1.heap.IsTuple a its.toArray from p) ?_
 refine⟨s1.heap.objs.size,[s1.heap.objs.size],_,_,H1,rfl,I1.kept (t':=s1.toks) λb o e=>Heap.get?_push_of_some _ e,p7 a _,⟨_,Heap.get?_push_size _ rfl,rfl,rfl⟩,λb hb=>?_,q⟩
 have e:b=s1.heap.objs.size:=by simpa using hb
 subst e
 exact I1.fpOk (Nat.le_refl _) (I1.hok.fresh (Nat.le_refl _))
theorem tD {pins:List (Addr×Obj)}{σ:St}{H:Hp}{s:Shared}{R:It->Hp->Prop}{E:Value->Shared->Prop}{lo hi:Int}{t u v:Tok}{tk:Nat} (I:Inv X pins σ H s) (h1:-(2 ^ 62)<=lo) (h2:lo < 2 ^ 62) (h3:-(2 ^ 62)<=hi) (h4:hi < 2 ^ 62)
  (q:R (Itr lo (hi - lo).toNat) H):wpAny (model X.prog X.w) X.A (pyIter (.ref s.heap.objs.size)) (PIE X pins σ tg R) E { s with heap:=s.heap.push { cls:=.type "range",data:=.fields #[.int lo t,.int hi u,.int 1 v] },toks:=tk }:=by
 refine wpAny_pyIter_range (IsRange.new ..) (small_one h1 h2 h3 h4) ?_
 have I1:Inv X pins σ H { s with heap:=s.heap.push { cls:=.type "range",data:=.fields #[.int lo t,.int hi u,.int 1 v] },toks:=tk }:=I.kept λb o e=>Heap.get?_push_of_some _ e
 refine⟨(s.heap.push { cls:=.type "range",data:=.fields #[.int lo t,.int hi u,.int 1 v] }).objs.size,[(s.heap.push { cls:=.type "range",data:=.fields #[.int lo t,.int hi u,.int 1 v] }).objs.size],_,_,H,rfl,
  I1.kept (t':=tk) λb o e=>Heap.get?_push_of_some _ e,qh _ lo (hi - lo).toNat,?_,λb hb=>?_,q⟩
 ·have e1:lo+((0:Nat):Int)*1=lo:=by simp
  have e2:(((hi - lo).toNat:Nat):Int) - ((0:Nat):Int)=Builtin.Range.rangeSize lo hi 1:=by rw [rangeSize_one];split<;>lia
  show IsRangeIter _ _ (lo+((0:Nat):Int)*1) ((((hi - lo).toNat:Nat):Int) - ((0:Nat):Int)) 1
  rw [e1,e2]
  exact Heap.get?_push_size _ rfl
 ·have e:b=(s.heap.push { cls:=.type "range",data:=.fields #[.int lo t,.int hi u,.int 1 v] }).objs.size:=by simpa using hb
  subst e
  exact I1.fpOk (Nat.le_refl _) (I1.hok.fresh (Nat.le_refl _))
noncomputable def AH (ta:TA):TI:=λσ H R=>ta σ H λvs H1=>∃ j:Int,vs=[.int j]/\-(2 ^ 62)<=j/\j < 2 ^ 62/\R (Itr 0 j.toNat) H1
theorem sn {a:Expr}{ta:TA}{p pos:Pos} (hg:Gl X "range") (hm:X.mg "range" = none) (ha:PA X [a] ta) (hs:starEach [a] X.env=[(false,eval a X.env)]:=by rfl):PI X tg (.Call (.Name "range" p) [a] [] pos) (AH ta):=by
 intro pins s σ H R I h
 refine Call_ (iI I hg hm boot_range (PyProof.Rows.callWith_type1 (thn (ha pos pins s σ H _ I h) λus s1 ⟨vs,H1,I1,r1,q1⟩=>?_) hs rfl))
 obtain⟨j,e,q1,q2,q⟩:=q1
 subst e
 cases r1 with
 | cons r rr=>
  cases rr
  obtain⟨t,rfl⟩:=r
  exact call_range_1 (tD I1 (by lia) (by lia) q1 q2 (by simpa using q))
noncomputable def Ba (wi:TI) (g:TG) (tb:TS):TS:=λD σ H=>wi σ H λJ H1=>∃ W:Nat->Nat->St->Hp->Prop,(∃ m,W 0 m σ H1)/\∀ i m σ H,W i m σ H->
 (J.stop i H/\D.nx σ H)\/(J.go i H/\∃ N:St->Hp->Prop,(∀ σ' H',N σ' H'->∃ m',m' < m/\W (i+1) m' σ' H')/\∀ x H',J.yld i H x H'->g x σ H' λσ2 H2=>tb { D with nx:=N,ct:=N,bk:=D.nx } σ2 H2)
noncomputable def jA (fp:List Addr) (h:Heap):List (Addr×Obj):=fp.filterMap λb=>(h.get? b).map λo=>(b,o)
theorem cT {fp:List Addr}{h:Heap}{b:Addr}{o:Obj} (hb:b ∈ fp) (e:h.get? b=some o):(b,o) ∈ jA fp h:=List.mem_filterMap.mpr ⟨b,hb,by rw [e];rfl⟩
theorem sP {fp:List Addr}{h:Heap}{p:Addr×Obj} (hp:p ∈ jA fp h):p.1 ∈ fp/\h.get? p.1=some p.2:=by
 obtain⟨b,hb,e⟩:=List.mem_filterMap.mp hp
 cases q:h.get? b with
 | none=>rw [q] at e;cases e
 | some o=>
  rw [q] at e
  have e':(b,o)=p:=Option.some.inj e
  subst e'
  exact⟨hb,q⟩
theorem Inv.pinned {pins:List (Addr×Obj)}{σ:St}{H:Hp}{s:Shared}{fp:List Addr} (I:Inv X pins σ H s) (hf:∀ b ∈ fp,ic X pins H b) (ho:∀ b ∈ fp,∃ o,s.heap.get? b=some o/\∀ v,o.data≠.cell v):Inv X (pins++jA fp s.heap) σ H s:=
 I.pins_of λp hp=>(List.mem_append.mp hp).elim (λz=>I.pin p (List.mem_append_right _ z)) λz=>by
  obtain⟨hb,e⟩:=sP z
  obtain⟨f0,f1,f2,_⟩:=hf p.1 hb
  obtain⟨o,e',d⟩:=ho p.1 hb
  rw [e] at e';cases e'
  exact⟨e,f0,f1,f2,d⟩
theorem Inv.unpinned {pins pl:List (Addr×Obj)}{σ:St}{H:Hp}{s:Shared} (I:Inv X (pins++pl) σ H s):Inv X pins σ H s:=I.pins_of λp hp=>I.pin p (List.mem_append_right _ (List.mem_append_left _ hp))
theorem yA {iter:Expr}{body:List Stmt}{wi:TI}{g:TG}{tb:TS}{pos:Pos} (hp:PassesOwn (model X.prog X.w) X.A X.env X.xe) (hc:X.calm=true) (hi:PI X tg iter wi) (hg:PG X tg g) (hb:PSs X body tb)
  (hs:∀ x,foldedSetIterable iter X.env x=pure x:=by intro _;rfl):PS X (.For tg iter body [] pos) (Ba wi g tb):=by
 intro pins s σ H D I h
 refine wpAny_For (thn (hi pins s σ H _ I h) λv s1 h1=>thn h1 λitv s2 h2=>?_) hs
 obtain⟨it,fp,tn,J,H2,e,I2,T,st2,f2,W,⟨m0,w0⟩,turn⟩:=h2
 subst e
 -- what stays true of the iterator's objects through the loop
 have stat:∀ {H':Hp},(∀ b ∈ fp,H' b=none)->∀ b ∈ fp,ic X pins H' b:=λhn b hb=>⟨hn b hb,(f2 b hb).2⟩
 refine codeAny_forLoop_any (λn s'=>∃ i σ' H',Inv X pins σ' H' s'/\tn i s'.heap/\(∀ b ∈ fp,H' b=none)/\W i n σ' H') ?_ m0 ⟨0,σ,H2,I2,st2,λb hb=>(f2 b hb).1,w0⟩
 rintro n s3 ⟨i,σ3,H3,I3,st3,fr3,w3⟩
 rcases turn i n σ3 H3 w3 with⟨stop,qn⟩ | ⟨go,N,hN,step⟩
 ·refine wpAny_passesOwn hp (thn (T.done X rfl rfl rfl hc i pins s3 σ3 H3 X.xe I3 (stat fr3) st3 stop) λr s4 ⟨hr,I4⟩=>?_)
  subst hr
  exact wpAny_execs_nil ⟨σ3,H3,I4,qn⟩
 ·refine wpAny_passesOwn hp (thn (T.item X rfl rfl rfl hc i pins s3 σ3 H3 X.xe I3 (stat fr3) st3 go) λr s4 ⟨u,hr,h4⟩=>?_)
  subst hr
  refine wpAny_passesOwn hp (thn h4 λ_ s5 ⟨x,H5,I5,r5,y5,st5,fr5⟩=>?_)
  have I5':=I5.pinned (stat fr5) (T.obj _ _ st5)
  refine wpAny_passesOwn hp (thn (hg _ s5 σ3 H5 x u _ I5' r5 (step x H5 y5)) λ_ s6 ⟨σ6,H6,I6,q6⟩=>?_)
  refine wpAny_passesOwn hp (thn (hb _ s6 σ6 H6 _ I6 q6) λf s7 q7=>?_)
  have again:∀ {σ7:St}{H7:Hp},Inv X (pins++jA fp s5.heap) σ7 H7 s7->N σ7 H7->∃ m,m < n/\∃ i σ' H',Inv X pins σ' H' s7/\tn i s7.heap/\(∀ b ∈ fp,H' b=none)/\W i m σ' H':=λ{σ7 H7} I7 n7=>by
   obtain⟨m',hm,w7⟩:=hN σ7 H7 n7
   refine⟨m',hm,i+1,σ7,H7,I7.unpinned,T.keep _ _ _ st5 λb hb o e=>(I7.pin (b,o) (List.mem_append_right _ (List.mem_append_right _ (cT hb e)))).1,λb hb=>?_,w7⟩
   obtain⟨o,e,d⟩:=T.obj _ _ st5 b hb
   exact (I7.pin (b,o) (List.mem_append_right _ (List.mem_append_right _ (cT hb e)))).2.1
  cases f with
  | next=>obtain⟨σ7,H7,I7,n7⟩:=q7;exact again I7 n7
  | cont=>obtain⟨σ7,H7,I7,n7⟩:=q7;exact again I7 n7
  | brk=>obtain⟨σ7,H7,I7,q7⟩:=q7;exact⟨σ7,H7,I7.unpinned,q7⟩
  | ret v=>obtain⟨x7,σ7,H7,I7,r7,q7⟩:=q7;exact⟨x7,σ7,H7,I7.unpinned,r7,q7⟩
end
end L2
namespace L2
open PySem PySem.Spec PyProof.Rows
abbrev R2:=V->V->Hp->VK->Prop
noncomputable def OpR (X:Cx) (f:Value->Value->Sem Value) (r:R2):Prop:=
 ∀ (pins:List (Addr×Obj)) (s:Shared) (σ:St) (H:Hp) (x y:V) (v u:Value) (Q:VK),Inv X pins σ H s->aX x v->aX y u->r x y H Q->
  wpAny (model X.prog X.w) X.A (f v u) (EP X pins σ Q) X.xe s
noncomputable def UnR (X:Cx) (f:Value->Sem Value) (r:V->Hp->VK->Prop):Prop:=
 ∀ (pins:List (Addr×Obj)) (s:Shared) (σ:St) (H:Hp) (x:V) (v:Value) (Q:VK),Inv X pins σ H s->aX x v->r x H Q->
  wpAny (model X.prog X.w) X.A (f v) (EP X pins σ Q) X.xe s
noncomputable def bR (X:Cx) (f:Value) (r:List V->Hp->VK->Prop):Prop:=
 ∀ (pins:List (Addr×Obj)) (s:Shared) (σ:St) (H:Hp) (xs:List V) (us:List Value) (Q:VK),Inv X pins σ H s->aK xs us->r xs H Q->
  wpAny (model X.prog X.w) X.A (call f us) (EP X pins σ Q) X.xe s
noncomputable def A9 (X:Cx) (r:V->Hp->(Bool->Hp->Prop)->Prop):Prop:=
 ∀ (pins:List (Addr×Obj)) (s:Shared) (σ:St) (H:Hp) (x:V) (v:Value) (Q:Bool->Hp->Prop),Inv X pins σ H s->aX x v->r x H Q->
  wpAny (model X.prog X.w) X.A (truthy v) (TP X pins σ Q) X.xe s
noncomputable def tOp (r:R2) (ta tb:TE):TE:=λσ H Q=>ta σ H λx H1=>tb σ H1 λy H2=>r x y H2 Q
noncomputable def tUn (r:V->Hp->VK->Prop) (ta:TE):TE:=λσ H Q=>ta σ H λx H1=>r x H1 Q
noncomputable def rI (C:Int->Int->Prop) (g:Int->Int->V):R2:=λx y H Q=>∃ i j,x=.int i/\y=.int j/\C i j/\Q (g i j) H
noncomputable def rI0 (g:Int->Int->V):R2:=λx y H Q=>∃ i j,x=.int i/\y=.int j/\Q (g i j) H
noncomputable def rU (g:Int->V):V->Hp->VK->Prop:=λx H Q=>∃ i,x=.int i/\Q (g i) H
section
variable {X:Cx}{a b c:Expr}{ta tb tc:TE}{pos:Pos}
theorem yq (ha:PE X a ta) (hb:PE X b tb) {pins:List (Addr×Obj)}{s:Shared}{σ:St}{H:Hp}{R:V->V->Hp->Prop} (I:Inv X pins σ H s)
  (h:ta σ H λx H1=>tb σ H1 λy H2=>R x y H2) {Q:Value->Shared->Prop}{f:Value->Value->Sem Value}
  (hf:∀ v u s2 x y H2,Inv X pins σ H2 s2->aX x v->aX y u->R x y H2->wpAny (model X.prog X.w) X.A (f v u) Q X.xe s2) :
  wpAny (model X.prog X.w) X.A (eval a X.env) (λv s₁=>wpAny (model X.prog X.w) X.A (eval b X.env) (λu s₂=>wpAny (model X.prog X.w) X.A (f v u) Q X.xe s₂) X.xe s₁) X.xe s:=by
 refine thn (ha pins s σ H _ I h) λv s1 ⟨x,H1,I1,r1,q1⟩=>?_
 refine thn (hb pins s1 σ H1 _ I1 q1) λu s2 ⟨y,H2,I2,r2,q2⟩=>?_
 exact hf v u s2 x y H2 I2 r1 r2 q2
theorem xT {op:Operator}{r:R2} (ho:OpR X (binaryOp op) r) (ha:PE X a ta) (hb:PE X b tb):PE X (.BinOp a op b pos) (tOp r ta tb):=by
 intro pins s σ H Q I h
 exact wpAny_BinOp (yq ha hb I h λv u s2 x y H2 I2 rx ry q=>ho pins s2 σ H2 x y v u Q I2 rx ry q)
theorem zU {op:UnaryOp}{r:V->Hp->VK->Prop} (ho:UnR X (unaryOp op) r) (ha:PE X a ta):PE X (.UnaryOp op a pos) (tUn r ta):=by
 intro pins s σ H Q I h
 exact UnaryOp_ (thn (ha pins s σ H _ I h) λv s1 ⟨x,H1,I1,r1,q1⟩=>ho pins s1 σ H1 x v Q I1 r1 q1)
theorem opI {f:Value->Value->Sem Value}{C:Int->Int->Prop}{g:Int->Int->Int}
  (rule:∀ (i j:Int) (t u:Tok) (s:Shared) (Q:Value->Shared->Prop) (E:Value->Shared->Prop),C i j->Q (.int (g i j) s.toks) { s with toks:=s.toks+1 }->wpAny (model X.prog X.w) X.A (f (.int i t) (.int j u)) Q E s) :
  OpR X f (rI C λi j=>.int (g i j)):=by
 intro pins s σ H x y v u Q I rx ry h
 obtain⟨i,j,rfl,rfl,hc,q⟩:=h
 obtain⟨t,rfl⟩:=rx
 obtain⟨t',rfl⟩:=ry
 exact rule i j t t' s _ _ hc ⟨.int (g i j),H,I.tok _,⟨_,rfl⟩,q⟩
theorem yN {f:Value->Value->Sem Value}{g:Int->Int->Int}
  (rule:∀ (i j:Int) (t u:Tok) (s:Shared) (Q:Value->Shared->Prop) (E:Value->Shared->Prop),Q (.int (g i j) s.toks) { s with toks:=s.toks+1 }->wpAny (model X.prog X.w) X.A (f (.int i t) (.int j u)) Q E s) :
  OpR X f (rI0 λi j=>.int (g i j)):=by
 intro pins s σ H x y v u Q I rx ry h
 obtain⟨i,j,rfl,rfl,q⟩:=h
 obtain⟨t,rfl⟩:=rx
 obtain⟨t',rfl⟩:=ry
 exact rule i j t t' s _ _ ⟨.int (g i j),H,I.tok _,⟨_,rfl⟩,q⟩
theorem xq {f:Value->Value->Sem Value}{g:Int->Int->Bool}
  (rule:∀ (i j:Int) (t u:Tok) (s:Shared) (Q:Value->Shared->Prop) (E:Value->Shared->Prop),Q (.bool (g i j)) s->wpAny (model X.prog X.w) X.A (f (.int i t) (.int j u)) Q E s) :
  OpR X f (rI0 λi j=>.bl (g i j)):=by
 intro pins s σ H x y v u Q I rx ry h
 obtain⟨i,j,rfl,rfl,q⟩:=h
 obtain⟨t,rfl⟩:=rx
 obtain⟨t',rfl⟩:=ry
 exact rule i j t t' s _ _ ⟨.bl (g i j),H,I,rfl,q⟩
noncomputable def AK (i j:Int):Prop:=0 < j/\j < 1073741824
noncomputable def oQ (i j:Int):Prop:=0<=j/\j<=1000000/\i.natAbs < 2 ^ 64
noncomputable def wt (i j:Int):Prop:=(-(2 ^ 64) < i/\i < 2 ^ 64)\/(-(2 ^ 64) < j/\j < 2 ^ 64)
theorem wt.ok {i j:Int} (h:wt i j):IntMulOk i j:=by
 rcases h with⟨h1,h2⟩ | ⟨h1,h2⟩
 ·exact .of_left (intBits_le_64 h1 h2)
 ·exact .of_right (intBits_le_64 h1 h2)
theorem qg (k:Nat):(0:Int)<=2 ^ k:=by
 rw [two_pow_cast]
 exact Int.natCast_nonneg _
theorem za:OpR X (binaryOp .Add) (rI0 λi j=>.int (i+j)):=yN λ_ _ _ _ _ _ _ q=>add_int q
theorem zz:OpR X (binaryOp .Sub) (rI0 λi j=>.int (i - j)):=yN λ_ _ _ _ _ _ _ q=>sub_int q
theorem vX:OpR X (binaryOp .FloorDiv) (rI AK λi j=>.int (i / j)):=opI λi j _ _ _ _ _ hc q=>by
 have h1:(0:Int) < j:=hc.1
 have h2:j < 1073741824:=hc.2
 exact floordiv_int (by lia) (by rw [Int.fdiv_eq_ediv_of_nonneg i (by lia)];exact q) (.inl (PyProof.noPylong_small (by lia)))
theorem yx:OpR X (binaryOp .Mod) (rI (λ_ j=>0 < j) λi j=>.int (i % j)):=opI λi j _ _ _ _ _ hc q=>by
 have h1:(0:Int) < j:=hc
 exact mod_int' (by lia) (by rw [Int.fmod_eq_emod_of_nonneg i (by lia)];exact q)
theorem yO:OpR X (binaryOp .Pow) (rI oQ λi j=>.int (i ^ j.toNat)):=opI λ_ _ _ _ _ _ _ hc q=>pow_int_small hc.1 hc.2.1 hc.2.2 q
theorem yU:OpR X (binaryOp .LShift) (rI oQ λi j=>.int (i*2 ^ j.toNat)):=opI λ_ _ _ _ _ _ _ hc q=>lshift_int_small hc.1 hc.2.1 hc.2.2 q
theorem zf:OpR X (binaryOp .RShift) (rI (λ_ j=>0<=j) λi j=>.int (i / 2 ^ j.toNat)):=opI λi j _ _ _ _ _ hc q=>
 rshift_int hc (by rw [Int.fdiv_eq_ediv_of_nonneg i (qg _)];exact q)
theorem zp:OpR X (binaryOp .BitAnd) (rI0 λi j=>.int (Builtin.bitAnd i j)):=yN λ_ _ _ _ _ _ _ q=>and_int q
theorem unI {f:Value->Sem Value}{g:Int->Int}
  (rule:∀ (i:Int) (t:Tok) (s:Shared) (Q:Value->Shared->Prop) (E:Value->Shared->Prop),Q (.int (g i) s.toks) { s with toks:=s.toks+1 }->wpAny (model X.prog X.w) X.A (f (.int i t)) Q E s) :
  UnR X f (rU λi=>.int (g i)):=by
 intro pins s σ H x v Q I rx h
 obtain⟨i,rfl,q⟩:=h
 obtain⟨t,rfl⟩:=rx
 exact rule i t s _ _ ⟨.int (g i),H,I.tok _,⟨_,rfl⟩,q⟩
theorem x8:UnR X (unaryOp .USub) (rU λi=>.int (-i)):=unI λ_ _ _ _ _ q=>neg_int q
end
section
variable {X:Cx}{a b c:Expr}{ta tb tc:TE}{pos:Pos}
theorem qs {pins:List (Addr×Obj)}{σ:St}{H:Hp}{s:Shared}{Q:VK}{k k':Bool} (I:Inv X pins σ H s) (q:Q (.bl k) H) (e:k=k'):EP X pins σ Q (.bool k') s:=by
 subst e
 exact⟨.bl k,H,I,rfl,q⟩
theorem Ac:OpR X (compareOp .Lt) (rI0 λi j=>.bl (decide (i < j))):=xq λ_ _ _ _ _ _ _ q=>lt_int q
theorem zL:OpR X (compareOp .LtE) (rI0 λi j=>.bl (decide (i<=j))):=xq λ_ _ _ _ _ _ _ q=>le_int q
theorem zV:OpR X (compareOp .Gt) (rI0 λi j=>.bl (decide (j < i))):=xq λ_ _ _ _ _ _ _ q=>gt_int q
theorem AF:OpR X (compareOp .GtE) (rI0 λi j=>.bl (decide (j<=i))):=xq λ_ _ _ _ _ _ _ q=>ge_int q
theorem yS:OpR X (compareOp .Is) (λx y H Q=>y=.non/\Q (.bl (decide (x=.non))) H):=by
 intro pins s σ H x y v u Q I rx ry h
 obtain⟨rfl,q⟩:=h
 cases ry
 refine is_none_gen (qs I q ?_)
 cases x<;>first
  | (cases rx;rfl)
  | (obtain⟨t,rfl⟩:=rx;rfl)
theorem wN:OpR X (compareOp .IsNot) (λx y H Q=>y=.non/\Q (.bl (!decide (x=.non))) H):=by
 intro pins s σ H x y v u Q I rx ry h
 obtain⟨rfl,q⟩:=h
 cases ry
 refine isnot_none_gen (qs I q ?_)
 cases x<;>first
  | (cases rx;rfl)
  | (obtain⟨t,rfl⟩:=rx;rfl)
theorem aH (b:Expr) {op:CmpOp} (h:op≠.In:=by decide) (h2:op≠.NotIn:=by decide):behindInMarks op b=false:=by
 have e1:(op==CmpOp.In)=false:=by cases op<;>first | rfl | exact absurd rfl h
 have e2:(op==CmpOp.NotIn)=false:=by cases op<;>first | rfl | exact absurd rfl h2
 cases b<;>simp [behindInMarks,e1,e2]
theorem wO {op:CmpOp}{r:R2} (ho:OpR X (compareOp op) r) (ha:PE X a ta) (hb:PE X b tb) (hm:behindInMarks op b=false):PE X (.Compare a [op] [b] pos) (tOp r ta tb):=by
 intro pins s σ H Q I h
 exact wpAny_Compare1 (yq ha hb I h λv u s2 x y H2 I2 rx ry q=>ho pins s2 σ H2 x y v u Q I2 rx ry q) hm
noncomputable def zS (t:TE):TT:=λσ H Q=>t σ H λx H'=>∃ k,x=.bl k/\Q k H'
theorem xu {op:CmpOp}{r:R2} (ho:OpR X (compareOp op) r) (ha:PE X a ta) (hb:PE X b tb) (hm:behindInMarks op b=false):PT X (.Compare a [op] [b] pos) (zS (tOp r ta tb)):=by
 intro pins s σ H Q I h
 refine wpAny_isTrue_Compare1 (thn (ha pins s σ H _ I h) λv s1 ⟨x,H1,I1,r1,q1⟩=>thn (hb pins s1 σ H1 _ I1 q1) λu s2 ⟨y,H2,I2,r2,q2⟩=>
  thn (ho pins s2 σ H2 x y v u _ I2 r1 r2 q2) λc s3 ⟨z,H3,I3,r3,k,e,q3⟩=>?_) hm
 subst e
 cases r3
 exact wpAny_truthy_bool ⟨H3,I3,q3⟩
noncomputable def wg (K:PySem.W.Frag) (x:V) (H:Hp) (k:Bool):Prop:=
 match x with
 | .non=>k=false
 | .bl b=>k=b
 | .int i=>k=(i != 0)
 | .str y=>y.length<=sizeLine/\k=((y.length:Int) != 0)
 | .byt y=>y.size<=sizeLine/\k=((y.size:Int) != 0)
 | .ref p=>(∃ xs,SqL K H p xs/\k=!xs.isEmpty)\/(∃ xs,SqT K H p xs/\k=!xs.isEmpty)\/∃ kvs,H p=some (.dK kvs)/\k=!kvs.isEmpty
 | _=>False
theorem qj {κ:Type}{kvs:List (κ×V)}{vs:List (κ×Value)} (r:KV kvs vs):(!vs.isEmpty)=!kvs.isEmpty:=by
 cases r<;>rfl
theorem lb {xs:List V}{its:List Value} (r:aK xs its):(!its.toArray.isEmpty)=!xs.isEmpty:=by
 cases r<;>simp
theorem iE:(sizeLine:Nat) < 2 ^ 63:=by rw [sizeLine_eq];decide
theorem x6:A9 X (λx H Q=>∃ k,wg X.K x H k/\Q k H):=by
 intro pins s σ H x v Q I rx h
 obtain⟨k,e,q⟩:=h
 have hl:=iE
 have hs:sizeLine=16777216:=sizeLine_eq
 cases x with
 | non=>
  cases rx
  have e':k=false:=e
  subst e'
  exact truthy_none ⟨H,I,q⟩
 | bl b=>
  cases rx
  have e':k=b:=e
  subst e'
  exact wpAny_truthy_bool ⟨H,I,q⟩
 | int i=>
  obtain⟨t,rfl⟩:=rx
  have e':k=(i != 0):=e
  subst e'
  exact PySem.P.truthy_int ⟨H,I,q⟩
 | str y=>
  obtain⟨t,rfl⟩:=rx
  obtain⟨hy,e'⟩:y.length<=sizeLine/\k=((y.length:Int) != 0):=e
  subst e'
  exact PySem.P.truthy_str (by lia) ⟨H,I.tok _,q⟩
 | byt y=>
  obtain⟨t,rfl⟩:=rx
  obtain⟨hy,e'⟩:y.size<=sizeLine/\k=((y.size:Int) != 0):=e
  subst e'
  exact PySem.W.truthy_bytes (by lia) ⟨H,I.tok _,q⟩
 | ref p=>
  cases rx
  have e':(∃ xs,SqL X.K H p xs/\k=!xs.isEmpty)\/(∃ xs,SqT X.K H p xs/\k=!xs.isEmpty)\/∃ kvs,H p=some (.dK kvs)/\k=!kvs.isEmpty:=e
  rcases e' with⟨xs,hx,e'⟩ | ⟨xs,hx,e'⟩ | ⟨kvs,hx,e'⟩
  ·subst e'
   obtain⟨its,r,pl,hz⟩:=I.list hx
   have hlen:=r.length
   exact wpAny_truthy_list pl.isList (by simp only [List.size_toArray];lia) ⟨H,I.tok _,by rw [lb r];exact q⟩
  ·subst e'
   obtain⟨its,r,pl,hz⟩:=I.tuple hx
   have hlen:=r.length
   exact truthy_tuple pl (by simp only [List.size_toArray];lia) ⟨H,I.tok _,by rw [lb r];exact q⟩
  ·subst e'
   obtain⟨hz,hS,vs,r,m⟩:kvs.length<=sizeLine/\(p==sysModules)=false/\∃ vs,KV kvs vs/\s.heap.DictOf (nk X.prog X.w) p vs:=I.hok p _ hx
   have hlen:kvs.length=vs.length:=Paired.length r
   exact wpAny_truthy_dict hS m (by lia) ⟨H,I.tok _,by rw [qj r];exact q⟩
 | _=>exact (show False from e).elim
theorem vb (ha:PE X a ta) (he:∀ whole,isTrue a X.env whole=(do let v <-whole;standAt a.pos;holding [v] (truthy v))) :
  PT X a (λσ H Q=>ta σ H λx H'=>∃ k,wg X.K x H' k/\Q k H'):=by
 intro pins s σ H Q I h
 exact isTrue_plain (thn (ha pins s σ H _ I h) λv s1 ⟨x,H1,I1,r1,q1⟩=>x6 pins s1 σ H1 x v Q I1 r1 q1) (he _)
theorem qp:OpR X (binaryOp .Add) (λx y H Q=>∃ i j,x=.str i/\y=.str j/\i.length+j.length<=sizeLine/\Q (.str (i++j)) H):=by
 intro pins s σ H x y v u Q I rx ry h
 obtain⟨i,j,rfl,rfl,hz,q⟩:=h
 obtain⟨t,rfl⟩:=rx
 obtain⟨t',rfl⟩:=ry
 exact add_str (λt' tk=>⟨.str (i++j),H,I.tok _,⟨_,rfl⟩,q⟩) hz
theorem g9 {x:V}{us:List Value} (r:aK [x] us):∃ u,us=[u]/\aX x u:=by
 cases r with
 | cons r1 r2=>cases r2;exact⟨_,rfl,r1⟩
theorem xR {x y:V}{us:List Value} (r:aK [x,y] us):∃ u w',us=[u,w']/\aX x u/\aX y w':=by
 cases r with
 | cons r1 r2=>
  cases r2 with
  | cons r3 r4=>cases r4;exact⟨_,_,rfl,r1,r3⟩
theorem tV:bR X (.builtin "abs") (λxs H Q=>∃ i,xs=[.int i]/\Q (.int (if i < 0 then -i else i)) H):=by
 intro pins s σ H xs us Q I r h
 obtain⟨i,rfl,q⟩:=h
 obtain⟨u,rfl,t,rfl⟩:=g9 r
 exact call_abs_int λu tk=>⟨.int (if i < 0 then -i else i),H,I.tok _,⟨_,rfl⟩,q⟩
theorem rW (hc:X.calm=true):bR X (.builtin "max") (λxs H Q=>∃ i j,xs=[.int i,.int j]/\Q (.int (if j > i then j else i)) H):=by
 intro pins s σ H xs us Q I r h
 obtain⟨i,j,rfl,q⟩:=h
 obtain⟨u,w',rfl,⟨t,rfl⟩,⟨t',rfl⟩⟩:=xR r
 refine max_two_ints (I.ok.hd hc) λh' tk k=>⟨_,H,I.kept k,?_,q⟩
 by_cases hj:j > i
 ·rw [if_pos hj,if_pos hj];exact⟨_,rfl⟩
 ·rw [if_neg hj,if_neg hj];exact⟨_,rfl⟩
theorem sL (hc:X.calm=true):bR X (.builtin "min") (λxs H Q=>∃ i j,xs=[.int i,.int j]/\Q (.int (if j < i then j else i)) H):=by
 intro pins s σ H xs us Q I r h
 obtain⟨i,j,rfl,q⟩:=h
 obtain⟨u,w',rfl,⟨t,rfl⟩,⟨t',rfl⟩⟩:=xR r
 refine min_two_ints (I.ok.hd hc) λh' tk k=>⟨_,H,I.kept k,?_,q⟩
 by_cases hj:j < i
 ·rw [if_pos hj,if_pos hj];exact⟨_,rfl⟩
 ·rw [if_neg hj,if_neg hj];exact⟨_,rfl⟩
theorem mF:bR X (.type "int") (λxs H Q=>(∃ i,xs=[.int i]/\Q (.int i) H)\/∃ k,xs=[.bl k]/\Q (.int (if k then 1 else 0)) H):=by
 intro pins s σ H xs us Q I r h
 rcases h with⟨i,rfl,q⟩ | ⟨k,rfl,q⟩
 ·obtain⟨u,rfl,t,rfl⟩:=g9 r
  exact call_int_int ⟨.int i,H,I,⟨_,rfl⟩,q⟩
 ·obtain⟨u,rfl,r1⟩:=g9 r
  cases r1
  exact call_int_bool ⟨.int (if k then 1 else 0),H,I.tok _,⟨_,rfl⟩,q⟩
end
end L2
namespace L2
open PySem PySem.Spec PyProof.Rows
structure zC (h:Heap) (x dx C:Addr) (mA:Str->Option Value):Prop where
 obj:h.get? x=some (PySem.W.instObj C dx)
 ns:h.Ns1 dx mA
 ne:dx≠x
theorem sv {h:Heap}{dx:Addr}{mA:Str->Option Value} (n:h.Ns1 dx mA):∃ od,h.get? dx=some od/\∀ name,PySem.W.lookIn name od=some (mA name):=by
 obtain⟨o,es,ep,ho,hd,hk,_,hm⟩:=n
 refine⟨o,ho,λname=>?_⟩
 have e:=hm name
 unfold nsFind findBy at e
 rw [<-Array.find?_toList] at e
 unfold PySem.W.lookIn
 rw [hd]
 dsimp only
 split
 ·rename_i y q
  rw [q] at e
  exact congrArg some e
 ·rename_i q
  rw [q] at e
  have a:es.toList.any (·.refKey)=false:=by
   rw [List.any_eq_false]
   intro y hy
   obtain⟨z,t,hkey⟩:=hk y (Array.mem_toList_iff.mp hy)
   simp [DictEntry.refKey,hkey]
  have a':¬ es.toList.any (·.refKey)=true:=by rw [a];exact Bool.false_ne_true
  rw [if_neg a']
  exact congrArg some e
theorem zC.look {h:Heap}{x dx C:Addr}{mA:Str->Option Value} (I:zC h x dx C mA):∃ od,PySem.W.InstAt h x (PySem.W.instObj C dx) C (some od)/\∀ name,PySem.W.lookIn name od=some (mA name):=
 let ⟨od,ho,hl⟩:=sv I.ns
 ⟨od,⟨I.obj,rfl,rfl,ho⟩,hl⟩
section
variable {prog:Program}{w:World}{A:Around}{E:Value->Shared->Prop}{s:Shared}{K:PySem.W.Frag}{x dx C f:Addr}{mA:Str->Option Value}{name:Str}{v:Value}
end
section
variable {P:Program}{w:World}{H H':Hp}{h h':Heap}{a C dx:Addr}{fs fs':List (Str×V)}
theorem wM (hok:HOk P w H h) (e:H a=some (.ins C dx fs)):∃ mA,zC h a dx C mA/\(∀ f,yI (fs.lookup f) (mA f))/\PySem.Within mA (fs.map (·.1))/\fs.length<=1000/\H dx=some (.own a):=by
 obtain⟨d,z,ne,ob,mA,n,r,q⟩:=(show cv P w H h a (.ins C dx fs) from hok a _ e)
 exact⟨mA,⟨ob,n,ne⟩,r,q,z,d⟩
end
structure Cls (K:PySem.W.Frag) (C:Addr):Prop where
 pg:PySem.W.plainGet K C Str.empty=true
 hd:PySem.W.hasDictIn K C=true
 po:PySem.W.plainOver K C=true
 sa:PySem.W.findIn K (.ref C) "__setattr__" = some (some (.builtin "object.__setattr__"))
theorem Cls.get {K:PySem.W.Frag}{C:Addr} (c:Cls K C) (f:Str):PySem.W.plainGet K C f=true:=c.pg
section
variable {X:Cx}{pins:List (Addr×Obj)}{σ:St}{H:Hp}{s:Shared}{a C dx:Addr}{fs:List (Str×V)}{f:Str}{v:V}{A:Around}{E:Value->Shared->Prop}
end
section
variable {X:Cx}{o e value:Expr}{f:Str}{pos pos' tpos:Pos}{ta tv:TE}
end
section
variable {X:Cx}{pins:List (Addr×Obj)}{σ:St}{H:Hp}{s:Shared}{A:Around}{E:Value->Shared->Prop}{Q:Value->Shared->Prop}{c:Value}{b:Bool}
inductive j6 (K:PySem.W.Frag) (H:Hp):V->Value->Prop where
 | non:j6 K H .non (.type "NoneType")
 | bl (x:Bool):j6 K H (.bl x) (.type "bool")
 | int (i:Int):j6 K H (.int i) (.type "int")
 | str (x:Str):j6 K H (.str x) (.type "str")
 | flt (x:UInt64):j6 K H (.flt x) (.type "float")
 | lst {a:Addr}{xs:List V} (e:H a=some (.lst xs)):j6 K H (.ref a) (.type "list")
 | frz {a:Addr}{o:Obj}{xs:List V} (e:H a=some (.frz o (.lst xs))):j6 K H (.ref a) (.type "list")
 | tup {a:Addr}{xs:List V} (e:H a=some (.tup xs)):j6 K H (.ref a) (.type "tuple")
 | dK {a:Addr}{kvs:List (Key×V)} (e:H a=some (.dK kvs)):j6 K H (.ref a) (.type "dict")
 | dT {a:Addr}{kvs:List (List Key×V)} (e:H a=some (.dT kvs)):j6 K H (.ref a) (.type "dict")
 | ins {a C dx:Addr}{fs:List (Str×V)} (e:H a=some (.ins C dx fs)) (cl:Cls K C) (ha:PySem.W.findIn K (.ref C) "__class__" = some (some (.builtin "object.__class__")))
   (hn:PySem.W.specialIn K (.builtin "object.__class__") "__get__" = some (some (.builtin "getset_descriptor.__get__"))) (htk:PySem.W.takesIn K (.builtin "object.__class__")=some true)
   (hm:PySem.W.mroIn K C (.type "object")=some true):j6 K H (.ref a) (.ref C)
theorem cG {x:V}{u t:Value} (I:Inv X pins σ H s) (rx:aX x u) (ty:j6 X.K H x t) (e:PySem.W.kitOne X.K t c=some b) (h:∀ tk,Q (.bool b) { s with toks:=tk }) :
  wpAny (model X.prog X.w) A (call (.builtin "isinstance") [u,c]) Q E s:=by
 cases ty with
 | non=>cases (show u=Value.none from rx);exact PySem.W.kia_one PySem.W.kitx_none I.kIn True.intro e (λz=>nomatch z) h
 | bl y=>cases (show u=Value.bool y from rx);exact PySem.W.kia_one PySem.W.kitx_bool I.kIn True.intro e (λz=>nomatch z) h
 | int i=>obtain⟨t,q⟩:=(show ∃ t,u=Value.int i t from rx);cases q;exact PySem.W.kia_one PySem.W.kitx_int I.kIn True.intro e (λz=>nomatch z) h
 | str y=>obtain⟨t,q⟩:=(show ∃ t,u=Value.str y t from rx);cases q;exact PySem.W.kia_one PySem.W.kitx_str I.kIn True.intro e (λz=>nomatch z) h
 | flt y=>obtain⟨t,q⟩:=(show ∃ t,u=Value.float y t from rx);cases q;exact PySem.W.kia_one PySem.W.kitx_float I.kIn True.intro e (λz=>nomatch z) h
 | @lst a xs ea=>
  cases (show u=Value.ref a from rx)
  obtain⟨_,_,n,_,h1⟩:=(show cv X.prog X.w H s.heap a (.lst xs) from I.hok a _ ea)
  exact PySem.W.kia_one PySem.W.kitx_list I.kIn ⟨_,h1,rfl⟩ e (λz=>nomatch z) h
 | @frz a ob xs ea=>
  cases (show u=Value.ref a from rx)
  obtain⟨_,_,_,n,_,h1⟩:=(show cv X.prog X.w H s.heap a (.frz ob (.lst xs)) from I.hok a _ ea)
  exact PySem.W.kia_one PySem.W.kitx_list I.kIn ⟨_,h1,rfl⟩ e (λz=>nomatch z) h
 | @tup a xs ea=>
  cases (show u=Value.ref a from rx)
  obtain⟨_,_,_,p⟩:=(show cv X.prog X.w H s.heap a (.tup xs) from I.hok a _ ea)
  obtain⟨o,h1,h2,_⟩:=p
  exact PySem.W.kia_one PySem.W.kitx_tuple I.kIn ⟨o,h1,h2⟩ e (λz=>nomatch z) h
 | @dK a kvs ea=>
  cases (show u=Value.ref a from rx)
  obtain⟨_,_,vs,_,p⟩:=(show cv X.prog X.w H s.heap a (.dK kvs) from I.hok a _ ea)
  obtain⟨o,es,ep,h1,h2,_⟩:=p
  exact PySem.W.kia_one PySem.W.kitx_dict I.kIn ⟨o,h1,h2.1⟩ e (λz=>nomatch z) h
 | @dT a kvs ea=>
  cases (show u=Value.ref a from rx)
  obtain⟨_,_,xs,_,o,es,ep,h1,h2,_⟩:=(show cv X.prog X.w H s.heap a (.dT kvs) from I.hok a _ ea)
  exact PySem.W.kia_one PySem.W.kitx_dict I.kIn ⟨o,h1,h2.1⟩ e (λz=>nomatch z) h
 | @ins a C dx fs ea cl ha hn htk hm=>
  cases (show u=Value.ref a from rx)
  obtain⟨mA,O,_⟩:=wM I.hok ea
  obtain⟨od,J,_⟩:=O.look
  exact PySem.W.kia_one (PySem.W.kitx_own (cl.get _) cl.hd ha hn htk hm) I.kIn J e (λz=>nomatch z) h
end
end L2
namespace L2
open PySem PySem.Spec PyProof.Rows
structure bn (k:Nat) (A:Around):Prop where
 hd:A.handled=none
 dp:A.depth+3*k+5 < recursionLimit
 un:A.units+16*k+200 < cLine
 gd:A.guards=some []
theorem bn.mono {j k:Nat}{A:Around} (r:bn k A) (h:j<=k):bn j A:=⟨r.hd,by have:=r.dp;lia,by have:=r.un;lia,r.gd⟩
theorem bn.deeper {k:Nat}{A:Around} (r:bn (k+1) A) (env:Env):bn k (A.deeper env):=
 ⟨r.hd,by have:=r.dp;show A.depth+1+3*k+5 < _;lia,by have:=r.un;show A.units+3+16*k+200 < _;lia,r.gd⟩
theorem bn.depth {k:Nat}{A:Around} (r:bn k A):A.depth < recursionLimit:=by have:=r.dp;lia
theorem bn.units {k:Nat}{A:Around} (r:bn k A):A.units+64 < cLine:=by have:=r.un;lia
theorem bn.units0 {k:Nat}{A:Around} (r:bn k A):A.units < cLine:=by have:=r.un;lia
noncomputable def AZ:TA:=λ_ H Q=>Q [] H
noncomputable def Ab (ta:TE) (tr:TA):TA:=λσ H Q=>ta σ H λx H1=>tr σ H1 λxs H2=>Q (x::xs) H2
section
variable {X:Cx}{e:Expr}{es:List Expr}{te:TE}{t:TA}{pos:Pos}
theorem yX:PA X [] AZ:=λ_ _ _ _ H Q I h=>Calls.spliced_nil ⟨[],H,I,.nil,h⟩
theorem xi (ha:PE X e te) (hr:PA X es t) (hs:starEach (e::es) X.env=(false,eval e X.env)::starEach es X.env:=by rfl):PA X (e::es) (Ab te t):=by
 intro pos pins s σ H Q I h
 rw [hs]
 show wpAny _ _ (spliced ((false,eval e X.env)::backTo pos (starEach es X.env))) _ _ s
 refine Calls.spliced_cons (thn (ha pins s σ H _ I h) λu s1 ⟨x,H1,I1,r1,q1⟩=>?_)
 exact thn (hr pos pins s1 σ H1 _ I1 q1) λus s2 ⟨xs,H2,I2,r2,q2⟩=>⟨x::xs,H2,I2,.cons r1 r2,q2⟩
noncomputable def AT (t:TA):TE:=λσ H Q=>t σ H λxs H1=>xs.length<=sizeLine/\∀ p,H1 p=none->Q (.ref p) (upd H1 p (.tup xs))
noncomputable def A5 (t:TA):TE:=λσ H Q=>t σ H λxs H1=>xs.length<=sizeLine/\∀ p,H1 p=none->Q (.ref p) (upd H1 p (.lst xs))
theorem ye {x1} (h:PA X es t):PE X (.Tuple es x1 pos) (AT t):=by
 intro pins s σ H Q I hq
 refine wpAny_Tuple_spliced (thn (h pos pins s σ H _ I hq) λus s1 ⟨xs,H1,I1,r,z,q⟩=>⟨by rw [<-r.length];exact z,?_⟩)
 have hf:H1 s1.heap.objs.size=none:=I1.hok.fresh (Nat.le_refl _)
 refine⟨.ref s1.heap.objs.size,upd H1 s1.heap.objs.size (.tup xs),I1.laid (t':=s1.toks) (λb u e=>Heap.get?_push_of_some _ e) (Nat.le_refl _) ?_,rfl,q _ hf⟩
 exact⟨z,us,r,di.new _ _⟩
theorem vA (h:PA X es t):PE X (.List es pos) (A5 t):=by
 intro pins s σ H Q I hq
 refine wpAny_List_spliced (thn (h pos pins s σ H _ I hq) λus s1 ⟨xs,H1,I1,r,z,q⟩=>⟨by rw [<-r.length];exact z,?_⟩)
 have hf:H1 s1.heap.objs.size=none:=I1.hok.fresh (Nat.le_refl _)
 refine⟨.ref s1.heap.objs.size,upd H1 s1.heap.objs.size (.lst xs),I1.laid (t':=s1.toks) (λb u e=>Heap.get?_push_of_some _ e) (Nat.le_refl _) ?_,rfl,q _ hf⟩
 exact⟨z,us,0,r,Heap.get?_push_size _ rfl⟩
end
abbrev Sp:=List V->Hp->VK->XK->Prop
abbrev CXT:=List Env->Hp->Shared->XK->Value->Shared->Prop
structure vR (P:Program) (w:World) (K:PySem.W.Frag) (mg:Str->Option Value) (base:Heap) (A:Around) (outer:List Env) (s:Shared) (H:Hp):Prop where
 frames:A.frames=some outer
 mod:Mod K mg base
 bs:∀ b o,base.get? b=some o->s.heap.get? b=some o/\H b=none
 bsz:base.objs.size<=s.heap.objs.size
 funs:s.heap.FunFrames base outer
 frf:∀ b ∈ frs outer,H b=none
 hok:HOk P w H s.heap
 bare:AllBare s.gens
noncomputable def CE (outer:List Env) (P:Program) (w:World) (H:Hp) (s:Shared) (Q:VK) (u:Value) (s':Shared):Prop:=
 ∃ v H',s'.os=s.os/\AllBare s'.gens/\Un (frs outer) [] H H' s.heap s'.heap/\HOk P w H' s'.heap/\aX v u/\Q v H'
noncomputable def CR (CX:CXT) (outer:List Env) (P:Program) (w:World) (H:Hp) (s:Shared) (Q:VK) (E:XK) (r:Result) (s':Shared):Prop:=
 match r with
 | .ok (.ret u)=>CE outer P w H s Q u s'
 | .ok _=>False
 | .error e=>CX outer H s E e s'
structure aL (P:Program) (w:World) (K:PySem.W.Frag) (mg:Str->Option Value) (base:Heap) (CX:CXT) (k:Nat) (f:Addr) (fd:FuncData) (ps:List Str) (sp:Sp):Prop where
 len:∀ vs H Q E,sp vs H Q E->vs.length=ps.length
 run:∀ (A:Around) (outer:List Env) (s:Shared) (H:Hp) (args:Args) (us:List Value) (vs:List V) (Q:VK) (E:XK),bn k A->vR P w K mg base A outer s H->BindsTo s fd args (ps.zip us)->aK vs us->sp vs H Q E->
  codeAny (model P w) A (.call (.ref f) args) (CR CX outer P w H s Q E) s
theorem aL.mono {P:Program}{w:World}{K:PySem.W.Frag}{mg:Str->Option Value}{base:Heap}{CX:CXT}{j k:Nat}{f:Addr}{fd:FuncData}{ps:List Str}{sp:Sp} (F:aL P w K mg base CX j f fd ps sp) (h:j<=k) :
  aL P w K mg base CX k f fd ps sp:=⟨F.len,λA outer s H args us vs Q E hr=>F.run A outer s H args us vs Q E (hr.mono h)⟩
section
variable {X:Cx}{pins:List (Addr×Obj)}{σ:St}{H:Hp}{s s':Shared}
theorem Inv.env0 (I:Inv X pins σ H s):vR X.prog X.w X.K X.mg X.base X.A X.stack s H:=
 ⟨I.ok.frames,I.ok.mod,I.bs,Nat.le_trans I.ok.bsz I.sz,I.stack,I.stkFree,I.hok,I.bare⟩
theorem Inv.after {Q:VK}{u:Value} (I:Inv X pins σ H s) (h:CE X.stack X.prog X.w H s Q u s'):EP X pins σ Q u s':=by
 obtain⟨v,H',os,bare,un,hok,r,q⟩:=h
 obtain⟨hh,g,d,t,os'⟩:=s'
 obtain rfl:os'=s.os:=os
 exact⟨v,H',I.call (h':=hh) (g':=g) (d':=d) (t':=t) (ch:=[]) un hok bare (λb z=>absurd z (by simp)),r,q⟩
end
noncomputable def An (sp:Sp) (dvs:List V) (E:XK) (t:TA):TE:=λσ H Q=>t σ H λvs H1=>sp (vs++dvs) H1 Q E
noncomputable def bq (K:PySem.W.Frag) (fd:FuncData) (ps:List Str) (ds:List Value):Prop:=
 ∀ (s:Shared) (us:List Value),K.In s.heap->(us++ds).length=ps.length->BindsTo s fd ⟨us,[]⟩ (ps.zip (us++ds))
theorem bq.all {K:PySem.W.Frag}{fd:FuncData}{ps:List Str} (h:∀ us:List Value,us.length=ps.length->bindArgs fd ⟨us,[]⟩=pure (ps.zip us)):bq K fd ps []:=λs us _ hl=>by
 rw [List.append_nil] at hl ⊢
 exact .of_eq (h us hl)
noncomputable def pW (CX:CXT) (X:Cx) (E:XK):Prop:=∀ (pins:List (Addr×Obj)) (σ:St) (H:Hp) (s:Shared) (e:Value) (s':Shared),Inv X pins σ H s->CX X.stack H s E e s'->X.xe e s'
section
variable {X:Cx}{CX:CXT}{k:Nat}{f C:Addr}{fd:FuncData}{ps:List Str}{sp:Sp}{dvs:List V}{ds:List Value}{E:XK}{x m:Str}{p pos apos:Pos}{e o:Expr}{es:List Expr}{ta:TE}{t:TA}
theorem zF {pins:List (Addr×Obj)}{σ:St}{H:Hp}{s:Shared}{Q:VK}{us:List Value}{vs:List V} (F:aL X.prog X.w X.K X.mg X.base CX k f fd ps sp) (hr:bn k X.A) (hb:bq X.K fd ps ds) (hd:aK dvs ds) (hx:pW CX X E)
  (I:Inv X pins σ H s) (r:aK vs us) (h:sp (vs++dvs) H Q E):wpAny (model X.prog X.w) X.A (call (.ref f) us) (EP X pins σ Q) X.xe s:=by
 have r2:aK (vs++dvs) (us++ds):=r.append hd
 have hl:(us++ds).length=ps.length:=by rw [<-r2.length];exact F.len _ _ _ _ h
 refine wpAny_call (codeAny_mono (F.run X.A X.stack s H ⟨us,[]⟩ (us++ds) (vs++dvs) Q E hr I.env0 (hb s us I.kIn hl) r2 h) λr s' hq=>?_)
 cases r with
 | error e=>exact hx pins σ H s e s' I hq
 | ok fl=>
  cases fl with
  | ret u=>exact I.after hq
  | next=>exact False.elim hq
  | brk=>exact False.elim hq
  | cont=>exact False.elim hq
theorem wX (F:aL X.prog X.w X.K X.mg X.base CX k f fd ps sp) (hr:bn k X.A) (hg:Gl X x) (hm:X.mg x=some (.ref f)) (hk:PySem.W.keepIn X.K (.ref f)=true) (hb:bq X.K fd ps ds) (hd:aK dvs ds) (hx:pW CX X E)
  (ha:PA X (e::es) t) (hdb:(x==("__debug__" : Str))=false:=by decide) (he:starEach (e::es) X.env=(false,eval e X.env)::starEach es X.env:=by rfl) (hpl:(backTo pos (starEach es X.env)).any (·.1)=false:=by rfl) :
  PE X (.Call (.Name x p) (e::es) [] pos) (An sp dvs E t):=by
 intro pins s σ H Q I h
 refine wpAny_Call_Name_kw (wf I hg hm ?_ hdb)
 refine PySem.W.callWith_K (h₀:=X.base) I.ok.mod.kin hk (thn (ha pos pins s σ H _ I h) λus s1 ⟨vs,H1,I1,r,q⟩=>⟨I1.kIn,?_⟩) he hpl
 exact zF F hr hb hd hx I1 r q
end
section
variable {X:Cx}{CX:CXT}{k:Nat}{f C:Addr}{fd:FuncData}{ps ks:List Str}{sp:Sp}{E:XK}{x m:Str}{p pos apos kpos:Pos}{e o:Expr}{es:List Expr}{kws:List Keyword}{te ta:TE}{t tk:TA}{nm:Option Str}
variable {g:List Value->List Value->List Value}{gV:List V->List V->List V}
end
structure ay (N P:List Str) (sc:Scope):Prop where
 kind:sc.kind=.function
 co:sc.isCoroutine=false
 gen:sc.isGenerator=false
 nd:N.Nodup
 pre:N.take P.length=P
 par:∀ x ∈ P,sc.names.lookup x=some .local\/sc.names.lookup x=some .cell
 nofree:∀ y ∈ sc.names,y.2≠.free
theorem mf {kindOf:Str->Option NameKind}{x:Str}:∀ {binds:List (Str×Value)}{m:Str->Option Value},(∀ v,(x,v) ∉ binds)->bindL kindOf binds m x=m x
 | [],_,_=>rfl
 | (n,v)::r,m,h=>by
  unfold bindL
  rw [mf λw hw=>h w (List.mem_cons_of_mem _ hw)]
  split
  ·have:x≠n:=by rintro rfl;exact h v List.mem_cons_self
   simp [this]
  ·rfl
theorem mt {kindOf:Str->Option NameKind}{x:Str}:∀ {binds:List (Str×Value)}{m:Str->Option Value},(∀ v,(x,v) ∉ binds)->bindC kindOf binds m x=m x
 | [],_,_=>rfl
 | (n,v)::r,m,h=>by
  unfold bindC
  rw [mt λw hw=>h w (List.mem_cons_of_mem _ hw)]
  split
  ·rfl
  ·have:x≠n:=by rintro rfl;exact h v List.mem_cons_self
   simp [this]
theorem mn {kindOf:Str->Option NameKind}{x:Str}{v:Value}:∀ {P:List Str}{vs:List Value}{i:Nat}{m:Str->Option Value},P.Nodup->P[i]?=some x->vs[i]?=some v->kindOf x=some .local->
  bindL kindOf (P.zip vs) m x=some v
 | [],_,_,_,_,h,_,_=>by simp at h
 | _::_,[],_,_,_,_,h,_=>by simp at h
 | p::P,w::vs,0,m,nd,h1,h2,hk=>by
  simp at h1 h2;subst h1;subst h2
  show bindL kindOf ((p,w)::P.zip vs) m p=_
  unfold bindL
  rw [mf λv hv=>(List.nodup_cons.mp nd).1 (List.of_mem_zip hv).1,if_pos hk]
  simp
 | p::P,w::vs,i+1,m,nd,h1,h2,hk=>by
  show bindL kindOf ((p,w)::P.zip vs) m x=_
  unfold bindL
  exact mn (i:=i) (List.nodup_cons.mp nd).2 (by simpa using h1) (by simpa using h2) hk
theorem mj {kindOf:Str->Option NameKind}{x:Str}{v:Value}:∀ {P:List Str}{vs:List Value}{i:Nat}{m:Str->Option Value},P.Nodup->P[i]?=some x->vs[i]?=some v->kindOf x≠some .local->
  bindC kindOf (P.zip vs) m x=some v
 | [],_,_,_,_,h,_,_=>by simp at h
 | _::_,[],_,_,_,_,h,_=>by simp at h
 | p::P,w::vs,0,m,nd,h1,h2,hk=>by
  simp at h1 h2;subst h1;subst h2
  show bindC kindOf ((p,w)::P.zip vs) m p=_
  unfold bindC
  rw [mt λv hv=>(List.nodup_cons.mp nd).1 (List.of_mem_zip hv).1,if_neg hk]
  simp
 | p::P,w::vs,i+1,m,nd,h1,h2,hk=>by
  show bindC kindOf ((p,w)::P.zip vs) m x=_
  unfold bindC
  exact mj (i:=i) (List.nodup_cons.mp nd).2 (by simpa using h1) (by simpa using h2) hk
noncomputable def start (N:List Str) (vs:List V):St:=vs.map some++List.replicate (N.length - vs.length) none
noncomputable def b8 (CX:CXT) (P:Program) (w:World) (K:PySem.W.Frag) (mg:Str->Option Value) (base:Heap) (N:List Str) (qual:Str) (scope:Scope) (f:Addr) (cd:Value) (A:Around) (outer:List Env) (s:Shared) (H:Hp) (E:XK):Cx where
 prog:=P
 w:=w
 K:=K
 mg:=mg
 base:=base
 A:=A.deeper (envOfC qual scope s.heap.objs.size f cd)
 N:=N
 s₀:=s
 H₀:=H
 env:=envOfC qual scope s.heap.objs.size f cd
 outer:=outer
 stack:=envOfC qual scope s.heap.objs.size f cd::outer
 ex:=[]
 calm:=true
 fn:=λ_=>true
 pn:=[]
 xe:=λe s'=>wpAny (model P w) (A.deeper (envOfC qual scope s.heap.objs.size f cd)) (leaving (envOfC qual scope s.heap.objs.size f cd) e) (λ_ s''=>CX outer H s E e s'') (λe' s''=>CX outer H s E e' s'') s'
theorem oS {sc:Scope}{n:Nat}{x:Str} (h:sc.names.lookup x=some .cell):∃ c,(cellsFrom n sc.names []).lookup x=some c:=by
 have q:=PySem.W.cellsFrom_some sc.names n [] (.inl h)
 exact Option.isSome_iff_exists.mp q
theorem sU {CX:CXT}{P:Program}{w:World}{K:PySem.W.Frag}{mg:Str->Option Value}{base:Heap}{N ps:List Str}{qual:Str}{scope:Scope}{f:Addr}{cd:Value}{A:Around}{outer:List Env}{s s1:Shared}{H:Hp}{E:XK}{us:List Value}{vs:List V}
  (S:ay N ps scope) (hd:A.handled=none) (e0:vR P w K mg base A outer s H) (hl:vs.length=ps.length) (r:aK vs us)
  (x:InCallC s s.heap.objs.size (bindL (envOfC qual scope s.heap.objs.size f cd).kindOf (ps.zip us) λ_=>none) (cellsFrom (s.heap.objs.size+1) scope.names []) (bindC (envOfC qual scope s.heap.objs.size f cd).kindOf (ps.zip us) λ_=>none) s1) :
  Inv (b8 CX P w K mg base N qual scope f cd A outer s H E) [] (start N vs) H s1:=by
 have hpl:ps.length<=N.length:=by have:=congrArg List.length S.pre;rw [List.length_take] at this;lia
 obtain⟨h1,tk,rfl,hk⟩:=x.done
 have noA:∀ b:Addr,b ∉ (b8 CX P w K mg base N qual scope f cd A outer s H E).ex:=λb z=>absurd (show b ∈ ([]:List Addr) from z) (by simp)
 refine⟨⟨e0.mod,S.kind,rfl,rfl,Nat.le_refl _,λy z c h1 h2=>?_,λy hy=>?_,λy c _ h=>?_,λ_=>hd,Around.frames_deeper e0.frames,.inr ⟨rfl,rfl⟩,λb z=>absurd z (noA b),e0.bs,e0.bsz,λb _ _=>noA b,λb z=>absurd z (noA b),e0.funs,e0.frf⟩,
  rfl,e0.bare,Un.kept hk,⟨_,x.toInCall.ns,λi y v h1 h2 h3=>?_⟩,λy c h=>⟨_,x.cell y c h⟩,e0.hok.fresh (Nat.le_refl _),λy c h=>?_,λp hp=>absurd (show p ∈ ([]:List (Addr×Obj)) from hp) (by simp),e0.hok.kept hk,?_⟩
 ·exact name_of_addr x.apart (PySem.mem_of_lookup h1) (PySem.mem_of_lookup h2)
 ·have hy:scope.names.lookup y=some .cell\/scope.names.lookup y=some .free:=hy
  rcases hy with hy | hy
  ·exact oS hy
  ·exact absurd rfl (S.nofree _ (PySem.mem_of_lookup hy))
 ·exact Nat.le_of_lt (x.above y c (PySem.mem_of_lookup h))
 ·have hi:i < vs.length:=by
   unfold start at h2
   by_cases hi:i < vs.length
   ·exact hi
   ·rw [List.getElem?_append_right (by simpa using hi)] at h2
    rw [List.getElem?_replicate] at h2
    split at h2<;>cases h2
  have ha:vs[i]?=some v:=by
   unfold start at h2
   rw [List.getElem?_append_left (by simpa using hi),List.getElem?_map] at h2
   cases e:vs[i]? with
   | none=>rw [e] at h2;cases h2
   | some a=>rw [e] at h2;cases h2;rfl
  obtain⟨u,hu,rv⟩:=r.get ha
  have hp:ps[i]?=some y:=by
   rw [<-S.pre,List.getElem?_take_of_lt (by lia)];exact h1
  have ndP:ps.Nodup:=by rw [<-S.pre];exact S.nd.sublist (List.take_sublist _ _)
  refine⟨u,rv,?_⟩
  rcases S.par y (List.mem_of_getElem? hp) with k | k
  ·exact .inl ⟨k,mn ndP hp hu k⟩
  ·obtain⟨c,e⟩:=oS (n:=s.heap.objs.size+1) k
   refine .inr ⟨.inl k,c,e,?_⟩
   have q:=x.cell y c e
   rw [mj ndP hp hu (by show scope.names.lookup y≠_;rw [k];decide)] at q
   exact q
 ·exact e0.hok.fresh (Nat.le_of_lt (x.above y c (PySem.mem_of_lookup h)))
 ·unfold start
  show _=N.length
  rw [List.length_append,List.length_map,List.length_replicate]
  lia
theorem zO {CX:CXT}{P:Program}{w:World}{K:PySem.W.Frag}{mg:Str->Option Value}{base:Heap}{k:Nat}{f:Addr}{name qual:Str}{params:Arguments}{body:List Stmt}{scope:Scope}{dV kV doc pm cdv ct oc:Value}{an od:Option Addr}
  {osl:Array (Option Value)}{N ps:List Str}{sp:Sp} (lk:K.lookup f=some ⟨oc,od,.func (PySem.W.fnOf name qual params body scope dV kV doc pm an cdv ct),osl⟩) (hcd:PySem.W.codeIn K cdv qual=true) (S:ay N ps scope)
  (len:∀ vs H Q E,sp vs H Q E->vs.length=ps.length)
  (hbody:∀ (A:Around) (outer:List Env) (s:Shared) (H:Hp) (vs:List V) (Q:VK) (E:XK),bn k (A.deeper (envOfC qual scope s.heap.objs.size f cdv))->sp vs H Q E->
    ∃ t,PSs (b8 CX P w K mg base N qual scope f cdv A outer s H E) body t/\t { nx:=λ_ H'=>Q .non H',rt:=Q } (start N vs) H) :
  aL P w K mg base CX (k+1) f (PySem.W.fnOf name qual params body scope dV kV doc pm an cdv ct) ps sp:=by
 refine⟨len,λA outer s H args us vs Q E hr e0 hb r hsp=>?_⟩
 have hl:=len _ _ _ _ hsp
 have KX:K.In s.heap:=e0.mod.kin.keeps λb o e=>(e0.bs b o e).1
 have lim:s.heap.NoLimit:=e0.mod.nolimit.keeps λb o e=>(e0.bs b o e).1
 have hkind:∀ y ∈ ps.zip us,scope.names.lookup y.1=some .local\/(scope.names.lookup y.1=some .cell/\((cellsFrom (s.heap.objs.size+1) scope.names []).lookup y.1).isSome=true):=λ⟨n,v⟩ hy=>by
  rcases S.par n (List.of_mem_zip hy).1 with q | q
  ·exact .inl q
  ·exact .inr ⟨q,PySem.W.cellsFrom_some _ _ _ (.inl q)⟩
 refine codeAny_call_function hr.depth (KX _ _ lk) rfl S.co S.gen rfl (PySem.W.codeRec_of KX hcd) (hb _ _ _ _ ?_)
 refine wpAny_newFunctionEnv_cells S.kind hkind λenv he s1 x=>?_
 subst he
 refine⟨lim.keeps x.toInCall.keep,codeAny_func ?_⟩
 obtain⟨t,ht,hq⟩:=hbody A outer s H vs Q E (hr.deeper _) hsp
 have I:Inv (b8 CX P w K mg base N qual scope f cdv A outer s H E) [] (start N vs) H s1:=sU S hr.hd e0 hl r x
 refine wpAny_mono (ht [] s1 (start N vs) H _ I hq) (λfl s' hs=>?_) λe s' hs=>hs
 have fin:∀ {σ':St}{H':Hp}{v:V}{u:Value},Inv (b8 CX P w K mg base N qual scope f cdv A outer s H E) [] σ' H' s'->aX v u->Q v H'->CE outer P w H s Q u s':=
  λ{σ' H' v u} J rv q=>⟨v,H',J.os,J.bare,J.base,J.hok,rv,q⟩
 cases fl with
 | ret u=>
  obtain⟨v,σ',H',J,rv,q⟩:=hs
  exact fin J rv q
 | next=>
  obtain⟨σ',H',J,q⟩:=hs
  exact fin (v:=V.non) (u:=Value.none) J rfl q
 | brk=>
  obtain⟨_,_,_,q⟩:=hs
  exact False.elim q
 | cont=>
  obtain⟨_,_,_,q⟩:=hs
  exact False.elim q
end L2
namespace L2
open PySem PySem.Spec PyProof.Rows
section
variable {X:Cx}{x:Str}{p pos:Pos}{e:Expr}{es:List Expr}{t:TA}{id T:String}{r:List V->Hp->VK->Prop}
noncomputable def tCB (r:List V->Hp->VK->Prop) (t:TA):TE:=λσ H Q=>t σ H λvs H1=>r vs H1 Q
theorem oT (hc:bR X (.builtin id) r) (hg:Gl X x) (hm:X.mg x=none) (hv:bootBuiltins x=some (.builtin id)) (ha:PA X (e::es) t) (hn:x≠"__name__":=by decide) (hdb:(x==("__debug__" : Str))=false:=by decide)
  (he:starEach (e::es) X.env=(false,eval e X.env)::starEach es X.env:=by rfl) (hpl:(backTo pos (starEach es X.env)).any (·.1)=false:=by rfl):PE X (.Call (.Name x p) (e::es) [] pos) (tCB r t):=by
 intro pins s σ H Q I h
 refine wpAny_Call_Name_kw (iI I hg hm hv ?_ hn hdb)
 exact PyProof.Rows.callWith_builtin1 (thn (ha pos pins s σ H _ I h) λus s1 ⟨vs,H1,I1,r1,q1⟩=>hc pins s1 σ H1 vs us Q I1 r1 q1) he hpl
theorem rN (hc:bR X (.type T) r) (hg:Gl X x) (hm:X.mg x=none) (hv:bootBuiltins x=some (.type T)) (ha:PA X (e::es) t) (hn:x≠"__name__":=by decide) (hdb:(x==("__debug__" : Str))=false:=by decide)
  (he:starEach (e::es) X.env=(false,eval e X.env)::starEach es X.env:=by rfl) (hpl:(backTo pos (starEach es X.env)).any (·.1)=false:=by rfl):PE X (.Call (.Name x p) (e::es) [] pos) (tCB r t):=by
 intro pins s σ H Q I h
 refine wpAny_Call_Name_kw (iI I hg hm hv ?_ hn hdb)
 exact PyProof.Rows.callWith_type1 (thn (ha pos pins s σ H _ I h) λus s1 ⟨vs,H1,I1,r1,q1⟩=>hc pins s1 σ H1 vs us Q I1 r1 q1) he hpl
end
end L2
namespace HT
open PySem PyProof.Rows
section
open PySem.SeqAt
open PySem.AutoSeq1 (wpAny_loadPart')
open PySem.MeetsSeq PySem.MeetsSeq2 PySem.MeetsSeq3
end
section
variable {prog:Program}{w:World}{A:Around}{E:Value->Shared->Prop}{s:Shared}
theorem cat_tup {t b:Addr}{vs ws:List Value}{Q:Value->Shared->Prop} (ht:IsTup s.heap t vs.toArray) (hb:IsTup s.heap b ws.toArray) (hv:vs≠[])
  (h1:ws=[]->Q (.ref t) s) (h2:ws≠[]->Q (.ref s.heap.objs.size) { s with heap:=s.heap.push { cls:=.type "tuple",data:=.seq (vs++ws).toArray } })
  (hsz:vs.length+ws.length<=sizeLine):wpAny (model prog w) A (binaryOp .Add (.ref t) (.ref b)) Q E s:=by
 obtain⟨⟨cls,dd,data,sl⟩,ho,hc,n,hd⟩:=id ht
 obtain⟨⟨cls2,dd2,data2,sl2⟩,ho2,hc2,n2,hd2⟩:=id hb
 simp only at hc hd hc2 hd2
 subst hc hd hc2 hd2
 have e:vs.toArray++ws.toArray=(vs++ws).toArray:=by simp
 by_cases hw:ws=[]
 ·exact concat_meets ⟨_,ho,rfl⟩ ⟨_,ho2,rfl⟩ noFill_tuple_add seq_tuple_add PySem.F.slot_tuple_add PySem.F.entry_tuple_add (PySem.F.args_tuple_add_2 _ _)
   (tuple_addW1 t b vs.toArray ws.toArray n n2 dd dd2 sl sl2 (by simpa using hv) (by simp [hw])) ⟨ho,ho2,h1 hw⟩
 ·refine concat_meets ⟨_,ho,rfl⟩ ⟨_,ho2,rfl⟩ noFill_tuple_add seq_tuple_add PySem.F.slot_tuple_add PySem.F.entry_tuple_add (PySem.F.args_tuple_add_2 _ _)
   (tuple_addW2 t b vs.toArray ws.toArray n n2 dd dd2 sl sl2 (by simpa using hv) (by simpa using hw) (by rw [List.size_toArray,List.size_toArray];exact hsz)) ⟨ho,ho2,?_⟩
  rw [e]
  exact h2 hw
noncomputable def sIx (n d:Nat):Option Int->Nat
 | none=>d
 | some v=>if v < 0 then (v+(n:Int)).toNat else min v.toNat n
theorem yV (n d:Nat) (hd:d<=n) (o:Option Int):sIx n d o<=n:=by
 cases o with
 | none=>exact hd
 | some v=>
  show (if v < 0 then (v+(n:Int)).toNat else min v.toNat n)<=n
  by_cases hv:v < 0
  ·rw [if_pos hv];lia
  ·rw [if_neg hv];exact Nat.min_le_right _ _
theorem qS (v:Int) (n d:Nat):(if v < 0 then max (v+(n:Int)) 0 else min v (n:Int))=((sIx n d (some v):Nat):Int):=by
 show (if v < 0 then max (v+(n:Int)) 0 else min v (n:Int))=(((if v < 0 then (v+(n:Int)).toNat else min v.toNat n):Nat):Int)
 by_cases hv:v < 0
 ·simp only [if_pos hv];lia
 ·simp only [if_neg hv];lia
theorem qE (lo hi:Option Int) (n:Nat):Builtin.Slice.sliceAdjust lo hi 1 (n:Int)=(((sIx n 0 lo:Nat):Int),((sIx n n hi:Nat):Int)):=by
 have h1:¬ ((1:Int) < 0):=by lia
 unfold Builtin.Slice.sliceAdjust
 simp only [h1,if_false]
 refine Prod.ext ?_ ?_
 ·cases lo with
  | none=>rfl
  | some v=>exact qS v n 0
 ·cases hi with
  | none=>rfl
  | some v=>exact qS v n n
theorem p9 (i j:Nat):Builtin.Slice.slicePlaces (i:Int) (j:Int) 1=j - i:=by
 unfold Builtin.Slice.slicePlaces
 have h1:(1:Int) > 0:=by lia
 simp only [h1,if_true,Int.ediv_one]
 split<;>lia
theorem kY {v:Value}{o:Option Int}{Q:Option Int->Shared->Prop} (p:IsPart v o) (h:Q o s):wpAny (model prog w) A (Builtin.Slice.slicePartIndex v) Q E s:=by
 cases p with
 | none=>exact slicePart_none h
 | int i t=>exact slicePart_int h
theorem fA {sl:Addr}{vl vu:Value}{lo hi:Option Int}{n:Nat}{Q:Int×Int×Nat->Shared->Prop} (hs:s.heap.IsSliceOf sl vl vu .none) (pl:IsPart vl lo) (pu:IsPart vu hi)
  (h:Q (((sIx n 0 lo:Nat):Int),1,sIx n n hi - sIx n 0 lo) s):wpAny (model prog w) A (Builtin.Slice.sliceApplied (.ref sl) (pure (n:Int))) Q E s:=by
 obtain⟨os,hos,hcs,hds⟩:=id hs
 unfold Builtin.Slice.sliceApplied Builtin.Slice.sliceFields
 refine wpAny_bind (wpAny_bind (wpAny_field hos hds (x:=vl) rfl (wpAny_bind (wpAny_field hos hds (x:=vu) rfl (wpAny_bind (wpAny_field hos hds (x:=.none) rfl (wpAny_pure ?_)))))))
 refine wpAny_bind (slicePart_none ?_)
 show wpAny _ _ (if ((1:Int)==0)=true then _ else _) _ _ s
 rw [if_neg (by decide)]
 refine wpAny_bind (kY pl (wpAny_bind (kY pu (wpAny_bind (wpAny_pure ?_)))))
 show wpAny _ _ (match Builtin.Slice.sliceAdjust lo hi 1 (n:Int) with | (lo,hi)=>pure (lo,(1:Int),Builtin.Slice.slicePlaces lo hi 1)) _ _ s
 rw [qE lo hi n]
 show wpAny _ _ (pure (((sIx n 0 lo:Nat):Int),(1:Int),Builtin.Slice.slicePlaces ((sIx n 0 lo:Nat):Int) ((sIx n n hi:Nat):Int) 1)) _ _ s
 rw [p9]
 exact wpAny_pure h
theorem ul (xs:Array Value) (i k:Nat):((List.range k).filterMap λ(m:Nat)=>xs[((i:Int)+(m:Int)*1).toNat]?).toArray=((xs.toList.drop i).take k).toArray:=by
 have e:(λ(m:Nat)=>xs[((i:Int)+(m:Int)*1).toNat]?)=λm=>xs[i+m]?:=by
  funext m
  have:((i:Int)+(m:Int)*1).toNat=i+m:=by lia
  rw [this]
 rw [e]
 have:=pick_run xs i k
 rw [List.filterMap_map] at this
 have e2:((λx=>xs[x]?) ∘ λx=>i+x)=λm=>xs[i+m]?:=rfl
 rw [e2] at this
 rw [this]
theorem getItem_tuple_cut {t sl:Addr}{items:Array Value}{vl vu:Value}{lo hi:Option Int}{Q:Value->Shared->Prop} (ht:IsTup s.heap t items) (hs:s.heap.IsSliceOf sl vl vu .none) (pl:IsPart vl lo) (pu:IsPart vu hi)
  (hw:¬ (sIx items.size 0 lo=0/\sIx items.size items.size hi=items.size))
  (h:Q (.ref s.heap.objs.size) { s with heap:=s.heap.push { cls:=.type "tuple",data:=.seq ((items.toList.drop (sIx items.size 0 lo)).take (sIx items.size items.size hi - sIx items.size 0 lo)).toArray } })
  (hsz:items.size<=sizeLine):wpAny (model prog w) A (getItem (.ref t) (.ref sl)) Q E s:=by
 have htake:sizeOk (.seq ((items.toList.drop (sIx items.size 0 lo)).take (sIx items.size items.size hi - sIx items.size 0 lo)).toArray):=by
  show ((items.toList.drop (sIx items.size 0 lo)).take (sIx items.size items.size hi - sIx items.size 0 lo)).toArray.size<=sizeLine
  rw [List.size_toArray,List.length_take,List.length_drop,Array.length_toList]
  lia
 have hj:sIx items.size items.size hi<=items.size:=yV _ _ (Nat.le_refl _) hi
 obtain⟨os,hos,hcs,hds⟩:=id hs
 have hTs:s.TypeIs (.ref sl) "slice":=⟨os,hos,hcs⟩
 unfold getItem
 try with_reducible refine wpAny_holding ?_
 first | refine wpAny_bind (wpAny_pure ?_) | skip
 refine wpAny_bind (wpAny_sequenceKey ht.typeIs (by decide) ?_)
 refine wpAny_bind (wpAny_callSpecial?_slot (name:=Str.ofString "__getitem__") ht.typeIs PyProof.Rows.slot_tuple_getitem
  (wpAny_call_entry PyProof.Rows.slot_tuple_getitem ht.typeIs entry_tuple_getitem ?_ (args_tuple_getitem _ _)))
 show wpAny _ _ (Builtin.Tuple.tupleItemsOf (.ref t) >>= _) _ _ s
 refine wpAny_bind (tupleItemsOf_ ht ?_)
 refine wpAny_bind (wpAny_typeOf hTs ?_)
 rw [if_pos (by decide)]
 refine wpAny_bind (fA hs pl pu ?_)
 have hno:¬ ((((sIx items.size 0 lo:Nat):Int)==0 && (1:Int)==1 && (sIx items.size items.size hi - sIx items.size 0 lo)==items.size)=true):=by
  intro q
  rw [Bool.and_eq_true,Bool.and_eq_true] at q
  have q1:((sIx items.size 0 lo:Nat):Int)=0:=eq_of_beq q.1.1
  have q2:sIx items.size items.size hi - sIx items.size 0 lo=items.size:=eq_of_beq q.2
  exact hw ⟨by lia,by lia⟩
 show wpAny _ _ (if (((sIx items.size 0 lo:Nat):Int)==0 && (1:Int)==1 && (sIx items.size items.size hi - sIx items.size 0 lo)==items.size)=true then _ else _) _ _ s
 rw [if_neg hno,ul]
 first
  | exact wpAny_bind (m:=Builtin.Tuple.tupleExact _) (wpAny_newObj_type (wpAny_pure ⟨_,rfl,wpAny_pure h⟩) htake)
  | exact wpAny_bind (m:=Builtin.Tuple.tupleExact _) (wpAny_newObj_type (wpAny_bind (wpAny_pure (wpAny_pure ⟨_,rfl,wpAny_pure h⟩))) htake)
  | exact wpAny_bind (wpAny_bind (m:=Builtin.Tuple.tupleExact _) (wpAny_newObj_type (wpAny_pure (wpAny_pure ⟨_,rfl,wpAny_pure h⟩)) htake))
  | exact wpAny_bind (wpAny_bind (m:=Builtin.Tuple.tupleExact _) (wpAny_newObj_type (wpAny_pure ⟨_,rfl,wpAny_pure h⟩) htake))
end
end HT
namespace L2
open PySem PySem.Spec PyProof.Rows
abbrev TO:=St->Hp->(Option Int->Hp->Prop)->Prop
noncomputable def PO (X:Cx) (e:Option Expr) (t:TO):Prop:=
 ∀ (pins:List (Addr×Obj)) (s:Shared) (σ:St) (H:Hp) (Q:Option Int->Hp->Prop),Inv X pins σ H s->t σ H Q->
  wpAny (model X.prog X.w) X.A (evalPart e X.env) (λu s'=>∃ o H',Inv X pins σ H' s'/\IsPart u o/\Q o H') X.xe s
noncomputable def v8:TO:=λ_ H Q=>Q none H
noncomputable def Ay (t:TE):TO:=λσ H Q=>t σ H λx H1=>∃ i,x=.int i/\Q (some i) H1
theorem eI {ns:List Int}:∀ {us:List Value},aK (ns.map V.int) us->IntsAre us ns:=by
 induction ns with
 | nil=>intro us r;rw [List.map_nil] at r;cases r;exact .nil
 | cons n ns ih=>
  intro us r
  rw [List.map_cons] at r
  cases r with
  | cons r1 r2=>
   obtain⟨t,e⟩:=r1
   subst e
   exact .cons n t (ih r2)
section
variable {X:Cx}{e:Expr}{te:TE}{lo hi:Option Expr}{tl th:TO}{pos p2:Pos}
theorem xh:PO X none v8:=by
 intro pins s σ H Q I h
 rw [evalPart_none]
 exact wpAny_pure ⟨none,H,I,.none,h⟩
theorem wu (h:PE X e te):PO X (some e) (Ay te):=by
 intro pins s σ H Q I hw
 rw [evalPart_some]
 refine thn (h pins s σ H _ I hw) λu s1 ⟨x,H1,I1,r1,q1⟩=>?_
 obtain⟨i,rfl,q⟩:=q1
 obtain⟨t,rfl⟩:=r1
 exact⟨some i,H1,I1,.int i t,q⟩
noncomputable def SlR (X:Cx) (r:V->Option Int->Option Int->Hp->VK->Prop):Prop:=
 ∀ (pins:List (Addr×Obj)) (s:Shared) (σ:St) (H:Hp) (x:V) (v vl vu:Value) (lo hi:Option Int) (sl:Addr) (Q:VK),Inv X pins σ H s->aX x v->s.heap.IsSliceOf sl vl vu .none->IsPart vl lo->IsPart vu hi->r x lo hi H Q->
  ∃ T id,typeLookup (.type T) "__getitem__" = pure (some (.builtin id))/\s.TypeIs v T/\wpAny (model X.prog X.w) X.A (getItem v (.ref sl)) (EP X pins σ Q) X.xe s
noncomputable def tSl (r:V->Option Int->Option Int->Hp->VK->Prop) (te:TE) (tl th:TO):TE:=λσ H Q=>te σ H λx H1=>tl σ H1 λl H2=>th σ H2 λu H3=>r x l u H3 Q
theorem oq {r:V->Option Int->Option Int->Hp->VK->Prop} (hr:SlR X r) (he:PE X e te) (hl:PO X lo tl) (hu:PO X hi th):PE X (.Subscript e (.Slice lo hi none p2) pos) (tSl r te tl th):=by
 intro pins s σ H Q I h
 refine Subscript_ (thn (he pins s σ H _ I h) λv s1 ⟨x,H1,I1,r1,q1⟩=>?_)
 refine wpAny_Slice (thn (hl pins s1 σ H1 _ I1 q1) λvl s2 ⟨l,H2,I2,pl,q2⟩=>thn (hu pins s2 σ H2 _ I2 q2) λvu s3 ⟨u,H3,I3,pu,q3⟩=>?_)
 rw [evalPart_none]
 refine wpAny_pure ?_
 have I4:Inv X pins σ H3 { s3 with heap:=s3.heap.push { cls:=.type "slice",data:=.fields #[vl,vu,.none] } }:=I3.kept (t':=s3.toks) λb ob q=>Heap.get?_push_of_some _ q
 obtain⟨T,id,hT,ht,hg⟩:=hr pins { s3 with heap:=s3.heap.push { cls:=.type "slice",data:=.fields #[vl,vu,.none] } } σ H3 x v vl vu l u s3.heap.objs.size Q I4 r1 (Heap.IsSliceOf.new ..) pl pu q3
 show wpAny (model X.prog X.w) X.A (subscriptTail e (.Slice lo hi none p2) v (.ref s3.heap.objs.size)) (EP X pins σ Q) X.xe { s3 with heap:=s3.heap.push { cls:=.type "slice",data:=.fields #[vl,vu,.none] } }
 exact tail_any (ops:=[.ref s3.heap.objs.size,v]) ht hT hg (by with_unfolding_all rfl)
noncomputable def mK (xs:List V) (lo hi:Option Int):List V:=(xs.drop (HT.sIx xs.length 0 lo)).take (HT.sIx xs.length xs.length hi - HT.sIx xs.length 0 lo)
theorem jE (xs:List V) (lo hi:Option Int):(mK xs lo hi).length<=xs.length:=by
 unfold mK
 rw [List.length_take,List.length_drop]
 lia
noncomputable def A6 (K:PySem.W.Frag):V->Option Int->Option Int->Hp->VK->Prop:=λx lo hi H Q=>∃ a xs,x=.ref a/\SqT K H a xs/\
 ¬ (HT.sIx xs.length 0 lo=0/\HT.sIx xs.length xs.length hi=xs.length)/\∀ p,H p=none->Q (.ref p) (upd H p (.tup (mK xs lo hi)))
theorem yc:SlR X (A6 X.K):=by
 intro pins s σ H x v vl vu lo hi sl Q I rx hs pl pu h
 obtain⟨a,xs,rfl,hx,hw,q⟩:=h
 cases rx
 obtain⟨its,r,ht,hz⟩:=I.tuple hx
 have hlen:its.toArray.size=xs.length:=by rw [List.size_toArray];exact r.length.symm
 refine⟨"tuple",_,PyProof.Rows.slot_tuple_getitem.lookup,ht.typeIs,?_⟩
 refine HT.getItem_tuple_cut ht hs pl pu (by rw [hlen];exact hw) ?_ (by rw [hlen];exact hz)
 rw [hlen]
 refine⟨.ref s.heap.objs.size,_,I.laid (t':=s.toks) (o:=.tup (mK xs lo hi)) (λb ob q=>Heap.get?_push_of_some _ q) (Nat.le_refl _) ?_,rfl,q _ (I.hok.fresh (Nat.le_refl _))⟩
 exact⟨Nat.le_trans (jE xs lo hi) hz,_,(r.drop (HT.sIx xs.length 0 lo)).take (HT.sIx xs.length xs.length hi - HT.sIx xs.length 0 lo),di.new _ _⟩
noncomputable def zN (K:PySem.W.Frag):R2:=λx y H Q=>∃ a b xs ys,x=.ref a/\y=.ref b/\SqT K H a xs/\SqT K H b ys/\xs≠[]/\xs.length+ys.length<=sizeLine/\
 (ys=[]->Q (.ref a) H)/\(ys≠[]->∀ p,H p=none->Q (.ref p) (upd H p (.tup (xs++ys))))
theorem aK.nil_iff {xs:List V}{us:List Value} (r:aK xs us):us=[]↔xs=[]:=by
 cases r with
 | nil=>simp
 | cons _ _=>simp
theorem wL:OpR X (binaryOp .Add) (zN X.K):=by
 intro pins s σ H x y v u Q I rx ry h
 obtain⟨a,b,xs,ys,rfl,rfl,ha,hb,hx,hz,q1,q2⟩:=h
 cases rx
 cases ry
 obtain⟨its,r1,p1,_⟩:=I.tuple ha
 obtain⟨its2,r2,p2,_⟩:=I.tuple hb
 refine HT.cat_tup p1 p2 (λz=>hx (r1.nil_iff.mp z)) (λz=>⟨.ref a,H,I,rfl,q1 (r2.nil_iff.mp z)⟩) (λz=>?_) (by rw [<-r1.length,<-r2.length];exact hz)
 refine⟨.ref s.heap.objs.size,_,I.laid (t':=s.toks) (o:=.tup (xs++ys)) (λb ob q=>Heap.get?_push_of_some _ q) (Nat.le_refl _) ?_,rfl,q2 (λw=>z (r2.nil_iff.mpr w)) _ (I.hok.fresh (Nat.le_refl _))⟩
 exact⟨by rw [List.length_append];exact hz,_,r1.append r2,di.new _ _⟩
end
end L2
namespace L2
open PySem PySem.Spec PyProof.Rows
noncomputable def ixN (n:Nat) (i:Int):Option Nat:=if 0<=i then (if i < n then some i.toNat else none) else if -(n:Int)<=i then some (i+n).toNat else none
noncomputable def atI {α:Type} (xs:List α) (i:Int):Option α:=(ixN xs.length i).bind λj=>xs[j]?
theorem nr {n:Nat}{i:Int}{j:Nat} (h:ixN n i=some j):seqIndex? i n=some j/\j < n/\-(n:Int)<=i/\i < n:=by
 unfold ixN at h
 by_cases h0:0<=i
 ·rw [if_pos h0] at h
  by_cases h1:i < n
  ·rw [if_pos h1] at h
   have e:i.toNat=j:=Option.some.inj h
   exact⟨by rw [seqIndex_of h0 h1,e],by lia,by lia,h1⟩
  ·rw [if_neg h1] at h;cases h
 ·rw [if_neg h0] at h
  by_cases h1:-(n:Int)<=i
  ·rw [if_pos h1] at h
   have e:(i+n).toNat=j:=Option.some.inj h
   exact⟨by rw [seqIndex_neg (by lia) h1,e],by lia,h1,by lia⟩
  ·rw [if_neg h1] at h;cases h
theorem nD {α:Type}{xs:List α}{i:Int}{v:α} (h:atI xs i=some v):∃ j,seqIndex? i xs.length=some j/\xs[j]?=some v/\j < xs.length/\-(xs.length:Int)<=i/\i < xs.length:=by
 unfold atI at h
 cases e:ixN xs.length i with
 | none=>rw [e] at h;cases h
 | some j=>
  rw [e] at h
  obtain⟨h1,h2,h3,h4⟩:=nr e
  exact⟨j,h1,h,h2,h3,h4⟩
theorem dG {α:Type}{xs:List α}{j:Nat}{v:α} (h:xs[j]?=some v):atI xs (j:Int)=some v:=by
 have hj:j < xs.length:=(List.getElem?_eq_some_iff.mp h).1
 have e:ixN xs.length (j:Int)=some j:=by
  unfold ixN
  rw [if_pos (by lia),if_pos (by lia)];simp
 unfold atI;rw [e];exact h
noncomputable def rp (b:Expr):Prop:=∀ o i,subscripted b false o i=operate [o,i] (getItem o i)
noncomputable def IxR (X:Cx) (r:R2):Prop:=
 ∀ (value slice:Expr) (pins:List (Addr×Obj)) (s:Shared) (σ:St) (H:Hp) (x y:V) (v u:Value) (Q:VK),Inv X pins σ H s->aX x v->aX y u->r x y H Q->
  subscripted slice false v u=operate [v,u] (getItem v u)->wpAny (model X.prog X.w) X.A (subscriptTail value slice v u) (EP X pins σ Q) X.xe s
noncomputable def MtR (X:Cx) (id:String) (r:V->List V->Hp->VK->Prop):Prop:=
 ∀ (pins:List (Addr×Obj)) (s:Shared) (σ:St) (H:Hp) (x:V) (xs:List V) (v:Value) (us:List Value) (Q:VK),Inv X pins σ H s->aX x v->aK xs us->r x xs H Q->
  wpAny (model X.prog X.w) X.A (call (.builtin id) (v::us)) (EP X pins σ Q) X.xe s
section
variable {X:Cx}{a b:Expr}{ta tb:TE}{pos:Pos}
theorem IxR.or {r r':R2} (h:IxR X r) (h':IxR X r'):IxR X (λx y H Q=>r x y H Q\/r' x y H Q):=by
 intro value slice pins s σ H x y v u Q I rx ry q hs
 rcases q with q | q
 ·exact h value slice pins s σ H x y v u Q I rx ry q hs
 ·exact h' value slice pins s σ H x y v u Q I rx ry q hs
theorem xU {r:R2} (hr:IxR X r) (ha:PE X a ta) (hb:PE X b tb) (hs:rp b):PE X (.Subscript a b pos) (tOp r ta tb):=by
 intro pins s σ H Q I h
 exact Subscript_ (yq ha hb I h λv u s2 x y H2 I2 rx ry q=>hr a b pins s2 σ H2 x y v u Q I2 rx ry q (hs _ _))
noncomputable def Ad (K:PySem.W.Frag):R2:=λx y H Q=>∃ p xs i v,x=.ref p/\y=.int i/\SqL K H p xs/\atI xs i=some v/\Q v H
noncomputable def zQ (K:PySem.W.Frag):R2:=λx y H Q=>∃ p xs i v,x=.ref p/\y=.int i/\SqT K H p xs/\atI xs i=some v/\Q v H
noncomputable def zJ:R2:=λx y H Q=>∃ z i c,x=.str z/\y=.int i/\z.length<=sizeLine/\atI z.cps.toList i=some c/\Q (.str ⟨#[c]⟩) H
theorem wp:IxR X (Ad X.K):=by
 intro value slice pins s σ H x y v u Q I rx ry h hs
 obtain⟨p,xs,i,z,rfl,rfl,hq,he,q⟩:=h
 cases rx
 obtain⟨t,rfl⟩:=ry
 obtain⟨its,r,pl,hz⟩:=I.list hq
 obtain⟨j,h1,h2,h3,h4,h5⟩:=nD he
 obtain⟨w,ew,rw'⟩:=r.get h2
 have hl:=r.length
 have hn:=iE
 have fin:EP X pins σ Q w s:=⟨z,H,I,rw',q⟩
 by_cases h0:0<=i
 ·have hj:i.toNat=j:=by
   rw [seqIndex_of h0 h5] at h1
   exact Option.some.inj h1
  exact item_listR pl.isList h0 (by lia) (by rw [hj];simpa using ew) fin hs
 ·have hj:(i+(its.toArray.size:Int)).toNat=j:=by
   rw [seqIndex_neg (by lia) h4] at h1
   rw [List.size_toArray,<-hl]
   exact Option.some.inj h1
  exact subscriptTail_builtinR (x:=w) pl.isList.typeIs slot_list_getitem.lookup
   (wpAny_getItem_list_neg (Q:=λr s'=>r=w/\EP X pins σ Q r s') pl.isList (by lia) (by rw [List.size_toArray]<;>lia) (by lia) (by rw [hj];simpa using ew) ⟨rfl,fin⟩) hs
theorem xY:IxR X (zQ X.K):=by
 intro value slice pins s σ H x y v u Q I rx ry h hs
 obtain⟨p,xs,i,z,rfl,rfl,hq,he,q⟩:=h
 cases rx
 obtain⟨t,rfl⟩:=ry
 obtain⟨its,r,pl,hz⟩:=I.tuple hq
 obtain⟨j,h1,h2,h3,h4,h5⟩:=nD he
 obtain⟨w,ew,rw'⟩:=r.get h2
 have hl:=r.length
 have hn:=iE
 have fin:EP X pins σ Q w s:=⟨z,H,I,rw',q⟩
 exact subscriptTail_builtinR (x:=w) pl.typeIs slot_tuple_getitem.lookup
  (getItem_tuple (j:=j) (Q:=λr s'=>r=w/\EP X pins σ Q r s') pl (by lia) (by lia) (by rw [List.size_toArray,<-hl];exact h1) (by simpa using ew) ⟨rfl,fin⟩) hs
theorem yb:IxR X zJ:=by
 intro value slice pins s σ H x y v u Q I rx ry h hs
 obtain⟨z,i,c,rfl,rfl,hz,he,q⟩:=h
 obtain⟨t,rfl⟩:=rx
 obtain⟨t',rfl⟩:=ry
 obtain⟨j,h1,h2,h3,h4,h5⟩:=nD he
 have hl:z.cps.toList.length=z.length:=by simp [Str.length]
 rw [hl] at h1 h4 h5
 have hn:=iE
 exact tail_any (typeIs_str s z t) slot_str_getitem.lookup (getItem_str (c:=c) (by
  have e1:decide (i < -(2 ^ 63:Int))=false:=decide_eq_false (by lia)
  have e2:decide (i>=2 ^ 63)=false:=decide_eq_false (by lia)
  rw [e1,e2,Bool.or_false]) (by rw [h1];simpa using h2) ⟨.str ⟨#[c]⟩,H,I.tok _,⟨_,rfl⟩,q⟩) hs
noncomputable def rIx (K:PySem.W.Frag):R2:=λx y H Q=>Ad K x y H Q\/zQ K x y H Q\/zJ x y H Q
theorem qt:IxR X (rIx X.K):=wp.or (xY.or yb)
theorem pM (its:List Value) (n j:Nat) (u:Value):Obj.mapSeq (·.setIfInBounds j u) { cls:=.type "list",data:=.seq its.toArray n }={ cls:=.type "list",data:=.seq (its.set j u).toArray n }:=by
 simp [Obj.mapSeq]
theorem Inv.lst {pins:List (Addr×Obj)}{σ:St}{H:Hp}{s:Shared}{p:Addr}{xs:List V} (I:Inv X pins σ H s) (h:H p=some (.lst xs)) :
  ∃ (its:List Value) (n:Nat),aK xs its/\s.heap.get? p=some { cls:=.type "list",data:=.seq its.toArray n }/\xs.length<=sizeLine:=by
 obtain⟨z,its,n,r,e⟩:=I.hok p _ h
 exact⟨its,n,r,e,z⟩
theorem Inv.lstUpd {pins:List (Addr×Obj)}{σ:St}{H:Hp}{s:Shared}{p:Addr}{xs ys:List V}{its its':List Value}{n n':Nat}{f:Obj->Obj} (I:Inv X pins σ H s) (h:H p=some (.lst xs))
  (ho:s.heap.get? p=some { cls:=.type "list",data:=.seq its.toArray n }) (hf:f { cls:=.type "list",data:=.seq its.toArray n }={ cls:=.type "list",data:=.seq its'.toArray n' }) (r:aK ys its') (hz:ys.length<=sizeLine) (t:Nat) :
  Inv X pins σ (upd H p (.lst ys)) { s with heap:=s.heap.update p f,toks:=t }:=by
 have e:(s.heap.update p f).get? p=some { cls:=.type "list",data:=.seq its'.toArray n' }:=by
  rw [Heap.get?_update_self f ho (by rw [hf]<;>rfl),hf]
 refine I.write (x:=p) (e:=p) (by rw [h];trivial) (.inl rfl) (λb u hb q=>(Heap.get?_update_other _ _ (Ne.symm hb)).trans q) ⟨_,e⟩ ?_
 exact⟨hz,its',n',r,e⟩
noncomputable def Ae:V->V->V->Hp->(Hp->Prop)->Prop:=λo i v H Q=>∃ p xs k j,o=.ref p/\i=.int k/\H p=some (.lst xs)/\ixN xs.length k=some j/\Q (upd H p (.lst (xs.set j v)))
theorem oA:zZ X Ae:=by
 intro pins s σ H o i v ov iv u Q I ro ri rv h
 obtain⟨p,xs,k,j,rfl,rfl,hp,hj,q⟩:=h
 cases ro
 obtain⟨t,rfl⟩:=ri
 obtain⟨its,n,r,ho,hz⟩:=I.lst hp
 obtain⟨h1,h2,h3,h4⟩:=nr hj
 have hl:=r.length
 have hn:=iE
 have I':Inv X pins σ (upd H p (.lst (xs.set j v))) { s with heap:=s.heap.update p (Obj.mapSeq (·.setIfInBounds j u)) }:=
  I.lstUpd hp ho (pM its n j u) (r.set rv j) (by rw [List.length_set];exact hz) s.toks
 by_cases h0:0<=k
 ·have hk:k.toNat=j:=by
   rw [seqIndex_of h0 h4] at h1
   exact Option.some.inj h1
  exact PySem.W.ki_setAt ho h0 (by lia) (by rw [List.size_toArray,<-hl];exact h4) (by rw [hk];exact⟨_,I',q⟩)
 ·have hk:(k+(its.toArray.size:Int)).toNat=j:=by
   rw [seqIndex_neg (by lia) h3] at h1
   rw [List.size_toArray,<-hl]
   exact Option.some.inj h1
  exact PySem.W.ki_setBack ho (by lia) (by rw [List.size_toArray,<-hl];exact h3) (by lia) (by rw [hk];exact⟨_,I',q⟩)
theorem mQ (lo hi:Option Int) (n:Nat):(sliceBounds lo hi none n).1=((HT.sIx n 0 lo:Nat):Int)/\(sliceBounds lo hi none n).2.1=((HT.sIx n n hi:Nat):Int)/\(sliceBounds lo hi none n).2.2=1:=by
 refine⟨?_,?_,rfl⟩
 ·cases lo with
  | none=>simp [sliceBounds,HT.sIx]
  | some i=>
   simp only [sliceBounds,HT.sIx,Option.getD_none,show (1:Int) > 0 by decide,if_true]
   by_cases h:i < 0
   ·simp only [h,if_true]<;>lia
   ·simp only [h,if_false]<;>lia
 ·cases hi with
  | none=>simp [sliceBounds,HT.sIx]
  | some i=>
   simp only [sliceBounds,HT.sIx,Option.getD_none,show (1:Int) > 0 by decide,if_true]
   by_cases h:i < 0
   ·simp only [h,if_true]<;>lia
   ·simp only [h,if_false]<;>lia
theorem lI (its:List Value) (lo hi:Option Int):slicePick its.toArray lo hi none=((its.drop (HT.sIx its.length 0 lo)).take (HT.sIx its.length its.length hi - HT.sIx its.length 0 lo)).toArray:=by
 obtain⟨h1,h2,h3⟩:=mQ lo hi its.toArray.size
 unfold slicePick
 rw [h1,h2,h3]
 simp only [sliceRange_one,pick_run,List.size_toArray]<;>rfl
noncomputable def AM (K:PySem.W.Frag):V->Option Int->Option Int->Hp->VK->Prop:=λx lo hi H Q=>∃ a xs,x=.ref a/\SqL K H a xs/\∀ p,H p=none->Q (.ref p) (upd H p (.lst (mK xs lo hi)))
theorem v4:SlR X (AM X.K):=by
 intro pins s σ H x v vl vu lo hi sl Q I rx hs pl pu h
 obtain⟨a,xs,rfl,hx,q⟩:=h
 cases rx
 obtain⟨its,r,ht,hz⟩:=I.list hx
 have hlen:=r.length
 refine⟨"list",_,slot_list_getitem.lookup,ht.isList.typeIs,?_⟩
 refine wpAny_getItem_list_slice ht.isList hs pl pu .none (by simp) ?_ (by rw [List.size_toArray]<;>lia)
 rw [lI,<-hlen]
 refine⟨.ref s.heap.objs.size,_,I.laid (t':=s.toks) (o:=.lst (mK xs lo hi)) (λb ob q=>Heap.get?_push_of_some _ q) (Nat.le_refl _) ?_,rfl,q _ (I.hok.fresh (Nat.le_refl _))⟩
 exact⟨Nat.le_trans (jE xs lo hi) hz,_,0,(r.drop (HT.sIx xs.length 0 lo)).take (HT.sIx xs.length xs.length hi - HT.sIx xs.length 0 lo),Heap.get?_push_size _ rfl⟩
noncomputable def lm:V->Bool
 | .non=>true
 | .bl _=>true
 | .int _=>true
 | .str _=>true
 | _=>false
noncomputable def eqV:V->V->Bool
 | .non,.non=>true
 | .bl a,.bl b=>a==b
 | .bl a,.int b=>(if a then 1 else 0)==b
 | .int a,.bl b=>a==(if b then 1 else 0)
 | .int a,.int b=>a==b
 | .str a,.str b=>a==b
 | _,_=>false
theorem ui {A:Around}{s:Shared}{y x:V}{u v:Value} (ry:aX y u) (rx:aX x v) (fy:lm y=true) (fx:lm x=true):SeqAt.EqAt A s u v (eqV y x):=by
 cases y with
 | non=>
  cases ry
  cases x with
  | non=>cases rx;exact SeqAt.EqAt.same _
  | bl b=>cases rx;exact SeqAt.EqAt.none_bool b
  | int b=>obtain⟨t,rfl⟩:=rx;exact SeqAt.EqAt.none_int b t
  | str b=>obtain⟨t,rfl⟩:=rx;exact SeqAt.EqAt.none_str b t
  | _=>exact absurd (show false=true from fx) Bool.false_ne_true
 | bl a=>
  cases ry
  cases x with
  | non=>cases rx;exact SeqAt.EqAt.bool_none a
  | bl b=>cases rx;exact SeqAt.EqAt.bool_bool a b
  | int b=>obtain⟨t,rfl⟩:=rx;exact SeqAt.EqAt.bool_int a b t
  | str b=>obtain⟨t,rfl⟩:=rx;exact SeqAt.EqAt.bool_str a b t
  | _=>exact absurd (show false=true from fx) Bool.false_ne_true
 | int a=>
  obtain⟨t',rfl⟩:=ry
  cases x with
  | non=>cases rx;exact SeqAt.EqAt.int_none a t'
  | bl b=>cases rx;exact SeqAt.EqAt.int_bool a t' b
  | int b=>obtain⟨t,rfl⟩:=rx;exact SeqAt.EqAt.int_int a t' b t
  | str b=>obtain⟨t,rfl⟩:=rx;exact SeqAt.EqAt.int_str a t' b t
  | _=>exact absurd (show false=true from fx) Bool.false_ne_true
 | str a=>
  obtain⟨t',rfl⟩:=ry
  cases x with
  | non=>cases rx;exact SeqAt.EqAt.str_none a t'
  | bl b=>cases rx;exact SeqAt.EqAt.str_bool a t' b
  | int b=>obtain⟨t,rfl⟩:=rx;exact SeqAt.EqAt.str_int a t' b t
  | str b=>obtain⟨t,rfl⟩:=rx;exact SeqAt.EqAt.str_str a t' b t
  | _=>exact absurd (show false=true from fx) Bool.false_ne_true
 | _=>exact absurd (show false=true from fy) Bool.false_ne_true
theorem nv:bR X (.builtin "len") (λxs H Q=>∃ p ys,xs=[.ref p]/\(SqL X.K H p ys\/SqT X.K H p ys)/\Q (.int ys.length) H):=by
 intro pins s σ H xs us Q I r h
 obtain⟨p,ys,rfl,hq,q⟩:=h
 obtain⟨u,rfl,rx⟩:=g9 r
 cases rx
 have hn:=iE
 rcases hq with hq | hq
 ·obtain⟨its,r',pl,hz⟩:=I.list hq
  have hlen:=r'.length
  exact Calls.call_len_list pl.isList (by simp only [List.size_toArray]<;>lia) ⟨.int ys.length,H,I.tok _,⟨s.toks+1,by rw [List.size_toArray,hlen]⟩,q⟩
 ·obtain⟨its,r',pl,hz⟩:=I.tuple hq
  have hlen:=r'.length
  exact len_tuple pl (by simp only [List.size_toArray]<;>lia) ⟨.int ys.length,H,I.tok _,⟨s.toks+1,by rw [List.size_toArray,hlen]⟩,q⟩
theorem mX:bR X (.builtin "len") (λxs H Q=>∃ z,xs=[.str z]/\z.length<=sizeLine/\Q (.int z.length) H):=by
 intro pins s σ H xs us Q I r h
 obtain⟨z,rfl,hz,q⟩:=h
 obtain⟨u,rfl,t,rfl⟩:=g9 r
 have hn:=iE
 exact len_str (by lia) ⟨.int z.length,H,I.tok _,⟨_,rfl⟩,q⟩
theorem bR.or {f:Value}{r r':List V->Hp->VK->Prop} (h:bR X f r) (h':bR X f r'):bR X f (λxs H Q=>r xs H Q\/r' xs H Q):=by
 intro pins s σ H xs us Q I rs q
 rcases q with q | q
 ·exact h pins s σ H xs us Q I rs q
 ·exact h' pins s σ H xs us Q I rs q
theorem lM:bR X (.type "tuple") (λxs H Q=>∃ p ys,xs=[.ref p]/\((SqL X.K H p ys/\∀ l,H l=none->Q (.ref l) (upd H l (.tup ys)))\/(SqT X.K H p ys/\Q (.ref p) H))):=by
 intro pins s σ H xs us Q I r h
 obtain⟨p,ys,rfl,h⟩:=h
 obtain⟨u,rfl,rx⟩:=g9 r
 cases rx
 rcases h with⟨hq,q⟩ | ⟨hq,q⟩
 ·obtain⟨its,r',pl,hz⟩:=I.list hq
  have hlen:=r'.length
  refine call_tuple_list pl.isList (λh' kp=>?_) (by simp only [List.size_toArray]<;>lia)
  have I1:Inv X pins σ H { s with heap:=h' }:=I.kept (t':=s.toks) kp
  have I2:Inv X pins σ (upd H h'.objs.size (.tup ys)) { s with heap:=h'.push { cls:=.type "tuple",data:=.seq its.toArray } }:=
   I1.laid (t':=s.toks) (λb o e=>Heap.get?_push_of_some _ e) (Nat.le_refl _) (show cv X.prog X.w _ _ _ (.tup ys) from ⟨hz,its,r',di.new _ _⟩)
  exact⟨.ref h'.objs.size,_,I2,rfl,q _ (I1.hok.fresh (Nat.le_refl _))⟩
 ·obtain⟨its,r',pl,hz⟩:=I.tuple hq
  exact call_tuple_same pl ⟨.ref p,H,I,rfl,q⟩
noncomputable def tyV (K:PySem.W.Frag) (T:String) (x:V) (H:Hp):Prop:=match x with
 | .str _=>T = "str"
 | .int _=>T = "int"
 | .ref p=>(T = "list"/\∃ xs,SqL K H p xs)\/(T = "tuple"/\((∃ o,K.lookup p=some o/\o.cls=.type "tuple"/\o.dict=none)\/∃ xs,SqT K H p xs))\/
   (T = "dict"/\((∃ kvs,H p=some (.dK kvs))\/∃ kvs,H p=some (.dT kvs)))\/(T = "set"/\∃ S n,H p=some (.set S n))
 | _=>False
theorem zi {pins:List (Addr×Obj)}{σ:St}{H:Hp}{s:Shared}{T:String}{x:V}{v:Value} (I:Inv X pins σ H s) (r:aX x v) (ty:tyV X.K T x H) :
  s.TypeIs v T/\∀ a,v=.ref a->∃ ob,s.heap.get? a=some ob/\ob.dict=none:=by
 cases x with
 | str z=>
  obtain⟨t,rfl⟩:=r
  cases (show T = "str" from ty)
  exact⟨typeIs_str s z t,λ_ e=>nomatch e⟩
 | int i=>
  obtain⟨t,rfl⟩:=r
  cases (show T = "int" from ty)
  exact⟨typeIs_int s i t,λ_ e=>nomatch e⟩
 | ref p=>
  cases r
  rcases ty with⟨rfl,xs,hq⟩ | ⟨rfl,ht⟩ | ⟨rfl,hk⟩ | ⟨rfl,S,n,hk⟩
  ·obtain⟨its,_,pl,_⟩:=I.list hq
   refine⟨pl.isList.typeIs,λa e=>?_⟩
   cases e
   obtain⟨o,n,e,c,hd,_⟩:=pl
   exact⟨o,e,hd⟩
  ·have z:∃ o:Obj,s.heap.get? p=some o/\o.cls=.type "tuple"/\o.dict=none:=by
    rcases ht with⟨o,hk,hc,hd⟩ | ⟨xs,hq⟩
    ·exact⟨o,I.kIn p o hk,hc,hd⟩
    ·exact I.tuple1 hq
   obtain⟨o,e1,hc,hd⟩:=z
   refine⟨⟨o,e1,hc⟩,λa e=>?_⟩
   cases e
   exact⟨o,e1,hd⟩
  ·have z:∃ o,s.heap.get? p=some o/\o.ExactDict:=by
    rcases hk with⟨kvs,hk⟩ | ⟨kvs,hk⟩
    ·obtain⟨_,_,_,_,o,_,_,e,ex,_⟩:=I.hok p _ hk
     exact⟨o,e,ex⟩
    ·obtain⟨_,_,_,_,o,_,_,e,ex,_⟩:=I.hok p _ hk
     exact⟨o,e,ex⟩
   obtain⟨o,e,ex⟩:=z
   refine⟨⟨o,e,ex.1⟩,λa e2=>?_⟩
   cases e2
   exact⟨o,e,ex.2.1⟩
  ·obtain⟨o,_,_,_,e,ex,_⟩:=I.hok p _ hk
   refine⟨⟨o,e,ex.1⟩,λa e2=>?_⟩
   cases e2
   exact⟨o,e,ex.2.1⟩
 | _=>exact False.elim ty
noncomputable def tBM (K:PySem.W.Frag) (T:String) (r:V->List V->Hp->VK->Prop) (to:TE) (t:TA):TE:=λσ H Q=>to σ H λx H1=>tyV K T x H1/\t σ H1 λxs H2=>r x xs H2 Q
variable {o e:Expr}{es:List Expr}{to:TE}{t:TA}{name:Str}{apos cpos:Pos}{T id:String}{r:V->List V->Hp->VK->Prop}
theorem zX (pa:PlainAttrs T) (slot:Slot T name id) (hty:typeOf (.builtin id)=pure (.type "method_descriptor")) (hm:MtR X id r) (ho:PE X o to) (ha:PA X (e::es) t)
  (hbase:attributeBase o name X.env (eval o X.env)=eval o X.env:=by rfl)
  (hfew:((backTo cpos (starEach (e::es) X.env)).all (λx=>!x.1) && (backToKw cpos (keywordEach [] X.env)).all (λx=>x.1.isSome)
    && decide ((e::es).length+([]:List Keyword).length+(if ([]:List Keyword).isEmpty then 0 else 1) < 30))=true:=by rfl)
  (hline:(apos.endLine==cpos.line)=true:=by rfl) (hs:starEach (e::es) X.env=(false,eval e X.env)::starEach es X.env:=by rfl) (hplain:(backTo cpos (starEach es X.env)).any (·.1)=false:=by rfl) :
  PE X (.Call (.Attribute o name apos) (e::es) [] cpos) (tBM X.K T r to t):=by
 intro pins s σ H Q I h
 refine wpAny_Call_method_late hbase hfew hline rfl (thn (ho pins s σ H _ I h) λv s1 ⟨x,H1,I1,r1,ty,q1⟩=>?_)
 obtain⟨h1,h2⟩:=zi I1 r1 ty
 refine⟨T,id,pa,slot,hty,h1,h2,?_⟩
 have hA:=ha cpos pins s1 σ H1 _ I1 q1
 rw [hs] at hA ⊢
 refine Calls.callWith_builtin (by show (false || (backTo cpos (starEach es X.env)).any (·.1))=false;rw [hplain]<;>rfl) (Calls.evalArgs_plain ?_)
 exact thn hA λus s2 ⟨vs,H2,I2,r2,q2⟩=>hm pins s2 σ H2 x vs v us Q I2 r1 r2 q2
end
end L2
namespace L2
open PySem PySem.Spec PyProof.Rows
noncomputable def MtM (X:Cx) (id:String) (r:V->List V->Hp->VK->Prop):Prop:=
 ∀ (pins:List (Addr×Obj)) (s:Shared) (σ:St) (H:Hp) (x:V) (xs:List V) (v:Value) (us:List Value) (Q:VK),Inv X pins σ H s->aX x v->aK xs us->r x xs H Q->
  wpAny (model X.prog X.w) X.A (call (.builtin id) (v::us)) (EP X pins σ Q) X.xe s
theorem aK.one:∀ {x:V}{us:List Value},aK [x] us->∃ u,us=[u]/\aX x u
 | _,_,.cons r .nil=>⟨_,rfl,r⟩
theorem aK.two {x y:V}{us:List Value} (h:aK [x,y] us):∃ u v,us=[u,v]/\aX x u/\aX y v:=by
 cases h with
 | cons r t=>cases t with
  | cons q t2=>cases t2;exact⟨_,_,rfl,r,q⟩
theorem aK.eraseIdx:∀ {xs:List V}{us:List Value} (i:Nat),aK xs us->aK (xs.eraseIdx i) (us.eraseIdx i)
 | _,_,_,.nil=>.nil
 | _,_,0,.cons _ t=>t
 | _,_,i+1,.cons r t=>.cons r (aK.eraseIdx i t)
theorem aK.rep {xs:List V}{us:List Value} (h:aK xs us):∀ k:Nat,aK (List.replicate k xs).flatten (List.replicate k us).flatten
 | 0=>.nil
 | k+1=>by
  rw [List.replicate_succ,List.replicate_succ,List.flatten_cons,List.flatten_cons]
  exact aK.append h (aK.rep h k)
theorem mv {α:Type}:∀ (l:List α) (i:Nat),(l.eraseIdx i).length<=l.length
 | [],_=>Nat.le_refl _
 | _::_,0=>Nat.le_succ _
 | _::r,i+1=>Nat.succ_le_succ (mv r i)
theorem jy (its:List Value):∀ (k:Nat) (acc:List Value),
  List.foldl (λx1 x2=>x1++x2) acc.toArray (List.replicate k its.toArray)=(acc++(List.replicate k its).flatten).toArray
 | 0,acc=>by simp
 | k+1,acc=>by
  have e:acc.toArray++its.toArray=(acc++its).toArray:=by simp
  have e2:(acc++its)++(List.replicate k its).flatten=acc++(List.replicate (k+1) its).flatten:=by
   rw [List.replicate_succ,List.flatten_cons,List.append_assoc]
  rw [<-e2,<-jy its k (acc++its),<-e,List.replicate_succ,List.foldl_cons]
section
variable {X:Cx}{pins:List (Addr×Obj)}{σ:St}{H:Hp}{s:Shared}{l b:Addr}{xs ys zs:List V}
theorem Inv.lset {its its':List Value}{n:Nat}{f:Array Value->Array Value}{t':Nat} (I:Inv X pins σ H s) (hH:H l=some (.lst xs))
  (e:s.heap.get? l=some { cls:=.type "list",data:=.seq its.toArray n }) (hf:f its.toArray=its'.toArray) (hv:aK ys its') (hz:ys.length<=sizeLine) :
  Inv X pins σ (upd H l (.lst ys)) { s with heap:=s.heap.update l (Obj.mapSeq f),toks:=t' }:=by
 have q:=PySem.IsL.update e f
 rw [hf] at q
 refine I.write (x:=l) (e:=l) (by rw [hH];exact trivial) (.inl rfl) (λb' u hb hu=>(Heap.get?_update_other s.heap (Obj.mapSeq f) (Ne.symm hb)).trans hu) ⟨_,q⟩ ?_
 exact⟨hz,its',_,hv,q⟩
theorem Inv.lnew {its:List Value}{t':Nat} (I:Inv X pins σ H s) (hv:aK ys its) (hz:ys.length<=sizeLine) :
  Inv X pins σ (upd H s.heap.objs.size (.lst ys)) { s with heap:=s.heap.push { cls:=.type "list",data:=.seq its.toArray },toks:=t' }:=
 I.laid (λ_ _ q=>Heap.get?_push_of_some _ q) (Nat.le_refl _) ⟨hz,its,0,hv,Heap.get?_push_size _ rfl⟩
theorem Inv.fresh (I:Inv X pins σ H s):H s.heap.objs.size=none:=I.hok.fresh (Nat.le_refl _)
theorem Inv.lstM (I:Inv X pins σ H s) (hH:H l=some (.lst xs)):xs.length<=sizeLine/\∃ (its:List Value) (n:Nat),aK xs its/\xs.length=its.length/\s.heap.get? l=some { cls:=.type "list",data:=.seq its.toArray n }:=by
 obtain⟨z,its,n,r,e⟩:=I.hok l _ hH
 exact⟨z,its,n,r,r.length,e⟩
theorem t4 {n:Nat} (h:n<=sizeLine):Builtin.List.listTooLong n=false:=by
 unfold Builtin.List.listTooLong
 exact decide_eq_false (by lia)
end
section
variable {X:Cx}
noncomputable def wR:V->List V->Hp->VK->Prop:=λx vs H Q=>∃ l xs y,x=.ref l/\vs=[y]/\H l=some (.lst xs)/\xs.length < sizeLine/\Q .non (upd H l (.lst (xs++[y])))
theorem sJ:MtM X "list.append" wR:=by
 intro pins s σ H x vs v us Q I rx rv h
 obtain⟨l,xs,y,rfl,rfl,hH,hz,q⟩:=h
 cases rx
 obtain⟨u,rfl,ru⟩:=rv.one
 obtain⟨z,its,n,r,hl,e⟩:=I.lstM hH
 refine call_meets F.slot_list_append ⟨_,e,rfl⟩ F.entry_list_append (F.args_list_append_2 _ _) (PySem.list_append l its.toArray n u (by rw [List.size_toArray];lia)) ⟨e,?_⟩
 refine⟨.non,_,I.lset (its':=its++[u]) hH e (by simp) (r.append (.cons ru .nil)) ?_,rfl,q⟩
 rw [List.length_append,List.length_singleton]
 lia
noncomputable def zE:V->List V->Hp->VK->Prop:=λx vs H Q=>∃ l xs i k y,x=.ref l/\vs=[.int i]/\H l=some (.lst xs)/\-(2 ^ 63)<=i/\i < 2 ^ 63/\seqIndex? i xs.length=some k/\xs[k]?=some y/\Q y (upd H l (.lst (xs.eraseIdx k)))
theorem uV:MtM X "list.pop" zE:=by
 intro pins s σ H x vs v us Q I rx rv h
 obtain⟨l,xs,i,k,y,rfl,rfl,hH,h1,h2,hk,hy,q⟩:=h
 cases rx
 obtain⟨u,rfl,ru⟩:=rv.one
 obtain⟨t,rfl⟩:=ru
 obtain⟨z,its,n,r,hl,e⟩:=I.lstM hH
 obtain⟨w,hw,rw'⟩:=r.get hy
 refine call_meets F.slot_list_pop ⟨_,e,rfl⟩ F.entry_list_pop (F.args_list_pop_2 _ _)
  (MeetsSeq.list_pop_at l its.toArray n i t k w (fitsIndex_both h1 h2) (by rw [List.size_toArray,<-hl];exact hk) (by rw [<-Array.getElem?_toList];exact hw) (by rw [List.size_toArray];lia)) ⟨e,?_⟩
 refine⟨y,_,I.lset (its':=its.eraseIdx k) hH e ?_ (r.eraseIdx k) ?_,rw',q⟩
 ·show its.toArray.eraseIdxIfInBounds k=(its.eraseIdx k).toArray
  rw [List.eraseIdxIfInBounds_toArray]
 ·have:=mv xs k
  lia
theorem nC {α:Type} (xs:List α) (k:Nat):(List.replicate k xs).flatten.length=k*xs.length:=by
 induction k with
 | zero=>simp
 | succ k ih=>rw [List.replicate_succ,List.flatten_cons,List.length_append,ih,Nat.succ_mul,Nat.add_comm]
end
section
variable {prog:Program}{w:World}{A:Around}{E:Value->Shared->Prop}{s:Shared}
end
section
variable {X:Cx}
end
end L2
namespace Att
open PySem PySem.W PySem.Calls PyProof.Rows
theorem jX {P:Params}{h:Heap}:∀ (ns:List Int) (vs:List Value),WellAll P h vs (ns.map WData.int)->IntsAre vs ns:=by
 intro ns
 induction ns with
 | nil=>
  intro vs w
  rw [List.map_nil] at w
  cases w
  exact .nil
 | cons n ns ih=>
  intro vs w
  rw [List.map_cons] at w
  cases w with
  | cons a b=>
   cases a
   exact .cons _ _ (ih _ b)
theorem rZ {l:OpenLaw}{n:Nat} (hn:l.most=some n) {P:Params}{h:Heap}{args:List WData}{vals:List Value}
  (hpre:l.row.toRowW.claim.pre args=true) (hwl:WellAll P h vals args) :
  ∃ a vs ns,vals=[Value.ref a]/\args=[WData.list (ns.map WData.int)]/\h.get? a=some { cls:=.type "list",data:=.seq vs.toArray }/\IntsAre vs ns/\ns.length<=n:=by
 have hsh:WShape.hasAll [] args [.list .int]=true:=(pre_splitW hpre).1
 have hc:l.pre.holds [] { args:=args }=true:=(pre_splitW hpre).2
 obtain⟨d,r,rfl,h1,h2⟩:=hasAllW_cons hsh
 obtain rfl:=hasAllW_nil h2
 obtain⟨xs,rfl,h3⟩:=hasW_list h1
 obtain⟨ns,rfl⟩:=items_int h3
 have hlen:ns.length<=n:=by
  unfold OpenLaw.pre at hc
  have h4:(WTm.not (.lt (.lit (.int (n:Int))) (.len (.arg 0)))).holds [] { args:=[.list (ns.map .int)] }=true:=by
   have h4:=(holds_andW hc).1
   rw [hn] at h4
   exact h4
  have h5:=condW_of h4 (w_not (w_lt w_lit (w_len_list (w_arg rfl))))
  rw [List.length_map] at h5
  refine Nat.le_of_not_lt λq=>?_
  have q':(n:Int) < ((ns.length:Nat):Int):=by lia
  first
   | (rw [decide_eq_true q'] at h5;exact absurd h5 (by decide))
   | (simp at h5;lia)
 cases hwl with
 | cons w1 w2=>
  cases w2
  cases w1 with
  | list ho hall=>exact⟨_,_,ns,rfl,rfl,ho,jX ns _ hall,hlen⟩
theorem sD (l:OpenLaw) (args:List WData):l.row.toRowW.claim.post args (.bool true) args=true:=
 postW_of (r:=l.row.toRowW) (X:=(true==true))
  (show WShape.has [] (.bool true) .bool=true by first | rfl | decide | simp [WShape.has,WShape.arms,WShape.armsAll])
  (show (WTm.eq .res (.lit (.bool true))).value [] { args:=args,res:=some (.bool true),after:=args }=some (.bool (true==true)) from w_eq_bool (w_res rfl) w_lit) rfl
theorem attach_call {l:OpenLaw}{n:Nat}{q:Program}{loose:List Str}{XP:(Str->Option Value)->Heap->Prop}{YP:World->Heap->Prop}{d:DefRec}
  (hn:l.most=some n) (hdf:d.params.defaults=[])
  (call:∀ (w:World) (s₀ s₁:Shared) (mg mb:Str->Option Value) (fa:Addr) (o:Obj) (pm cd doc:Value) (a:Addr) (vs:List Value) (ns:List Int),
    Ground q loose [] XP w s₀ mg mb s₁.heap->YP w s₁.heap->
    s₁.heap.get? fa=some o->o.data=.func (docDef d.name d.params d.body d.scope pm cd doc)->s₁.heap.CodeRec cd d.name->mg d.name=some (.ref fa)->
    s₁.heap.get? a=some { cls:=.type "list",data:=.seq vs.toArray }->IntsAre vs ns->ns.length<=n->s₁.gens=#[]->
    codeAny (model l.prog w) callerA (.call (.ref fa) ⟨[.ref a],[]⟩) (λr s'=>r=.ok (.ret (.bool true))/\OldK s₁.heap s'.heap/\s'.os=s₁.os/\AllBare s'.gens) s₁) :
  WalkO q loose XP YP l.row.toRowW d [] (λf vs=>PySem.call f vs):=by
 intro w s₀ s₁ mg mb G Y fa o pm cd doc dV kV ho hd hcd hD hmg hg args vals as hpre hlay hrd hwl hlo
 obtain rfl:dV=.none:=Dflts.none hD hdf
 obtain rfl:kV=.none:=Dflts.noKw hD
 obtain⟨a,vs,ns,rfl,rfl,hobj,hints,hlen⟩:=rZ hn hpre hwl
 refine enter_call (codeAny_mono (call w s₀ s₁ mg mb fa o pm cd doc a vs ns G Y ho (fd_plain hd) hcd hmg hobj hints hlen hg) λr s' hq=>?_)
 obtain⟨rfl,h2,h3,h4⟩:=hq
 exact⟨.inl ⟨.bool true,.bool true,[],rfl,λ_=>rfl,.bool true,sD l _,λ_=>⟨List.Pairwise.nil,λ_ hm=>(nomatch hm)⟩⟩,h2,h3,h4⟩
section
variable {prog:Program}{w:World}{A:Around}{E:Value->Shared->Prop}{s:Shared}{K:Frag}
end
end Att
namespace L2
open PySem PySem.Spec PyProof.Rows
theorem my:∀ {vs:List Value}{ns:List Int},IntsAre vs ns->aK (ns.map V.int) vs
 | _,_,.nil=>.nil
 | _,_,.cons n t h=>.cons ⟨t,rfl⟩ (my h)
noncomputable def v7 (H:Hp):Prop:=∀ b,H b=none\/∃ o xs,H b=some (.frz o (.lst xs))
theorem sY {P:Program}{w:World}{K:PySem.W.Frag}{mg mb:Str->Option Value}{CX:CXT}{k:Nat}{fa a:Addr}{fd:FuncData}{x:Str}{sp:Sp}{s₁:Shared}{vs:List Value}{ns:List Int}
  (KX:K.In s₁.heap) (hns:s₁.heap.Ns mainGlobals mg) (hb:s₁.heap.Ns builtinsNs mb) (hbb:∀ x:Str,x≠"__name__"->mb x=bootBuiltins x) (hlim:s₁.heap.NoLimit) (hg:s₁.gens=#[])
  (ha:s₁.heap.get? a=some { cls:=.type "list",data:=.seq vs.toArray }) (hi:IntsAre vs ns) (hl:ns.length<=sizeLine) (hr:bn k callerA)
  (F:∀ base:Heap,K.In base->base.Ns mainGlobals mg->aL P w K mg base CX k fa fd [x] sp) (hbind:∀ (s:Shared) (u:Value),BindsTo s fd ⟨[u],[]⟩ [(x,u)])
  (hsp:∀ H:Hp,v7 H->SqL K H a (ns.map V.int)->sp [.ref a] H (λv _=>v=.bl true) λ_ _ _=>False)
  (hCX:∀ H e s',CX [] H s₁ (λ_ _ _=>False) e s'->False) :
  codeAny (model P w) callerA (.call (.ref fa) ⟨[.ref a],[]⟩) (λr s'=>r=.ok (.ret (.bool true))/\OldK s₁.heap s'.heap/\s'.os=s₁.os/\AllBare s'.gens) s₁:=by
 have rv:=my hi
 have lenV:=hi.length
 -- from an abstract heap in which nothing but the script may be tracked
 have core:∀ H:Hp,v7 H->SqL K H a (ns.map V.int)->HOk P w H s₁.heap->(∀ b,H b≠none->b=a)->(H a≠none->K.lookup a=none)->
   codeAny (model P w) callerA (.call (.ref fa) ⟨[.ref a],[]⟩) (λr s'=>r=.ok (.ret (.bool true))/\OldK s₁.heap s'.heap/\s'.os=s₁.os/\AllBare s'.gens) s₁:=by
  intro H hO hS hok hA hK
  have base_of:∀ {b:Addr}{o:Obj},s₁.heap.get? b=some o->H b=none->(mJ s₁.heap H).get? b=some o:=λe n=>uL e n
  have noA:∀ {b:Addr}{o:Obj}{es:Array DictEntry}{ep:Nat},s₁.heap.get? b=some o->o.data=.dict es ep->H b=none:=λ{b o es ep} e d=>by
   cases q:H b with
   | none=>rfl
   | some u=>
    have e':b=a:=hA b (by rw [q];simp)
    subst e'
    rw [ha] at e;cases e
    have d':Data.seq vs.toArray _=Data.dict es ep:=d
    cases d'
  have nsK:∀ {b:Addr}{m:Str->Option Value},s₁.heap.Ns b m->(mJ s₁.heap H).Ns b m:=λ{b m} ⟨o,es,ep,e,d,r⟩=>⟨o,es,ep,base_of e (noA e d),d,r⟩
  have hKb:K.In (mJ s₁.heap H):=λb o e=>base_of (KX b o e) (by
   cases q:H b with
   | none=>rfl
   | some u=>
    have e':b=a:=hA b (by rw [q];simp)
    subst e'
    rw [hK (by rw [q];simp)] at e;cases e)
  have hM:Mod K mg (mJ s₁.heap H):=⟨hKb,nsK hns,⟨mb,nsK hb,hbb⟩,let ⟨mc,h1,h2⟩:=hlim;⟨mc,nsK h1,h2⟩⟩
  have e0:vR P w K mg (mJ s₁.heap H) callerA [] s₁ H:=⟨rfl,hM,λb o e=>vQ e,Nat.le_of_eq (sT _ _),trivial,λb hb=>absurd (show b ∈ ([]:List Addr) from hb) (by simp),hok,.of_eq hg⟩
  refine codeAny_mono ((F _ hKb (nsK hns)).run callerA [] s₁ H ⟨[.ref a],[]⟩ [.ref a] [.ref a] _ _ hr e0 (hbind s₁ (.ref a)) (.cons rfl .nil) (hsp H hO hS)) λr s' h=>?_
  cases r with
  | error e=>exact (hCX H e s' h).elim
  | ok fl=>
   cases fl with
   | next=>exact False.elim h
   | brk=>exact False.elim h
   | cont=>exact False.elim h
   | ret u=>
    obtain⟨v,H',os,bare,un,hok',r',q⟩:=h
    have q':v=.bl true:=q
    subst q'
    obtain rfl:u=Value.bool true:=r'
    refine⟨rfl,OldK.of_keep λb o e=>?_,os,bare⟩
    cases q:H b with
    | none=>exact un.keep b o e q (by intro z;exact absurd (show b ∈ ([]:List Addr) from z) (by simp)) (by simp)
    | some u=>
     rcases hO b with z | ⟨ob,xs,z⟩
     ·rw [q] at z;cases z
     ·have z2:=un.frzs b ob _ z
      obtain⟨e1,_⟩:=hok b _ z
      obtain⟨e2,_⟩:=hok' b _ z2
      rw [e] at e1;cases e1
      exact e2
 cases hk:K.lookup a with
 | some o=>
  -- the script is one of the module's own objects
  have e:=KX a o hk
  rw [ha] at e
  cases e
  refine core (λ_=>none) (λ_=>.inl rfl) (.inr ⟨_,vs.toArray,_,hk,rfl,rfl,rfl,by rw [List.size_toArray,lenV];exact hl,by simpa using rv⟩) (λb u z=>by have z':(none:Option HO)=some u:=z;cases z') (λb z=>absurd rfl z) λz=>absurd rfl z
 | none=>
  refine core (λb=>if b=a then some (.frz { cls:=.type "list",data:=.seq vs.toArray } (.lst (ns.map V.int))) else none) (λb=>?_) (.inl (.inr ⟨{ cls:=.type "list",data:=.seq vs.toArray },if_pos rfl⟩)) (λb u z=>?_) (λb z=>?_) λ_=>hk
  ·by_cases hb:b=a
   ·exact .inr ⟨_,_,if_pos hb⟩
   ·exact .inl (if_neg hb)
  ·by_cases hb:b=a
   ·have z':=(if_pos hb).symm.trans z
    cases z'
    subst hb
    exact⟨ha,by rw [List.length_map];exact hl,vs,_,rv,ha⟩
   ·have z':=(if_neg hb).symm.trans z
    cases z'
  ·by_cases hb:b=a
   ·exact hb
   ·exact absurd (if_neg hb) z
end L2
namespace L2
open PySem PySem.Spec PyProof.Rows
theorem walk_of {l:PySem.W.OpenLaw}{n k:Nat}{q:Program}{loose:List Str}{XP:(Str->Option Value)->Heap->Prop}{YP:World->Heap->Prop}{d:DefRec}{K:Params->PySem.W.Frag}{CX:World->CXT}{sp:World->Sp}{x:Str}
  (hn:l.most=some n) (hn2:n<=sizeLine) (hdf:d.params.defaults=[]) (hr:bn k callerA)
  (hY:∀ (w:World) (h:Heap),YP w h->(K w.params).In h)
  (F:∀ (w:World) (mg:Str->Option Value) (fa:Addr) (h:Heap),(K w.params).In h->h.Ns mainGlobals mg->mg d.name=some (.ref fa)->
    ∃ fd:FuncData,(∀ (s:Shared) (u:Value),BindsTo s fd ⟨[u],[]⟩ [(x,u)])/\
     ∀ base:Heap,(K w.params).In base->base.Ns mainGlobals mg->aL l.prog w (K w.params) mg base (CX w) k fa fd [x] (sp w))
  (hsp:∀ (w:World) (H:Hp) (a:Addr) (ns:List Int),ns.length<=n->v7 H->SqL (K w.params) H a (ns.map V.int)->sp w [.ref a] H (λv _=>v=.bl true) λ_ _ _=>False)
  (hCX:∀ (w:World) (H:Hp) (s:Shared) (e:Value) (s':Shared),CX w [] H s (λ_ _ _=>False) e s'->False) :
  PySem.W.WalkO q loose XP YP l.row.toRowW d [] (λf vs=>PySem.call f vs):=by
 refine Att.attach_call hn hdf λw s₀ s₁ mg mb fa o pm cd doc a vs ns G Y ho hd hcd hmg hobj hints hlen hg=>?_
 have KX:=hY w _ Y
 obtain⟨fd,hb,hF⟩:=F w mg fa _ KX G.T.g hmg
 exact sY KX G.T.g G.T.b G.T.builtins G.T.nolimit hg hobj hints (Nat.le_trans hlen hn2) hr hF hb (λH hO hS=>hsp w H a ns hlen hO hS) λH e s'=>hCX w H s₁ e s'
end L2
namespace L2
open PySem PySem.Spec PyProof.Rows
noncomputable def az (s:Stmt):Arguments:=match s with
 | .FunctionDef _ a _ _ _ _ _ _ _ _=>a
 | _=>{ posonlyargs:=[],args:=[],vararg:=none,kwonlyargs:=[],kw_defaults:=[],kwarg:=none,defaults:=[] }
noncomputable def am (s:Stmt):List Stmt:=match s with
 | .FunctionDef _ _ b _ _ _ _ _ _ _=>b
 | _=>[]
noncomputable def aa (s:Stmt):Scope:=match s with
 | .FunctionDef _ _ _ _ _ _ sc _ _ _=>sc
 | _=>{ kind:=.function,names:=[],isGenerator:=false,isCoroutine:=false }
abbrev CX0:CXT:=λ_ _ _ _ _ _=>False
abbrev E0:XK:=λ_ _ _=>False
theorem Ao {X:Cx}:pW CX0 X E0:=λ_ _ _ _ _ _ _ h=>h.elim
structure Fun (K:PySem.W.Frag) (x qual:Str) (st:Stmt) (f:Addr) (fd:FuncData):Prop where
 ex:∃ (oc:Value) (od:Option Addr) (kV doc pm:Value) (an:Option Addr) (cdv ct:Value) (osl:Array (Option Value)),
  fd=PySem.W.fnOf x qual (az st) (am st) (aa st) .none kV doc pm an cdv ct/\K.lookup f=some ⟨oc,od,.func fd,osl⟩/\PySem.W.codeIn K cdv qual=true
 kp:PySem.W.keepIn K (.ref f)=true
section
variable {P:Program}{w:World}{K:PySem.W.Frag}{mg:Str->Option Value}{base:Heap}
theorem Fun.ok {x qual:Str}{st:Stmt}{f:Addr}{fd:FuncData}{N ps:List Str}{k:Nat}{sp:Sp} (F:Fun K x qual st f fd) (S:ay N ps (aa st)) (len:∀ vs H Q E,sp vs H Q E->vs.length=ps.length)
  (hbody:∀ (cdv:Value) (A:Around) (outer:List Env) (s:Shared) (H:Hp) (vs:List V) (Q:VK) (E:XK),bn k (A.deeper (envOfC qual (aa st) s.heap.objs.size f cdv))->sp vs H Q E->
    ∃ t,PSs (b8 CX0 P w K mg base N qual (aa st) f cdv A outer s H E).nox (am st) t/\t { nx:=λ_ H'=>Q .non H',rt:=Q } (start N vs) H):aL P w K mg base CX0 (k+1) f fd ps sp:=by
 obtain⟨oc,od,kV,doc,pm,an,cdv,ct,osl,rfl,lk,hcd⟩:=F.ex
 refine zO lk hcd S len λA outer s H vs Q E hr hsp=>?_
 obtain⟨t,h,q⟩:=hbody cdv A outer s H vs Q E hr hsp
 exact⟨t,h.nox,q⟩
theorem Fun.binds {x qual:Str}{st:Stmt}{f:Addr}{fd:FuncData}{ps:List Str} (F:Fun K x qual st f fd)
  (h:∀ (kV doc pm:Value) (an:Option Addr) (cdv ct:Value) (us:List Value),us.length=ps.length->bindArgs (PySem.W.fnOf x qual (az st) (am st) (aa st) .none kV doc pm an cdv ct) ⟨us,[]⟩=pure (ps.zip us)):bq K fd ps []:=by
 obtain⟨oc,od,kV,doc,pm,an,cdv,ct,osl,rfl,lk,hcd⟩:=F.ex
 exact .all (h kV doc pm an cdv ct)
theorem aU {x qual:Str}{st:Stmt}{f:Addr}{oc:Value}{od an:Option Addr}{osl:Array (Option Value)}{kV doc pm cdv ct:Value} (l:K.lookup f=some ⟨oc,od,.func (PySem.W.fnOf x qual (az st) (am st) (aa st) .none kV doc pm an cdv ct),osl⟩)
  (c:PySem.W.codeIn K cdv qual=true) (k:PySem.W.keepIn K (.ref f)=true):Fun K x qual st f (PySem.W.fnOf x qual (az st) (am st) (aa st) .none kV doc pm an cdv ct):=⟨⟨oc,od,kV,doc,pm,an,cdv,ct,osl,rfl,l,c⟩,k⟩
end
theorem rX {n:Nat} (h:n<=1000):n < sizeLine:=Nat.lt_of_le_of_lt h (by decide)
section
variable {X:Cx}
end
theorem rS {A B:Prop} (h:B):if false=true then A else B:=by
 rw [if_neg Bool.false_ne_true]
 exact h
theorem so {A B:Prop} (h:A):if true=true then A else B:=by
 rw [if_pos rfl]
 exact h
noncomputable def bp (H H':Hp):Prop:=∀ b o,H b=some o->H' b=some o
theorem bp.refl (H:Hp):bp H H:=λ_ _ h=>h
end L2
namespace L2
open PySem PySem.Spec PyProof.Rows
noncomputable def bW (cells:List (Str×Addr)):List (Str×NameKind)->List (Str×Addr)->List (Str×Addr)
 | [],acc=>acc
 | (n,k)::r,acc=>if k==.free then bW cells r ((n,(cells.lookup n).getD 0)::acc) else bW cells r acc
theorem iz {env:Env} (f:Str×NameKind->List (Str×Addr)->Sem (ForInStep (List (Str×Addr))))
  (hf:∀ n k cs,f (n,k) cs=if k==.free then (do let c <-cellOf env n;pure (.yield ((n,c)::cs))) else pure (.yield cs)) :
  ∀ (names:List (Str×NameKind)) (acc:List (Str×Addr)),(∀ x ∈ names,x.2=.free->∃ c,env.cells.lookup x.1=some c)->
   forIn names acc f=pure (bW env.cells names acc)
 | [],acc,_=>by rw [List.forIn_nil];rfl
 | (n,k)::r,acc,h=>by
  rw [List.forIn_cons,hf]
  unfold bW
  by_cases hk:(k==.free)=true
  ·obtain⟨c,hc⟩:=h (n,k) List.mem_cons_self (beq_iff_eq.mp hk)
   have hc':env.cells.lookup n=some c:=hc
   rw [if_pos hk,if_pos hk]
   have:cellOf env n=pure c:=by unfold cellOf;rw [hc']
   rw [this,hc']
   simp only [pure_bind,Option.getD_some]
   exact iz f hf r _ λx hx=>h x (List.mem_cons_of_mem _ hx)
  ·rw [if_neg hk,if_neg hk]
   simp only [pure_bind]
   exact iz f hf r _ λx hx=>h x (List.mem_cons_of_mem _ hx)
theorem iy {scope:Scope}{env:Env} (h:∀ x ∈ scope.names,x.2=.free->∃ c,env.cells.lookup x.1=some c) :
  closureFor scope env=pure (bW env.cells scope.names []):=by
 simp only [closureFor]
 rw [iz (env:=env) _ (λn k cs=>by cases hk:k==NameKind.free<;>simp [hk]) scope.names [] h]
 simp
theorem fm {cells:List (Str×Addr)}:∀ (names:List (Str×NameKind)) (acc:List (Str×Addr)) {x:Str}{c:Addr},(bW cells names acc).lookup x=some c->
  acc.lookup x=some c\/((x,NameKind.free) ∈ names/\c=(cells.lookup x).getD 0)
 | [],_,_,_,h=>.inl h
 | (n,k)::r,acc,x,c,h=>by
  unfold bW at h
  by_cases hk:(k==.free)=true
  ·rw [if_pos hk] at h
   rcases fm r _ h with q | ⟨q1,q2⟩
   ·rw [List.lookup_cons] at q
    cases hx:x==n with
    | true=>
     rw [hx] at q
     have e:=beq_iff_eq.mp hx
     subst e
     exact .inr ⟨by rw [<-beq_iff_eq.mp hk];exact List.mem_cons_self,(Option.some.inj q).symm⟩
    | false=>rw [hx] at q;exact .inl q
   ·exact .inr ⟨List.mem_cons_of_mem _ q1,q2⟩
  ·rw [if_neg hk] at h
   rcases fm r _ h with q | ⟨q1,q2⟩
   ·exact .inl q
   ·exact .inr ⟨List.mem_cons_of_mem _ q1,q2⟩
theorem eQ {cells:List (Str×Addr)}{x:Str}:∀ (names:List (Str×NameKind)) (acc:List (Str×Addr)),((x,NameKind.free) ∈ names\/(acc.lookup x).isSome=true)->((bW cells names acc).lookup x).isSome=true
 | [],_,h=>h.elim (λz=>nomatch z) id
 | (n,k)::r,acc,h=>by
  unfold bW
  by_cases hk:(k==.free)=true
  ·rw [if_pos hk]
   refine eQ r _ ?_
   rcases h with h | h
   ·rcases List.mem_cons.mp h with e | h
    ·cases e
     exact .inr (by rw [List.lookup_cons,beq_self_eq_true];rfl)
    ·exact .inl h
   ·refine .inr ?_
    rw [List.lookup_cons]
    cases x==n
    ·exact h
    ·rfl
  ·rw [if_neg hk]
   refine eQ r _ ?_
   rcases h with h | h
   ·rcases List.mem_cons.mp h with e | h
    ·cases e;exact absurd rfl hk
    ·exact .inl h
   ·exact .inr h
theorem dC:∀ (names:List (Str×NameKind)) (n:Nat) (acc:List (Str×Addr)) {x:Str}{c:Addr},(cellsFrom n names acc).lookup x=some c->acc.lookup x=some c\/((x,NameKind.cell) ∈ names/\n<=c)
 | [],_,_,_,_,h=>.inl h
 | (m,k)::r,n,acc,x,c,h=>by
  unfold cellsFrom at h
  by_cases hk:(k==.cell)=true
  ·rw [if_pos hk] at h
   rcases dC r _ _ h with q | ⟨q1,q2⟩
   ·rw [List.lookup_cons] at q
    cases hx:x==m with
    | true=>
     rw [hx] at q
     have e:=beq_iff_eq.mp hx
     subst e
     exact .inr ⟨by rw [<-beq_iff_eq.mp hk];exact List.mem_cons_self,by rw [Option.some.inj q];exact Nat.le_refl _⟩
    | false=>rw [hx] at q;exact .inl q
   ·exact .inr ⟨List.mem_cons_of_mem _ q1,Nat.le_of_succ_le q2⟩
  ·rw [if_neg hk] at h
   rcases dC r _ _ h with q | ⟨q1,q2⟩
   ·exact .inl q
   ·exact .inr ⟨List.mem_cons_of_mem _ q1,q2⟩
theorem lJ:∀ (names:List (Str×NameKind)) (n:Nat) (acc:List (Str×Addr)),(∀ p ∈ acc,p.2 < n)->∀ {x y:Str}{c:Addr},(cellsFrom n names acc).lookup x=some c->(cellsFrom n names acc).lookup y=some c->n<=c->x=y:=by
 have key:∀ (names:List (Str×NameKind)) (n:Nat) (acc:List (Str×Addr)) (lo:Nat),lo<=n->(∀ p ∈ acc,p.2 < n)->(∀ p ∈ acc,∀ q ∈ acc,lo<=p.2->p.2=q.2->p.1=q.1)->
   ∀ p ∈ cellsFrom n names acc,∀ q ∈ cellsFrom n names acc,lo<=p.2->p.2=q.2->p.1=q.1:=by
  intro names
  induction names with
  | nil=>intro n acc lo _ _ h;exact h
  | cons z r ih=>
   intro n acc lo hlo hlt h
   obtain⟨m,k⟩:=z
   unfold cellsFrom
   by_cases hk:(k==.cell)=true
   ·rw [if_pos hk]
    refine ih _ _ lo (Nat.le_succ_of_le hlo) (λp hp=>?_) (λp hp q hq l e=>?_)
    ·rcases List.mem_cons.mp hp with e | hp
     ·rw [e];exact Nat.lt_succ_self _
     ·exact Nat.lt_succ_of_lt (hlt p hp)
    ·rcases List.mem_cons.mp hp with e1 | hp<;>rcases List.mem_cons.mp hq with e2 | hq
     ·rw [e1,e2]
     ·rw [e1] at e;exact absurd (hlt q hq) (by rw [<-e];exact Nat.lt_irrefl _)
     ·rw [e2] at e;exact absurd (hlt p hp) (by rw [e];exact Nat.lt_irrefl _)
     ·exact h p hp q hq l e
   ·rw [if_neg hk]
    exact ih _ _ lo hlo hlt h
 intro names n acc hlt x y c hx hy hc
 exact key names n acc n (Nat.le_refl _) hlt (λp hp q hq l _=>absurd (hlt p hp) (Nat.not_lt.mpr l)) _ (PySem.mem_of_lookup hx) _ (PySem.mem_of_lookup hy) hc rfl
theorem dU:∀ (names:List (Str×NameKind)) (h:Heap) (acc:List (Str×Addr)),(∀ p ∈ acc,∃ v,h.IsCell p.2 v)->∀ p ∈ cellsFrom h.objs.size names acc,∃ v,(pushCells h names).IsCell p.2 v
 | [],_,_,h=>h
 | (m,k)::r,h,acc,hc=>by
  unfold cellsFrom pushCells
  by_cases hk:(k==.cell)=true
  ·rw [if_pos hk,if_pos hk]
   have:=dU r (h.push { cls:=.type "cell",data:=.cell none }) ((m,h.objs.size)::acc) (λp hp=>by
    rcases List.mem_cons.mp hp with e | hp
    ·rw [e];exact⟨none,_,Heap.get?_push_size _ rfl,rfl⟩
    ·obtain⟨v,z⟩:=hc p hp
     exact⟨v,z.keeps λb o e=>Heap.get?_push_of_some _ e⟩)
   rwa [Heap.size_push] at this
  ·rw [if_neg hk,if_neg hk]
   exact dU r h acc hc
theorem d0 {names:List (Str×NameKind)} (nd:(names.map (·.1)).Nodup):∀ {x:Str}{k:NameKind},(x,k) ∈ names->names.lookup x=some k:=by
 induction names with
 | nil=>intro x k h;cases h
 | cons z r ih=>
  intro x k h
  obtain⟨m,k'⟩:=z
  rw [List.map_cons,List.nodup_cons] at nd
  rw [List.lookup_cons]
  rcases List.mem_cons.mp h with e | h
  ·cases e;rw [beq_self_eq_true]
  ·have:(x==m)=false:=beq_eq_false_iff_ne.mpr λe=>nd.1 (e ▸ List.mem_map.mpr ⟨(x,k),by assumption,rfl⟩)
   rw [this]
   exact ih nd.2 h
theorem cZ {env:Env}:∀ {names:List (Str×NameKind)}{x:Str}{k:NameKind},
  (names.map λ(n,k)=>if (k==NameKind.free && env.scope.kind==.function && env.kindOf n==some .cell) then (n,NameKind.cell) else (n,k)).lookup x=some k->
  ∃ k0,names.lookup x=some k0/\(k=k0\/(k0=.free/\k=.cell))
 | [],_,_,h=>by cases h
 | (n,k0)::r,x,k,h=>by
  rw [List.map_cons] at h
  dsimp only at h
  rw [List.lookup_cons]
  by_cases hc:(k0==NameKind.free && env.scope.kind==.function && env.kindOf n==some .cell)=true
  ·rw [if_pos hc,List.lookup_cons] at h
   cases hx:x==n with
   | true=>
    rw [hx] at h
    refine⟨k0,rfl,.inr ⟨?_,(Option.some.inj h).symm⟩⟩
    simp only [Bool.and_eq_true] at hc
    exact beq_iff_eq.mp hc.1.1
   | false=>rw [hx] at h;exact cZ h
  ·rw [if_neg hc,List.lookup_cons] at h
   cases hx:x==n with
   | true=>rw [hx] at h;exact⟨k0,rfl,.inl (Option.some.inj h).symm⟩
   | false=>rw [hx] at h;exact cZ h
theorem fQ {env:Env}:∀ {names:List (Str×NameKind)}{x:Str},names.lookup x=some .free->
  (names.map λ(n,k)=>if (k==NameKind.free && env.scope.kind==.function && env.kindOf n==some .cell) then (n,NameKind.cell) else (n,k)).lookup x=some .free\/
  (names.map λ(n,k)=>if (k==NameKind.free && env.scope.kind==.function && env.kindOf n==some .cell) then (n,NameKind.cell) else (n,k)).lookup x=some .cell
 | [],_,h=>by cases h
 | (n,k0)::r,x,h=>by
  rw [List.map_cons]
  dsimp only
  rw [List.lookup_cons] at h
  by_cases hc:(k0==NameKind.free && env.scope.kind==.function && env.kindOf n==some .cell)=true
  ·rw [if_pos hc,List.lookup_cons]
   cases hx:x==n with
   | true=>exact .inr rfl
   | false=>rw [hx] at h;exact fQ h
  ·rw [if_neg hc,List.lookup_cons]
   cases hx:x==n with
   | true=>rw [hx] at h;exact .inl h
   | false=>rw [hx] at h;exact fQ h
theorem jf {M:Model}{A:Around}{E:Value->Shared->Prop}{s:Shared}{scope:Scope}{env:Env}{cl:List (Str×Addr)}{Q:Env->Shared->Prop}
  (hQ:Q (newEnv scope s.heap.objs.size env.globals (cellsFrom (s.heap.objs.size+1) scope.names cl) env.qual none .none (some env) builtinsNs)
    { s with heap:=pushCells (s.heap.push { cls:=.type "dict",data:=.dict #[] }) scope.names }) :
  wpAny M A (newFunctionEnv scope env.globals cl [] env.qual none .none (some env)) Q E s:=by
 simp only [newFunctionEnv,Option.isSome_some,if_true]
 refine wpAny_bind (wpAny_alloc ?_)
 refine wpAny_bind (wpAny_layCells _ (λname kind cells=>by cases hkc:kind==NameKind.cell<;>simp [hkc]) _ _ _ _ ?_)
 rw [show ({ s with heap:=s.heap.push { cls:=.type "dict",data:=.dict #[] } }:Shared).heap.objs.size=s.heap.objs.size+1 from Heap.size_push ..]
 refine wpAny_bind ?_
 rw [List.forIn_nil]
 exact wpAny_pure (wpAny_pure hQ)
theorem dL {prog:Program}{w:World}{A:Around}{R:Result->Shared->Prop}{s:Shared}{elt target iter:Expr}{ifs:List Expr}{scope:Scope}{pos:Pos}{it acc:Value}{env:Env} (I:Nat->Shared->Prop)
  (turn:∀ n s,I n s->wpAny (model prog w) A (pyNext it) (λr s₁=>match r with
    | none=>R (.ok .next) s₁
    | some v=>wpAny (model prog w) A (letOwnedTupleGo target it v) (λ_ s₁'=>wpAny (model prog w) A (assign target env v) (λ_ s₂=>
      wpAny (model prog w) A (forIn ifs true λc r=>if r=true then do let ok <-isTrue c env (eval c env);pure (ForInStep.yield ok) else pure (ForInStep.yield r)) (λok s₃=>
       if ok=true then wpAny (model prog w) A (eval elt env) (λx s₄=>
        wpAny (model prog w) A (call (.builtin "list.append") [acc,x]) (λ_ s₅=>∃ m,m < n/\I m s₅) (λ_ _=>False) s₄) (λ_ _=>False) s₃
       else ∃ m,m < n/\I m s₃) (λ_ _=>False) s₂) (λ_ _=>False) s₁') (λ_ _=>False) s₁) (λ_ _=>False) s)
  (n:Nat) (h:I n s) :
  codeAny (model prog w) A (.compLoop (.ListComp elt [⟨target,iter,ifs,0⟩] scope pos) 0 it acc env) R s:=by
 refine codeAny_loop rfl I (λn s hI=>?_) n h
 show wpAny _ A ((compTurn (.ListComp elt [⟨target,iter,ifs,0⟩] scope pos) 0 it acc env).onRaise (λx=>do noteFrame x env;theTreesLotGoes x)) _ _ s
 refine wpAny_noted ?_
 rw [compTurn_list]
 refine wpAny_bind (wpAny_standAt (wpAny_bind (wpAny_mono (turn n s hI) (λr s₁ h₁=>?_) λ_ _ h'=>h'.elim)))
 cases r with
 | none=>exact wpAny_pure h₁
 | some v=>
  refine wpAny_bind (wpAny_mono h₁ (λ_ s₁' h₁'=>?_) λ_ _ h'=>h'.elim)
  refine wpAny_bind (wpAny_mono h₁' (λ_ s₂ h₂=>wpAny_bind (wpAny_mono h₂ (λok s₃ h₃=>?_) λ_ _ h'=>h'.elim)) λ_ _ h'=>h'.elim)
  cases ok with
  | false=>exact wpAny_pure ⟨rfl,h₃⟩
  | true=>
   exact wpAny_bind (wpAny_bind (wpAny_mono h₃ (λx s₄ h₄=>wpAny_bind (wpAny_mono h₄ (λ_ s₅ h₅=>wpAny_pure (wpAny_pure ⟨rfl,h₅⟩)) λ_ _ h'=>h'.elim)) λ_ _ h'=>h'.elim))
noncomputable def lcX (X:Cx) (scope:Scope) (cells:List (Str×Addr)) (Nc:List Str) (s:Shared) (H:Hp) (C:Addr) (fp:List Addr):Cx where
 prog:=X.prog
 w:=X.w
 K:=X.K
 mg:=X.mg
 base:=X.base
 A:=X.A
 N:=Nc
 s₀:=s
 H₀:=H
 env:=compEnvC scope cells C X.env
 outer:=X.stack
 stack:=X.stack
 ex:=fp
 fn:=λx=>scope.names.lookup x==some .cell
 calm:=X.calm
 pn:=[]
 xe:=λ_ _=>False
structure eU (X:Cx) (scope:Scope) (Nc:List Str) (emb:St->St):Prop where
 kind:scope.kind=.function
 nd:(scope.names.map (·.1)).Nodup
 nN:Nc.Nodup
 free:∀ x ∈ scope.names,x.2=.free->X.env.kindOf x.1=some .cell\/X.env.kindOf x.1=some .free
 len:∀ σ:St,σ.length=X.N.length->(emb σ).length=Nc.length
 emb:∀ σ:St,σ.length=X.N.length->∀ (i:Nat) (x:Str) (v:V),Nc[i]?=some x->(emb σ)[i]?=some (some v)->∃ j:Nat,X.N[j]?=some x/\σ[j]?=some (some v)/\scope.names.lookup x=some .free
section
variable {X:Cx}{pins:List (Addr×Obj)}{σ:St}{H:Hp}{s:Shared}{scope:Scope}{Nc:List Str}{emb:St->St}
theorem eU.clos (S:eU X scope Nc emb) (ok:X.Ok):∀ x ∈ scope.names,x.2=.free->∃ c,X.env.cells.lookup x.1=some c:=λx hx h=>ok.has x.1 (S.free x hx h)
theorem o9 (S:eU X scope Nc emb) (I:Inv X pins σ H s) {fp:List Addr} (hf:∀ b ∈ fp,ic X pins H b) (hfo:∀ b ∈ fp,∃ o,s.heap.get? b=some o) {lo:Obj} (hlo:∀ v,lo.data≠.cell v) (hfr:lo.isFreed=false) :
  Inv (lcX X scope (cellsFrom (s.heap.objs.size+2) scope.names (bW X.env.cells scope.names [])) Nc s H (s.heap.objs.size+1) fp) [(s.heap.objs.size,lo)] (emb σ) H
   { s with heap:=pushCells ((s.heap.push lo).push { cls:=.type "dict",data:=.dict #[] }) scope.names }:=by
 have hsz2:((s.heap.push lo).push { cls:=.type "dict",data:=.dict #[] }).objs.size=s.heap.objs.size+2:=by rw [Heap.size_push,Heap.size_push]
 have hsz1:(s.heap.push lo).objs.size=s.heap.objs.size+1:=by rw [Heap.size_push]
 have hk:∀ b o,s.heap.get? b=some o->(pushCells ((s.heap.push lo).push { cls:=.type "dict",data:=.dict #[] }) scope.names).get? b=some o:=λb o e=>
  pushCells_keeps _ _ b o (Heap.get?_push_of_some _ (Heap.get?_push_of_some _ e))
 have has:=S.clos I.ok
 have cl_old:∀ {x:Str}{c:Addr},(bW X.env.cells scope.names []).lookup x=some c->X.env.cells.lookup x=some c/\(x,NameKind.free) ∈ scope.names:=λ{x c} h=>by
  rcases fm _ _ h with q | ⟨q1,q2⟩
  ·cases q
  ·obtain⟨c',hc'⟩:=has _ q1 rfl
   have hc'':X.env.cells.lookup x=some c':=hc'
   rw [hc''] at q2
   exact⟨by rw [hc'',q2];rfl,q1⟩
 have cells_cases:∀ {x:Str}{c:Addr},(cellsFrom (s.heap.objs.size+2) scope.names (bW X.env.cells scope.names [])).lookup x=some c->
   (X.env.cells.lookup x=some c/\(x,NameKind.free) ∈ scope.names)\/((x,NameKind.cell) ∈ scope.names/\s.heap.objs.size+2<=c):=λ{x c} h=>by
  rcases dC _ _ _ h with q | q
  ·exact .inl (cl_old q)
  ·exact .inr q
 have oldlt:∀ {x:Str}{c:Addr},X.env.cells.lookup x=some c->c < s.heap.objs.size:=λ{x c} h=>by
  obtain⟨v,z⟩:=I.cell x c h
  exact z.lt
 have fplt:∀ b ∈ fp,b < s.heap.objs.size:=λb hb=>by obtain⟨o,e⟩:=hfo b hb;exact Heap.lt_size e
 have accmem:∀ p ∈ bW X.env.cells scope.names [],∃ x,X.env.cells.lookup x=some p.2:=by
  have key:∀ (names:List (Str×NameKind)) (acc:List (Str×Addr)),(∀ x ∈ names,x.2=.free->∃ c,X.env.cells.lookup x.1=some c)->(∀ p ∈ acc,∃ x,X.env.cells.lookup x=some p.2)->∀ p ∈ bW X.env.cells names acc,∃ x,X.env.cells.lookup x=some p.2:=by
   intro names
   induction names with
   | nil=>intro acc _ h;exact h
   | cons z r ih=>
    intro acc hn h
    obtain⟨m,k⟩:=z
    unfold bW
    by_cases hk:(k==.free)=true
    ·rw [if_pos hk]
     refine ih _ (λx hx=>hn x (List.mem_cons_of_mem _ hx)) λp hp=>?_
     rcases List.mem_cons.mp hp with e | hp
     ·obtain⟨c,hc⟩:=hn _ List.mem_cons_self (beq_iff_eq.mp hk)
      have hc':X.env.cells.lookup m=some c:=hc
      exact⟨m,by rw [e,hc'];rfl⟩
     ·exact h p hp
    ·rw [if_neg hk]
     exact ih _ (λx hx=>hn x (List.mem_cons_of_mem _ hx)) h
  exact key _ _ has λp hp=>nomatch hp
 refine⟨⟨I.ok.mod,S.kind,I.ok.glob,I.ok.blt,Nat.le_succ _,λx y c h1 h2=>?_,λx hx=>?_,λx c hx h=>?_,I.ok.hd,I.ok.frames,.inl rfl,λb hb=>?_,I.bs,Nat.le_trans I.ok.bsz I.sz,λb o e hb=>?_,λb hb=>?_,I.stack,I.stkFree⟩,
  rfl,I.bare,Un.kept hk,⟨_,(Heap.Ns.new (s.heap.push lo) (.type "dict")).keeps (pushCells_keeps _ _) |> λq=>by rw [hsz1] at q;exact q,λi x v h1 h2 _=>?_⟩,λx c h=>?_,I.hok.fresh (Nat.le_succ _),λx c h=>?_,λp hp=>?_,I.hok.kept hk,S.len σ I.len⟩
 ·-- inj
  have h1':(cellsFrom (s.heap.objs.size+2) scope.names (bW X.env.cells scope.names [])).lookup x=some c:=h1
  have h2':(cellsFrom (s.heap.objs.size+2) scope.names (bW X.env.cells scope.names [])).lookup y=some c:=h2
  rcases cells_cases h1' with⟨q1,_⟩ | ⟨_,q1⟩
  ·rcases cells_cases h2' with⟨q2,_⟩ | ⟨_,q2⟩
   ·exact I.ok.inj x y c q1 q2
   ·exact absurd (Nat.lt_of_lt_of_le (Nat.lt_succ_of_lt (Nat.lt_succ_of_lt (oldlt q1))) q2) (Nat.lt_irrefl _)
  ·refine lJ scope.names _ _ (λp hp=>?_) h1' h2' q1
   obtain⟨z,hz⟩:=accmem p hp
   exact Nat.lt_succ_of_lt (Nat.lt_succ_of_lt (oldlt hz))
 ·-- has
  have hx':(relabel scope X.env).names.lookup x=some .cell\/(relabel scope X.env).names.lookup x=some .free:=hx
  have:∃ k0,scope.names.lookup x=some k0/\(k0=.cell\/k0=.free):=by
   rcases hx' with q | q
   ·obtain⟨k0,h1,h2⟩:=cZ q
    exact⟨k0,h1,h2.elim (λe=>.inl e.symm) λe=>.inr e.1⟩
   ·obtain⟨k0,h1,h2⟩:=cZ q
    exact⟨k0,h1,h2.elim (λe=>.inr e.symm) λe=>by cases e.2⟩
  obtain⟨k0,h1,h2⟩:=this
  refine Option.isSome_iff_exists.mp (PySem.W.cellsFrom_some scope.names _ _ ?_)
  rcases h2 with rfl | rfl
  ·exact .inl h1
  ·exact .inr (eQ _ _ (.inl (PySem.mem_of_lookup h1)))
 ·-- cab
  have hx':scope.names.lookup x=some .cell:=beq_iff_eq.mp hx
  rcases cells_cases h with⟨_,q⟩ | ⟨_,q⟩
  ·have:=d0 S.nd q
   rw [hx'] at this;cases this
  ·exact Nat.le_trans (Nat.le_add_right _ 2) q
 ·-- exf
  refine⟨Nat.ne_of_lt (Nat.lt_succ_of_lt (fplt b hb)),λx c h=>?_⟩
  rcases cells_cases h with⟨q,_⟩ | ⟨_,q⟩
  ·exact (hf b hb).2.2.2.2.1 x c q
  ·intro e
   exact absurd (Nat.lt_of_lt_of_le (Nat.lt_succ_of_lt (Nat.lt_succ_of_lt (fplt b hb))) (e ▸ q)) (Nat.lt_irrefl _)
 ·-- noex
  have hb':b ∈ fp:=hb
  rcases (hf b hb').2.2.2.1 with q | q
  ·exact I.ok.noex b o e q
  ·exact absurd (Nat.lt_of_lt_of_le (Heap.lt_size (I.ok.bs b o e).1) q) (Nat.lt_irrefl _)
 ·-- exfs
  intro hb2
  rcases List.mem_cons.mp (I.stkSub b hb2) with q | q
  ·exact (hf b hb).2.1 q
  ·exact (hf b hb).2.2.1 q
 ·-- loc
  obtain⟨j,e1,e2,e3⟩:=S.emb σ I.len i x v h1 h2
  have kx:=S.free (x,.free) (PySem.mem_of_lookup e3) rfl
  have kx':X.env.kindOf x=some .cell\/X.env.kindOf x=some .free:=kx
  obtain⟨m,hn,hl⟩:=I.loc
  obtain⟨u,ru,lk⟩:=hl j x v e1 e2 (.inr kx')
  refine⟨u,ru,.inr ⟨?_,?_⟩⟩
  ·rcases fQ (env:=X.env) e3 with q | q
   ·exact .inr q
   ·exact .inl q
  ·rcases lk with⟨z,_⟩ | ⟨_,c,hc,hcell⟩
   ·rcases kx' with q | q<;>(rw [z] at q;cases q)
   ·obtain⟨c',hc'⟩:=Option.isSome_iff_exists.mp (PySem.W.cellsFrom_some scope.names (s.heap.objs.size+2) (bW X.env.cells scope.names []) (x:=x) (.inr (eQ _ _ (.inl (PySem.mem_of_lookup e3)))))
    rcases cells_cases hc' with⟨q,_⟩ | ⟨q,_⟩
    ·rw [hc] at q
     cases q
     exact⟨c,hc',hcell.keeps hk⟩
    ·have:=d0 S.nd q
     rw [e3] at this;cases this
 ·-- cell
  have h':(cellsFrom (s.heap.objs.size+2) scope.names (bW X.env.cells scope.names [])).lookup x=some c:=h
  have:=dU scope.names ((s.heap.push lo).push { cls:=.type "dict",data:=.dict #[] }) (bW X.env.cells scope.names []) (λp hp=>by
   obtain⟨z,hz⟩:=accmem p hp
   obtain⟨v,q⟩:=I.cell z p.2 hz
   exact⟨v,q.keeps λb o e=>Heap.get?_push_of_some _ (Heap.get?_push_of_some _ e)⟩) (x,c) (by rw [hsz2];exact PySem.mem_of_lookup h')
  exact this
 ·-- freeC
  rcases cells_cases h with⟨q,_⟩ | ⟨_,q⟩
  ·exact I.freeC x c q
  ·exact I.hok.fresh (Nat.le_trans (Nat.le_add_right _ 2) q)
 ·-- pin
  have hp':p=(s.heap.objs.size,lo):=by
   have:p ∈ ([]:List (Addr×Obj))++[(s.heap.objs.size,lo)]:=hp
   simpa using this
  subst hp'
  refine⟨pushCells_keeps _ _ _ _ (Heap.get?_push_of_some _ (Heap.get?_push_size _ hfr)),I.hok.fresh (Nat.le_refl _),Nat.ne_of_lt (Nat.lt_succ_self _),λhb=>?_,hlo⟩
  rcases List.mem_cons.mp (I.stkSub _ hb) with q | q
  ·exact absurd I.lt (by rw [<-q];exact Nat.lt_irrefl _)
  ·exact I.nofs (Nat.le_refl _) q
end
end L2
namespace L2
open PySem PySem.Spec PyProof.Rows
noncomputable def PTs (X:Cx) (ifs:List Expr) (t:TT):Prop:=
 ∀ (pins:List (Addr×Obj)) (s:Shared) (σ:St) (H:Hp) (Q:Bool->Hp->Prop),Inv X pins σ H s->t σ H Q->
  wpAny (model X.prog X.w) X.A (forIn ifs true λc r=>if r=true then do let ok <-isTrue c X.env (eval c X.env);pure (ForInStep.yield ok) else pure (ForInStep.yield r)) (TP X pins σ Q) X.xe s
noncomputable def AW:TT:=λ_ H Q=>Q true H
theorem wv {X:Cx}:PTs X [] AW:=λ_ _ _ H _ I h=>wpAny_tests_nil ⟨H,I,h⟩
theorem xb {X:Cx}{c:Expr}{t:TT} (hc:PT X c t):PTs X [c] t:=λpins s σ H Q I h=>wpAny_tests_one (hc pins s σ H Q I h)
noncomputable def Sub (σ σ':St):Prop:=σ.length=σ'.length/\∀ (i:Nat) (v:V),σ[i]?=some (some v)->σ'[i]?=some (some v)
noncomputable def Ai (J:It) (σe:St) (g:TG) (tt:TT) (te:TE) (H1:Hp) (Q:VK):Prop:=∃ W:Nat->Nat->List V->Hp->Prop,(∃ m,W 0 m [] H1)/\∀ i m ys H,W i m ys H->
 (J.stop i H/\∀ D,H D=none->Q (.ref D) (upd H D (.lst ys)))\/
 (J.go i H/\ys.length < sizeLine/\∃ N:List V->Hp->Prop,(∀ ys' H',N ys' H'->∃ m',m' < m/\W (i+1) m' ys' H')/\∀ x H',J.yld i H x H'->g x σe H' λσ2 H2=>Sub σe σ2/\tt σ2 H2 λb H3=>if b=true then te σ2 H3 λv H4=>N (ys++[v]) H4 else N ys H3)
noncomputable def tLc (emb:St->St) (wi:TI) (g:TG) (tt:TT) (te:TE):TE:=λσ H Q=>wi σ H λJ H1=>Ai J (emb σ) g tt te H1 Q
section
variable {X:Cx}{scope:Scope}{Nc:List Str}{emb:St->St}{elt iter tg:Expr}{ifs:List Expr}{pos:Pos}{wi:TI}{g:TG}{tt:TT}{te:TE}
theorem Az (S:eU X scope Nc emb) (hc:X.calm=true) (hi:PI X tg iter wi)
  (hg:∀ cells s H C fp,PG (lcX X scope cells Nc s H C fp) tg g) (ht:∀ cells s H C fp,PTs (lcX X scope cells Nc s H C fp) ifs tt) (he:∀ cells s H C fp,PE (lcX X scope cells Nc s H C fp) elt te)
  (hs:∀ x,foldedSetIterable iter X.env x=pure x:=by intro _;rfl):PE X (.ListComp elt [⟨tg,iter,ifs,0⟩] scope pos) (tLc emb wi g tt te):=by
 intro pins s σ H Q I h
 rw [eval_ListComp]
 refine wpAny_comprehension_free (use:=none) rfl hs (iy (S.clos I.ok)) S.kind (λx hx hl=>d0 S.nd (by rw [<-hl];exact hx)) ?_
 refine thn (hi pins s σ H _ I h) λv s1 h1=>thn h1 λitv s2 h2=>?_
 obtain⟨it,fp,tn,J,H2,e,I2,T,st2,f2,W,⟨m0,w0⟩,turn⟩:=h2
 subst e
 refine wpAny_newObj_type (jf ?_)
 rw [show (s2.heap.push { cls:=.type "list",dict:=none,data:=.seq ([]:List Value).toArray }).objs.size=s2.heap.objs.size+1 from Heap.size_push ..]
 generalize hD:s2.heap.objs.size=D
 generalize hlo:({ cls:=.type "list",dict:=none,data:=.seq ([]:List Value).toArray }:Obj)=lo
 have fplt:∀ b ∈ fp,b < s2.heap.objs.size:=λb hb=>by obtain⟨o,e,_⟩:=T.obj _ _ st2 b hb;exact Heap.lt_size e
 have I3:=o9 (lo:=lo) S I2 f2 (λb hb=>by obtain⟨o,e,_⟩:=T.obj _ _ st2 b hb;exact⟨o,e⟩) (by rw [<-hlo];intro v z;cases z) (by rw [<-hlo];rfl)
 rw [hD] at I3
 generalize hcells:cellsFrom (D+2) scope.names (bW X.env.cells scope.names [])=cells at I3
 generalize hX':lcX X scope cells Nc s2 H2 (D+1) fp=X' at I3
 have hfpX:∀ {H':Hp}{ps:List (Addr×Obj)},(∀ b ∈ fp,H' b=none)->(∀ p ∈ ps,p.1=D)->∀ b ∈ fp,ic X' ps H' b:=λ{H' ps} hn hps b hb=>by
  have ok:=I3.ok
  refine⟨hn b hb,?_,?_,.inl (by rw [<-hX'];exact hb),?_,λp hp=>?_⟩
  ·exact (ok.exf b (by rw [<-hX'];exact hb)).1
  ·exact ok.exfs b (by rw [<-hX'];exact hb)
  ·exact (ok.exf b (by rw [<-hX'];exact hb)).2
  ·have hp':p ∈ ([]:List (Addr×Obj))++ps:=by rw [<-hX'] at hp;exact hp
   have e:p.1=D:=hps p (by simpa using hp')
   rw [e,<-hD]
   exact Nat.ne_of_gt (fplt b hb)
 have Dex:D ∈ X'.ex\/X'.s₀.heap.objs.size<=D:=.inr (by rw [<-hX',<-hD];exact Nat.le_refl _)
 have Dloc:D≠X'.env.locals:=by rw [<-hX'];exact Nat.ne_of_lt (Nat.lt_succ_self _)
 have pD:=I3.pin (D,lo) (by rw [<-hX'];exact List.mem_append_right _ List.mem_cons_self)
 have Dfs:D ∉ X'.fs:=pD.2.2.2.1
 have Dcell:∀ x c,X'.env.cells.lookup x=some c->c≠D:=λx c hc' e=>by
  obtain⟨v,o,ho,hd⟩:=I3.cell x c hc'
  rw [e,pD.1] at ho
  cases ho
  exact pD.2.2.2.2 v hd
 -- the loop
 have loop:∀ s3:Shared,s3={ s2 with heap:=pushCells ((s2.heap.push lo).push { cls:=.type "dict",data:=.dict #[] }) scope.names }->
   codeAny (model X.prog X.w) X.A (.compLoop (.ListComp elt [⟨tg,iter,ifs,0⟩] scope pos) 0 (.ref it) (.ref D) (compEnvC scope cells (D+1) X.env))
    (compPost (model X.prog X.w) X.A X.xe none (EP X pins σ Q) (.ref D) (D+1)) s3:=by
  rintro s3 rfl
  refine dL (λn s'=>∃ i ys its k H',Inv X' [(D,{ cls:=.type "list",data:=.seq its.toArray k })] (emb σ) H' s'/\aK ys its/\tn i s'.heap/\(∀ b ∈ fp,H' b=none)/\ys.length<=sizeLine/\W i n ys H') ?_ m0
   ⟨0,[],[],0,H2,?_,.nil,?_,λb hb=>(f2 b hb).1,Nat.zero_le _,w0⟩
  ·rintro n s4 ⟨i,ys,its,k,H4,I4,rv,st4,fr4,hlen,w4⟩
   have hps:∀ p ∈ [(D,({ cls:=.type "list",data:=.seq its.toArray k }:Obj))],p.1=D:=λp hp=>by
    have:=List.mem_singleton.mp hp
    rw [this]
   rcases turn i n ys H4 w4 with⟨stop,qn⟩ | ⟨go,hlt,N,hN,step⟩
   ·-- the end
    have TD:=T.done X' (by rw [<-hX'];rfl) (by rw [<-hX'];rfl) (by rw [<-hX'];rfl) (by rw [<-hX'];exact hc) i _ s4 (emb σ) H4 (λ_ _=>False) I4 (hfpX fr4 hps) st4 stop
    rw [show X'.A=X.A by rw [<-hX'];rfl] at TD
    refine thn TD λr s5 ⟨hr,I5⟩=>?_
    subst hr
    obtain⟨m5,hn5,_⟩:=id I5.loc
    have eC:X'.env.locals=D+1:=by rw [<-hX'];rfl
    rw [eC] at hn5
    refine⟨m5,hn5,λh' hsb=>?_⟩
    have pD5:=I5.pin (D,{ cls:=.type "list",data:=.seq its.toArray k }) (by rw [<-hX'];exact List.mem_append_right _ List.mem_cons_self)
    have neC:∀ b u,H4 b=some u->b≠D+1:=λb u e z=>by
     have:=I5.free
     rw [eC,<-z,e] at this
     cases this
    have hD4:H4 D=none:=pD5.2.1
    have un:=I5.base
    have un':Un (frs X.stack) fp H2 H4 s2.heap s5.heap:=by rw [<-hX'] at un;exact un
    have old_ne:∀ b o,s2.heap.get? b=some o->b≠D/\b≠D+1:=λb o e=>by
     have q:=Heap.lt_size e
     rw [hD] at q
     exact⟨Nat.ne_of_lt q,Nat.ne_of_lt (Nat.lt_succ_of_lt q)⟩
    have h2D:H2 D=none:=by rw [<-hD];exact I2.fresh
    have hok':HOk X.prog X.w H4 h':=λb u e=>by
     have ob:cv X.prog X.w H4 s5.heap b u:=by have:=I5.hok b u e;rw [<-hX'] at this;exact this
     refine ob.stay (λc v hcv q=>(hsb.2 c ?_).trans q) (λ_ q=>q) λ_ _ q=>q
     rcases hcv with z | z
     ·rw [z];exact neC b u e
     ·exact neC c _ z
    have hokD:HOk X.prog X.w (upd H4 D (.lst ys)) h':=λb u e=>by
     by_cases hb:b=D
     ·subst hb
      rw [aW] at e
      cases e
      exact⟨hlen,its,k,rv,(hsb.2 b (Nat.ne_of_lt (Nat.lt_succ_self _))).trans pD5.1⟩
     ·rw [aF hb] at e
      refine (hok' b u e).stay (λ_ _ _ q=>q) (λc q=>?_) λc z q=>?_
      all_goals first
       | (rw [aF (aG q hD4)];exact q)
       | (rw [aF (aG z hD4)];exact z)
    refine⟨.ref D,upd H4 D (.lst ys),?_,rfl,qn D hD4⟩
    refine I2.call' (s':={ s5 with heap:=h' }) (ch:=fp) ?_ ⟨λb o e nb hb hx=>?_,λb o e nb hb hx=>?_,λb o e nb hx=>?_,λb o e hx=>?_,λb xs e=>?_,λb o u e=>?_,λb ps e=>?_⟩ hokD I5.bare (λb hb=>?_)
    ·have:=I5.os
     rw [<-hX'] at this
     exact this
    ·exact (hsb.2 b (old_ne b o e).2).trans (un'.keep b o e nb hb hx)
    ·obtain⟨sl,q⟩:=un'.slot b o e nb hb hx
     exact⟨sl,(hsb.2 b (old_ne b o e).2).trans q⟩
    ·rw [aF (old_ne b o e).1]
     exact un'.free b o e nb hx
    ·obtain⟨o',q⟩:=un'.there b o e hx
     exact⟨o',(hsb.2 b (old_ne b o e).2).trans q⟩
    ·rw [aF (aG e h2D)]
     exact un'.tups b xs e
    ·rw [aF (aG e h2D)]
     exact un'.frzs b o u e
    ·obtain⟨m,q⟩:=un'.tbls b ps e
     exact⟨m,by rw [aF (aG e h2D)];exact q⟩
    ·obtain⟨q0,q1,q2,q3,q4,q5⟩:=f2 b hb
     exact⟨q3,q1,q4,q5⟩
   ·-- a turn
    have hA:X'.A=X.A:=by rw [<-hX'];rfl
    have hP:X'.prog=X.prog:=by rw [<-hX'];rfl
    have hw:X'.w=X.w:=by rw [<-hX'];rfl
    have hE:X'.env=compEnvC scope cells (D+1) X.env:=by rw [<-hX'];rfl
    have hxe:X'.xe=λ_ _=>False:=by rw [<-hX'];rfl
    have TI':=T.item X' hP hw (by rw [<-hX'];rfl) (by rw [<-hX'];exact hc) i _ s4 (emb σ) H4 (λ_ _=>False) I4 (hfpX fr4 hps) st4 go
    rw [hA] at TI'
    refine thn TI' λr s5 ⟨u,hr,h5⟩=>?_
    subst hr
    refine thn h5 λ_ s6 ⟨x,H6,I6,r6,y6,st6,fr6⟩=>?_
    have I6':=I6.pinned (hfpX fr6 hps) (T.obj _ _ st6)
    have G:=hg cells s2 H2 (D+1) fp
    have TT':=ht cells s2 H2 (D+1) fp
    have EE:=he cells s2 H2 (D+1) fp
    rw [hX'] at G TT' EE
    have G':=G _ s6 (emb σ) H6 x u _ I6' r6 (step x H6 y6)
    rw [hA,hP,hw,hE,hxe] at G'
    refine thn G' λ_ s7 ⟨σ7,H7,I7,sb7,q7⟩=>?_
    have T':=TT' _ s7 σ7 H7 _ I7 q7
    rw [hA,hP,hw,hE,hxe] at T'
    refine thn T' λok s8 ⟨H8,I8,q8⟩=>?_
    -- what is pinned
    have pin_fp:∀ {σ9:St}{H9:Hp}{s9:Shared},Inv X' ([(D,({ cls:=.type "list",data:=.seq its.toArray k }:Obj))]++jA fp s6.heap) σ9 H9 s9->tn (i+1) s9.heap/\∀ b ∈ fp,H9 b=none:=λ{σ9 H9 s9} I9=>
     ⟨T.keep _ _ _ st6 λb hb o e=>(I9.pin (b,o) (List.mem_append_right _ (List.mem_append_right _ (cT hb e)))).1,λb hb=>by
      obtain⟨o,e,_⟩:=T.obj _ _ st6 b hb
      exact (I9.pin (b,o) (List.mem_append_right _ (List.mem_append_right _ (cT hb e)))).2.1⟩
    cases ok with
    | false=>
     rw [if_neg (by decide)] at q8
     rw [if_neg (by decide)]
     obtain⟨m',hm,w8⟩:=hN _ _ q8
     exact⟨m',hm,i+1,ys,its,k,H8,I8.unpinned.weak sb7.1 sb7.2,rv,(pin_fp I8).1,(pin_fp I8).2,hlen,w8⟩
    | true=>
     rw [if_pos rfl] at q8
     rw [if_pos rfl]
     have E':=EE _ s8 σ7 H8 _ I8 q8
     rw [hA,hP,hw,hE,hxe] at E'
     refine thn E' λy s9 ⟨v9,H9,I9,r9,n9⟩=>?_
     obtain⟨m',hm,w9⟩:=hN _ _ n9
     have pD9:=I9.pin (D,{ cls:=.type "list",data:=.seq its.toArray k }) (List.mem_append_right _ (List.mem_append_left _ List.mem_cons_self))
     have hl:=rv.length
     have I9n:Inv X' [] σ7 H9 s9:=I9.pins_of λp hp=>nomatch hp
     refine call_meets F.slot_list_append ⟨_,pD9.1,rfl⟩ F.entry_list_append (F.args_list_append_2 _ _) (PySem.list_append D its.toArray k y (by rw [List.size_toArray];lia)) ⟨pD9.1,?_⟩
     have up:∃ k':Nat,(s9.heap.update D (Obj.mapSeq λxs=>xs.push y)).get? D=some { cls:=.type "list",data:=.seq (its++[y]).toArray k' }:=by
      have q:=PySem.IsL.update pD9.1 (λxs:Array Value=>xs.push y)
      simp only [List.push_toArray] at q
      exact⟨_,q⟩
     obtain⟨k',up⟩:=up
     have hoth:∀ b o,b≠D->s9.heap.get? b=some o->(s9.heap.update D (Obj.mapSeq λxs=>xs.push y)).get? b=some o:=λb o hb e=>(Heap.get?_update_other s9.heap _ (Ne.symm hb)).trans e
     have I10:=I9n.turned (t':=s9.toks) hoth pD9.2.1 Dloc Dex Dcell (λp hp=>absurd (show p ∈ ([]:List (Addr×Obj)) by rw [<-hX'] at hp;exact hp) (by simp))
     refine⟨m',hm,i+1,ys++[v9],its++[y],k',H9,(I10.weak sb7.1 sb7.2).pins_of (λp hp=>?_),rv.append (.cons r9 .nil),T.keep _ _ _ (pin_fp I9).1 (λb hb o e=>hoth b o (by rw [<-hD];exact Nat.ne_of_lt (fplt b hb)) e),(pin_fp I9).2,?_,w9⟩
     ·have:=List.mem_singleton.mp hp
      subst this
      exact⟨up,pD9.2.1,Dloc,Dfs,λv z=>by cases z⟩
     ·rw [List.length_append,List.length_singleton]
      lia
  ·have q:lo={ cls:=.type "list",data:=.seq ([]:List Value).toArray 0 }:=hlo.symm
   rw [<-q]
   exact I3
  ·exact T.keep _ _ _ st2 λb hb o e=>pushCells_keeps _ _ b o (Heap.get?_push_of_some _ (Heap.get?_push_of_some _ e))
 refine codeAny_compStart_list ?_ ?_
 ·exact loop _ rfl
 ·refine T.self X.A 0 _ _ _ (T.keep _ _ _ st2 λb hb o e=>pushCells_keeps _ _ b o (Heap.get?_push_of_some _ (Heap.get?_push_of_some _ e))) ?_
  exact loop _ rfl
end
end L2
namespace L2
open PySem PySem.Spec PyProof.Rows
open PySem.AutoSeq1 (wpAny_loadPart')
section
variable {prog:Program}{w:World}{A:Around}{E:Value->Shared->Prop}{s:Shared}
theorem eV {it l:Addr}{i:Nat}{items}{x:Value}{Q:Value->Shared->Prop} (hit:s.heap.IsTupleIter it l i)
  (hl:s.heap.IsTuple l items) (hx:items[i]?=some x)
  (hQ:∀ h',h'.IsTupleIter it l (i+1)->Heap.SameBut it s.heap h'->Q x { s with heap:=h' }) :
  wpAny (model prog w) A (Builtin.SmallTypes.nextOf (.ref it)) Q E s:=by
 obtain⟨o,ho,hc,hd⟩:=id hit
 obtain⟨ol,hol,_,nl,hdl⟩:=hl
 unfold Builtin.SmallTypes.nextOf
 refine wpAny_bind (wpAny_callSpecial?_slot (name:=Str.ofString "__next__") hit.typeIs F.slot_tuple_iterator_next
  (wpAny_call_entry F.slot_tuple_iterator_next hit.typeIs F.entry_tuple_iterator_next ?_ (F.args_tuple_iterator_next_1 _)))
 show wpAny _ _ (field (.ref it) 0 >>= _) _ _ s
 refine wpAny_bind (wpAny_field ho hd (x:=.ref l) rfl ?_)
 show wpAny _ _ (if (Value.ref l==Value.none)=true then _ else _) _ _ s
 rw [if_neg (show ¬ ((Value.ref l==Value.none)=true) from Bool.false_ne_true)]
 show wpAny _ _ (field (.ref it) 1 >>= _) _ _ s
 refine wpAny_bind (wpAny_field ho hd (x:=.int i 0) rfl ?_)
 show wpAny _ _ (seqItems? (.ref l) >>= _) _ _ s
 refine wpAny_bind (wpAny_seqItems hol hdl ?_)
 simp only [Int.toNat_natCast,hx]
 refine wpAny_bind (wpAny_setField ho hd (by simp) (wpAny_pure ⟨x,rfl,wpAny_pure (hQ _ ?_ (Heap.SameBut.update ..))⟩))
 exact⟨_,Heap.get?_update_self _ ho (Obj.isFreed_of_fields (Obj.data_mapFields hd _)),(Obj.cls_mapFields ..).trans hc,by
  rw [Obj.data_mapFields hd];simp [rawInt]⟩
theorem fF {it l:Addr}{i:Nat}{items}{Q:Value->Shared->Prop} (hh:A.handled=none)
  (hit:s.heap.IsTupleIter it l i) (hl:s.heap.IsTuple l items) (hx:items[i]?=none)
  (hE:∀ h' e,Heap.ExtBut it s.heap h'->(∃ o,h'.get? e=some o/\o.cls=.type "StopIteration")->E (.ref e) { s with heap:=h' }) :
  wpAny (model prog w) A (Builtin.SmallTypes.nextOf (.ref it)) Q E s:=by
 obtain⟨o,ho,hc,hd⟩:=id hit
 obtain⟨ol,hol,_,nl,hdl⟩:=hl
 unfold Builtin.SmallTypes.nextOf
 refine wpAny_bind (wpAny_callSpecial?_slot (name:=Str.ofString "__next__") hit.typeIs F.slot_tuple_iterator_next
  (wpAny_call_entry F.slot_tuple_iterator_next hit.typeIs F.entry_tuple_iterator_next ?_ (F.args_tuple_iterator_next_1 _)))
 show wpAny _ _ (field (.ref it) 0 >>= _) _ _ s
 refine wpAny_bind (wpAny_field ho hd (x:=.ref l) rfl ?_)
 show wpAny _ _ (if (Value.ref l==Value.none)=true then _ else _) _ _ s
 rw [if_neg (show ¬ ((Value.ref l==Value.none)=true) from Bool.false_ne_true)]
 show wpAny _ _ (field (.ref it) 1 >>= _) _ _ s
 refine wpAny_bind (wpAny_field ho hd (x:=.int i 0) rfl ?_)
 show wpAny _ _ (seqItems? (.ref l) >>= _) _ _ s
 refine wpAny_bind (wpAny_seqItems hol hdl ?_)
 simp only [Int.toNat_natCast,hx]
 refine wpAny_bind (wpAny_rule (wpAny_bind (wpAny_setField ho hd (by simp) ?_)))
 show wpAny _ _ (newExc (.type "StopIteration") [] >>= _) _ _ _
 refine wpAny_bind ?_
 simp only [newExc,newTuple]
 refine wpAny_bind (wpAny_newObj_type ?_ (by size_fits))
 refine wpAny_bind (m:=firstArgMember _ _) (wpAny_of_eq (a:=Value.none) (by first | rfl | (simp only [firstArgMember];rfl)) ?_)
 refine wpAny_newObj_type ?_ (by size_fits)
 simp only [raiseNew]
 refine wpAny_bind (wpAny_handled ?_)
 first | rw [show A.in1.handled=none from hh] | rw [hh]
 refine wpAny_bind (wpAny_pure (wpAny_throw ?_))
 exact hE _ _ (((Heap.SameBut.update ..).extBut.push _).push _) ⟨_,Heap.get?_push_size _ rfl,rfl⟩
theorem gt (hh:A.handled=none) (it l:Addr) (hne:l≠it) (items:Array Value) :
  Draws prog w A it [it,l] items.size (λi v=>items[i]?=some v) (λi h=>h.IsTupleIter it l i/\h.IsTuple l items) where
 live:=λ_ _ st=>let ⟨o,ho,_⟩:=st.1;⟨o,ho⟩
 frame:=λ_ _ _ st hk=>⟨st.1.at λo e=>hk it (by simp) o e,by
  obtain⟨o,e,r⟩:=st.2
  exact⟨o,hk l (by simp) o e,r⟩⟩
 item:=λi s Q E hi st hQ=>by
  refine eV st.1 st.2 (x:=items[i]) (by simp [hi]) λh' hit' hs'=>?_
  refine hQ _ h' s.toks (by simp [hi]) ⟨hit',?_⟩ hs'
  obtain⟨o,e,r⟩:=st.2
  exact⟨o,(hs'.2 l hne).trans e,r⟩
 done:=λs Q E st hE=>fF hh st.1 st.2 (by simp) hE
end
theorem gN (l:Addr) (items:Array Value) (n:Nat) (dct:Option Addr) (sl:Array (Option Value)) :
  Meets (Builtin.«enumerate.__new__» ⟨[.type "enumerate",.ref l],[]⟩) (λ_ R s=>s.heap.get? l=some { cls:=.type "tuple",dict:=dct,data:=.seq items n,slots:=sl }/\
   R (.ok (.ret (.ref (s.heap.push { cls:=.type "tuple_iterator",data:=.fields #[.ref l,.int 0 0] }).objs.size)))
    { s with heap:=(s.heap.push { cls:=.type "tuple_iterator",data:=.fields #[.ref l,.int 0 0] }).push { cls:=.type "enumerate",data:=.fields #[.none,.bool false,.ref s.heap.objs.size,rawInt 0,.none,.none] } }):=
 .of_wp λprog w A R s h=>by
  obtain⟨hp,g,d,tk,os⟩:=s;obtain⟨hl,h⟩:=h
  have hsub:=sub_enumerate
  have hL:Heap.IsTuple (Shared.heap ⟨hp,g,d,tk,os⟩) l items:=⟨_,hl,rfl,n,rfl⟩
  wp_walk using wpAny_loadPart' hl
  refine wpAny_stack_any λst=>wpAny_pure ?_
  split
  ·rename_i c _ _ _ _ _
   cases (c==Value.type "enumerate")
   ·wp_walk using wpAny_loadPart' hl,wpAny_pyIter_tuple hL
    exact⟨_,rfl,h⟩
   ·wp_walk using wpAny_loadPart' hl,wpAny_pyIter_tuple hL
    exact⟨_,rfl,h⟩
  ·wp_walk using wpAny_loadPart' hl,wpAny_pyIter_tuple hL
   exact⟨_,rfl,h⟩
theorem gG {prog:Program}{w:World}{A:Around}{E:Value->Shared->Prop}{s:Shared}{l:Addr}{items:Array Value}{Q:Value->Shared->Prop} (hL:s.heap.IsTuple l items)
  (h:∀ h',IsEnum h' (s.heap.objs.size+1) s.heap.objs.size 0 .none->h'.IsTupleIter s.heap.objs.size l 0->h'.objs.size=s.heap.objs.size+2->
    (∀ b o,s.heap.get? b=some o->h'.get? b=some o)->Q (.ref (s.heap.objs.size+1)) { s with heap:=h' }) :
  wpAny (model prog w) A (call (.type "enumerate") [.ref l]) Q E s:=by
 obtain⟨⟨c,dct,dt,sl⟩,hl,hc,n,hd⟩:=hL
 replace hc:c=.type "tuple":=hc
 replace hd:dt=.seq items n:=hd
 subst hc hd
 refine callType_new F.called_enumerate (by decide) (F.typeCall_enumerate_1 _) (F.newCall_enumerate_1 _) (λobj=>F.args_object_init_2 obj _) F.entry_enumerate_new
  (gN l items n dct sl) ⟨hl,?_⟩
 have hz:(s.heap.push { cls:=.type "tuple_iterator",data:=.fields #[.ref l,.int 0 0] }).objs.size=s.heap.objs.size+1:=Heap.size_push ..
 show _/\_
 rw [hz]
 have he:IsEnum ((s.heap.push { cls:=.type "tuple_iterator",data:=.fields #[.ref l,.int 0 0] }).push
   { cls:=.type "enumerate",data:=.fields #[.none,.bool false,.ref s.heap.objs.size,rawInt 0,.none,.none] }) (s.heap.objs.size+1) s.heap.objs.size 0 .none:=by
  have:=Heap.get?_push_size (s.heap.push { cls:=.type "tuple_iterator",data:=.fields #[.ref l,.int 0 0] })
   (o:={ cls:=.type "enumerate",data:=.fields #[.none,.bool false,.ref s.heap.objs.size,rawInt 0,.none,.none] }) rfl
  rw [hz] at this;exact this
 refine⟨⟨_,he,rfl⟩,h _ he ⟨_,Heap.get?_push_of_some _ (Heap.get?_push_size _ rfl),rfl,rfl⟩ (by rw [Heap.size_push,hz]) λb o x=>Heap.get?_push_of_some _ (Heap.get?_push_of_some _ x)⟩
section
variable {X:Cx}{pins:List (Addr×Obj)}{σ:St}{H:Hp}{s:Shared}{h':Heap}{fp:List Addr}
theorem ic.ch (hf:∀ b ∈ fp,ic X pins H b):∀ b ∈ fp,(b ∈ X.ex\/X.s₀.heap.objs.size<=b)/\b≠X.env.locals/\(∀ x c,X.env.cells.lookup x=some c->c≠b)/\∀ p ∈ X.pn++pins,p.1≠b:=λb hb=>
 let ⟨_,f1,_,f3,f4,f5⟩:=hf b hb
 ⟨f3,f1,f4,f5⟩
theorem Inv.turns {t':Nat} (I:Inv X pins σ H s) (hf:∀ b ∈ fp,ic X pins H b) (k:∀ b o,b ∉ fp->s.heap.get? b=some o->h'.get? b=some o):Inv X pins σ H { s with heap:=h',toks:=t' }:=by
 have nit:∀ b u,H b=some u->b ∉ fp:=λb u e z=>by have:=(hf b z).1;rw [e] at this;cases this
 refine I.step (g':=s.gens) (d':=s.drawn) (ch:=fp) (ic.ch hf) (λb o _ _ hc e _=>k b o hc e) (λb o _ _ hc e _=>⟨o.slots,k b o hc e⟩) (λ_ _ _ _ n=>n)
  (λb o hc e=>⟨o,k b o hc e⟩) (λ_ _ e=>e) (λ_ _ _ e=>e) (λb ps e=>⟨#[],by rw [e];simp⟩) (λm hm=>?_) (λb u e=>?_) I.bare
 ·obtain⟨o,es,ep,ho,r⟩:=hm
  exact⟨o,es,ep,k _ o (λz=>(hf _ z).2.1 rfl) ho,r⟩
 ·refine (I.hok b u e).stay (λc v hc q=>k c v ?_ q) (λ_ q=>q) λ_ _ q=>q
  rcases hc with z | z
  ·rw [z];exact nit b u e
  ·exact nit c _ z
theorem Inv.turnsT {t':Nat}{T:Addr}{xs:List V}{its:Array Value} (I:Inv X pins σ H s) (hf:∀ b ∈ fp,ic X pins H b) (k:∀ b o,b ∉ fp->s.heap.get? b=some o->h'.get? b=some o)
  (hT:s.heap.objs.size<=T) (ht:di h' T its) (rv:aK xs its.toList) (hz:xs.length<=sizeLine):Inv X pins σ (upd H T (.tup xs)) { s with heap:=h',toks:=t' }:=by
 have nit:∀ b u,H b=some u->b ∉ fp:=λb u e z=>by have:=(hf b z).1;rw [e] at this;cases this
 have hTn:H T=none:=I.hok.fresh hT
 have lt:∀ b o,s.heap.get? b=some o->b≠T:=λb o e=>Nat.ne_of_lt (Nat.lt_of_lt_of_le (Heap.lt_size e) hT)
 refine I.step (g':=s.gens) (d':=s.drawn) (ch:=fp) (ic.ch hf) (λb o _ _ hc e _=>k b o hc e) (λb o _ _ hc e _=>⟨o.slots,k b o hc e⟩) (λb o _ e n=>by rw [aF (lt b o e)];exact n)
  (λb o hc e=>⟨o,k b o hc e⟩) (λb _ e=>by rw [aF (aG e hTn)];exact e) (λb _ _ e=>by rw [aF (aG e hTn)];exact e) (λb ps e=>⟨#[],by rw [aF (aG e hTn),e];simp⟩) (λm hm=>?_) (λb u e=>?_) I.bare
 ·obtain⟨o,es,ep,ho,r⟩:=hm
  exact⟨o,es,ep,k _ o (λz=>(hf _ z).2.1 rfl) ho,r⟩
 ·by_cases hb:b=T
  ·subst hb
   rw [aW] at e
   cases e
   refine⟨hz,its.toList,rv,?_⟩
   show di h' b its.toList.toArray
   simpa using ht
  ·rw [aF hb] at e
   refine (I.hok b u e).stay (λc v hc q=>k c v ?_ q) (λc q=>?_) λc z q=>?_
   ·rcases hc with z | z
    ·rw [z];exact nit b u e
    ·exact nit c _ z
   all_goals first
    | (rw [aF (aG q hTn)];exact q)
    | (rw [aF (aG z hTn)];exact z)
end
noncomputable def Ite (S:Hp->List V->Prop):It:=
 ⟨λi H=>∃ xs x,S H xs/\xs[i]?=some x,λi H x H'=>∃ T v,(∀ xs,S H xs->xs[i]?=some v)/\H T=none/\x=.ref T/\H'=upd H T (.tup [.int i,v]),λi H=>∃ xs,S H xs/\xs.length=i⟩
theorem qo {P:Program}{w:World}{K:PySem.W.Frag}{elts:List Expr}{k:Nat}{pos:Pos} (a it e:Addr) (hei:e≠it) (hae:a≠e) (hai:a≠it) :
  pU P w K (.Tuple elts k pos) (Ite λH xs=>SqL K H a xs) [e,it] e (λi h=>(∃ old,IsEnum h e it i old)/\h.IsListIter it a i) where
 mem:=by simp
 obj:=λi h st b hb=>by
  rcases List.mem_cons.mp hb with rfl | hb
  ·obtain⟨⟨old,q⟩,_⟩:=st
   exact⟨_,q,λv z=>by cases z⟩
  ·rw [List.mem_singleton.mp hb]
   obtain⟨_,o,e,c,d⟩:=st
   exact⟨o,e,λv z=>by rw [d] at z;cases z⟩
 keep:=λi h h' st kk=>⟨let ⟨old,q⟩:=st.1;⟨old,kk e (by simp) _ q⟩,st.2.at λo q=>kk it (by simp) o q⟩
 item:=by
  intro X hP hw hK hc i pins s σ H E I hf st hg
  subst hP hw hK
  obtain⟨xs,x,hq,hx⟩:=hg
  obtain⟨its,rv,p,hz⟩:=I.list hq
  obtain⟨u,hu,ru⟩:=rv.get hx
  have W:=WalksT.enumerateD (Draws.list (prog:=X.prog) (w:=X.w) (A:=X.A.in1) (I.ok.hd hc) it a hai its.toArray) e hei (by simp [hei,Ne.symm hae]) (by simp)
  have hi:i < its.toArray.size:=by
   have:=(List.getElem?_eq_some_iff.mp hu).1
   simpa using this
  obtain⟨⟨ol,he0⟩,hit0⟩:=st
  refine wpAny_pyNext_enum_itemD (Draws.list (prog:=X.prog) (w:=X.w) (A:=X.A.in1) (I.ok.hd hc) it a hai its.toArray) he0 ⟨hit0,p.isList⟩ hi hei (by simp [hei,Ne.symm hae]) λy h1 t hy ho hs' ht hsz hk=>⟨_,rfl,?_⟩
  have hm:(λ(i:Nat) (T:Addr) (h:Heap)=>(∃ x,IsEnumOut h e it ((i:Int)+1) x T)/\_/\T≠e/\T≠it) i s.heap.objs.size h1:=⟨⟨_,ho⟩,hs',Nat.ne_of_gt (Heap.lt_size he0),Nat.ne_of_gt (let ⟨_,q,_⟩:=hit0;Heap.lt_size q)⟩
  have kk:∀ b o,b ∉ [e,it]->s.heap.get? b=some o->h1.get? b=some o:=λb o hb q=>hk b o (λz=>hb (by simp [z])) (λz=>hb (by simp [z])) q
  generalize eT:s.heap.objs.size=T at ht ho hm ⊢
  have hT:s.heap.objs.size<=T:=Nat.le_of_eq eT
  have etk:∃ tk,tk=t+1:=⟨_,rfl⟩
  obtain⟨tk,etk⟩:=etk
  rw [<-etk]
  have ey:y=u:=by
   have hy':its[i]?=some y:=by simpa using hy
   rw [hu] at hy'
   exact (Option.some.inj hy').symm
  subst ey
  refine W.go elts k pos i T _ _ _ hm λh2 hst kk2=>?_
  have nT:T ∉ [e,it]:=W.apart i T _ hm
  refine⟨.ref T,upd H T (.tup [.int i,x]),?_,rfl,⟨T,x,λys hy=>by rw [I.list_inj hy hq];exact hx,I.hok.fresh hT,rfl,rfl⟩,⟨hst.1,hst.2.1⟩,λb hb=>?_⟩
  ·have ht2:di h2 T #[.int i t,y]:=⟨_,kk2 T _ nT ht,rfl,⟨_,rfl⟩,rfl⟩
   have I2:Inv X pins σ (upd H T (.tup [.int i,x])) { s with heap:=h2,toks:=tk }:=
    I.turnsT (fp:=[e,it]) (h':=h2) (t':=tk) (its:=#[.int i t,y]) hf (λb o hb q=>kk2 b o hb (kk b o hb q)) hT ht2 (.cons ⟨t,rfl⟩ (.cons ru .nil)) (by show 2<=sizeLine;decide)
   exact I2
  ·rw [aF (show b≠T from λz=>nT (z ▸ hb))]
   exact (hf b hb).1
 done:=by
  intro X hP hw hK hc i pins s σ H E I hf st hg
  subst hP hw hK
  obtain⟨xs,hq,hx⟩:=hg
  obtain⟨its,rv,p,hz⟩:=I.list hq
  have hl:=rv.length
  have hx':its.toArray[i]?=none:=by simp;lia
  obtain⟨⟨old,he⟩,hit⟩:=st
  -- the end at place i
  obtain⟨f0,f1,f2,f3,f4,f5⟩:=hf e (by simp)
  refine wpAny_pyNext_enum_end (I.ok.hd hc) he hit p.isList hx' λh' eb=>⟨rfl,?_⟩
  exact I.turns (t':=s.toks) (fp:=[e,it]) hf λb o hb q=>eb b o (by simp at hb;exact hb.2) q
 self:=λ_ _ _ _ _ st h=>let ⟨⟨_,he⟩,_⟩:=st;wpAny_pyIter_enum he h
theorem qw {P:Program}{w:World}{K:PySem.W.Frag}{elts:List Expr}{k:Nat}{pos:Pos} (a it e:Addr) (hei:e≠it) (hae:a≠e) (hai:a≠it) :
  pU P w K (.Tuple elts k pos) (Ite λH xs=>SqT K H a xs) [e,it] e (λi h=>(∃ old,IsEnum h e it i old)/\h.IsTupleIter it a i) where
 mem:=by simp
 obj:=λi h st b hb=>by
  rcases List.mem_cons.mp hb with rfl | hb
  ·obtain⟨⟨old,q⟩,_⟩:=st
   exact⟨_,q,λv z=>by cases z⟩
  ·rw [List.mem_singleton.mp hb]
   obtain⟨_,o,e,c,d⟩:=st
   exact⟨o,e,λv z=>by rw [d] at z;cases z⟩
 keep:=λi h h' st kk=>⟨let ⟨old,q⟩:=st.1;⟨old,kk e (by simp) _ q⟩,st.2.at λo q=>kk it (by simp) o q⟩
 item:=by
  intro X hP hw hK hc i pins s σ H E I hf st hg
  subst hP hw hK
  obtain⟨xs,x,hq,hx⟩:=hg
  obtain⟨its,rv,p,hz⟩:=I.tuple hq
  obtain⟨u,hu,ru⟩:=rv.get hx
  have W:=WalksT.enumerateD (gt (prog:=X.prog) (w:=X.w) (A:=X.A.in1) (I.ok.hd hc) it a hai its.toArray) e hei (by simp [hei,Ne.symm hae]) (by simp)
  have hi:i < its.toArray.size:=by
   have:=(List.getElem?_eq_some_iff.mp hu).1
   simpa using this
  obtain⟨⟨ol,he0⟩,hit0⟩:=st
  refine wpAny_pyNext_enum_itemD (gt (prog:=X.prog) (w:=X.w) (A:=X.A.in1) (I.ok.hd hc) it a hai its.toArray) he0 ⟨hit0,p⟩ hi hei (by simp [hei,Ne.symm hae]) λy h1 t hy ho hs' ht hsz hk=>⟨_,rfl,?_⟩
  have hm:(λ(i:Nat) (T:Addr) (h:Heap)=>(∃ x,IsEnumOut h e it ((i:Int)+1) x T)/\_/\T≠e/\T≠it) i s.heap.objs.size h1:=⟨⟨_,ho⟩,hs',Nat.ne_of_gt (Heap.lt_size he0),Nat.ne_of_gt (let ⟨_,q,_⟩:=hit0;Heap.lt_size q)⟩
  have kk:∀ b o,b ∉ [e,it]->s.heap.get? b=some o->h1.get? b=some o:=λb o hb q=>hk b o (λz=>hb (by simp [z])) (λz=>hb (by simp [z])) q
  generalize eT:s.heap.objs.size=T at ht ho hm ⊢
  have hT:s.heap.objs.size<=T:=Nat.le_of_eq eT
  have etk:∃ tk,tk=t+1:=⟨_,rfl⟩
  obtain⟨tk,etk⟩:=etk
  rw [<-etk]
  have ey:y=u:=by
   have hy':its[i]?=some y:=by simpa using hy
   rw [hu] at hy'
   exact (Option.some.inj hy').symm
  subst ey
  refine W.go elts k pos i T _ _ _ hm λh2 hst kk2=>?_
  have nT:T ∉ [e,it]:=W.apart i T _ hm
  refine⟨.ref T,upd H T (.tup [.int i,x]),?_,rfl,⟨T,x,λys hy=>by rw [I.tuple_inj hy hq];exact hx,I.hok.fresh hT,rfl,rfl⟩,⟨hst.1,hst.2.1⟩,λb hb=>?_⟩
  ·have ht2:di h2 T #[.int i t,y]:=⟨_,kk2 T _ nT ht,rfl,⟨_,rfl⟩,rfl⟩
   have I2:Inv X pins σ (upd H T (.tup [.int i,x])) { s with heap:=h2,toks:=tk }:=
    I.turnsT (fp:=[e,it]) (h':=h2) (t':=tk) (its:=#[.int i t,y]) hf (λb o hb q=>kk2 b o hb (kk b o hb q)) hT ht2 (.cons ⟨t,rfl⟩ (.cons ru .nil)) (by show 2<=sizeLine;decide)
   exact I2
  ·rw [aF (show b≠T from λz=>nT (z ▸ hb))]
   exact (hf b hb).1
 done:=by
  intro X hP hw hK hc i pins s σ H E I hf st hg
  subst hP hw hK
  obtain⟨xs,hq,hx⟩:=hg
  obtain⟨its,rv,p,hz⟩:=I.tuple hq
  have hl:=rv.length
  have W:=WalksT.enumerateD (gt (prog:=X.prog) (w:=X.w) (A:=X.A.in1) (I.ok.hd hc) it a hai its.toArray) e hei (by simp [hei,Ne.symm hae]) (by simp)
  have hi:i=its.toArray.size:=by simp;lia
  subst hi
  refine W.done s _ _ ⟨st.1,st.2,p⟩ λh' tk kk=>⟨rfl,I.turns (fp:=[e,it]) hf kk⟩
 self:=λ_ _ _ _ _ st h=>let ⟨⟨_,he⟩,_⟩:=st;wpAny_pyIter_enum he h
end L2
namespace L2
open PySem PySem.Spec PyProof.Rows
section
variable {X:Cx}
noncomputable def yH (K:PySem.W.Frag) (ta:TA):TI:=λσ H R=>ta σ H λvs H1=>∃ a,vs=[.ref a]/\(∃ xs,SqL K H1 a xs)/\R (Ite λH xs=>SqL K H a xs) H1
theorem ur {elts:List Expr}{k:Nat}{tpos:Pos}{a:Expr}{ta:TA}{p pos:Pos} (hg:Gl X "enumerate") (hm:X.mg "enumerate" = none) (ha:PA X [a] ta) (hs:starEach [a] X.env=[(false,eval a X.env)]:=by rfl) :
  PI X (.Tuple elts k tpos) (.Call (.Name "enumerate" p) [a] [] pos) (yH X.K ta):=by
 intro pins s σ H R I h
 refine Call_ (iI I hg hm boot_enumerate (PyProof.Rows.callWith_type1 (thn (ha pos pins s σ H _ I h) λus s1 ⟨vs,H1,I1,r1,q1⟩=>?_) hs rfl))
 obtain⟨l,e,⟨xs,hq⟩,q⟩:=q1
 subst e
 cases r1 with
 | cons r rr=>
  cases rr
  cases r
  obtain⟨its,rv,p',hz⟩:=I1.list hq
  refine call_enumerate_list p'.isList λh' he hit hsz hk=>wpAny_pyIter_enum he ?_
  have hlt:l < s1.heap.objs.size:=by obtain⟨_,_,e,_⟩:=p';exact Heap.lt_size e
  refine⟨_,[s1.heap.objs.size+1,s1.heap.objs.size],_,_,H1,rfl,I1.kept (t':=s1.toks) hk,qo l s1.heap.objs.size (s1.heap.objs.size+1) (Nat.succ_ne_self _) (Nat.ne_of_lt (Nat.lt_succ_of_lt hlt)) (Nat.ne_of_lt hlt),⟨⟨_,he⟩,hit⟩,λb hb=>?_,q⟩
  have hb':s1.heap.objs.size<=b:=by
   rcases List.mem_cons.mp hb with e | hb
   ·rw [e];exact Nat.le_succ _
   ·rw [List.mem_singleton.mp hb];exact Nat.le_refl _
  exact I1.fpOk hb' (I1.hok.fresh hb')
noncomputable def yG (K:PySem.W.Frag) (ta:TA):TI:=λσ H R=>ta σ H λvs H1=>∃ a,vs=[.ref a]/\(∃ xs,SqT K H1 a xs)/\R (Ite λH xs=>SqT K H a xs) H1
theorem vw {elts:List Expr}{k:Nat}{tpos:Pos}{a:Expr}{ta:TA}{p pos:Pos} (hg:Gl X "enumerate") (hm:X.mg "enumerate" = none) (ha:PA X [a] ta) (hs:starEach [a] X.env=[(false,eval a X.env)]:=by rfl) :
  PI X (.Tuple elts k tpos) (.Call (.Name "enumerate" p) [a] [] pos) (yG X.K ta):=by
 intro pins s σ H R I h
 refine Call_ (iI I hg hm boot_enumerate (PyProof.Rows.callWith_type1 (thn (ha pos pins s σ H _ I h) λus s1 ⟨vs,H1,I1,r1,q1⟩=>?_) hs rfl))
 obtain⟨l,e,⟨xs,hq⟩,q⟩:=q1
 subst e
 cases r1 with
 | cons r rr=>
  cases rr
  cases r
  obtain⟨its,rv,p',hz⟩:=I1.tuple hq
  refine gG p' λh' he hit hsz hk=>wpAny_pyIter_enum he ?_
  have hlt:l < s1.heap.objs.size:=by obtain⟨_,e,_⟩:=p';exact Heap.lt_size e
  refine⟨_,[s1.heap.objs.size+1,s1.heap.objs.size],_,_,H1,rfl,I1.kept (t':=s1.toks) hk,qw l s1.heap.objs.size (s1.heap.objs.size+1) (Nat.succ_ne_self _) (Nat.ne_of_lt (Nat.lt_succ_of_lt hlt)) (Nat.ne_of_lt hlt),⟨⟨_,he⟩,hit⟩,λb hb=>?_,q⟩
  have hb':s1.heap.objs.size<=b:=by
   rcases List.mem_cons.mp hb with e | hb
   ·rw [e];exact Nat.le_succ _
   ·rw [List.mem_singleton.mp hb];exact Nat.le_refl _
  exact I1.fpOk hb' (I1.hok.fresh hb')
theorem pN {ns:List Int}:∀ {us:List Value},aK (ns.map V.int) us->∃ xs:Array (Int×Tok),us.toArray=intItems xs/\xs.toList.map (·.1)=ns:=by
 induction ns with
 | nil=>intro us r;cases r;exact⟨#[],by simp [intItems],rfl⟩
 | cons n ns ih=>
  intro us r
  rw [List.map_cons] at r
  cases r with
  | cons r rr=>
   obtain⟨t,rfl⟩:=r
   obtain⟨xs,e,e2⟩:=ih rr
   refine⟨#[(n,t)]++xs,?_,by simp [e2]⟩
   apply Array.toList_inj.mp
   have e':=congrArg Array.toList e
   simp [intItems] at e' ⊢
   exact e'
theorem uk:bR X (.builtin "sum") (λxs H Q=>X.calm=true/\∃ (a:Addr) (ns:List Int),xs=[.ref a]/\SqL X.K H a (ns.map V.int)/\Q (.int ns.sum) H):=by
 intro pins s σ H xs us Q I rv h
 obtain⟨hc,a,ns,rfl,hq,q⟩:=h
 cases rv with
 | cons r rr=>
  cases rr
  cases r
  obtain⟨its,rv,p,hz⟩:=I.list hq
  obtain⟨ps,e1,e2⟩:=pN rv
  have hl:=p.isList
  rw [e1] at hl
  refine sum_intListG (I.ok.hd hc) hl λh' tk t' hk=>?_
  refine⟨.int ns.sum,H,I.kept (t':=tk) hk,⟨t',?_⟩,q⟩
  rw [preSum_eq,List.take_of_length_le (by simp),e2]
theorem tP:bR X (.builtin "all") (λxs H Q=>X.calm=true/\∃ (a:Addr) (bs:List Bool),xs=[.ref a]/\SqL X.K H a (bs.map V.bl)/\Q (.bl (bs.all id)) H):=by
 intro pins s σ H xs us Q I rv h
 obtain⟨hc,a,bs,rfl,hq,q⟩:=h
 cases rv with
 | cons r rr=>
  cases rr
  cases r
  obtain⟨its,rv,p,hz⟩:=I.list hq
  have hlt:a < s.heap.objs.size:=by obtain⟨_,_,e,_⟩:=p;exact Heap.lt_size e
  have hlen:its.length=bs.length:=by have:=rv.length;simpa using this.symm
  refine call_all_walk (wpAny_pyIter_list p.isList ?_)
  refine⟨s.heap.objs.size,_,_,_,_,_,λi=>(bs[i]?).getD true,rfl,Walks.list (A:=X.A.in1) (I.ok.hd hc) s.heap.objs.size a (Nat.ne_of_lt hlt) its.toArray,⟨⟨_,Heap.get?_push_size _ rfl,rfl,rfl⟩,p.isList.push _⟩,?_,λh' tk hk=>?_⟩
  ·intro i v s' Q' E' hv hQ'
   have hv':its[i]?=some v:=by simpa using hv
   have hi:i < its.length:=(List.getElem?_eq_some_iff.mp hv').1
   obtain⟨b,hb⟩:∃ b,bs[i]?=some b:=⟨bs[i]'(by lia),by simp [show i < bs.length by lia]⟩
   have:(bs.map V.bl)[i]?=some (.bl b):=by rw [List.getElem?_map,hb];rfl
   obtain⟨u,hu,ru⟩:=rv.get this
   rw [hv'] at hu
   cases hu
   cases ru
   have hQ2:Q' ((bs[i]?).getD true) s':=hQ'
   rw [hb] at hQ2
   exact wpAny_truthy_bool hQ2
  ·refine⟨.bl (bs.all id),H,I.kept (t':=tk) (λb o e=>hk b o (λz=>absurd (Heap.lt_size e) (by rw [List.mem_singleton.mp z];exact Nat.lt_irrefl _)) (Heap.get?_push_of_some _ e)),?_,q⟩
   show Value.bool _=Value.bool _
   congr 1
   have:∀ n,n=bs.length->((List.range n).all λi=>(bs[i]?).getD true)=bs.all id:=by
    intro n hn
    rw [Bool.eq_iff_iff,List.all_eq_true,List.all_eq_true]
    constructor
    ·intro h b hb
     obtain⟨i,hi,e⟩:=List.mem_iff_getElem.mp hb
     have:=h i (List.mem_range.mpr (by lia))
     simp [hi,e] at this
     exact this
    ·intro h i hi
     have hi':=List.mem_range.mp hi
     have hlt':i < bs.length:=by lia
     simp [hlt']
     exact h _ (List.getElem_mem _)
   exact this _ (by simpa using hlen)
noncomputable def dX:V->PyData
 | .non=>.none
 | .bl b=>.bool b
 | .int i=>.int i
 | .str x=>.str x
 | _=>.none
noncomputable def nH (ys:List V):Str:=(PyData.tuple (ys.map dX)).shown
noncomputable def eH (y:V):Prop:=y=.non\/∃ i:Int,y=.int i/\0<=i/\i < 1024
theorem qi:bR X (.builtin "repr") (λxs H Q=>∃ i:Int,xs=[.int i]/\i.natAbs.log2 < 1920/\Q (.str (toString i)) H):=by
 intro pins s σ H xs us Q I rv h
 obtain⟨i,rfl,hi,q⟩:=h
 cases rv with
 | cons r rr=>
  cases rr
  obtain⟨t,rfl⟩:=r
  exact call_repr_gives (typeIs_int s i t) F.slot_int_repr F.entry_int_repr (F.args_int_repr_1 _) (gives_int_repr i t hi) ⟨.str _,H,I.tok _,⟨_,rfl⟩,q⟩ (hx:=int_text_fits hi)
theorem gr {h:Heap}:∀ {ys:List V}{us:List Value},aK ys us->(∀ y ∈ ys,eH y)->ReadsAll h us (ys.map dX) []
 | _,_,.nil,_=>.nil
 | _,_,.cons (a:=y) r rr,hp=>by
  have hr:=gr (h:=h) rr λz hz=>hp z (List.mem_cons_of_mem _ hz)
  rcases hp y List.mem_cons_self with e | ⟨i,e,_⟩
  ·subst e;cases r;exact .cons (as:=[]) (bs:=[]) .none hr
  ·subst e;obtain⟨t,rfl⟩:=r;exact .cons (as:=[]) (bs:=[]) (.int i t) hr
theorem sr {i:Int} (h0:0<=i) (h1:i < 1024):((toString i:String):Str).length<=10:=by
 obtain⟨n,rfl⟩:=Int.eq_ofNat_of_zero_le h0
 have hn:n < 2 ^ 10:=by have:(1024:Int)=((2 ^ 10:Nat):Int):=by decide
                        lia
 have e:(toString (n:Int))=Nat.repr n:=rfl
 have:=nat_repr_length_le (k:=10) (by decide) hn
 rw [e,PySem.ofString_length]
 exact this
theorem jS:∀ {ys:List V},(∀ y ∈ ys,eH y)->piled (PyData.shownAll (ys.map dX))<=12*ys.length
 | [],_=>by simp [PyData.shownAll,piled]
 | y::ys,hp=>by
  have ih:=jS (ys:=ys) λz hz=>hp z (List.mem_cons_of_mem _ hz)
  rw [List.map_cons,PyData.shownAll,piled_cons,List.length_cons]
  have:(dX y).shown.length<=10:=by
   rcases hp y List.mem_cons_self with e | ⟨i,e,h0,h1⟩
   ·subst e;decide
   ·subst e;exact sr h0 h1
  lia
theorem gP:∀ {ys:List V},(∀ y ∈ ys,eH y)->PyData.showableAll (ys.map dX)=true
 | [],_=>rfl
 | y::ys,hp=>by
  have ih:=gP (ys:=ys) λz hz=>hp z (List.mem_cons_of_mem _ hz)
  rw [List.map_cons,PyData.showableAll,ih,Bool.and_true]
  rcases hp y List.mem_cons_self with e | ⟨i,e,h0,h1⟩
  ·subst e;rfl
  ·subst e
   show decide (i.natAbs.log2 < 1920)=true
   refine decide_eq_true ?_
   have hn0:i.natAbs < 1024:=by lia
   have hn:i.natAbs < 2 ^ 1920:=Nat.lt_of_lt_of_le (show i.natAbs < 2 ^ 10 from hn0) (Nat.pow_le_pow_right (by decide) (by decide))
   by_cases hz:i.natAbs=0
   ·rw [hz];decide
   ·exact (Nat.log2_lt hz).mpr hn
theorem iU:∀ {ys:List V},(∀ y ∈ ys,eH y)->PyData.hasDictAll (ys.map dX)=false
 | [],_=>rfl
 | y::ys,hp=>by
  have ih:=iU (ys:=ys) λz hz=>hp z (List.mem_cons_of_mem _ hz)
  rw [List.map_cons,PyData.hasDictAll,ih,Bool.or_false]
  rcases hp y List.mem_cons_self with e | ⟨i,e,_⟩<;>subst e<;>rfl
theorem pB:∀ {ys:List V},(∀ y ∈ ys,eH y)->(PyData.tuple (ys.map dX)).depth<=2:=by
 intro ys hp
 have:∀ {ys:List V},(∀ y ∈ ys,eH y)->PyData.depthAll (ys.map dX)<=1:=by
  intro ys
  induction ys with
  | nil=>intro _;simp [PyData.depthAll]
  | cons y ys ih=>
   intro hp
   have:=ih λz hz=>hp z (List.mem_cons_of_mem _ hz)
   rw [List.map_cons,PyData.depthAll]
   have:(dX y).depth<=1:=by
    rcases hp y List.mem_cons_self with e | ⟨i,e,_⟩<;>subst e<;>simp [dX,PyData.depth]
   lia
 have:=this hp
 simp only [PyData.depth]
 lia
theorem pR (hg:X.A.guards=some []) (hu:X.A.units+64 < cLine):bR X (.builtin "repr") (λxs H Q=>∃ a ys,xs=[.ref a]/\SqT X.K H a ys/\(∀ y ∈ ys,eH y)/\ys.length<=1000/\Q (.str (nH ys)) H):=by
 intro pins s σ H xs us Q I rv h
 obtain⟨a,ys,rfl,hq,hp,hl,q⟩:=h
 cases rv with
 | cons r rr=>
  cases rr
  cases r
  obtain⟨its,rv,p,hz⟩:=I.tuple hq
  obtain⟨o,ho,hc,n,hd⟩:=p
  have rd:Reads s.heap (.ref a) (.tuple (ys.map dX)) []:=.tuple ho hc hd (by simpa using gr rv hp)
  refine repr_of_reads' rd (gP hp) (PyData.noDict_hsm (iU hp)) hg (by have:=pB hp;lia) (λ_ _ e=>e) (λh' u tk hk=>⟨.str _,H,I.kept (t':=tk) hk,⟨u,rfl⟩,q⟩) ?_
  show (tupleText (PyData.shownAll (ys.map dX))).length<=sizeLine
  have hs:=jS hp
  have hz2:(Str.join ", " (PyData.shownAll (ys.map dX))).length<=12*ys.length:=by
   cases e:PyData.shownAll (ys.map dX) with
   | nil=>exact Nat.zero_le _
   | cons x r=>
    have:=join_length_add (PyData.shownAll (ys.map dX)) (by rw [e];simp)
    rw [e] at this
    rw [e] at hs
    lia
  unfold tupleText
  rw [strLen_append,strLen_append]
  have h2:((if (PyData.shownAll (ys.map dX)).length==1 then ",)" else ")" : String):Str).length<=2:=by split<;>decide
  have h1:((("(" : String):Str)).length=1:=rfl
  have hsz:sizeLine=16777216:=rfl
  have h1':(("(" : Str)).length=1:=rfl
  lia
end
end L2
namespace L2
open PySem PySem.Spec PyProof.Rows
noncomputable def gg (k:Nat) (js:List Nat) (σ:St):St:=List.replicate k none++js.map λj=>(σ[j]?).getD none
noncomputable def AG (scope:Scope) (ns:List (Str×NameKind)) (N Nc:List Str) (k:Nat) (js:List Nat):Bool:=
 decide ((scope.names.map (·.1)).Nodup) && decide Nc.Nodup && decide (Nc.length=k+js.length) &&
 (scope.names.all λx=>x.2 != .free || ns.lookup x.1==some .cell || ns.lookup x.1==some .free) &&
 ((List.range js.length).all λi=>match Nc[k+i]?,js[i]? with | some x,some j=>N[j]?==some x && scope.names.lookup x==some .free | _,_=>false)
theorem cr {X:Cx}{scope:Scope} (ns:List (Str×NameKind)) (N Nc:List Str) (k:Nat) (js:List Nat) (hns:X.env.scope.names=ns) (hN:X.N=N) (hk:scope.kind=.function) (h:AG scope ns N Nc k js=true):eU X scope Nc (gg k js):=by
 unfold AG at h
 simp only [Bool.and_eq_true,decide_eq_true_eq] at h
 obtain⟨⟨⟨⟨h1,h2⟩,h3⟩,h4⟩,h5⟩:=h
 refine⟨hk,h1,h2,λx hx hf=>?_,λσ _=>?_,λσ _ i x v e1 e2=>?_⟩
 ·have:=List.all_eq_true.mp h4 x hx
  rw [hf] at this
  simp only [Bool.or_eq_true,beq_iff_eq,bne_self_eq_false,Bool.false_eq_true,false_or] at this
  unfold Env.kindOf
  rw [hns]
  exact this
 ·unfold gg
  rw [List.length_append,List.length_replicate,List.length_map,h3]
 ·unfold gg at e2
  by_cases hi:i < k
  ·rw [List.getElem?_append_left (by simpa using hi),List.getElem?_replicate,if_pos hi] at e2
   cases e2
  ·rw [List.getElem?_append_right (by simpa using hi),List.length_replicate,List.getElem?_map] at e2
   cases ej:js[i - k]? with
   | none=>rw [ej] at e2;cases e2
   | some j=>
    rw [ej] at e2
    have hlt:=(List.getElem?_eq_some_iff.mp ej).1
    have:=List.all_eq_true.mp h5 (i - k) (List.mem_range.mpr hlt)
    rw [show k+(i - k)=i by lia,e1,ej] at this
    simp only [Bool.and_eq_true,beq_iff_eq] at this
    refine⟨j,by rw [hN];exact this.1,?_,this.2⟩
    have e3:(σ[j]?).getD none=some v:=Option.some.inj e2
    cases eq:σ[j]? with
    | none=>rw [eq] at e3;cases e3
    | some o=>rw [eq] at e3;rw [show o=some v from e3]
noncomputable def Aj (names ns:List (Str×NameKind)):List (Str×NameKind):=names.map λx=>if (x.2==NameKind.free && ns.lookup x.1==some .cell) then (x.1,.cell) else x
theorem vW {X:Cx}{scope:Scope}{cells:List (Str×Addr)}{Nc:List Str}{s:Shared}{H:Hp}{C:Addr}{fp:List Addr}{ns:List (Str×NameKind)} (hk:X.env.scope.kind=.function) (hns:X.env.scope.names=ns) :
  (lcX X scope cells Nc s H C fp).env.scope.names=Aj scope.names ns:=by
 show (scope.names.map _)=_
 unfold Aj
 congr 1
 funext x
 obtain⟨n,k⟩:=x
 show (if (k==.free && X.env.scope.kind==.function && X.env.kindOf n==some .cell)=true then (n,NameKind.cell) else (n,k))=(if (k==.free && ns.lookup n==some .cell)=true then (n,NameKind.cell) else (n,k))
 unfold Env.kindOf
 rw [hk,hns,show (ScopeKind.function==ScopeKind.function)=true from rfl,Bool.and_true]
section
variable {σe tl:St}{tt:TT}{te:TE}{H:Hp}{Q:VK}
end
section
variable {X:Cx}
theorem xl:OpR X (binaryOp .Mult) (rI IntMulOk λi j=>.int (i*j)):=opI λ_ _ _ _ _ _ _ hc q=>mul_int q hc
end
theorem bp.new {H:Hp}{p:Addr} (h:H p=none) (o:HO):bp H (upd H p o):=λb u q=>by rw [aF (aG q h)];exact q
end L2
namespace L2
open PySem PySem.Spec PyProof.Rows
theorem rY {X:Cx} (hg:X.A.guards=some []) (hu:X.A.units+64 < cLine):bR X (.builtin "repr") (λxs H Q=>(∃ i:Int,xs=[.int i]/\i.natAbs.log2 < 1920/\Q (.str (toString i)) H)\/
  (∃ a ys,xs=[.ref a]/\SqT X.K H a ys/\(∀ y ∈ ys,eH y)/\ys.length<=1000/\Q (.str (nH ys)) H)):=bR.or qi (pR hg hu)
theorem ki {n:Nat} (h:n<=1000):n<=sizeLine:=Nat.le_of_lt (rX h)
end L2
namespace L2
open PySem PySem.Spec PyProof.Rows
theorem p18:oQ 10 18:=⟨by decide,by decide,by decide⟩
end L2
namespace L2
open PySem PySem.Spec PyProof.Rows
open PySem.AutoSeq1 (wpAny_loadPart')
theorem t9 (l:Addr) (items:Array Value) (n:Nat) (dct:Option Addr) (sl:Array (Option Value)) (u:Tok) :
  Meets (Builtin.«tuple.__mul__» ⟨[.ref l,.int 1 u],[]⟩) (λ_ R s=>s.heap.get? l=some { cls:=.type "tuple",dict:=dct,data:=.seq items n,slots:=sl }/\R (.ok (.ret (.ref l))) s):=
 .of_wp λprog w A R s h=>by
  obtain⟨hp,g,d,tk,os⟩:=s;obtain⟨hl,h⟩:=h
  wp_walk using wpAny_loadPart' hl
  exact⟨_,rfl,h⟩
theorem se (l:Addr) (items:Array Value) (n:Nat) (dct:Option Addr) (sl:Array (Option Value)) (x:Int) (u:Tok) (h2:2<=x) (h3:x < 1000) (he:items.isEmpty=false) (hz:items.size<=1000)
  (hsz:((List.replicate x.toNat items).foldl (λx1 x2=>x1++x2) #[]).size<=sizeLine) :
  Meets (Builtin.«tuple.__mul__» ⟨[.ref l,.int x u],[]⟩) (λ_ R s=>s.heap.get? l=some { cls:=.type "tuple",dict:=dct,data:=.seq items n,slots:=sl }/\
   R (.ok (.ret (.ref s.heap.objs.size))) { s with heap:=s.heap.push { cls:=.type "tuple",data:=.seq ((List.replicate x.toNat items).foldl (λx1 x2=>x1++x2) #[]) } }):=
 .of_wp λprog w A R s h=>by
  obtain⟨hp,g,d,tk,os⟩:=s;obtain⟨hl,h⟩:=h
  have c1:(x < -(2 ^ 63) || x>=2 ^ 63)=false:=by simp;lia
  have c2:(items.isEmpty || x==1)=false:=by rw [he];simp;lia
  have c3:(x<=0 || items.isEmpty)=false:=by rw [he];simp;lia
  have hpr:(items.size:Int)*x<=1000000:=by
   have a1:(items.size:Int)*x<=1000*x:=Int.mul_le_mul_of_nonneg_right (by lia) (by lia)
   lia
  have c4:¬ ((items.size:Int)*x > (2 ^ 63 - 1) / 8):=by lia
  have c5:Builtin.Tuple.tupleTooMany ((items.size:Int)*x)=false:=by
   unfold Builtin.Tuple.tupleTooMany
   exact decide_eq_false (by have:(sizeLine:Nat)=16777216:=rfl
                             lia)
  wp_walk using wpAny_loadPart' hl
  refine wpAny_ite_false (decide_eq_false (by rw [c1];exact Bool.false_ne_true)) ?_
  wp_walk using wpAny_loadPart' hl
  refine wpAny_ite_false (decide_eq_false (by rw [c2];exact Bool.false_ne_true)) ?_
  wp_walk using wpAny_loadPart' hl
  refine wpAny_ite_false (decide_eq_false (by rw [c3];exact Bool.false_ne_true)) ?_
  wp_walk using wpAny_loadPart' hl
  refine wpAny_ite_false (decide_eq_false c4) ?_
  wp_walk using wpAny_loadPart' hl
  exact⟨_,rfl,h⟩
theorem jx:fillsNumberSlot (.type "tuple") "mul" = pure false:=
 PySem.fillsNumberSlot_seq (id:="tuple.__mul__") (r:=some (.builtin "tuple.__rmul__")) F.slot_tuple_mul.lookup (by decide +kernel) F.slot_tuple_rmul.lookup (by decide +kernel)
theorem mO:seqRepeat? (.type "tuple")=pure (some (.builtin "tuple.__mul__")):=by
 unfold seqRepeat?
 rw [PySem.seqSlot_of (T:="tuple") (name:="__mul__") (id:="tuple.__mul__") F.slot_tuple_mul.lookup (by decide +kernel),PySem.seqSlot_of (T:="tuple") (name:="__rmul__") (id:="tuple.__rmul__") F.slot_tuple_rmul.lookup (by decide +kernel)]
 rfl
theorem kv (a:Int) (t:Tok) (l:Addr) (items:Array Value) (n:Nat) (dct:Option Addr) (sl:Array (Option Value)) :
  Meets (Builtin.«int.__rmul__» ⟨[.int a t,.ref l],[]⟩) (λ_ R s=>s.heap.get? l=some { cls:=.type "tuple",dict:=dct,data:=.seq items n,slots:=sl }/\R (.ok (.ret Value.notImplemented)) s):=
 .of_wp λprog w A R s h=>by obtain⟨hp,g,d,tk,os⟩:=s;obtain⟨hl,h⟩:=h;wp_walk using wpAny_loadPart' hl;exact⟨_,rfl,h⟩
section
variable {X:Cx}
noncomputable def zW (K:PySem.W.Frag):R2:=λx y H Q=>∃ l k xs,x=.ref l/\y=.int k/\SqT K H l xs/\xs≠[]/\xs.length<=1000/\1<=k/\k < 1000/\(k=1->Q (.ref l) H)/\
 (k≠1->∀ p,H p=none->Q (.ref p) (upd H p (.tup (List.replicate k.toNat xs).flatten)))
theorem vV:OpR X (binaryOp .Mult) (zW X.K):=by
 intro pins s σ H x y v u Q I rx ry h
 obtain⟨l,k,xs,rfl,rfl,hq,hne,hl1,h1,h2,q1,q2⟩:=h
 cases rx
 obtain⟨t,rfl⟩:=ry
 obtain⟨its,rv,p,hz⟩:=I.tuple hq
 obtain⟨⟨c,dct,dt,sl⟩,e,hc,n,hd⟩:=p
 replace hc:c=.type "tuple":=hc
 replace hd:dt=.seq its.toArray n:=hd
 subst hc hd
 have hlen:=rv.length
 refine wpAny_binaryOp_repeat_ref (T:="tuple") (U:="int") (by decide) ⟨_,e,rfl⟩ (λs'=>typeIs_int s' k t) jx F.fills_int_mul F.slot_int_rmul mO F.slot_int_index.lookup
  (call_meets F.slot_int_rmul (typeIs_int s k t) F.entry_int_rmul (F.args_int_rmul_2 _ _) (kv k t l its.toArray n dct sl) ⟨e,rfl,⟨_,e,rfl⟩,?_⟩)
 by_cases hk:k=1
 ·subst hk
  exact call_meets F.slot_tuple_mul ⟨_,e,rfl⟩ F.entry_tuple_mul (F.args_tuple_mul_2 _ _) (t9 l its.toArray n dct sl t) ⟨e,.ref l,H,I,rfl,q1 rfl⟩
 ·have f0:List.foldl (λx1 x2=>x1++x2) #[] (List.replicate k.toNat its.toArray)=(List.replicate k.toNat its).flatten.toArray:=by
   have:=jy its k.toNat []
   rw [List.nil_append] at this
   exact this
  have hsz:(List.replicate k.toNat xs).flatten.length<=sizeLine:=by
   rw [nC]
   have:k.toNat*xs.length<=1000*1000:=Nat.mul_le_mul (by lia) hl1
   have hs:sizeLine=16777216:=rfl
   lia
  have hsz2:(List.replicate k.toNat its).flatten.length<=sizeLine:=by
   rw [nC] at hsz ⊢
   rw [<-hlen];exact hsz
  refine call_meets F.slot_tuple_mul ⟨_,e,rfl⟩ F.entry_tuple_mul (F.args_tuple_mul_2 _ _) (se l its.toArray n dct sl k t (by lia) h2 ?_ (by rw [List.size_toArray];lia) (by rw [f0,List.size_toArray];exact hsz2)) ⟨e,?_⟩
  ·cases its with
   | nil=>cases xs with
    | nil=>exact absurd rfl hne
    | cons _ _=>cases hlen
   | cons _ _=>rfl
  ·rw [f0]
   refine⟨.ref _,_,I.laid (t':=s.toks) (o:=.tup (List.replicate k.toNat xs).flatten) (λ_ _ q=>Heap.get?_push_of_some _ q) (Nat.le_refl _) ⟨hsz,(List.replicate k.toNat its).flatten,rv.rep k.toNat,⟨_,Heap.get?_push_size _ rfl,rfl,⟨0,rfl⟩,rfl⟩⟩,rfl,q2 hk _ I.fresh⟩
end
end L2
namespace L2
open PySem PySem.Spec PyProof.Rows
end L2
namespace L2
open PySem PySem.Spec PyProof.Rows
section
variable {X:Cx}{K:PySem.W.Frag}
theorem zI (hc:X.calm=true:=by rfl) (hK:X.K=K:=by rfl):bR X (.builtin "sum") (λxs H Q=>∃ (a:Addr) (ns:List Int),xs=[.ref a]/\SqL K H a (ns.map V.int)/\Q (.int ns.sum) H):=by
 subst hK
 intro pins s σ H xs us Q I rv h
 exact uk pins s σ H xs us Q I rv ⟨hc,h⟩
theorem Ag (hc:X.calm=true:=by rfl) (hK:X.K=K:=by rfl):bR X (.builtin "all") (λxs H Q=>∃ (a:Addr) (bs:List Bool),xs=[.ref a]/\SqL K H a (bs.map V.bl)/\Q (.bl (bs.all id)) H):=by
 subst hK
 intro pins s σ H xs us Q I rv h
 exact tP pins s σ H xs us Q I rv ⟨hc,h⟩
theorem uC {k:Nat} (hr:bn k X.A) (hK:X.K=K:=by rfl):bR X (.builtin "repr") (λxs H Q=>(∃ i:Int,xs=[.int i]/\i.natAbs.log2 < 1920/\Q (.str (toString i)) H)\/
  (∃ a ys,xs=[.ref a]/\SqT K H a ys/\(∀ y ∈ ys,eH y)/\ys.length<=1000/\Q (.str (nH ys)) H)):=by subst hK;exact rY hr.gd hr.units
end
end L2
namespace L2
open PySem PySem.Spec PyProof.Rows
section
variable {X:Cx}
end
end L2
namespace L2
open PySem PySem.Spec PyProof.Rows
theorem mH {n j:Nat} (h:j < n):ixN n (j:Int)=some j:=by
 unfold ixN
 rw [if_pos (by lia),if_pos (by lia),Int.toNat_natCast]
end L2
namespace L2
open PySem PySem.Spec PyProof.Rows
section
variable {X:Cx}{e:Expr}{ty:TE}{p1 p2 p3 p4 dpos apos cpos:Pos}{j1 j2 j3 j4:Nat}
end
end L2
namespace L2
open PySem PySem.Spec PyProof.Rows
end L2
namespace L2
open PySem PySem.Spec PyProof.Rows
open PySem.AutoSeq1 (wpAny_loadPart')
section
variable {prog:Program}{w:World}{A:Around}{E:Value->Shared->Prop}{s:Shared}
end
section
variable {X:Cx}
end
section
variable {prog:Program}{w:World}{A:Around}{E:Value->Shared->Prop}{s:Shared}
end
section
variable {X:Cx}{e:Expr}{te:TE}{p1 p2 p3 pos:Pos}{j:Nat}
end
end L2
namespace L2
open PySem PySem.Spec PyProof.Rows
end L2
namespace L2
open PySem PySem.Spec PyProof.Rows
theorem aK.at {xs:List V}{us:List Value} (r:aK xs us):∀ (j:Nat) (h:j < us.length) ,∃ h':j < xs.length,aX xs[j] us[j]:=by
 induction r with
 | nil=>intro j h;exact absurd h (Nat.not_lt_zero j)
 | cons a t ih=>
  intro j h
  cases j with
  | zero=>exact⟨Nat.zero_lt_succ _,a⟩
  | succ j=>
   obtain⟨h1,r1⟩:=ih j (Nat.lt_of_succ_lt_succ h)
   exact⟨Nat.succ_lt_succ h1,r1⟩
theorem ly (e:Nat->Bool) (n:Nat):(List.range (n+1)).all e=(e 0 && (List.range n).all λj=>e (j+1)):=by
 rw [List.range_succ_eq_map,List.all_cons,List.all_map];rfl
section
variable {X:Cx}{K:PySem.W.Frag}{pins:List (Addr×Obj)}{σ:St}{H:Hp}{s:Shared}{A:Around}{a b:Addr}{xs ys:List V}
end
end L2
namespace L2
open PySem PySem.Spec PyProof.Rows
section
variable {X:Cx}{pos p1 p2:Pos}{j1 j2:Nat}
end
section
variable {K:PySem.W.Frag}{H:Hp}
end
section
variable {X:Cx}{K:PySem.W.Frag}
end
end L2
namespace HT
open PySem PySem.Spec PyProof.Rows L2
section
variable {prog:Program}{w:World}{A:Around}{E:Value->Shared->Prop}{s:Shared}
theorem getItem_tuple_all {t sl:Addr}{items:Array Value}{vl vu:Value}{lo hi:Option Int}{Q:Value->Shared->Prop} (ht:IsTup s.heap t items) (hs:s.heap.IsSliceOf sl vl vu .none) (pl:IsPart vl lo) (pu:IsPart vu hi)
  (hw:sIx items.size 0 lo=0/\sIx items.size items.size hi=items.size) (h:Q (.ref t) s):wpAny (model prog w) A (getItem (.ref t) (.ref sl)) Q E s:=by
 obtain⟨os,hos,hcs,hds⟩:=id hs
 have hTs:s.TypeIs (.ref sl) "slice":=⟨os,hos,hcs⟩
 unfold getItem
 try with_reducible refine wpAny_holding ?_
 first | refine wpAny_bind (wpAny_pure ?_) | skip
 refine wpAny_bind (wpAny_sequenceKey ht.typeIs (by decide) ?_)
 refine wpAny_bind (wpAny_callSpecial?_slot (name:=Str.ofString "__getitem__") ht.typeIs PyProof.Rows.slot_tuple_getitem
  (wpAny_call_entry PyProof.Rows.slot_tuple_getitem ht.typeIs entry_tuple_getitem ?_ (args_tuple_getitem _ _)))
 show wpAny _ _ (Builtin.Tuple.tupleItemsOf (.ref t) >>= _) _ _ s
 refine wpAny_bind (tupleItemsOf_ ht ?_)
 refine wpAny_bind (wpAny_typeOf hTs ?_)
 rw [if_pos (by decide)]
 refine wpAny_bind (fA hs pl pu ?_)
 have hyes:(((sIx items.size 0 lo:Nat):Int)==0 && (1:Int)==1 && (sIx items.size items.size hi - sIx items.size 0 lo)==items.size)=true:=by
  rw [hw.1,hw.2]
  simp
 show wpAny _ _ (if (((sIx items.size 0 lo:Nat):Int)==0 && (1:Int)==1 && (sIx items.size items.size hi - sIx items.size 0 lo)==items.size)=true then _ else _) _ _ s
 rw [if_pos hyes]
 unfold Builtin.Tuple.tupleIsExact
 refine wpAny_bind (wpAny_bind (wpAny_typeOf ht.typeIs (wpAny_pure ?_)))
 show wpAny _ _ (if ((Value.type "tuple")==(Value.type "tuple"))=true then _ else _) _ _ s
 rw [if_pos (beq_self_eq_true _)]
 first
  | exact wpAny_bind (wpAny_rule (wpAny_pure ⟨_,rfl,wpAny_pure h⟩))
  | exact wpAny_bind (wpAny_bind (wpAny_rule (wpAny_pure (wpAny_pure ⟨_,rfl,wpAny_pure h⟩))))
  | exact wpAny_bind (wpAny_rule (wpAny_bind (wpAny_pure (wpAny_pure ⟨_,rfl,wpAny_pure h⟩))))
  | exact wpAny_bind (wpAny_rule (wpAny_bind (wpAny_pure ⟨_,rfl,wpAny_pure h⟩)))
end
end HT
namespace L2
open PySem PySem.Spec PyProof.Rows
noncomputable def zP (K:PySem.W.Frag):V->Option Int->Option Int->Hp->VK->Prop:=λx lo hi H Q=>∃ a xs,x=.ref a/\SqT K H a xs/\
 ((¬ (HT.sIx xs.length 0 lo=0/\HT.sIx xs.length xs.length hi=xs.length)/\∀ p,H p=none->Q (.ref p) (upd H p (.tup (mK xs lo hi))))\/
   ((HT.sIx xs.length 0 lo=0/\HT.sIx xs.length xs.length hi=xs.length)/\Q (.ref a) H))
theorem zD {X:Cx}{K:PySem.W.Frag} (hK:X.K=K:=by rfl):SlR X (zP K):=by
 subst hK
 intro pins s σ H x v vl vu lo hi sl Q I rx hs pl pu h
 obtain⟨a,xs,rfl,hx,h⟩:=h
 rcases h with⟨hw,q⟩ | ⟨hw,q⟩
 ·exact yc pins s σ H _ v vl vu lo hi sl Q I rx hs pl pu ⟨a,xs,rfl,hx,hw,q⟩
 ·cases rx
  obtain⟨its,r,ht,hz⟩:=I.tuple hx
  have hlen:its.toArray.size=xs.length:=by rw [List.size_toArray];exact r.length.symm
  refine⟨"tuple",_,PyProof.Rows.slot_tuple_getitem.lookup,ht.typeIs,?_⟩
  exact HT.getItem_tuple_all ht hs pl pu (by rw [hlen];exact hw) ⟨.ref a,H,I,rfl,q⟩
end L2
namespace L2
open PySem PySem.Spec PyProof.Rows
section
variable {X:Cx}{scope:Scope}{Nc:List Str}{emb:St->St}{elt iter tg:Expr}{ifs:List Expr}{pos:Pos}{wi:TI}{g:TG}{tt:TT}{te:TE}
theorem z0 {i0:Nat}{x0:Str}{py spos:Pos} (hN0:X.N.Nodup) (hi0:X.N[i0]?=some x0) (hx0:Loc X.env.scope x0) (S:eU X scope Nc emb) (hc:X.calm=true) (hi:PI X tg iter wi)
  (hg:∀ cells s H C fp,PG (lcX X scope cells Nc s H C fp) tg g) (ht:∀ cells s H C fp,PTs (lcX X scope cells Nc s H C fp) ifs tt) (he:∀ cells s H C fp,PE (lcX X scope cells Nc s H C fp) elt te)
  (hsw:swapsWith (.ListComp elt [⟨tg,iter,ifs,0⟩] scope pos) (some (.Name x0 py)) spos.line X.env=pure true:=by rfl)
  (hf0:X.fn x0=true\/X.env.scope.names.lookup x0=some .local:=by first | exact .inl rfl | exact .inr rfl | assumption)
  (hs:∀ x,foldedSetIterable iter X.env x=pure x:=by intro _;rfl):PS X (.Assign [.Name x0 py] (.ListComp elt [⟨tg,iter,ifs,0⟩] scope pos) spos) (zm (tLc emb wi g tt te) (oo i0)):=by
 intro pins s σ H DD I h
 rw [exec_Assign_Name_used _ _ _ _ hsw]
 refine wpAny_bind (wpAny_standAt (wpAny_bind ?_))
 show wpAny _ X.A (do let _ <-comprehension (.ListComp elt [⟨tg,iter,ifs,0⟩] scope pos) scope X.env _ (newList []) false (eval iter X.env) (some (assign (.Name x0 py) X.env))) _ _ s
 refine wpAny_bind (wpAny_mono (wpAny_comprehension_free (use:=some (assign (.Name x0 py) X.env)) (Q:=λ_ s'=>SP X pins DD .next s') rfl hs (iy (S.clos I.ok)) S.kind (λx hx hl=>d0 S.nd (by rw [<-hl];exact hx)) ?_) (λ_ s' hq=>wpAny_pure (wpAny_pure hq)) λ_ _ e=>e)
 refine thn (hi pins s σ H _ I h) λv s1 h1=>thn h1 λitv s2 h2=>?_
 obtain⟨it,fp,tn,J,H2,e,I2,T,st2,f2,W,⟨m0,w0⟩,turn⟩:=h2
 subst e
 refine wpAny_newObj_type (jf ?_)
 rw [show (s2.heap.push { cls:=.type "list",dict:=none,data:=.seq ([]:List Value).toArray }).objs.size=s2.heap.objs.size+1 from Heap.size_push ..]
 generalize hD:s2.heap.objs.size=D
 generalize hlo:({ cls:=.type "list",dict:=none,data:=.seq ([]:List Value).toArray }:Obj)=lo
 have fplt:∀ b ∈ fp,b < s2.heap.objs.size:=λb hb=>by obtain⟨o,e,_⟩:=T.obj _ _ st2 b hb;exact Heap.lt_size e
 have I3:=o9 (lo:=lo) S I2 f2 (λb hb=>by obtain⟨o,e,_⟩:=T.obj _ _ st2 b hb;exact⟨o,e⟩) (by rw [<-hlo];intro v z;cases z) (by rw [<-hlo];rfl)
 rw [hD] at I3
 generalize hcells:cellsFrom (D+2) scope.names (bW X.env.cells scope.names [])=cells at I3
 generalize hX':lcX X scope cells Nc s2 H2 (D+1) fp=X' at I3
 have hfpX:∀ {H':Hp}{ps:List (Addr×Obj)},(∀ b ∈ fp,H' b=none)->(∀ p ∈ ps,p.1=D)->∀ b ∈ fp,ic X' ps H' b:=λ{H' ps} hn hps b hb=>by
  have ok:=I3.ok
  refine⟨hn b hb,?_,?_,.inl (by rw [<-hX'];exact hb),?_,λp hp=>?_⟩
  ·exact (ok.exf b (by rw [<-hX'];exact hb)).1
  ·exact ok.exfs b (by rw [<-hX'];exact hb)
  ·exact (ok.exf b (by rw [<-hX'];exact hb)).2
  ·have hp':p ∈ ([]:List (Addr×Obj))++ps:=by rw [<-hX'] at hp;exact hp
   have e:p.1=D:=hps p (by simpa using hp')
   rw [e,<-hD]
   exact Nat.ne_of_gt (fplt b hb)
 have Dex:D ∈ X'.ex\/X'.s₀.heap.objs.size<=D:=.inr (by rw [<-hX',<-hD];exact Nat.le_refl _)
 have Dloc:D≠X'.env.locals:=by rw [<-hX'];exact Nat.ne_of_lt (Nat.lt_succ_self _)
 have pD:=I3.pin (D,lo) (by rw [<-hX'];exact List.mem_append_right _ List.mem_cons_self)
 have Dfs:D ∉ X'.fs:=pD.2.2.2.1
 have Dcell:∀ x c,X'.env.cells.lookup x=some c->c≠D:=λx c hc' e=>by
  obtain⟨v,o,ho,hd⟩:=I3.cell x c hc'
  rw [e,pD.1] at ho
  cases ho
  exact pD.2.2.2.2 v hd
 -- the loop
 have loop:∀ s3:Shared,s3={ s2 with heap:=pushCells ((s2.heap.push lo).push { cls:=.type "dict",data:=.dict #[] }) scope.names }->
   codeAny (model X.prog X.w) X.A (.compLoop (.ListComp elt [⟨tg,iter,ifs,0⟩] scope pos) 0 (.ref it) (.ref D) (compEnvC scope cells (D+1) X.env))
    (compPost (model X.prog X.w) X.A X.xe (some (assign (.Name x0 py) X.env)) (λ_ s'=>SP X pins DD .next s') (.ref D) (D+1)) s3:=by
  rintro s3 rfl
  refine dL (λn s'=>∃ i ys its k H',Inv X' [(D,{ cls:=.type "list",data:=.seq its.toArray k })] (emb σ) H' s'/\aK ys its/\tn i s'.heap/\(∀ b ∈ fp,H' b=none)/\ys.length<=sizeLine/\W i n ys H') ?_ m0
   ⟨0,[],[],0,H2,?_,.nil,?_,λb hb=>(f2 b hb).1,Nat.zero_le _,w0⟩
  ·rintro n s4 ⟨i,ys,its,k,H4,I4,rv,st4,fr4,hlen,w4⟩
   have hps:∀ p ∈ [(D,({ cls:=.type "list",data:=.seq its.toArray k }:Obj))],p.1=D:=λp hp=>by
    have:=List.mem_singleton.mp hp
    rw [this]
   rcases turn i n ys H4 w4 with⟨stop,qn⟩ | ⟨go,hlt,N,hN,step⟩
   ·-- the end
    have TD:=T.done X' (by rw [<-hX'];rfl) (by rw [<-hX'];rfl) (by rw [<-hX'];rfl) (by rw [<-hX'];exact hc) i _ s4 (emb σ) H4 (λ_ _=>False) I4 (hfpX fr4 hps) st4 stop
    rw [show X'.A=X.A by rw [<-hX'];rfl] at TD
    refine thn TD λr s5 ⟨hr,I5⟩=>?_
    subst hr
    obtain⟨m5,hn5,_⟩:=id I5.loc
    have eC:X'.env.locals=D+1:=by rw [<-hX'];rfl
    rw [eC] at hn5
    suffices inv5:∀ h',Heap.SameBut (D+1) s5.heap h'->Inv X pins σ (upd H4 D (.lst ys)) { s5 with heap:=h' } by
     have I5X:Inv X pins σ (upd H4 D (.lst ys)) s5:=inv5 s5.heap ⟨rfl,λ_ _=>rfl⟩
     have hD4':H4 D=none:=(I5.pin (D,{ cls:=.type "list",data:=.seq its.toArray k }) (by rw [<-hX'];exact List.mem_append_right _ List.mem_cons_self)).2.1
     have hC4:upd H4 D (.lst ys) (D+1)=none:=by
      have:=I5.free
      rw [eC] at this
      rw [aF (Nat.ne_of_gt (Nat.lt_succ_self D))]
      exact this
     have fpC:∀ b ∈ [D+1],ic X pins (upd H4 D (.lst ys)) b:=λb hb=>by
      have e:=List.mem_singleton.mp hb
      subst e
      exact I2.fpOk (by rw [hD];exact Nat.le_succ D) hC4
     obtain⟨oC,esC,epC,getC,datC,relC⟩:=id hn5
     have I5p:=I5X.pinned fpC λb hb=>by
      have e:=List.mem_singleton.mp hb
      subst e
      exact⟨oC,getC,λv z=>by rw [datC] at z;cases z⟩
     refine wpAny_assign_Name (fv I5p hN0 hi0 hx0 (v:=.ref D) rfl (λs6 I6=>?_) hf0)
     have pC:=(I6.pin (D+1,oC) (List.mem_append_right _ (List.mem_append_right _ (cT List.mem_cons_self getC)))).1
     refine⟨m5,⟨oC,esC,epC,pC,datC,relC⟩,λh' hsb=>?_⟩
     have I6u:=I6.unpinned
     exact⟨_,_,I6u.turns (t':=s6.toks) fpC (λb o hb e=>(hsb.2 b (λz=>hb (by rw [z];exact List.mem_cons_self))).trans e),qn D hD4'⟩
    intro h' hsb
    have pD5:=I5.pin (D,{ cls:=.type "list",data:=.seq its.toArray k }) (by rw [<-hX'];exact List.mem_append_right _ List.mem_cons_self)
    have neC:∀ b u,H4 b=some u->b≠D+1:=λb u e z=>by
     have:=I5.free
     rw [eC,<-z,e] at this
     cases this
    have hD4:H4 D=none:=pD5.2.1
    have un:=I5.base
    have un':Un (frs X.stack) fp H2 H4 s2.heap s5.heap:=by rw [<-hX'] at un;exact un
    have old_ne:∀ b o,s2.heap.get? b=some o->b≠D/\b≠D+1:=λb o e=>by
     have q:=Heap.lt_size e
     rw [hD] at q
     exact⟨Nat.ne_of_lt q,Nat.ne_of_lt (Nat.lt_succ_of_lt q)⟩
    have h2D:H2 D=none:=by rw [<-hD];exact I2.fresh
    have hok':HOk X.prog X.w H4 h':=λb u e=>by
     have ob:cv X.prog X.w H4 s5.heap b u:=by have:=I5.hok b u e;rw [<-hX'] at this;exact this
     refine ob.stay (λc v hcv q=>(hsb.2 c ?_).trans q) (λ_ q=>q) λ_ _ q=>q
     rcases hcv with z | z
     ·rw [z];exact neC b u e
     ·exact neC c _ z
    have hokD:HOk X.prog X.w (upd H4 D (.lst ys)) h':=λb u e=>by
     by_cases hb:b=D
     ·subst hb
      rw [aW] at e
      cases e
      exact⟨hlen,its,k,rv,(hsb.2 b (Nat.ne_of_lt (Nat.lt_succ_self _))).trans pD5.1⟩
     ·rw [aF hb] at e
      refine (hok' b u e).stay (λ_ _ _ q=>q) (λc q=>?_) λc z q=>?_
      all_goals first
       | (rw [aF (aG q hD4)];exact q)
       | (rw [aF (aG z hD4)];exact z)
    refine I2.call' (s':={ s5 with heap:=h' }) (ch:=fp) ?_ ⟨λb o e nb hb hx=>?_,λb o e nb hb hx=>?_,λb o e nb hx=>?_,λb o e hx=>?_,λb xs e=>?_,λb o u e=>?_,λb ps e=>?_⟩ hokD I5.bare (λb hb=>?_)
    ·have:=I5.os
     rw [<-hX'] at this
     exact this
    ·exact (hsb.2 b (old_ne b o e).2).trans (un'.keep b o e nb hb hx)
    ·obtain⟨sl,q⟩:=un'.slot b o e nb hb hx
     exact⟨sl,(hsb.2 b (old_ne b o e).2).trans q⟩
    ·rw [aF (old_ne b o e).1]
     exact un'.free b o e nb hx
    ·obtain⟨o',q⟩:=un'.there b o e hx
     exact⟨o',(hsb.2 b (old_ne b o e).2).trans q⟩
    ·rw [aF (aG e h2D)]
     exact un'.tups b xs e
    ·rw [aF (aG e h2D)]
     exact un'.frzs b o u e
    ·obtain⟨m,q⟩:=un'.tbls b ps e
     exact⟨m,by rw [aF (aG e h2D)];exact q⟩
    ·obtain⟨q0,q1,q2,q3,q4,q5⟩:=f2 b hb
     exact⟨q3,q1,q4,q5⟩
   ·-- a turn
    have hA:X'.A=X.A:=by rw [<-hX'];rfl
    have hP:X'.prog=X.prog:=by rw [<-hX'];rfl
    have hw:X'.w=X.w:=by rw [<-hX'];rfl
    have hE:X'.env=compEnvC scope cells (D+1) X.env:=by rw [<-hX'];rfl
    have hxe:X'.xe=λ_ _=>False:=by rw [<-hX'];rfl
    have TI':=T.item X' hP hw (by rw [<-hX'];rfl) (by rw [<-hX'];exact hc) i _ s4 (emb σ) H4 (λ_ _=>False) I4 (hfpX fr4 hps) st4 go
    rw [hA] at TI'
    refine thn TI' λr s5 ⟨u,hr,h5⟩=>?_
    subst hr
    refine thn h5 λ_ s6 ⟨x,H6,I6,r6,y6,st6,fr6⟩=>?_
    have I6':=I6.pinned (hfpX fr6 hps) (T.obj _ _ st6)
    have G:=hg cells s2 H2 (D+1) fp
    have TT':=ht cells s2 H2 (D+1) fp
    have EE:=he cells s2 H2 (D+1) fp
    rw [hX'] at G TT' EE
    have G':=G _ s6 (emb σ) H6 x u _ I6' r6 (step x H6 y6)
    rw [hA,hP,hw,hE,hxe] at G'
    refine thn G' λ_ s7 ⟨σ7,H7,I7,sb7,q7⟩=>?_
    have T':=TT' _ s7 σ7 H7 _ I7 q7
    rw [hA,hP,hw,hE,hxe] at T'
    refine thn T' λok s8 ⟨H8,I8,q8⟩=>?_
    -- what is pinned
    have pin_fp:∀ {σ9:St}{H9:Hp}{s9:Shared},Inv X' ([(D,({ cls:=.type "list",data:=.seq its.toArray k }:Obj))]++jA fp s6.heap) σ9 H9 s9->tn (i+1) s9.heap/\∀ b ∈ fp,H9 b=none:=λ{σ9 H9 s9} I9=>
     ⟨T.keep _ _ _ st6 λb hb o e=>(I9.pin (b,o) (List.mem_append_right _ (List.mem_append_right _ (cT hb e)))).1,λb hb=>by
      obtain⟨o,e,_⟩:=T.obj _ _ st6 b hb
      exact (I9.pin (b,o) (List.mem_append_right _ (List.mem_append_right _ (cT hb e)))).2.1⟩
    cases ok with
    | false=>
     rw [if_neg (by decide)] at q8
     rw [if_neg (by decide)]
     obtain⟨m',hm,w8⟩:=hN _ _ q8
     exact⟨m',hm,i+1,ys,its,k,H8,I8.unpinned.weak sb7.1 sb7.2,rv,(pin_fp I8).1,(pin_fp I8).2,hlen,w8⟩
    | true=>
     rw [if_pos rfl] at q8
     rw [if_pos rfl]
     have E':=EE _ s8 σ7 H8 _ I8 q8
     rw [hA,hP,hw,hE,hxe] at E'
     refine thn E' λy s9 ⟨v9,H9,I9,r9,n9⟩=>?_
     obtain⟨m',hm,w9⟩:=hN _ _ n9
     have pD9:=I9.pin (D,{ cls:=.type "list",data:=.seq its.toArray k }) (List.mem_append_right _ (List.mem_append_left _ List.mem_cons_self))
     have hl:=rv.length
     have I9n:Inv X' [] σ7 H9 s9:=I9.pins_of λp hp=>nomatch hp
     refine call_meets F.slot_list_append ⟨_,pD9.1,rfl⟩ F.entry_list_append (F.args_list_append_2 _ _) (PySem.list_append D its.toArray k y (by rw [List.size_toArray];lia)) ⟨pD9.1,?_⟩
     have up:∃ k':Nat,(s9.heap.update D (Obj.mapSeq λxs=>xs.push y)).get? D=some { cls:=.type "list",data:=.seq (its++[y]).toArray k' }:=by
      have q:=PySem.IsL.update pD9.1 (λxs:Array Value=>xs.push y)
      simp only [List.push_toArray] at q
      exact⟨_,q⟩
     obtain⟨k',up⟩:=up
     have hoth:∀ b o,b≠D->s9.heap.get? b=some o->(s9.heap.update D (Obj.mapSeq λxs=>xs.push y)).get? b=some o:=λb o hb e=>(Heap.get?_update_other s9.heap _ (Ne.symm hb)).trans e
     have I10:=I9n.turned (t':=s9.toks) hoth pD9.2.1 Dloc Dex Dcell (λp hp=>absurd (show p ∈ ([]:List (Addr×Obj)) by rw [<-hX'] at hp;exact hp) (by simp))
     refine⟨m',hm,i+1,ys++[v9],its++[y],k',H9,(I10.weak sb7.1 sb7.2).pins_of (λp hp=>?_),rv.append (.cons r9 .nil),T.keep _ _ _ (pin_fp I9).1 (λb hb o e=>hoth b o (by rw [<-hD];exact Nat.ne_of_lt (fplt b hb)) e),(pin_fp I9).2,?_,w9⟩
     ·have:=List.mem_singleton.mp hp
      subst this
      exact⟨up,pD9.2.1,Dloc,Dfs,λv z=>by cases z⟩
     ·rw [List.length_append,List.length_singleton]
      lia
  ·have q:lo={ cls:=.type "list",data:=.seq ([]:List Value).toArray 0 }:=hlo.symm
   rw [<-q]
   exact I3
  ·exact T.keep _ _ _ st2 λb hb o e=>pushCells_keeps _ _ b o (Heap.get?_push_of_some _ (Heap.get?_push_of_some _ e))
 refine codeAny_compStart_list ?_ ?_
 ·exact loop _ rfl
 ·refine T.self X.A 0 _ _ _ (T.keep _ _ _ st2 λb hb o e=>pushCells_keeps _ _ b o (Heap.get?_push_of_some _ (Heap.get?_push_of_some _ e))) ?_
  exact loop _ rfl
end
end L2
namespace L2
open PySem PySem.Spec PyProof.Rows
noncomputable def aO:Expr->Bool
 | .Starred _ _=>false
 | _=>true
theorem cD {e:Expr}{es:List Expr}{env:Env} (h:aO e=true):starEach (e::es) env=(false,eval e env)::starEach es env:=by
 cases e<;>first | (cases h;done) | rfl
theorem eJ {pos:Pos}{env:Env}:∀ {es:List Expr},es.all aO=true->(backTo pos (starEach es env)).any (·.1)=false
 | [],_=>by simp [starEach,backTo]
 | e::es,h=>by
  rw [List.all_cons,Bool.and_eq_true] at h
  rw [cD h.1]
  have:=eJ (pos:=pos) (env:=env) h.2
  unfold backTo at this ⊢
  rw [List.map_cons,List.any_cons,this]
  rfl
theorem uM {pos:Pos}{env:Env}{es:List Expr} (h:es.all aO=true) (hl:es.length < 30):((backTo pos (starEach es env)).all (λx=>!x.1) && (backToKw pos (keywordEach [] env)).all (λx=>x.1.isSome)
   && decide (es.length+([]:List Keyword).length+(if ([]:List Keyword).isEmpty then 0 else 1) < 30))=true:=by
 have h1:(backTo pos (starEach es env)).all (λx=>!x.1)=true:=by
  have:=eJ (pos:=pos) (env:=env) h
  rw [List.all_eq_true]
  intro x hx
  rw [List.any_eq_false] at this
  simpa using this x hx
 have h2:(backToKw pos (keywordEach [] env)).all (λx=>x.1.isSome)=true:=by simp [keywordEach,backToKw]
 rw [h1,h2]
 simpa using hl
theorem gZ {e:Expr}{env:Env} (h:aO e=true):starEach [e] env=[(false,eval e env)]:=by rw [cD h];rfl
theorem uo {e e2:Expr}{env:Env} (h:aO e=true) (h2:aO e2=true):starEach [e,e2] env=[(false,eval e env),(false,eval e2 env)]:=by rw [cD h,gZ h2]
noncomputable def uH:Expr->Bool
 | .UnaryOp .Not _ _=>false
 | .BoolOp _ _ _=>false
 | .IfExp _ _ _ _=>false
 | .Compare _ _ _ _=>false
 | _=>true
theorem sF {a:Expr}{env:Env} (h:uH a=true):∀ whole,PySem.isTrue a env whole=(do let v <-whole;standAt a.pos;holding [v] (truthy v)):=by
 intro whole
 cases a with
 | UnaryOp op x p=>cases op<;>first | (cases h;done) | rfl
 | BoolOp _ _ _=>cases h
 | IfExp _ _ _ _=>cases h
 | Compare _ _ _ _=>cases h
 | _=>rfl
theorem kG {t:Expr}{ts:List Expr}{env:Env} (h:aO t=true):assignEach (t::ts) env=(false,assign t env)::assignEach ts env:=by
 cases t<;>first | (cases h;done) | rfl
theorem nU {env:Env}:∀ {ts:List Expr},ts.all aO=true->(assignEach ts env).length=ts.length
 | [],_=>by simp [assignEach]
 | t::ts,h=>by
  rw [List.all_cons,Bool.and_eq_true] at h
  rw [kG h.1,List.length_cons,nU h.2,List.length_cons]
theorem kC {env:Env}:∀ {ts:List Expr},ts.all aO=true->(assignEach ts env).findIdx? (·.1)=none
 | [],_=>by simp [assignEach]
 | t::ts,h=>by
  rw [List.all_cons,Bool.and_eq_true] at h
  rw [kG h.1,List.findIdx?_cons,kC h.2]
  rfl
theorem qH {t:Expr}{ts:List Expr}{env:Env} (h:aO t=true):(assignEach (t::ts) env).map (·.2)=assign t env::(assignEach ts env).map (·.2):=by rw [kG h];rfl
theorem qN {t:Expr}{env:Env} (h:aO t=true):(assignEach [t] env).map (·.2)=[assign t env]:=by rw [qH h];simp [assignEach]
noncomputable def jq:Expr->Bool
 | .Slice _ _ _ _=>false
 | _=>true
theorem rH {o i:Expr}{pos:Pos}{env:Env} (h:jq i=true) (v:Value):assign (.Subscript o i pos) env v=(do
   let ov <-holding [v] (eval o env)
   let iv <-holding [v,ov] (eval i env)
   standAt pos
   holding [v,ov,iv] (setItem ov iv v)
   release [v,ov,iv] []):=by
 cases i<;>first | (cases h;done) | rfl
theorem pj {i:Expr} (h:jq i=true):rp i:=by
 intro o j
 cases i<;>first | (cases h;done) | rfl
end L2
namespace L2
open PySem PySem.Spec PyProof.Rows
inductive D where
 | non | bl (b:Bool) | int (i:Int) | str (x:Str) | ty (n:String) | dct | scr (ns:List Int) | tup (ds:List D) | lst (ds:List D)
 deriving Inhabited
inductive W where
 | d (x:D) | h (n:Nat)
 deriving Inhabited
inductive C where
 | l (ds:List D) | n (ws:List W) | m (kvs:List (List Int×D)) | k (kvs:List (Int×D))
 deriving Inhabited
abbrev Sto:=List C
noncomputable def lg (st:Sto) (n:Nat):Option (List D):=match st[n]? with
 | some (.l ds)=>some ds
 | _=>none
noncomputable def AX (l:List Int):List Key:=l.map Sum.inl
abbrev Ev:=List (Option W)
noncomputable def KLs (K:PySem.W.Frag) (a:Addr) (xs:List V):Prop:=
 ∃ (o:Obj) (its:Array Value) (n:Nat),K.lookup a=some o/\o.cls=.type "list"/\o.dict=none/\o.data=.seq its n/\its.size<=sizeLine/\aK xs its.toList
section
variable (K:PySem.W.Frag) (H:Hp) (φ:List Addr)
mutual
noncomputable def Rl:D->V->Prop
 | .non,v=>v=.non
 | .bl b,v=>v=.bl b
 | .int i,v=>v=.int i
 | .str x,v=>v=.str x
 | .ty n,v=>v=.ty n
 | .dct,v=>∃ a,v=.ref a/\a ∉ φ/\((∃ d,H a=some (.dK d))\/∃ d,H a=some (.dT d))
 | .scr ns,v=>∃ a,v=.ref a/\((∃ o,H a=some (.frz o (.lst (ns.map V.int))))\/KLs K a (ns.map V.int))
 | .tup ds,v=>∃ a vs,v=.ref a/\H a=some (.tup vs)/\Rls ds vs
 | .lst ds,v=>∃ a vs,v=.ref a/\a ∉ φ/\Rd H a (.lst vs)/\Rls ds vs
noncomputable def Rls:List D->List V->Prop
 | [],vs=>vs=[]
 | d::ds,vs=>∃ v r,vs=v::r/\Rl d v/\Rls ds r
end
noncomputable def Rw:W->V->Prop
 | .d x,v=>Rl K H φ x v
 | .h n,v=>∃ a,φ[n]?=some a/\v=.ref a
noncomputable def Rws:List W->List V->Prop
 | [],vs=>vs=[]
 | d::ds,vs=>∃ v r,vs=v::r/\Rw K H φ d v/\Rws ds r
noncomputable def Rkv:List (List Int×D)->List (List Key×V)->Prop
 | [],vs=>vs=[]
 | (k,d)::ds,vs=>∃ v r,vs=(AX k,v)::r/\Rl K H φ d v/\Rkv ds r
noncomputable def Rkk:List (Int×D)->List (Key×V)->Prop
 | [],vs=>vs=[]
 | (k,d)::ds,vs=>∃ v r,vs=(Sum.inl k,v)::r/\Rl K H φ d v/\Rkk ds r
noncomputable def Rc (k:Nat) (a:Addr):C->Prop
 | .l ds=>∃ vs,H a=some (.lst vs)/\Rls K H φ ds vs
 | .n ws=>∃ vs,H a=some (.lst vs)/\Rws K H φ ws vs/\∀ m,W.h m ∈ ws->m < k
 | .m kvs=>∃ vs,H a=some (.dT vs)/\Rkv K H φ kvs vs
 | .k kvs=>∃ vs,H a=some (.dK vs)/\Rkk K H φ kvs vs
structure Sr (st:Sto):Prop where
 nd:φ.Nodup
 len:φ.length=st.length
 at_:∀ (n:Nat) a c,φ[n]?=some a->st[n]?=some c->Rc K H φ n a c
structure Er (env:Ev) (σ:St):Prop where
 len:env.length=σ.length
 at_:∀ (i:Nat) w,env[i]?=some (some w)->∃ v,σ[i]?=some (some v)/\Rw K H φ w v
end
structure Fw (φ φ':List Addr) (H H':Hp):Prop where
 ext:∃ ψ,φ'=φ++ψ/\∀ a ∈ ψ,H a=none
 keep:∀ b o,b ∉ φ->H b=some o->H' b=some o
 there:∀ b o,H b=some o->∃ o',H' b=some o'
section
variable {K:PySem.W.Frag}{H H1 H2 H':Hp}{φ φ1 φ2 φ':List Addr}{st st':Sto}
theorem Fw.refl (φ:List Addr) (H:Hp):Fw φ φ H H:=⟨⟨[],by simp,by simp⟩,λ_ _ _ h=>h,λ_ o h=>⟨o,h⟩⟩
theorem Fw.trans (a:Fw φ φ1 H H1) (b:Fw φ1 φ2 H1 H2):Fw φ φ2 H H2:=by
 obtain⟨ψ,rfl,e1⟩:=a.ext
 obtain⟨ψ2,rfl,e2⟩:=b.ext
 refine⟨⟨ψ++ψ2,by rw [List.append_assoc],λc hc=>?_⟩,λc o hc h=>?_,λc o h=>?_⟩
 ·rcases List.mem_append.mp hc with z | z
  ·exact e1 c z
  ·cases q:H c with
   | none=>rfl
   | some o=>
    obtain⟨o',q'⟩:=a.there c o q
    rw [e2 c z] at q';cases q'
 ·refine b.keep c o (λz=>?_) (a.keep c o hc h)
  rcases List.mem_append.mp z with z | z
  ·exact hc z
  ·rw [e1 c z] at h;cases h
 ·obtain⟨o',q⟩:=a.there c o h
  exact b.there c o' q
theorem Fw.same (s:bp H H'):Fw φ φ H H':=⟨⟨[],by simp,by simp⟩,λb o _ h=>s b o h,λb o h=>⟨o,s b o h⟩⟩
theorem Fw.new {p:Addr}{o:HO} (hp:H p=none):Fw φ φ H (upd H p o):=.same (bp.new hp o)
theorem Fw.get (f:Fw φ φ' H H') {n:Nat}{a:Addr} (h:φ[n]?=some a):φ'[n]?=some a:=by
 obtain⟨ψ,rfl,_⟩:=f.ext
 rw [List.getElem?_append_left (List.getElem?_eq_some_iff.mp h).1];exact h
theorem Fw.nin (f:Fw φ φ' H H') {a:Addr}{o:HO} (h:a ∉ φ) (q:H a=some o):a ∉ φ':=by
 obtain⟨ψ,rfl,e⟩:=f.ext
 intro z
 rcases List.mem_append.mp z with z | z
 ·exact h z
 ·rw [e a z] at q;cases q
noncomputable def AE:HO->Bool
 | .lst _=>true
 | .dT _=>true
 | .dK _=>true
 | _=>false
theorem Rc.ob {k:Nat}{a:Addr}{c:C} (h:Rc K H φ k a c):∃ o,H a=some o/\AE o=true:=by
 cases c with
 | l ds=>obtain⟨vs,q,_⟩:=h;exact⟨_,q,rfl⟩
 | n ds=>obtain⟨vs,q,_⟩:=h;exact⟨_,q,rfl⟩
 | m ds=>obtain⟨vs,q,_⟩:=h;exact⟨_,q,rfl⟩
 | k ds=>obtain⟨vs,q,_⟩:=h;exact⟨_,q,rfl⟩
theorem Sr.lst (S:Sr K H φ st) {a:Addr} (h:a ∈ φ):∃ o,H a=some o/\AE o=true:=by
 obtain⟨n,hn,e⟩:=List.mem_iff_getElem.mp h
 have hs:n < st.length:=by rw [<-S.len];exact hn
 exact (S.at_ n a st[n] (by rw [List.getElem?_eq_getElem hn,e]) (by rw [List.getElem?_eq_getElem hs])).ob
theorem xp {st:Sto}{n:Nat}{ds:List D} (h:lg st n=some ds):st[n]?=some (.l ds):=by
 unfold lg at h
 split at h
 ·rename_i q;cases h;exact q
 ·cases h
theorem Sr.atl (S:Sr K H φ st) (n:Nat) (a:Addr) (ds:List D) (e1:φ[n]?=some a) (e2:lg st n=some ds):∃ vs,H a=some (.lst vs)/\Rls K H φ ds vs:=S.at_ n a _ e1 (xp e2)
theorem Sr.nin (S:Sr K H φ st) {a:Addr} (h:H a=none):a ∉ φ:=λz=>by
 obtain⟨vs,q,_⟩:=S.lst z
 rw [q] at h;cases h
theorem Rd.nin (S:Sr K H φ st) {a:Addr}{vs:List V} (h:Rd H a (.tup vs)):a ∉ φ:=λz=>by
 obtain⟨ws,q,qm⟩:=S.lst z
 rcases h with h | ⟨o,h⟩<;>(rw [q] at h;cases h;cases qm)
theorem Rd.fw (f:Fw φ φ' H H') {a:Addr}{u:HO} (hn:a ∉ φ) (h:Rd H a u):Rd H' a u:=by
 rcases h with h | ⟨o,h⟩
 ·exact .inl (f.keep _ _ hn h)
 ·exact .inr ⟨o,f.keep _ _ hn h⟩
theorem SqT.fw (S:Sr K H φ st) (f:Fw φ φ' H H') {a:Addr}{vs:List V} (h:SqT K H a vs):SqT K H' a vs:=by
 rcases h with h | h
 ·exact .inl (f.keep _ _ (Rd.nin S (.inl h)) h)
 ·exact .inr h
theorem Rd.some {a:Addr}{u:HO} (h:Rd H a u):∃ o,H a=some o:=by
 rcases h with h | ⟨o,h⟩
 ·exact⟨_,h⟩
 ·exact⟨_,h⟩
mutual
theorem Rl.fw (S:Sr K H φ st) (f:Fw φ φ' H H'):∀ {d:D}{v:V},Rl K H φ d v->Rl K H' φ' d v
 | .non,_,h=>h
 | .bl _,_,h=>h
 | .int _,_,h=>h
 | .str _,_,h=>h
 | .ty _,_,h=>h
 | .dct,_,h=>by
  obtain⟨a,rfl,hn,h⟩:=h
  rcases h with⟨d,h⟩ | ⟨d,h⟩
  ·exact⟨a,rfl,f.nin hn h,.inl ⟨d,f.keep _ _ hn h⟩⟩
  ·exact⟨a,rfl,f.nin hn h,.inr ⟨d,f.keep _ _ hn h⟩⟩
 | .scr ns,_,h=>by
  obtain⟨a,rfl,h⟩:=h
  refine⟨a,rfl,?_⟩
  rcases h with⟨o,h⟩ | h
  ·refine .inl ⟨o,f.keep _ _ (λz=>?_) h⟩
   obtain⟨ws,q,qm⟩:=S.lst z
   rw [q] at h;cases h;cases qm
  ·exact .inr h
 | .tup ds,_,h=>by
  obtain⟨a,vs,rfl,h1,h2⟩:=h
  exact⟨a,vs,rfl,f.keep _ _ (Rd.nin S (.inl h1)) h1,Rls.fw S f h2⟩
 | .lst ds,_,h=>by
  obtain⟨a,vs,rfl,h0,h1,h2⟩:=h
  obtain⟨o,e⟩:=h1.some
  exact⟨a,vs,rfl,f.nin h0 e,h1.fw f h0,Rls.fw S f h2⟩
theorem Rls.fw (S:Sr K H φ st) (f:Fw φ φ' H H'):∀ {ds:List D}{vs:List V},Rls K H φ ds vs->Rls K H' φ' ds vs
 | [],_,h=>h
 | d::ds,_,h=>by
  obtain⟨v,r,rfl,h1,h2⟩:=h
  exact⟨v,r,rfl,Rl.fw S f h1,Rls.fw S f h2⟩
end
theorem Rw.fw (S:Sr K H φ st) (f:Fw φ φ' H H') {w:W}{v:V} (h:Rw K H φ w v):Rw K H' φ' w v:=by
 cases w with
 | d x=>exact Rl.fw S f h
 | h n=>obtain⟨a,e,rfl⟩:=h;exact⟨a,f.get e,rfl⟩
theorem Rws.fw (S:Sr K H φ st) (f:Fw φ φ' H H'):∀ {ws:List W}{vs:List V},Rws K H φ ws vs->Rws K H' φ' ws vs
 | [],_,h=>h
 | d::ds,_,h=>by
  obtain⟨v,r,rfl,h1,h2⟩:=h
  exact⟨v,r,rfl,h1.fw S f,Rws.fw S f h2⟩
theorem Er.fw (S:Sr K H φ st) (f:Fw φ φ' H H') {env:Ev}{σ:St} (h:Er K H φ env σ):Er K H' φ' env σ:=
 ⟨h.len,λi w e=>let ⟨v,e1,r⟩:=h.at_ i w e;⟨v,e1,r.fw S f⟩⟩
theorem Rkv.fw (S:Sr K H φ st) (f:Fw φ φ' H H'):∀ {ds:List (List Int×D)}{vs:List (List Key×V)},Rkv K H φ ds vs->Rkv K H' φ' ds vs
 | [],_,h=>h
 | (k,d)::ds,_,h=>by
  obtain⟨v,r,rfl,h1,h2⟩:=h
  exact⟨v,r,rfl,Rl.fw S f h1,Rkv.fw S f h2⟩
theorem Rkk.fw (S:Sr K H φ st) (f:Fw φ φ' H H'):∀ {ds:List (Int×D)}{vs:List (Key×V)},Rkk K H φ ds vs->Rkk K H' φ' ds vs
 | [],_,h=>h
 | (k,d)::ds,_,h=>by
  obtain⟨v,r,rfl,h1,h2⟩:=h
  exact⟨v,r,rfl,Rl.fw S f h1,Rkk.fw S f h2⟩
theorem Rc.fw (S:Sr K H φ st) (f:Fw φ φ' H H') {k:Nat}{a:Addr}{c:C} (e:∀ o,H a=some o->H' a=some o) (h:Rc K H φ k a c):Rc K H' φ' k a c:=by
 cases c with
 | l ds=>obtain⟨vs,q,r⟩:=h;exact⟨vs,e _ q,r.fw S f⟩
 | n ds=>obtain⟨vs,q,r,b⟩:=h;exact⟨vs,e _ q,r.fw S f,b⟩
 | m ds=>obtain⟨vs,q,r⟩:=h;exact⟨vs,e _ q,r.fw S f⟩
 | k ds=>obtain⟨vs,q,r⟩:=h;exact⟨vs,e _ q,r.fw S f⟩
theorem Sr.same (S:Sr K H φ st) (s:bp H H'):Sr K H' φ st:=
 ⟨S.nd,S.len,λn a c e1 e2=>(S.at_ n a c e1 e2).fw S (Fw.same s) λo h=>s _ _ h⟩
theorem Sr.new (S:Sr K H φ st) {p:Addr}{o:HO} (hp:H p=none):Sr K (upd H p o) φ st:=S.same (bp.new hp o)
theorem Rls.length:∀ {ds:List D}{vs:List V},Rls K H φ ds vs->ds.length=vs.length
 | [],_,h=>by cases h;rfl
 | d::ds,_,h=>by
  obtain⟨v,r,rfl,h1,h2⟩:=h
  rw [List.length_cons,List.length_cons,Rls.length h2]
theorem Rws.length:∀ {ds:List W}{vs:List V},Rws K H φ ds vs->ds.length=vs.length
 | [],_,h=>by cases h;rfl
 | d::ds,_,h=>by
  obtain⟨v,r,rfl,h1,h2⟩:=h
  rw [List.length_cons,List.length_cons,Rws.length h2]
theorem Rls.append:∀ {ds es:List D}{vs us:List V},Rls K H φ ds vs->Rls K H φ es us->Rls K H φ (ds++es) (vs++us)
 | [],_,_,_,h,h'=>by cases h;exact h'
 | d::ds,_,_,_,h,h'=>by
  obtain⟨v,r,rfl,h1,h2⟩:=h
  exact⟨v,r++_,rfl,h1,Rls.append h2 h'⟩
theorem Rls.get:∀ {ds:List D}{vs:List V},Rls K H φ ds vs->∀ {i:Nat}{d:D},ds[i]?=some d->∃ v,vs[i]?=some v/\Rl K H φ d v
 | [],_,h,i,d,e=>by simp at e
 | d::ds,_,h,i,e,q=>by
  obtain⟨v,r,rfl,h1,h2⟩:=h
  cases i with
  | zero=>simp at q;subst q;exact⟨v,rfl,h1⟩
  | succ i=>simpa using Rls.get h2 (i:=i) (d:=e) (by simpa using q)
theorem Rls.take:∀ {ds:List D}{vs:List V} (n:Nat),Rls K H φ ds vs->Rls K H φ (ds.take n) (vs.take n)
 | _,_,0,_=>by rw [List.take_zero,List.take_zero];exact rfl
 | [],_,n+1,h=>by cases h;exact rfl
 | d::ds,_,n+1,h=>by
  obtain⟨v,r,rfl,h1,h2⟩:=h
  exact⟨v,_,rfl,h1,Rls.take n h2⟩
theorem Rls.drop:∀ {ds:List D}{vs:List V} (n:Nat),Rls K H φ ds vs->Rls K H φ (ds.drop n) (vs.drop n)
 | _,_,0,h=>h
 | [],_,n+1,h=>by cases h;exact rfl
 | d::ds,_,n+1,h=>by
  obtain⟨v,r,rfl,h1,h2⟩:=h
  exact Rls.drop n h2
theorem Rls.set:∀ {ds:List D}{vs:List V} (n:Nat) {d:D}{v:V},Rls K H φ ds vs->Rl K H φ d v->Rls K H φ (ds.set n d) (vs.set n v)
 | [],_,_,_,_,h,_=>by cases h;exact rfl
 | e::ds,_,0,d,v,h,hd=>by
  obtain⟨u,r,rfl,h1,h2⟩:=h
  exact⟨v,r,rfl,hd,h2⟩
 | e::ds,_,n+1,d,v,h,hd=>by
  obtain⟨u,r,rfl,h1,h2⟩:=h
  exact⟨u,_,rfl,h1,Rls.set n h2 hd⟩
theorem Rls.rep {ds:List D}{vs:List V} (h:Rls K H φ ds vs):∀ k:Nat,Rls K H φ (List.replicate k ds).flatten (List.replicate k vs).flatten
 | 0=>rfl
 | k+1=>by rw [List.replicate_succ,List.replicate_succ,List.flatten_cons,List.flatten_cons];exact h.append (Rls.rep h k)
theorem Rls.ints:∀ {ns:List Int}{vs:List V},Rls K H φ (ns.map D.int) vs->vs=ns.map V.int
 | [],_,h=>h
 | n::ns,_,h=>by
  obtain⟨v,r,rfl,h1,h2⟩:=h
  rw [show v=.int n from h1,Rls.ints h2];rfl
theorem Rls.bools:∀ {ns:List Bool}{vs:List V},Rls K H φ (ns.map D.bl) vs->vs=ns.map V.bl
 | [],_,h=>h
 | n::ns,_,h=>by
  obtain⟨v,r,rfl,h1,h2⟩:=h
  rw [show v=.bl n from h1,Rls.bools h2];rfl
theorem Rls.of_ints:∀ (ns:List Int),Rls K H φ (ns.map D.int) (ns.map V.int)
 | []=>rfl
 | n::ns=>⟨_,_,rfl,rfl,Rls.of_ints ns⟩
theorem Rl.less {ψ:List Addr}:∀ {d:D}{v:V},Rl K H (φ++ψ) d v->Rl K H φ d v:=by
 intro d v
 refine (?_:∀ v,Rl K H (φ++ψ) d v->Rl K H φ d v) v
 refine D.rec (motive_1:=λd=>∀ v,Rl K H (φ++ψ) d v->Rl K H φ d v) (motive_2:=λds=>∀ vs,Rls K H (φ++ψ) ds vs->Rls K H φ ds vs) ?_ ?_ ?_ ?_ ?_ ?_ ?_ ?_ ?_ ?_ ?_ d
 ·exact λv h=>h
 ·exact λb v h=>h
 ·exact λb v h=>h
 ·exact λb v h=>h
 ·exact λb v h=>h
 ·rintro v ⟨a,e,hn,h⟩;exact⟨a,e,λz=>hn (List.mem_append_left _ z),h⟩
 ·exact λns v h=>h
 ·rintro ds ih v ⟨a,vs,rfl,h1,h2⟩;exact⟨a,vs,rfl,h1,ih vs h2⟩
 ·rintro ds ih v ⟨a,vs,rfl,h0,h1,h2⟩;exact⟨a,vs,rfl,λz=>h0 (List.mem_append_left _ z),h1,ih vs h2⟩
 ·exact λvs h=>h
 ·rintro d ds ih1 ih2 vs ⟨v,r,rfl,h1,h2⟩;exact⟨v,r,rfl,ih1 v h1,ih2 r h2⟩
theorem Rls.less {ψ:List Addr}:∀ {ds:List D}{vs:List V},Rls K H (φ++ψ) ds vs->Rls K H φ ds vs
 | [],_,h=>h
 | d::ds,_,h=>by
  obtain⟨v,r,rfl,h1,h2⟩:=h
  exact⟨v,r,rfl,Rl.less h1,Rls.less h2⟩
theorem Rkv.less {ψ:List Addr}:∀ {ds:List (List Int×D)}{vs:List (List Key×V)},Rkv K H (φ++ψ) ds vs->Rkv K H φ ds vs
 | [],_,h=>h
 | (k,d)::ds,_,h=>by
  obtain⟨v,r,rfl,h1,h2⟩:=h
  exact⟨v,r,rfl,Rl.less h1,Rkv.less h2⟩
theorem Rkk.less {ψ:List Addr}:∀ {ds:List (Int×D)}{vs:List (Key×V)},Rkk K H (φ++ψ) ds vs->Rkk K H φ ds vs
 | [],_,h=>h
 | (k,d)::ds,_,h=>by
  obtain⟨v,r,rfl,h1,h2⟩:=h
  exact⟨v,r,rfl,Rl.less h1,Rkk.less h2⟩
theorem Rws.less {ψ:List Addr}:∀ {ds:List W}{vs:List V},(∀ m,W.h m ∈ ds->m < φ.length)->Rws K H (φ++ψ) ds vs->Rws K H φ ds vs
 | [],_,_,h=>h
 | d::ds,_,hm,h=>by
  obtain⟨v,r,rfl,h1,h2⟩:=h
  refine⟨v,r,rfl,?_,Rws.less (λm z=>hm m (List.mem_cons_of_mem _ z)) h2⟩
  cases d with
  | d x=>exact Rl.less h1
  | h m=>
   obtain⟨a,e,rfl⟩:=h1
   rw [List.getElem?_append_left (hm m List.mem_cons_self)] at e
   exact⟨a,e,rfl⟩
theorem Rc.less {ψ:List Addr}{k:Nat}{a:Addr}{c:C} (hk:k < φ.length) (h:Rc K H (φ++ψ) k a c):Rc K H φ k a c:=by
 cases c with
 | l ds=>obtain⟨vs,q,r⟩:=h;exact⟨vs,q,r.less⟩
 | n ds=>obtain⟨vs,q,r,b⟩:=h;exact⟨vs,q,r.less λm z=>Nat.lt_trans (b m z) hk,b⟩
 | m ds=>obtain⟨vs,q,r⟩:=h;exact⟨vs,q,r.less⟩
 | k ds=>obtain⟨vs,q,r⟩:=h;exact⟨vs,q,r.less⟩
theorem Sr.less {ψ:List Addr} (S:Sr K H (φ++ψ) st):Sr K H φ (st.take φ.length):=by
 have hl:=S.len
 rw [List.length_append] at hl
 refine⟨(List.nodup_append.mp S.nd).1,by rw [List.length_take];lia,λn a ds e1 e2=>?_⟩
 have hn:=(List.getElem?_eq_some_iff.mp e1).1
 rw [List.getElem?_take_of_lt hn] at e2
 exact (S.at_ n a ds (by rw [List.getElem?_append_left hn];exact e1) e2).less hn
end
end L2
namespace L2
open PySem PySem.Spec PyProof.Rows
abbrev Ef:=Ev->Sto->Option (W×Sto)
abbrev Af:=Ev->Sto->Option (List W×Sto)
abbrev Tf:=Ev->Sto->Option (Bool×Sto)
abbrev Lf:=Ev->Sto->Option (List D×Sto)
abbrev Fn:=List W->Sto->Option (W×Sto)
section
variable (K:PySem.W.Frag)
noncomputable def tI (env:Ev) (st:Sto) (r:W×Sto):TE:=λσ H Q=>∃ φ,Er K H φ env σ/\Sr K H φ st/\∀ v H' φ',Fw φ φ' H H'->Sr K H' φ' r.2->Rw K H' φ' r.1 v->Q v H'
noncomputable def tIA (env:Ev) (st:Sto) (r:List W×Sto):TA:=λσ H Q=>∃ φ,Er K H φ env σ/\Sr K H φ st/\∀ vs H' φ',Fw φ φ' H H'->Sr K H' φ' r.2->Rws K H' φ' r.1 vs->Q vs H'
noncomputable def tIT (env:Ev) (st:Sto) (r:Bool×Sto):TT:=λσ H Q=>∃ φ,Er K H φ env σ/\Sr K H φ st/\∀ H' φ',Fw φ φ' H H'->Sr K H' φ' r.2->Q r.1 H'
noncomputable def tIL (env:Ev) (st:Sto) (r:List D×Sto):TE:=λσ H Q=>∃ φ,Er K H φ env σ/\Sr K H φ st/\∀ a vs H1 φ',Fw φ φ' H H1->Sr K H1 φ' r.2->H1 a=none->Rls K H1 φ' r.1 vs->Q (.ref a) (upd H1 a (.lst vs))
structure IE (X:Cx) (e:Expr) (f:Ef):Prop where
 run:∀ env st r,f env st=some r->PE X e (tI K env st r)
structure IA (X:Cx) (es:List Expr) (f:Af):Prop where
 run:∀ env st r,f env st=some r->PA X es (tIA K env st r)
structure IT (X:Cx) (e:Expr) (f:Tf):Prop where
 run:∀ env st r,f env st=some r->PT X e (tIT K env st r)
structure ITW (X:Cx) (e:Expr) (f:Tf):Prop where
 run:∀ env st r,f env st=some r->PW X e (tIT K env st r)
structure IL (X:Cx) (e:Expr) (f:Lf):Prop where
 run:∀ env st r,f env st=some r->PE X e (tIL K env st r)
noncomputable def rD (st:Sto) (x y:W) (d:D):R2:=λvx vy H Q=>∃ φ,Sr K H φ st/\Rw K H φ x vx/\Rw K H φ y vy/\∀ v H',bp H H'->Rl K H' φ d v->Q v H'
structure OpD (X:Cx) (f:Value->Value->Sem Value) (g:Sto->W->W->Option D):Prop where
 run:∀ st x y d,g st x y=some d->OpR X f (rD K st x y d)
noncomputable def rCD (st:Sto) (ws:List W) (d:D):List V->Hp->VK->Prop:=λvs H Q=>∃ φ,Sr K H φ st/\Rws K H φ ws vs/\∀ v H',bp H H'->Rl K H' φ d v->Q v H'
structure eS (X:Cx) (f:Value) (g:Sto->List W->Option D):Prop where
 run:∀ st ws d,g st ws=some d->bR X f (rCD K st ws d)
noncomputable def rCL (st:Sto) (ws:List W) (ds:List D):List V->Hp->VK->Prop:=λvs H Q=>∃ φ,Sr K H φ st/\Rws K H φ ws vs/\∀ a us H1,bp H H1->H1 a=none->Rls K H1 φ ds us->Q (.ref a) (upd H1 a (.lst us))
structure xE (X:Cx) (f:Value) (g:Sto->List W->Option (List D)):Prop where
 run:∀ st ws d,g st ws=some d->bR X f (rCL K st ws d)
end
noncomputable def iV (i:Nat):Ef
 | env,st=>(env.getD i none).map λw=>(w,st)
noncomputable def iC (d:D):Ef
 | _,st=>some (.d d,st)
noncomputable def iOp (g:Sto->W->W->Option D) (a b:Ef):Ef
 | env,st=>(a env st).bind λx=>(b env x.2).bind λy=>(g y.2 x.1 y.1).map λd=>(.d d,y.2)
noncomputable def gM:D->Option Bool
 | .bl b=>some b
 | _=>none
noncomputable def blW:W->Option Bool
 | .d (.bl b)=>some b
 | _=>none
noncomputable def bJ (g:Sto->W->W->Option D) (a b:Ef):Tf
 | env,st=>(a env st).bind λx=>(b env x.2).bind λy=>(g y.2 x.1 y.1).bind λd=>(gM d).map λk=>(k,y.2)
noncomputable def iUn (g:W->Option D) (a:Ef):Ef
 | env,st=>(a env st).bind λx=>(g x.1).map λd=>(.d d,x.2)
noncomputable def n8 (a:Ef):Ef
 | env,st=>(a env st).bind λx=>(blW x.1).map λk=>(.d (.bl (!k)),x.2)
noncomputable def gE (a b:Ef):Ef
 | env,st=>(a env st).bind λx=>(blW x.1).bind λk=>if k=true then b env x.2 else some (.d (.bl false),x.2)
noncomputable def lT (c:Tf) (a b:Ef):Ef
 | env,st=>(c env st).bind λr=>if r.1=true then a env r.2 else b env r.2
noncomputable def iS (c:Tf):Tf
 | env,st=>(c env st).map λr=>(!r.1,r.2)
noncomputable def mw (a b:Tf):Tf
 | env,st=>(a env st).bind λr=>if r.1=true then b env r.2 else some (false,r.2)
noncomputable def uj (a b:Tf):Tf
 | env,st=>(a env st).bind λr=>if r.1=true then some (true,r.2) else b env r.2
noncomputable def nR (g:Sto->W->Option Bool) (a:Ef):Tf
 | env,st=>(a env st).bind λx=>(g x.2 x.1).map λk=>(k,x.2)
noncomputable def aj:Af
 | _,st=>some ([],st)
noncomputable def ae (a:Ef) (r:Af):Af
 | env,st=>(a env st).bind λx=>(r env x.2).map λy=>(x.1::y.1,y.2)
noncomputable def iCB (g:Sto->List W->Option D) (a:Af):Ef
 | env,st=>(a env st).bind λr=>(g r.2 r.1).map λd=>(.d d,r.2)
noncomputable def iCL (g:Sto->List W->Option (List D)) (a:Af):Lf
 | env,st=>(a env st).bind λr=>(g r.2 r.1).map λd=>(d,r.2)
noncomputable def aD (m:Fn) (a:Af):Ef
 | env,st=>(a env st).bind λr=>m r.1 r.2
noncomputable def iZ:List W->Option (List D)
 | []=>some []
 | .d x::ws=>(iZ ws).map λr=>x::r
 | .h _::_=>none
noncomputable def mh (a:Af):Ef
 | env,st=>(a env st).bind λr=>(iZ r.1).bind λds=>if ds.length<=1000 then some (.d (.tup ds),r.2) else none
noncomputable def eN (a:Af):Lf
 | env,st=>(a env st).bind λr=>(iZ r.1).bind λds=>if ds.length<=1000 then some (ds,r.2) else none
noncomputable def aJ (a:Lf):Ef
 | env,st=>(a env st).map λr=>(.d (.lst r.1),r.2)
noncomputable def jo (a:Lf):Ef
 | env,st=>(a env st).map λr=>(.h r.2.length,r.2++[.l r.1])
section
variable {K:PySem.W.Frag}{X:Cx}{e a b c:Expr}{es:List Expr}{pos:Pos}{f fa fb fc:Ef}
theorem PE.imp {t t':TE} (h:PE X e t) (m:∀ σ H Q,t' σ H Q->t σ H Q):PE X e t':=λpins s σ H Q I q=>h pins s σ H Q I (m σ H Q q)
theorem PT.imp {t t':TT} (h:PT X e t) (m:∀ σ H Q,t' σ H Q->t σ H Q):PT X e t':=λpins s σ H Q I q=>h pins s σ H Q I (m σ H Q q)
theorem PW.imp {t t':TT} (h:PW X e t) (m:∀ σ H Q,t' σ H Q->t σ H Q):PW X e t':=λwh pins s σ H Q I q=>h wh pins s σ H Q I (m σ H Q q)
theorem PA.imp {t t':TA} (h:PA X es t) (m:∀ σ H Q,t' σ H Q->t σ H Q):PA X es t':=λpos pins s σ H Q I q=>h pos pins s σ H Q I (m σ H Q q)
theorem OpR.imp {g:Value->Value->Sem Value}{r r':R2} (h:OpR X g r) (m:∀ x y H Q,r' x y H Q->r x y H Q):OpR X g r':=λpins s σ H x y v u Q I rx ry q=>h pins s σ H x y v u Q I rx ry (m _ _ _ _ q)
theorem bR.imp {g:Value}{r r':List V->Hp->VK->Prop} (h:bR X g r) (m:∀ xs H Q,r' xs H Q->r xs H Q):bR X g r':=λpins s σ H xs us Q I rx q=>h pins s σ H xs us Q I rx (m _ _ _ q)
theorem kl:PE X e (λ_ _ _=>False):=λ_ _ _ _ _ _ q=>q.elim
theorem oD:PW X e (λ_ _ _=>False):=λ_ _ _ _ _ _ _ q=>q.elim
theorem zn {i:Nat}{x:Str}{t:TE} (h:PE X (.Name x pos) (yW i)):IE K X (.Name x pos) (iV i):=by
 refine⟨λenv st r hr=>?_⟩
 unfold iV at hr
 obtain⟨w,hw,rfl⟩:=Option.map_eq_some_iff.mp hr
 refine h.imp ?_
 rintro σ H Q ⟨φ,hE,hS,q⟩
 have hi:env[i]?=some (some w):=by
  rw [List.getD] at hw
  cases q:env[i]? with
  | none=>rw [q] at hw;cases hw
  | some o=>rw [q] at hw;rw [show o=some w from hw]
 obtain⟨v,e1,r⟩:=hE.at_ i w hi
 exact⟨v,e1,q v H φ (Fw.refl φ H) hS r⟩
theorem iv (i:Nat) {x:Str} (hN:X.N[i]?=some x:=by rfl) (hv:Vis X.env.scope x:=by first | exact Or.inl rfl | exact Or.inr (Or.inl rfl) | exact Or.inr (Or.inr rfl)) (hd:(x==("__debug__" : Str))=false:=by decide)
  (hcd:(x==("__classdict__" : Str))=false:=by decide):IE K X (.Name x pos) (iV i):=zn (t:=yW i) (y0 hN hv hd hcd)
theorem t6 {d:D}{v:V} (h:PE X e (tC v)) (r:∀ H φ,Rl K H φ d v):IE K X e (iC d):=by
 refine⟨λenv st r hr=>?_⟩
 cases hr
 refine h.imp ?_
 rintro σ H Q ⟨φ,hE,hS,q⟩
 exact q v H φ (Fw.refl φ H) hS (r H φ)
theorem ai {i j}:IE K X (.Constant (.int i) j pos) (iC (.int i)):=t6 yp λ_ _=>rfl
theorem iQ {i j}:IE K X (.Constant (.bool i) j pos) (iC (.bl i)):=t6 Am λ_ _=>rfl
theorem nV {j}:IE K X (.Constant .none j pos) (iC .non):=t6 y7 λ_ _=>rfl
theorem kS {x j}:IE K X (.Constant (.str x) j pos) (iC (.str x)):=t6 yv λ_ _=>rfl
theorem nI {env:Ev}{st:Sto}{x y:W×Sto}{d:D}{σ:St}{H:Hp}{Q:VK} (h:tI K env st (.d d,y.2) σ H Q):tOp (rD K y.2 x.1 y.1 d) (tI K env st x) (tI K env x.2 y) σ H Q:=by
 obtain⟨φ,hE,hS,q⟩:=h
 refine⟨φ,hE,hS,λv H1 φ1 f1 s1 w1=>⟨φ1,hE.fw hS f1,s1,λu H2 φ2 f2 s2 w2=>⟨φ2,s2,w1.fw s1 f2,w2,λv3 H3 f3 w3=>?_⟩⟩⟩
 exact q v3 H3 φ2 ((f1.trans f2).trans (Fw.same f3)) (s2.same f3) w3
theorem aw {op:Operator}{g:Sto->W->W->Option D} (ho:OpD K X (binaryOp op) g) (ha:IE K X a fa) (hb:IE K X b fb):IE K X (.BinOp a op b pos) (iOp g fa fb):=by
 refine⟨λenv st r hr=>?_⟩
 simp only [iOp,Option.bind_eq_some_iff,Option.map_eq_some_iff] at hr
 obtain⟨x,hx,y,hy,d,hd,rfl⟩:=hr
 exact (xT (ho.run _ _ _ _ hd) (ha.run _ _ _ hx) (hb.run _ _ _ hy)).imp λσ H Q h=>nI h
theorem dQ {op:CmpOp}{g:Sto->W->W->Option D} (ho:OpD K X (compareOp op) g) (ha:IE K X a fa) (hb:IE K X b fb) (hm:behindInMarks op b=false):IE K X (.Compare a [op] [b] pos) (iOp g fa fb):=by
 refine⟨λenv st r hr=>?_⟩
 simp only [iOp,Option.bind_eq_some_iff,Option.map_eq_some_iff] at hr
 obtain⟨x,hx,y,hy,d,hd,rfl⟩:=hr
 exact (wO (ho.run _ _ _ _ hd) (ha.run _ _ _ hx) (hb.run _ _ _ hy) hm).imp λσ H Q h=>nI h
theorem sA {d:D}{k:Bool} (h:gM d=some k):d=.bl k:=by
 cases d<;>first | (cases h;done) | (injection h with h;subst h;rfl)
theorem n6 {d:W}{k:Bool} (h:blW d=some k):d=.d (.bl k):=by
 cases d with
 | h n=>cases h
 | d x=>cases x<;>first | (cases h;done) | (injection h with h;subst h;rfl)
theorem bo {op:CmpOp}{g:Sto->W->W->Option D} (ho:OpD K X (compareOp op) g) (ha:IE K X a fa) (hb:IE K X b fb) (hm:behindInMarks op b=false):IT K X (.Compare a [op] [b] pos) (bJ g fa fb):=by
 refine⟨λenv st r hr=>?_⟩
 simp only [bJ,Option.bind_eq_some_iff,Option.map_eq_some_iff] at hr
 obtain⟨x,hx,y,hy,d,hd,k,hk,rfl⟩:=hr
 cases sA hk
 refine (xu (ho.run _ _ _ _ hd) (ha.run _ _ _ hx) (hb.run _ _ _ hy) hm).imp λσ H Q h=>?_
 obtain⟨φ,hE,hS,q⟩:=h
 refine nI ⟨φ,hE,hS,λv H1 φ1 f1 s1 w1=>⟨k,w1,q H1 φ1 f1 s1⟩⟩
noncomputable def qk:W->Option D
 | .d (.int i)=>some (.int (-i))
 | _=>none
theorem uG (ha:IE K X a fa):IE K X (.UnaryOp .USub a pos) (iUn qk fa):=by
 refine⟨λenv st r hr=>?_⟩
 simp only [iUn,Option.bind_eq_some_iff,Option.map_eq_some_iff] at hr
 obtain⟨⟨x,s1⟩,hx,d,hd,rfl⟩:=hr
 cases x with
 | h n=>cases hd
 | d x=>
  cases x with
  | int i=>
   cases hd
   refine (zU x8 (ha.run _ _ _ hx)).imp ?_
   rintro σ H Q ⟨φ,hE,hS,q⟩
   exact⟨φ,hE,hS,λv H1 φ1 f1 s1 w1=>⟨i,w1,q _ H1 φ1 f1 s1 rfl⟩⟩
  | _=>cases hd
theorem tO (ha:IE K X a fa):IE K X (.UnaryOp .Not a pos) (n8 fa):=by
 refine⟨λenv st r hr=>?_⟩
 simp only [n8,Option.bind_eq_some_iff,Option.map_eq_some_iff] at hr
 obtain⟨x,hx,k,hk,rfl⟩:=hr
 have e:=n6 hk
 refine (zb (ha.run _ _ _ hx)).imp ?_
 rintro σ H Q ⟨φ,hE,hS,q⟩
 exact⟨φ,hE,hS,λv H1 φ1 f1 s1 w1=>⟨k,by rw [e] at w1;exact w1,q _ H1 φ1 f1 s1 rfl⟩⟩
theorem lq {op} (h:IE K X a fa):IE K X (.BoolOp op [a] pos) fa:=⟨λenv st r hr=>yQ (h.run env st r hr)⟩
theorem iD {rest:List Expr} (ha:IE K X a fa) (hb:IE K X (.BoolOp .And (b::rest) pos) fb):IE K X (.BoolOp .And (a::b::rest) pos) (gE fa fb):=by
 refine⟨λenv st r hr=>?_⟩
 simp only [gE,Option.bind_eq_some_iff] at hr
 obtain⟨x,hx,k,hk,hr⟩:=hr
 have e:=n6 hk
 cases k with
 | false=>
  rw [if_neg Bool.false_ne_true] at hr
  cases hr
  refine (uN (ha.run _ _ _ hx) kl).imp ?_
  rintro σ H Q ⟨φ,hE,hS,q⟩
  refine⟨φ,hE,hS,λv H1 φ1 f1 s1 w1=>⟨false,by rw [e] at w1;exact w1,?_⟩⟩
  rw [if_neg Bool.false_ne_true]
  exact q _ H1 φ1 f1 s1 rfl
 | true=>
  rw [if_pos rfl] at hr
  refine (uN (ha.run _ _ _ hx) (hb.run _ _ _ hr)).imp ?_
  rintro σ H Q ⟨φ,hE,hS,q⟩
  refine⟨φ,hE,hS,λv H1 φ1 f1 s1 w1=>⟨true,by rw [e] at w1;exact w1,?_⟩⟩
  rw [if_pos rfl]
  exact⟨φ1,hE.fw hS f1,s1,λu H2 φ2 f2 s2 w2=>q u H2 φ2 (f1.trans f2) s2 w2⟩
variable {ta tb:Tf}
theorem jr (ha:IT K X a ta):IT K X (.UnaryOp .Not a pos) (iS ta):=by
 refine⟨λenv st r hr=>?_⟩
 simp only [iS,Option.map_eq_some_iff] at hr
 obtain⟨x,hx,rfl⟩:=hr
 refine (yn (ha.run _ _ _ hx)).imp ?_
 rintro σ H Q ⟨φ,hE,hS,q⟩
 exact⟨φ,hE,hS,λH1 φ1 f1 s1=>q H1 φ1 f1 s1⟩
theorem p6 (h:ITW K X a ta):IT K X a ta:=⟨λenv st r hr=>(h.run env st r hr).pt⟩
theorem vB (h:IT K X a ta):ITW K X (.BoolOp .And [a] pos) ta:=⟨λenv st r hr=>vS (h.run env st r hr)⟩
theorem rF (h:IT K X a ta):ITW K X (.BoolOp .Or [a] pos) ta:=⟨λenv st r hr=>yo (h.run env st r hr)⟩
theorem wY {rest:List Expr} (ha:IT K X a ta) (hb:ITW K X (.BoolOp .And (b::rest) pos) tb):ITW K X (.BoolOp .And (a::b::rest) pos) (mw ta tb):=by
 refine⟨λenv st r hr=>?_⟩
 simp only [mw,Option.bind_eq_some_iff] at hr
 obtain⟨⟨k,s1⟩,hx,hr⟩:=hr
 cases k with
 | false=>
  rw [if_neg Bool.false_ne_true] at hr
  cases hr
  refine (vJ (ha.run _ _ _ hx) oD).imp ?_
  rintro σ H Q ⟨φ,hE,hS,q⟩
  refine⟨φ,hE,hS,λH1 φ1 f1 s1=>?_⟩
  refine rS ?_
  exact q H1 φ1 f1 s1
 | true=>
  rw [if_pos rfl] at hr
  refine (vJ (ha.run _ _ _ hx) (hb.run _ _ _ hr)).imp ?_
  rintro σ H Q ⟨φ,hE,hS,q⟩
  refine⟨φ,hE,hS,λH1 φ1 f1 s1=>?_⟩
  refine so ?_
  exact⟨φ1,hE.fw hS f1,s1,λH2 φ2 f2 s2=>q H2 φ2 (f1.trans f2) s2⟩
theorem ud {rest:List Expr} (ha:IT K X a ta) (hb:ITW K X (.BoolOp .Or (b::rest) pos) tb):ITW K X (.BoolOp .Or (a::b::rest) pos) (uj ta tb):=by
 refine⟨λenv st r hr=>?_⟩
 simp only [uj,Option.bind_eq_some_iff] at hr
 obtain⟨⟨k,s1⟩,hx,hr⟩:=hr
 cases k with
 | true=>
  rw [if_pos rfl] at hr
  cases hr
  refine (xO (ha.run _ _ _ hx) oD).imp ?_
  rintro σ H Q ⟨φ,hE,hS,q⟩
  refine⟨φ,hE,hS,λH1 φ1 f1 s1=>?_⟩
  refine so ?_
  exact q H1 φ1 f1 s1
 | false=>
  rw [if_neg Bool.false_ne_true] at hr
  refine (xO (ha.run _ _ _ hx) (hb.run _ _ _ hr)).imp ?_
  rintro σ H Q ⟨φ,hE,hS,q⟩
  refine⟨φ,hE,hS,λH1 φ1 f1 s1=>?_⟩
  refine rS ?_
  exact⟨φ1,hE.fw hS f1,s1,λH2 φ2 f2 s2=>q H2 φ2 (f1.trans f2) s2⟩
theorem rm {tc:Tf} (hc:IT K X c tc) (ha:IE K X a fa) (hb:IE K X b fb):IE K X (.IfExp c a b pos) (lT tc fa fb):=by
 refine⟨λenv st r hr=>?_⟩
 simp only [lT,Option.bind_eq_some_iff] at hr
 obtain⟨⟨k,s1⟩,hx,hr⟩:=hr
 cases k with
 | true=>
  rw [if_pos rfl] at hr
  refine (n4 (hc.run _ _ _ hx) (ha.run _ _ _ hr) kl).imp ?_
  rintro σ H Q ⟨φ,hE,hS,q⟩
  refine⟨φ,hE,hS,λH1 φ1 f1 s1=>?_⟩
  refine so ?_
  exact⟨φ1,hE.fw hS f1,s1,λu H2 φ2 f2 s2 w2=>q u H2 φ2 (f1.trans f2) s2 w2⟩
 | false=>
  rw [if_neg Bool.false_ne_true] at hr
  refine (n4 (hc.run _ _ _ hx) kl (hb.run _ _ _ hr)).imp ?_
  rintro σ H Q ⟨φ,hE,hS,q⟩
  refine⟨φ,hE,hS,λH1 φ1 f1 s1=>?_⟩
  refine rS ?_
  exact⟨φ1,hE.fw hS f1,s1,λu H2 φ2 f2 s2 w2=>q u H2 φ2 (f1.trans f2) s2 w2⟩
noncomputable def dN (st:Sto):W->Option (List D)
 | .d (.tup ds)=>some ds
 | .d (.lst ds)=>some ds
 | .d (.scr ns)=>some (ns.map D.int)
 | .h n=>lg st n
 | _=>none
theorem pA {st:Sto}{H:Hp}{φ:List Addr}{w:W}{v:V}{ds:List D} (S:Sr K H φ st) (r:Rw K H φ w v) (e:dN st w=some ds):∃ a vs,v=.ref a/\(SqL K H a vs\/H a=some (.tup vs))/\Rls K H φ ds vs:=by
 cases w with
 | h n=>
  obtain⟨a,ea,rfl⟩:=r
  obtain⟨vs,q,rl⟩:=S.atl n a ds ea e
  exact⟨a,vs,rfl,.inl (SqL.of q),rl⟩
 | d x=>
  cases x with
  | tup es=>cases e;obtain⟨a,vs,rfl,h1,h2⟩:=r;exact⟨a,vs,rfl,.inr h1,h2⟩
  | lst es=>cases e;obtain⟨a,vs,rfl,h0,h1,h2⟩:=r;exact⟨a,vs,rfl,.inl (.inl h1),h2⟩
  | scr ns=>
   cases e
   obtain⟨a,rfl,h⟩:=r
   refine⟨a,_,rfl,.inl ?_,Rls.of_ints ns⟩
   rcases h with⟨o,h⟩ | h
   ·exact .inl (.inr ⟨o,h⟩)
   ·exact .inr h
  | _=>cases e
theorem m4 {st:Sto}{H:Hp}{φ:List Addr}{w:W}{v:V}{ds:List D} (S:Sr K H φ st) (r:Rw K H φ w v) (e:dN st w=some ds):∃ a vs,v=.ref a/\(SqL K H a vs\/SqT K H a vs)/\Rls K H φ ds vs:=by
 obtain⟨a,vs,h0,h1,h2⟩:=pA S r e
 exact⟨a,vs,h0,h1.imp id SqT.of,h2⟩
noncomputable def lX (st:Sto):W->Option Bool
 | .d .non=>some false
 | .d (.bl b)=>some b
 | .d (.int i)=>some (i != 0)
 | w=>(dN st w).map λds=>!ds.isEmpty
theorem vY {st:Sto}{H:Hp}{φ:List Addr}{w:W}{v:V}{k:Bool} (S:Sr K H φ st) (r:Rw K H φ w v) (e:lX st w=some k):wg K v H k:=by
 have seq:∀ ds,dN st w=some ds->k=!ds.isEmpty->wg K v H k:=λds h hk=>by
  obtain⟨a,vs,rfl,h1,h2⟩:=m4 S r h
  have hl:=h2.length
  have e':k=!vs.isEmpty:=by
   rw [hk]
   cases ds<;>cases vs<;>first | rfl | cases hl
  rcases h1 with h1 | h1
  ·exact .inl ⟨vs,h1,e'⟩
  ·exact .inr (.inl ⟨vs,h1,e'⟩)
 cases w with
 | h n=>
  obtain⟨ds,h1,h2⟩:=Option.map_eq_some_iff.mp e
  exact seq ds h1 h2.symm
 | d x=>
  cases x with
  | non=>have r':v=.non:=r;subst r';cases e;exact rfl
  | bl b=>have r':v=.bl b:=r;subst r';cases e;exact rfl
  | int i=>have r':v=.int i:=r;subst r';cases e;exact rfl
  | tup ds=>exact seq ds rfl (Option.some.inj e).symm
  | lst ds=>exact seq ds rfl (Option.some.inj e).symm
  | scr ds=>exact seq _ rfl (Option.some.inj e).symm
  | _=>cases e
theorem jv (ha:IE K X a fa) (he:uH a=true:=by rfl) (hK:X.K=K:=by rfl):IT K X a (nR lX fa):=by
 subst hK
 refine⟨λenv st r hr=>?_⟩
 simp only [nR,Option.bind_eq_some_iff,Option.map_eq_some_iff] at hr
 obtain⟨x,hx,k,hk,rfl⟩:=hr
 refine (vb (ha.run _ _ _ hx) (sF he)).imp ?_
 rintro σ H Q ⟨φ,hE,hS,q⟩
 exact⟨φ,hE,hS,λv H1 φ1 f1 s1 w1=>⟨k,vY s1 w1 hk,q H1 φ1 f1 s1⟩⟩
variable {af:Af}
theorem ag:IA K X [] aj:=by
 refine⟨λenv st r hr=>?_⟩
 cases hr
 refine yX.imp ?_
 rintro σ H Q ⟨φ,hE,hS,q⟩
 exact q [] H φ (Fw.refl φ H) hS rfl
theorem ab (ha:IE K X e fa) (hr:IA K X es af) (hs:aO e=true:=by rfl):IA K X (e::es) (ae fa af):=by
 refine⟨λenv st r h=>?_⟩
 simp only [ae,Option.bind_eq_some_iff,Option.map_eq_some_iff] at h
 obtain⟨x,hx,y,hy,rfl⟩:=h
 refine (xi (ha.run _ _ _ hx) (hr.run _ _ _ hy) (cD hs)).imp ?_
 rintro σ H Q ⟨φ,hE,hS,q⟩
 refine⟨φ,hE,hS,λv H1 φ1 f1 s1 w1=>⟨φ1,hE.fw hS f1,s1,λu H2 φ2 f2 s2 w2=>?_⟩⟩
 exact q _ H2 φ2 (f1.trans f2) s2 ⟨v,u,rfl,w1.fw s1 f2,w2⟩
theorem bb {x:Str}{id:String}{p:Pos}{g:Sto->List W->Option D} (hc:eS K X (.builtin id) g) (hg:Gl X x) (hm:X.mg x=none) (hv:bootBuiltins x=some (.builtin id)) (ha:IA K X (e::es) af)
  (hn:x≠"__name__":=by decide) (hdb:(x==("__debug__" : Str))=false:=by decide) (hs:aO e=true:=by rfl) (hp:es.all aO=true:=by rfl) :
  IE K X (.Call (.Name x p) (e::es) [] pos) (iCB g af):=by
 refine⟨λenv st r hr=>?_⟩
 simp only [iCB,Option.bind_eq_some_iff,Option.map_eq_some_iff] at hr
 obtain⟨y,hy,d,hd,rfl⟩:=hr
 refine (oT (hc.run _ _ _ hd) hg hm hv (ha.run _ _ _ hy) hn hdb (cD hs) (eJ hp)).imp ?_
 rintro σ H Q ⟨φ,hE,hS,q⟩
 exact⟨φ,hE,hS,λv H1 φ1 f1 s1 w1=>⟨φ1,s1,w1,λu H2 f2 w2=>q u H2 φ1 (f1.trans (Fw.same f2)) (s1.same f2) w2⟩⟩
theorem gw {x:Str}{T:String}{p:Pos}{g:Sto->List W->Option D} (hc:eS K X (.type T) g) (hg:Gl X x) (hm:X.mg x=none) (hv:bootBuiltins x=some (.type T)) (ha:IA K X (e::es) af)
  (hn:x≠"__name__":=by decide) (hdb:(x==("__debug__" : Str))=false:=by decide) (hs:aO e=true:=by rfl) (hp:es.all aO=true:=by rfl) :
  IE K X (.Call (.Name x p) (e::es) [] pos) (iCB g af):=by
 refine⟨λenv st r hr=>?_⟩
 simp only [iCB,Option.bind_eq_some_iff,Option.map_eq_some_iff] at hr
 obtain⟨y,hy,d,hd,rfl⟩:=hr
 refine (rN (hc.run _ _ _ hd) hg hm hv (ha.run _ _ _ hy) hn hdb (cD hs) (eJ hp)).imp ?_
 rintro σ H Q ⟨φ,hE,hS,q⟩
 exact⟨φ,hE,hS,λv H1 φ1 f1 s1 w1=>⟨φ1,s1,w1,λu H2 f2 w2=>q u H2 φ1 (f1.trans (Fw.same f2)) (s1.same f2) w2⟩⟩
theorem xX {x:Str}{id:String}{p:Pos}{g:Sto->List W->Option (List D)} (hc:xE K X (.builtin id) g) (hg:Gl X x) (hm:X.mg x=none) (hv:bootBuiltins x=some (.builtin id)) (ha:IA K X (e::es) af)
  (hn:x≠"__name__":=by decide) (hdb:(x==("__debug__" : Str))=false:=by decide) (hs:aO e=true:=by rfl) (hp:es.all aO=true:=by rfl) :
  IL K X (.Call (.Name x p) (e::es) [] pos) (iCL g af):=by
 refine⟨λenv st r hr=>?_⟩
 simp only [iCL,Option.bind_eq_some_iff,Option.map_eq_some_iff] at hr
 obtain⟨y,hy,d,hd,rfl⟩:=hr
 refine (oT (hc.run _ _ _ hd) hg hm hv (ha.run _ _ _ hy) hn hdb (cD hs) (eJ hp)).imp ?_
 rintro σ H Q ⟨φ,hE,hS,q⟩
 exact⟨φ,hE,hS,λv H1 φ1 f1 s1 w1=>⟨φ1,s1,w1,λa us H2 f2 n2 w2=>q a us H2 φ1 (f1.trans (Fw.same f2)) (s1.same f2) n2 w2⟩⟩
theorem ko {H:Hp}{φ:List Addr}:∀ {ws:List W}{vs:List V}{ds:List D},iZ ws=some ds->Rws K H φ ws vs->Rls K H φ ds vs
 | [],_,_,e,h=>by cases e;exact h
 | .d x::ws,_,_,e,h=>by
  obtain⟨v,r,rfl,h1,h2⟩:=h
  obtain⟨es,e1,rfl⟩:=Option.map_eq_some_iff.mp e
  exact⟨v,r,rfl,h1,ko e1 h2⟩
 | .h n::ws,_,_,e,h=>by cases e
theorem vg {x1} (h:IA K X es af):IE K X (.Tuple es x1 pos) (mh af):=by
 refine⟨λenv st r hr=>?_⟩
 simp only [mh,Option.bind_eq_some_iff] at hr
 obtain⟨y,hy,ds,hd,hr⟩:=hr
 split at hr
 ·cases hr
  rename_i hl
  refine (ye (h.run _ _ _ hy)).imp ?_
  rintro σ H Q ⟨φ,hE,hS,q⟩
  refine⟨φ,hE,hS,λvs H1 φ1 f1 s1 w1=>?_⟩
  have w:=ko hd w1
  refine⟨by rw [<-w.length];exact ki hl,λp hp=>?_⟩
  exact q _ _ φ1 (f1.trans (Fw.new hp)) (s1.new hp) ⟨p,vs,rfl,aW,w.fw s1 (Fw.new hp)⟩
 ·cases hr
theorem fV (h:IA K X es af):IL K X (.List es pos) (eN af):=by
 refine⟨λenv st r hr=>?_⟩
 simp only [eN,Option.bind_eq_some_iff] at hr
 obtain⟨y,hy,ds,hd,hr⟩:=hr
 split at hr
 ·cases hr
  rename_i hl
  refine (vA (h.run _ _ _ hy)).imp ?_
  rintro σ H Q ⟨φ,hE,hS,q⟩
  refine⟨φ,hE,hS,λvs H1 φ1 f1 s1 w1=>?_⟩
  have w:=ko hd w1
  exact⟨by rw [<-w.length];exact ki hl,λp hp=>q p vs H1 φ1 f1 s1 hp w⟩
 ·cases hr
theorem aR {lf:Lf} (h:IL K X e lf):IE K X e (aJ lf):=by
 refine⟨λenv st r hr=>?_⟩
 simp only [aJ,Option.map_eq_some_iff] at hr
 obtain⟨y,hy,rfl⟩:=hr
 refine (h.run _ _ _ hy).imp ?_
 rintro σ H Q ⟨φ,hE,hS,q⟩
 refine⟨φ,hE,hS,λa vs H1 φ1 f1 s1 n1 w1=>?_⟩
 exact q _ _ φ1 (f1.trans (Fw.new n1)) (s1.new n1) ⟨a,vs,rfl,s1.nin n1,.inl aW,w1.fw s1 (Fw.new n1)⟩
theorem Sr.moreC {H:Hp}{φ:List Addr}{st:Sto}{a:Addr}{o:HO}{c:C} (S:Sr K H φ st) (n:H a=none) (w:Rc K (upd H a o) (φ++[a]) φ.length a c):Sr K (upd H a o) (φ++[a]) (st++[c]):=by
 have f:Fw φ (φ++[a]) H (upd H a o):=⟨⟨[a],rfl,λb hb=>by rw [List.mem_singleton.mp hb];exact n⟩,λb o _ h=>bp.new n _ b o h,λb o h=>⟨o,bp.new n _ b o h⟩⟩
 refine⟨?_,by rw [List.length_append,List.length_append,S.len];rfl,λi b es e1 e2=>?_⟩
 ·rw [List.nodup_append]
  refine⟨S.nd,by simp,λx hx y hy e=>?_⟩
  rw [List.mem_singleton.mp hy] at e
  rw [e] at hx
  exact S.nin n hx
 ·by_cases hi:i < φ.length
  ·rw [List.getElem?_append_left hi] at e1
   rw [List.getElem?_append_left (by rw [<-S.len];exact hi)] at e2
   exact (S.at_ i b es e1 e2).fw S f λo h=>bp.new n _ _ _ h
  ·have e:i=φ.length:=by
    have:=(List.getElem?_eq_some_iff.mp e1).1
    rw [List.length_append] at this
    simp at this
    lia
   subst e
   rw [List.getElem?_append_right (Nat.le_refl _)] at e1
   rw [S.len,List.getElem?_append_right (Nat.le_refl _)] at e2
   simp at e1 e2
   subst e1 e2
   exact w
theorem Fw.moreO {H:Hp}{φ:List Addr}{a:Addr}{o:HO} (n:H a=none):Fw φ (φ++[a]) H (upd H a o):=
 ⟨⟨[a],rfl,λb hb=>by rw [List.mem_singleton.mp hb];exact n⟩,λb o _ h=>bp.new n _ b o h,λb o h=>⟨o,bp.new n _ b o h⟩⟩
theorem Fw.more {H:Hp}{φ:List Addr}{a:Addr}{vs:List V} (n:H a=none):Fw φ (φ++[a]) H (upd H a (.lst vs)):=Fw.moreO n
theorem Sr.more {H:Hp}{φ:List Addr}{st:Sto}{a:Addr}{vs:List V}{ds:List D} (S:Sr K H φ st) (n:H a=none) (w:Rls K H φ ds vs):Sr K (upd H a (.lst vs)) (φ++[a]) (st++[.l ds]):=
 S.moreC n ⟨vs,aW,w.fw S (Fw.moreO n)⟩
theorem mW {lf:Lf} (h:IL K X e lf):IE K X e (jo lf):=by
 refine⟨λenv st r hr=>?_⟩
 simp only [jo,Option.map_eq_some_iff] at hr
 obtain⟨y,hy,rfl⟩:=hr
 refine (h.run _ _ _ hy).imp ?_
 rintro σ H Q ⟨φ,hE,hS,q⟩
 refine⟨φ,hE,hS,λa vs H1 φ1 f1 s1 n1 w1=>?_⟩
 exact q _ _ (φ1++[a]) (f1.trans (Fw.more n1)) (s1.more n1 w1) ⟨a,by rw [<-s1.len];simp,rfl⟩
noncomputable def spI (K:PySem.W.Frag) (m:Fn):Sp:=λvs H Q _=>∃ φ st ws r,m ws st=some r/\Rws K H φ ws vs/\Sr K H φ st/\∀ v H' φ',Fw φ φ' H H'->Sr K H' φ' r.2->Rw K H' φ' r.1 v->Q v H'
theorem aq {x:Str}{k j:Nat}{ff:Addr}{fd:FuncData}{ps:List Str}{m:Fn}{p:Pos} (F:aL X.prog X.w X.K X.mg X.base CX0 j ff fd ps (spI K m)) (hjk:j<=k) (hr:bn k X.A) (hg:Gl X x) (hm:X.mg x=some (.ref ff)) (hk:PySem.W.keepIn X.K (.ref ff)=true) (hb:bq X.K fd ps [])
  (ha:IA K X (e::es) af) (hdb:(x==("__debug__" : Str))=false:=by decide) (hs:aO e=true:=by rfl) (hp:es.all aO=true:=by rfl) :
  IE K X (.Call (.Name x p) (e::es) [] pos) (aD m af):=by
 refine⟨λenv st r h=>?_⟩
 simp only [aD,Option.bind_eq_some_iff] at h
 obtain⟨y,hy,h⟩:=h
 refine (wX (F.mono hjk) hr hg hm hk hb .nil Ao (ha.run _ _ _ hy) hdb (cD hs) (eJ hp)).imp ?_
 rintro σ H Q ⟨φ,hE,hS,q⟩
 refine⟨φ,hE,hS,λvs H1 φ1 f1 s1 w1=>?_⟩
 show spI K m (vs++[]) H1 Q E0
 rw [List.append_nil]
 exact⟨φ1,y.2,y.1,r,h,w1,s1,λv H2 φ2 f2 s2 w2=>q v H2 φ2 (f1.trans f2) s2 w2⟩
end
end L2
namespace L2
open PySem PySem.Spec PyProof.Rows
inductive Fl where
 | nx (env:Ev) (st:Sto) | rt (w:W) (st:Sto) | bk (env:Ev) (st:Sto) | ct (env:Ev) (st:Sto)
abbrev Sf:=Ev->Sto->Option Fl
noncomputable def uT (K:PySem.W.Frag) (φ:List Addr) (H:Hp) (D:og):Fl->Prop
 | .nx e s=>∀ σ' H' φ',Fw φ φ' H H'->Er K H' φ' e σ'->Sr K H' φ' s->D.nx σ' H'
 | .rt w s=>∀ v H' φ',Fw φ φ' H H'->Sr K H' φ' s->Rw K H' φ' w v->D.rt v H'
 | .bk e s=>∀ σ' H' φ',Fw φ φ' H H'->Er K H' φ' e σ'->Sr K H' φ' s->D.bk σ' H'
 | .ct e s=>∀ σ' H' φ',Fw φ φ' H H'->Er K H' φ' e σ'->Sr K H' φ' s->D.ct σ' H'
theorem uT.fw {K:PySem.W.Frag}{φ φ1:List Addr}{H H1:Hp}{D:og}{r:Fl} (h:uT K φ H D r) (f:Fw φ φ1 H H1):uT K φ1 H1 D r:=by
 cases r with
 | nx e s=>exact λσ' H' φ' f'=>h σ' H' φ' (f.trans f')
 | rt w s=>exact λv H' φ' f'=>h v H' φ' (f.trans f')
 | bk e s=>exact λσ' H' φ' f'=>h σ' H' φ' (f.trans f')
 | ct e s=>exact λσ' H' φ' f'=>h σ' H' φ' (f.trans f')
noncomputable def tS (K:PySem.W.Frag) (env:Ev) (st:Sto) (r:Fl):TS:=λD σ H=>∃ φ,Er K H φ env σ/\Sr K H φ st/\uT K φ H D r
structure IS (K:PySem.W.Frag) (X:Cx) (s:Stmt) (g:Sf):Prop where
 run:∀ env st r,g env st=some r->PS X s (tS K env st r)
structure ISs (K:PySem.W.Frag) (X:Cx) (s:List Stmt) (g:Sf):Prop where
 run:∀ env st r,g env st=some r->PSs X s (tS K env st r)
inductive Tg where
 | nm (i:Nat) | tp (is:List Nat)
noncomputable def xm:Tg->List Nat
 | .nm i=>[i]
 | .tp is=>is
noncomputable def jJ:List Nat->List D->Ev->Ev
 | i::is,d::ds,env=>jJ is ds (env.set i (some (.d d)))
 | _,_,env=>env
noncomputable def dM:Tg->W->Ev->Option Ev
 | .nm i,w,env=>some (env.set i (some w))
 | .tp is,.d (.tup ds),env=>if is.length=ds.length then some (jJ is ds env) else none
 | .tp is,.d (.lst ds),env=>if is.length=ds.length then some (jJ is ds env) else none
 | _,_,_=>none
noncomputable def vM (is:List Nat) (σ σ':St):Prop:=σ'.length=σ.length/\∀ j,j ∉ is->σ'[j]?=σ[j]?
noncomputable def tG (K:PySem.W.Frag) (g:Tg):TG:=λv σ H Q=>∃ φ st env w env',Er K H φ env σ/\Sr K H φ st/\Rw K H φ w v/\dM g w env=some env'/\∀ σ',Er K H φ env' σ'->vM (xm g) σ σ'->Q σ' H
noncomputable def tGs (K:PySem.W.Frag) (is:List Nat):TGs:=λvs σ H Q=>∃ φ st env ds,Er K H φ env σ/\Sr K H φ st/\Rls K H φ ds vs/\is.length=ds.length/\∀ σ',Er K H φ (jJ is ds env) σ'->vM is σ σ'->Q σ' H
noncomputable def dA:Sf
 | env,st=>some (.nx env st)
noncomputable def ap (a b:Sf):Sf
 | env,st=>(a env st).bind λr=>match r with
 | .nx e s=>b e s
 | r=>some r
noncomputable def aP (g:Tg) (f:Ef):Sf
 | env,st=>(f env st).bind λr=>(dM g r.1 env).map λe=>.nx e r.2
noncomputable def la (st:Sto) (o i v:W):Option Sto:=match o,i,v with
 | .h n,.d (.int k),.d x=>(lg st n).bind λds=>(ixN ds.length k).map λj=>st.set n (.l (ds.set j x))
 | _,_,_=>none
noncomputable def gv (o i v:Ef):Sf
 | env,st=>(v env st).bind λrv=>(o env rv.2).bind λro=>(i env ro.2).bind λri=>(la ri.2 ro.1 ri.1 rv.1).map λs=>.nx env s
noncomputable def bg (f:Ef):Sf
 | env,st=>(f env st).map λr=>.rt r.1 r.2
noncomputable def i6 (f:Ef):Sf
 | env,st=>(f env st).map λr=>.nx env r.2
noncomputable def eA (c:Tf) (a b:Sf):Sf
 | env,st=>(c env st).bind λr=>if r.1=true then a env r.2 else b env r.2
noncomputable def jZ (g:Tg) (body:Sf):List D->Ev->Sto->Option Fl
 | [],env,st=>some (.nx env st)
 | d::ds,env,st=>(dM g (.d d) env).bind λe=>(body e st).bind λr=>match r with
  | .nx e s=>jZ g body ds e s
  | .ct e s=>jZ g body ds e s
  | .bk e s=>some (.nx e s)
  | .rt w s=>some (.rt w s)
noncomputable def fq (fi:Lf) (g:Tg) (body:Sf):Sf
 | env,st=>(fi env st).bind λr=>jZ g body r.1 env r.2
noncomputable def cb (c:Tf) (body:Sf):Nat->Ev->Sto->Option Fl
 | 0,_,_=>none
 | n+1,env,st=>(c env st).bind λk=>if k.1=true then (body env k.2).bind λr=>match r with
   | .nx e s=>cb c body n e s
   | .ct e s=>cb c body n e s
   | .bk e s=>some (.nx e s)
   | .rt w s=>some (.rt w s)
  else some (.nx env k.2)
noncomputable def lcI (g:Tg) (tt:Tf) (te:Ef) (env:Ev):List D->Sto->Option (List D×Sto)
 | [],st=>some ([],st)
 | d::ds,st=>(dM g (.d d) env).bind λe=>(tt e st).bind λb=>if b.1=true then (te e b.2).bind λx=>(iZ [x.1]).bind λys=>(lcI g tt te env ds x.2).map λr=>(ys++r.1,r.2)
   else lcI g tt te env ds b.2
noncomputable def gT (k:Nat) (js:List Nat) (env:Ev):Ev:=List.replicate k none++js.map λj=>env.getD j none
noncomputable def iLc (k:Nat) (js:List Nat) (fi:Lf) (g:Tg) (tt:Tf) (te:Ef):Lf
 | env,st=>(fi env st).bind λr=>if r.1.length<=1000000 then lcI g tt te (gT k js env) r.1 r.2 else none
noncomputable def dD:Tf
 | _,st=>some (true,st)
noncomputable def bm (f:Ef):Lf
 | env,st=>(f env st).bind λr=>match r.1 with
 | .d (.tup ds)=>some (ds,r.2)
 | .d (.lst ds)=>some (ds,r.2)
 | _=>none
noncomputable def bU (lo:Int) (n:Nat):List D:=(List.range n).map λk:Nat=>D.int (lo+k)
noncomputable def bE (a:Af):Lf
 | env,st=>(a env st).bind λr=>match r.1 with
 | [.d (.int j)]=>if -(2 ^ 62)<=j/\j < 2 ^ 62 then some (bU 0 j.toNat,r.2) else none
 | _=>none
noncomputable def bS:Nat->List D->List D
 | _,[]=>[]
 | k,d::ds=>.tup [.int k,d]::bS (k+1) ds
noncomputable def gL (a:Af):Lf
 | env,st=>(a env st).bind λr=>match r.1 with
 | [.d (.tup ds)]=>some (bS 0 ds,r.2)
 | [.d (.lst ds)]=>some (bS 0 ds,r.2)
 | _=>none
section
variable {K:PySem.W.Frag}{X:Cx}{pos:Pos}
theorem PS.imp {s:Stmt}{t t':TS} (h:PS X s t) (m:∀ D σ H,t' D σ H->t D σ H):PS X s t':=λpins s σ H D I q=>h pins s σ H D I (m D σ H q)
theorem PSs.imp {s:List Stmt}{t t':TS} (h:PSs X s t) (m:∀ D σ H,t' D σ H->t D σ H):PSs X s t':=λpins s σ H D I q=>h pins s σ H D I (m D σ H q)
theorem Er.set {H:Hp}{φ:List Addr}{env:Ev}{σ:St} (h:Er K H φ env σ) (i:Nat) {w:W}{v:V} (r:Rw K H φ w v):Er K H φ (env.set i (some w)) (σ.set i (some v)):=by
 refine⟨by rw [List.length_set,List.length_set,h.len],λj w' e=>?_⟩
 by_cases hj:i=j
 ·subst hj
  have hi:i < env.length:=by
   have:=(List.getElem?_eq_some_iff.mp e).1
   rwa [List.length_set] at this
  rw [List.getElem?_set_self hi] at e
  cases e
  exact⟨v,by rw [List.getElem?_set_self (by rw [<-h.len];exact hi)],r⟩
 ·rw [List.getElem?_set_ne hj] at e
  obtain⟨v',e1,r1⟩:=h.at_ j w' e
  exact⟨v',by rw [List.getElem?_set_ne hj];exact e1,r1⟩
theorem vC (i:Nat) (σ:St) (v:Option V):vM [i] σ (σ.set i v):=⟨by rw [List.length_set],λj hj=>by rw [List.getElem?_set_ne (by rintro rfl;simp at hj)]⟩
theorem aQ {i:Nat}{x:Str} (h:PG X (.Name x pos) (oo i)):PG X (.Name x pos) (tG K (.nm i)):=by
 intro pins s σ H v u Q I rv q
 obtain⟨φ,st,env,w,env',hE,hS,r,e,q⟩:=q
 cases e
 exact h pins s σ H v u Q I rv (q _ (hE.set i r) (vC i σ _))
theorem iL:PGs X [] (tGs K []):=by
 intro pins s σ H vs us Q I rv q
 obtain⟨φ,st,env,ds,hE,hS,r,e,q⟩:=q
 cases ds with
 | nil=>cases r;exact wP pins s σ H [] us Q I rv ⟨rfl,q σ hE ⟨rfl,λ_ _=>rfl⟩⟩
 | cons _ _=>cases e
theorem cN {i:Nat}{is:List Nat}{x:Str}{es:List Expr} (h1:PG X (.Name x pos) (oo i)) (h2:PGs X es (tGs K is)):PGs X (.Name x pos::es) (tGs K (i::is)):=by
 intro pins s σ H vs us Q I rv q
 obtain⟨φ,st,env,ds,hE,hS,r,e,q⟩:=q
 cases ds with
 | nil=>cases e
 | cons d ds=>
  obtain⟨v,vr,rfl,r1,r2⟩:=r
  refine tK h1 h2 (qH rfl) pins s σ H _ us Q I rv ⟨v,vr,rfl,φ,st,_,ds,hE.set i (w:=.d d) r1,hS,r2,by simpa using e,λσ' e' s'=>q σ' e' ?_⟩
  refine⟨by rw [s'.1,List.length_set],λj hj=>?_⟩
  rw [s'.2 j (λz=>hj (List.mem_cons_of_mem _ z)),List.getElem?_set_ne (by rintro rfl;exact hj List.mem_cons_self)]
noncomputable def AN (K:PySem.W.Frag) (n:Nat) (t:TGs):TG:=λv σ H Q=>∃ a xs,v=.ref a/\SqL K H a xs/\xs.length=n/\t xs σ H Q
theorem yh {es:List Expr}{k:Nat}{t:TGs}{n:Nat} (hc:X.calm=true) (h:PGs X es t) (hn:(assignEach es X.env).length=n) (hst:(assignEach es X.env).findIdx? (·.1)=none):PG X (.Tuple es k pos) (AN X.K n t):=by
 intro pins s σ H v u Q I r hw
 obtain⟨a,xs,e1,hq,hl,hw⟩:=hw
 subst e1
 cases r
 obtain⟨its,rv,p,hz⟩:=I.list hq
 rw [assign_Tuple]
 refine wpAny_bind (wpAny_standAt ?_)
 unfold unpack
 rw [show (assignEach es X.env).length=its.toArray.size by simp [hn,<-hl,rv.length],hst]
 refine wpAny_bind (wpAny_holding (PySem.W.kun_itemsOf (I.ok.hd hc) p.isList λh' hx=>?_))
 have I1:Inv X pins σ H { s with heap:=h' }:=I.kept (t':=s.toks) λb o e=>hx b o (Nat.ne_of_lt (Heap.lt_size e)) e
 exact h pins _ σ H xs _ Q I1 (by simpa using rv) hw
theorem kH {es:List Expr}{k n:Nat}{is:List Nat} (h:PGs X es (tGs K is)) (hes:es.all aO=true:=by rfl) (hn:es.length=n:=by rfl) (hi:is.length=n:=by rfl) (hc:X.calm=true:=by rfl) (hK:X.K=K:=by rfl):PG X (.Tuple es k pos) (tG K (.tp is)):=by
 subst hK
 intro pins s σ H v u Q I rv q
 obtain⟨φ,st,env,w,env',hE,hS,r,e,q⟩:=q
 cases w with
 | h n=>cases e
 | d x=>
  cases x with
  | tup ds=>
   have e':(if is.length=ds.length then some (jJ is ds env) else none)=some env':=e
   by_cases hl:is.length=ds.length
   ·rw [if_pos hl] at e'
    cases e'
    obtain⟨a,vs,rfl,hq,hr⟩:=r
    exact ym hc h ((nU hes).trans hn) (kC hes) pins s σ H _ u Q I rv ⟨a,vs,rfl,(SqT.of hq),by rw [<-hr.length,<-hl,hi],φ,st,env,ds,hE,hS,hr,hl,q⟩
   ·rw [if_neg hl] at e'
    cases e'
  | lst ds=>
   have e':(if is.length=ds.length then some (jJ is ds env) else none)=some env':=e
   by_cases hl:is.length=ds.length
   ·rw [if_pos hl] at e'
    cases e'
    obtain⟨a,vs,rfl,_,hq,hr⟩:=r
    exact yh hc h ((nU hes).trans hn) (kC hes) pins s σ H _ u Q I rv ⟨a,vs,rfl,.inl hq,by rw [<-hr.length,<-hl,hi],φ,st,env,ds,hE,hS,hr,hl,q⟩
   ·rw [if_neg hl] at e'
    cases e'
  | _=>cases e
variable {s:Stmt}{ss rest:List Stmt}{e a b c:Expr}{ga gb:Sf}{f fa fb fc:Ef}
theorem cB:ISs K X [] dA:=by
 refine⟨λenv st r hr=>?_⟩
 cases hr
 exact we.imp λD σ H ⟨φ,hE,hS,q⟩=>q σ H φ (Fw.refl φ H) hE hS
theorem ao (h:IS K X s ga):ISs K X [s] ga:=⟨λenv st r hr=>xr (h.run env st r hr)⟩
theorem ak (h1:IS K X s ga) (h2:ISs K X rest gb):ISs K X (s::rest) (ap ga gb):=by
 refine⟨λenv st r hr=>?_⟩
 simp only [ap,Option.bind_eq_some_iff] at hr
 obtain⟨r1,e1,hr⟩:=hr
 cases r1 with
 | nx e s1=>
  refine (je (h1.run _ _ _ e1) (h2.run _ _ _ hr)).imp ?_
  rintro D σ H ⟨φ,hE,hS,q⟩
  exact⟨φ,hE,hS,λσ' H' φ' f' e' s'=>⟨φ',e',s',q.fw f'⟩⟩
 | rt w s1=>
  cases hr
  exact (je (h1.run _ _ _ e1) fH).imp λD σ H ⟨φ,hE,hS,q⟩=>⟨φ,hE,hS,q⟩
 | bk w s1=>
  cases hr
  exact (je (h1.run _ _ _ e1) fH).imp λD σ H ⟨φ,hE,hS,q⟩=>⟨φ,hE,hS,q⟩
 | ct w s1=>
  cases hr
  exact (je (h1.run _ _ _ e1) fH).imp λD σ H ⟨φ,hE,hS,q⟩=>⟨φ,hE,hS,q⟩
theorem aE {i:Nat}{x:Str}{pos':Pos} (hN:X.N.Nodup) (hi:X.N[i]?=some x) (hx:Loc X.env.scope x) (he:IE K X e f) (hs:swapsWith e (some (.Name x pos')) pos.line X.env=pure false:=by rfl) (hf:X.fn x=true\/X.env.scope.names.lookup x=some .local:=by first | exact .inl rfl | exact .inr rfl | assumption) :
  IS K X (.Assign [.Name x pos'] e pos) (aP (.nm i) f):=by
 refine⟨λenv st r hr=>?_⟩
 simp only [aP,dM,Option.bind_eq_some_iff,Option.map_eq_some_iff] at hr
 obtain⟨y,hy,e',ee,rfl⟩:=hr
 cases ee
 refine (yd hN hi hx (he.run _ _ _ hy) hs hf).imp ?_
 rintro D σ H ⟨φ,hE,hS,q⟩
 exact⟨φ,hE,hS,λv H1 φ1 f1 s1 w1=>q _ H1 φ1 f1 ((hE.fw hS f1).set i w1) s1⟩
theorem Sr.putC {H:Hp}{φ:List Addr}{st:Sto}{n:Nat}{a:Addr}{o:HO}{c:C} (S:Sr K H φ st) (hn:φ[n]?=some a) (w:Fw φ φ H (upd H a o)->Rc K (upd H a o) φ n a c) :
  Fw φ φ H (upd H a o)/\Sr K (upd H a o) φ (st.set n c):=by
 have ha:a ∈ φ:=List.mem_of_getElem? hn
 have f:Fw φ φ H (upd H a o):=⟨⟨[],by simp,by simp⟩,λb o hb h=>by rw [aF (λz=>hb (by rw [z];exact ha))];exact h,λb o h=>by
  by_cases z:b=a
  ·subst z;exact⟨_,aW⟩
  ·exact⟨o,by rw [aF z];exact h⟩⟩
 refine⟨f,S.nd,by rw [List.length_set];exact S.len,λm b es e1 e2=>?_⟩
 by_cases hm:n=m
 ·subst hm
  rw [e1] at hn;cases hn
  have hl:n < st.length:=by rw [<-S.len];exact (List.getElem?_eq_some_iff.mp e1).1
  rw [List.getElem?_set_self hl] at e2
  cases e2
  exact w f
 ·rw [List.getElem?_set_ne hm] at e2
  have q:=S.at_ m b es e1 e2
  have hne:b≠a:=by
   rintro rfl
   obtain⟨h1,h1'⟩:=List.getElem?_eq_some_iff.mp hn
   obtain⟨h2,h2'⟩:=List.getElem?_eq_some_iff.mp e1
   exact hm ((List.getElem_inj S.nd).mp (h1'.trans h2'.symm))
  exact q.fw S f λo h=>by rw [aF hne];exact h
theorem Sr.put {H:Hp}{φ:List Addr}{st:Sto}{n:Nat}{a:Addr}{vs:List V}{ds:List D} (S:Sr K H φ st) (hn:φ[n]?=some a) (w:Rls K H φ ds vs) :
  Fw φ φ H (upd H a (.lst vs))/\Sr K (upd H a (.lst vs)) φ (st.set n (.l ds)):=S.putC hn λf=>⟨vs,aW,w.fw S f⟩
theorem qv {st s':Sto}{o i v:W} (h:la st o i v=some s'):∃ n k x ds j,o=.h n/\i=.d (.int k)/\v=.d x/\lg st n=some ds/\ixN ds.length k=some j/\s'=st.set n (.l (ds.set j x)):=by
 unfold la at h
 split at h
 ·obtain⟨ds,e1,h⟩:=Option.bind_eq_some_iff.mp h
  obtain⟨j,e2,h⟩:=Option.map_eq_some_iff.mp h
  exact⟨_,_,_,ds,j,rfl,rfl,rfl,e1,e2,h.symm⟩
 ·cases h
theorem pE {tpos:Pos} (ho:IE K X a fa) (hi:IE K X b fb) (hv:IE K X e f) (hb:jq b=true:=by rfl) (hs:swapsWithSole [.Subscript a b tpos] e pos.line X.env=pure false:=by rfl) (hw:swappedStores [.Subscript a b tpos] e X.env=pure none:=by rfl) :
  IS K X (.Assign [.Subscript a b tpos] e pos) (gv fa fb f):=by
 refine⟨λenv st r hr=>?_⟩
 simp only [gv,Option.bind_eq_some_iff,Option.map_eq_some_iff] at hr
 obtain⟨rv,ev,ro,eo,ri,ei,s',es,rfl⟩:=hr
 refine (tZ (hv.run _ _ _ ev) (uF (ho.run _ _ _ eo) (hi.run _ _ _ ei) oA (rH hb)) hs hw (qN rfl)).imp ?_
 rintro D σ H ⟨φ,hE,hS,q⟩
 refine⟨φ,hE,hS,λv H1 φ1 f1 s1 w1=>⟨φ1,hE.fw hS f1,s1,λo H2 φ2 f2 s2 w2=>⟨φ2,(hE.fw hS f1).fw s1 f2,s2,λi H3 φ3 f3 s3 w3=>?_⟩⟩⟩
 have e3:=((hE.fw hS f1).fw s1 f2).fw s2 f3
 have w1':=(w1.fw s1 f2).fw s2 f3
 have w2':=w2.fw s2 f3
 obtain⟨ro1,ro2⟩:=ro
 obtain⟨rv1,rv2⟩:=rv
 obtain⟨ri1,ri2⟩:=ri
 obtain⟨n,k,x,ds,j,rfl,rfl,rfl,eds,ej,rfl⟩:=qv es
 obtain⟨p,ep,rfl⟩:=w2'
 obtain⟨vs,hp,rl⟩:=s3.atl n p ds ep eds
 have w3':i=.int k:=w3
 subst w3'
 obtain⟨f4,s4⟩:=s3.put ep (Rls.set j rl w1')
 refine⟨p,vs,k,j,rfl,rfl,hp,by rw [<-rl.length];exact ej,?_⟩
 exact q _ _ φ3 (((f1.trans f2).trans f3).trans f4) (e3.fw s3 f4) s4
theorem aC (h:IE K X e f):IS K X (.Return (some e) pos) (bg f):=by
 refine⟨λenv st r hr=>?_⟩
 simp only [bg,Option.map_eq_some_iff] at hr
 obtain⟨y,hy,rfl⟩:=hr
 exact (zt (h.run _ _ _ hy)).imp λD σ H ⟨φ,hE,hS,q⟩=>⟨φ,hE,hS,q⟩
theorem nt (h:IE K X e f) (hs:swapsWith e none pos.line X.env=pure false:=by rfl):IS K X (.Expr e pos) (i6 f):=by
 refine⟨λenv st r hr=>?_⟩
 simp only [i6,Option.map_eq_some_iff] at hr
 obtain⟨y,hy,rfl⟩:=hr
 exact (wE (h.run _ _ _ hy) hs).imp λD σ H ⟨φ,hE,hS,q⟩=>⟨φ,hE,hS,λv H1 φ1 f1 s1 w1=>q σ H1 φ1 f1 (hE.fw hS f1) s1⟩
theorem fB {tc:Tf}{sa sb:List Stmt} (hc:IT K X c tc) (ha:ISs K X sa ga) (hb:ISs K X sb gb):IS K X (.If c sa sb pos) (eA tc ga gb):=by
 refine⟨λenv st r hr=>?_⟩
 simp only [eA,Option.bind_eq_some_iff] at hr
 obtain⟨⟨k,s1⟩,hx,hr⟩:=hr
 cases k with
 | true=>
  rw [if_pos rfl] at hr
  refine (xV (hc.run _ _ _ hx) (ha.run _ _ _ hr) fH).imp ?_
  rintro D σ H ⟨φ,hE,hS,q⟩
  refine⟨φ,hE,hS,λH1 φ1 f1 s1=>so ?_⟩
  exact⟨φ1,hE.fw hS f1,s1,q.fw f1⟩
 | false=>
  rw [if_neg Bool.false_ne_true] at hr
  refine (xV (hc.run _ _ _ hx) fH (hb.run _ _ _ hr)).imp ?_
  rintro D σ H ⟨φ,hE,hS,q⟩
  refine⟨φ,hE,hS,λH1 φ1 f1 s1=>rS ?_⟩
  exact⟨φ1,hE.fw hS f1,s1,q.fw f1⟩
noncomputable def zT (K:PySem.W.Frag) (g:Sf):TS:=λD σ H=>∃ env st r,g env st=some r/\tS K env st r D σ H
noncomputable def xB (K:PySem.W.Frag) (f:Ef):TE:=λσ H Q=>∃ env st r,f env st=some r/\tI K env st r σ H Q
noncomputable def vq (K:PySem.W.Frag) (f:Tf):TT:=λσ H Q=>∃ env st r,f env st=some r/\tIT K env st r σ H Q
theorem ISs.any (h:ISs K X ss ga):PSs X ss (zT K ga):=λpins s σ H D I ⟨env,st,r,e,q⟩=>h.run env st r e pins s σ H D I q
theorem IE.any (h:IE K X e f):PE X e (xB K f):=λpins s σ H D I ⟨env,st,r,e,q⟩=>h.run env st r e pins s σ H D I q
theorem IT.any {tf:Tf} (h:IT K X e tf):PT X e (vq K tf):=λpins s σ H D I ⟨env,st,r,e,q⟩=>h.run env st r e pins s σ H D I q
noncomputable def Yl (K:PySem.W.Frag) (φ0:List Addr) (H0:Hp) (J:It) (ds:List D):Prop:=∀ (H:Hp) (φ:List Addr) (st:Sto) (i:Nat),Fw φ0 φ H0 H->Sr K H φ st->
 (∀ d,ds[i]?=some d->J.go i H/\∀ x H',J.yld i H x H'->bp H H'/\Rl K H' φ d x)/\(ds.length=i->J.stop i H)
noncomputable def tII (K:PySem.W.Frag) (env:Ev) (st:Sto) (r:List D×Sto):TI:=λσ H R=>∃ φ,Er K H φ env σ/\Sr K H φ st/\∀ J H' φ',Fw φ φ' H H'->Sr K H' φ' r.2->Yl K φ' H' J r.1->R J H'
structure II (K:PySem.W.Frag) (X:Cx) (tg iter:Expr) (f:Lf):Prop where
 run:∀ env st r,f env st=some r->PI X tg iter (tII K env st r)
theorem PI.imp {tg iter:Expr}{t t':TI} (h:PI X tg iter t) (m:∀ σ H R,t' σ H R->t σ H R):PI X tg iter t':=λpins s σ H R I q=>h pins s σ H R I (m σ H R q)
variable {tg:Expr}
end
end L2
namespace L2
open PySem PySem.Spec PyProof.Rows
section
variable {K:PySem.W.Frag}{X:Cx}{pos:Pos}{tg e a b:Expr}{f:Ef}{af:Af}
theorem cA (h:IE K X e f) (hK:X.K=K:=by rfl):II K X tg e (bm f):=by
 subst hK
 refine⟨λenv st r hr=>?_⟩
 simp only [bm,Option.bind_eq_some_iff] at hr
 obtain⟨⟨w,s1⟩,hy,hr⟩:=hr
 match w,hr with
 | .d (.tup ds),hr=>
  cases hr
  refine (ya (h.run _ _ _ hy)).imp ?_
  rintro σ H R ⟨φ,hE,hS,q⟩
  refine⟨φ,hE,hS,λv H1 φ1 f1 s1 w1=>?_⟩
  obtain⟨a,vs,rfl,hq,hr⟩:=w1
  refine⟨a,rfl,⟨vs,(SqT.of hq)⟩,q _ H1 φ1 f1 s1 λH2 φ2 st2 i f2 s2=>?_⟩
  have hq2:=(SqT.of hq).fw s1 f2
  have hr2:=hr.fw s1 f2
  refine⟨λd hd=>?_,λhi=>⟨vs,hq2,by rw [<-hr2.length];exact Nat.le_of_eq hi⟩⟩
  obtain⟨v,ev,rv⟩:=hr2.get hd
  refine⟨⟨vs,v,hq2,ev⟩,λx H' y=>?_⟩
  obtain⟨rfl,y⟩:=y
  have:=y vs hq2
  rw [ev] at this
  cases this
  exact⟨bp.refl _,rv⟩
 | .d (.lst ds),hr=>
  cases hr
  refine (xx (h.run _ _ _ hy)).imp ?_
  rintro σ H R ⟨φ,hE,hS,q⟩
  refine⟨φ,hE,hS,λv H1 φ1 f1 s1 w1=>?_⟩
  obtain⟨a,vs,rfl,h0,hq,hr⟩:=w1
  refine⟨a,rfl,⟨vs,.inl hq⟩,q _ H1 φ1 f1 s1 λH2 φ2 st2 i f2 s2=>?_⟩
  have hq2:SqL X.K H2 a vs:=.inl (hq.fw f2 h0)
  have hr2:=hr.fw s1 f2
  refine⟨λd hd=>?_,λhi=>⟨vs,hq2,by rw [<-hr2.length];exact Nat.le_of_eq hi⟩⟩
  obtain⟨v,ev,rv⟩:=hr2.get hd
  refine⟨⟨vs,v,hq2,ev⟩,λx H' y=>?_⟩
  obtain⟨rfl,y⟩:=y
  have:=y vs hq2
  rw [ev] at this
  cases this
  exact⟨bp.refl _,rv⟩
theorem pG (lo:Int) (n i:Nat):(bU lo n)[i]?=if i < n then some (.int (lo+i)) else none:=by
 unfold bU
 rw [List.getElem?_map]
 by_cases h:i < n
 ·rw [List.getElem?_range h,if_pos h];rfl
 ·rw [List.getElem?_eq_none (by simpa using h),if_neg h];rfl
theorem cy (lo:Int) (n:Nat):(bU lo n).length=n:=by unfold bU;rw [List.length_map,List.length_range]
theorem yB (lo:Int) (n:Nat) {φ:List Addr}{H:Hp}:Yl K φ H (Itr lo n) (bU lo n):=by
 intro H2 φ2 st2 i f2 s2
 refine⟨λd hd=>?_,λhi=>by rw [cy] at hi;exact Nat.le_of_eq hi⟩
 rw [pG] at hd
 by_cases h:i < n
 ·rw [if_pos h] at hd
  cases hd
  refine⟨h,λx H' y=>?_⟩
  obtain⟨rfl,rfl⟩:=y
  exact⟨bp.refl _,rfl⟩
 ·rw [if_neg h] at hd;cases hd
theorem cR {p:Pos} (hg:Gl X "range") (hm:X.mg "range" = none) (ha:IA K X [a] af) (hs:aO a=true:=by rfl):II K X tg (.Call (.Name "range" p) [a] [] pos) (bE af):=by
 refine⟨λenv st r hr=>?_⟩
 simp only [bE,Option.bind_eq_some_iff] at hr
 obtain⟨⟨ws,s1⟩,hy,hr⟩:=hr
 match ws,hr with
 | [.d (.int j)],hr=>
  have hr':(if -(2 ^ 62)<=j/\j < 2 ^ 62 then some (bU 0 j.toNat,s1) else none)=some r:=hr
  by_cases hj:-(2 ^ 62)<=j/\j < 2 ^ 62
  ·rw [if_pos hj] at hr'
   cases hr'
   refine (sn hg hm (ha.run _ _ _ hy) (gZ hs)).imp ?_
   rintro σ H R ⟨φ,hE,hS,q⟩
   refine⟨φ,hE,hS,λvs H1 φ1 f1 s1 w1=>?_⟩
   obtain⟨v,r,rfl,r1,rfl⟩:=w1
   exact⟨j,by rw [show v=.int j from r1],hj.1,hj.2,q _ H1 φ1 f1 s1 (yB 0 _)⟩
  ·rw [if_neg hj] at hr';cases hr'
theorem d7:∀ (ds:List D) (k i:Nat),(bS k ds)[i]?=(ds[i]?).map λd=>D.tup [.int ((k+i:Nat):Int),d]
 | [],k,i=>by simp [bS]
 | d::ds,k,0=>by simp [bS]
 | d::ds,k,i+1=>by
  have:=d7 ds (k+1) i
  rw [show k+1+i=k+(i+1) by lia] at this
  simpa [bS] using this
theorem ed:∀ (ds:List D) (k:Nat),(bS k ds).length=ds.length
 | [],_=>rfl
 | d::ds,k=>by rw [bS,List.length_cons,List.length_cons,ed ds]
theorem rc {S:Hp->List V->Prop}{ds:List D}{vs:List V}{φ:List Addr}{H:Hp} (hS:∀ H' φ',Fw φ φ' H H'->S H' vs) (hr:∀ H' φ',Fw φ φ' H H'->Rls K H' φ' ds vs):Yl K φ H (Ite S) (bS 0 ds):=by
 intro H2 φ2 st2 i f2 s2
 have q2:=hS H2 φ2 f2
 have r2:=hr H2 φ2 f2
 refine⟨λd hd=>?_,λhi=>⟨vs,q2,by rw [<-r2.length,<-ed ds 0];exact hi⟩⟩
 rw [d7,Option.map_eq_some_iff] at hd
 obtain⟨d',hd',rfl⟩:=hd
 obtain⟨v,ev,rv⟩:=r2.get hd'
 refine⟨⟨vs,v,q2,ev⟩,λx H' y=>?_⟩
 obtain⟨T,v',y1,hT,rfl,rfl⟩:=y
 have:=y1 vs q2
 rw [ev] at this
 cases this
 refine⟨bp.new hT _,T,_,rfl,aW,_,_,rfl,?_,_,_,rfl,rv.fw s2 (Fw.new hT),rfl⟩
 show V.int (i:Int)=V.int ((0+i:Nat):Int)
 rw [Nat.zero_add]
theorem mM {elts:List Expr}{k:Nat}{tpos p:Pos} (hg:Gl X "enumerate") (hm:X.mg "enumerate" = none) (ha:IA K X [a] af) (hs:aO a=true:=by rfl) (hK:X.K=K:=by rfl) :
  II K X (.Tuple elts k tpos) (.Call (.Name "enumerate" p) [a] [] pos) (gL af):=by
 subst hK
 refine⟨λenv st r hr=>?_⟩
 simp only [gL,Option.bind_eq_some_iff] at hr
 obtain⟨⟨ws,s1⟩,hy,hr⟩:=hr
 match ws,hr with
 | [.d (.tup ds)],hr=>
  cases hr
  refine (vw hg hm (ha.run _ _ _ hy) (gZ hs)).imp ?_
  rintro σ H R ⟨φ,hE,hS,q⟩
  refine⟨φ,hE,hS,λvs H1 φ1 f1 s1 w1=>?_⟩
  obtain⟨v,r,rfl,⟨a,us,rfl,hq,hr⟩,rfl⟩:=w1
  exact⟨a,rfl,⟨us,(SqT.of hq)⟩,q _ H1 φ1 f1 s1 (rc (λH' φ' f=>(SqT.of hq).fw s1 f) λH' φ' f=>hr.fw s1 f)⟩
 | [.d (.lst ds)],hr=>
  cases hr
  refine (ur hg hm (ha.run _ _ _ hy) (gZ hs)).imp ?_
  rintro σ H R ⟨φ,hE,hS,q⟩
  refine⟨φ,hE,hS,λvs H1 φ1 f1 s1 w1=>?_⟩
  obtain⟨v,r,rfl,⟨a,us,rfl,h0,hq,hr⟩,rfl⟩:=w1
  exact⟨a,rfl,⟨us,.inl hq⟩,q _ H1 φ1 f1 s1 (rc (λH' φ' f=>.inl (hq.fw f h0)) λH' φ' f=>hr.fw s1 f)⟩
theorem fo {iter:Expr}{body:List Stmt}{fi:Lf}{g:Tg}{gb:Sf} (hi:II K X tg iter fi) (hg:PG X tg (tG K g)) (hb:ISs K X body gb) (hp:PassesOwn (model X.prog X.w) X.A X.env X.xe) (hc:X.calm=true:=by rfl)
  (hs:∀ x,foldedSetIterable iter X.env x=pure x:=by intro _;rfl):IS K X (.For tg iter body [] pos) (fq fi g gb):=by
 refine⟨λenv st r hr=>?_⟩
 simp only [fq,Option.bind_eq_some_iff] at hr
 obtain⟨⟨ds,s1⟩,hy,hr⟩:=hr
 refine (yA hp hc (hi.run _ _ _ hy) hg hb.any hs).imp ?_
 rintro D σ H ⟨φ,hE,hS,q⟩
 refine⟨φ,hE,hS,λJ H1 φ1 f1 S1 yl=>?_⟩
 refine⟨λi m σ H=>m=ds.length - i/\i<=ds.length/\∃ env st φ2,Fw φ1 φ2 H1 H/\Er K H φ2 env σ/\Sr K H φ2 st/\jZ g gb (ds.drop i) env st=some r,⟨ds.length,by simp,Nat.zero_le _,env,s1,φ1,Fw.refl _ _,hE.fw hS f1,S1,hr⟩,?_⟩
 rintro i m σ H2 ⟨rfl,hi,env2,st2,φ2,f2,e2,S2,h2⟩
 obtain⟨y1,y2⟩:=yl H2 φ2 st2 i f2 S2
 by_cases hlt:i < ds.length
 ·obtain⟨go,yld⟩:=y1 ds[i] (List.getElem?_eq_getElem hlt)
  rw [List.drop_eq_getElem_cons hlt] at h2
  simp only [jZ,Option.bind_eq_some_iff] at h2
  obtain⟨e3,he3,r3,hr3,h3⟩:=h2
  refine .inr ⟨go,λσ' H'=>i+1<=ds.length/\∃ env st φ2,Fw φ1 φ2 H1 H'/\Er K H' φ2 env σ'/\Sr K H' φ2 st/\jZ g gb (ds.drop (i+1)) env st=some r,λσ' H' ⟨hn,p'⟩=>⟨ds.length - (i+1),by lia,rfl,hn,p'⟩,λx H' y=>?_⟩
  obtain⟨sm,rx⟩:=yld x H' y
  have S3:=S2.same sm
  have f3:=f2.trans (Fw.same (φ:=φ2) sm)
  refine⟨φ2,st2,env2,.d ds[i],e3,e2.fw S2 (Fw.same sm),S3,rx,he3,λσ' e' _=>?_⟩
  refine⟨e3,st2,r3,hr3,φ2,e',S3,?_⟩
  cases r3 with
  | nx e4 s4=>exact λσ4 H4 φ4 f4 e4' s4'=>⟨hlt,e4,s4,φ4,f3.trans f4,e4',s4',h3⟩
  | ct e4 s4=>exact λσ4 H4 φ4 f4 e4' s4'=>⟨hlt,e4,s4,φ4,f3.trans f4,e4',s4',h3⟩
  | bk e4 s4=>
   cases h3
   exact λσ4 H4 φ4 f4 e4' s4'=>q σ4 H4 φ4 (f1.trans (f3.trans f4)) e4' s4'
  | rt w s4=>
   cases h3
   exact λv H4 φ4 f4 s4' w4=>q v H4 φ4 (f1.trans (f3.trans f4)) s4' w4
 ·have hi':i=ds.length:=by lia
  subst hi'
  rw [List.drop_length] at h2
  cases h2
  exact .inl ⟨y2 rfl,q σ H2 φ2 (f1.trans f2) e2 S2⟩
noncomputable def gF (n:Nat) (c:Tf) (b:Sf):Sf
 | env,st=>cb c b n env st
theorem iY {c:Expr}{body:List Stmt}{tc:Tf}{gb:Sf} (n:Nat) (hc:IT K X c tc) (hb:ISs K X body gb) (hp:PassesOwn (model X.prog X.w) X.A X.env X.xe):IS K X (.While c body [] pos) (gF n tc gb):=by
 refine⟨λenv st r hr=>?_⟩
 refine (tM hp hc.any hb.any).imp ?_
 rintro D σ H ⟨φ,hE,hS,q⟩
 refine⟨λm σ H'=>∃ env st φ2,Fw φ φ2 H H'/\Er K H' φ2 env σ/\Sr K H' φ2 st/\cb tc gb m env st=some r,⟨n,env,st,φ,Fw.refl _ _,hE,hS,hr⟩,?_⟩
 rintro m σ H2 ⟨env2,st2,φ2,f2,e2,S2,h2⟩
 cases m with
 | zero=>cases h2
 | succ m=>
  simp only [cb,Option.bind_eq_some_iff] at h2
  obtain⟨⟨k,s3⟩,hk,h2⟩:=h2
  refine⟨env2,st2,_,hk,φ2,e2,S2,λH3 φ3 f3 S3=>?_⟩
  cases k with
  | false=>
   rw [if_neg Bool.false_ne_true] at h2
   cases h2
   exact rS (q σ H3 φ3 (f2.trans f3) (e2.fw S2 f3) S3)
  | true=>
   simp only [if_true,Option.bind_eq_some_iff] at h2
   obtain⟨r3,hr3,h3⟩:=h2
   refine so ⟨λσ' H'=>∃ env st φ2,Fw φ φ2 H H'/\Er K H' φ2 env σ'/\Sr K H' φ2 st/\cb tc gb m env st=some r,λσ' H' p'=>⟨m,Nat.lt_succ_self _,p'⟩,?_⟩
   refine⟨env2,s3,r3,hr3,φ3,e2.fw S2 f3,S3,?_⟩
   have f3':=f2.trans f3
   cases r3 with
   | nx e4 s4=>exact λσ4 H4 φ4 f4 e4' s4'=>⟨e4,s4,φ4,f3'.trans f4,e4',s4',h3⟩
   | ct e4 s4=>exact λσ4 H4 φ4 f4 e4' s4'=>⟨e4,s4,φ4,f3'.trans f4,e4',s4',h3⟩
   | bk e4 s4=>
    cases h3
    exact λσ4 H4 φ4 f4 e4' s4'=>q σ4 H4 φ4 (f3'.trans f4) e4' s4'
   | rt w s4=>
    cases h3
    exact λv H4 φ4 f4 s4' w4=>q v H4 φ4 (f3'.trans f4) s4' w4
structure ITs (K:PySem.W.Frag) (X:Cx) (ifs:List Expr) (t:Tf):Prop where
 run:PTs X ifs (vq K t)
theorem df:ITs K X [] dD:=by
 refine⟨λpins s σ H Q I ⟨env,st,r,e,φ,hE,hS,q⟩=>?_⟩
 cases e
 exact wv pins s σ H Q I (q H φ (Fw.refl φ H) hS)
theorem cE {c:Expr}{t:Tf} (h:IT K X c t):ITs K X [c] t:=⟨xb h.any⟩
theorem Er.emb {H:Hp}{φ:List Addr}{env:Ev}{σ:St} (h:Er K H φ env σ) (k:Nat) (js:List Nat):Er K H φ (gT k js env) (gg k js σ):=by
 refine⟨by unfold gT gg;simp,λi w e=>?_⟩
 unfold gT at e
 unfold gg
 by_cases hi:i < k
 ·rw [List.getElem?_append_left (by simpa using hi),List.getElem?_replicate,if_pos hi] at e
  cases e
 ·rw [List.getElem?_append_right (by simpa using hi),List.length_replicate,List.getElem?_map,Option.map_eq_some_iff] at e
  obtain⟨j,ej,e⟩:=e
  have ej2:env[j]?=some (some w):=by
   rw [List.getD] at e
   cases q:env[j]? with
   | none=>rw [q] at e;cases e
   | some o=>rw [q] at e;rw [show o=some w from e]
  obtain⟨v,ev,rv⟩:=h.at_ j w ej2
  refine⟨v,?_,rv⟩
  rw [List.getElem?_append_right (by simpa using hi),List.length_replicate,List.getElem?_map,ej]
  show some ((σ[j]?).getD none)=_
  rw [ev];rfl
theorem Sub.stay {k:Nat}{js is:List Nat}{σ σ':St} (h:vM is (gg k js σ) σ') (hi:∀ j ∈ is,j < k):Sub (gg k js σ) σ':=by
 refine⟨h.1.symm,λj v e=>?_⟩
 by_cases hj:j ∈ is
 ·have:=hi j hj
  unfold gg at e
  rw [List.getElem?_append_left (by simpa using this),List.getElem?_replicate,if_pos this] at e
  cases e
 ·rw [h.2 j hj];exact e
theorem uQ {k:Nat}{js:List Nat}{g:Tg}{tt:Tf}{te:Ef}{env:Ev}{st s1:Sto}{ds:List D}{r:List D×Sto} (hgi:∀ j ∈ xm g,j < k) (hdl:ds.length<=1000000) (hr':lcI g tt te (gT k js env) ds s1=some r) :
  ∀ σ H Q,tIL K env st r σ H Q->tLc (gg k js) (tII K env st (ds,s1)) (tG K g) (vq K tt) (xB K te) σ H Q:=by
 rintro σ H Q ⟨φ,hE,hS,q⟩
 refine⟨φ,hE,hS,λJ H1 φ1 f1 S1 yl=>?_⟩
 have hE1:=(hE.fw hS f1).emb k js
 refine⟨λi m ys H2=>m=ds.length - i/\i<=ds.length/\∃ st φ2 es r2,Fw φ1 φ2 H1 H2/\Sr K H2 φ2 st/\Rls K H2 φ2 es ys/\es.length<=i/\lcI g tt te (gT k js env) (ds.drop i) st=some r2/\r=(es++r2.1,r2.2),⟨ds.length,by simp,Nat.zero_le _,s1,φ1,[],r,Fw.refl _ _,S1,rfl,Nat.le_refl _,hr',rfl⟩,?_⟩
 rintro i m ys H2 ⟨rfl,hi,st2,φ2,es,r2,f2,S2,rl2,hle,h2,rfl⟩
 obtain⟨y1,y2⟩:=yl H2 φ2 st2 i f2 S2
 by_cases hlt:i < ds.length
 ·obtain⟨go,yld⟩:=y1 ds[i] (List.getElem?_eq_getElem hlt)
  rw [List.drop_eq_getElem_cons hlt] at h2
  simp only [lcI,Option.bind_eq_some_iff] at h2
  obtain⟨e3,he3,⟨kb,s3⟩,hb3,h3⟩:=h2
  have hz:ys.length < sizeLine:=by
   rw [<-rl2.length]
   have:sizeLine=16777216:=sizeLine_eq
   lia
  refine .inr ⟨go,hz,λys' H'=>i+1<=ds.length/\∃ st φ2 es' r2',Fw φ1 φ2 H1 H'/\Sr K H' φ2 st/\Rls K H' φ2 es' ys'/\es'.length<=i+1/\lcI g tt te (gT k js env) (ds.drop (i+1)) st=some r2'/\(es++r2.1,r2.2)=(es'++r2'.1,r2'.2),λys' H' ⟨hn,p'⟩=>⟨ds.length - (i+1),by lia,rfl,hn,p'⟩,λx H' y=>?_⟩
  obtain⟨sm,rx⟩:=yld x H' y
  have S3:=S2.same sm
  have f3:=f2.trans (Fw.same (φ:=φ2) sm)
  refine⟨φ2,st2,gT k js env,.d ds[i],e3,hE1.fw S1 f3,S3,rx,he3,λσ' e' stay=>⟨Sub.stay stay hgi,?_⟩⟩
  refine⟨e3,st2,_,hb3,φ2,e',S3,λH4 φ4 f4 S4=>?_⟩
  cases kb with
  | false=>
   rw [if_neg Bool.false_ne_true] at h3
   exact rS ⟨hlt,s3,φ4,es,r2,f3.trans f4,S4,(rl2.fw S2 (Fw.same sm)).fw S3 f4,by lia,h3,rfl⟩
  | true=>
   simp only [if_true,Option.bind_eq_some_iff,Option.map_eq_some_iff] at h3
   obtain⟨x5,hx5,zs,hzs,r5,hr5,rfl⟩:=h3
   refine so ⟨e3,s3,x5,hx5,φ4,e'.fw S3 f4,S4,λv H5 φ5 f5 S5 w5=>?_⟩
   obtain⟨x5,s5⟩:=x5
   cases x5 with
   | h n=>cases hzs
   | d z=>
    cases hzs
    refine⟨hlt,s5,φ5,es++[z],r5,(f3.trans f4).trans f5,S5,(((rl2.fw S2 (Fw.same sm)).fw S3 f4).fw S4 f5).append ⟨v,[],rfl,w5,rfl⟩,by rw [List.length_append];simp;lia,hr5,?_⟩
    simp
 ·have hi':i=ds.length:=by lia
  subst hi'
  rw [List.drop_length] at h2
  cases h2
  refine .inl ⟨y2 rfl,λDn hD=>?_⟩
  have:=q Dn ys H2 φ2 (f1.trans f2) S2 hD
  exact this (by simpa using rl2)
theorem cP {scope:Scope}{Nc:List Str}{k:Nat}{js:List Nat}{elt iter:Expr}{ifs:List Expr}{fi:Lf}{g:Tg}{tt:Tf}{te:Ef}
  (S:eU X scope Nc (gg k js)) (hc:X.calm=true) (hgi:∀ j ∈ xm g,j < k) (hi:II K X tg iter fi)
  (hg:∀ cells s H C fp,PG (lcX X scope cells Nc s H C fp) tg (tG K g)) (ht:∀ cells s H C fp,ITs K (lcX X scope cells Nc s H C fp) ifs tt) (he:∀ cells s H C fp,IE K (lcX X scope cells Nc s H C fp) elt te)
  (hs:∀ x,foldedSetIterable iter X.env x=pure x:=by intro _;rfl):IL K X (.ListComp elt [⟨tg,iter,ifs,0⟩] scope pos) (iLc k js fi g tt te):=by
 refine⟨λenv st r hr=>?_⟩
 simp only [iLc,Option.bind_eq_some_iff] at hr
 obtain⟨⟨ds,s1⟩,hy,hr⟩:=hr
 have hr':(if ds.length<=1000000 then lcI g tt te (gT k js env) ds s1 else none)=some r:=hr
 by_cases hdn:¬ ds.length<=1000000
 ·rw [if_neg hdn] at hr';cases hr'
 have hdl:ds.length<=1000000:=by lia
 rw [if_pos hdl] at hr'
 refine (Az S hc (hi.run _ _ _ hy) hg (λcells s H C fp=>(ht cells s H C fp).run) (λcells s H C fp=>(he cells s H C fp).any) hs).imp (uQ hgi hdl hr')
theorem u5 {scope:Scope}{Nc:List Str}{k:Nat}{js:List Nat}{elt iter:Expr}{ifs:List Expr}{fi:Lf}{g:Tg}{tt:Tf}{te:Ef}{i0:Nat}{x0:Str}{py spos:Pos}
  (hN0:X.N.Nodup) (hi0:X.N[i0]?=some x0) (hx0:Loc X.env.scope x0) (S:eU X scope Nc (gg k js)) (hc:X.calm=true) (hgi:∀ j ∈ xm g,j < k) (hi:II K X tg iter fi)
  (hg:∀ cells s H C fp,PG (lcX X scope cells Nc s H C fp) tg (tG K g)) (ht:∀ cells s H C fp,ITs K (lcX X scope cells Nc s H C fp) ifs tt) (he:∀ cells s H C fp,IE K (lcX X scope cells Nc s H C fp) elt te)
  (hsw:swapsWith (.ListComp elt [⟨tg,iter,ifs,0⟩] scope pos) (some (.Name x0 py)) spos.line X.env=pure true:=by rfl)
  (hf0:X.fn x0=true\/X.env.scope.names.lookup x0=some .local:=by first | exact .inl rfl | exact .inr rfl | assumption)
  (hs:∀ x,foldedSetIterable iter X.env x=pure x:=by intro _;rfl):IS K X (.Assign [.Name x0 py] (.ListComp elt [⟨tg,iter,ifs,0⟩] scope pos) spos) (aP (.nm i0) (aJ (iLc k js fi g tt te)))/\
   IS K X (.Assign [.Name x0 py] (.ListComp elt [⟨tg,iter,ifs,0⟩] scope pos) spos) (aP (.nm i0) (jo (iLc k js fi g tt te))):=by
 have key:∀ env st r0 r,iLc k js fi g tt te env st=some r->(∀ σ φ H (D:og),Er K H φ env σ->Sr K H φ st->uT K φ H D r0->∀ a vs H1 φ',Fw φ φ' H H1->Sr K H1 φ' r.2->H1 a=none->Rls K H1 φ' r.1 vs->D.nx (σ.set i0 (some (.ref a))) (upd H1 a (.lst vs)))->
   PS X (.Assign [.Name x0 py] (.ListComp elt [⟨tg,iter,ifs,0⟩] scope pos) spos) (tS K env st r0):=by
  intro env st r0 r hr h
  simp only [iLc,Option.bind_eq_some_iff] at hr
  obtain⟨⟨ds,s1⟩,hy,hr⟩:=hr
  have hr':(if ds.length<=1000000 then lcI g tt te (gT k js env) ds s1 else none)=some r:=hr
  by_cases hdn:¬ ds.length<=1000000
  ·rw [if_neg hdn] at hr';cases hr'
  have hdl:ds.length<=1000000:=by lia
  rw [if_pos hdl] at hr'
  refine (z0 hN0 hi0 hx0 S hc (hi.run _ _ _ hy) hg (λcells s H C fp=>(ht cells s H C fp).run) (λcells s H C fp=>(he cells s H C fp).any) hsw hf0 hs).imp ?_
  rintro D σ H ⟨φ,hE,hS,q⟩
  exact uQ hgi hdl hr' σ H _ ⟨φ,hE,hS,h σ φ H D hE hS q⟩
 constructor
 ·refine⟨λenv st r hr=>?_⟩
  simp only [aP,aJ,dM,Option.bind_eq_some_iff,Option.map_eq_some_iff] at hr
  obtain⟨y,⟨r2,hy,rfl⟩,e',ee,rfl⟩:=hr
  cases ee
  refine key _ _ _ _ hy λσ φ H D hE hS q a vs H1 φ1 f1 s1 n1 w1=>?_
  exact q _ _ φ1 (f1.trans (Fw.new n1)) ((((hE.fw hS f1).fw s1 (Fw.new n1))).set i0 (w:=.d (.lst r2.1)) ⟨a,vs,rfl,s1.nin n1,.inl aW,w1.fw s1 (Fw.new n1)⟩) (s1.new n1)
 ·refine⟨λenv st r hr=>?_⟩
  simp only [aP,jo,dM,Option.bind_eq_some_iff,Option.map_eq_some_iff] at hr
  obtain⟨y,⟨r2,hy,rfl⟩,e',ee,rfl⟩:=hr
  cases ee
  refine key _ _ _ _ hy λσ φ H D hE hS q a vs H1 φ1 f1 s1 n1 w1=>?_
  exact q _ _ (φ1++[a]) (f1.trans (Fw.more n1)) (((hE.fw hS f1).fw s1 (Fw.more n1)).set i0 (w:=.h r2.2.length) ⟨a,by rw [<-s1.len];simp,rfl⟩) (s1.more n1 w1)
end
end L2
namespace L2
open PySem PySem.Spec PyProof.Rows
noncomputable def aN (n k:Nat) (b:Sf):Fn
 | ws,st=>if ws.length=k then (b (ws.map some++List.replicate (n - k) none) st).bind λr=>match r with
 | .nx _ s=>some (.d .non,s)
 | .rt w s=>some (w,s)
 | _=>none
 else none
noncomputable def vi (n:Nat) (w:W) (s:Sto):Option (W×Sto):=match w with
 | .d x=>some (.d x,s.take n)
 | .h m=>if m < n then some (.h m,s.take n) else (lg s m).map λds=>(.d (.lst ds),s.take n)
noncomputable def i3 (n k:Nat) (b:Sf):Fn
 | ws,st=>if ws.length=k then (b (ws.map some++List.replicate (n - k) none) st).bind λr=>match r with
 | .nx _ s=>some (.d .non,s.take st.length)
 | .rt w s=>vi st.length w s
 | _=>none
 else none
section
variable {P:Program}{w:World}{K:PySem.W.Frag}{mg:Str->Option Value}{base:Heap}
theorem pd {H:Hp}{φ:List Addr}{N:List Str}{k:Nat}:∀ {ws:List W}{vs:List V},Rws K H φ ws vs->ws.length=k->Er K H φ (ws.map some++List.replicate (N.length - k) none) (start N vs):=by
 intro ws vs r hk
 have hl:=r.length
 refine⟨by unfold start;simp;lia,λi x e=>?_⟩
 unfold start
 by_cases hi:i < ws.length
 ·rw [List.getElem?_append_left (by simpa using hi),List.getElem?_map,Option.map_eq_some_iff] at e
  obtain⟨y,ey,e⟩:=e
  have:∃ v,vs[i]?=some v/\Rw K H φ y v:=by
   clear hk hl hi e
   induction ws generalizing vs i with
   | nil=>simp at ey
   | cons w ws ih=>
    obtain⟨v,r',rfl,r1,r2⟩:=r
    cases i with
    | zero=>simp at ey;subst ey;exact⟨v,rfl,r1⟩
    | succ i=>simpa using ih r2 i (by simpa using ey)
  obtain⟨v,ev,rv⟩:=this
  cases e
  refine⟨v,?_,rv⟩
  rw [List.getElem?_append_left (by rw [List.length_map,<-hl];exact hi),List.getElem?_map,ev];rfl
 ·rw [List.getElem?_append_right (by simpa using hi)] at e
  have:=List.mem_of_getElem? e
  have:=(List.mem_replicate.mp this).2
  cases this
theorem cY {x qual:Str}{st:Stmt}{f:Addr}{fd:FuncData}{N ps:List Str}{k:Nat}{b:Sf} (F:Fun K x qual st f fd) (S:ay N ps (aa st))
  (hb:∀ (cdv:Value) (A:Around) (outer:List Env) (s:Shared) (H:Hp) (E:XK),bn k (A.deeper (envOfC qual (aa st) s.heap.objs.size f cdv))->ISs K (b8 CX0 P w K mg base N qual (aa st) f cdv A outer s H E).nox (am st) b) :
  aL P w K mg base CX0 (k+1) f fd ps (spI K (aN N.length ps.length b)):=by
 refine F.ok S (λvs H Q E h=>?_) λcdv A outer s H vs Q E hr h=>?_
 ·obtain⟨φ,st,ws,r,e,rw,_⟩:=h
  rw [aN] at e
  by_cases hl:ws.length=ps.length
  ·rw [<-rw.length,hl]
  ·rw [if_neg hl] at e;cases e
 ·obtain⟨φ,st',ws,r,e,rw,S',q⟩:=h
  rw [aN] at e
  by_cases hl:ws.length=ps.length
  ·rw [if_pos hl] at e
   obtain⟨fl,e1,e2⟩:=Option.bind_eq_some_iff.mp e
   refine⟨_,(hb cdv A outer s H E hr).run _ _ _ e1,φ,pd rw hl,S',?_⟩
   cases fl with
   | nx e s=>cases e2;exact λσ' H' φ' f' e' s'=>q .non H' φ' f' s' rfl
   | rt w s=>cases e2;exact λv H' φ' f' s' w'=>q v H' φ' f' s' w'
   | bk e s=>cases e2
   | ct e s=>cases e2
  ·rw [if_neg hl] at e;cases e
theorem Fw.less {φ φ':List Addr}{H H':Hp} (f:Fw φ φ' H H'):Fw φ φ H H':=⟨⟨[],by simp,by simp⟩,f.keep,f.there⟩
theorem xa {x qual:Str}{st:Stmt}{f:Addr}{fd:FuncData}{N ps:List Str}{k:Nat}{b:Sf} (F:Fun K x qual st f fd) (S:ay N ps (aa st))
  (hb:∀ (cdv:Value) (A:Around) (outer:List Env) (s:Shared) (H:Hp) (E:XK),bn k (A.deeper (envOfC qual (aa st) s.heap.objs.size f cdv))->ISs K (b8 CX0 P w K mg base N qual (aa st) f cdv A outer s H E).nox (am st) b) :
  aL P w K mg base CX0 (k+1) f fd ps (spI K (i3 N.length ps.length b)):=by
 refine F.ok S (λvs H Q E h=>?_) λcdv A outer s H vs Q E hr h=>?_
 ·obtain⟨φ,st,ws,r,e,rw,_⟩:=h
  rw [i3] at e
  by_cases hl:ws.length=ps.length
  ·rw [<-rw.length,hl]
  ·rw [if_neg hl] at e;cases e
 ·obtain⟨φ,st',ws,r,e,rw,S',q⟩:=h
  rw [i3] at e
  by_cases hl:ws.length=ps.length
  ·rw [if_pos hl] at e
   obtain⟨fl,e1,e2⟩:=Option.bind_eq_some_iff.mp e
   refine⟨_,(hb cdv A outer s H E hr).run _ _ _ e1,φ,pd rw hl,S',?_⟩
   have less:∀ {H':Hp}{φ':List Addr}{s':Sto},Fw φ φ' H H'->Sr K H' φ' s'->Sr K H' φ (s'.take st'.length):=λ{H' φ' s'} f' S2=>by
    obtain⟨ψ,rfl,_⟩:=f'.ext
    rw [<-S'.len]
    exact S2.less
   cases fl with
   | nx e s=>cases e2;exact λσ' H' φ' f' e' s'=>q .non H' φ f'.less (less f' s') rfl
   | rt w s=>
    intro v H' φ' f' s' w'
    have e3:vi st'.length w s=some r:=e2
    obtain⟨ψ,eψ,_⟩:=f'.ext
    cases w with
    | d x=>
     cases e3
     subst eψ
     exact q v H' φ f'.less (less f' s') (Rl.less w')
    | h m=>
     obtain⟨a,ea,rfl⟩:=w'
     unfold vi at e3
     by_cases hm:m < st'.length
     ·have e4:some (W.h m,s.take st'.length)=some r:=by
       have:=e3
       simp only [hm,if_true] at this
       exact this
      cases e4
      subst eψ
      rw [List.getElem?_append_left (by rw [S'.len];exact hm)] at ea
      exact q _ H' φ f'.less (less f' s') ⟨a,ea,rfl⟩
     ·simp only [hm,if_false] at e3
      obtain⟨ds,eds,rfl⟩:=Option.map_eq_some_iff.mp e3
      obtain⟨vs,hv,rl⟩:=s'.atl m a ds ea eds
      have hn:a ∉ φ:=λz=>by
       obtain⟨i,hi,ei⟩:=List.mem_iff_getElem.mp z
       have h1:φ'[i]?=some a:=by subst eψ;rw [List.getElem?_append_left hi,List.getElem?_eq_getElem hi,ei]
       obtain⟨h2,h2'⟩:=List.getElem?_eq_some_iff.mp h1
       obtain⟨h3,h3'⟩:=List.getElem?_eq_some_iff.mp ea
       have:=(List.getElem_inj s'.nd).mp (h2'.trans h3'.symm)
       rw [S'.len] at hi
       lia
      subst eψ
      exact q _ H' φ f'.less (less f' s') ⟨a,vs,rfl,hn,.inl hv,rl.less⟩
   | bk e s=>cases e2
   | ct e s=>cases e2
  ·rw [if_neg hl] at e;cases e
end
noncomputable def gj:D->Bool
 | .non=>true
 | .bl _=>true
 | .int _=>true
 | .str _=>true
 | _=>false
noncomputable def vOf:D->V
 | .bl b=>.bl b
 | .int i=>.int i
 | .str x=>.str x
 | _=>.non
mutual
noncomputable def eqD:D->D->Bool
 | .non,.non=>true
 | .bl a,.bl b=>a==b
 | .bl a,.int b=>(if a then 1 else 0)==b
 | .int a,.bl b=>a==(if b then 1 else 0)
 | .int a,.int b=>a==b
 | .str a,.str b=>a==b
 | .tup as,.tup bs=>eZ as bs
 | .lst as,.lst bs=>eZ as bs
 | _,_=>false
noncomputable def eZ:List D->List D->Bool
 | [],[]=>true
 | a::as,b::bs=>eqD a b && eZ as bs
 | _,_=>false
end
noncomputable def okD:Nat->D->Bool
 | _,.non=>true
 | _,.bl _=>true
 | _,.int _=>true
 | _,.str _=>true
 | n+1,.tup ds=>ds.all (okD n)
 | n+1,.lst ds=>ds.all (okD n)
 | _,_=>false
noncomputable def lsD (st:Sto):W->Option (List D)
 | .d (.lst ds)=>some ds
 | .h n=>lg st n
 | _=>none
noncomputable def dw (st:Sto) (x y:W):Option D:=match x,y with
 | .d (.int i),.d (.int j)=>some (.int (i+j))
 | .d (.tup a),.d (.tup b)=>if a.length+b.length<=1000000 then some (.tup (a++b)) else none
 | .d (.str a),.d (.str b)=>if a.length+b.length<=1000000 then some (.str (a++b)) else none
 | x,y=>(lsD st x).bind λa=>(lsD st y).bind λb=>if a.length+b.length<=1000000 then some (.lst (a++b)) else none
noncomputable def gI (_:Sto):W->W->Option D
 | .d (.int i),.d (.int j)=>some (.int (i - j))
 | _,_=>none
instance (a b:Int):Decidable (IntMulOk a b):=by unfold IntMulOk;infer_instance
noncomputable def dv (_:Sto):W->W->Option D
 | .d (.int i),.d (.int j)=>if IntMulOk i j then some (.int (i*j)) else none
 | .d (.tup a),.d (.int k)=>if a≠[]/\a.length<=1000/\1<=k/\k < 1000 then some (.tup (List.replicate k.toNat a).flatten) else none
 | .d (.lst a),.d (.int k)=>if a.length<=1000/\-1000<=k/\k < 1000 then some (.lst (List.replicate k.toNat a).flatten) else none
 | _,_=>none
noncomputable def gm (_:Sto):W->W->Option D
 | .d (.int i),.d (.int j)=>if 0 < j/\j < 1073741824 then some (.int (i / j)) else none
 | _,_=>none
noncomputable def fk (_:Sto):W->W->Option D
 | .d (.int i),.d (.int j)=>if 0 < j then some (.int (i % j)) else none
 | _,_=>none
instance (i j:Int):Decidable (oQ i j):=by unfold oQ;infer_instance
noncomputable def ze (_:Sto):W->W->Option D
 | .d (.int i),.d (.int j)=>if oQ i j then some (.int (i ^ j.toNat)) else none
 | _,_=>none
noncomputable def oM (_:Sto):W->W->Option D
 | .d (.int i),.d (.int j)=>if oQ i j then some (.int (i*2 ^ j.toNat)) else none
 | _,_=>none
noncomputable def tz (_:Sto):W->W->Option D
 | .d (.int i),.d (.int j)=>if 0<=j then some (.int (i / 2 ^ j.toNat)) else none
 | _,_=>none
noncomputable def dLt (_:Sto):W->W->Option D
 | .d (.int i),.d (.int j)=>some (.bl (decide (i < j)))
 | _,_=>none
noncomputable def dLe (_:Sto):W->W->Option D
 | .d (.int i),.d (.int j)=>some (.bl (decide (i<=j)))
 | _,_=>none
noncomputable def dGt (_:Sto):W->W->Option D
 | .d (.int i),.d (.int j)=>some (.bl (decide (j < i)))
 | _,_=>none
noncomputable def dGe (_:Sto):W->W->Option D
 | .d (.int i),.d (.int j)=>some (.bl (decide (j<=i)))
 | _,_=>none
noncomputable def pK:D->Bool
 | .non=>true
 | _=>false
noncomputable def zo (_:Sto):W->W->Option D
 | .d x,.d .non=>some (.bl (pK x))
 | _,_=>none
noncomputable def uY (_:Sto):W->W->Option D
 | .d x,.d .non=>some (.bl (!pK x))
 | _,_=>none
section
variable {K:PySem.W.Frag}{X:Cx}
theorem i7 {H:Hp}{φ:List Addr}{d:D}{v:V} (h:gj d=true) (r:Rl K H φ d v):v=vOf d/\lm v=true:=by
 cases d with
 | non=>cases (show v=.non from r);exact⟨rfl,rfl⟩
 | bl b=>cases (show v=.bl b from r);exact⟨rfl,rfl⟩
 | int b=>cases (show v=.int b from r);exact⟨rfl,rfl⟩
 | str b=>cases (show v=.str b from r);exact⟨rfl,rfl⟩
 | _=>cases h
theorem qX {a b:D} (ha:gj a=true) (hb:gj b=true):eqV (vOf a) (vOf b)=eqD a b:=by
 cases a<;>cases b<;>first | rfl | (cases ha;done) | (cases hb;done) | (simp [eqV,vOf,eqD];done)
theorem uw {f:Value->Value->Sem Value}{g:Sto->W->W->Option D} (h:∀ st x y d,g st x y=some d->∃ i j,x=.d (.int i)/\y=.d (.int j)/\OpR X f (λvx vy H Q=>vx=.int i/\vy=.int j/\Q (vOf d) H)/\gj d=true):OpD K X f g:=by
 refine⟨λst x y d hd=>?_⟩
 obtain⟨i,j,rfl,rfl,ho,hf⟩:=h st x y d hd
 refine ho.imp ?_
 rintro vx vy H Q ⟨φ,S,r1,r2,q⟩
 refine⟨r1,r2,q _ H (bp.refl H) ?_⟩
 cases d<;>first | rfl | cases hf
noncomputable def i2 (f:Int->Int->Option D):W->W->Option D
 | .d (.int i),.d (.int j)=>f i j
 | _,_=>none
theorem xQ {f:Int->Int->Option D}{x y:W}{d:D} (h:i2 f x y=some d):∃ i j,x=.d (.int i)/\y=.d (.int j)/\f i j=some d:=by
 unfold i2 at h
 split at h
 ·exact⟨_,_,rfl,rfl,h⟩
 ·cases h
theorem mm {f:Value->Value->Sem Value}{g:Sto->W->W->Option D}{r:Int->Int->D} (hg:∀ st,g st=i2 λi j=>some (r i j)) (hf:∀ i j,gj (r i j)=true) (h:∀ i j,OpR X f (λvx vy H Q=>vx=.int i/\vy=.int j/\Q (vOf (r i j)) H)):OpD K X f g:=uw λst x y d e=>by
 rw [hg] at e
 obtain⟨i,j,e1,e2,e3⟩:=xQ e
 cases e3
 exact⟨i,j,e1,e2,h i j,hf i j⟩
theorem jD {f:Value->Value->Sem Value}{g:Sto->W->W->Option D}{r:Int->Int->D}{c:Int->Int->Prop} [∀ i j,Decidable (c i j)] (hg:∀ st,g st=i2 λi j=>if c i j then some (r i j) else none) (hf:∀ i j,gj (r i j)=true) (h:∀ i j,c i j->OpR X f (λvx vy H Q=>vx=.int i/\vy=.int j/\Q (vOf (r i j)) H)):OpD K X f g:=uw λst x y d e=>by
 rw [hg] at e
 obtain⟨i,j,e1,e2,e3⟩:=xQ e
 split at e3
 next hc=>
  cases e3
  exact⟨i,j,e1,e2,h i j hc,hf i j⟩
 next=>cases e3
theorem gc:OpD K X (binaryOp .Sub) gI:=mm (λ_=>rfl) (λ_ _=>rfl) λi j=>zz.imp λvx vy H Q h=>⟨i,j,h.1,h.2.1,h.2.2⟩
theorem rg:OpD K X (compareOp .Lt) dLt:=mm (λ_=>rfl) (λ_ _=>rfl) λi j=>Ac.imp λvx vy H Q h=>⟨i,j,h.1,h.2.1,h.2.2⟩
theorem AD:OpD K X (compareOp .LtE) dLe:=mm (λ_=>rfl) (λ_ _=>rfl) λi j=>zL.imp λvx vy H Q h=>⟨i,j,h.1,h.2.1,h.2.2⟩
theorem xD:OpD K X (compareOp .Gt) dGt:=mm (λ_=>rfl) (λ_ _=>rfl) λi j=>zV.imp λvx vy H Q h=>⟨i,j,h.1,h.2.1,h.2.2⟩
theorem uh:OpD K X (compareOp .GtE) dGe:=mm (λ_=>rfl) (λ_ _=>rfl) λi j=>AF.imp λvx vy H Q h=>⟨i,j,h.1,h.2.1,h.2.2⟩
theorem fL:OpD K X (binaryOp .FloorDiv) gm:=jD (λ_=>rfl) (λ_ _=>rfl) λi j hc=>vX.imp λvx vy H Q h=>⟨i,j,h.1,h.2.1,hc,h.2.2⟩
theorem et:OpD K X (binaryOp .Mod) fk:=jD (λ_=>rfl) (λ_ _=>rfl) λi j hc=>yx.imp λvx vy H Q h=>⟨i,j,h.1,h.2.1,hc,h.2.2⟩
theorem zr:OpD K X (binaryOp .Pow) ze:=jD (λ_=>rfl) (λ_ _=>rfl) λi j hc=>yO.imp λvx vy H Q h=>⟨i,j,h.1,h.2.1,hc,h.2.2⟩
theorem pY:OpD K X (binaryOp .LShift) oM:=jD (λ_=>rfl) (λ_ _=>rfl) λi j hc=>yU.imp λvx vy H Q h=>⟨i,j,h.1,h.2.1,hc,h.2.2⟩
theorem pV:OpD K X (binaryOp .RShift) tz:=jD (λ_=>rfl) (λ_ _=>rfl) λi j hc=>zf.imp λvx vy H Q h=>⟨i,j,h.1,h.2.1,hc,h.2.2⟩
theorem tB {H:Hp}{φ:List Addr}{d:D}{v:V} (r:Rl K H φ d v):decide (v=.non)=pK d:=by
 cases d with
 | non=>cases (show v=.non from r);rfl
 | bl b=>cases (show v=.bl b from r);rfl
 | int b=>cases (show v=.int b from r);rfl
 | str b=>cases (show v=.str b from r);rfl
 | ty b=>cases (show v=.ty b from r);rfl
 | dct=>obtain⟨a,rfl,_⟩:=r;rfl
 | scr ns=>obtain⟨a,rfl,_⟩:=r;rfl
 | tup ds=>obtain⟨a,vs,rfl,_⟩:=r;rfl
 | lst ds=>obtain⟨a,vs,rfl,_⟩:=r;rfl
theorem ue:OpD K X (compareOp .Is) zo:=by
 refine⟨λst x y d h=>?_⟩
 match x,y,h with
 | .d x,.d .non,h=>
  cases h
  refine yS.imp ?_
  rintro vx vy H Q ⟨φ,S,r1,r2,q⟩
  refine⟨r2,q _ H (bp.refl H) ?_⟩
  rw [tB r1];rfl
theorem vU:OpD K X (compareOp .IsNot) uY:=by
 refine⟨λst x y d h=>?_⟩
 match x,y,h with
 | .d x,.d .non,h=>
  cases h
  refine wN.imp ?_
  rintro vx vy H Q ⟨φ,S,r1,r2,q⟩
  refine⟨r2,q _ H (bp.refl H) ?_⟩
  rw [tB r1];rfl
end
end L2
namespace L2
open PySem PySem.Spec PyProof.Rows
section
variable {K:PySem.W.Frag}{X:Cx}
theorem wT:OpR X (binaryOp .Add) (λx y H Q=>∃ l b xs zs,x=.ref l/\y=.ref b/\Rd H l (.lst xs)/\Rd H b (.lst zs)/\xs.length+zs.length<=sizeLine/\∀ p,H p=none->Q (.ref p) (upd H p (.lst (xs++zs)))):=by
 intro pins s σ H x y v u Q I rx ry h
 obtain⟨l,b,xs,zs,rfl,rfl,hH,hB,hz,q⟩:=h
 cases rx
 cases ry
 obtain⟨z,its,n,r,e⟩:=hH.ok I.hok
 obtain⟨z2,its2,n2,r2,e2⟩:=hB.ok I.hok
 have hl:=r.length
 have hl2:=r2.length
 refine PySem.P.add_list e e2 ?_ (by rw [List.size_toArray,List.size_toArray];lia)
 have ea:its.toArray++its2.toArray=(its++its2).toArray:=by simp
 rw [ea]
 exact⟨.ref _,_,I.lnew (t':=s.toks) (r.append r2) (by rw [List.length_append];lia),rfl,q _ I.fresh⟩
theorem tw:OpR X (binaryOp .Add) (λx y H Q=>∃ a b xs ys,x=.ref a/\y=.ref b/\SqT X.K H a xs/\SqT X.K H b ys/\xs.length+ys.length<=sizeLine/\
  (xs=[]->Q (.ref b) H)/\(ys=[]->Q (.ref a) H)/\∀ p,H p=none->Q (.ref p) (upd H p (.tup (xs++ys)))):=by
 intro pins s σ H x y v u Q I rx ry h
 obtain⟨a,b,xs,ys,rfl,rfl,ha,hb,hz,q0,q1,q2⟩:=h
 by_cases hx:xs=[]
 ·cases rx
  cases ry
  obtain⟨its,r1,p1,_⟩:=I.tuple ha
  obtain⟨its2,r2,p2,_⟩:=I.tuple hb
  obtain⟨⟨cls,dd,data,sl⟩,ho,hc,n,hd⟩:=id p1
  obtain⟨⟨cls2,dd2,data2,sl2⟩,ho2,hc2,n2,hd2⟩:=id p2
  simp only at hc hd hc2 hd2
  subst hc hd hc2 hd2
  exact concat_meets ⟨_,ho,rfl⟩ ⟨_,ho2,rfl⟩ noFill_tuple_add seq_tuple_add PySem.F.slot_tuple_add PySem.F.entry_tuple_add (PySem.F.args_tuple_add_2 _ _)
   (tuple_addW0 a b its.toArray its2.toArray n n2 dd dd2 sl sl2 (by simp [r1.nil_iff.mpr hx])) ⟨ho,ho2,.ref b,H,I,rfl,q0 hx⟩
 ·exact wL pins s σ H _ _ v u Q I rx ry ⟨a,b,xs,ys,rfl,rfl,ha,hb,hx,hz,q1,λ_ p hp=>q2 p hp⟩
theorem m8 {st:Sto}{H:Hp}{φ:List Addr}{w:W}{v:V}{ds:List D} (S:Sr K H φ st) (r:Rw K H φ w v) (e:lsD st w=some ds):∃ a vs,v=.ref a/\Rd H a (.lst vs)/\Rls K H φ ds vs:=by
 cases w with
 | h n=>
  obtain⟨a,ea,rfl⟩:=r
  obtain⟨vs,q,rl⟩:=S.atl n a ds ea e
  exact⟨a,vs,rfl,.inl q,rl⟩
 | d x=>
  cases x with
  | lst es=>cases e;obtain⟨a,vs,rfl,h0,h1,h2⟩:=r;exact⟨a,vs,rfl,h1,h2⟩
  | _=>cases e
theorem mil:(1000000:Nat)<=sizeLine:=by rw [sizeLine_eq];decide
theorem cK (hK:X.K=K:=by rfl):OpD K X (binaryOp .Add) dw:=by
 subst hK
 refine⟨λst x y d h=>?_⟩
 have lists:(lsD st x).bind (λa=>(lsD st y).bind λb=>if a.length+b.length<=1000000 then some (.lst (a++b)) else none)=some d->OpR X (binaryOp .Add) (rD X.K st x y d):=λh=>by
  simp only [Option.bind_eq_some_iff] at h
  obtain⟨as,ha,bs,hb,h⟩:=h
  split at h
  ·rename_i hl
   cases h
   refine wT.imp ?_
   rintro vx vy H Q ⟨φ,S,r1,r2,q⟩
   obtain⟨a,us,rfl,h1,h2⟩:=m8 S r1 ha
   obtain⟨b,vs,rfl,h3,h4⟩:=m8 S r2 hb
   refine⟨a,b,us,vs,rfl,rfl,h1,h3,by rw [<-h2.length,<-h4.length];exact Nat.le_trans hl mil,λp hp=>q _ _ (bp.new hp _) ?_⟩
   exact⟨p,_,rfl,S.nin hp,.inl aW,(h2.append h4).fw S (Fw.new hp)⟩
  ·cases h
 match x,y,h with
 | .d (.int i),.d (.int j),h=>
  cases h
  refine za.imp ?_
  rintro vx vy H Q ⟨φ,S,r1,r2,q⟩
  exact⟨i,j,r1,r2,q _ H (bp.refl H) rfl⟩
 | .d (.tup as),.d (.tup bs),h=>
  simp only [dw] at h
  split at h
  ·rename_i hl
   cases h
   refine tw.imp ?_
   rintro vx vy H Q ⟨φ,S,⟨a,us,rfl,h1,h2⟩,⟨b,vs,rfl,h3,h4⟩,q⟩
   refine⟨a,b,us,vs,rfl,rfl,(SqT.of h1),(SqT.of h3),by rw [<-h2.length,<-h4.length];exact Nat.le_trans hl mil,λe=>?_,λe=>?_,λp hp=>?_⟩
   ·subst e
    have:as=[]:=by cases as with | nil=>rfl | cons _ _=>cases h2.length
    subst this
    exact q _ H (bp.refl H) ⟨b,vs,rfl,h3,h4⟩
   ·subst e
    have:bs=[]:=by cases bs with | nil=>rfl | cons _ _=>cases h4.length
    subst this
    exact q _ H (bp.refl H) ⟨a,us,rfl,h1,by rw [List.append_nil];exact h2⟩
   ·exact q _ _ (bp.new hp _) ⟨p,_,rfl,aW,(h2.append h4).fw S (Fw.new hp)⟩
  ·cases h
 | .d (.str as),.d (.str bs),h=>
  simp only [dw] at h
  split at h
  ·rename_i hl
   cases h
   refine qp.imp ?_
   rintro vx vy H Q ⟨φ,S,r1,r2,q⟩
   exact⟨as,bs,r1,r2,Nat.le_trans hl mil,q _ H (bp.refl H) rfl⟩
  ·cases h
 | .d (.lst as),y,h=>exact lists (by cases y with | h n=>exact h | d y=>cases y<;>exact h)
 | .h n,y,h=>exact lists (by cases y with | h n=>exact h | d y=>cases y<;>exact h)
theorem qP:OpR X (binaryOp .Mult) (λx y H Q=>∃ l k xs,x=.ref l/\y=.int k/\Rd H l (.lst xs)/\-(2 ^ 63)<=k/\k < 2 ^ 63/\xs.length*k.toNat<=sizeLine/\
 ∀ p,H p=none->Q (.ref p) (upd H p (.lst (List.replicate k.toNat xs).flatten))):=by
 intro pins s σ H x y v u Q I rx ry h
 obtain⟨l,k,xs,rfl,rfl,hH,h1,h2,hz,q⟩:=h
 cases rx
 obtain⟨t,rfl⟩:=ry
 obtain⟨z,its,n,r,e⟩:=hH.ok I.hok
 have hl:=r.length
 have hlen:its.toArray.size*k.toNat<=sizeLine:=by rw [List.size_toArray,<-hl];exact hz
 have hcap:¬ its.toArray.size*k.toNat > (2 ^ 63 - 1) / 8:=by
  have:(sizeLine:Nat)<=(2 ^ 63 - 1) / 8:=by decide
  lia
 have hfit:¬ (!Builtin.List.listFitsIndex k)=true:=by
  rw [fitsIndex_both h1 h2]
  exact Bool.false_ne_true
 have hlong:¬ Builtin.List.listTooLong (its.toArray.size*k.toNat)=true:=by
  rw [t4 hlen]
  exact Bool.false_ne_true
 have hnew:List.foldl (λx1 x2=>x1++x2) #[] (List.replicate (if its.toArray.isEmpty=true then 0 else k.toNat) its.toArray)=(List.replicate k.toNat its).flatten.toArray:=by
  have f0:∀ m:Nat,List.foldl (λx1 x2=>x1++x2) #[] (List.replicate m its.toArray)=(List.replicate m its).flatten.toArray:=λm=>by
   have:=jy its m []
   rw [List.nil_append] at this
   exact this
  rw [f0]
  cases its with
  | nil=>simp
  | cons a r'=>rw [if_neg (by simp)]
 refine wpAny_binaryOp_repeat_ref (T:="list") (U:="int") (by decide) ⟨_,e,rfl⟩ (λs'=>typeIs_int s' k t) noFill_list_mul F.fills_int_mul F.slot_int_rmul repeat_list F.slot_int_index.lookup
  (call_meets F.slot_int_rmul (typeIs_int s k t) F.entry_int_rmul (F.args_int_rmul_2 _ _) (int___rmul___int_list k t l its.toArray n)
    ⟨e,rfl,⟨_,e,rfl⟩,call_meets F.slot_list_mul ⟨_,e,rfl⟩ F.entry_list_mul (F.args_list_mul_2 _ _) (AutoListH.list___mul___list_int_3 l its.toArray n k t hfit hcap hlong) ⟨e,?_⟩⟩)
 rw [hnew]
 exact⟨.ref _,_,I.lnew (t':=s.toks) (r.rep k.toNat) (by rw [nC,Nat.mul_comm];exact hz),rfl,q _ I.fresh⟩
theorem cJ (hK:X.K=K:=by rfl):OpD K X (binaryOp .Mult) dv:=by
 subst hK
 refine⟨λst x y d h=>?_⟩
 match x,y,h with
 | .d (.int i),.d (.int j),h=>
  simp only [dv] at h
  split at h
  ·rename_i hl
   cases h
   refine xl.imp ?_
   rintro vx vy H Q ⟨φ,S,r1,r2,q⟩
   exact⟨i,j,r1,r2,hl,q _ H (bp.refl H) rfl⟩
  ·cases h
 | .d (.tup as),.d (.int k),h=>
  simp only [dv] at h
  split at h
  ·rename_i hl
   cases h
   refine vV.imp ?_
   rintro vx vy H Q ⟨φ,S,⟨a,us,rfl,h1,h2⟩,r2,q⟩
   have hne:us≠[]:=by rintro rfl;cases as with | nil=>exact hl.1 rfl | cons _ _=>cases h2.length
   refine⟨a,k,us,rfl,r2,(SqT.of h1),hne,by rw [<-h2.length];exact hl.2.1,hl.2.2.1,hl.2.2.2,λe=>?_,λ_ p hp=>?_⟩
   ·subst e
    exact q _ H (bp.refl H) ⟨a,us,rfl,h1,by simpa using h2⟩
   ·exact q _ _ (bp.new hp _) ⟨p,_,rfl,aW,(h2.rep _).fw S (Fw.new hp)⟩
  ·cases h
 | .d (.lst as),.d (.int k),h=>
  simp only [dv] at h
  split at h
  ·rename_i hl
   cases h
   refine qP.imp ?_
   rintro vx vy H Q ⟨φ,S,⟨a,us,rfl,h0,h1,h2⟩,r2,q⟩
   refine⟨a,k,us,rfl,r2,h1,by lia,by lia,?_,λp hp=>?_⟩
   ·rw [<-h2.length]
    have:as.length*k.toNat<=1000*1000:=Nat.mul_le_mul hl.1 (by lia)
    exact Nat.le_trans this mil
   ·exact q _ _ (bp.new hp _) ⟨p,_,rfl,S.nin hp,.inl aW,(h2.rep _).fw S (Fw.new hp)⟩
  ·cases h
noncomputable def dIx (st:Sto) (x y:W):Option D:=match x,y with
 | .d (.str z),.d (.int i)=>if z.length<=1000000 then (atI z.cps.toList i).map λc=>.str ⟨#[c]⟩ else none
 | x,.d (.int i)=>(dN st x).bind λds=>atI ds i
 | _,_=>none
theorem y9 {H:Hp}{φ:List Addr}{ds:List D}{vs:List V}{i:Int}{d:D} (r:Rls K H φ ds vs) (e:atI ds i=some d):∃ v,atI vs i=some v/\Rl K H φ d v:=by
 unfold atI at e ⊢
 rw [<-r.length]
 obtain⟨j,e1,e2⟩:=Option.bind_eq_some_iff.mp e
 obtain⟨v,ev,rv⟩:=r.get e2
 exact⟨v,by rw [e1];exact ev,rv⟩
theorem IxR.imp {r r':R2} (h:IxR X r) (m:∀ x y H Q,r' x y H Q->r x y H Q):IxR X r':=λvalue slice pins s σ H x y v u Q I rx ry q hs=>h value slice pins s σ H x y v u Q I rx ry (m _ _ _ _ q) hs
theorem Aq (st:Sto) (x y:W) (d:D) (h:dIx st x y=some d) (hK:X.K=K):IxR X (rD K st x y d):=by
 subst hK
 match y,h with
 | .d (.int i),h=>
  have seq:(dN st x).bind (λds=>atI ds i)=some d->IxR X (rD X.K st x (.d (.int i)) d):=λh=>by
   obtain⟨ds,e1,e2⟩:=Option.bind_eq_some_iff.mp h
   refine qt.imp ?_
   rintro vx vy H Q ⟨φ,S,r1,r2,q⟩
   obtain⟨a,vs,rfl,h1,h2⟩:=m4 S r1 e1
   obtain⟨v,ev,rv⟩:=y9 h2 e2
   rcases h1 with h1 | h1
   ·exact .inl ⟨a,vs,i,v,rfl,r2,h1,ev,q _ H (bp.refl H) rv⟩
   ·exact .inr (.inl ⟨a,vs,i,v,rfl,r2,h1,ev,q _ H (bp.refl H) rv⟩)
  match x,h with
  | .d (.str z),h=>
   simp only [dIx] at h
   split at h
   ·rename_i hl
    obtain⟨c,e1,rfl⟩:=Option.map_eq_some_iff.mp h
    refine qt.imp ?_
    rintro vx vy H Q ⟨φ,S,r1,r2,q⟩
    exact .inr (.inr ⟨z,i,c,r1,r2,Nat.le_trans hl mil,e1,q _ H (bp.refl H) rfl⟩)
   ·cases h
  | .d (.tup z),h=>exact seq h
  | .d (.lst z),h=>exact seq h
  | .d (.scr z),h=>exact seq h
  | .h z,h=>exact seq h
 | .d .non,h=>cases x with | h n=>cases h | d x=>cases x<;>cases h
 | .d (.bl _),h=>cases x with | h n=>cases h | d x=>cases x<;>cases h
 | .d (.str _),h=>cases x with | h n=>cases h | d x=>cases x<;>cases h
 | .d (.ty _),h=>cases x with | h n=>cases h | d x=>cases x<;>cases h
 | .d (.scr _),h=>cases x with | h n=>cases h | d x=>cases x<;>cases h
 | .d .dct,h=>cases x with | h n=>cases h | d x=>cases x<;>cases h
 | .d (.tup _),h=>cases x with | h n=>cases h | d x=>cases x<;>cases h
 | .d (.lst _),h=>cases x with | h n=>cases h | d x=>cases x<;>cases h
 | .h _,h=>cases x with | h n=>cases h | d x=>cases x<;>cases h
variable {e a b:Expr}{pos p2:Pos}{f fa fb:Ef}
theorem eX (ha:IE K X a fa) (hb:IE K X b fb) (hs:jq b=true:=by rfl) (hK:X.K=K:=by rfl):IE K X (.Subscript a b pos) (iOp dIx fa fb):=by
 refine⟨λenv st r hr=>?_⟩
 simp only [iOp,Option.bind_eq_some_iff,Option.map_eq_some_iff] at hr
 obtain⟨x,hx,y,hy,d,hd,rfl⟩:=hr
 exact (xU (Aq _ _ _ _ hd hK) (ha.run _ _ _ hx) (hb.run _ _ _ hy) (pj hs)).imp λσ H Q h=>nI h
abbrev Pf:=Ev->Sto->Option (Option Int×Sto)
noncomputable def iPn:Pf
 | _,st=>some (none,st)
noncomputable def zA:W->Option Int
 | .d (.int i)=>some i
 | _=>none
theorem sj {w:W}{i:Int} (h:zA w=some i):w=.d (.int i):=by
 cases w with
 | h n=>cases h
 | d x=>cases x<;>first | (cases h;done) | (injection h with h;subst h;rfl)
noncomputable def iPs (f:Ef):Pf
 | env,st=>(f env st).bind λr=>(zA r.1).map λi=>(some i,r.2)
noncomputable def tIO (K:PySem.W.Frag) (env:Ev) (st:Sto) (r:Option Int×Sto):TO:=λσ H Q=>∃ φ,Er K H φ env σ/\Sr K H φ st/\∀ H' φ',Fw φ φ' H H'->Sr K H' φ' r.2->Q r.1 H'
structure IO (K:PySem.W.Frag) (X:Cx) (e:Option Expr) (f:Pf):Prop where
 run:∀ env st r,f env st=some r->PO X e (tIO K env st r)
theorem PO.imp {e:Option Expr}{t t':TO} (h:PO X e t) (m:∀ σ H Q,t' σ H Q->t σ H Q):PO X e t':=λpins s σ H Q I q=>h pins s σ H Q I (m σ H Q q)
theorem rA:IO K X none iPn:=by
 refine⟨λenv st r hr=>?_⟩
 cases hr
 exact xh.imp λσ H Q ⟨φ,hE,hS,q⟩=>q H φ (Fw.refl φ H) hS
theorem rh (h:IE K X e f):IO K X (some e) (iPs f):=by
 refine⟨λenv st r hr=>?_⟩
 simp only [iPs,Option.bind_eq_some_iff,Option.map_eq_some_iff] at hr
 obtain⟨⟨x,s1⟩,hx,i,hi,rfl⟩:=hr
 cases sj hi
 refine (wu (h.run _ _ _ hx)).imp ?_
 rintro σ H Q ⟨φ,hE,hS,q⟩
 exact⟨φ,hE,hS,λv H1 φ1 f1 s1 w1=>⟨i,w1,q H1 φ1 f1 s1⟩⟩
noncomputable def lu (xs:List D) (lo hi:Option Int):List D:=(xs.drop (HT.sIx xs.length 0 lo)).take (HT.sIx xs.length xs.length hi - HT.sIx xs.length 0 lo)
theorem rq {H:Hp}{φ:List Addr}{ds:List D}{vs:List V} (r:Rls K H φ ds vs) (lo hi:Option Int):Rls K H φ (lu ds lo hi) (mK vs lo hi):=by
 unfold lu mK
 rw [r.length]
 exact (r.drop _).take _
noncomputable def dSl (st:Sto) (x:W) (lo hi:Option Int):Option D:=match x with
 | .d (.tup ds)=>some (.tup (lu ds lo hi))
 | .d (.lst ds)=>some (.lst (lu ds lo hi))
 | .h n=>(lg st n).map λds=>.lst (lu ds lo hi)
 | .d (.scr ns)=>some (.lst (lu (ns.map D.int) lo hi))
 | _=>none
noncomputable def iSl (f:Ef) (lo hi:Pf):Ef
 | env,st=>(f env st).bind λx=>(lo env x.2).bind λl=>(hi env l.2).bind λu=>(dSl u.2 x.1 l.1 u.1).map λd=>(.d d,u.2)
theorem xM {lo hi:Option Expr}{fl fh:Pf} (h:IE K X e f) (hl:IO K X lo fl) (hh:IO K X hi fh) (hK:X.K=K:=by rfl):IE K X (.Subscript e (.Slice lo hi none p2) pos) (iSl f fl fh):=by
 subst hK
 refine⟨λenv st r hr=>?_⟩
 simp only [iSl,Option.bind_eq_some_iff,Option.map_eq_some_iff] at hr
 obtain⟨⟨x,s1⟩,hx,l,hl',u,hu',d,hd,rfl⟩:=hr
 have list:(∀ {H:Hp}{φ:List Addr}{v:V},Sr X.K H φ u.2->Rw X.K H φ x v->∃ a vs ds,v=.ref a/\SqL X.K H a vs/\Rls X.K H φ ds vs/\d=.lst (lu ds l.1 u.1))->PE X (.Subscript e (.Slice lo hi none p2) pos) (tI X.K env st (.d d,u.2)):=λhq=>by
  refine (oq v4 (h.run _ _ _ hx) (hl.run _ _ _ hl') (hh.run _ _ _ hu')).imp ?_
  rintro σ H Q ⟨φ,hE,hS,q⟩
  refine⟨φ,hE,hS,λv H1 φ1 f1 s1 w1=>⟨φ1,hE.fw hS f1,s1,λH2 φ2 f2 s2=>⟨φ2,(hE.fw hS f1).fw s1 f2,s2,λH3 φ3 f3 s3=>?_⟩⟩⟩
  obtain⟨a,vs,ds,rfl,h1,h2,rfl⟩:=hq s3 ((w1.fw s1 f2).fw s2 f3)
  refine⟨a,vs,rfl,h1,λp hp=>q _ _ φ3 (((f1.trans f2).trans f3).trans (Fw.new hp)) (s3.new hp) ?_⟩
  exact⟨p,_,rfl,s3.nin hp,.inl aW,(rq h2 _ _).fw s3 (Fw.new hp)⟩
 match x,hd with
 | .d (.tup ds),hd=>
  cases hd
  refine (oq (zD (K:=X.K) rfl) (h.run _ _ _ hx) (hl.run _ _ _ hl') (hh.run _ _ _ hu')).imp ?_
  rintro σ H Q ⟨φ,hE,hS,q⟩
  refine⟨φ,hE,hS,λv H1 φ1 f1 s1 w1=>⟨φ1,hE.fw hS f1,s1,λH2 φ2 f2 s2=>⟨φ2,(hE.fw hS f1).fw s1 f2,s2,λH3 φ3 f3 s3=>?_⟩⟩⟩
  obtain⟨a,vs,rfl,h1,h2⟩:=(w1.fw s1 f2).fw s2 f3
  refine⟨a,vs,rfl,(SqT.of h1),?_⟩
  by_cases hc:HT.sIx vs.length 0 l.1=0/\HT.sIx vs.length vs.length u.1=vs.length
  ·refine .inr ⟨hc,q _ _ φ3 ((f1.trans f2).trans f3) s3 ⟨a,vs,rfl,h1,?_⟩⟩
   have e:lu ds l.1 u.1=ds:=by
    unfold lu
    rw [h2.length,hc.1,hc.2,List.drop_zero,Nat.sub_zero,<-h2.length,List.take_length]
   rw [e]
   exact h2
  ·exact .inl ⟨hc,λp hp=>q _ _ φ3 (((f1.trans f2).trans f3).trans (Fw.new hp)) (s3.new hp) ⟨p,_,rfl,aW,(rq h2 _ _).fw s3 (Fw.new hp)⟩⟩
 | .d (.lst ds),hd=>
  cases hd
  refine list λ{H φ v} S w=>?_
  obtain⟨a,vs,rfl,h0,h1,h2⟩:=w
  exact⟨a,vs,ds,rfl,.inl h1,h2,rfl⟩
 | .d (.scr ns),hd=>
  cases hd
  refine list λ{H φ v} S w=>?_
  obtain⟨a,rfl,h⟩:=w
  refine⟨a,_,_,rfl,?_,Rls.of_ints ns,rfl⟩
  rcases h with⟨o,h⟩ | h
  ·exact .inl (.inr ⟨o,h⟩)
  ·exact .inr h
 | .h n,hd=>
  obtain⟨ds,e1,rfl⟩:=Option.map_eq_some_iff.mp hd
  refine list λ{H φ v} S w=>?_
  obtain⟨a,ea,rfl⟩:=w
  obtain⟨vs,q,rl⟩:=S.atl n a ds ea e1
  exact⟨a,vs,ds,rfl,SqL.of q,rl,rfl⟩
end
end L2
namespace L2
open PySem PySem.Spec PyProof.Rows
section
variable {K:PySem.W.Frag}{X:Cx}{pins:List (Addr×Obj)}{σ:St}{H:Hp}{s:Shared}{φ:List Addr}{st:Sto}
theorem ek:∀ (xs ys:List D),((List.range (min xs.length ys.length)).all (λj=>eqD (xs.getD j .non) (ys.getD j .non)) && xs.length==ys.length)=eZ xs ys
 | [],[]=>rfl
 | [],y::ys=>by simp [eZ]
 | x::xs,[]=>by simp [eZ]
 | x::xs,y::ys=>by
  show ((List.range (min (xs.length+1) (ys.length+1))).all (λj=>eqD ((x::xs).getD j .non) ((y::ys).getD j .non)) && (xs.length+1==ys.length+1))=(eqD x y && eZ xs ys)
  rw [show min (xs.length+1) (ys.length+1)=min xs.length ys.length+1 by lia,ly,<-ek xs ys]
  have e:(xs.length+1==ys.length+1)=(xs.length==ys.length):=by rw [Bool.eq_iff_iff];simp
  rw [e,Bool.and_assoc]
  rfl
theorem io {xs ys:List D} (h:xs.length=ys.length):(List.range xs.length).all (λj=>eqD (xs.getD j .non) (ys.getD j .non))=eZ xs ys:=by
 rw [<-ek xs ys,<-h,Nat.min_self];simp
theorem oN:∀ {xs ys:List D},xs.length≠ys.length->eZ xs ys=false
 | [],[],h=>absurd rfl h
 | [],_::_,_=>rfl
 | _::_,[],_=>rfl
 | x::xs,y::ys,h=>by
  show (eqD x y && eZ xs ys)=false
  rw [oN (by intro e;apply h;rw [List.length_cons,List.length_cons,e]),Bool.and_false]
theorem xw (I:Inv X pins σ H s) {a:Addr}{vs ws:List V} (h:Rd H a (.lst vs)) (h':Rd H a (.lst ws)):vs=ws:=I.list_inj (.inl h) (.inl h')
theorem qF (I:Inv X pins σ H s):∀ (n:Nat) {d e:D}{v:V},Rl X.K H φ d v->Rl X.K H φ e v->okD n d=true->okD n e=true->eqD d e=true:=by
 intro n
 induction n with
 | zero=>
  intro d e v r1 r2 o1 o2
  cases d<;>first | (cases o1;done) | skip
  all_goals (cases e<;>first | (cases o2;done) | skip)
  all_goals (first | rfl | (cases r1.symm.trans r2;done) | (cases r1.symm.trans r2;simp [eqD]))
 | succ n ih=>
  have lists:∀ {ds es:List D}{vs:List V},Rls X.K H φ ds vs->Rls X.K H φ es vs->(∀ d ∈ ds,okD n d=true)->(∀ d ∈ es,okD n d=true)->eZ ds es=true:=by
   intro ds
   induction ds with
   | nil=>
    intro es vs r1 r2 _ _
    cases r1
    cases es with
    | nil=>rfl
    | cons e es=>obtain⟨_,_,q,_⟩:=r2;cases q
   | cons d ds ihd=>
    intro es vs r1 r2 o1 o2
    obtain⟨v,r,rfl,a1,a2⟩:=r1
    cases es with
    | nil=>cases r2
    | cons e es=>
     obtain⟨v',r',q,b1,b2⟩:=r2
     cases q
     show (eqD d e && eZ ds es)=true
     rw [ih a1 b1 (o1 d List.mem_cons_self) (o2 e List.mem_cons_self),ihd a2 b2 (λx hx=>o1 x (List.mem_cons_of_mem _ hx)) (λx hx=>o2 x (List.mem_cons_of_mem _ hx))]
     rfl
  intro d e v r1 r2 o1 o2
  cases d with
  | tup ds=>
   obtain⟨a,vs,rfl,h1,h2⟩:=r1
   cases e with
   | tup es=>
    obtain⟨b,us,q,h3,h4⟩:=r2
    cases q
    rw [I.tuple_inj (SqT.of h3) (SqT.of h1)] at h4
    exact lists h2 h4 (List.all_eq_true.mp o1) (List.all_eq_true.mp o2)
   | lst es=>
    obtain⟨b,us,q,_,h3,h4⟩:=r2
    cases q
    obtain⟨_,_,p1,_⟩:=I.tuple (SqT.of h1)
    obtain⟨_,_,p2,_⟩:=I.list (.inl h3)
    exact absurd rfl (SeqAt.ne_of_list_tuple p2.isList p1)
   | _=>first | (cases o2;done) | (cases r2;done)
  | lst ds=>
   obtain⟨a,vs,rfl,h0,h1,h2⟩:=r1
   cases e with
   | lst es=>
    obtain⟨b,us,q,_,h3,h4⟩:=r2
    cases q
    rw [xw I h3 h1] at h4
    exact lists h2 h4 (List.all_eq_true.mp o1) (List.all_eq_true.mp o2)
   | tup es=>
    obtain⟨b,us,q,h3,h4⟩:=r2
    cases q
    obtain⟨_,_,p1,_⟩:=I.tuple (SqT.of h3)
    obtain⟨_,_,p2,_⟩:=I.list (.inl h1)
    exact absurd rfl (SeqAt.ne_of_list_tuple p2.isList p1)
   | _=>first | (cases o2;done) | (cases r2;done)
  | non=>cases e<;>first | rfl | (cases o2;done) | (cases r1.symm.trans r2;done) | (cases r1;obtain⟨_,_,q,_⟩:=r2;cases q)
  | bl b=>cases e<;>first | (cases o2;done) | (cases r1.symm.trans r2;simp [eqD];done) | (cases r1.symm.trans r2;done) | (cases r1;obtain⟨_,_,q,_⟩:=r2;cases q)
  | int b=>cases e<;>first | (cases o2;done) | (cases r1.symm.trans r2;simp [eqD];done) | (cases r1.symm.trans r2;done) | (cases r1;obtain⟨_,_,q,_⟩:=r2;cases q)
  | str b=>cases e<;>first | (cases o2;done) | (cases r1.symm.trans r2;simp [eqD];done) | (cases r1.symm.trans r2;done) | (cases r1;obtain⟨_,_,q,_⟩:=r2;cases q)
  | ty b=>cases o1
  | scr b=>cases o1
  | dct=>cases o1
theorem d9 {ds:List D}{vs:List V}{us:List Value} (r:Rls K H φ ds vs) (rv:aK vs us):∀ (j:Nat) (h:j < us.length),∃ v,Rl K H φ (ds.getD j .non) v/\aX v us[j]/\ds.getD j .non ∈ ds:=by
 intro j h
 obtain⟨h',q⟩:=rv.at j h
 have hd:j < ds.length:=by rw [r.length];exact h'
 have e:ds[j]?=some ds[j]:=List.getElem?_eq_getElem hd
 obtain⟨v,ev,rl⟩:=r.get e
 rw [List.getElem?_eq_getElem h'] at ev
 cases ev
 refine⟨_,?_,q,?_⟩
 ·rw [List.getD,e];exact rl
 ·rw [List.getD,e];exact List.getElem_mem hd
theorem yw (I:Inv X pins σ H s):∀ (n:Nat) {A:Around}{d e:D}{v u:V}{vv uu:Value},Rl X.K H φ d v->Rl X.K H φ e u->aX v vv->aX u uu->okD n d=true->okD n e=true->A.units+n < cLine->SeqAt.EqAt A s vv uu (eqD d e):=by
 have flat:∀ {A:Around}{d e:D}{v u:V}{vv uu:Value},gj d=true->gj e=true->Rl X.K H φ d v->Rl X.K H φ e u->aX v vv->aX u uu->SeqAt.EqAt A s vv uu (eqD d e):=by
  intro A d e v u vv uu f1 f2 r1 r2 q1 q2
  obtain⟨e1,g1⟩:=i7 f1 r1
  obtain⟨e2,g2⟩:=i7 f2 r2
  rw [<-qX f1 f2,<-e1,<-e2]
  exact ui q1 q2 g1 g2
 intro n
 induction n with
 | zero=>
  intro A d e v u vv uu r1 r2 q1 q2 o1 o2 hu
  refine flat ?_ ?_ r1 r2 q1 q2
  ·cases d<;>first | rfl | cases o1
  ·cases e<;>first | rfl | cases o2
 | succ n ih=>
  intro A d e v u vv uu r1 r2 q1 q2 o1 o2 hu
  have hu0:A.units < cLine:=by lia
  have hu1:A.in1.units+n < cLine:=by show A.units+1+n < cLine;lia
  cases d with
  | tup ds=>
   obtain⟨a,vs,rfl,h1,h2⟩:=r1
   cases q1
   obtain⟨its,rv,p1,_⟩:=I.tuple (SqT.of h1)
   cases e with
   | tup es=>
    obtain⟨b,us,rfl,h3,h4⟩:=id r2
    cases q2
    by_cases hab:a=b
    ·subst hab
     rw [qF I (n+1) (d:=.tup ds) ⟨a,vs,rfl,h1,h2⟩ r2 o1 o2]
     exact SeqAt.EqAt.same _
    ·obtain⟨its2,rv2,p2,_⟩:=I.tuple (SqT.of h3)
     have z:=SeqAt.RcAt.tuples (A:=A) (e:=λj=>eqD (ds.getD j .non) (es.getD j .non)) p1 p2 hu0 λj g1 g2=>by
      obtain⟨v1,k1,k2,k3⟩:=d9 h2 rv j (by simpa using g1)
      obtain⟨v2,k4,k5,k6⟩:=d9 h4 rv2 j (by simpa using g2)
      exact ih k1 k4 (by simpa using k2) (by simpa using k5) (List.all_eq_true.mp o1 _ k3) (List.all_eq_true.mp o2 _ k6) hu1
     have e1:its.toArray.size=ds.length:=by simp [<-rv.length,h2.length]
     have e2:its2.toArray.size=es.length:=by simp [<-rv2.length,h4.length]
     rw [e1,e2,ek] at z
     exact SeqAt.EqAt.of_refs hab z
   | lst es=>
    obtain⟨b,us,rfl,_,h3,h4⟩:=id r2
    cases q2
    obtain⟨its2,rv2,p2,_⟩:=I.list (.inl h3)
    exact SeqAt.EqAt.tuple_list p1 p2.isList hu0
   | non=>cases r2;cases q2;exact SeqAt.EqAt.tuple_none p1 hu0
   | bl x=>cases r2;cases q2;exact SeqAt.EqAt.tuple_bool x p1 hu0
   | int x=>cases r2;obtain⟨t,rfl⟩:=q2;exact SeqAt.EqAt.tuple_int x t p1 hu0
   | str x=>cases r2;obtain⟨t,rfl⟩:=q2;exact SeqAt.EqAt.tuple_str x t p1 hu0
   | ty _=>cases o2
   | scr _=>cases o2
   | dct=>cases o2
  | lst ds=>
   obtain⟨a,vs,rfl,h0,h1,h2⟩:=r1
   cases q1
   obtain⟨its,rv,p1,_⟩:=I.list (.inl h1)
   cases e with
   | lst es=>
    obtain⟨b,us,rfl,_,h3,h4⟩:=id r2
    cases q2
    by_cases hab:a=b
    ·subst hab
     rw [qF I (n+1) (d:=.lst ds) ⟨a,vs,rfl,h0,h1,h2⟩ r2 o1 o2]
     exact SeqAt.EqAt.same _
    ·obtain⟨its2,rv2,p2,_⟩:=I.list (.inl h3)
     have e1:its.toArray.size=ds.length:=by simp [<-rv.length,h2.length]
     have e2:its2.toArray.size=es.length:=by simp [<-rv2.length,h4.length]
     by_cases hl:ds.length=es.length
     ·have z:=SeqAt.RcAt.lists (A:=A) (e:=λj=>eqD (ds.getD j .non) (es.getD j .non)) p1.isList p2.isList (by rw [e1,e2,hl]) hu0 λj g1 g2=>by
       obtain⟨v1,k1,k2,k3⟩:=d9 h2 rv j (by simpa using g1)
       obtain⟨v2,k4,k5,k6⟩:=d9 h4 rv2 j (by simpa using g2)
       exact ih k1 k4 (by simpa using k2) (by simpa using k5) (List.all_eq_true.mp o1 _ k3) (List.all_eq_true.mp o2 _ k6) hu1
      rw [e1,io hl] at z
      exact SeqAt.EqAt.of_refs hab z
     ·have z:=SeqAt.RcAt.lists_lengths (A:=A) p1.isList p2.isList (by rw [e1,e2];simpa using hl) hu0
      show SeqAt.EqAt A s _ _ (eZ ds es)
      rw [oN hl]
      exact SeqAt.EqAt.of_refs hab z
   | tup es=>
    obtain⟨b,us,rfl,h3,h4⟩:=id r2
    cases q2
    obtain⟨its2,rv2,p2,_⟩:=I.tuple (SqT.of h3)
    exact SeqAt.EqAt.list_tuple p1.isList p2 hu0
   | non=>cases r2;cases q2;exact SeqAt.EqAt.list_none p1.isList hu0
   | bl x=>cases r2;cases q2;exact SeqAt.EqAt.list_bool x p1.isList hu0
   | int x=>cases r2;obtain⟨t,rfl⟩:=q2;exact SeqAt.EqAt.list_int x t p1.isList hu0
   | str x=>cases r2;obtain⟨t,rfl⟩:=q2;exact SeqAt.EqAt.list_str x t p1.isList hu0
   | ty _=>cases o2
   | scr _=>cases o2
   | dct=>cases o2
  | non=>
   cases r1;cases q1
   cases e with
   | tup es=>obtain⟨b,us,rfl,h3,h4⟩:=r2;cases q2;obtain⟨_,_,p2,_⟩:=I.tuple (SqT.of h3);exact SeqAt.EqAt.none_tuple p2 hu0
   | lst es=>obtain⟨b,us,rfl,_,h3,h4⟩:=r2;cases q2;obtain⟨_,_,p2,_⟩:=I.list (.inl h3);exact SeqAt.EqAt.none_list p2.isList hu0
   | _=>first | (cases o2;done) | exact flat rfl rfl (d:=.non) rfl r2 (v:=.non) rfl q2
  | bl x=>
   cases r1;cases q1
   cases e with
   | tup es=>obtain⟨b,us,rfl,h3,h4⟩:=r2;cases q2;obtain⟨_,_,p2,_⟩:=I.tuple (SqT.of h3);exact SeqAt.EqAt.bool_tuple x p2 hu0
   | lst es=>obtain⟨b,us,rfl,_,h3,h4⟩:=r2;cases q2;obtain⟨_,_,p2,_⟩:=I.list (.inl h3);exact SeqAt.EqAt.bool_list x p2.isList hu0
   | _=>first | (cases o2;done) | exact flat rfl rfl (d:=.bl x) rfl r2 (v:=.bl x) rfl q2
  | int x=>
   cases r1;obtain⟨t1,rfl⟩:=q1
   cases e with
   | tup es=>obtain⟨b,us,rfl,h3,h4⟩:=r2;cases q2;obtain⟨_,_,p2,_⟩:=I.tuple (SqT.of h3);exact SeqAt.EqAt.int_tuple x t1 p2 hu0
   | lst es=>obtain⟨b,us,rfl,_,h3,h4⟩:=r2;cases q2;obtain⟨_,_,p2,_⟩:=I.list (.inl h3);exact SeqAt.EqAt.int_list x t1 p2.isList hu0
   | _=>first | (cases o2;done) | exact flat rfl rfl (d:=.int x) rfl r2 (v:=.int x) ⟨t1,rfl⟩ q2
  | str x=>
   cases r1;obtain⟨t1,rfl⟩:=q1
   cases e with
   | tup es=>obtain⟨b,us,rfl,h3,h4⟩:=r2;cases q2;obtain⟨_,_,p2,_⟩:=I.tuple (SqT.of h3);exact SeqAt.EqAt.str_tuple x t1 p2 hu0
   | lst es=>obtain⟨b,us,rfl,_,h3,h4⟩:=r2;cases q2;obtain⟨_,_,p2,_⟩:=I.list (.inl h3);exact SeqAt.EqAt.str_list x t1 p2.isList hu0
   | _=>first | (cases o2;done) | exact flat rfl rfl (d:=.str x) rfl r2 (v:=.str x) ⟨t1,rfl⟩ q2
  | ty _=>cases o1
  | scr _=>cases o1
  | dct=>cases o1
theorem zc {A:Around}{y x:V}{u v:Value} (ry:aX y u) (rx:aX x v) (fy:lm y=true) (fx:lm x=true):SeqAt.RcAt A s u v (eqV y x):=by
 cases y with
 | non=>
  cases ry
  cases x with
  | non=>cases rx;exact SeqAt.RcAt.none_none
  | bl b=>cases rx;exact SeqAt.RcAt.none_bool b
  | int b=>obtain⟨t,rfl⟩:=rx;exact SeqAt.RcAt.none_int b t
  | str b=>obtain⟨t,rfl⟩:=rx;exact SeqAt.RcAt.none_str b t
  | _=>cases fx
 | bl a=>
  cases ry
  cases x with
  | non=>cases rx;exact SeqAt.RcAt.bool_none a
  | bl b=>cases rx;exact SeqAt.RcAt.bool_bool a b
  | int b=>obtain⟨t,rfl⟩:=rx;exact SeqAt.RcAt.bool_int a b t
  | str b=>obtain⟨t,rfl⟩:=rx;exact SeqAt.RcAt.bool_str a b t
  | _=>cases fx
 | int a=>
  obtain⟨t',rfl⟩:=ry
  cases x with
  | non=>cases rx;exact SeqAt.RcAt.int_none a t'
  | bl b=>cases rx;exact SeqAt.RcAt.int_bool a t' b
  | int b=>obtain⟨t,rfl⟩:=rx;exact SeqAt.RcAt.int_int a t' b t
  | str b=>obtain⟨t,rfl⟩:=rx;exact SeqAt.RcAt.int_str a t' b t
  | _=>cases fx
 | str a=>
  obtain⟨t',rfl⟩:=ry
  cases x with
  | non=>cases rx;exact SeqAt.RcAt.str_none a t'
  | bl b=>cases rx;exact SeqAt.RcAt.str_bool a t' b
  | int b=>obtain⟨t,rfl⟩:=rx;exact SeqAt.RcAt.str_int a t' b t
  | str b=>obtain⟨t,rfl⟩:=rx;exact SeqAt.RcAt.str_str a t' b t
  | _=>cases fx
 | _=>cases fy
theorem u9 {A:Around}{y x:V}{u v:Value} (ry:aX y u) (rx:aX x v) (fy:lm y=true) (fx:lm x=true):SeqAt.RcNeAt A s u v (!eqV y x):=by
 cases y with
 | non=>
  cases ry
  cases x with
  | non=>cases rx;exact SeqAt.RcNeAt.none_none
  | bl b=>cases rx;exact SeqAt.RcNeAt.none_bool b
  | int b=>obtain⟨t,rfl⟩:=rx;exact SeqAt.RcNeAt.none_int b t
  | str b=>obtain⟨t,rfl⟩:=rx;exact SeqAt.RcNeAt.none_str b t
  | _=>cases fx
 | bl a=>
  cases ry
  cases x with
  | non=>cases rx;exact SeqAt.RcNeAt.bool_none a
  | bl b=>cases rx;exact SeqAt.RcNeAt.bool_bool a b
  | int b=>obtain⟨t,rfl⟩:=rx;exact SeqAt.RcNeAt.bool_int a b t
  | str b=>obtain⟨t,rfl⟩:=rx;exact SeqAt.RcNeAt.bool_str a b t
  | _=>cases fx
 | int a=>
  obtain⟨t',rfl⟩:=ry
  cases x with
  | non=>cases rx;exact SeqAt.RcNeAt.int_none a t'
  | bl b=>cases rx;exact SeqAt.RcNeAt.int_bool a t' b
  | int b=>obtain⟨t,rfl⟩:=rx;exact SeqAt.RcNeAt.int_int a t' b t
  | str b=>obtain⟨t,rfl⟩:=rx;exact SeqAt.RcNeAt.int_str a t' b t
  | _=>cases fx
 | str a=>
  obtain⟨t',rfl⟩:=ry
  cases x with
  | non=>cases rx;exact SeqAt.RcNeAt.str_none a t'
  | bl b=>cases rx;exact SeqAt.RcNeAt.str_bool a t' b
  | int b=>obtain⟨t,rfl⟩:=rx;exact SeqAt.RcNeAt.str_int a t' b t
  | str b=>obtain⟨t,rfl⟩:=rx;exact SeqAt.RcNeAt.str_str a t' b t
  | _=>cases fx
 | _=>cases fy
inductive Kin where
 | fl (d:D) | tp (ds:List D) | ls (ds:List D)
noncomputable def dh (st:Sto):W->Option Kin
 | .d (.tup ds)=>some (.tp ds)
 | .d (.lst ds)=>some (.ls ds)
 | .h n=>(lg st n).map .ls
 | .d .non=>some (.fl .non)
 | .d (.bl b)=>some (.fl (.bl b))
 | .d (.int i)=>some (.fl (.int i))
 | .d (.str x)=>some (.fl (.str x))
 | _=>none
noncomputable def eqK:Kin->Kin->Option Bool
 | .fl a,.fl b=>some (eqD a b)
 | .tp as,.tp bs=>if (as.isEmpty || bs.isEmpty)=true then some (as.isEmpty && bs.isEmpty) else if as.all (okD 60)=true/\bs.all (okD 60)=true then some (eZ as bs) else none
 | .ls as,.ls bs=>if as.length=bs.length then (if as.all (okD 60)=true/\bs.all (okD 60)=true then some (eZ as bs) else none) else some false
 | .fl _,.tp _=>some false
 | .tp _,.fl _=>some false
 | .fl _,.ls _=>some false
 | .ls _,.fl _=>some false
 | .tp _,.ls _=>some false
 | .ls _,.tp _=>some false
noncomputable def dEq (st:Sto) (x y:W):Option D:=(dh st x).bind λa=>(dh st y).bind λb=>(eqK a b).map λk=>.bl k
noncomputable def dNe (st:Sto) (x y:W):Option D:=(dh st x).bind λa=>(dh st y).bind λb=>(eqK a b).map λk=>.bl (!k)
noncomputable def yf (K:PySem.W.Frag) (H:Hp) (φ:List Addr):Kin->V->Prop
 | .fl d,v=>gj d=true/\Rl K H φ d v
 | .tp ds,v=>∃ a vs,v=.ref a/\SqT K H a vs/\Rls K H φ ds vs
 | .ls ds,v=>∃ a vs,v=.ref a/\Rd H a (.lst vs)/\Rls K H φ ds vs
theorem ke {w:W}{v:V}{k:Kin} (S:Sr K H φ st) (r:Rw K H φ w v) (e:dh st w=some k):yf K H φ k v:=by
 cases w with
 | h n=>
  obtain⟨a,ea,rfl⟩:=r
  obtain⟨ds,e1,rfl⟩:=Option.map_eq_some_iff.mp e
  obtain⟨vs,q,rl⟩:=S.atl n a ds ea e1
  exact⟨a,vs,rfl,.inl q,rl⟩
 | d x=>
  cases x with
  | tup es=>cases e;obtain⟨a,vs,rfl,h1,h2⟩:=r;exact⟨a,vs,rfl,SqT.of h1,h2⟩
  | lst es=>cases e;obtain⟨a,vs,rfl,h0,h1,h2⟩:=r;exact⟨a,vs,rfl,h1,h2⟩
  | non=>cases e;exact⟨rfl,r⟩
  | bl b=>cases e;exact⟨rfl,r⟩
  | int b=>cases e;exact⟨rfl,r⟩
  | str b=>cases e;exact⟨rfl,r⟩
  | _=>cases e
theorem yu {A:Around}{k:Nat} (hr:bn k A):A.in1.units+60 < cLine:=by
 have:=hr.un
 show A.units+1+60 < cLine
 lia
theorem uf {k:Nat} (hr:bn k X.A) (I:Inv X pins σ H s) {a b:Kin}{v u:V}{vv uu:Value}{r:Bool} (ra:yf X.K H φ a v) (rb:yf X.K H φ b u) (qa:aX v vv) (qb:aX u uu) (e:eqK a b=some r) :
  SeqAt.RcAt X.A s vv uu r/\SeqAt.RcNeAt X.A s vv uu (!r):=by
 have hu0:=hr.units0
 have items:∀ {ds es:List D}{vs us:List V}{its its2:List Value},Rls X.K H φ ds vs->Rls X.K H φ es us->aK vs its->aK us its2->ds.all (okD 60)=true->es.all (okD 60)=true->
   ∀ j (g1:j < its.toArray.size) (g2:j < its2.toArray.size),SeqAt.EqAt X.A.in1 s its.toArray[j] its2.toArray[j] (eqD (ds.getD j .non) (es.getD j .non)):=by
  intro ds es vs us its its2 h2 h4 rv rv2 o1 o2 j g1 g2
  obtain⟨v1,k1,k2,k3⟩:=d9 h2 rv j (by simpa using g1)
  obtain⟨v2,k4,k5,k6⟩:=d9 h4 rv2 j (by simpa using g2)
  exact yw I 60 k1 k4 (by simpa using k2) (by simpa using k5) (List.all_eq_true.mp o1 _ k3) (List.all_eq_true.mp o2 _ k6) (yu hr)
 match a,b,e with
 | .fl d,.fl d',e=>
  cases e
  obtain⟨f1,r1⟩:=ra
  obtain⟨f2,r2⟩:=rb
  obtain⟨e1,g1⟩:=i7 f1 r1
  obtain⟨e2,g2⟩:=i7 f2 r2
  rw [<-qX f1 f2,<-e1,<-e2]
  exact⟨zc qa qb g1 g2,u9 qa qb g1 g2⟩
 | .tp ds,.tp es,e=>
  simp only [eqK] at e
  obtain⟨a,vs,rfl,h1,h2⟩:=ra
  obtain⟨b,us,rfl,h3,h4⟩:=rb
  cases qa;cases qb
  obtain⟨its,rv,p1,_⟩:=I.tuple h1
  obtain⟨its2,rv2,p2,_⟩:=I.tuple h3
  have e1:its.toArray.size=ds.length:=by simp [<-rv.length,h2.length]
  have e2:its2.toArray.size=es.length:=by simp [<-rv2.length,h4.length]
  split at e
  ·rename_i hc
   cases e
   have hv:∀ j (g1:j < its.toArray.size) (g2:j < its2.toArray.size),SeqAt.EqAt X.A.in1 s its.toArray[j] its2.toArray[j] (eqD (ds.getD j .non) (es.getD j .non)):=λj g1 g2=>by
    rw [e1] at g1
    rw [e2] at g2
    rw [Bool.or_eq_true] at hc
    rcases hc with hc | hc
    ·rw [List.isEmpty_iff.mp hc] at g1;exact absurd g1 (Nat.not_lt_zero _)
    ·rw [List.isEmpty_iff.mp hc] at g2;exact absurd g2 (Nat.not_lt_zero _)
   have z:=SeqAt.RcAt.tuples (A:=X.A) p1 p2 hu0 hv
   have z':=SeqAt.RcNeAt.tuples (A:=X.A) p1 p2 hu0 hv
   rw [e1,e2,ek] at z z'
   have e3:eZ ds es=(ds.isEmpty && es.isEmpty):=by
    cases ds with
    | nil=>cases es<;>rfl
    | cons _ _=>cases es with
     | nil=>rfl
     | cons _ _=>cases hc
   rw [e3] at z z'
   exact⟨z,z'⟩
  ·split at e
   ·rename_i hc
    cases e
    have z:=SeqAt.RcAt.tuples (A:=X.A) p1 p2 hu0 (items h2 h4 rv rv2 hc.1 hc.2)
    have z':=SeqAt.RcNeAt.tuples (A:=X.A) p1 p2 hu0 (items h2 h4 rv rv2 hc.1 hc.2)
    rw [e1,e2,ek] at z z'
    exact⟨z,z'⟩
   ·cases e
 | .ls ds,.ls es,e=>
  simp only [eqK] at e
  obtain⟨a,vs,rfl,h1,h2⟩:=ra
  obtain⟨b,us,rfl,h3,h4⟩:=rb
  cases qa;cases qb
  obtain⟨its,rv,p1,_⟩:=I.list (.inl h1)
  obtain⟨its2,rv2,p2,_⟩:=I.list (.inl h3)
  have e1:its.toArray.size=ds.length:=by simp [<-rv.length,h2.length]
  have e2:its2.toArray.size=es.length:=by simp [<-rv2.length,h4.length]
  split at e
  ·rename_i hl
   split at e
   ·rename_i hc
    cases e
    have z:=SeqAt.RcAt.lists (A:=X.A) p1.isList p2.isList (by rw [e1,e2,hl]) hu0 (items h2 h4 rv rv2 hc.1 hc.2)
    have z':=SeqAt.RcNeAt.lists (A:=X.A) p1.isList p2.isList (by rw [e1,e2,hl]) hu0 (items h2 h4 rv rv2 hc.1 hc.2)
    rw [e1,io hl] at z z'
    exact⟨z,z'⟩
   ·cases e
  ·rename_i hl
   cases e
   have z:=SeqAt.RcAt.lists_lengths (A:=X.A) p1.isList p2.isList (by rw [e1,e2];simpa using hl) hu0
   have z':=SeqAt.RcNeAt.lists_lengths (A:=X.A) p1.isList p2.isList (by rw [e1,e2];simpa using hl) hu0
   exact⟨z,z'⟩
 | .fl d,.tp es,e=>
  cases e
  obtain⟨f1,r1⟩:=ra
  obtain⟨b,us,rfl,h3,h4⟩:=rb
  cases qb
  obtain⟨its2,rv2,p2,_⟩:=I.tuple h3
  cases d with
  | non=>cases r1;cases qa;exact⟨SeqAt.RcAt.none_tuple p2 hu0,SeqAt.RcNeAt.none_tuple p2 hu0⟩
  | bl x=>cases r1;cases qa;exact⟨SeqAt.RcAt.bool_tuple x p2 hu0,SeqAt.RcNeAt.bool_tuple x p2 hu0⟩
  | int x=>cases r1;obtain⟨t,rfl⟩:=qa;exact⟨SeqAt.RcAt.int_tuple x t p2 hu0,SeqAt.RcNeAt.int_tuple x t p2 hu0⟩
  | str x=>cases r1;obtain⟨t,rfl⟩:=qa;exact⟨SeqAt.RcAt.str_tuple x t p2 hu0,SeqAt.RcNeAt.str_tuple x t p2 hu0⟩
  | _=>cases f1
 | .tp es,.fl d,e=>
  cases e
  obtain⟨f1,r1⟩:=rb
  obtain⟨b,us,rfl,h3,h4⟩:=ra
  cases qa
  obtain⟨its2,rv2,p2,_⟩:=I.tuple h3
  cases d with
  | non=>cases r1;cases qb;exact⟨SeqAt.RcAt.tuple_none p2 hu0,SeqAt.RcNeAt.tuple_none p2 hu0⟩
  | bl x=>cases r1;cases qb;exact⟨SeqAt.RcAt.tuple_bool x p2 hu0,SeqAt.RcNeAt.tuple_bool x p2 hu0⟩
  | int x=>cases r1;obtain⟨t,rfl⟩:=qb;exact⟨SeqAt.RcAt.tuple_int x t p2 hu0,SeqAt.RcNeAt.tuple_int x t p2 hu0⟩
  | str x=>cases r1;obtain⟨t,rfl⟩:=qb;exact⟨SeqAt.RcAt.tuple_str x t p2 hu0,SeqAt.RcNeAt.tuple_str x t p2 hu0⟩
  | _=>cases f1
 | .fl d,.ls es,e=>
  cases e
  obtain⟨f1,r1⟩:=ra
  obtain⟨b,us,rfl,h3,h4⟩:=rb
  cases qb
  obtain⟨its2,rv2,p2,_⟩:=I.list (.inl h3)
  replace p2:=p2.isList
  cases d with
  | non=>cases r1;cases qa;exact⟨SeqAt.RcAt.none_list p2 hu0,SeqAt.RcNeAt.none_list p2 hu0⟩
  | bl x=>cases r1;cases qa;exact⟨SeqAt.RcAt.bool_list x p2 hu0,SeqAt.RcNeAt.bool_list x p2 hu0⟩
  | int x=>cases r1;obtain⟨t,rfl⟩:=qa;exact⟨SeqAt.RcAt.int_list x t p2 hu0,SeqAt.RcNeAt.int_list x t p2 hu0⟩
  | str x=>cases r1;obtain⟨t,rfl⟩:=qa;exact⟨SeqAt.RcAt.str_list x t p2 hu0,SeqAt.RcNeAt.str_list x t p2 hu0⟩
  | _=>cases f1
 | .ls es,.fl d,e=>
  cases e
  obtain⟨f1,r1⟩:=rb
  obtain⟨b,us,rfl,h3,h4⟩:=ra
  cases qa
  obtain⟨its2,rv2,p2,_⟩:=I.list (.inl h3)
  replace p2:=p2.isList
  cases d with
  | non=>cases r1;cases qb;exact⟨SeqAt.RcAt.list_none p2 hu0,SeqAt.RcNeAt.list_none p2 hu0⟩
  | bl x=>cases r1;cases qb;exact⟨SeqAt.RcAt.list_bool x p2 hu0,SeqAt.RcNeAt.list_bool x p2 hu0⟩
  | int x=>cases r1;obtain⟨t,rfl⟩:=qb;exact⟨SeqAt.RcAt.list_int x t p2 hu0,SeqAt.RcNeAt.list_int x t p2 hu0⟩
  | str x=>cases r1;obtain⟨t,rfl⟩:=qb;exact⟨SeqAt.RcAt.list_str x t p2 hu0,SeqAt.RcNeAt.list_str x t p2 hu0⟩
  | _=>cases f1
 | .tp ds,.ls es,e=>
  cases e
  obtain⟨a,vs,rfl,h1,h2⟩:=ra
  obtain⟨b,us,rfl,h3,h4⟩:=rb
  cases qa;cases qb
  obtain⟨its,rv,p1,_⟩:=I.tuple h1
  obtain⟨its2,rv2,p2,_⟩:=I.list (.inl h3)
  exact⟨SeqAt.RcAt.tuple_list p1 p2.isList hu0,SeqAt.RcNeAt.tuple_list p1 p2.isList hu0⟩
 | .ls ds,.tp es,e=>
  cases e
  obtain⟨a,vs,rfl,h1,h2⟩:=ra
  obtain⟨b,us,rfl,h3,h4⟩:=rb
  cases qa;cases qb
  obtain⟨its,rv,p1,_⟩:=I.list (.inl h1)
  obtain⟨its2,rv2,p2,_⟩:=I.tuple h3
  exact⟨SeqAt.RcAt.list_tuple p1.isList p2 hu0,SeqAt.RcNeAt.list_tuple p1.isList p2 hu0⟩
theorem dB {k:Nat} (hr:bn k X.A) (hK:X.K=K:=by rfl):OpD K X (compareOp .Eq) dEq:=by
 subst hK
 refine⟨λst x y d h=>?_⟩
 simp only [dEq,Option.bind_eq_some_iff,Option.map_eq_some_iff] at h
 obtain⟨a,ha,b,hb,r,e,rfl⟩:=h
 intro pins s σ H vx vy v u Q I rx ry q
 obtain⟨φ,S,r1,r2,q⟩:=q
 exact (uf hr I (ke S r1 ha) (ke S r2 hb) rx ry e).1 _ _ _ _ ⟨.bl r,H,I,rfl,q _ H (bp.refl H) rfl⟩
theorem gD {k:Nat} (hr:bn k X.A) (hK:X.K=K:=by rfl):OpD K X (compareOp .NotEq) dNe:=by
 subst hK
 refine⟨λst x y d h=>?_⟩
 simp only [dNe,Option.bind_eq_some_iff,Option.map_eq_some_iff] at h
 obtain⟨a,ha,b,hb,r,e,rfl⟩:=h
 intro pins s σ H vx vy v u Q I rx ry q
 obtain⟨φ,S,r1,r2,q⟩:=q
 exact (uf hr I (ke S r1 ha) (ke S r2 hb) rx ry e).2 _ _ _ _ ⟨.bl (!r),H,I,rfl,q _ H (bp.refl H) rfl⟩
end
end L2
namespace L2
open PySem PySem.Spec PyProof.Rows
section
variable {K:PySem.W.Frag}{X:Cx}
noncomputable def bV:List D->Option (List Int)
 | []=>some []
 | .int i::ds=>(bV ds).map λr=>i::r
 | _=>none
theorem cw:∀ {ds:List D}{ns:List Int},bV ds=some ns->ds=ns.map D.int
 | [],_,h=>by cases h;rfl
 | .int i::ds,_,h=>by
  obtain⟨r,e,rfl⟩:=Option.map_eq_some_iff.mp h
  rw [cw e];rfl
 | .non::_,_,h=>by cases h
 | .bl _::_,_,h=>by cases h
 | .str _::_,_,h=>by cases h
 | .ty _::_,_,h=>by cases h
 | .dct::_,_,h=>by cases h
 | .scr _::_,_,h=>by cases h
 | .tup _::_,_,h=>by cases h
 | .lst _::_,_,h=>by cases h
theorem ci:∀ (ns:List Int),bV (ns.map D.int)=some ns
 | []=>rfl
 | n::ns=>by rw [List.map_cons,bV,ci ns];rfl
noncomputable def jj:List D->Option (List Bool)
 | []=>some []
 | .bl i::ds=>(jj ds).map λr=>i::r
 | _=>none
theorem jK:∀ {ds:List D}{ns:List Bool},jj ds=some ns->ds=ns.map D.bl
 | [],_,h=>by cases h;rfl
 | .bl i::ds,_,h=>by
  obtain⟨r,e,rfl⟩:=Option.map_eq_some_iff.mp h
  rw [jK e];rfl
 | .non::_,_,h=>by cases h
 | .int _::_,_,h=>by cases h
 | .str _::_,_,h=>by cases h
 | .ty _::_,_,h=>by cases h
 | .dct::_,_,h=>by cases h
 | .scr _::_,_,h=>by cases h
 | .tup _::_,_,h=>by cases h
 | .lst _::_,_,h=>by cases h
theorem kP:∀ (ns:List Bool),jj (ns.map D.bl)=some ns
 | []=>rfl
 | n::ns=>by rw [List.map_cons,jj,kP ns];rfl
noncomputable def cj (st:Sto):List W->Option D
 | [.d (.str x)]=>if x.length<=1000000 then some (.int x.length) else none
 | [w]=>(dN st w).map λds=>.int ds.length
 | _=>none
noncomputable def pk (_:Sto):List W->Option D
 | [.d (.int i)]=>some (.int (if i < 0 then -i else i))
 | _=>none
noncomputable def t7 (_:Sto):List W->Option D
 | [.d (.int i)]=>some (.int i)
 | [.d (.bl k)]=>some (.int (if k then 1 else 0))
 | _=>none
noncomputable def mS (_:Sto):List W->Option D
 | [.d (.lst ds)]=>(bV ds).map λns=>.int ns.sum
 | _=>none
noncomputable def sq (_:Sto):List W->Option D
 | [.d (.lst ds)]=>(jj ds).map λns=>.bl (ns.all id)
 | _=>none
noncomputable def hV (st:Sto):List W->Option D
 | [w]=>(dN st w).map λds=>.tup ds
 | _=>none
noncomputable def qf:D->Bool
 | .non=>true
 | .int i=>decide (0<=i) && decide (i < 1024)
 | _=>false
noncomputable def jN (_:Sto):List W->Option D
 | [.d (.int i)]=>if i.natAbs.log2 < 1920 then some (.str (toString i)) else none
 | [.d (.tup ds)]=>if ds.all qf=true/\ds.length<=1000 then some (.str (nH (ds.map vOf))) else none
 | _=>none
noncomputable def yL (st:Sto):W->Option String
 | .d .non=>some "NoneType"
 | .d (.bl _)=>some "bool"
 | .d (.int _)=>some "int"
 | .d (.str _)=>some "str"
 | .d (.tup _)=>some "tuple"
 | .d (.lst _)=>some "list"
 | .d .dct=>some "dict"
 | .h n=>(lg st n).map λ_=>"list"
 | _=>none
noncomputable def zx (t c:String):Option Bool:=
 if c = "int" then some (t=="int" || t=="bool")
 else if c = "bool"\/c = "str"\/c = "tuple"\/c = "list" then some (t==c)
 else none
noncomputable def pv (st:Sto):List W->Option D
 | [w,.d (.ty c)]=>(yL st w).bind λt=>(zx t c).map λb=>.bl b
 | _=>none
theorem ca (hK:X.K=K:=by rfl):eS K X (.builtin "len") cj:=by
 subst hK
 refine⟨λst ws d h=>?_⟩
 have seq:∀ w,(dN st w).map (λds=>D.int ds.length)=some d->bR X (.builtin "len") (rCD X.K st [w] d):=λw h=>by
  obtain⟨ds,e,rfl⟩:=Option.map_eq_some_iff.mp h
  refine nv.imp ?_
  rintro vs H Q ⟨φ,S,⟨v,r,rfl,r1,rfl⟩,q⟩
  obtain⟨a,us,rfl,h1,h2⟩:=m4 S r1 e
  exact⟨a,us,rfl,h1,q _ H (bp.refl H) (by rw [<-h2.length];rfl)⟩
 cases ws with
 | nil=>cases h
 | cons w tl=>
  cases tl with
  | cons _ _=>
   cases w with
   | h n=>cases h
   | d x=>cases x<;>cases h
  | nil=>
   cases w with
   | h n=>exact seq _ h
   | d x=>
    cases x with
    | str x=>
     simp only [cj] at h
     split at h
     ·rename_i hl
      cases h
      refine mX.imp ?_
      rintro vs H Q ⟨φ,S,⟨v,r,rfl,r1,rfl⟩,q⟩
      exact⟨x,by rw [show v=.str x from r1],Nat.le_trans hl mil,q _ H (bp.refl H) rfl⟩
     ·cases h
    | tup ds=>exact seq _ h
    | lst ds=>exact seq _ h
    | scr ds=>exact seq _ h
    | _=>cases h
theorem nF:eS K X (.builtin "abs") pk:=by
 refine⟨λst ws d h=>?_⟩
 match ws,h with
 | [.d (.int i)],h=>
  cases h
  refine tV.imp ?_
  rintro vs H Q ⟨φ,S,⟨v,r,rfl,r1,rfl⟩,q⟩
  exact⟨i,by rw [show v=.int i from r1],q _ H (bp.refl H) rfl⟩
theorem tj:eS K X (.type "int") t7:=by
 refine⟨λst ws d h=>?_⟩
 match ws,h with
 | [.d (.int i)],h=>
  cases h
  refine mF.imp ?_
  rintro vs H Q ⟨φ,S,⟨v,r,rfl,r1,rfl⟩,q⟩
  exact .inl ⟨i,by rw [show v=.int i from r1],q _ H (bp.refl H) rfl⟩
 | [.d (.bl i)],h=>
  cases h
  refine mF.imp ?_
  rintro vs H Q ⟨φ,S,⟨v,r,rfl,r1,rfl⟩,q⟩
  exact .inr ⟨i,by rw [show v=.bl i from r1],q _ H (bp.refl H) rfl⟩
theorem pP (hc:X.calm=true:=by rfl) (hK:X.K=K:=by rfl):eS K X (.builtin "sum") mS:=by
 subst hK
 refine⟨λst ws d h=>?_⟩
 match ws,h with
 | [.d (.lst ds)],h=>
  obtain⟨ns,e,rfl⟩:=Option.map_eq_some_iff.mp h
  cases cw e
  refine (zI (K:=X.K) hc rfl).imp ?_
  rintro vs H Q ⟨φ,S,⟨v,r,rfl,⟨a,us,rfl,h0,h1,h2⟩,rfl⟩,q⟩
  cases h2.ints
  exact⟨a,ns,rfl,.inl h1,q _ H (bp.refl H) rfl⟩
theorem np (hc:X.calm=true:=by rfl) (hK:X.K=K:=by rfl):eS K X (.builtin "all") sq:=by
 subst hK
 refine⟨λst ws d h=>?_⟩
 match ws,h with
 | [.d (.lst ds)],h=>
  obtain⟨ns,e,rfl⟩:=Option.map_eq_some_iff.mp h
  cases jK e
  refine (Ag (K:=X.K) hc rfl).imp ?_
  rintro vs H Q ⟨φ,S,⟨v,r,rfl,⟨a,us,rfl,h0,h1,h2⟩,rfl⟩,q⟩
  cases h2.bools
  exact⟨a,ns,rfl,.inl h1,q _ H (bp.refl H) rfl⟩
theorem fI (hK:X.K=K:=by rfl):eS K X (.type "tuple") hV:=by
 subst hK
 refine⟨λst ws d h=>?_⟩
 match ws,h with
 | [w],h=>
  obtain⟨ds,e,rfl⟩:=Option.map_eq_some_iff.mp h
  refine lM.imp ?_
  rintro vs H Q ⟨φ,S,⟨v,r,rfl,r1,rfl⟩,q⟩
  obtain⟨a,us,rfl,h1,h2⟩:=pA S r1 e
  refine⟨a,us,rfl,?_⟩
  rcases h1 with h1 | h1
  ·exact .inl ⟨h1,λl hl=>q _ _ (bp.new hl _) ⟨l,us,rfl,aW,h2.fw S (Fw.new hl)⟩⟩
  ·exact .inr ⟨SqT.of h1,q _ H (bp.refl H) ⟨a,us,rfl,h1,h2⟩⟩
theorem oU {H:Hp}{φ:List Addr}:∀ {ds:List D}{vs:List V},ds.all qf=true->Rls K H φ ds vs->vs=ds.map vOf/\∀ y ∈ vs,eH y
 | [],_,_,h=>by cases h;exact⟨rfl,λ_ h=>nomatch h⟩
 | d::ds,_,h,r=>by
  rw [List.all_cons,Bool.and_eq_true] at h
  obtain⟨v,vr,rfl,r1,r2⟩:=r
  obtain⟨e3,e4⟩:=oU h.2 r2
  have hv:v=vOf d/\eH v:=by
   cases d with
   | non=>cases (show v=.non from r1);exact⟨rfl,.inl rfl⟩
   | int i=>
    cases (show v=.int i from r1)
    have:=h.1
    simp [qf] at this
    exact⟨rfl,.inr ⟨i,rfl,this.1,this.2⟩⟩
   | _=>cases h.1
  refine⟨by rw [hv.1,e3];rfl,λy hy=>?_⟩
  rcases List.mem_cons.mp hy with z | z
  ·rw [z];exact hv.2
  ·exact e4 y z
theorem qZ {k:Nat} (hr:bn k X.A) (hK:X.K=K:=by rfl):eS K X (.builtin "repr") jN:=by
 subst hK
 refine⟨λst ws d h=>?_⟩
 match ws,h with
 | [.d (.int i)],h=>
  simp only [jN] at h
  split at h
  ·rename_i hl
   cases h
   refine (uC (K:=X.K) hr rfl).imp ?_
   rintro vs H Q ⟨φ,S,⟨v,r,rfl,r1,rfl⟩,q⟩
   exact .inl ⟨i,by rw [show v=.int i from r1],hl,q _ H (bp.refl H) rfl⟩
  ·cases h
 | [.d (.tup ds)],h=>
  simp only [jN] at h
  split at h
  ·rename_i hl
   cases h
   refine (uC (K:=X.K) hr rfl).imp ?_
   rintro vs H Q ⟨φ,S,⟨v,r,rfl,⟨a,us,rfl,h1,h2⟩,rfl⟩,q⟩
   obtain⟨e1,e2⟩:=oU hl.1 h2
   exact .inr ⟨a,us,rfl,(SqT.of h1),e2,by rw [<-h2.length];exact hl.2,q _ H (bp.refl H) (by rw [e1];rfl)⟩
  ·cases h
theorem e8 {t c:String}{b:Bool} (ht:t = "NoneType"\/t = "bool"\/t = "int"\/t = "str"\/t = "tuple"\/t = "list"\/t = "dict") (h:zx t c=some b):PySem.W.kitOne K (.type t) (.type c)=some b:=by
 unfold zx at h
 split at h
 ·rename_i hc
  subst hc
  rcases ht with rfl | rfl | rfl | rfl | rfl | rfl | rfl<;>(cases h;rfl)
 ·split at h
  ·rename_i _ hc
   rcases hc with rfl | rfl | rfl | rfl<;>rcases ht with rfl | rfl | rfl | rfl | rfl | rfl | rfl<;>(cases h;rfl)
  ·cases h
theorem jk (hK:X.K=K:=by rfl):eS K X (.builtin "isinstance") pv:=by
 subst hK
 refine⟨λst ws d h=>?_⟩
 match ws,h with
 | [w,.d (.ty c)],h=>
  simp only [pv,Option.bind_eq_some_iff,Option.map_eq_some_iff] at h
  obtain⟨t,ht,b,hb,rfl⟩:=h
  intro pins s σ H xs us Q I rv q
  obtain⟨φ,S,⟨v,r,rfl,r1,u,r',rfl,r2,rfl⟩,q⟩:=q
  cases (show u=.ty c from r2)
  obtain⟨vv,uu,rfl,rv1,rv2⟩:=rv.two
  cases rv2
  have fin:∀ tk,EP X pins σ Q (.bool b) { s with toks:=tk }:=λtk=>⟨.bl b,H,I.tok tk,rfl,q _ H (bp.refl H) rfl⟩
  cases w with
  | h n=>
   obtain⟨a,ea,rfl⟩:=r1
   obtain⟨ds,eds,rfl⟩:=Option.map_eq_some_iff.mp ht
   obtain⟨vs,hv,_⟩:=S.atl n a ds ea eds
   exact cG I rv1 (.lst hv) (e8 (by simp) hb) fin
  | d x=>
   cases x with
   | non=>cases ht;cases r1;exact cG I rv1 .non (e8 (by simp) hb) fin
   | bl x=>cases ht;cases r1;exact cG I rv1 (.bl x) (e8 (by simp) hb) fin
   | int x=>cases ht;cases r1;exact cG I rv1 (.int x) (e8 (by simp) hb) fin
   | str x=>cases ht;cases r1;exact cG I rv1 (.str x) (e8 (by simp) hb) fin
   | lst ds=>
    cases ht
    obtain⟨a,vs,rfl,h0,h1,h2⟩:=r1
    rcases h1 with h1 | ⟨o,h1⟩
    ·exact cG I rv1 (.lst h1) (e8 (by simp) hb) fin
    ·exact cG I rv1 (.frz h1) (e8 (by simp) hb) fin
   | tup ds=>
    cases ht
    obtain⟨a,vs,rfl,h1,h2⟩:=r1
    cases rv1
    obtain⟨its,_,p,_⟩:=I.tuple (SqT.of h1)
    obtain⟨o,e1,e2,_⟩:=p
    exact PySem.W.kia_one PySem.W.kitx_tuple I.kIn ⟨o,e1,e2⟩ (e8 (by simp) hb) (λz=>nomatch z) fin
   | dct=>
    cases ht
    obtain⟨a,rfl,_,h1⟩:=r1
    rcases h1 with⟨d,h1⟩ | ⟨d,h1⟩
    ·exact cG I rv1 (.dK h1) (e8 (by simp) hb) fin
    ·exact cG I rv1 (.dT h1) (e8 (by simp) hb) fin
   | ty x=>cases ht
   | scr x=>cases ht
variable {e a b:Expr}{es:List Expr}{pos:Pos}{f fa fb:Ef}{af:Af}
theorem mk {x:Str}{c:String} (hg:Gl X x) (hm:X.mg x=none) (hv:bootBuiltins x=some (.type c)) (hn:x≠"__name__":=by decide) (hd:(x==("__debug__" : Str))=false:=by decide):IE K X (.Name x pos) (iC (.ty c)):=
 t6 (v:=.ty c) (wb hg hm hv rfl hn hd) λ_ _=>rfl
noncomputable def g6 (g:List D->List W->Option (D×List D)) (o:Ef) (a:Af):Ef
 | env,st=>(o env st).bind λx=>(a env x.2).bind λr=>match x.1 with
 | .h n=>(lg x.2 n).bind λ_=>(lg r.2 n).bind λds=>(g ds r.1).map λy=>(.d y.1,r.2.set n (.l y.2))
 | _=>none
noncomputable def eP (ds:List D):List W->Option (D×List D)
 | [.d x]=>if ds.length < 1000000 then some (.non,ds++[x]) else none
 | _=>none
theorem vp {name:Str}{id:String}{apos:Pos}{rr:V->List V->Hp->VK->Prop}{g:List D->List W->Option (D×List D)} (slot:Slot "list" name id) (hty:typeOf (.builtin id)=pure (.type "method_descriptor")) (hm:MtR X id rr)
  (hg:∀ (H:Hp) (φ:List Addr) (st:Sto) (n:Nat) (ad:Addr) (ds:List D) (vs:List V) (ws:List W) (us:List V) (y:D×List D) (Q:VK),Sr K H φ st->φ[n]?=some ad->lg st n=some ds->H ad=some (.lst vs)->Rls K H φ ds vs->Rws K H φ ws us->g ds ws=some y->
    (∀ v vs',Rl K H φ y.1 v->Rls K H φ y.2 vs'->(∀ b,v≠.ref b)->Q v (upd H ad (.lst vs')))->rr (.ref ad) us H Q)
  (hfl:∀ ds ws y,g ds ws=some y->gj y.1=true)
  (ho:IE K X a fa) (ha:IA K X (e::es) af) (hbase:attributeBase a name X.env (eval a X.env)=eval a X.env:=by rfl)
  (hall:(e::es).all aO=true:=by rfl) (hfl30:(e::es).length < 30:=by decide) (hline:(apos.endLine==pos.line)=true:=by rfl) (hK:X.K=K:=by rfl) :
  IE K X (.Call (.Attribute a name apos) (e::es) [] pos) (g6 g fa af):=by
 subst hK
 have hall2:aO e=true/\es.all aO=true:=by rw [List.all_cons,Bool.and_eq_true] at hall;exact hall
 refine⟨λenv st r hr=>?_⟩
 simp only [g6,Option.bind_eq_some_iff] at hr
 obtain⟨⟨x,s1⟩,hx,⟨ws,s2⟩,hw,hr⟩:=hr
 cases x with
 | d x=>cases hr
 | h n=>
  simp only [Option.bind_eq_some_iff,Option.map_eq_some_iff] at hr
  obtain⟨ds1,hds1,ds,hds,y,hy,rfl⟩:=hr
  refine (zX PySem.F.plainAttrs_list slot hty hm (ho.run _ _ _ hx) (ha.run _ _ _ hw) hbase (uM hall hfl30) hline (cD hall2.1) (eJ hall2.2)).imp ?_
  rintro σ H Q ⟨φ,hE,hS,q⟩
  refine⟨φ,hE,hS,λv H1 φ1 f1 S1 w1=>?_⟩
  obtain⟨ad,ea,rfl⟩:=w1
  obtain⟨vs1,hv1,_⟩:=S1.atl n ad _ ea hds1
  refine⟨.inl ⟨rfl,vs1,SqL.of hv1⟩,φ1,hE.fw hS f1,S1,λus H2 φ2 f2 S2 w2=>?_⟩
  have ea2:=f2.get ea
  obtain⟨vs2,hv2,rl2⟩:=S2.atl n ad ds ea2 hds
  refine hg H2 φ2 s2 n ad ds vs2 ws us y _ S2 ea2 hds hv2 rl2 w2 hy λv vs' r1 r2 hb=>?_
  obtain⟨f3,S3⟩:=S2.put ea2 r2
  exact q v _ φ2 ((f1.trans f2).trans f3) S3 (r1.fw S2 f3)
theorem mq {apos:Pos} (ho:IE K X a fa) (ha:IA K X (e::es) af) (hbase:attributeBase a "append" X.env (eval a X.env)=eval a X.env:=by rfl)
  (hall:(e::es).all aO=true:=by rfl) (hfl30:(e::es).length < 30:=by decide) (hline:(apos.endLine==pos.line)=true:=by rfl) (hK:X.K=K:=by rfl) :
  IE K X (.Call (.Attribute a "append" apos) (e::es) [] pos) (g6 eP fa af):=by
 refine vp PySem.F.slot_list_append PySem.F.type_list_append sJ (λH φ st n ad ds vs ws us y Q S ea eds hv rl rw hy q=>?_) (λds ws y h=>?_) ho ha hbase hall hfl30 hline hK
 ·match ws,hy with
  | [.d x],hy=>
   simp only [eP] at hy
   split at hy
   ·rename_i hl
    cases hy
    obtain⟨v,r,rfl,r1,rfl⟩:=rw
    exact⟨ad,vs,v,rfl,rfl,hv,by rw [<-rl.length];exact Nat.lt_of_lt_of_le hl mil,q _ _ rfl (rl.append ⟨v,[],rfl,r1,rfl⟩) (λb z=>nomatch z)⟩
   ·cases hy
 ·match ws,h with
  | [.d x],h=>
   simp only [eP] at h
   split at h
   ·cases h;rfl
   ·cases h
end
end L2
namespace L2
open PySem PySem.Spec PyProof.Rows
section
variable {K:PySem.W.Frag}{X:Cx}{e a b:Expr}{es:List Expr}{pos:Pos}{f fa fb:Ef}{af:Af}
noncomputable def rL (K:PySem.W.Frag) (st:Sto) (x y:W) (ds:List D):R2:=λvx vy H Q=>∃ φ,Sr K H φ st/\Rw K H φ x vx/\Rw K H φ y vy/\∀ p us,H p=none->Rls K H φ ds us->Q (.ref p) (upd H p (.lst us))
structure OpL (K:PySem.W.Frag) (X:Cx) (f:Value->Value->Sem Value) (g:Sto->W->W->Option (List D)):Prop where
 run:∀ st x y d,g st x y=some d->OpR X f (rL K st x y d)
noncomputable def u8 (g:Sto->W->W->Option (List D)) (a b:Ef):Lf
 | env,st=>(a env st).bind λx=>(b env x.2).bind λy=>(g y.2 x.1 y.1).map λd=>(d,y.2)
theorem As {op:Operator}{g:Sto->W->W->Option (List D)} (ho:OpL K X (binaryOp op) g) (ha:IE K X a fa) (hb:IE K X b fb):IL K X (.BinOp a op b pos) (u8 g fa fb):=by
 refine⟨λenv st r hr=>?_⟩
 simp only [u8,Option.bind_eq_some_iff,Option.map_eq_some_iff] at hr
 obtain⟨x,hx,y,hy,d,hd,rfl⟩:=hr
 refine (xT (ho.run _ _ _ _ hd) (ha.run _ _ _ hx) (hb.run _ _ _ hy)).imp ?_
 rintro σ H Q ⟨φ,hE,hS,q⟩
 exact⟨φ,hE,hS,λv H1 φ1 f1 s1 w1=>⟨φ1,hE.fw hS f1,s1,λu H2 φ2 f2 s2 w2=>⟨φ2,s2,w1.fw s1 f2,w2,λp us hp r=>q p us H2 φ2 (f1.trans f2) s2 hp r⟩⟩⟩
noncomputable def vt (_:Sto):W->W->Option (List D)
 | .d (.lst a),.d (.int k)=>if a.length<=1000/\-1000<=k/\k < 1000 then some (List.replicate k.toNat a).flatten else none
 | _,_=>none
theorem yt:OpL K X (binaryOp .Mult) vt:=by
 refine⟨λst x y d h=>?_⟩
 match x,y,h with
 | .d (.lst as),.d (.int k),h=>
  simp only [vt] at h
  split at h
  ·rename_i hl
   cases h
   refine qP.imp ?_
   rintro vx vy H Q ⟨φ,S,⟨a,us,rfl,h0,h1,h2⟩,r2,q⟩
   refine⟨a,k,us,rfl,r2,h1,by lia,by lia,?_,λp hp=>q p _ hp (h2.rep _)⟩
   rw [<-h2.length]
   have:as.length*k.toNat<=1000*1000:=Nat.mul_le_mul hl.1 (by lia)
   exact Nat.le_trans this mil
  ·cases h
noncomputable def pZ (x:Int):List Int->List Int
 | []=>[x]
 | y::ys=>if x<=y then x::y::ys else y::pZ x ys
noncomputable def ku:List Int->List Int
 | []=>[]
 | x::xs=>pZ x (ku xs)
theorem jm (x:Int):∀ ys,(pZ x ys).Perm (x::ys)
 | []=>List.Perm.refl _
 | y::ys=>by
  unfold pZ
  split
  ·exact List.Perm.refl _
  ·exact (List.Perm.cons y (jm x ys)).trans (List.Perm.swap x y ys)
theorem jO:∀ xs,(ku xs).Perm xs
 | []=>List.Perm.refl _
 | x::xs=>(jm x _).trans (List.Perm.cons x (jO xs))
theorem jT (x:Int):∀ {ys:List Int},ys.Pairwise (·<=·)->(pZ x ys).Pairwise (·<=·)
 | [],_=>by simp [pZ]
 | y::ys,h=>by
  unfold pZ
  split
  ·rename_i hxy
   refine List.pairwise_cons.mpr ⟨λz hz=>?_,h⟩
   rcases List.mem_cons.mp hz with rfl | hz
   ·exact hxy
   ·exact Int.le_trans hxy ((List.pairwise_cons.mp h).1 z hz)
  ·rename_i hxy
   refine List.pairwise_cons.mpr ⟨λz hz=>?_,jT x (List.pairwise_cons.mp h).2⟩
   rcases List.mem_cons.mp ((jm x ys).mem_iff.mp hz) with rfl | hz
   ·lia
   ·exact (List.pairwise_cons.mp h).1 z hz
theorem iw:∀ xs,(ku xs).Pairwise (·<=·)
 | []=>List.Pairwise.nil
 | x::xs=>jT x (iw xs)
theorem ph {xs ys:List Int} (p:xs.Perm ys) (h1:xs.Pairwise (·<=·)) (h2:ys.Pairwise (·<=·)):xs=ys:=
 List.Perm.eq_of_pairwise (λa b _ _ h1 h2=>Int.le_antisymm h1 h2) h1 h2 p
theorem iP:∀ {ns:List Int}{us:List Value},IntsAre us ns->aK (ns.map V.int) us
 | _,_,.nil=>.nil
 | _,_,.cons n t h=>.cons ⟨t,rfl⟩ (iP h)
theorem vZ {H:Hp}{ad:Addr}{ns:List Int}{m:Fn} (hO:v7 H) (hS:SqL K H ad (ns.map V.int)) (h:∃ st,m [.d (.scr ns)] []=some (.d (.bl true),st)):spI K m [.ref ad] H (λv _=>v=.bl true) λ_ _ _=>False:=by
 obtain⟨st,h⟩:=h
 refine⟨[],[],[.d (.scr ns)],_,h,⟨_,[],rfl,⟨ad,rfl,?_⟩,rfl⟩,⟨List.nodup_nil,rfl,λn a ds e=>by simp at e⟩,λv H' φ' _ _ r=>r⟩
 rcases hS with (h | h) | h
 ·rcases hO ad with z | ⟨o,xs,z⟩
  ·rw [h] at z;cases z
  ·rw [h] at z;cases z
 ·exact .inl h
 ·exact .inr h
end
end L2
namespace L2
open PySem
theorem cM {g:Tg}{body:Sf}:∀ {ds:List D} (Pv:Nat->Ev->Sto->Prop) {env:Ev}{st:Sto},Pv 0 env st->
  (∀ i d env st,ds[i]?=some d->Pv i env st->∃ e1 e2 s2,dM g (.d d) env=some e1/\(body e1 st=some (.nx e2 s2)\/body e1 st=some (.ct e2 s2))/\Pv (i+1) e2 s2)->
  ∃ env' st',jZ g body ds env st=some (.nx env' st')/\Pv ds.length env' st'
 | [],Pv,env,st,h0,_=>⟨env,st,rfl,h0⟩
 | d::ds,Pv,env,st,h0,hs=>by
  obtain⟨e1,e2,s2,h1,h2,h3⟩:=hs 0 d env st rfl h0
  obtain⟨e',s',h4,h5⟩:=cM (g:=g) (body:=body) (ds:=ds) (λi=>Pv (i+1)) h3 λi d' env' st' hd p=>hs (i+1) d' env' st' (by simpa using hd) p
  refine⟨e',s',?_,h5⟩
  unfold jZ
  rw [h1,Option.bind_some]
  rcases h2 with h2 | h2<;>(rw [h2,Option.bind_some];exact h4)
theorem bX {g:Tg}{tt:Tf}{te:Ef}{env:Ev}{st:Sto} (p:D->Bool) (F:D->D):∀ {ds:List D},(∀ d ∈ ds,∃ e1,dM g (.d d) env=some e1/\tt e1 st=some (p d,st)/\(p d=true->te e1 st=some (.d (F d),st)))->
  lcI g tt te env ds st=some ((ds.filter p).map F,st)
 | [],_=>rfl
 | d::ds,h=>by
  obtain⟨e1,h1,h2,h3⟩:=h d List.mem_cons_self
  have ih:=bX (g:=g) (tt:=tt) (te:=te) (env:=env) (st:=st) p F (ds:=ds) λx hx=>h x (List.mem_cons_of_mem _ hx)
  unfold lcI
  rw [h1,Option.bind_some,h2,Option.bind_some]
  cases hp:p d with
  | true=>rw [if_pos rfl,h3 hp,Option.bind_some,ih,List.filter_cons,hp];rfl
  | false=>rw [if_neg Bool.false_ne_true,ih,List.filter_cons,hp];rfl
theorem dg {g:Tg}{te:Ef}{env:Ev}{st:Sto} (F:D->D) {ds:List D} (h:∀ d ∈ ds,∃ e1,dM g (.d d) env=some e1/\te e1 st=some (.d (F d),st)):lcI g dD te env ds st=some (ds.map F,st):=by
 have:=bX (g:=g) (tt:=dD) (te:=te) (env:=env) (st:=st) (λ_=>true) F (ds:=ds) λd hd=>by
  obtain⟨e1,h1,h2⟩:=h d hd
  exact⟨e1,h1,rfl,λ_=>h2⟩
 rw [this,List.filter_eq_self.mpr λ_ _=>rfl]
theorem ny {a b:Int} (h:-(2 ^ 64) < a/\a < 2 ^ 64):PySem.IntMulOk a b:=wt.ok (.inl h)
theorem fO {a b:Int} (h:-(2 ^ 64) < b/\b < 2 ^ 64):PySem.IntMulOk a b:=wt.ok (.inr h)
theorem sg {α:Type} (a:α) (l:List α):atI (a::l) 0=some a:=dG (j:=0) rfl
theorem At {α:Type} (a b:α) (l:List α):atI (a::b::l) 1=some b:=dG (j:=1) rfl
theorem z6 {α:Type} (a b c:α) (l:List α):atI (a::b::c::l) 2=some c:=dG (j:=2) rfl
theorem zK (n:Nat):ixN (n+1) 0=some 0:=mH (j:=0) (by lia)
theorem AS (n:Nat):ixN (n+3) 2=some 2:=mH (j:=2) (by lia)
end L2
namespace L2
open PySem
theorem dj {n i:Nat}{d:D} (h:(bU 0 n)[i]?=some d):d=.int (i:Int)/\i < n:=by
 rw [pG] at h
 by_cases hi:i < n
 ·rw [if_pos hi] at h
  cases h
  exact⟨by rw [Int.zero_add],hi⟩
 ·rw [if_neg hi] at h;cases h
end L2
namespace L2
open PySem PySem.Spec PyProof.Rows
noncomputable def Aa:Nat->Nat->StateT SortSt Sem (Option Nat):=sortPriv% PySem.Builtin.countRun
noncomputable def zd:Nat->Nat->Nat->StateT SortSt Sem Bool:=sortPriv% PySem.Builtin.binarySort
noncomputable def nO:Bool->Keyed->Array Keyed->Nat->Nat->Nat->StateT SortSt Sem (Option Nat):=sortPriv% PySem.Builtin.gallop
noncomputable def z9:Array Keyed->Array Keyed->StateT SortSt Sem (Array Keyed):=sortPriv% PySem.Builtin.mergeLo
noncomputable def Au:Array Keyed->Array Keyed->StateT SortSt Sem (Array Keyed):=sortPriv% PySem.Builtin.mergeHi
noncomputable def xS:Nat->StateT SortSt Sem Bool:=sortPriv% PySem.Builtin.mergeAt
abbrev yz (st:SortSt) (g:Nat):SortSt:=SortSt.mk' (kindOf st) (arrOf st) (pendingOf st) g (failedOf st)
noncomputable def Cm (prog:Program) (w:World) (A:Around) (s:Shared) (κ:SortKind) (O:KeyOrd) (rk:Keyed->O.α) (S:Keyed->Prop):Prop:=
 ∀ x y,S x->S y->∀ (Q:Bool->Shared->Prop) (E:Value->Shared->Prop),Q (O.blt (rk x) (rk y)) s->wpAny (model prog w) A (keyLt' κ x.1 y.1) Q E s
section
variable {prog:Program}{w:World}{A:Around}{E:Value->Shared->Prop}{s:Shared}{κ:SortKind}{O:KeyOrd}{rk:Keyed->O.α}{S:Keyed->Prop}
theorem oY (hC:Cm prog w A s κ O rk S) {x y:Keyed}{st:SortSt}{Q:Option Bool->SortSt->Prop} (hk:kindOf st=κ) (hx:S x) (hy:S y) (h:Q (some (O.blt (rk x) (rk y))) st) :
  wpS (model prog w) A E s (lt' x y) Q st:=by
 rw [lt'_eq]
 refine wpS_bind (wpS_get ?_)
 rw [hk]
 exact wpS_bind (wpS_lift (wpAny_attempt (hC x y hx hy _ _ ⟨rfl,wpS_pure h⟩)))
theorem bw {c:Prop} [Decidable c] {M:Model}{A':Around}{E':Value->Shared->Prop}{s':Shared}{α:Type}{a b:StateT SortSt Sem α}{Q:α->SortSt->Prop}{st:SortSt} (h:c) (k:wpS M A' E' s' a Q st):wpS M A' E' s' (if c then a else b) Q st:=by rw [if_pos h];exact k
theorem aZ {c:Prop} [Decidable c] {M:Model}{A':Around}{E':Value->Shared->Prop}{s':Shared}{α:Type}{a b:StateT SortSt Sem α}{Q:α->SortSt->Prop}{st:SortSt} (h:¬ c) (k:wpS M A' E' s' b Q st):wpS M A' E' s' (if c then a else b) Q st:=by rw [if_neg h];exact k
theorem bz {arr:Array Keyed}{i:Nat}{x:Keyed}{st:SortSt}{Q:Keyed->SortSt->Prop} (hi:arr[i]?=some x) (h:Q x st):wpS (model prog w) A E s (elem' arr i) Q st:=by
 rw [elem'_eq,hi];exact wpS_pure h
theorem fU {t:String}{st:SortSt}{Q:Unit->SortSt->Prop} (h:Q () st):wpS (model prog w) A E s (liftM (rule t):StateT SortSt Sem Unit) Q st:=wpS_lift (wpAny_rule ⟨rfl,h⟩)
noncomputable def kyd (arr:Array Keyed) (i:Nat):Keyed:=(arr[i]?).getD (.none,.none)
theorem ba {arr:Array Keyed}{i:Nat} (h:i < arr.size):arr[i]?=some (kyd arr i):=by
 unfold kyd;simp [h]
theorem cW {a b:Array Keyed}{i j:Nat} (h:a[i]?=b[j]?):kyd a i=kyd b j:=by
 unfold kyd;rw [h]
theorem wQ (hC:Cm prog w A s κ O rk S) {i j:Nat}{st:SortSt}{Q:Option Bool->SortSt->Prop} (hk:kindOf st=κ) (hi:i < (arrOf st).size) (hj:j < (arrOf st).size) (hx:S (kyd (arrOf st) i)) (hy:S (kyd (arrOf st) j))
  (h:Q (some (O.blt (rk (kyd (arrOf st) i)) (rk (kyd (arrOf st) j)))) st):wpS (model prog w) A E s (ltAt' i j) Q st:=by
 rw [ltAt'_eq]
 refine wpS_bind (wpS_get ?_)
 exact wpS_bind (bz (ba hi) (wpS_bind (bz (ba hj) (oY hC hk hx hy h))))
structure SB (κ:SortKind) (a0:Array Keyed) (lo:Nat) (p0:Array (Nat×Nat×Nat)) (g0:Nat) (st:SortSt):Prop where
 perm:(arrOf st).Perm a0
 pre:∀ k,k < lo->(arrOf st)[k]?=a0[k]?
 kind:kindOf st=κ
 fail:failedOf st=none
 pend:pendingOf st=p0
 gal:gallopOf st=g0
variable {a0:Array Keyed}{lo:Nat}{p0:Array (Nat×Nat×Nat)}{g0:Nat}{st:SortSt}
theorem SB.size (h:SB κ a0 lo p0 g0 st):(arrOf st).size=a0.size:=h.perm.size_eq
theorem SB.mem (h:SB κ a0 lo p0 g0 st) (hS:∀ x ∈ a0.toList,S x) {i:Nat} (hi:i < a0.size):S (kyd (arrOf st) i):=by
 have hi':i < (arrOf st).size:=by rw [h.size];exact hi
 refine hS _ ((Array.perm_iff_toList_perm.mp h.perm).mem_iff.mp ?_)
 have e:=ba hi'
 rw [Array.getElem?_eq_getElem hi'] at e
 rw [<-Option.some.inj e]
 exact Array.getElem_mem_toList hi'
theorem SB.set (h:SB κ a0 lo p0 g0 st) {xs:Array Keyed} (hp:xs.Perm (arrOf st)) (hl:∀ k,k < lo->xs[k]?=(arrOf st)[k]?):SB κ a0 lo p0 g0 (setArr st xs):=
 ⟨hp.trans h.perm,λk hk=>(hl k hk).trans (h.pre k hk),h.kind,h.fail,h.pend,h.gal⟩
theorem qK (hC:Cm prog w A s κ O rk S) (hS:∀ x ∈ a0.toList,S x) (hB:SB κ a0 lo p0 g0 st) {i j:Nat}{Q:Option Bool->SortSt->Prop} (hi:i < a0.size) (hj:j < a0.size)
  (h:Q (some (O.blt (rk (kyd (arrOf st) i)) (rk (kyd (arrOf st) j)))) st):wpS (model prog w) A E s (ltAt' i j) Q st:=
 wQ hC hB.kind (by rw [hB.size];exact hi) (by rw [hB.size];exact hj) (hB.mem hS hi) (hB.mem hS hj) h
noncomputable def Up (rk:Keyed->O.α) (arr:Array Keyed) (lo n:Nat):Prop:=∀ i j,lo<=i->i<=j->j < lo+n->O.kle (rk (kyd arr i)) (rk (kyd arr j))
noncomputable def gp (rk:Keyed->O.α) (arr:Array Keyed) (lo n:Nat):Prop:=∀ i j,lo<=i->i<=j->j < lo+n->O.kle (rk (kyd arr j)) (rk (kyd arr i))
theorem iB {xs:Array Keyed}{i j:Nat} (hj:j<=xs.size) (k:Nat):kyd (mirror xs i j ((j - i) / 2)) k=if i<=k/\k < j then kyd xs (i+j - 1 - k) else kyd xs k:=by
 have e:=getElem?_mirror_all (i:=i) hj k
 by_cases h1:i<=k/\k < j
 ·rw [if_pos h1] at e ⊢;exact cW e
 ·rw [if_neg h1] at e ⊢;exact cW e
theorem lC {xs:Array Keyed}{src d:Nat} (hs:src < xs.size) (hd:d<=src) (k:Nat) :
  kyd (bubble xs src d) k=if k=src - d then kyd xs src else if src - d < k/\k<=src then kyd xs (k - 1) else kyd xs k:=by
 have e:=getElem?_bubble hs d hd k
 by_cases h1:k=src - d
 ·rw [if_pos h1] at e ⊢;exact cW e
 ·rw [if_neg h1] at e ⊢
  by_cases h2:src - d < k/\k<=src
  ·rw [if_pos h2] at e ⊢;exact cW e
  ·rw [if_neg h2] at e ⊢;exact cW e
theorem SB.rev (hB:SB κ a0 lo p0 g0 st) {i j:Nat} (hi:lo<=i) (hj:j<=a0.size):SB κ a0 lo p0 g0 (setArr st (mirror (arrOf st) i j ((j - i) / 2))):=
 hB.set (mirror_perm _ _ _ _) λk hk=>by
  rw [getElem?_mirror_all (by rw [hB.size];exact hj),if_neg (by lia)]
theorem gY {xs:Array Keyed}{i j:Nat} (hj:j<=xs.size) (he:∀ k,i<=k->k < j->rk (kyd xs k)=rk (kyd xs (j - 1))) (k:Nat):rk (kyd (mirror xs i j ((j - i) / 2)) k)=rk (kyd xs k):=by
 rw [iB hj]
 split
 ·rw [he (i+j - 1 - k) (by lia) (by lia),he k (by lia) (by lia)]
 ·rfl
theorem nK {i j:Nat}{Q:Unit->SortSt->Prop} (h:Q () (setArr st (mirror (arrOf st) i j ((j - i) / 2)))):wpS (model prog w) A E s (reverseSlice' i j) Q st:=by
 rw [reverseSlice'_eq];exact wpS_modify h
theorem Up.more {arr:Array Keyed}{n:Nat} (h:Up rk arr lo n) (h1:1<=n) (hl:O.kle (rk (kyd arr (lo+n - 1))) (rk (kyd arr (lo+n)))):Up rk arr lo (n+1):=by
 intro i j hi hij hj
 by_cases hjx:j < lo+n
 ·exact h i j hi hij hjx
 ·have hj':j=lo+n:=by lia
  subst hj'
  by_cases hi':i=lo+n
  ·subst hi';exact KeyOrd.kle_refl _
  ·exact KeyOrd.kle_trans (h i (lo+n - 1) hi (by lia) (by lia)) hl
theorem gp.more {arr:Array Keyed}{n:Nat} (h:gp rk arr lo n) (h1:1<=n) (hl:O.kle (rk (kyd arr (lo+n))) (rk (kyd arr (lo+n - 1)))):gp rk arr lo (n+1):=by
 intro i j hi hij hj
 by_cases hjx:j < lo+n
 ·exact h i j hi hij hjx
 ·have hj':j=lo+n:=by lia
  subst hj'
  by_cases hi':i=lo+n
  ·subst hi';exact KeyOrd.kle_refl _
  ·exact KeyOrd.kle_trans hl (h i (lo+n - 1) hi (by lia) (by lia))
theorem Up.one {arr:Array Keyed}:Up rk arr lo 1:=λi j hi hij hj=>by
 have:i=j:=by lia
 subst this;exact KeyOrd.kle_refl _
theorem gp.congr {xs ys:Array Keyed}{n:Nat} (h:gp rk xs lo n) (e:∀ k,rk (kyd ys k)=rk (kyd xs k)):gp rk ys lo n:=λi j hi hij hj=>by
 rw [e,e];exact h i j hi hij hj
end
end L2
namespace L2
open PySem PySem.Spec PyProof.Rows
section
variable {prog:Program}{w:World}{A:Around}{E:Value->Shared->Prop}{s:Shared}{κ:SortKind}{O:KeyOrd}{rk:Keyed->O.α}{S:Keyed->Prop}
variable {a0:Array Keyed}{lo:Nat}{p0:Array (Nat×Nat×Nat)}{g0:Nat}{st:SortSt}
theorem tR {n0 nrem:Nat}{f:Nat->Option (Option Nat)×Nat->StateT SortSt Sem (ForInStep (Option (Option Nat)×Nat))}{Q:Option (Option Nat)×Nat->SortSt->Prop}
  (hf:∀ x n (Q':ForInStep (Option (Option Nat)×Nat)->SortSt->Prop),1<=n->n < nrem->(O.blt (rk (kyd (arrOf st) (lo+n))) (rk (kyd (arrOf st) (lo+n - 1)))=true->Q' (.done (none,n)) st)->
    (O.blt (rk (kyd (arrOf st) (lo+n))) (rk (kyd (arrOf st) (lo+n - 1)))=false->Q' (.yield (none,n+1)) st)->wpS (model prog w) A E s (f x (none,n)) Q' st)
  (h1:1<=n0) (hn:n0<=nrem) (hu:Up rk (arrOf st) lo n0)
  (h:∀ n,n0<=n->n<=nrem->Up rk (arrOf st) lo n->(n=nrem\/O.klt (rk (kyd (arrOf st) (lo+n))) (rk (kyd (arrOf st) (lo+n - 1))))->Q (none,n) st):wpS (model prog w) A E s (forIn [n0:nrem] (none,n0) f) Q st:=by
 refine wpS_forRange (I:=λx c st'=>st'=st/\c=(none,x)/\Up rk (arrOf st) lo x) ?_ ?_ ⟨rfl,rfl,hu⟩
 ·rintro x c st' hx hxn ⟨rfl,rfl,hs⟩
  exact hf x x _ (by lia) hxn (λhl=>h x hx (by lia) hs (.inr hl)) λhl=>⟨rfl,rfl,hs.more (by lia) hl⟩
 ·rintro c st' ⟨rfl,rfl,hs⟩
  rw [show max n0 nrem=nrem by lia] at hs ⊢
  exact h nrem hn (Nat.le_refl _) hs (.inl rfl)
noncomputable def Eqs (rk:Keyed->O.α) (arr:Array Keyed) (lo m q:Nat):Prop:=q+1<=m/\∀ i,lo+m - (q+1)<=i->i < lo+m->rk (kyd arr i)=rk (kyd arr (lo+m - 1))
theorem xo {n0 nrem:Nat}{f:Nat->Option (Option Nat)×Nat×Nat->StateT SortSt Sem (ForInStep (Option (Option Nat)×Nat×Nat))}{Q:Option (Option Nat)×Nat×Nat->SortSt->Prop}
  (hf:∀ x n q st' (Q':ForInStep (Option (Option Nat)×Nat×Nat)->SortSt->Prop),1<=n->n < nrem->SB κ a0 lo p0 g0 st'->
    (O.blt (rk (kyd (arrOf st') (lo+n))) (rk (kyd (arrOf st') (lo+n - 1)))=true->0 < q->Q' (.yield (none,n+1,0)) (setArr st' (mirror (arrOf st') (lo+n - (q+1)) (lo+n) ((lo+n - (lo+n - (q+1))) / 2))))->
    (O.blt (rk (kyd (arrOf st') (lo+n))) (rk (kyd (arrOf st') (lo+n - 1)))=true->q=0->Q' (.yield (none,n+1,0)) st')->
    (O.blt (rk (kyd (arrOf st') (lo+n - 1))) (rk (kyd (arrOf st') (lo+n)))=true->Q' (.done (none,n,q)) st')->
    (O.blt (rk (kyd (arrOf st') (lo+n))) (rk (kyd (arrOf st') (lo+n - 1)))=false->O.blt (rk (kyd (arrOf st') (lo+n - 1))) (rk (kyd (arrOf st') (lo+n)))=false->Q' (.yield (none,n+1,q+1)) st')->
    wpS (model prog w) A E s (f x (none,n,q)) Q' st')
  (h1:1<=n0) (hn:n0<=nrem) (hz:lo+nrem<=a0.size) (hB:SB κ a0 lo p0 g0 st) (hd:gp rk (arrOf st) lo n0)
  (h:∀ n q st',n0<=n->n<=nrem->SB κ a0 lo p0 g0 st'->gp rk (arrOf st') lo n->Eqs rk (arrOf st') lo n q->Q (none,n,q) st'):wpS (model prog w) A E s (forIn [n0:nrem] (none,n0,0) f) Q st:=by
 have one:∀ (arr:Array Keyed) m,1<=m->Eqs rk arr lo m 0:=λarr m hm=>⟨by lia,λi h1 h2=>by rw [show i=lo+m - 1 by lia]⟩
 refine wpS_forRange (I:=λx c st'=>∃ q,c=(none,x,q)/\SB κ a0 lo p0 g0 st'/\gp rk (arrOf st') lo x/\Eqs rk (arrOf st') lo x q) ?_ ?_ ⟨0,rfl,hB,hd,one _ _ h1⟩
 ·rintro x c st' hx hxn ⟨q,rfl,hB',hs,he⟩
  have hsz:lo+x<=(arrOf st').size:=by rw [hB'.size];lia
  refine hf x x q st' _ (by lia) hxn hB' (λhl hq=>?_) (λhl hq=>?_) (λhl=>h x q st' hx (by lia) hB' hs he) λhl hl2=>?_
  ·have e:=gY (rk:=rk) (xs:=arrOf st') (i:=lo+x - (q+1)) (j:=lo+x) hsz he.2
   exact⟨0,rfl,hB'.rev (by have:=he.1;lia) (by lia),gp.congr (hs.more (by lia) (KeyOrd.kle_of_klt hl)) e,one _ _ (by lia)⟩
  ·exact⟨0,rfl,hB',hs.more (by lia) (KeyOrd.kle_of_klt hl),one _ _ (by lia)⟩
  ·have eq:rk (kyd (arrOf st') (lo+x))=rk (kyd (arrOf st') (lo+x - 1)):=KeyOrd.kle_antisymm hl2 hl
   refine⟨q+1,rfl,hB',hs.more (by lia) (by rw [eq];exact KeyOrd.kle_refl _),by have:=he.1;lia,λi h1 h2=>?_⟩
   rw [show lo+(x+1) - 1=lo+x by lia,eq]
   by_cases hi:i=lo+x
   ·rw [hi,eq]
   ·exact he.2 i (by lia) (by lia)
 ·rintro c st' ⟨q,rfl,hB',hs,he⟩
  rw [show max n0 nrem=nrem by lia] at hs he ⊢
  exact h nrem q st' hn (Nat.le_refl _) hB' hs he
theorem yk {m nrem:Nat}{f:Nat->Option (Option Nat)×Nat->StateT SortSt Sem (ForInStep (Option (Option Nat)×Nat))}{k:Option (Option Nat)×Nat->StateT SortSt Sem (Option Nat)}{Q:Option Nat->SortSt->Prop}
  (hB:SB κ a0 lo p0 g0 st) (hd:gp rk (arrOf st) lo m) (h1:1<=m) (hm:m<=nrem) (hz:lo+nrem<=a0.size)
  (hf:∀ x n (Q':ForInStep (Option (Option Nat)×Nat)->SortSt->Prop) st4,SB κ a0 lo p0 g0 st4->1<=n->n < nrem->(O.blt (rk (kyd (arrOf st4) (lo+n))) (rk (kyd (arrOf st4) (lo+n - 1)))=true->Q' (.done (none,n)) st4)->
    (O.blt (rk (kyd (arrOf st4) (lo+n))) (rk (kyd (arrOf st4) (lo+n - 1)))=false->Q' (.yield (none,n+1)) st4)->wpS (model prog w) A E s (f x (none,n)) Q' st4)
  (hk:∀ n st4,SB κ a0 lo p0 g0 st4->1<=n->n<=nrem->Up rk (arrOf st4) lo n->wpS (model prog w) A E s (k (none,n)) Q st4) :
  wpS (model prog w) A E s (do reverseSlice' lo (lo+m);let r <-forIn [m:nrem] (none,m) f;k r) Q st:=by
 refine wpS_bind (nK ?_)
 have hB4:=hB.rev (i:=lo) (j:=lo+m) (Nat.le_refl _) (by lia)
 refine wpS_bind (tR (rk:=rk) (lo:=lo) (λx n Q' hn1 hn2 hy hno=>hf x n Q' _ hB4 hn1 hn2 hy hno) h1 hm ?_ λn' hn1' hn2' hu' _=>hk n' _ hB4 (by lia) hn2' hu')
 intro i j hi hij hj
 have hs3:lo+m<=(arrOf st).size:=by rw [hB.size];lia
 show O.kle (rk (kyd (mirror (arrOf st) lo (lo+m) ((lo+m - lo) / 2)) i)) (rk (kyd (mirror (arrOf st) lo (lo+m) ((lo+m - lo) / 2)) j))
 rw [iB hs3,iB hs3,if_pos (by lia),if_pos (by lia)]
 exact hd _ _ (by lia) (by lia) (by lia)
set_option maxHeartbeats 1000000 in
theorem qT (hC:Cm prog w A s κ O rk S) (hS:∀ x ∈ a0.toList,S x) {nrem:Nat}{Q:Option Nat->SortSt->Prop} (hB:SB κ a0 lo p0 g0 st) (h1:1<=nrem) (hz:lo+nrem<=a0.size)
  (h:∀ m st',SB κ a0 lo p0 g0 st'->1<=m->m<=nrem->Up rk (arrOf st') lo m->Q (some m) st'):wpS (model prog w) A E s (Aa lo nrem) Q st:=by
 have asc:∀ st' (_:SB κ a0 lo p0 g0 st') n (Q':Option Bool->SortSt->Prop),1<=n->n < nrem->Q' (some (O.blt (rk (kyd (arrOf st') (lo+n))) (rk (kyd (arrOf st') (lo+n - 1))))) st'->
   wpS (model prog w) A E s (ltAt' (lo+n) (lo+n - 1)) Q' st':=λst' hB' n Q' h1 h2 hq=>qK hC hS hB' (by lia) (by lia) hq
 refine wpS_bind (tR (rk:=rk) (lo:=lo) (λx n Q' hn1 hn2 hy hno=>?_) (Nat.le_refl 1) h1 Up.one λn hn1 hn2 hu hor=>?_)
 ·refine wpS_bind (asc st hB n _ hn1 hn2 ?_)
  cases hl:O.blt (rk (kyd (arrOf st) (lo+n))) (rk (kyd (arrOf st) (lo+n - 1))) with
  | true=>exact wpS_pure (hy hl)
  | false=>exact wpS_pure (hno hl)
 dsimp only
 by_cases hnn:n=nrem
 ·refine bw (by simpa using hnn) ?_
  exact wpS_pure (h n st hB hn1 hn2 hu)
 refine aZ (by simpa using hnn) ?_
 have hlt:=hor.resolve_left hnn
 have hn3:n+1<=nrem:=by lia
 have hsz:lo+n<=(arrOf st).size:=by rw [hB.size];lia
 by_cases hgt:n > 1
 case' pos=>
  refine bw hgt ?_
  refine wpS_bind (qK hC hS hB (by lia) (by lia) ?_)
  by_cases hrose:O.blt (rk (kyd (arrOf st) lo)) (rk (kyd (arrOf st) (lo+n - 1)))=true
  ·rw [hrose];exact wpS_pure (h n st hB hn1 hn2 hu)
  rw [Bool.not_eq_true] at hrose
  rw [hrose]
  have hall:∀ k,lo<=k->k < lo+n->rk (kyd (arrOf st) k)=rk (kyd (arrOf st) (lo+n - 1)):=λk hk1 hk2=>
   KeyOrd.kle_antisymm (hu k (lo+n - 1) hk1 (by lia) (by lia)) (KeyOrd.kle_trans hrose (hu lo k (by lia) hk1 hk2))
  refine wpS_bind (nK ?_)
  have hB2:=hB.rev (i:=lo) (j:=lo+n) (Nat.le_refl _) (by lia)
  have hd:gp rk (arrOf (setArr st (mirror (arrOf st) lo (lo+n) ((lo+n - lo) / 2)))) lo (n+1):=by
   refine gp.congr (xs:=arrOf st) (gp.more (λi j hi hij hj=>?_) (by lia) (KeyOrd.kle_of_klt hlt)) (gY hsz hall)
   rw [hall i hi (by lia),hall j (by lia) hj];exact KeyOrd.kle_refl _
  generalize setArr st (mirror (arrOf st) lo (lo+n) ((lo+n - lo) / 2))=st2 at hB2 hd ⊢
  clear hu hlt hrose hall hB hsz hor
 case' neg=>
  refine aZ hgt ?_
  have hB2:=hB
  have hd:gp rk (arrOf st) lo (n+1):=by
   refine gp.more (λi j hi hij hj=>?_) (by lia) (KeyOrd.kle_of_klt hlt)
   rw [show i=j by lia];exact KeyOrd.kle_refl _
  clear hu hlt hB hsz hor
  revert hB2 hd
  generalize st=st2
  intro hB2 hd
 all_goals
  refine wpS_bind (fU ?_)
  refine wpS_bind (xo (λx m q st' Q' hm1 hm2 hB' c1 c2 c3 c4=>?_) (by lia) hn3 hz hB2 hd λm q st' hm1 hm2 hB' hd' he=>?_)
  ·refine wpS_bind (asc st' hB' m _ hm1 hm2 ?_)
   cases hl:O.blt (rk (kyd (arrOf st') (lo+m))) (rk (kyd (arrOf st') (lo+m - 1))) with
   | true=>
    dsimp only
    refine bw rfl ?_
    by_cases hq:q > 0
    ·rw [if_pos hq];exact wpS_bind (nK (wpS_pure (c1 hl hq)))
    ·rw [if_neg hq];exact wpS_pure (c2 hl (by lia))
   | false=>
    dsimp only
    refine aZ (by simp) ?_
    refine wpS_bind (qK hC hS hB' (by lia) (by lia) ?_)
    cases hl2:O.blt (rk (kyd (arrOf st') (lo+m - 1))) (rk (kyd (arrOf st') (lo+m))) with
    | true=>exact wpS_pure (c3 hl2)
    | false=>exact wpS_pure (c4 hl hl2)
  have hsz':lo+m<=(arrOf st').size:=by rw [hB'.size];lia
  dsimp only
  by_cases hq:q > 0
  case' pos=>
   refine bw hq ?_
   refine wpS_bind (nK ?_)
   have hB3:=hB'.rev (i:=lo+m - (q+1)) (j:=lo+m) (by have:=he.1;lia) (by lia)
   have hd3:gp rk (arrOf (setArr st' (mirror (arrOf st') (lo+m - (q+1)) (lo+m) ((lo+m - (lo+m - (q+1))) / 2)))) lo m:=gp.congr hd' (gY hsz' he.2)
   generalize setArr st' (mirror (arrOf st') (lo+m - (q+1)) (lo+m) ((lo+m - (lo+m - (q+1))) / 2))=st3 at hB3 hd3 ⊢
  case' neg=>
   refine aZ hq ?_
   have hB3:=hB'
   have hd3:=hd'
  all_goals
   refine yk hB3 hd3 (by lia) hm2 hz (λx n' Q' st4 hB4 hn1' hn2' hy hno=>?_) λn' st4 hB4 a1 a2 a3=>wpS_pure (h n' st4 hB4 a1 a2 a3)
   refine wpS_bind (asc st4 hB4 n' _ hn1' hn2' ?_)
   cases hl:O.blt (rk (kyd (arrOf st4) (lo+n'))) (rk (kyd (arrOf st4) (lo+n' - 1))) with
   | true=>exact wpS_pure (hy hl)
   | false=>exact wpS_pure (hno hl)
end
end L2
namespace L2
open PySem PySem.Spec PyProof.Rows
section
variable {prog:Program}{w:World}{A:Around}{E:Value->Shared->Prop}{s:Shared}{κ:SortKind}{O:KeyOrd}{rk:Keyed->O.α}{S:Keyed->Prop}
variable {a0:Array Keyed}{lo:Nat}{p0:Array (Nat×Nat×Nat)}{g0:Nat}{st:SortSt}
set_option maxHeartbeats 1000000 in
theorem ox (hC:Cm prog w A s κ O rk S) (hS:∀ x ∈ a0.toList,S x) {n ok:Nat}{Q:Bool->SortSt->Prop} (hB:SB κ a0 lo p0 g0 st) (h1:1<=ok) (hok:ok<=n) (hz:lo+n<=a0.size) (hu:Up rk (arrOf st) lo ok)
  (h:∀ st',SB κ a0 lo p0 g0 st'->Up rk (arrOf st') lo n->Q true st'):wpS (model prog w) A E s (zd lo n ok) Q st:=by
 refine wpS_bind (wpS_mono (wpS_forRange (I:=λk c st'=>c=(none,())/\SB κ a0 lo p0 g0 st'/\Up rk (arrOf st') lo (min k n)) (Q:=λc st'=>c=(none,())/\SB κ a0 lo p0 g0 st'/\Up rk (arrOf st') lo n) ?_ ?_ ?_) ?_)
 ·rintro k c st' hk hkn ⟨rfl,hB',hs⟩
  rw [show min k n=k by lia] at hs
  dsimp only
  refine wpS_bind (wpS_mono (wpS_forRange (I:=λx c st2=>st2=st'/\∃ l r,c=(none,l,r)/\l<=r/\r<=k/\r - l<=k - x/\(∀ i,i < l->O.kle (rk (kyd (arrOf st') (lo+i))) (rk (kyd (arrOf st') (lo+k))))/\
    ∀ i,r<=i->i < k->O.klt (rk (kyd (arrOf st') (lo+k))) (rk (kyd (arrOf st') (lo+i))))
   (Q:=λc st2=>st2=st'/\∃ l r,c=(none,l,r)/\l<=k/\(∀ i,i < l->O.kle (rk (kyd (arrOf st') (lo+i))) (rk (kyd (arrOf st') (lo+k))))/\∀ i,l<=i->i < k->O.klt (rk (kyd (arrOf st') (lo+k))) (rk (kyd (arrOf st') (lo+i)))) ?_ ?_ ?_) ?_)
  ·rintro x c st2 _ hxk ⟨rfl,l,r,rfl,hlr,hrk,hm,hlo,hhi⟩
   dsimp only
   by_cases hge:l>=r
   ·refine bw hge ?_
    have e:l=r:=by lia
    subst e
    exact wpS_pure ⟨rfl,l,l,rfl,hrk,hlo,hhi⟩
   ·refine aZ hge ?_
    refine wpS_bind (qK hC hS hB' (by lia) (by lia) ?_)
    cases hl:O.blt (rk (kyd (arrOf st2) (lo+k))) (rk (kyd (arrOf st2) (lo+(l+r) / 2))) with
    | true=>exact wpS_pure ⟨rfl,l,(l+r) / 2,rfl,by lia,by lia,by lia,hlo,λi h1 h2=>KeyOrd.klt_of_klt_of_kle hl (hs _ _ (by lia) (by lia) (by lia))⟩
    | false=>exact wpS_pure ⟨rfl,(l+r) / 2+1,r,rfl,by lia,by lia,by lia,λi h1=>KeyOrd.kle_trans (hs (lo+i) (lo+(l+r) / 2) (by lia) (by lia) (by lia)) hl,hhi⟩
  ·rintro c st2 ⟨rfl,l,r,rfl,hlr,hrk,hm,hlo,hhi⟩
   have e:l=r:=by lia
   subst e
   exact⟨rfl,l,l,rfl,hrk,hlo,hhi⟩
  ·exact⟨rfl,0,k,rfl,by lia,by lia,by lia,λi hi=>by lia,λi h1 h2=>by lia⟩
  ·rintro c st2 ⟨rfl,l,r,rfl,hlk,hlo,hhi⟩
   dsimp only
   refine wpS_bind (m:=moveDown' (lo+k) (lo+l)) ?_
   rw [moveDown'_eq]
   have hks:lo+k < (arrOf st2).size:=by rw [hB'.size];lia
   refine wpS_modify (wpS_pure ⟨rfl,hB'.set (bubble_perm _ _ _) λi hi=>?_,?_⟩)
   ·rw [getElem?_bubble hks _ (by lia),if_neg (by lia),if_neg (by lia)]
   ·rw [show min (k+1) n=k+1 by lia]
    intro i j hi hij hj
    show O.kle (rk (kyd (bubble (arrOf st2) (lo+k) (lo+k - (lo+l))) i)) (rk (kyd (bubble (arrOf st2) (lo+k) (lo+k - (lo+l))) j))
    rw [lC hks (by lia),lC hks (by lia),show lo+k - (lo+k - (lo+l))=lo+l by lia]
    have hlo':∀ i,lo<=i->i < lo+l->O.kle (rk (kyd (arrOf st2) i)) (rk (kyd (arrOf st2) (lo+k))):=λi h1 h2=>by
     have:=hlo (i - lo) (by lia);rwa [show lo+(i - lo)=i by lia] at this
    have hhi':∀ i,lo+l<=i->i < lo+k->O.klt (rk (kyd (arrOf st2) (lo+k))) (rk (kyd (arrOf st2) i)):=λi h1 h2=>by
     have:=hhi (i - lo) (by lia) (by lia);rwa [show lo+(i - lo)=i by lia] at this
    repeat' split
    all_goals first
     | (exfalso;lia)
     | exact KeyOrd.kle_refl _
     | exact hlo' _ (by lia) (by lia)
     | exact KeyOrd.kle_of_klt (hhi' _ (by lia) (by lia))
     | exact hs _ _ (by lia) (by lia) (by lia)
 ·rintro c st' ⟨rfl,hB',hs⟩
  rw [show min (max (max ok 1) n) n=n by lia] at hs
  exact⟨rfl,hB',hs⟩
 ·rw [show max ok 1=ok by lia,show min ok n=ok by lia]
  exact⟨rfl,hB,hu⟩
 ·rintro c st' ⟨rfl,hB',hs⟩
  exact wpS_pure (h st' hB' hs)
noncomputable def bey (O:KeyOrd) (rk:Keyed->O.α) (left:Bool) (key x:Keyed):Bool:=if left=true then O.blt (rk x) (rk key) else !O.blt (rk key) (rk x)
set_option maxHeartbeats 1000000 in
theorem d6 (hC:Cm prog w A s κ O rk S) {left:Bool}{key:Keyed}{arr:Array Keyed}{base n hint:Nat}{Q:Option Nat->SortSt->Prop} (hk:kindOf st=κ) (hkey:S key) (hz:base+n<=arr.size) (hS:∀ i,i < n->S (kyd arr (base+i)))
  (hh:hint < n) (anti:∀ i j,i<=j->j < n->bey O rk left key (kyd arr (base+j))=true->bey O rk left key (kyd arr (base+i))=true)
  (h:∀ k,k<=n->(∀ i,i < k->bey O rk left key (kyd arr (base+i))=true)->(∀ i,k<=i->i < n->bey O rk left key (kyd arr (base+i))=false)->Q (some k) st) :
  wpS (model prog w) A E s (nO left key arr base n hint) Q st:=by
 have bey1:∀ i (Q':Option Bool->SortSt->Prop),i < n->Q' (some (bey O rk left key (kyd arr (base+i)))) st->wpS (model prog w) A E s (elem' arr (base+i) >>= λx=>if left=true then lt' x key else lt' key x >>= λb=>pure (b.map (!·))) Q' st:=λi Q' hi hq=>by
  refine wpS_bind (bz (ba (by lia)) ?_)
  cases left with
  | true=>exact oY hC hk (hS i hi) hkey hq
  | false=>exact wpS_bind (oY hC hk hkey (hS i hi) (wpS_pure hq))
 have bin:∀ l0 h0,l0<=h0->h0<=n->(∀ i,i < l0->bey O rk left key (kyd arr (base+i))=true)->(∀ i,h0<=i->i < n->bey O rk left key (kyd arr (base+i))=false)->
   ∀ (f:Nat->Option (Option Nat)×Nat×Nat->StateT SortSt Sem (ForInStep (Option (Option Nat)×Nat×Nat))) (k:Option (Option Nat)×Nat×Nat->StateT SortSt Sem (Option Nat)),
   (∀ x l r (Q':ForInStep (Option (Option Nat)×Nat×Nat)->SortSt->Prop),l<=r->r<=n->(r<=l->Q' (.done (none,l,r)) st)->(l < r->bey O rk left key (kyd arr (base+(l+(r - l) / 2)))=true->Q' (.yield (none,l+(r - l) / 2+1,r)) st)->
     (l < r->bey O rk left key (kyd arr (base+(l+(r - l) / 2)))=false->Q' (.yield (none,l,l+(r - l) / 2)) st)->wpS (model prog w) A E s (f x (none,l,r)) Q' st)->
   (∀ l r,k (none,l,r)=pure (some r))->wpS (model prog w) A E s (forIn [0:n] (none,l0,h0) f >>= k) Q st:=λl0 h0 e1 e2 e3 e4 f k hf hkk=>by
  refine wpS_bind (wpS_mono (wpS_forRange (I:=λx c st2=>st2=st/\∃ l r,c=(none,l,r)/\l<=r/\r<=n/\r - l<=n - x/\(∀ i,i < l->bey O rk left key (kyd arr (base+i))=true)/\∀ i,r<=i->i < n->bey O rk left key (kyd arr (base+i))=false)
   (Q:=λc st2=>st2=st/\∃ r,c=(none,r,r)/\r<=n/\(∀ i,i < r->bey O rk left key (kyd arr (base+i))=true)/\∀ i,r<=i->i < n->bey O rk left key (kyd arr (base+i))=false) ?_ ?_ ?_) ?_)
  ·rintro x c st2 _ hx ⟨rfl,l,r,rfl,a1,a2,a3,a4,a5⟩
   refine hf x l r _ a1 a2 (λhrl=>?_) (λhlr ht=>?_) λhlr ht=>?_
   ·have e:l=r:=by lia
    subst e
    exact⟨rfl,l,rfl,a2,a4,a5⟩
   ·refine⟨rfl,_,_,rfl,by lia,a2,by lia,λi hi=>?_,a5⟩
    exact anti i (l+(r - l) / 2) (by lia) (by lia) ht
   ·refine⟨rfl,_,_,rfl,by lia,by lia,by lia,a4,λi h1 h2=>?_⟩
    cases q:bey O rk left key (kyd arr (base+i)) with
    | false=>rfl
    | true=>rw [anti (l+(r - l) / 2) i h1 h2 q] at ht;cases ht
  ·rintro c st2 ⟨rfl,l,r,rfl,a1,a2,a3,a4,a5⟩
   have e:l=r:=by lia
   subst e
   exact⟨rfl,l,rfl,a2,a4,a5⟩
  ·exact⟨rfl,l0,h0,rfl,e1,e2,by lia,e3,e4⟩
  ·rintro c st2 ⟨rfl,r,rfl,a2,a4,a5⟩
   rw [hkk]
   exact wpS_pure (h r a2 a4 a5)
 refine wpS_bind (bey1 hint _ hh ?_)
 dsimp only
 cases hb:bey O rk left key (kyd arr (base+hint)) with
 | true=>
  refine bw rfl ?_
  refine wpS_bind (wpS_mono (wpS_forRange (I:=λx c st2=>st2=st/\∃ l o,c=(none,l,o)/\l < o/\x+1<=o/\hint+l < n/\bey O rk left key (kyd arr (base+(hint+l)))=true)
   (Q:=λc st2=>st2=st/\∃ l o,c=(none,l,o)/\l < o/\hint+l < n/\bey O rk left key (kyd arr (base+(hint+l)))=true/\(n - hint<=o\/hint+o < n/\bey O rk left key (kyd arr (base+(hint+o)))=false)) ?_ ?_ ?_) ?_)
  ·rintro x c st2 _ hx ⟨rfl,l,o,rfl,a1,a2,a3,a4⟩
   dsimp only
   by_cases ho:o>=n - hint
   ·rw [if_pos ho];exact wpS_pure ⟨rfl,l,o,rfl,a1,a3,a4,.inl ho⟩
   ·refine aZ ho ?_
    refine wpS_bind (bey1 (hint+o) _ (by lia) ?_)
    cases hb2:bey O rk left key (kyd arr (base+(hint+o))) with
    | true=>exact wpS_pure ⟨rfl,o,2*o+1,rfl,by lia,by lia,by lia,hb2⟩
    | false=>exact wpS_pure ⟨rfl,l,o,rfl,a1,a3,a4,.inr ⟨by lia,hb2⟩⟩
  ·rintro c st2 ⟨rfl,l,o,rfl,a1,a2,a3,a4⟩
   exact⟨rfl,l,o,rfl,a1,a3,a4,.inl (by lia)⟩
  ·exact⟨rfl,0,1,rfl,by lia,by lia,by lia,hb⟩
  ·rintro c st2 ⟨rfl,l,o,rfl,a1,a3,a4,a5⟩
   dsimp only
   refine bin _ _ (by lia) (by lia) (λi hi=>anti i (hint+l) (by lia) a3 a4) (λi h1 h2=>?_) _ _ (λx l r Q' b1 b2 c1 c2 c3=>?_) λl r=>rfl
   ·rcases a5 with a5 | a5
    ·lia
    ·cases q:bey O rk left key (kyd arr (base+i)) with
     | false=>rfl
     | true=>rw [anti (hint+o) i (by lia) h2 q] at a5;exact absurd a5.2 (by simp)
   ·dsimp only
    by_cases hge:l>=r
    ·rw [if_pos hge];exact wpS_pure (c1 hge)
    ·refine aZ hge ?_
     refine wpS_bind (bey1 (l+(r - l) / 2) _ (by lia) ?_)
     cases hb3:bey O rk left key (kyd arr (base+(l+(r - l) / 2))) with
     | true=>exact wpS_pure (c2 (by lia) hb3)
     | false=>exact wpS_pure (c3 (by lia) hb3)
 | false=>
  refine aZ (by simp) ?_
  refine wpS_bind (wpS_mono (wpS_forRange (I:=λx c st2=>st2=st/\∃ l o,c=(none,l,o)/\l < o/\x+1<=o/\l<=hint/\bey O rk left key (kyd arr (base+(hint - l)))=false)
   (Q:=λc st2=>st2=st/\∃ l o,c=(none,l,o)/\l < o/\l<=hint/\bey O rk left key (kyd arr (base+(hint - l)))=false/\(hint+1<=o\/o<=hint/\bey O rk left key (kyd arr (base+(hint - o)))=true)) ?_ ?_ ?_) ?_)
  ·rintro x c st2 _ hx ⟨rfl,l,o,rfl,a1,a2,a3,a4⟩
   dsimp only
   by_cases ho:o>=hint+1
   ·rw [if_pos ho];exact wpS_pure ⟨rfl,l,o,rfl,a1,a3,a4,.inl ho⟩
   ·refine aZ ho ?_
    refine wpS_bind (bey1 (hint - o) _ (by lia) ?_)
    cases hb2:bey O rk left key (kyd arr (base+(hint - o))) with
    | false=>exact wpS_pure ⟨rfl,o,2*o+1,rfl,by lia,by lia,by lia,hb2⟩
    | true=>exact wpS_pure ⟨rfl,l,o,rfl,a1,a3,a4,.inr ⟨by lia,hb2⟩⟩
  ·rintro c st2 ⟨rfl,l,o,rfl,a1,a2,a3,a4⟩
   exact⟨rfl,l,o,rfl,a1,a3,a4,.inl (by lia)⟩
  ·exact⟨rfl,0,1,rfl,by lia,by lia,by lia,hb⟩
  ·rintro c st2 ⟨rfl,l,o,rfl,a1,a3,a4,a5⟩
   dsimp only
   refine bin _ _ (by lia) (by lia) (λi hi=>?_) (λi h1 h2=>?_) _ _ (λx l r Q' b1 b2 c1 c2 c3=>?_) λl r=>rfl
   ·rcases a5 with a5 | a5
    ·lia
    ·exact anti i (hint - o) (by lia) (by lia) a5.2
   ·cases q:bey O rk left key (kyd arr (base+i)) with
    | false=>rfl
    | true=>rw [anti (hint - l) i (by lia) h2 q] at a4;cases a4
   ·dsimp only
    by_cases hge:l>=r
    ·rw [if_pos hge];exact wpS_pure (c1 hge)
    ·refine aZ hge ?_
     refine wpS_bind (bey1 (l+(r - l) / 2) _ (by lia) ?_)
     cases hb3:bey O rk left key (kyd arr (base+(l+(r - l) / 2))) with
     | true=>exact wpS_pure (c2 (by lia) hb3)
     | false=>exact wpS_pure (c3 (by lia) hb3)
end
end L2
namespace L2
open PySem PySem.Spec PyProof.Rows
section
variable {O:KeyOrd}{rk:Keyed->O.α}
noncomputable def mrg (O:KeyOrd) (rk:Keyed->O.α) (xs ys:List Keyed):List Keyed:=List.merge xs ys λx y=>!O.blt (rk y) (rk x)
theorem fJ (xs:List Keyed):mrg O rk xs []=xs:=by unfold mrg;simp
theorem hU (ys:List Keyed):mrg O rk [] ys=ys:=by unfold mrg;simp
theorem ml {x y:Keyed}{xs ys:List Keyed} (h:O.blt (rk y) (rk x)=false):mrg O rk (x::xs) (y::ys)=x::mrg O rk xs (y::ys):=by
 unfold mrg;rw [List.cons_merge_cons,h];rfl
theorem kX {x y:Keyed}{xs ys:List Keyed} (h:O.blt (rk y) (rk x)=true):mrg O rk (x::xs) (y::ys)=y::mrg O rk (x::xs) ys:=by
 unfold mrg;rw [List.cons_merge_cons,h];rfl
theorem nS {x:Keyed}:∀ {ys:List Keyed},(∀ y ∈ ys,O.blt (rk y) (rk x)=true)->mrg O rk [x] ys=ys++[x]
 | [],_=>fJ _
 | y::ys,h=>by rw [kX (h y List.mem_cons_self),nS λz hz=>h z (List.mem_cons_of_mem _ hz)];rfl
theorem jl {x:Keyed}:∀ (xs ys:List Keyed),(∀ y ∈ ys,O.blt (rk y) (rk x)=true)->mrg O rk (xs++[x]) ys=mrg O rk xs ys++[x]
 | [],ys,h=>by rw [List.nil_append,nS h,hU]
 | a::xs,[],h=>by rw [fJ,fJ]
 | a::xs,y::ys,h=>by
  rw [List.cons_append]
  cases hb:O.blt (rk y) (rk a) with
  | true=>rw [kX hb,kX hb,<-List.cons_append,jl (a::xs) ys λz hz=>h z (List.mem_cons_of_mem _ hz)];rfl
  | false=>rw [ml hb,ml hb,jl xs (y::ys) h];rfl
termination_by xs ys=>xs.length+ys.length
theorem rB {y:Keyed}:∀ {xs:List Keyed},(∀ x ∈ xs,O.blt (rk y) (rk x)=false)->mrg O rk xs [y]=xs++[y]
 | [],_=>hU _
 | x::xs,h=>by rw [ml (h x List.mem_cons_self),rB λz hz=>h z (List.mem_cons_of_mem _ hz)];rfl
theorem jt {y:Keyed}:∀ (xs ys:List Keyed),(∀ x ∈ xs,O.blt (rk y) (rk x)=false)->mrg O rk xs (ys++[y])=mrg O rk xs ys++[y]
 | xs,[],h=>by rw [List.nil_append,rB h,fJ]
 | [],b::ys,h=>by rw [hU,hU]
 | a::xs,b::ys,h=>by
  rw [List.cons_append]
  cases hb:O.blt (rk b) (rk a) with
  | true=>rw [kX hb,kX hb,jt (a::xs) ys h];rfl
  | false=>rw [ml hb,ml hb,<-List.cons_append,jt xs (b::ys) λz hz=>h z (List.mem_cons_of_mem _ hz)];rfl
termination_by xs ys=>xs.length+ys.length
theorem kJ (xs ys:List Keyed):(mrg O rk xs ys).Perm (xs++ys):=List.merge_perm_append _
theorem yi {xs ys:List Keyed} (hx:xs.Pairwise λa b=>O.kle (rk a) (rk b)) (hy:ys.Pairwise λa b=>O.kle (rk a) (rk b)):(mrg O rk xs ys).Pairwise λa b=>O.kle (rk a) (rk b):=by
 have:=List.pairwise_merge (le:=λx y=>!O.blt (rk y) (rk x)) (λa b c h1 h2=>by
   simp only [Bool.not_eq_true'] at *;exact KeyOrd.kle_trans (O:=O) h1 h2) (λa b=>by
   simp only [Bool.or_eq_true,Bool.not_eq_true']
   cases h:O.blt (rk b) (rk a) with
   | false=>exact .inl rfl
   | true=>exact .inr (KeyOrd.klt_asymm (O:=O) h)) xs ys (hx.imp λh=>by rw [Bool.not_eq_true'];exact h) (hy.imp λh=>by rw [Bool.not_eq_true'];exact h)
 exact this.imp λh=>by rw [Bool.not_eq_true'] at h;exact h
theorem dP {a:Array Keyed}{i:Nat} (h:i < a.size):a.toList.drop i=kyd a i::a.toList.drop (i+1):=by
 have e:=ba h
 rw [Array.getElem?_eq_getElem h] at e
 rw [List.drop_eq_getElem_cons (by simpa using h)]
 rw [<-Option.some.inj e];simp
theorem kR {a:Array Keyed}{i:Nat} (h:i < a.size):a.toList.take (i+1)=a.toList.take i++[kyd a i]:=by
 have e:=ba h
 rw [Array.getElem?_eq_getElem h] at e
 rw [List.take_succ_eq_append_getElem (by simpa using h)]
 rw [<-Option.some.inj e];simp
theorem qL {a:Array Keyed}{x:Keyed} (h:x ∈ a.toList):∃ i,i < a.size/\x=kyd a i:=by
 obtain⟨i,hi,e⟩:=List.mem_iff_getElem.mp h
 have hi':i < a.size:=by simpa using hi
 refine⟨i,hi',?_⟩
 have q:=ba hi'
 rw [Array.getElem?_eq_getElem hi'] at q
 rw [<-Option.some.inj q,<-e];simp
noncomputable def MI (O:KeyOrd) (rk:Keyed->O.α) (a b out:Array Keyed) (ia ib:Nat):Prop:=out.toList++mrg O rk (a.toList.drop ia) (b.toList.drop ib)=mrg O rk a.toList b.toList
variable {a b out:Array Keyed}{ia ib:Nat}
theorem MI.start:MI O rk a b #[] 0 0:=by unfold MI;simp
theorem MI.b1 (h:MI O rk a b out ia ib) (hb:ib < b.size) (ha:ia < a.size) (hl:O.blt (rk (kyd b ib)) (rk (kyd a ia))=true):MI O rk a b (out.push (kyd b ib)) ia (ib+1):=by
 unfold MI at *
 rw [dP ha,dP hb,kX hl] at h
 rw [<-h,dP ha];simp
theorem MI.a1 (h:MI O rk a b out ia ib) (hb:ib < b.size) (ha:ia < a.size) (hl:O.blt (rk (kyd b ib)) (rk (kyd a ia))=false):MI O rk a b (out.push (kyd a ia)) (ia+1) ib:=by
 unfold MI at *
 rw [dP ha,dP hb,ml hl] at h
 rw [<-h,dP hb];simp
theorem kn {a:Array Keyed}{i k:Nat} (h:i+k < a.size):(out++a.extract i (i+(k+1)))=(out++a.extract i (i+k)).push (kyd a (i+k)):=by
 apply Array.toList_inj.mp
 rw [Array.toList_push,Array.toList_append,Array.toList_append,Array.toList_extract,Array.toList_extract]
 simp only [List.extract_eq_take_drop,Nat.add_sub_cancel_left]
 have e:(a.toList.drop i).take (k+1)=(a.toList.drop i).take k++[kyd a (i+k)]:=by
  rw [List.take_succ_eq_append_getElem (by simp;lia)]
  have q:=ba h
  rw [Array.getElem?_eq_getElem h] at q
  rw [<-Option.some.inj q];simp
 rw [e,List.append_assoc]
theorem oP {a:Array Keyed}{i:Nat}:out++a.extract i (i+0)=out:=by
 apply Array.toList_inj.mp
 simp
theorem MI.as (h:MI O rk a b out ia ib) (hb:ib < b.size):∀ k,ia+k<=a.size->(∀ i,i < k->bey O rk false (kyd b ib) (kyd a (ia+i))=true)->MI O rk a b (out++a.extract ia (ia+k)) (ia+k) ib
 | 0,_,_=>by rw [oP];exact h
 | k+1,hk,hq=>by
  rw [kn (by lia)]
  have:=MI.a1 (MI.as h hb k (by lia) λi hi=>hq i (by lia)) hb (by lia) (by simpa [bey] using hq k (by lia))
  exact this
theorem MI.bs (h:MI O rk a b out ia ib) (ha:ia < a.size):∀ k,ib+k<=b.size->(∀ i,i < k->bey O rk true (kyd a ia) (kyd b (ib+i))=true)->MI O rk a b (out++b.extract ib (ib+k)) ia (ib+k)
 | 0,_,_=>by rw [oP];exact h
 | k+1,hk,hq=>by
  rw [kn (by lia)]
  exact MI.b1 (MI.bs h ha k (by lia) λi hi=>hq i (by lia)) (by lia) ha (by simpa [bey] using hq k (by lia))
theorem eR {a:Array Keyed}{i:Nat}:(a.extract i a.size).toList=a.toList.drop i:=by
 rw [Array.toList_extract,List.extract_eq_take_drop,List.take_of_length_le (by simp)]
theorem MI.doneB (h:MI O rk a b out ia ib) (hb:ib=b.size):(out++a.extract ia a.size++b.extract ib b.size).toList=mrg O rk a.toList b.toList:=by
 unfold MI at h
 subst hb
 rw [Array.toList_append,Array.toList_append,eR,eR,<-h]
 rw [show b.toList.drop b.size=[] by simp,fJ,List.append_nil]
theorem MI.doneA (h:MI O rk a b out ia ib) (ha:ia=a.size):(out++a.extract ia a.size++b.extract ib b.size).toList=mrg O rk a.toList b.toList:=by
 unfold MI at h
 subst ha
 rw [Array.toList_append,Array.toList_append,eR,eR,<-h]
 rw [show a.toList.drop a.size=[] by simp,hU,List.append_nil]
theorem MI.lastA (h:MI O rk a b out ia ib) (ha:ia+1=a.size) (hl:∀ i,i < b.size->O.blt (rk (kyd b i)) (rk (kyd a (a.size - 1)))=true):(out++b.extract ib b.size++a.extract ia a.size).toList=mrg O rk a.toList b.toList:=by
 unfold MI at h
 rw [Array.toList_append,Array.toList_append,eR,eR,<-h,dP (by lia:ia < a.size),show a.toList.drop (ia+1)=[] by simp;lia,nS,List.append_assoc]
 intro y hy
 obtain⟨i,hi,rfl⟩:=qL (List.mem_of_mem_drop hy)
 rw [show ia=a.size - 1 by lia]
 exact hl i hi
noncomputable def MH (O:KeyOrd) (rk:Keyed->O.α) (a b out:Array Keyed) (na nb:Nat):Prop:=mrg O rk (a.toList.take na) (b.toList.take nb)++out.toList.reverse=mrg O rk a.toList b.toList
variable {na nb:Nat}
theorem MH.start:MH O rk a b #[] a.size b.size:=by
 unfold MH
 rw [List.take_of_length_le (by simp),List.take_of_length_le (by simp)];simp
theorem MH.a1 (h:MH O rk a b out (na+1) nb) (ha:na < a.size) (hl:∀ i,i < nb->i < b.size->O.blt (rk (kyd b i)) (rk (kyd a na))=true):MH O rk a b (out.push (kyd a na)) na nb:=by
 unfold MH at *
 rw [kR ha,jl _ _ λy hy=>?_] at h
 ·rw [<-h];simp
 ·obtain⟨i,hi,e⟩:=List.mem_iff_getElem.mp hy
  have hi':i < nb/\i < b.size:=by simp at hi;lia
  have q:=ba hi'.2
  rw [Array.getElem?_eq_getElem hi'.2] at q
  have:y=kyd b i:=by rw [<-e,<-Option.some.inj q];simp
  rw [this];exact hl i hi'.1 hi'.2
theorem MH.b1 (h:MH O rk a b out na (nb+1)) (hb:nb < b.size) (hl:∀ i,i < na->i < a.size->O.blt (rk (kyd b nb)) (rk (kyd a i))=false):MH O rk a b (out.push (kyd b nb)) na nb:=by
 unfold MH at *
 rw [kR hb,jt _ _ λy hy=>?_] at h
 ·rw [<-h];simp
 ·obtain⟨i,hi,e⟩:=List.mem_iff_getElem.mp hy
  have hi':i < na/\i < a.size:=by simp at hi;lia
  have q:=ba hi'.2
  rw [Array.getElem?_eq_getElem hi'.2] at q
  have:y=kyd a i:=by rw [<-e,<-Option.some.inj q];simp
  rw [this];exact hl i hi'.1 hi'.2
end
end L2
namespace L2
open PySem PySem.Spec PyProof.Rows
section
variable {prog:Program}{w:World}{A:Around}{E:Value->Shared->Prop}{s:Shared}{κ:SortKind}{O:KeyOrd}{rk:Keyed->O.α}{S:Keyed->Prop}{st:SortSt}{a b:Array Keyed}
noncomputable def Gs (st st':SortSt):Prop:=∃ g,st'=yz st g
theorem Gs.refl:Gs st st:=⟨gallopOf st,rfl⟩
theorem Gs.kind {st':SortSt} (h:Gs st st'):kindOf st'=kindOf st:=by obtain⟨g,rfl⟩:=h;rfl
theorem Gs.set {st':SortSt} (h:Gs st st') (g:Nat):Gs st (SortSt.mk' (kindOf st') (arrOf st') (pendingOf st') g (failedOf st')):=by obtain⟨g',rfl⟩:=h;exact⟨g,rfl⟩
structure Two (O:KeyOrd) (rk:Keyed->O.α) (S:Keyed->Prop) (a b:Array Keyed):Prop where
 sa:∀ i,i < a.size->S (kyd a i)
 sb:∀ i,i < b.size->S (kyd b i)
 ua:Up rk a 0 a.size
 ub:Up rk b 0 b.size
 pa:0 < a.size
 pb:0 < b.size
 first:O.blt (rk (kyd b 0)) (rk (kyd a 0))=true
 last:∀ i,i < b.size->O.blt (rk (kyd b i)) (rk (kyd a (a.size - 1)))=true
theorem Two.galA (T:Two O rk S a b) {ia na:Nat}{key:Keyed} (hn:ia+na<=a.size):∀ i j,i<=j->j < na->bey O rk false key (kyd a (ia+j))=true->bey O rk false key (kyd a (ia+i))=true:=λi j hij hj h=>by
 simp only [bey,Bool.false_eq_true,if_false,Bool.not_eq_true'] at h ⊢
 exact KeyOrd.kle_trans (O:=O) (T.ua (ia+i) (ia+j) (Nat.zero_le _) (by lia) (by lia)) h
theorem Two.galB (T:Two O rk S a b) {ib nb:Nat}{key:Keyed} (hn:ib+nb<=b.size):∀ i j,i<=j->j < nb->bey O rk true key (kyd b (ib+j))=true->bey O rk true key (kyd b (ib+i))=true:=λi j hij hj h=>by
 simp only [bey,if_true] at h ⊢
 exact KeyOrd.klt_of_kle_of_klt (O:=O) (T.ub (ib+i) (ib+j) (Nat.zero_le _) (by lia) (by lia)) h
set_option maxHeartbeats 4000000 in
structure Hid (G:Prop):Prop where
 out:G
theorem shr {C:Prop} [Decidable C] {G P:Prop} (hp:C->Hid G->P) (hn:¬ C->Hid G->P) (g:G):P:=if h:C then hp h ⟨g⟩ else hn h ⟨g⟩
theorem xj (hC:Cm prog w A s κ O rk S) {Q:Array Keyed->SortSt->Prop} (hk:kindOf st=κ) (T:Two O rk S a b)
  (h:∀ r st',Gs st st'->r.toList=mrg O rk a.toList b.toList->Q r st'):wpS (model prog w) A E s (z9 a b) Q st:=by
 refine wpS_bind (fU ?_)
 refine wpS_bind (bz (ba T.pb) ?_)
 have I0:MI O rk a b #[kyd b 0] 0 1:=MI.start.b1 T.pb T.pa T.first
 dsimp -zeta only
 by_cases e1:1=b.size
 ·refine bw (by simpa using e1) ?_
  exact wpS_pure (h _ _ .refl (I0.doneB e1))
 refine aZ (by simpa using e1) ?_
 by_cases e2:0+1=a.size
 ·refine bw (by simpa using e2) ?_
  exact wpS_pure (h _ _ .refl (I0.lastA e2 T.last))
 refine aZ (by simpa using e2) ?_
 have pa:=T.pa
 have pb:=T.pb
 refine wpS_bind (wpS_get ?_)
 refine wpS_bind (wpS_mono (wpS_forRange (I:=λx c st'=>∃ out ia ib g,c=(none,out,ia,ib,g)/\MI O rk a b out ia ib/\ia+1 < a.size/\ib < b.size/\x+1<=ia+ib/\Gs st st')
  (Q:=λc st'=>∃ r c',c=(some r,c')/\r.toList=mrg O rk a.toList b.toList/\Gs st st') ?_ ?_ ?_) ?_)
 ·rintro x c st' _ hx ⟨out,ia,ib,g,rfl,I,ha,hb,hp,hG⟩
  have hk':kindOf st'=κ:=hG.kind.trans hk
  refine wpS_bind (wpS_mono (wpS_forRange (I:=λy c st2=>st2=st'/\∃ out ja jb ac bc,c=(none,out,ja,jb,ac,bc)/\MI O rk a b out ja jb/\ja+1 < a.size/\jb < b.size/\ia+ib+y<=ja+jb)
   (Q:=λc st2=>st2=st'/\((∃ r c',c=(some r,c')/\r.toList=mrg O rk a.toList b.toList)\/∃ out ja jb ac bc,c=(none,out,ja,jb,ac,bc)/\MI O rk a b out ja jb/\ja+1 < a.size/\jb < b.size/\ia+ib+1<=ja+jb)) ?_ ?_ ?_) ?_)
  ·rintro y c st2 _ hy ⟨rfl,out2,ja,jb,ac,bc,rfl,I2,ha2,hb2,hp2⟩
   dsimp only
   refine wpS_bind (bz (ba hb2) (wpS_bind (bz (ba (by lia)) (wpS_bind (oY hC hk' (T.sb _ hb2) (T.sa _ (by lia)) ?_)))))
   cases hl:O.blt (rk (kyd b jb)) (rk (kyd a ja)) with
   | true=>
    dsimp only
    refine bw rfl ?_
    refine wpS_bind (bz (ba hb2) ?_)
    have I3:=I2.b1 hb2 (by lia) hl
    by_cases e3:jb+1=b.size
    ·refine bw (by simpa using e3) ?_
     exact wpS_pure ⟨rfl,.inl ⟨_,_,rfl,I3.doneB e3⟩⟩
    ·refine aZ (by simpa using e3) ?_
     split
     ·exact wpS_pure ⟨rfl,.inr ⟨_,_,_,_,_,rfl,I3,ha2,by lia,by lia⟩⟩
     ·exact wpS_pure ⟨rfl,_,_,_,_,_,rfl,I3,ha2,by lia,by lia⟩
   | false=>
    dsimp only
    refine aZ (by simp) ?_
    refine wpS_bind (bz (ba (by lia)) ?_)
    have I3:=I2.a1 hb2 (by lia) hl
    by_cases e3:ja+1+1=a.size
    ·refine bw (by simpa using e3) ?_
     exact wpS_pure ⟨rfl,.inl ⟨_,_,rfl,I3.lastA e3 T.last⟩⟩
    ·refine aZ (by simpa using e3) ?_
     split
     ·exact wpS_pure ⟨rfl,.inr ⟨_,_,_,_,_,rfl,I3,by lia,hb2,by lia⟩⟩
     ·exact wpS_pure ⟨rfl,_,_,_,_,_,rfl,I3,by lia,hb2,by lia⟩
  ·rintro c st2 ⟨rfl,out2,ja,jb,ac,bc,rfl,I2,ha2,hb2,hp2⟩
   exact⟨rfl,.inr ⟨_,_,_,_,_,rfl,I2,ha2,hb2,by lia⟩⟩
  ·exact⟨rfl,out,ia,ib,0,0,rfl,I,ha,hb,by lia⟩
  ·rintro c st2 ⟨rfl,⟨r,c',rfl,hr⟩ | ⟨out2,ja,jb,ac,bc,rfl,I2,ha2,hb2,hp2⟩⟩
   ·exact wpS_pure ⟨_,_,rfl,hr,hG⟩
   refine wpS_bind (fU ?_)
   refine wpS_bind (wpS_mono (wpS_forRange (I:=λy c st3=>Gs st st3/\∃ out ja jb g ac bc,c=(none,out,ja,jb,g,ac,bc)/\MI O rk a b out ja jb/\ja+1 < a.size/\jb < b.size/\ia+ib+1<=ja+jb)
    (Q:=λc st3=>Gs st st3/\((∃ r c',c=(some r,c')/\r.toList=mrg O rk a.toList b.toList)\/∃ out ja jb g ac bc,c=(none,out,ja,jb,g,ac,bc)/\MI O rk a b out ja jb/\ja+1 < a.size/\jb < b.size/\ia+ib+1<=ja+jb)) ?_ ?_ ?_) ?_)
   ·rintro y c st3 _ hy ⟨hG3,out3,ja,jb,g3,ac,bc,rfl,I3,ha3,hb3,hp3⟩
    dsimp -zeta only
    have gal1:∀ (g4:Nat) (Q':Option Nat->SortSt->Prop),(∀ k,k<=a.size - ja->(∀ i,i < k->bey O rk false (kyd b jb) (kyd a (ja+i))=true)->(∀ i,k<=i->i < a.size - ja->bey O rk false (kyd b jb) (kyd a (ja+i))=false)->Q' (some k) (SortSt.mk' (kindOf st3) (arrOf st3) (pendingOf st3) g4 (failedOf st3)))->
      wpS (model prog w) A E s (nO false (kyd b jb) a ja (a.size - ja) 0) Q' (SortSt.mk' (kindOf st3) (arrOf st3) (pendingOf st3) g4 (failedOf st3)):=λg4 Q' hq=>
     d6 hC (hG3.kind.trans hk) (T.sb _ hb3) (by lia) (λi hi=>T.sa _ (by lia)) (by lia) (T.galA (by lia)) hq
    dsimp only
    apply shr (C:=g3 > 1)
    case hp=>
     intro hg1 tail
     refine bw hg1 ?_
     generalize g3 - 1=g4
     revert g4
     exact tail.out
    case hn=>
     intro hg1 tail
     refine aZ hg1 ?_
     exact tail.out g3
    case g=>
     intro g4
     refine wpS_bind (wpS_modify ?_)
     refine wpS_bind (bz (ba hb3) (wpS_bind (gal1 _ _ λk hk1 hk2 hk3=>?_)))
     have I4:=I3.as hb3 k (by lia) hk2
     clear gal1 hk2
     dsimp only
     apply shr (C:=k > 0)
     case hp=>
      intro hk0 tail
      refine bw hk0 ?_
      by_cases e3:ja+k+1=a.size
      ·refine bw (by simpa using e3) ?_
       exact wpS_pure ⟨hG3.set _,.inl ⟨_,_,rfl,I4.lastA e3 T.last⟩⟩
      refine aZ (by simpa using e3) ?_
      by_cases e4:ja+k=a.size
      ·refine bw (by simpa using e4) ?_
       exact wpS_pure ⟨hG3.set _,.inl ⟨_,_,rfl,I4.doneA e4⟩⟩
      refine aZ (by simpa using e4) ?_
      have hb5:O.blt (rk (kyd b jb)) (rk (kyd a (ja+k)))=true:=by simpa [bey] using hk3 k (Nat.le_refl _) (by lia)
      have z:MI O rk a b (out3++a.extract ja (ja+k)) (ja+k) jb/\O.blt (rk (kyd b jb)) (rk (kyd a (ja+k)))=true/\ja+k+1 < a.size/\ia+ib+1<=ja+k+jb:=⟨I4,hb5,by lia,by lia⟩
      generalize out3++a.extract ja (ja+k)=out5 at z ⊢
      generalize ja+k=ja5 at z ⊢
      generalize k=ac5
      revert z
      revert ac5 out5 ja5
      exact tail.out
     case hn=>
      intro hk0 tail
      refine aZ hk0 ?_
      have hb5:O.blt (rk (kyd b jb)) (rk (kyd a ja))=true:=by simpa [bey] using hk3 0 (by lia) (by lia)
      exact tail.out _ _ _ ⟨I3,hb5,ha3,hp3⟩
     case g=>
      clear I4 hk3 hk1 I3
      intro out5 ja5 ac5 z
      obtain⟨I4,hb5,ha5,hp5⟩:=z
      refine wpS_bind (bz (ba hb3) ?_)
      have I5:=I4.b1 hb3 (by lia) hb5
      by_cases e5:jb+1=b.size
      ·refine bw (by simpa using e5) ?_
       exact wpS_pure ⟨hG3.set _,.inl ⟨_,_,rfl,I5.doneB e5⟩⟩
      refine aZ (by simpa using e5) ?_
      refine wpS_bind (bz (ba (by lia)) (wpS_bind (d6 hC (hG3.kind.trans hk) (T.sa _ (by lia)) (by lia) (λi hi=>T.sb _ (by lia)) (by lia) (T.galB (by lia)) λk2 hk1 hk2 hk3=>?_)))
      have I6:=I5.bs (by lia) k2 (by lia) hk2
      clear hk2
      dsimp only
      apply shr (C:=k2 > 0)
      case hp=>
       intro hk20 tail
       refine bw hk20 ?_
       by_cases e6:jb+1+k2=b.size
       ·refine bw (by simpa using e6) ?_
        exact wpS_pure ⟨hG3.set _,.inl ⟨_,_,rfl,I6.doneB e6⟩⟩
       refine aZ (by simpa using e6) ?_
       have hb7:O.blt (rk (kyd b (jb+1+k2))) (rk (kyd a ja5))=false:=by simpa [bey] using hk3 k2 (Nat.le_refl _) (by lia)
       have z:MI O rk a b (out5.push (kyd b jb)++b.extract (jb+1) (jb+1+k2)) ja5 (jb+1+k2)/\O.blt (rk (kyd b (jb+1+k2))) (rk (kyd a ja5))=false/\jb+1+k2 < b.size/\ia+ib+1<=ja5+1+(jb+1+k2):=⟨I6,hb7,by lia,by lia⟩
       generalize out5.push (kyd b jb)++b.extract (jb+1) (jb+1+k2)=out7 at z ⊢
       generalize jb+1+k2=jb7 at z ⊢
       generalize k2=bc7
       revert z
       revert bc7 out7 jb7
       exact tail.out
      case hn=>
       intro hk20 tail
       refine aZ hk20 ?_
       have hb7:O.blt (rk (kyd b (jb+1))) (rk (kyd a ja5))=false:=by simpa [bey] using hk3 0 (by lia) (by lia)
       exact tail.out _ _ _ ⟨I5,hb7,by lia,by lia⟩
      case g=>
       clear I6 hk3 hk1 I5 I4
       intro out7 jb7 bc7 z
       obtain⟨I6,hb7,hj7,hp7⟩:=z
       refine wpS_bind (bz (ba (by lia)) ?_)
       have I7:=I6.a1 hj7 (by lia) hb7
       by_cases e7:ja5+1+1=a.size
       ·refine bw (by simpa using e7) ?_
        exact wpS_pure ⟨hG3.set _,.inl ⟨_,_,rfl,I7.lastA e7 T.last⟩⟩
       refine aZ (by simpa using e7) ?_
       split
       ·exact wpS_pure ⟨hG3.set _,.inr ⟨_,_,_,_,_,_,rfl,I7,by lia,hj7,hp7⟩⟩
       ·exact wpS_pure ⟨hG3.set _,_,_,_,_,_,_,rfl,I7,by lia,hj7,hp7⟩
   ·rintro c st3 ⟨hG3,out3,ja,jb,g3,ac,bc,rfl,I3,ha3,hb3,hp3⟩
    exact⟨hG3,.inr ⟨_,_,_,_,_,_,rfl,I3,ha3,hb3,hp3⟩⟩
   ·exact⟨hG,_,_,_,_,_,_,rfl,I2,ha2,hb2,hp2⟩
   ·rintro c st3 ⟨hG3,⟨r,c',rfl,hr⟩ | ⟨out3,ja,jb,g3,ac,bc,rfl,I3,ha3,hb3,hp3⟩⟩
    ·exact wpS_pure ⟨_,_,rfl,hr,hG3⟩
    ·refine wpS_bind (wpS_modify (wpS_pure ⟨out3,ja,jb,_,rfl,I3,ha3,hb3,by lia,hG3.set _⟩))
 ·rintro c st' ⟨out,ia,ib,g,rfl,I,ha,hb,hp,hG⟩
  exfalso;lia
 ·exact⟨_,_,_,_,rfl,I0,by lia,by lia,by lia,.refl⟩
 ·rintro c st' ⟨r,c',rfl,hr,hG⟩
  exact wpS_pure (h r st' hG hr)
end
end L2
namespace L2
open PySem PySem.Spec PyProof.Rows
section
variable {prog:Program}{w:World}{A:Around}{E:Value->Shared->Prop}{s:Shared}{κ:SortKind}{O:KeyOrd}{rk:Keyed->O.α}{S:Keyed->Prop}{st:SortSt}{a b out:Array Keyed}{na nb:Nat}
theorem gB {a:Array Keyed}{n:Nat}:(a.extract 0 n).toList=a.toList.take n:=by
 rw [Array.toList_extract,List.extract_eq_take_drop];simp
theorem MH.doneA (h:MH O rk a b out na nb) (e:na=0):(a.extract 0 na++b.extract 0 nb++out.reverse).toList=mrg O rk a.toList b.toList:=by
 unfold MH at h
 subst e
 rw [Array.toList_append,Array.toList_append,gB,gB,Array.toList_reverse,<-h,List.take_zero,hU,List.nil_append]
theorem MH.doneB (h:MH O rk a b out na nb) (e:nb=0):(a.extract 0 na++b.extract 0 nb++out.reverse).toList=mrg O rk a.toList b.toList:=by
 unfold MH at h
 subst e
 rw [Array.toList_append,Array.toList_append,gB,gB,Array.toList_reverse,<-h,List.take_zero,fJ,List.append_nil]
theorem MH.firstB (T:Two O rk S a b) (h:MH O rk a b out na nb) (ha:0 < na) (e:nb=1):(b.extract 0 nb++a.extract 0 na++out.reverse).toList=mrg O rk a.toList b.toList:=by
 unfold MH at h
 subst e
 have e1:b.toList.take 1=[kyd b 0]:=by rw [kR T.pb];simp
 have e2:a.toList.take na=kyd a 0::(a.toList.drop 1).take (na - 1):=by
  obtain⟨m,rfl⟩:∃ m,na=m+1:=⟨na - 1,by lia⟩
  have:=dP T.pa
  rw [List.drop_zero] at this
  rw [this];simp
 rw [Array.toList_append,Array.toList_append,gB,gB,Array.toList_reverse,<-h,e1,e2,kX T.first,fJ]
 rfl
theorem Two.belowB (T:Two O rk S a b) {i j:Nat}{x:Keyed} (hij:i<=j) (hj:j < b.size) (h:O.blt (rk (kyd b j)) (rk x)=true):O.blt (rk (kyd b i)) (rk x)=true:=
 KeyOrd.klt_of_kle_of_klt (O:=O) (T.ub i j (Nat.zero_le _) hij (by lia)) h
theorem Two.belowA (T:Two O rk S a b) {i j:Nat}{x:Keyed} (hij:i<=j) (hj:j < a.size) (h:O.blt (rk x) (rk (kyd a j))=false):O.blt (rk x) (rk (kyd a i))=false:=
 KeyOrd.kle_trans (O:=O) (T.ua i j (Nat.zero_le _) hij (by lia)) h
theorem oi {a:Array Keyed}{t k:Nat} (h:t+k < a.size):out++(a.extract t (t+(k+1))).reverse=(out.push (kyd a (t+k)))++(a.extract t (t+k)).reverse:=by
 apply Array.toList_inj.mp
 have e:=kn (out:=#[]) (a:=a) (i:=t) (k:=k) h
 have e':a.extract t (t+(k+1))=(a.extract t (t+k)).push (kyd a (t+k)):=by
  have z:∀ x:Array Keyed,#[]++x=x:=λx=>by simp
  rw [z,z] at e;exact e
 rw [e'];simp
theorem MH.as (T:Two O rk S a b) {t:Nat} (hb:∀ i,i < nb->i < b.size->∀ j,t<=j->j < a.size->O.blt (rk (kyd b i)) (rk (kyd a j))=true):∀ (k:Nat) {out:Array Keyed},MH O rk a b out (t+k) nb->t+k<=a.size->MH O rk a b (out++(a.extract t (t+k)).reverse) t nb
 | 0,out,h,_=>by
  have:out++(a.extract t (t+0)).reverse=out:=by apply Array.toList_inj.mp;simp
  rw [this];exact h
 | k+1,out,h,hz=>by
  rw [oi (by lia)]
  exact MH.as T hb k (MH.a1 (na:=t+k) h (by lia) λi h1 h2=>hb i h1 h2 (t+k) (by lia) (by lia)) (by lia)
theorem MH.bs (T:Two O rk S a b) {t:Nat} (hb:∀ i,i < na->i < a.size->∀ j,t<=j->j < b.size->O.blt (rk (kyd b j)) (rk (kyd a i))=false):∀ (k:Nat) {out:Array Keyed},MH O rk a b out na (t+k)->t+k<=b.size->MH O rk a b (out++(b.extract t (t+k)).reverse) na t
 | 0,out,h,_=>by
  have:out++(b.extract t (t+0)).reverse=out:=by apply Array.toList_inj.mp;simp
  rw [this];exact h
 | k+1,out,h,hz=>by
  rw [oi (by lia)]
  exact MH.bs T hb k (MH.b1 (nb:=t+k) h (by lia) λi h1 h2=>hb i h1 h2 (t+k) (by lia) (by lia)) (by lia)
theorem MH.a1' (T:Two O rk S a b) (h:MH O rk a b out na nb) (ha:0 < na) (hz:na<=a.size) (hb:0 < nb) (hz2:nb<=b.size) (hl:O.blt (rk (kyd b (nb - 1))) (rk (kyd a (na - 1)))=true):MH O rk a b (out.push (kyd a (na - 1))) (na - 1) nb:=
 MH.a1 (by rw [show na - 1+1=na by lia];exact h) (by lia) λi h1 h2=>T.belowB (by lia) (by lia) hl
theorem MH.b1' (T:Two O rk S a b) (h:MH O rk a b out na nb) (ha:0 < na) (hz:na<=a.size) (hb:0 < nb) (hz2:nb<=b.size) (hl:O.blt (rk (kyd b (nb - 1))) (rk (kyd a (na - 1)))=false):MH O rk a b (out.push (kyd b (nb - 1))) na (nb - 1):=
 MH.b1 (by rw [show nb - 1+1=nb by lia];exact h) (by lia) λi h1 h2=>T.belowA (by lia) (by lia) hl
theorem MH.as' (T:Two O rk S a b) {t:Nat} (h:MH O rk a b out na nb) (ht:t<=na) (hz:na<=a.size) (hb:0 < nb) (hz2:nb<=b.size) (hq:∀ i,t<=i->i < na->bey O rk false (kyd b (nb - 1)) (kyd a (0+i))=false):MH O rk a b (out++(a.extract t na).reverse) t nb:=by
 by_cases e:t=na
 ·subst e
  have:out++(a.extract t t).reverse=out:=by apply Array.toList_inj.mp;simp
  rw [this];exact h
 have e2:t+(na - t)=na:=by lia
 have:=MH.as T (t:=t) (nb:=nb) (a:=a) (b:=b) (λi h1 h2 j h3 h4=>?_) (na - t) (out:=out) (by rw [e2];exact h) (by lia)
 ·rw [e2] at this;exact this
 ·have q:=hq t (Nat.le_refl _) (by lia)
  simp only [bey,Bool.false_eq_true,if_false,Bool.not_eq_false',Nat.zero_add] at q
  exact T.belowB (j:=nb - 1) (by lia) (by lia) (KeyOrd.klt_of_klt_of_kle (O:=O) q (T.ua t j (Nat.zero_le _) h3 (by lia)))
theorem MH.bs' (T:Two O rk S a b) {t:Nat} (h:MH O rk a b out na nb) (ht:t<=nb) (hz:nb<=b.size) (ha:0 < na) (hz2:na<=a.size) (hq:∀ i,t<=i->i < nb->bey O rk true (kyd a (na - 1)) (kyd b (0+i))=false):MH O rk a b (out++(b.extract t nb).reverse) na t:=by
 by_cases e:t=nb
 ·subst e
  have:out++(b.extract t t).reverse=out:=by apply Array.toList_inj.mp;simp
  rw [this];exact h
 have e2:t+(nb - t)=nb:=by lia
 have:=MH.bs T (t:=t) (na:=na) (a:=a) (b:=b) (λi h1 h2 j h3 h4=>?_) (nb - t) (out:=out) (by rw [e2];exact h) (by lia)
 ·rw [e2] at this;exact this
 ·have q:=hq t (Nat.le_refl _) (by lia)
  simp only [bey,if_true,Nat.zero_add] at q
  exact T.belowA (j:=na - 1) (by lia) (by lia) (KeyOrd.kle_trans (O:=O) q (T.ub t j (Nat.zero_le _) h3 (by lia)))
set_option maxHeartbeats 4000000 in
theorem xk (hC:Cm prog w A s κ O rk S) {Q:Array Keyed->SortSt->Prop} (hk:kindOf st=κ) (T:Two O rk S a b)
  (h:∀ r st',Gs st st'->r.toList=mrg O rk a.toList b.toList->Q r st'):wpS (model prog w) A E s (Au a b) Q st:=by
 have pa:=T.pa
 have pb:=T.pb
 refine wpS_bind (fU ?_)
 refine wpS_bind (bz (ba (by lia)) ?_)
 have I0:MH O rk a b #[kyd a (a.size - 1)] (a.size - 1) b.size:=by
  have e:a.size - 1+1=a.size:=by lia
  exact MH.a1 (out:=#[]) (by rw [e];exact MH.start) (by lia) λi h1 h2=>T.last i h2
 dsimp -zeta only
 by_cases e1:a.size - 1=0
 ·refine bw (by simpa using e1) ?_
  exact wpS_pure (h _ _ .refl (I0.doneA e1))
 refine aZ (by simpa using e1) ?_
 by_cases e2:b.size=1
 ·refine bw (by simpa using e2) ?_
  exact wpS_pure (h _ _ .refl (I0.firstB T (by lia) e2))
 refine aZ (by simpa using e2) ?_
 refine wpS_bind (wpS_get ?_)
 refine wpS_bind (wpS_mono (wpS_forRange (I:=λx c st'=>∃ out na nb g,c=(none,na,nb,out,g)/\MH O rk a b out na nb/\0 < na/\1 < nb/\na<=a.size/\nb<=b.size/\na+nb+x+1<=a.size+b.size/\Gs st st')
  (Q:=λc st'=>∃ r c',c=(some r,c')/\r.toList=mrg O rk a.toList b.toList/\Gs st st') ?_ ?_ ?_) ?_)
 ·rintro x c st' _ hx ⟨out,na,nb,g,rfl,I,ha,hb,hza,hzb,hp,hG⟩
  have hk':kindOf st'=κ:=hG.kind.trans hk
  refine wpS_bind (wpS_mono (wpS_forRange (I:=λy c st2=>st2=st'/\∃ out ma mb ac bc,c=(none,ma,mb,out,ac,bc)/\MH O rk a b out ma mb/\0 < ma/\1 < mb/\ma<=a.size/\mb<=b.size/\ma+mb+y<=na+nb)
   (Q:=λc st2=>st2=st'/\((∃ r c',c=(some r,c')/\r.toList=mrg O rk a.toList b.toList)\/∃ out ma mb ac bc,c=(none,ma,mb,out,ac,bc)/\MH O rk a b out ma mb/\0 < ma/\1 < mb/\ma<=a.size/\mb<=b.size/\ma+mb+1<=na+nb)) ?_ ?_ ?_) ?_)
  ·rintro y c st2 _ hy ⟨rfl,out2,ma,mb,ac,bc,rfl,I2,ha2,hb2,za2,zb2,hp2⟩
   dsimp only
   refine wpS_bind (bz (ba (by lia)) (wpS_bind (bz (ba (by lia)) (wpS_bind (oY hC hk' (T.sb _ (by lia)) (T.sa _ (by lia)) ?_)))))
   cases hl:O.blt (rk (kyd b (mb - 1))) (rk (kyd a (ma - 1))) with
   | true=>
    dsimp only
    refine bw rfl ?_
    refine wpS_bind (bz (ba (by lia)) ?_)
    have I3:=I2.a1' T ha2 za2 (by lia) zb2 hl
    by_cases e3:ma - 1=0
    ·refine bw (by simpa using e3) ?_
     exact wpS_pure ⟨rfl,.inl ⟨_,_,rfl,I3.doneA e3⟩⟩
    ·refine aZ (by simpa using e3) ?_
     split
     ·exact wpS_pure ⟨rfl,.inr ⟨_,_,_,_,_,rfl,I3,by lia,hb2,by lia,zb2,by lia⟩⟩
     ·exact wpS_pure ⟨rfl,_,_,_,_,_,rfl,I3,by lia,hb2,by lia,zb2,by lia⟩
   | false=>
    dsimp only
    refine aZ (by simp) ?_
    refine wpS_bind (bz (ba (by lia)) ?_)
    have I3:=I2.b1' T ha2 za2 (by lia) zb2 hl
    by_cases e3:mb - 1=1
    ·refine bw (by simpa using e3) ?_
     exact wpS_pure ⟨rfl,.inl ⟨_,_,rfl,I3.firstB T ha2 e3⟩⟩
    ·refine aZ (by simpa using e3) ?_
     split
     ·exact wpS_pure ⟨rfl,.inr ⟨_,_,_,_,_,rfl,I3,ha2,by lia,za2,by lia,by lia⟩⟩
     ·exact wpS_pure ⟨rfl,_,_,_,_,_,rfl,I3,ha2,by lia,za2,by lia,by lia⟩
  ·rintro c st2 ⟨rfl,out2,ma,mb,ac,bc,rfl,I2,ha2,hb2,za2,zb2,hp2⟩
   exact⟨rfl,.inr ⟨_,_,_,_,_,rfl,I2,ha2,hb2,za2,zb2,by lia⟩⟩
  ·exact⟨rfl,out,na,nb,0,0,rfl,I,ha,hb,hza,hzb,by lia⟩
  ·rintro c st2 ⟨rfl,⟨r,c',rfl,hr⟩ | ⟨out2,ma,mb,ac,bc,rfl,I2,ha2,hb2,za2,zb2,hp2⟩⟩
   ·exact wpS_pure ⟨_,_,rfl,hr,hG⟩
   refine wpS_bind (fU ?_)
   refine wpS_bind (wpS_mono (wpS_forRange (I:=λy c st3=>Gs st st3/\∃ out ma mb g ac bc,c=(none,ma,mb,out,g,ac,bc)/\MH O rk a b out ma mb/\0 < ma/\1 < mb/\ma<=a.size/\mb<=b.size/\ma+mb+1<=na+nb)
    (Q:=λc st3=>Gs st st3/\((∃ r c',c=(some r,c')/\r.toList=mrg O rk a.toList b.toList)\/∃ out ma mb g ac bc,c=(none,ma,mb,out,g,ac,bc)/\MH O rk a b out ma mb/\0 < ma/\1 < mb/\ma<=a.size/\mb<=b.size/\ma+mb+1<=na+nb)) ?_ ?_ ?_) ?_)
   ·rintro y c st3 _ hy ⟨hG3,out3,ma,mb,g3,ac,bc,rfl,I3,ha3,hb3,za3,zb3,hp3⟩
    have gal1:∀ (g4:Nat) (Q':Option Nat->SortSt->Prop),(∀ k,k<=ma->(∀ i,i < k->bey O rk false (kyd b (mb - 1)) (kyd a (0+i))=true)->(∀ i,k<=i->i < ma->bey O rk false (kyd b (mb - 1)) (kyd a (0+i))=false)->Q' (some k) (SortSt.mk' (kindOf st3) (arrOf st3) (pendingOf st3) g4 (failedOf st3)))->
      wpS (model prog w) A E s (nO false (kyd b (mb - 1)) a 0 ma (ma - 1)) Q' (SortSt.mk' (kindOf st3) (arrOf st3) (pendingOf st3) g4 (failedOf st3)):=λg4 Q' hq=>
     d6 hC (hG3.kind.trans hk) (T.sb _ (by lia)) (by lia) (λi hi=>T.sa _ (by lia)) (by lia) (T.galA (by lia)) hq
    dsimp only
    apply shr (C:=g3 > 1)
    case hp=>
     intro hg1 tail
     refine bw hg1 ?_
     generalize g3 - 1=g4
     revert g4
     exact tail.out
    case hn=>
     intro hg1 tail
     refine aZ hg1 ?_
     exact tail.out g3
    case g=>
     intro g4
     refine wpS_bind (wpS_modify ?_)
     refine wpS_bind (bz (ba (by lia)) (wpS_bind (gal1 _ _ λt hk1 hk2 hk3=>?_)))
     have I4:=I3.as' T hk1 za3 (by lia) zb3 hk3
     have hb5:∀ i,i < t->O.blt (rk (kyd b (mb - 1))) (rk (kyd a i))=false:=λi hi=>by simpa [bey] using hk2 i hi
     clear hk2 hk3 gal1
     dsimp only
     apply shr (C:=ma - t > 0)
     case hp=>
      intro hk0 tail
      refine bw hk0 ?_
      by_cases e3:t=0
      ·refine bw (by simpa using e3) ?_
       exact wpS_pure ⟨hG3.set _,.inl ⟨_,_,rfl,I4.doneA e3⟩⟩
      refine aZ (by simpa using e3) ?_
      have ha5:0 < t:=by lia
      have za5:t<=a.size:=by lia
      have hp5:t+mb+1<=na+nb:=by lia
      have J4:=I4
      have jb5:=hb5
      generalize out3++(a.extract t ma).reverse=out5 at J4 ⊢
      generalize ma - t=ac5
      generalize t=t5 at jb5 J4 ha5 za5 hp5 ⊢
      revert jb5 J4 ha5 za5 hp5
      revert ac5 out5 t5
      exact tail.out
     case hn=>
      intro hk0 tail
      refine aZ hk0 ?_
      have e0:t=ma:=by lia
      subst e0
      have e9:out3++(a.extract t t).reverse=out3:=by apply Array.toList_inj.mp;simp
      rw [e9] at I4
      exact tail.out _ _ t hb5 I4 ha3 za3 hp3
     case g=>
      clear I4 hb5 hk1
      intro out5 ac5 t hb5 I4 ha5 za5 hp5
      refine wpS_bind (bz (ba (by lia)) ?_)
      have I5:=I4.b1' T ha5 za5 (by lia) zb3 (hb5 _ (by lia))
      by_cases e5:mb - 1=1
      ·refine bw (by simpa using e5) ?_
       exact wpS_pure ⟨hG3.set _,.inl ⟨_,_,rfl,I5.firstB T ha5 e5⟩⟩
      refine aZ (by simpa using e5) ?_
      refine wpS_bind (bz (ba (by lia)) (wpS_bind (d6 hC (hG3.kind.trans hk) (T.sa _ (by lia)) (by lia) (λi hi=>T.sb _ (by lia)) (by lia) (T.galB (by lia)) λu hk1 hk2 hk3=>?_)))
      have I6:=I5.bs' T hk1 (by lia) ha5 za5 hk3
      have hb7:∀ i,i < u->O.blt (rk (kyd b i)) (rk (kyd a (t - 1)))=true:=λi hi=>by simpa [bey] using hk2 i hi
      clear hk2 hk3
      dsimp only
      apply shr (C:=mb - 1 - u > 0)
      case hp=>
       intro hk20 tail
       refine bw hk20 ?_
       by_cases e6:u=1
       ·refine bw (by simpa using e6) ?_
        exact wpS_pure ⟨hG3.set _,.inl ⟨_,_,rfl,I6.firstB T ha5 e6⟩⟩
       refine aZ (by simpa using e6) ?_
       by_cases e7:u=0
       ·refine bw (by simpa using e7) ?_
        exact wpS_pure ⟨hG3.set _,.inl ⟨_,_,rfl,I6.doneB e7⟩⟩
       refine aZ (by simpa using e7) ?_
       have hj7:1 < u:=by lia
       have zj7:u<=b.size:=by lia
       have hp7:t+u+1<=na+nb:=by lia
       have J6:=I6
       have jb7:=hb7
       generalize out5.push (kyd b (mb - 1))++(b.extract u (mb - 1)).reverse=out7 at J6 ⊢
       generalize mb - 1 - u=bc7
       generalize u=u7 at jb7 J6 hj7 zj7 hp7 ⊢
       revert jb7 J6 hj7 zj7 hp7
       revert bc7 out7 u7
       exact tail.out
      case hn=>
       intro hk20 tail
       refine aZ hk20 ?_
       have e0:u=mb - 1:=by lia
       subst e0
       have e9:out5.push (kyd b (mb - 1))++(b.extract (mb - 1) (mb - 1)).reverse=out5.push (kyd b (mb - 1)):=by apply Array.toList_inj.mp;simp
       rw [e9] at I6
       exact tail.out _ _ (mb - 1) hb7 I6 (by lia) (by lia) (by lia)
      case g=>
       clear I6 hb7 hk1
       intro out7 bc7 u hb7 I6 hj7 zj7 hp7
       refine wpS_bind (bz (ba (by lia)) ?_)
       have I7:=I6.a1' T ha5 za5 (by lia) zj7 (hb7 _ (by lia))
       by_cases e7:t - 1=0
       ·refine bw (by simpa using e7) ?_
        exact wpS_pure ⟨hG3.set _,.inl ⟨_,_,rfl,I7.doneA e7⟩⟩
       refine aZ (by simpa using e7) ?_
       split
       ·exact wpS_pure ⟨hG3.set _,.inr ⟨_,_,_,_,_,_,rfl,I7,by lia,hj7,by lia,zj7,by lia⟩⟩
       ·exact wpS_pure ⟨hG3.set _,_,_,_,_,_,_,rfl,I7,by lia,hj7,by lia,zj7,by lia⟩
   ·rintro c st3 ⟨hG3,out3,ja,jb,g3,ac,bc,rfl,I3,ha3,hb3,za3,zb3,hp3⟩
    exact⟨hG3,.inr ⟨_,_,_,_,_,_,rfl,I3,ha3,hb3,za3,zb3,hp3⟩⟩
   ·exact⟨hG,_,_,_,_,_,_,rfl,I2,ha2,hb2,za2,zb2,hp2⟩
   ·rintro c st3 ⟨hG3,⟨r,c',rfl,hr⟩ | ⟨out3,ja,jb,g3,ac,bc,rfl,I3,ha3,hb3,za3,zb3,hp3⟩⟩
    ·exact wpS_pure ⟨_,_,rfl,hr,hG3⟩
    ·refine wpS_bind (wpS_modify (wpS_pure ⟨out3,ja,jb,_,rfl,I3,ha3,hb3,za3,zb3,by lia,hG3.set _⟩))
 ·rintro c st' ⟨out,ia,ib,g,rfl,I,ha,hb,hza,hzb,hp,hG⟩
  exfalso;lia
 ·exact⟨_,_,_,_,rfl,I0,by lia,by lia,by lia,by lia,by lia,.refl⟩
 ·rintro c st' ⟨r,c',rfl,hr,hG⟩
  exact wpS_pure (h r st' hG hr)
end
end L2
namespace L2
open PySem PySem.Spec PyProof.Rows
section
variable {prog:Program}{w:World}{A:Around}{E:Value->Shared->Prop}{s:Shared}{κ:SortKind}{O:KeyOrd}{rk:Keyed->O.α}{S:Keyed->Prop}{st:SortSt}{arr:Array Keyed}{n1 n2:Nat}
theorem qY (sa:Nat):∀ (l:List Keyed) (n:Nat) (arr:Array Keyed),sa+n+l.length<=arr.size->
  ((l.zipIdx n).foldl (λ(a:Array Keyed) x=>match x with | (p,j)=>a.setIfInBounds (sa+j) p) arr).toList=arr.toList.take (sa+n)++l++arr.toList.drop (sa+n+l.length)
 | [],n,arr,h=>by simp
 | p::l,n,arr,h=>by
  rw [List.zipIdx_cons,List.foldl_cons,qY sa l (n+1) _ (by simp only [List.length_cons] at h;simp;lia)]
  have hn:sa+n < arr.toList.length:=by simp only [List.length_cons] at h;simp;lia
  rw [Array.toList_setIfInBounds,<-Nat.add_assoc,List.take_succ_eq_append_getElem (by rw [List.length_set];exact hn),List.getElem_set_self,List.take_set_of_le (Nat.le_refl _),List.drop_set_of_lt (by lia),List.length_cons]
  simp [Nat.add_assoc,Nat.add_comm 1]
theorem dY {a:Array Keyed}{i j k:Nat} (h:k < j - i) (hj:j<=a.size):kyd (a.extract i j) k=kyd a (i+k):=by
 apply cW
 rw [Array.getElem?_extract_of_lt (by lia),Array.getElem?_eq_getElem (by lia)]
theorem md {a:Array Keyed} (h:Up rk a 0 a.size):a.toList.Pairwise λx y=>O.kle (rk x) (rk y):=by
 rw [List.pairwise_iff_getElem]
 intro i j hi hj hij
 have hi':i < a.size:=by simpa using hi
 have hj':j < a.size:=by simpa using hj
 have q:=h i j (Nat.zero_le _) (by lia) (by lia)
 have e1:=ba hi'
 have e2:=ba hj'
 rw [Array.getElem?_eq_getElem hi'] at e1
 rw [Array.getElem?_eq_getElem hj'] at e2
 rw [<-Option.some.inj e1,<-Option.some.inj e2] at q
 simpa using q
theorem nq {a:Array Keyed}{i j:Nat} (h:Up rk a i (j - i)) (hj:j<=a.size):Up rk (a.extract i j) 0 (a.extract i j).size:=by
 intro x y _ hxy hy
 have hs:(a.extract i j).size=j - i:=by simp;lia
 rw [dY (by lia) hj,dY (by lia) hj]
 exact h _ _ (by lia) (by lia) (by lia)
theorem kh {a:Array Keyed}{i j:Nat}{x:Keyed} (h:x ∈ (a.extract i j).toList) (hj:j<=a.size):∃ k,i<=k/\k < j/\x=kyd a k:=by
 obtain⟨k,hk,rfl⟩:=qL h
 have hs:(a.extract i j).size=j - i:=by simp;lia
 exact⟨i+k,by lia,by lia,by rw [dY (by lia) hj]⟩
theorem x4 {a:Array Keyed}{i j k:Nat} (h1:i<=j) (h2:j<=k) (h3:k<=a.size):a.toList=a.toList.take i++(a.extract i j).toList++(a.extract j k).toList++a.toList.drop k:=by
 have e1:(a.extract i j).toList=(a.toList.drop i).take (j - i):=by rw [Array.toList_extract,List.extract_eq_take_drop]
 have e2:(a.extract j k).toList=(a.toList.drop j).take (k - j):=by rw [Array.toList_extract,List.extract_eq_take_drop]
 rw [e1,e2]
 have c1:a.toList.take i++(a.toList.drop i).take (j - i)=a.toList.take j:=by
  rw [<-List.take_add,show i+(j - i)=j by lia]
 have c2:a.toList.take j++(a.toList.drop j).take (k - j)=a.toList.take k:=by
  rw [<-List.take_add,show j+(k - j)=k by lia]
 rw [c1,c2,List.take_append_drop]
set_option maxHeartbeats 2000000 in
theorem vP (hC:Cm prog w A s κ O rk S) {Q:Bool->SortSt->Prop}{p q:Nat} (hk:kindOf st=κ) (hf:failedOf st=none) (hp:pendingOf st=#[(0,n1,p),(n1,n2,q)]) (hS:∀ x ∈ (arrOf st).toList,S x) (hz:(arrOf st).size=n1+n2) (h1:0 < n1) (h2:0 < n2)
  (u1:Up rk (arrOf st) 0 n1) (u2:Up rk (arrOf st) n1 n2)
  (h:∀ st',(arrOf st').toList.Perm (arrOf st).toList->(arrOf st').toList.Pairwise (λx y=>O.kle (rk x) (rk y))->failedOf st'=none->pendingOf st'=#[(0,n1+n2,p)]->Q true st'):wpS (model prog w) A E s (xS 0) Q st:=by
 have hSi:∀ i,i < n1+n2->S (kyd (arrOf st) i):=λi hi=>by
  have hi':i < (arrOf st).size:=by lia
  refine hS _ ?_
  have e:=ba hi'
  rw [Array.getElem?_eq_getElem hi'] at e
  rw [<-Option.some.inj e];exact Array.getElem_mem_toList hi'
 refine wpS_bind (wpS_get ?_)
 have e1:(pendingOf st)[0]?=some (0,n1,p):=by rw [hp];rfl
 have e2:(pendingOf st)[0+1]?=some (n1,n2,q):=by rw [hp];rfl
 rw [e1,e2]
 refine wpS_bind ?_
 have hset:∀ (x:SortSt) (Q':PUnit->SortSt->Prop) (st0:SortSt),Q' ⟨⟩ x->wpS (model prog w) A E s (set x:StateT SortSt Sem PUnit) Q' st0:=λx Q' st0 hq=>by
  unfold wpS;exact wpAny_pure ⟨rfl,hq⟩
 refine hset _ _ _ ?_
 have e3:((pendingOf st).setIfInBounds 0 (0,n1+n2,p)).eraseIdxIfInBounds (0+1)=#[(0,n1+n2,p)]:=by
  rw [hp];apply Array.toList_inj.mp;simp [Array.eraseIdxIfInBounds]
 rw [e3]
 clear e1 e2 e3 hp
 delta arrOf kindOf failedOf gallopOf at *
 obtain⟨kd,arr,pn,gl,fl⟩:=st
 dsimp only at hk hf hS hz u1 u2 h hSi
 dsimp -zeta only
 have h:∀ st',(arrOf st').toList.Perm arr.toList->(arrOf st').toList.Pairwise (λx y=>O.kle (rk x) (rk y))->failedOf st'=none->pendingOf st'=#[(0,n1+n2,p)]->Q true st':=h
 have k2:kindOf (SortSt.mk' kd arr #[(0,n1+n2,p)] gl fl)=κ:=hk
 have a2:arrOf (SortSt.mk' kd arr #[(0,n1+n2,p)] gl fl)=arr:=rfl
 have f2:failedOf (SortSt.mk' kd arr #[(0,n1+n2,p)] gl fl)=none:=hf
 have p2:pendingOf (SortSt.mk' kd arr #[(0,n1+n2,p)] gl fl)=#[(0,n1+n2,p)]:=rfl
 have whole:O.kle (rk (kyd arr (n1 - 1))) (rk (kyd arr n1))->arr.toList.Pairwise λx y=>O.kle (rk x) (rk y):=λhm=>md λi j _ hij hj=>by
  by_cases c1:j < n1
  ·exact u1 i j (Nat.zero_le _) hij (by lia)
  ·by_cases c2:n1<=i
   ·exact u2 i j c2 hij (by lia)
   ·exact KeyOrd.kle_trans (KeyOrd.kle_trans (u1 i (n1 - 1) (Nat.zero_le _) (by lia) (by lia)) hm) (u2 n1 j (Nat.le_refl _) (by lia) (by lia))
 have ok:arr.toList.Pairwise (λx y=>O.kle (rk x) (rk y))->Q true (SortSt.mk' kd arr #[(0,n1+n2,p)] gl fl):=λhw=>h (SortSt.mk' kd arr #[(0,n1+n2,p)] gl fl) (by rw [a2]) (by rw [a2];exact hw) f2 p2
 refine wpS_bind (bz (ba (by lia)) (wpS_bind (d6 hC k2 (hSi _ (by lia)) (by lia) (λi hi=>hSi _ (by lia)) (by lia) (λi j hij hj hb=>?_) λk hk1 hk2 hk3=>?_)))
 ·simp only [bey,Bool.false_eq_true,if_false,Bool.not_eq_true'] at hb ⊢
  exact KeyOrd.kle_trans (O:=O) (u1 (0+i) (0+j) (Nat.zero_le _) (by lia) (by lia)) hb
 simp only [bey,Bool.false_eq_true,if_false,Bool.not_eq_true',Bool.not_eq_false',Nat.zero_add] at hk2 hk3
 dsimp only
 by_cases c1:n1 - k=0
 ·refine bw (by simpa using c1) ?_
  exact wpS_pure (ok (whole (hk2 (n1 - 1) (by lia))))
 refine aZ (by simpa using c1) ?_
 rw [show 0+k+(n1 - k) - 1=n1 - 1 by lia,Nat.zero_add]
 refine wpS_bind (bz (ba (by lia)) (wpS_bind (d6 hC k2 (hSi _ (by lia)) (by lia) (λi hi=>hSi _ (by lia)) (by lia) (λi j hij hj hb=>?_) λnb hb1 hb2 hb3=>?_)))
 ·simp only [bey,if_true] at hb ⊢
  exact KeyOrd.klt_of_kle_of_klt (O:=O) (u2 (n1+i) (n1+j) (by lia) (by lia) (by lia)) hb
 simp only [bey,if_true] at hb2 hb3
 dsimp only
 by_cases c2:nb=0
 ·refine bw (by simpa using c2) ?_
  exact wpS_pure (ok (whole (hb3 0 (by lia) (by lia))))
 refine aZ (by simpa using c2) ?_
 have sx:(arr.extract k n1).size=n1 - k:=by simp;lia
 have sy:(arr.extract n1 (n1+nb)).size=nb:=by simp;lia
 have T:Two O rk S (arr.extract k n1) (arr.extract n1 (n1+nb)):=by
  refine⟨λi hi=>?_,λi hi=>?_,nq (λi j a b c=>u1 i j (Nat.zero_le _) b (by lia)) (by lia),nq (λi j a b c=>u2 i j a b (by lia)) (by lia),by lia,by lia,?_,λi hi=>?_⟩
  ·rw [dY (by lia) (by lia)];exact hSi _ (by lia)
  ·rw [dY (by lia) (by lia)];exact hSi _ (by lia)
  ·rw [dY (by lia) (by lia),dY (by lia) (by lia)];exact hk3 _ (by lia) (by lia)
  ·rw [dY (by lia) (by lia),dY (by lia) (by lia),sx,show k+(n1 - k - 1)=n1 - 1 by lia];exact hb2 i (by lia)
 have fin:∀ (r:Array Keyed) st',Gs (SortSt.mk' kd arr #[(0,n1+n2,p)] gl fl) st'->r.toList=mrg O rk (arr.extract k n1).toList (arr.extract n1 (n1+nb)).toList->
   Q true (SortSt.mk' (kindOf st') ((r.toList.zipIdx).foldl (λ(a:Array Keyed) x=>match x with | (p,j)=>a.setIfInBounds (k+j) p) (arrOf st')) (pendingOf st') (gallopOf st') (failedOf st')):=by
  rintro r st' ⟨g,rfl⟩ hr
  have hl:r.toList.length=n1 - k+nb:=by rw [hr,(kJ _ _).length_eq,List.length_append,Array.length_toList,Array.length_toList,sx,sy]
  have e5:=qY k r.toList 0 arr (by lia)
  rw [Nat.add_zero,hl,show k+(n1 - k+nb)=n1+nb by lia,hr] at e5
  have e6:=x4 (a:=arr) (i:=k) (j:=n1) (k:=n1+nb) (by lia) (by lia) (by lia)
  refine h _ ?_ ?_ f2 p2
  ·show (List.foldl _ (arrOf (SortSt.mk' kd arr #[(0,n1+n2,p)] gl fl)) _).toList.Perm _
   rw [a2,hr,e5]
   conv=>rhs;rw [e6]
   exact ((kJ _ _).append_left _ |>.append_right _).trans (by rw [List.append_assoc,List.append_assoc,List.append_assoc,List.append_assoc])
  ·show (List.foldl _ (arrOf (SortSt.mk' kd arr #[(0,n1+n2,p)] gl fl)) _).toList.Pairwise _
   rw [a2,hr,e5]
   have m1:∀ x ∈ arr.toList.take k,∃ i,i < k/\x=kyd arr i:=λx hx=>by
    rw [<-gB] at hx
    obtain⟨i,_,hi,e⟩:=kh hx (by lia)
    exact⟨i,hi,e⟩
   have m2:∀ x ∈ arr.toList.drop (n1+nb),∃ i,n1+nb<=i/\i < arr.size/\x=kyd arr i:=λx hx=>by
    rw [<-eR] at hx
    obtain⟨i,h1,h2,e⟩:=kh hx (Nat.le_refl _)
    exact⟨i,h1,h2,e⟩
   have m3:∀ x ∈ mrg O rk (arr.extract k n1).toList (arr.extract n1 (n1+nb)).toList,∃ i,k<=i/\i < n1+nb/\x=kyd arr i:=λx hx=>by
    rcases List.mem_append.mp ((kJ _ _).mem_iff.mp hx) with hx | hx
    ·obtain⟨i,h1,h2,e⟩:=kh hx (by lia);exact⟨i,h1,by lia,e⟩
    ·obtain⟨i,h1,h2,e⟩:=kh hx (by lia);exact⟨i,by lia,h2,e⟩
   have lowHi:∀ i j,i < k->n1<=j->j < n1+n2->O.kle (rk (kyd arr i)) (rk (kyd arr j)):=λi j hi h3 h4=>KeyOrd.kle_trans (hk2 i hi) (u2 n1 j (Nat.le_refl _) h3 h4)
   have hiHi:∀ i j,i < n1->n1+nb<=j->j < n1+n2->O.kle (rk (kyd arr i)) (rk (kyd arr j)):=λi j hi h3 h4=>by
    have:=hb3 (j - n1) (by lia) (by lia)
    rw [show n1+(j - n1)=j by lia] at this
    exact KeyOrd.kle_trans (u1 i (n1 - 1) (Nat.zero_le _) (by lia) (by lia)) this
   refine List.pairwise_append.mpr ⟨List.pairwise_append.mpr ⟨?_,yi (md T.ua) (md T.ub),?_⟩,?_,?_⟩
   ·rw [<-gB]
    exact md (nq (λi j a b c=>u1 i j (Nat.zero_le _) b (by lia)) (by lia))
   ·intro x hx y hy
    obtain⟨i,hi,rfl⟩:=m1 x hx
    obtain⟨j,j1,j2,rfl⟩:=m3 y hy
    by_cases c:j < n1
    ·exact u1 i j (Nat.zero_le _) (by lia) (by lia)
    ·exact lowHi i j hi (by lia) (by lia)
   ·rw [<-eR]
    exact md (nq (λi j a b c=>u2 i j (by lia) b (by lia)) (Nat.le_refl _))
   ·intro x hx y hy
    obtain⟨j,j1,j2,rfl⟩:=m2 y hy
    have hx':∃ i,i < n1+nb/\x=kyd arr i:=by
     rcases List.mem_append.mp hx with hx | hx
     ·obtain⟨i,hi,e⟩:=m1 x hx;exact⟨i,by lia,e⟩
     ·obtain⟨i,_,hi,e⟩:=m3 x hx;exact⟨i,hi,e⟩
    obtain⟨i,hi,rfl⟩:=hx'
    by_cases c:i < n1
    ·exact hiHi i j c j1 (by lia)
    ·exact u2 i j (by lia) (by lia) (by lia)
 have isn:∀ st',Gs (SortSt.mk' kd arr #[(0,n1+n2,p)] gl fl) st'->failedOf st'=none:=by rintro st' ⟨g,rfl⟩;exact f2
 split
 ·refine wpS_bind (xj hC k2 T λr st' hG hr=>?_)
  refine wpS_bind (wpS_modify (wpS_bind (wpS_get (wpS_pure ?_))))
  have:=fin r st' hG hr
  have e:=isn st' hG
  have e':(failedOf st').isNone=true:=by rw [e];rfl
  rw [<-e'] at this
  exact this
 ·refine wpS_bind (xk hC k2 T λr st' hG hr=>?_)
  refine wpS_bind (wpS_modify (wpS_bind (wpS_get (wpS_pure ?_))))
  have:=fin r st' hG hr
  have e:=isn st' hG
  have e':(failedOf st').isNone=true:=by rw [e];rfl
  rw [<-e'] at this
  exact this
end
end L2
namespace L2
open PySem PySem.Spec PyProof.Rows
section
variable {prog:Program}{w:World}{A:Around}{E:Value->Shared->Prop}{s:Shared}{κ:SortKind}{O:KeyOrd}{rk:Keyed->O.α}{S:Keyed->Prop}{st:SortSt}{a0:Array Keyed}
structure yE (κ:SortKind) (O:KeyOrd) (rk:Keyed->O.α) (a0:Array Keyed) (n1:Nat) (st:SortSt):Prop where
 perm:(arrOf st).Perm a0
 kind:kindOf st=κ
 fail:failedOf st=none
 pend:pendingOf st=#[(0,n1,0)]
 up:Up rk (arrOf st) 0 n1
structure xf (κ:SortKind) (O:KeyOrd) (rk:Keyed->O.α) (a0:Array Keyed) (st:SortSt):Prop where
 perm:(arrOf st).Perm a0
 kind:kindOf st=κ
 fail:failedOf st=none
 ex:∃ n1 n2 p,0 < n1/\0 < n2/\n1+n2=a0.size/\pendingOf st=#[(0,n1,p),(n1,n2,0)]/\Up rk (arrOf st) 0 n1/\Up rk (arrOf st) n1 n2
theorem Aw {n:Nat} (h2:2<=n) (h64:n<=64):(n < 64/\minRun' n n 0=n)\/n=64/\minRun' n n 0=32:=by
 by_cases h:n=64
 ·subst h;exact .inr ⟨rfl,rfl⟩
 ·obtain⟨f,rfl⟩:∃ f,n=f+1:=⟨n - 1,by lia⟩
  exact .inl ⟨by lia,by rw [minRun'_succ,if_pos (by lia)]⟩
set_option maxHeartbeats 2000000 in
theorem vN (hC:Cm prog w A s κ O rk S) {Q:Unit->SortSt->Prop} (hk:kindOf st=κ) (hf:failedOf st=none) (hp:pendingOf st=#[]) (ha:arrOf st=a0) (hS:∀ x ∈ a0.toList,S x) (h2:2<=a0.size) (h64:a0.size<=64)
  (h:∀ st',(arrOf st').toList.Perm a0.toList->(arrOf st').toList.Pairwise (λx y=>O.kle (rk x) (rk y))->failedOf st'=none->Q () st'):wpS (model prog w) A E s sortRuns' Q st:=by
 obtain⟨mr,hm0,hmr⟩:∃ mr,(sortPriv% PySem.Builtin.minRun) a0.size a0.size 0=mr/\((a0.size < 64/\mr=a0.size)\/a0.size=64/\mr=32):=⟨_,rfl,Aw h2 h64⟩
 refine wpS_bind (wpS_get ?_)
 have hz:(arrOf st).size=a0.size:=by rw [ha]
 dsimp only
 rw [hz,hm0]
 refine wpS_bind (wpS_mono (wpS_forRange (I:=λx c st'=>(x=0/\c=(none,0)/\SB κ a0 0 #[] (gallopOf st) st')\/(∃ n1,c=(none,n1)/\yE κ O rk a0 n1 st'/\1<=x/\(n1=a0.size\/x=1/\32<=n1/\n1 < 64/\a0.size=64))\/(c=(none,a0.size)/\xf κ O rk a0 st'/\1<=x))
  (Q:=λc st'=>c.1=none/\(yE κ O rk a0 a0.size st'\/xf κ O rk a0 st')) ?_ ?_ ?_) ?_)
 ·rintro x c st' _ hx H
  rcases H with⟨rfl,rfl,hB⟩ | ⟨n1,rfl,hR,hx1,hor⟩ | ⟨rfl,hR,hx1⟩
  ·dsimp only
   refine aZ (by lia) ?_
   refine wpS_bind (qT hC hS hB (by lia) (by lia) λm st2 hB2 m1 m2 u=>?_)
   have put:∀ n st3,SB κ a0 0 #[] (gallopOf st) st3->Up rk (arrOf st3) 0 n->mr<=n->n<=a0.size->
     yE κ O rk a0 n (SortSt.mk' (kindOf st3) (arrOf st3) ((pendingOf st3).push (0,n,0)) (gallopOf st3) (failedOf st3))/\(n=a0.size\/0+1=1/\32<=n/\n < 64/\a0.size=64):=λn st3 hB3 u3 h1 h2=>
    ⟨⟨hB3.perm,hB3.kind,hB3.fail,by show (pendingOf st3).push _=_;rw [hB3.pend];rfl,u3⟩,by lia⟩
   dsimp only
   by_cases hlt:m < mr
   ·refine bw hlt ?_
    refine wpS_bind (fU (wpS_bind (ox hC hS hB2 m1 (by lia) (by lia) u λst3 hB3 u3=>?_)))
    refine aZ (by simp) ?_
    have hP:=put _ st3 hB3 u3 (by lia) (by lia)
    refine wpS_bind (wpS_get ?_)
    have hb:(pendingOf st3).back?=none:=by rw [hB3.pend];rfl
    rw [hb]
    exact wpS_bind (wpS_modify (wpS_pure (.inr (.inl ⟨_,by rw [Nat.zero_add],hP.1,by lia,hP.2⟩))))
   ·refine aZ hlt ?_
    have hP:=put m st2 hB2 u (by lia) (by lia)
    refine wpS_bind (wpS_get ?_)
    have hb:(pendingOf st2).back?=none:=by rw [hB2.pend];rfl
    rw [hb]
    exact wpS_bind (wpS_modify (wpS_pure (.inr (.inl ⟨_,by rw [Nat.zero_add],hP.1,by lia,hP.2⟩))))
  ·dsimp only
   by_cases hge:n1>=a0.size
   ·refine bw hge ?_
    have e:n1=a0.size:=by lia
    subst e
    exact wpS_pure ⟨rfl,.inl hR⟩
   refine aZ hge ?_
   have hsz:(arrOf st').size=a0.size:=hR.perm.size_eq
   have hS':∀ x ∈ (arrOf st').toList,S x:=λx hx=>hS x ((Array.perm_iff_toList_perm.mp hR.perm).mem_iff.mp hx)
   have hB:SB κ (arrOf st') n1 #[(0,n1,0)] (gallopOf st') st':=⟨Array.Perm.refl _,λ_ _=>rfl,hR.kind,hR.fail,hR.pend,rfl⟩
   have hn:32<=n1/\n1 < 64/\a0.size=64/\mr=32:=by lia
   refine wpS_bind (qT hC hS' hB (by lia) (by lia) λm st2 hB2 m1 m2 u=>?_)
   have put:∀ n pw st3,n=a0.size - n1->SB κ (arrOf st') n1 #[(0,n1,0)] (gallopOf st') st3->Up rk (arrOf st3) n1 n->
     xf κ O rk a0 (SortSt.mk' (kindOf st3) (arrOf st3) (((pendingOf st3).modify ((pendingOf st3).size - 1) λx=>(x.1,x.2.1,pw)).push (n1,n,0)) (gallopOf st3) (failedOf st3)):=λn pw st3 hn3 hB3 u3=>
    ⟨hB3.perm.trans hR.perm,hB3.kind,hB3.fail,n1,n,pw,by lia,by lia,by lia,by show (Array.modify (pendingOf st3) _ _).push _=_;rw [hB3.pend];simp,λi j a b c=>by
     show O.kle (rk (kyd (arrOf st3) i)) (rk (kyd (arrOf st3) j))
     rw [cW (hB3.pre i (by lia)),cW (hB3.pre j (by lia))]
     exact hR.up i j a b c,u3⟩
   have inner:∀ st3,SB κ (arrOf st') n1 #[(0,n1,0)] (gallopOf st') st3->∀ (f:Nat->Option Unit×Unit->StateT SortSt Sem (ForInStep (Option Unit×Unit))) (Q':Option Unit×Unit->SortSt->Prop),
     (∀ x,∀ Q'':ForInStep (Option Unit×Unit)->SortSt->Prop,Q'' (.done (none,())) st3->wpS (model prog w) A E s (f x (none,())) Q'' st3)->Q' (none,()) st3->wpS (model prog w) A E s (forIn [0:a0.size] (none,()) f) Q' st3:=λst3 hB3 f Q' hf hq=>
    wpS_forRange (I:=λ_ c st4=>c=(none,())/\st4=st3) (λi c st4 _ _ hI=>by
     obtain⟨rfl,rfl⟩:=hI
     exact hf i _ hq) (λc st4 hI=>by obtain⟨rfl,rfl⟩:=hI;exact hq) ⟨rfl,rfl⟩
   dsimp only
   by_cases hlt:m < mr
   case' pos=>
    refine bw hlt ?_
    refine wpS_bind (fU (wpS_bind (ox hC hS' hB2 m1 (by lia) (by lia) u λst3 hB3 u3=>?_)))
    refine aZ (by simp) ?_
    have e9:min (a0.size - n1) mr=a0.size - n1:=by lia
    rw [e9] at u3 ⊢
   case' neg=>
    refine aZ hlt ?_
    have e9:m=a0.size - n1:=by lia
    subst e9
    have hB3:=hB2
    have u3:=u
    revert hB3 u3
    clear u hB2
    generalize st2=st3
    intro hB3 u3
   all_goals
    refine wpS_bind (wpS_get ?_)
    have hb:(pendingOf st3).back?=some (0,n1,0):=by rw [hB3.pend];rfl
    rw [hb]
    refine wpS_bind (inner st3 hB3 _ _ (λx Q'' hq=>?_) ?_)
    ·refine wpS_bind (wpS_get ?_)
     have hb2:(if (pendingOf st3).size > 1 then (pendingOf st3)[(pendingOf st3).size - 2]? else none)=none:=by rw [hB3.pend];rfl
     rw [hb2]
     exact wpS_pure hq
    ·refine wpS_bind (wpS_modify (wpS_bind (wpS_modify (wpS_pure (.inr (.inr ⟨?_,put _ _ st3 rfl hB3 u3,by lia⟩))))))
     rw [show n1+(a0.size - n1)=a0.size by lia]
  ·dsimp only
   refine bw (Nat.le_refl _) ?_
   exact wpS_pure ⟨rfl,.inr hR⟩
 ·rintro c st' (⟨hx,_⟩ | ⟨n1,rfl,hR,hx1,hor⟩ | ⟨rfl,hR,hx1⟩)
  ·lia
  ·have e:n1=a0.size:=by lia
   subst e
   exact⟨rfl,.inl hR⟩
  ·exact⟨rfl,.inr hR⟩
 ·exact .inl ⟨rfl,rfl,by rw [ha],λ_ _=>by rw [ha],hk,hf,hp,rfl⟩
 ·rintro⟨c1,c2⟩ st' ⟨rfl,hR⟩
  dsimp only
  refine wpS_bind (wpS_mono (wpS_forRange (I:=λy c st2=>c=(none,())/\((y=0/\xf κ O rk a0 st2)\/((pendingOf st2).size=1/\(arrOf st2).toList.Perm a0.toList/\(arrOf st2).toList.Pairwise (λx y=>O.kle (rk x) (rk y))/\failedOf st2=none)))
   (Q:=λc st2=>c=(none,())/\(arrOf st2).toList.Perm a0.toList/\(arrOf st2).toList.Pairwise (λx y=>O.kle (rk x) (rk y))/\failedOf st2=none) ?_ ?_ ?_) ?_)
  ·rintro y c st2 _ hy ⟨rfl,⟨rfl,hR2⟩ | ⟨h1,h2',h3,h4⟩⟩
   ·refine wpS_bind (wpS_get ?_)
    obtain⟨n1,n2,p,z1,z2,z3,z4,u1,u2⟩:=hR2.ex
    have hsz:(arrOf st2).size=a0.size:=hR2.perm.size_eq
    have z5:(sortPriv% PySem.Builtin.SortState.pending) st2=#[(0,n1,p),(n1,n2,0)]:=z4
    rw [z5]
    refine wpS_bind (m:=xS 0) (vP hC hR2.kind hR2.fail z4 (λx hx=>hS x ((Array.perm_iff_toList_perm.mp hR2.perm).mem_iff.mp hx)) (by lia) z1 z2 u1 u2 λst3 a1 a2 a3 a4=>?_)
    refine aZ (by simp) ?_
    exact wpS_pure ⟨rfl,.inr ⟨by rw [a4];rfl,a1.trans (Array.perm_iff_toList_perm.mp hR2.perm),a2,a3⟩⟩
   ·refine wpS_bind (wpS_get ?_)
    have h1':(pendingOf st2).size<=1:=by lia
    refine bw h1' ?_
    exact wpS_pure ⟨rfl,h2',h3,h4⟩
  ·rintro c st2 ⟨rfl,⟨hy,_⟩ | ⟨h1,h2',h3,h4⟩⟩
   ·lia
   ·exact⟨rfl,h2',h3,h4⟩
  ·refine⟨rfl,?_⟩
   rcases hR with hR | hR
   ·have hsz:(arrOf st').size=a0.size:=hR.perm.size_eq
    exact .inr ⟨by rw [hR.pend];rfl,Array.perm_iff_toList_perm.mp hR.perm,md (by rw [hsz];exact hR.up),hR.fail⟩
   ·exact .inl ⟨rfl,hR⟩
  ·rintro c st2 ⟨rfl,h2',h3,h4⟩
   exact wpS_pure (h st2 h2' h3 h4)
end
end L2
namespace L2
open PySem PySem.Spec PyProof.Rows PySem.SeqAt
open MeetsSeq MeetsSeq2 MeetsSeq3 SeqRoads2
open AutoSeq1 (wpAny_loadPart')
noncomputable def lQ (A:Around) (s:Shared) (y x:Value) (b:Bool):Prop:=∀ (prog:Program) (w:World) (E:Value->Shared->Prop) (Q:Value->Shared->Prop),Q (.bool b) s->wpAny (model prog w) A (richCompare .Lt y x) Q E s
noncomputable def lE (e l:Nat->Bool) (fin:Bool):Nat->Nat->Bool
 | 0,_=>fin
 | k+1,i=>if e i=true then lE e l fin k (i+1) else l i
theorem kA (p q:Addr) (us vs:Array Value) (n n2:Nat) (dd dd2:Option Addr) (sl sl2:Array (Option Value)) (e l:Nat->Bool) :
  Meets (Builtin.«tuple.__lt__» ⟨[.ref p,.ref q],[]⟩)
   (λA R s=>(s.heap.get? p=some ⟨.type "tuple",dd,.seq us n,sl⟩/\s.heap.get? q=some ⟨.type "tuple",dd2,.seq vs n2,sl2⟩)/\
     (∀ j (h1:j < us.size) (h2:j < vs.size),EqAt A.in1 s us[j] vs[j] (e j)/\(e j=false->lQ A.in1 s us[j] vs[j] (l j)))/\
     R (.ok (.ret (.bool (lE e l (decide (us.size < vs.size)) (min us.size vs.size) 0)))) s):=
 .of_wp λprog w A R s h=>by
  obtain⟨hp,g,d,tk,os⟩:=s
  obtain⟨⟨h1,h2⟩,he,h⟩:=h
  have f2:=AutoSeq1.sub_tuple_tuple
  have hZ:(us.toList.zip vs.toList).length=min us.size vs.size:=by simp
  wp_walk using wpAny_loadPart' h1,wpAny_loadPart' h2,wpAny_forIn_list _ (λrest b s'=>b.1=none/\s'=⟨hp,g,d,tk,os⟩/\∃ i,i<=min us.size vs.size/\rest=(us.toList.zip vs.toList).drop i/\
   R (.ok (.ret (.bool (lE e l (decide (us.size < vs.size)) (min us.size vs.size - i) i)))) ⟨hp,g,d,tk,os⟩) _
  case turn=>
   rintro⟨y,x⟩ rest b s' ⟨hb',rfl,i,hi,hz,hR⟩
   have hlt:i < (us.toList.zip vs.toList).length:=by
    rcases Nat.lt_or_ge i (us.toList.zip vs.toList).length with h' | h'
    ·exact h'
    ·rw [List.drop_of_length_le h'] at hz;cases hz
   rw [hZ] at hlt
   have g1:i < us.size:=by lia
   have g2:i < vs.size:=by lia
   rw [List.drop_eq_getElem_cons (by rw [hZ];exact hlt)] at hz
   injection hz with hyx hrest
   have hy:y=us[i]:=by have:=congrArg Prod.fst hyx;simpa using this
   have hx:x=vs[i]:=by have:=congrArg Prod.snd hyx;simpa using this
   subst hy hx
   obtain⟨k,hk⟩:∃ k,min us.size vs.size - i=k+1:=⟨min us.size vs.size - i - 1,by lia⟩
   rw [hk] at hR
   have hR':R (.ok (.ret (.bool (if e i=true then lE e l (decide (us.size < vs.size)) k (i+1) else l i)))) ⟨hp,g,d,tk,os⟩:=hR
   refine wpAny_bind ((he i g1 g2).1 prog w _ _ ?_)
   cases hy:e i with
   | true=>
    rw [hy,if_pos rfl] at hR'
    wp_walk
    exact⟨rfl,rfl,i+1,by lia,hrest,by rw [show min us.size vs.size - (i+1)=k by lia];exact hR'⟩
   | false=>
    rw [hy,if_neg (by simp)] at hR'
    simp only [Bool.not_false,if_true]
    refine wpAny_bind (wpAny_rule ?_)
    refine wpAny_bind ((he i g1 g2).2 hy prog w _ _ ?_)
    wp_walk
    exact⟨_,rfl,hR'⟩
  case fin=>
   rintro⟨b1,b2⟩ s' ⟨hb',rfl,i,hi,hz,hR⟩
   simp only at hb'
   subst hb'
   have hge:min us.size vs.size<=i:=by
    rcases Nat.lt_or_ge i (us.toList.zip vs.toList).length with h' | h'
    ·rw [List.drop_eq_getElem_cons h'] at hz;cases hz
    ·rw [hZ] at h';exact h'
   rw [show min us.size vs.size - i=0 by lia] at hR
   wp_walk
   exact⟨_,rfl,by simpa [Builtin.Tuple.tupleCompareSizes,lE] using hR⟩
  case h=>exact⟨rfl,rfl,0,Nat.zero_le _,rfl,h⟩
section
variable {A:Around}{s:Shared}{p q:Addr}{us vs:Array Value}{e l:Nat->Bool}
theorem lQ.tuples (hl:s.heap.IsTuple p us) (hb:s.heap.IsTuple q vs) (hu:A.units < cLine) (he:∀ j (h1:j < us.size) (h2:j < vs.size),EqAt A.in1 s us[j] vs[j] (e j)/\(e j=false->lQ A.in1 s us[j] vs[j] (l j))) :
  lQ A s (.ref p) (.ref q) (lE e l (decide (us.size < vs.size)) (min us.size vs.size) 0):=λprog w E Q h=>by
 obtain⟨⟨cls,dd,data,sl⟩,ho,hc,n,hd⟩:=id hl
 obtain⟨⟨cls2,dd2,data2,sl2⟩,ho2,hc2,n2,hd2⟩:=id hb
 simp only at hc hd hc2 hd2
 subst hc hd hc2 hd2
 exact richCompare_meets_room (op:=.Lt) ⟨_,ho,rfl⟩ ⟨_,ho2,rfl⟩ PySem.F.slot_tuple_lt PySem.F.entry_tuple_lt (PySem.F.args_tuple_lt_2 _ _) (kA p q us vs n n2 dd dd2 sl sl2 e l)
  ⟨⟨ho,ho2⟩,he,(λx=>nomatch x),h⟩ hu
end
end L2
namespace L2
open PySem PySem.Spec PyProof.Rows PySem.SeqAt PySem.W
noncomputable def cm:List Int->List Int->Bool
 | [],[]=>false
 | [],_::_=>true
 | _::_,[]=>false
 | a::as,b::bs=>if a=b then cm as bs else decide (a < b)
theorem oy:∀ a,cm a a=false
 | []=>rfl
 | a::as=>by unfold cm;rw [if_pos rfl];exact oy as
theorem iW:∀ a b,cm a b=false->cm b a=false->a=b
 | [],[],_,_=>rfl
 | [],_::_,h,_=>by cases h
 | _::_,[],_,h=>by cases h
 | a::as,b::bs,h,h'=>by
  unfold cm at h h'
  by_cases e:a=b
  ·subst e
   rw [if_pos rfl] at h h'
   rw [iW as bs h h']
  ·rw [if_neg e] at h
   rw [if_neg (Ne.symm e)] at h'
   rw [decide_eq_false_iff_not] at h h'
   lia
theorem mZ:∀ a b c,cm a b=true->cm b c=true->cm a c=true
 | [],[],_,h,_=>by cases h
 | [],_::_,[],_,h=>by cases h
 | [],_::_,_::_,_,_=>rfl
 | _::_,[],_,h,_=>by cases h
 | _::_,_::_,[],_,h=>by cases h
 | a::as,b::bs,c::cs,h,h'=>by
  unfold cm at h h' ⊢
  by_cases e:a=b
  ·subst e
   rw [if_pos rfl] at h
   by_cases e2:a=c
   ·subst e2;rw [if_pos rfl] at h' ⊢;exact mZ as bs cs h h'
   ·rw [if_neg e2] at h' ⊢;exact h'
  ·rw [if_neg e,decide_eq_true_iff] at h
   by_cases e2:b=c
   ·subst e2;rw [if_neg e,decide_eq_true_iff];exact h
   ·rw [if_neg e2,decide_eq_true_iff] at h'
    rw [if_neg (by lia),decide_eq_true_iff];lia
theorem uW:∀ a b c,cm a c=true->cm a b=true\/cm b c=true
 | a,b,c,h=>by
  by_cases h1:cm a b=true
  ·exact .inl h1
  ·rw [Bool.not_eq_true] at h1
   by_cases h2:cm b a=true
   ·exact .inr (mZ b a c h2 h)
   ·rw [Bool.not_eq_true] at h2
    rw [iW a b h1 h2] at h;exact .inr h
noncomputable def OI:KeyOrd:=⟨List Int,cm,oy,mZ,uW,iW⟩
noncomputable def TuI (h:Heap) (v:Value) (l:List Int):Prop:=∃ a its,v=.ref a/\h.IsTuple a its/\IntsAre its.toList l
noncomputable def cf:Value->Int
 | .int n _=>n
 | _=>0
noncomputable def tuI (h:Heap):Value->List Int
 | .ref a=>match h.get? a with
  | some o=>match o.data with
   | .seq its _=>its.toList.map cf
   | _=>[]
  | none=>[]
 | _=>[]
theorem kI:∀ {us:List Value}{l:List Int},IntsAre us l->us.map cf=l
 | _,_,.nil=>rfl
 | _,_,.cons n t h=>by rw [List.map_cons,kI h];rfl
theorem dk:∀ {us:List Value}{l:List Int},IntsAre us l->us.length=l.length
 | _,_,.nil=>rfl
 | _,_,.cons n t h=>by rw [List.length_cons,List.length_cons,dk h]
theorem fN:∀ {us:List Value}{l:List Int},IntsAre us l->∀ (j:Nat) (h:j < us.length),∃ t,us[j]=.int (l.getD j 0) t
 | _,_,.nil,j,h=>absurd h (Nat.not_lt_zero j)
 | _,_,.cons n t hh,0,h=>⟨t,rfl⟩
 | _,_,.cons n t hh,j+1,h=>by
  obtain⟨t',e⟩:=fN hh j (Nat.lt_of_succ_lt_succ h)
  exact⟨t',by simpa using e⟩
theorem TuI.is {h:Heap}{v:Value}{l:List Int} (t:TuI h v l):tuI h v=l:=by
 obtain⟨a,its,rfl,⟨o,ho,hc,n,hd⟩,hi⟩:=t
 simp only [tuI,ho,hd]
 exact kI hi
theorem TuI.fit {h h':Heap}{v:Value}{l:List Int} (t:TuI h v l) (hk:∀ b o,h.get? b=some o->h'.get? b=some o):TuI h' v l:=by
 obtain⟨a,its,rfl,⟨o,ho,r⟩,hi⟩:=t
 exact⟨a,its,rfl,⟨o,hk _ _ ho,r⟩,hi⟩
theorem kO:∀ (l m:List Int) (i:Nat) (e f:Nat->Bool),(∀ j,j < l.length->j < m.length->e (i+j)=decide (l.getD j 0=m.getD j 0)/\f (i+j)=decide (l.getD j 0 < m.getD j 0))->
  lE e f (decide (l.length < m.length)) (min l.length m.length) i=cm l m
 | [],[],i,e,f,_=>by simp [lE,cm]
 | [],b::m,i,e,f,_=>by simp [lE,cm]
 | a::l,[],i,e,f,_=>by simp [lE,cm]
 | a::l,b::m,i,e,f,h=>by
  have h0:=h 0 (by simp) (by simp)
  rw [List.length_cons,List.length_cons,show min (l.length+1) (m.length+1)=min l.length m.length+1 by lia]
  have e1:decide (l.length+1 < m.length+1)=decide (l.length < m.length):=by rw [Bool.eq_iff_iff];simp
  rw [e1]
  show (if e i=true then lE e f (decide (l.length < m.length)) (min l.length m.length) (i+1) else f i)=if a=b then cm l m else decide (a < b)
  rw [Nat.add_zero] at h0
  rw [h0.1,h0.2]
  by_cases q:a=b
  ·subst q
   simp only [List.getD_cons_zero,decide_true,if_true]
   exact kO l m (i+1) e f λj h1 h2=>by
    have:=h (j+1) (by simpa using h1) (by simpa using h2)
    rw [show i+1+j=i+(j+1) by lia]
    simpa using this
  ·simp [q]
section
variable {prog:Program}{w:World}{A:Around}{E:Value->Shared->Prop}{s:Shared}{x y:Value}{l m:List Int}
theorem lQ.ints {a b:Int}{t u:Tok}:lQ A s (.int a t) (.int b u) (decide (a < b)):=λprog w E Q h=>PyProof.Rows.lt_int h
theorem EqAt.ints {a b:Int}{t u:Tok}:EqAt A s (.int a t) (.int b u) (decide (a=b)):=by
 have:=ui (A:=A) (s:=s) (y:=.int a) (x:=.int b) (u:=.int a t) (v:=.int b u) ⟨t,rfl⟩ ⟨u,rfl⟩ rfl rfl
 have e:eqV (.int a) (.int b)=decide (a=b):=by simp [eqV,Bool.beq_eq_decide_eq]
 rw [e] at this;exact this
theorem TuI.lt (tx:TuI s.heap x l) (ty:TuI s.heap y m) (hu:A.units < cLine):lQ A s x y (cm l m):=by
 obtain⟨a,us,rfl,h1,i1⟩:=tx
 obtain⟨b,vs,rfl,h2,i2⟩:=ty
 have e1:us.size=l.length:=by rw [<-Array.length_toList];exact dk i1
 have e2:vs.size=m.length:=by rw [<-Array.length_toList];exact dk i2
 have z:=lQ.tuples (A:=A) (e:=λj=>decide (l.getD j 0=m.getD j 0)) (l:=λj=>decide (l.getD j 0 < m.getD j 0)) h1 h2 hu λj g1 g2=>by
  obtain⟨t,q1⟩:=fN i1 j (by simpa using g1)
  obtain⟨t',q2⟩:=fN i2 j (by simpa using g2)
  rw [Array.getElem_toList] at q1 q2
  rw [q1,q2]
  exact⟨EqAt.ints,λ_=>lQ.ints⟩
 rw [e1,e2,kO l m 0 _ _ λj h1 h2=>by rw [Nat.zero_add];exact⟨rfl,rfl⟩] at z
 exact z
theorem TuI.one (tx:TuI s.heap x l) (ty:TuI s.heap y m) (hu:A.units < cLine) {Q:Bool->Shared->Prop} (h:Q (cm l m) s) (b:Bool):wpAny (model prog w) A (oneLt' b x y) Q E s:=by
 cases b with
 | false=>exact kat_one _ _ (tx.lt ty hu _ _ _ _ h)
 | true=>
  rw [oneLt'_eq]
  simp only [if_true]
  refine wpAny_bind (wpAny_cRoomFor hu ?_)
  obtain⟨a,us,rfl,h1,i1⟩:=id tx
  obtain⟨c,vs,rfl,h2,i2⟩:=id ty
  obtain⟨⟨cls,dd,data,sl⟩,ho,hc,n,hd⟩:=id h1
  obtain⟨⟨cls2,dd2,data2,sl2⟩,ho2,hc2,n2,hd2⟩:=id h2
  simp only at hc hd hc2 hd2
  subst hc hd hc2 hd2
  have e1:us.size=l.length:=by rw [<-Array.length_toList];exact dk i1
  have e2:vs.size=m.length:=by rw [<-Array.length_toList];exact dk i2
  refine wpAny_bind (wpAny_callSpecialIfBound?_slot (T:="tuple") ⟨_,ho,rfl⟩ PySem.F.slot_tuple_lt (call_meets PySem.F.slot_tuple_lt ⟨_,ho,rfl⟩ PySem.F.entry_tuple_lt (PySem.F.args_tuple_lt_2 _ _)
   (kA a c us vs n n2 dd dd2 sl sl2 (λj=>decide (l.getD j 0=m.getD j 0)) λj=>decide (l.getD j 0 < m.getD j 0)) ⟨⟨ho,ho2⟩,λj g1 g2=>?_,?_⟩))
  ·obtain⟨t,q1⟩:=fN i1 j (by simpa using g1)
   obtain⟨t',q2⟩:=fN i2 j (by simpa using g2)
   rw [Array.getElem_toList] at q1 q2
   rw [q1,q2]
   exact⟨EqAt.ints,λ_=>lQ.ints⟩
  ·rw [e1,e2,kO l m 0 _ _ λj h1 h2=>by rw [Nat.zero_add];exact⟨rfl,rfl⟩]
   exact wpAny_truthy_bool h
theorem uq {Q:Bool->Shared->Prop}{fin:Bool}:∀ {us vs:List Value}{l m:List Int} (i:Nat),IntsAre us l->IntsAre vs m->(fin=decide (l.length < m.length))->Q (cm l m) s->KatLex prog w A true fin Q (us.zip vs) i s
 | _,_,_,_,i,.nil,.nil,hf,h=>kat_nil (by rw [hf];exact h)
 | _,_,_,_,i,.nil,.cons n t r,hf,h=>kat_nil (by rw [hf];simpa [cm] using h)
 | _,_,_,_,i,.cons n t r,.nil,hf,h=>kat_nil (by rw [hf];simpa [cm] using h)
 | _,_,_,_,i,.cons (vs:=us) (ns:=l) a t r,.cons (vs:=vs) (ns:=m) b u r',hf,h=>by
  rw [List.zip_cons_cons]
  refine kat_cons (EqAt.ints prog w _ _ ?_)
  unfold cm at h
  by_cases e:a=b
  ·subst e
   rw [if_pos rfl] at h
   rw [decide_eq_true rfl]
   exact kat_yes (uq (i+1) r r' (by rw [hf,Bool.eq_iff_iff];simp) h)
  ·rw [if_neg e] at h
   rw [decide_eq_false e]
   refine kat_no ?_
   cases (true && i==0) with
   | true=>exact oneLt_int h
   | false=>exact kat_one _ _ (PyProof.Rows.lt_int h)
theorem TuI.tups (tx:TuI s.heap x l) (ty:TuI s.heap y m) {Q:Bool->Shared->Prop} (h:Q (cm l m) s):wpAny (model prog w) A (keyLt' (tuples' true) x y) Q E s:=by
 obtain⟨a,us,rfl,⟨o,ho,hc,n,hd⟩,i1⟩:=tx
 obtain⟨c,vs,rfl,⟨o2,ho2,hc2,n2,hd2⟩,i2⟩:=ty
 have e1:us.size=l.length:=by rw [<-Array.length_toList];exact dk i1
 have e2:vs.size=m.length:=by rw [<-Array.length_toList];exact dk i2
 exact kat_lt ho hd ho2 hd2 (uq 0 i1 i2 (by rw [e1,e2]) h)
end
end L2
namespace L2
open PySem PySem.Spec PyProof.Rows PySem.SeqAt PySem.W
section
variable {prog:Program}{w:World}{A:Around}{E:Value->Shared->Prop}{s:Shared}{O:KeyOrd}{rk:Keyed->O.α}{S:Keyed->Prop}{vs:List Value}
theorem pH:∀ (vs:List Value),vs.zip vs=vs.map λv=>(v,v)
 | []=>rfl
 | v::vs=>by rw [List.zip_cons_cons,pH vs];rfl
theorem zy {α β:Type}{f:α->β}{R:β->β->Prop}:∀ {vs:List α},vs.toArray.size < 2->(vs.map f).Pairwise R
 | [],_=>List.Pairwise.nil
 | [v],_=>List.pairwise_singleton _ _
 | _::_::_,h=>absurd h (by simp)
set_option maxHeartbeats 1000000 in
theorem su {a:Addr}{n:Nat}{P:PySem.Fin->Shared->Prop} (ho:s.heap.get? a=some (seqObj "list" vs.toArray n)) (h64:vs.length<=64)
  (hyp:∀ h',(∀ b o,b≠a->s.heap.get? b=some o->h'.get? b=some o)->∃ κ,(2<=vs.length->∀ (Q':SortKind->Shared->Prop) E',Q' κ { s with heap:=h' }->wpAny (model prog w) A (keyKind' vs.toArray) Q' E' { s with heap:=h' })/\Cm prog w A { s with heap:=h' } κ O rk S)
  (hS:∀ v ∈ vs,S (v,v))
  (h:∀ out:List Value,out.Perm vs->out.Pairwise (λx y=>O.kle (rk (x,x)) (rk (y,y)))->P (.done (.ret .none)) { s with heap:=sortedHeap s.heap a vs out.toArray }) :
  wpAny (model prog w) A (Builtin.«list.sort» ⟨[.ref a],[]⟩) P E s:=by
 rw [list_sort_plain]
 have hlt:a < s.heap.objs.size:=Heap.lt_size ho
 have hsz:vs.toArray.size=vs.length:=by simp
 refine wpAny_bind (listItems_at ho rfl ?_)
 refine wpAny_bind (listUpdate_at ho rfl ?_ (by rw [hsz,sizeLine_eq];lia))
 obtain⟨e1,ho1⟩:∃ e1,(s.heap.update a (Obj.mapSeq λ_=>#[])).get? a=some (seqObj "list" #[] e1):=⟨_,get?_update_seq ho (λ_=>#[])⟩
 refine wpAny_bind (seqEpoch_at ho1 rfl ?_)
 refine wpAny_bind (wpAny_newTuple ?_ (by rw [sizeLine_eq];show vs.toArray.toList.length<=_;simp;lia))
 refine wpAny_bind (wpAny_newList ?_)
 refine wpAny_holding ?_
 have z1:(s.heap.update a (Obj.mapSeq λ_=>(#[]:Array Value))).objs.size=s.heap.objs.size:=Heap.size_update ..
 have keepN:∀ b o,b < s.heap.objs.size->(s.heap.update a (Obj.mapSeq λ_=>(#[]:Array Value))).get? b=some o->
   (((s.heap.update a (Obj.mapSeq λ_=>#[])).push (seqObj "tuple" vs.toArray 0)).push (seqObj "list" #[] 0)).get? b=some o:=λb o hb q=>by
  rw [Heap.get?_push_ne _ _ _ (Nat.ne_of_lt (by rw [size_push',z1];exact Nat.lt_succ_of_lt hb)),Heap.get?_push_ne _ _ _ (Nat.ne_of_lt (by rw [z1];exact hb))]
  exact q
 have ho6:=keepN a _ hlt ho1
 obtain⟨κ,hkk,hC⟩:=hyp (((s.heap.update a (Obj.mapSeq λ_=>#[])).push (seqObj "tuple" vs.toArray 0)).push (seqObj "list" #[] 0)) λb o hb q=>
  keepN b o (Heap.lt_size q) (by rw [Heap.get?_update_ne _ _ _ _ hb];exact q)
 show wpAny (model prog w) A _ P E { s with heap:=((s.heap.update a (Obj.mapSeq λ_=>#[])).push (seqObj "tuple" vs.toArray 0)).push (seqObj "list" #[] 0) }
 have pt:(vs.toArray.zip vs.toArray).toList=vs.map λv=>(v,v):=by rw [<-pH];simp
 have fin:∀ st':SortSt,(arrOf st').toList.Perm (vs.map λv=>(v,v))->(arrOf st').toList.Pairwise (λx y=>O.kle (rk x) (rk y))->∃ out:List Value,out.length=vs.length/\(arrOf st').map (·.2)=out.toArray/\P (.done (.ret .none)) { s with heap:=sortedHeap s.heap a vs out.toArray }:=λst' h1 h2=>by
  refine⟨(arrOf st').toList.map (·.2),by rw [List.length_map,h1.length_eq,List.length_map],by apply Array.toList_inj.mp;simp,h _ ?_ ?_⟩
  ·have:=h1.map (·.2)
   rw [List.map_map] at this
   have e:(vs.map ((λx=>x.2) ∘ λv=>((v,v):Keyed)))=vs:=by rw [show ((λx:Keyed=>x.2) ∘ λv=>((v,v):Keyed))=id from rfl,List.map_id]
   rw [e] at this;exact this
  ·rw [List.pairwise_map]
   refine h2.imp_of_mem λ{x y} hx hy q=>?_
   have dx:x=(x.2,x.2):=by obtain⟨v,_,rfl⟩:=List.mem_map.mp (h1.mem_iff.mp hx);rfl
   have dy:y=(y.2,y.2):=by obtain⟨v,_,rfl⟩:=List.mem_map.mp (h1.mem_iff.mp hy);rfl
   rw [<-dx,<-dy];exact q
 dsimp only
 by_cases h2:vs.toArray.size < 2
 ·rw [if_pos h2,if_pos h2]
  refine wpAny_bind (wpAny_pure ?_)
  rw [StateT.run_pure]
  refine wpAny_bind (wpAny_pure ?_)
  dsimp only
  obtain⟨out,q0,q1,q2⟩:=fin (SortSt.mk' general' (vs.toArray.zip vs.toArray) #[] 7 none) (by rw [pt]) (by rw [pt];exact zy h2)
  refine wpAny_bind (seqEpoch_at ho6 rfl ?_)
  rw [q1]
  refine wpAny_bind (listUpdate_at ho6 rfl ?_ (hsz2:=by show out.length<=_;rw [q0,sizeLine_eq];lia))
  simp only [bne_self_eq_false,Bool.false_eq_true,if_false]
  exact wpAny_pure q2
 ·rw [if_neg h2,if_neg h2]
  refine wpAny_bind (hkk (by lia) _ _ ?_)
  refine wpAny_bind (wpAny_mono (vN hC (st:=SortSt.mk' κ (vs.toArray.zip vs.toArray) #[] 7 none) (a0:=vs.toArray.zip vs.toArray) (Q:=λ_ st'=>(arrOf st').toList.Perm (vs.map λv=>(v,v))/\(arrOf st').toList.Pairwise (λx y=>O.kle (rk x) (rk y))/\failedOf st'=none)
   rfl rfl rfl rfl (λx hx=>?_) (by simp;lia) (by simp;lia) λst' a1 a2 a3=>⟨by rw [<-pt];exact a1,a2,a3⟩) ?_ λ_ _ e=>e)
  ·rw [pt] at hx
   obtain⟨v,hv,rfl⟩:=List.mem_map.mp hx
   exact hS v hv
  rintro⟨⟨⟩,st'⟩ s' ⟨rfl,a1,a2,a3⟩
  dsimp only
  obtain⟨out,q0,q1,q2⟩:=fin st' a1 a2
  refine wpAny_bind (seqEpoch_at ho6 rfl ?_)
  rw [q1]
  refine wpAny_bind (listUpdate_at ho6 rfl ?_ (hsz2:=by show out.length<=_;rw [q0,sizeLine_eq];lia))
  rw [a3]
  simp only [bne_self_eq_false,Bool.false_eq_true,if_false]
  exact wpAny_pure q2
theorem ky {l:Addr}{Q:Value->Shared->Prop} (hl:s.heap.IsList l vs.toArray) (h64:vs.length<=64)
  (hyp:∀ h',(∀ b o,s.heap.get? b=some o->h'.get? b=some o)->∃ κ,(2<=vs.length->∀ (Q':SortKind->Shared->Prop) E',Q' κ { s with heap:=h' }->wpAny (model prog w) A.in1.in1 (keyKind' vs.toArray) Q' E' { s with heap:=h' })/\Cm prog w A.in1.in1 { s with heap:=h' } κ O rk S)
  (hS:∀ v ∈ vs,S (v,v))
  (h:∀ out:List Value,out.Perm vs->out.Pairwise (λx y=>O.kle (rk (x,x)) (rk (y,y)))->Q (.ref (s.heap.objs.size+1)) { s with heap:=sortedAll s.heap vs out.toArray }) :
  wpAny (model prog w) A (call (.builtin "sorted") [.ref l]) Q E s:=by
 refine Calls.call_function_entry kind_sorted plain_sorted entry_sorted (args_sorted1 _) ?_
 unfold Builtin.«sorted»
 refine wpAny_bind (m:=checkCount "sorted" 1 1 _) (wpAny_pure ?_)
 refine wpAny_bind (collect_list hl ?_ (by rw [sizeLine_eq];lia))
 refine wpAny_bind (wpAny_newList ?_ (by rw [sizeLine_eq];lia))
 have hz:((s.heap.push (seqObj "list" #[] 0)).update s.heap.objs.size (Obj.mapSeq (·++vs.toArray))).objs.size=s.heap.objs.size+1:=by rw [Heap.size_update,size_push']
 generalize hh:((s.heap.push (seqObj "list" #[] 0)).update s.heap.objs.size (Obj.mapSeq (·++vs.toArray)))=hB at hz ⊢
 have hoL:(hB.push (seqObj "list" vs.toArray 0)).get? (s.heap.objs.size+1)=some (seqObj "list" vs.toArray 0):=by
  rw [<-hz];exact Heap.get?_push_size _ rfl
 have keep:∀ b o,s.heap.get? b=some o->b≠s.heap.objs.size+1/\(hB.push (seqObj "list" vs.toArray 0)).get? b=some o:=λb o q=>by
  have hlt:b < s.heap.objs.size:=Heap.lt_size q
  refine⟨Nat.ne_of_lt (Nat.lt_succ_of_lt hlt),?_⟩
  rw [Heap.get?_push_ne _ _ _ (Nat.ne_of_lt (by rw [hz];exact Nat.lt_succ_of_lt hlt)),<-hh,Heap.get?_update_ne _ _ _ _ (Nat.ne_of_lt hlt),Heap.get?_push_ne _ _ _ (Nat.ne_of_lt hlt)]
  exact q
 show wpAny _ _ _ _ _ { s with heap:=hB.push (seqObj "list" vs.toArray 0) }
 rw [hz]
 refine wpAny_bind (wpAny_holding (wpAny_call_entry slot_list_sort ⟨_,hoL,rfl⟩ entry_list_sort (su (s:={ s with heap:=hB.push (seqObj "list" vs.toArray 0) }) hoL h64 (λh' hk=>hyp h' λb o q=>hk b o (keep b o q).1 (keep b o q).2) hS λout a1 a2=>⟨_,rfl,?_⟩) (args_list_sort _)))
 refine wpAny_pure ⟨_,rfl,?_⟩
 have:=h out a1 a2
 unfold sortedAll at this
 rw [hh] at this
 exact this
end
end L2
namespace L2
open PySem PySem.Spec PyProof.Rows PySem.SeqAt PySem.W
noncomputable def jn (h:Heap):Value->Option Value
 | .ref a=>match h.get? a with
  | some o=>match o.data with
   | .seq its _=>its[0]?
   | _=>none
  | none=>none
 | _=>none
theorem TuI.fst {h:Heap}{v:Value}{l:List Int} (t:TuI h v l):jn h v=none\/∃ n t,jn h v=some (.int n t):=by
 obtain⟨a,its,rfl,⟨o,ho,hc,n,hd⟩,hi⟩:=t
 simp only [jn,ho,hd]
 by_cases hz:0 < its.size
 ·obtain⟨t,e⟩:=fN hi 0 (by simpa using hz)
  exact .inr ⟨_,t,by rw [Array.getElem?_eq_getElem hz];rw [Array.getElem_toList] at e;rw [e]⟩
 ·exact .inl (Array.getElem?_eq_none (by lia))
section
variable {prog:Program}{w:World}{A:Around}{E:Value->Shared->Prop}{s:Shared}
theorem qJ {v:Value}{l:List Int} (t:TuI s.heap v l) {Q:Value->Shared->Prop} (h:Q (.type "tuple") s):wpAny (model prog w) A (typeOf v) Q E s:=by
 obtain⟨a,its,rfl,⟨o,ho,hc,n,hd⟩,hi⟩:=t
 refine Looks.here (show Looks (model prog w) s.heap (typeOf (.ref a)) o.cls from (Looks.ld ho).andThen .now) ?_
 rw [hc];exact h
theorem rP {v:Value}{l:List Int} (t:TuI s.heap v l) {Q:Option Value->Shared->Prop} (h:Q (jn s.heap v) s):wpAny (model prog w) A (firstOfTuple' v) Q E s:=by
 rw [kas_first_eq]
 refine wpAny_bind (qJ t ?_)
 obtain⟨a,its,rfl,⟨o,ho,hc,n,hd⟩,hi⟩:=t
 rw [if_neg (by simp)]
 simp only [jn,ho,hd] at h
 exact wpAny_bind (listItems_at ho hd (wpAny_pure h))
theorem fS:∀ {vs:List Value}{Q:List (Option Value)->Shared->Prop},(∀ v ∈ vs,∃ l,TuI s.heap v l)->Q (vs.map (jn s.heap)) s->wpAny (model prog w) A (vs.mapM firstOfTuple') Q E s
 | [],_,_,h=>by rw [List.mapM_nil];exact wpAny_pure h
 | v::vs,Q,t,h=>by
  rw [List.mapM_cons]
  obtain⟨l,tv⟩:=t v List.mem_cons_self
  refine wpAny_bind (rP tv (wpAny_bind (fS (Q:=λbs s'=>wpAny (model prog w) A (pure (jn s.heap v::bs)) Q E s') (λu hu=>t u (List.mem_cons_of_mem _ hu)) (wpAny_pure h))))
theorem qB {x y:Value}{l m:List Int} (hx:TuI s.heap x l) (hy:TuI s.heap y m) {Q:Bool->Shared->Prop} (h:Q (OI.blt (tuI s.heap x) (tuI s.heap y)) s):Q (cm l m) s:=by
 have h':Q (cm (tuI s.heap x) (tuI s.heap y)) s:=h
 rw [hx.is,hy.is] at h';exact h'
theorem uZ {vs:List Value} (t:∀ v ∈ vs,∃ l,TuI s.heap v l) (hu:A.units < cLine):∃ κ,(2<=vs.length->∀ (Q':SortKind->Shared->Prop) E',Q' κ s->wpAny (model prog w) A (keyKind' vs.toArray) Q' E' s)/\
  Cm prog w A s κ OI (λp=>tuI s.heap p.1) (λp=>∃ l,TuI s.heap p.1 l):=by
 by_cases c1:(vs.map (jn s.heap)).toArray.all (·.isSome)=true
 ·refine⟨tuples' true,λh2 Q' E' hq=>?_,λx y ⟨l,hx⟩ ⟨m,hy⟩ Q E h=>hx.tups hy (qB hx hy h)⟩
  rw [keyKind'_eq,List.mapM_toArray,map_eq_pure_bind]
  refine wpAny_bind (wpAny_bind (fS t (wpAny_pure ?_)))
  rw [if_pos c1]
  refine wpAny_bind (wpAny_rule ?_)
  have hf:∀ v ∈ (vs.map (jn s.heap)).filterMap id,∃ n t,v=.int n t:=λv hv=>by
   obtain⟨o,ho,e⟩:=List.mem_filterMap.mp hv
   obtain⟨u,hu,rfl⟩:=List.mem_map.mp ho
   obtain⟨l,tu⟩:=t u hu
   rcases tu.fst with q | ⟨n,t',q⟩
   ·rw [q] at e;cases e
   ·rw [q] at e;exact⟨n,t',(Option.some.inj e).symm⟩
  have hl:∃ f fr,(vs.map (jn s.heap)).filterMap id=f::fr:=by
   match vs,h2,c1 with
   | v::vs,_,c1=>
    simp only [List.map_cons,List.all_toArray,List.all_cons,Bool.and_eq_true] at c1
    obtain⟨u,hu⟩:=Option.isSome_iff_exists.mp c1.1
    exact⟨u,(vs.map (jn s.heap)).filterMap id,by rw [List.map_cons,List.filterMap_cons,hu];rfl⟩
  obtain⟨f,fr,e⟩:=hl
  have e2:(vs.map (jn s.heap)).toArray.filterMap id=(f::fr).toArray:=by rw [<-e];simp
  rw [e2,oneTypeOnly'_eq,List.mapM_toArray,map_eq_pure_bind]
  refine wpAny_bind (wpAny_bind (wpAny_bind (kas_mapM (r:=.type "int") _ (λv hv Q'' hq'=>?_) (wpAny_pure ?_))))
  ·rw [<-e] at hv
   obtain⟨n,t',rfl⟩:=hf v hv
   exact wpAny_pure hq'
  ·have h0:(List.map (λ_=>Value.type "int") (f::fr)).toArray[0]?=some (.type "int"):=by simp
   rw [h0]
   have hall:((List.map (λ_=>Value.type "int") (f::fr)).toArray.all λx=>x==.type "int")=true:=by
    simp only [List.all_toArray,List.all_map,List.all_eq_true];intro _ _;rfl
   simp only [hall,if_true]
   exact wpAny_pure (wpAny_pure hq)
 ·by_cases c2:((vs.map (jn s.heap)).toArray[0]?.bind id).isSome=true
  ·refine⟨general',λh2 Q' E' hq=>?_,λx y ⟨l,hx⟩ ⟨m,hy⟩ Q E h=>hx.one hy hu (qB hx hy h) false⟩
   rw [keyKind'_eq,List.mapM_toArray,map_eq_pure_bind]
   refine wpAny_bind (wpAny_bind (fS t (wpAny_pure ?_)))
   rw [if_neg c1,if_pos c2]
   exact wpAny_pure hq
  ·refine⟨oneType',λh2 Q' E' hq=>?_,λx y ⟨l,hx⟩ ⟨m,hy⟩ Q E h=>hx.one hy hu (qB hx hy h) true⟩
   rw [keyKind'_eq,List.mapM_toArray,map_eq_pure_bind]
   refine wpAny_bind (wpAny_bind (fS t (wpAny_pure ?_)))
   rw [if_neg c1,if_neg c2,oneTypeOnly'_eq,List.mapM_toArray,map_eq_pure_bind]
   refine wpAny_bind (wpAny_bind (wpAny_bind (kas_mapM (r:=.type "tuple") _ (λv hv Q'' hq'=>?_) (wpAny_pure ?_))))
   ·obtain⟨l,tv⟩:=t v hv
    exact qJ tv hq'
   ·obtain⟨v,vs,rfl⟩:∃ v r,vs=v::r:=by
     match vs,h2 with
     | v::r,_=>exact⟨v,r,rfl⟩
    have h0:(List.map (λ_=>Value.type "tuple") (v::vs)).toArray[0]?=some (.type "tuple"):=by simp
    rw [h0]
    have hall:((List.map (λ_=>Value.type "tuple") (v::vs)).toArray.all λx=>x==.type "tuple")=true:=by
     simp only [List.all_toArray,List.all_map,List.all_eq_true];intro _ _;rfl
    simp only [hall,if_true]
    exact wpAny_pure (wpAny_pure hq)
theorem vn {vs:List Value}{ns:List Int} (t:IntsAre vs ns):(2<=vs.length->∀ (Q':SortKind->Shared->Prop) E',Q' oneType' s->wpAny (model prog w) A (keyKind' vs.toArray) Q' E' s)/\
  Cm prog w A s oneType' OI (λp=>[cf p.1]) (λp=>∃ n t,p.1=.int n t):=by
 refine⟨λh2 Q' E' hq=>?_,λx y ⟨n,t,hx⟩ ⟨m,u,hy⟩ Q E h=>?_⟩
 ·match vs,h2,t with
  | v1::v2::r,_,t=>rw [keyKind_ints t];exact wpAny_pure hq
 ·rw [keyLt'_oneType,hx,hy]
  refine oneLt_int ?_
  have e:OI.blt [cf x.1] [cf y.1]=decide (n < m):=by
   rw [hx,hy]
   show (if n=m then cm [] [] else decide (n < m))=_
   by_cases q:n=m
   ·subst q;simp [cm]
   ·rw [if_neg q]
  rw [e] at h;exact h
end
noncomputable def qr (x:List Int):List (List Int)->List (List Int)
 | []=>[x]
 | y::ys=>if cm y x=true then y::qr x ys else x::y::ys
noncomputable def ef:List (List Int)->List (List Int)
 | []=>[]
 | x::xs=>qr x (ef xs)
theorem ji (x:List Int):∀ ys,(qr x ys).Perm (x::ys)
 | []=>List.Perm.refl _
 | y::ys=>by
  unfold qr
  split
  ·exact (List.Perm.cons y (ji x ys)).trans (List.Perm.swap x y ys)
  ·exact List.Perm.refl _
theorem cU:∀ xs,(ef xs).Perm xs
 | []=>List.Perm.refl _
 | x::xs=>(ji x _).trans (List.Perm.cons x (cU xs))
noncomputable def leL (a b:List Int):Prop:=cm b a=false
theorem sE {a b c:List Int} (h:leL a b) (h':leL b c):leL a c:=KeyOrd.kle_trans (O:=OI) h h'
theorem tL {a b:List Int} (h:leL a b) (h':leL b a):a=b:=iW a b h' h
theorem jF (x:List Int):∀ {ys:List (List Int)},ys.Pairwise leL->(qr x ys).Pairwise leL
 | [],_=>by simp [qr]
 | y::ys,h=>by
  unfold qr
  split
  ·rename_i hxy
   refine List.pairwise_cons.mpr ⟨λz hz=>?_,jF x (List.pairwise_cons.mp h).2⟩
   rcases List.mem_cons.mp ((ji x ys).mem_iff.mp hz) with rfl | hz
   ·exact KeyOrd.klt_asymm (O:=OI) hxy
   ·exact (List.pairwise_cons.mp h).1 z hz
  ·rename_i hxy
   rw [Bool.not_eq_true] at hxy
   refine List.pairwise_cons.mpr ⟨λz hz=>?_,h⟩
   rcases List.mem_cons.mp hz with rfl | hz
   ·exact hxy
   ·exact sE hxy ((List.pairwise_cons.mp h).1 z hz)
theorem dH:∀ xs,(ef xs).Pairwise leL
 | []=>List.Pairwise.nil
 | x::xs=>jF x (dH xs)
theorem iN {xs ys:List (List Int)} (p:xs.Perm ys) (h1:xs.Pairwise leL) (h2:ys.Pairwise leL):xs=ys:=
 List.Perm.eq_of_pairwise (λa b _ _ h1 h2=>tL h1 h2) h1 h2 p
end L2
namespace L2
open PySem PySem.Spec PyProof.Rows PySem.SeqAt PySem.W
noncomputable def jg:List D->Option (List (List Int))
 | []=>some []
 | .tup l::ds=>(bV l).bind λns=>(jg ds).map λr=>ns::r
 | _=>none
noncomputable def ah (l:List Int):D:=.tup (l.map D.int)
theorem jI:∀ {ds:List D}{ls:List (List Int)},jg ds=some ls->ds=ls.map ah
 | [],_,h=>by cases h;rfl
 | .tup l::ds,_,h=>by
  simp only [jg,Option.bind_eq_some_iff,Option.map_eq_some_iff] at h
  obtain⟨ns,e1,r,e2,rfl⟩:=h
  rw [jI e2,cw e1];rfl
 | .non::_,_,h=>by cases h
 | .bl _::_,_,h=>by cases h
 | .int _::_,_,h=>by cases h
 | .str _::_,_,h=>by cases h
 | .ty _::_,_,h=>by cases h
 | .dct::_,_,h=>by cases h
 | .scr _::_,_,h=>by cases h
 | .lst _::_,_,h=>by cases h
theorem kL:∀ (ls:List (List Int)),jg (ls.map ah)=some ls
 | []=>rfl
 | l::ls=>by
  have:bV (l.map D.int)=some l:=by
   induction l with
   | nil=>rfl
   | cons a l ih=>simp [bV,ih]
  simp only [List.map_cons,ah,jg,this,Option.bind_some]
  rw [show List.map ah ls=List.map ah ls from rfl,kL ls];rfl
noncomputable def ms (ds:List D):Option (List D):=match bV ds with
 | some ns=>some ((ku ns).map D.int)
 | none=>(jg ds).map λls=>(ef ls).map ah
noncomputable def fZ (st:Sto):List W->Option (List D)
 | [w]=>(lsD st w).bind λds=>if ds.length<=64 then ms ds else none
 | _=>none
section
variable {K:PySem.W.Frag}{X:Cx}{pins:List (Addr×Obj)}{σ:St}{H:Hp}{s:Shared}{φ:List Addr}
noncomputable def toV:Value->V
 | .ref a=>.ref a
 | _=>.non
theorem wa {l:List Int}{v:V}{u:Value} (I:Inv X pins σ H s) (r:Rl X.K H φ (ah l) v) (q:aX v u):TuI s.heap u l/\v=toV u/\aX (toV u) u:=by
 obtain⟨a,vs,rfl,h1,h2⟩:=r
 obtain⟨its,rv,p,_⟩:=I.tuple (SqT.of h1)
 have e:=h2.ints
 subst e
 have e:u=.ref a:=q
 subst e
 exact⟨⟨a,its.toArray,rfl,p,by simpa using eI rv⟩,rfl,rfl⟩
theorem pI (I:Inv X pins σ H s):∀ {ls:List (List Int)}{vs:List V}{us:List Value},Rls X.K H φ (ls.map ah) vs->aK vs us->
  us.map (tuI s.heap)=ls/\∀ u ∈ us,TuI s.heap u (tuI s.heap u)/\Rl X.K H φ (ah (tuI s.heap u)) (toV u)/\aX (toV u) u
 | [],_,us,h,q=>by cases h;cases q;exact⟨rfl,λu hu=>by cases hu⟩
 | l::ls,_,us,h,q=>by
  obtain⟨v,r,rfl,h1,h2⟩:=h
  cases q with
  | cons q1 q2=>
   rename_i u us
   obtain⟨t,e,e'⟩:=wa I h1 q1
   obtain⟨i1,i2⟩:=pI I h2 q2
   refine⟨by rw [List.map_cons,i1,t.is],λx hx=>?_⟩
   rcases List.mem_cons.mp hx with rfl | hx
   ·rw [t.is,<-e];exact⟨t,h1,q1⟩
   ·exact i2 x hx
theorem ot:∀ {us:List Value},(∀ u ∈ us,TuI s.heap u (tuI s.heap u)/\Rl K H φ (ah (tuI s.heap u)) (toV u)/\aX (toV u) u)->Rls K H φ (us.map λu=>ah (tuI s.heap u)) (us.map toV)/\aK (us.map toV) us
 | [],_=>⟨rfl,.nil⟩
 | u::us,h=>by
  have h1:=h u List.mem_cons_self
  have h2:=ot λx hx=>h x (List.mem_cons_of_mem _ hx)
  exact⟨⟨_,_,rfl,h1.2.1,h2.1⟩,.cons h1.2.2 h2.2⟩
theorem kM:∀ {us:List Value}{l:List Int},IntsAre us l->∀ u ∈ us,∃ n t,u=.int n t
 | _,_,.nil,u,hu=>by cases hu
 | _,_,.cons n t h,u,hu=>by
  rcases List.mem_cons.mp hu with rfl | hu
  ·exact⟨n,t,rfl⟩
  ·exact kM h u hu
theorem mE:∀ {us:List Value},(∀ u ∈ us,∃ n t,u=.int n t)->IntsAre us (us.map cf)
 | [],_=>.nil
 | u::us,h=>by
  obtain⟨n,t,rfl⟩:=h u List.mem_cons_self
  exact .cons n t (mE λx hx=>h x (List.mem_cons_of_mem _ hx))
theorem oZ {k:Nat} (hr:bn k X.A) (hK:X.K=K:=by rfl):xE K X (.builtin "sorted") fZ:=by
 subst hK
 refine⟨λst ws d h=>?_⟩
 match ws,h with
 | [w],h=>
  simp only [fZ,Option.bind_eq_some_iff] at h
  obtain⟨ds,e1,h⟩:=h
  split at h
  ·rename_i hl
   intro pins s σ H xs us Q I rv q
   obtain⟨φ,S,⟨v,r,rfl,r1,rfl⟩,q⟩:=q
   obtain⟨a,vs,rfl,h1,h2⟩:=m8 S r1 e1
   obtain⟨u,rfl,ru⟩:=g9 rv
   cases ru
   obtain⟨its,rv',pl,hz⟩:=I.list (.inl h1)
   have hlen:its.length<=64:=by
    have:=rv'.length
    have:=h2.length
    lia
   have hun:X.A.in1.in1.units < cLine:=by
    have:=hr.un
    show X.A.units+1+1 < cLine
    lia
   have hn:H (s.heap.objs.size+1)=none:=I.hok.fresh (Nat.le_succ _)
   have lay:∀ (out:List Value) (vs':List V),aK vs' out->out.length<=64->Inv X pins σ (upd H (s.heap.objs.size+1) (.lst vs')) { s with heap:=sortedAll s.heap its out.toArray }:=λout vs' hv ho=>by
    obtain⟨ep,he⟩:=sortedAll_at s.heap its out.toArray
    refine I.laid (t':=s.toks) (a:=s.heap.objs.size+1) (o:=.lst vs') (λb o q=>sortedAll_old q) (Nat.le_succ _) ⟨?_,out,ep,hv,by simpa [seqObj] using he⟩
    rw [hv.length];exact ki (by lia)
   unfold ms at h
   cases hi:bV ds with
   | some ns=>
    rw [hi] at h
    cases h
    cases cw hi
    cases h2.ints
    have hI:=eI rv'
    refine ky (O:=OI) (rk:=λp=>[cf p.1]) (S:=λp=>∃ n t,p.1=.int n t) pl.isList hlen (λh' _=>⟨oneType',vn (s:={ s with heap:=h' }) hI⟩) (λv hv=>kM hI v hv) λout a1 a2=>?_
    have ho:∀ u ∈ out,∃ n t,u=.int n t:=λu hu=>kM hI u (a1.mem_iff.mp hu)
    have hp:(out.map cf).Perm ns:=by
     have:=a1.map cf
     rw [kI hI] at this;exact this
    have hs:(out.map cf).Pairwise (·<=·):=by
     rw [List.pairwise_map]
     refine a2.imp λ{x y} q=>?_
     have q':cm [cf y] [cf x]=false:=q
     by_cases e:cf y=cf x
     ·lia
     ·have:cm [cf y] [cf x]=decide (cf y < cf x):=by show (if _ then _ else _)=_;rw [if_neg e]
      rw [this,decide_eq_false_iff_not] at q';lia
    have e:out.map cf=ku ns:=ph (hp.trans (jO ns).symm) hs (iw ns)
    have hv:=iP (mE ho)
    rw [e] at hv
    exact⟨.ref _,_,lay out _ hv (by rw [a1.length_eq];exact hlen),rfl,q _ _ H (bp.refl H) hn (Rls.of_ints _)⟩
   | none=>
    rw [hi] at h
    obtain⟨ls,hls,rfl⟩:=Option.map_eq_some_iff.mp h
    cases jI hls
    obtain⟨m1,m2⟩:=pI I h2 rv'
    refine ky (O:=OI) (rk:=λp=>tuI s.heap p.1) (S:=λp=>∃ l,TuI s.heap p.1 l) pl.isList hlen (λh' hk=>?_) (λv hv=>⟨_,(m2 v hv).1⟩) λout a1 a2=>?_
    ·obtain⟨κ,k1,k2⟩:=uZ (prog:=X.prog) (w:=X.w) (s:={ s with heap:=h' }) (vs:=its) (λv hv=>⟨_,(m2 v hv).1.fit hk⟩) hun
     refine⟨κ,k1,λx y ⟨l,hx⟩ ⟨m,hy⟩ Q E hq=>k2 x y ⟨l,hx.fit hk⟩ ⟨m,hy.fit hk⟩ Q E ?_⟩
     have hx':=hx.fit hk
     have hy':=hy.fit hk
     have hq':Q (cm (tuI s.heap x.1) (tuI s.heap y.1)) { s with heap:=h' }:=hq
     show Q (cm (tuI h' x.1) (tuI h' y.1)) { s with heap:=h' }
     rw [hx'.is,hy'.is]
     rw [hx.is,hy.is] at hq'
     exact hq'
    ·have ho:=λu hu=>m2 u (a1.mem_iff.mp hu)
     obtain⟨b1,b2⟩:=ot (K:=X.K) (H:=H) (φ:=φ) ho
     have hp:(out.map (tuI s.heap)).Perm ls:=by
      have:=a1.map (tuI s.heap)
      rw [m1] at this;exact this
     have hs:(out.map (tuI s.heap)).Pairwise leL:=by
      rw [List.pairwise_map]
      exact a2.imp λ{x y} q=>q
     have e:out.map (tuI s.heap)=ef ls:=iN (hp.trans (cU ls).symm) hs (dH ls)
     have e2:(out.map λu=>ah (tuI s.heap u))=(ef ls).map ah:=by rw [<-e,List.map_map];rfl
     rw [e2] at b1
     exact⟨.ref _,_,lay out _ b2 (by rw [a1.length_eq];exact hlen),rfl,q _ _ H (bp.refl H) hn b1⟩
  ·cases h
end
end L2
namespace L2
open PySem PySem.Spec PyProof.Rows
open PySem.AutoSeq1 (wpAny_loadPart')
noncomputable def SIt (k:Bool) (h:Heap) (it l:Addr) (i:Nat):Prop:=match k with
 | true=>h.IsTupleIter it l i
 | false=>h.IsListIter it l i
noncomputable def SIs (k:Bool) (h:Heap) (l:Addr) (xs:Array Value):Prop:=match k with
 | true=>h.IsTuple l xs
 | false=>h.IsList l xs
theorem SIt.to {k:Bool}{h h':Heap}{it l:Addr}{i:Nat} (a:SIt k h it l i) (f:∀ o,h.get? it=some o->h'.get? it=some o):SIt k h' it l i:=by
 cases k with
 | true=>exact Heap.IsTupleIter.at a f
 | false=>exact Heap.IsListIter.at a f
theorem SIs.to {k:Bool}{h h':Heap}{l:Addr}{xs:Array Value} (a:SIs k h l xs) (f:∀ o,h.get? l=some o->h'.get? l=some o):SIs k h' l xs:=by
 cases k with
 | true=>obtain⟨o,e,r⟩:=a;exact⟨o,f o e,r⟩
 | false=>exact Heap.IsList.at a f
theorem SIt.live {k:Bool}{h:Heap}{it l:Addr}{i:Nat} (a:SIt k h it l i):∃ o vs,h.get? it=some o/\o.data=.fields vs:=by
 cases k with
 | true=>obtain⟨o,e,_,d⟩:=a;exact⟨o,_,e,d⟩
 | false=>obtain⟨o,e,_,d⟩:=a;exact⟨o,_,e,d⟩
section
variable {prog:Program}{w:World}{A:Around}{E:Value->Shared->Prop}{s:Shared}{k k2:Bool}
theorem nP {it l:Addr}{i:Nat}{xs:Array Value}{x:Value}{Q:Value->Shared->Prop} (hit:SIt k s.heap it l i) (hl:SIs k s.heap l xs) (hx:xs[i]?=some x)
  (hQ:∀ h',SIt k h' it l (i+1)->Heap.SameBut it s.heap h'->Q x { s with heap:=h' }):wpAny (model prog w) A (Builtin.SmallTypes.nextOf (.ref it)) Q E s:=by
 cases k with
 | true=>exact eV hit hl hx hQ
 | false=>exact wpAny_nextOf_list_item hit hl hx hQ
theorem ux {it l:Addr}{i:Nat}{xs:Array Value}{Q:Value->Shared->Prop} (hh:A.handled=none) (hit:SIt k s.heap it l i) (hl:SIs k s.heap l xs) (hx:xs[i]?=none)
  (hE:∀ h' e,Heap.ExtBut it s.heap h'->(∃ o,h'.get? e=some o/\o.cls=.type "StopIteration")->E (.ref e) { s with heap:=h' }):wpAny (model prog w) A (Builtin.SmallTypes.nextOf (.ref it)) Q E s:=by
 cases k with
 | true=>exact fF hh hit hl hx hE
 | false=>exact wpAny_nextOf_list_end hh hit hl hx hE
variable {z TI TO i1 i2 l1 l2:Addr}{n:Nat}{xs ys:Array Value}{a b:Value}
structure ZSt (k k2:Bool) (z TI TO i1 i2 l1 l2:Addr) (f0:Value) (n:Nat) (h:Heap):Prop where
 z:IsZip h z TI TO f0
 ti:IsPair h TI (.ref i1) (.ref i2)
 to:∃ a b,IsPair h TO a b
 t1:SIt k h i1 l1 n
 t2:SIt k2 h i2 l2 n
set_option maxHeartbeats 1000000 in
theorem vE {x y:Value}{Q:Option Value->Shared->Prop} (D:ZipApart z TI TO i1 i2 l1 l2) (hs:ZSt k k2 z TI TO i1 i2 l1 l2 .none n s.heap) (hl1:SIs k s.heap l1 xs) (hl2:SIs k2 s.heap l2 ys) (hx:xs[n]?=some x) (hy:ys[n]?=some y)
  (hQ:∀ h',ZSt k k2 z TI TO i1 i2 l1 l2 (rawInt s.heap.objs.size) (n+1) h'->IsPair h' s.heap.objs.size x y->h'.objs.size=s.heap.objs.size+1->
    (∀ c o,c≠z->c≠TO->c≠i1->c≠i2->s.heap.get? c=some o->h'.get? c=some o)->Q (some (.ref s.heap.objs.size)) { s with heap:=h' }) :
  wpAny (model prog w) A (pyNext (.ref z)) Q E s:=by
 obtain⟨hz,hTI,⟨a,b,hTO⟩,h1,h2⟩:=hs
 have hT:s.TypeIs (.ref z) "zip":=⟨_,hz,rfl⟩
 unfold pyNext
 refine wpAny_bind (wpAny_attempt (wpAny_callSpecial?_slot (name:=Str.ofString "__next__") hT F.slot_zip_next (wpAny_call_entry F.slot_zip_next hT F.entry_zip_next ?_ (F.args_zip_next_1 _))))
 show wpAny _ _ (field (.ref z) 2 >>= _) _ _ _
 refine wpAny_bind (wpAny_field hz rfl (x:=.bool false) rfl ?_)
 show wpAny _ _ (field (.ref z) 3 >>= _) _ _ _
 refine wpAny_bind (wpAny_field hz rfl (x:=.ref TI) rfl (wpAny_bind (wpAny_seqItems hTI rfl ?_)))
 show wpAny _ _ (Builtin.SmallTypes.ownedTupleIsFree (.ref z) >>= _) _ _ _
 refine wpAny_bind ?_
 unfold Builtin.SmallTypes.ownedTupleIsFree
 refine wpAny_bind (wpAny_field hz rfl (x:=.none) rfl (wpAny_pure ?_))
 simp only [if_true]
 refine wpAny_bind (wpAny_rule (wpAny_bind (wpAny_field hz rfl (x:=.ref TO) rfl ?_)))
 refine wpAny_bind (wpAny_setField_rec hz (by simp) λg1 hz1 s1=>?_)
 replace hz1:IsZip g1 z TI TO .ellipsis:=hz1
 refine wpAny_bind ?_
 simp only [List.zipIdx_cons,List.zipIdx_nil,List.forIn_cons,List.forIn_nil]
 have e1:=s1.extBut
 refine wpAny_bind (wpAny_bind (wpAny_onRaise ?_))
 show wpAny _ _ (Builtin.SmallTypes.nextOf (.ref i1) >>= _) _ _ _
 refine wpAny_bind (nP (h1.to λo q=>e1 _ o D.i1z q) (hl1.to λo q=>e1 _ o D.l1z q) hx λg2 h12 s2=>wpAny_pure ?_)
 have e2:=s2.extBut
 have hTO2:IsPair g2 TO a b:=e2 _ _ D.TOi1 (e1 _ _ D.TOz hTO)
 refine wpAny_bind (wpAny_seqItems hTO2 rfl (wpAny_bind (wpAny_updateSeq_pair hTO2 λg3 hTO3 s3=>?_)))
 replace hTO3:IsPair g3 TO x b:=hTO3
 have e3:=s3.extBut
 refine wpAny_bind (wpAny_letGo (wpAny_pure ?_))
 refine wpAny_bind (wpAny_bind (wpAny_onRaise ?_))
 show wpAny _ _ (Builtin.SmallTypes.nextOf (.ref i2) >>= _) _ _ _
 refine wpAny_bind (nP (h2.to λo q=>e3 _ o D.TOi2.symm (e2 _ o D.i12.symm (e1 _ o D.i2z q))) (hl2.to λo q=>e3 _ o D.l2TO (e2 _ o D.l2i1 (e1 _ o D.l2z q))) hy λg4 h24 s4=>wpAny_pure ?_)
 have e4:=s4.extBut
 have hTO4:IsPair g4 TO x b:=e4 _ _ D.TOi2 hTO3
 refine wpAny_bind (wpAny_seqItems hTO4 rfl (wpAny_bind (wpAny_updateSeq_pair hTO4 λg5 hTO5 s5=>?_)))
 replace hTO5:IsPair g5 TO x y:=hTO5
 have e5:=s5.extBut
 refine wpAny_bind (wpAny_letGo (wpAny_pure (wpAny_pure ?_)))
 refine wpAny_bind (wpAny_seqItems hTO5 rfl (wpAny_bind (wpAny_newTuple ?_)))
 have hsz:g5.objs.size=s.heap.objs.size:=by rw [s5.1,s4.1,s3.1,s2.1,s1.1]
 have hz5:IsZip g5 z TI TO .ellipsis:=e5 _ _ D.TOz.symm (e4 _ _ D.i2z.symm (e3 _ _ D.TOz.symm (e2 _ _ D.i1z.symm hz1)))
 have kp:∀ c o,c≠z->c≠TO->c≠i1->c≠i2->s.heap.get? c=some o->g5.get? c=some o:=λc o c1 c2 c3 c4 e=>e5 _ _ c2 (e4 _ _ c4 (e3 _ _ c2 (e2 _ _ c3 (e1 _ _ c1 e))))
 have h15:SIt k g5 i1 l1 (n+1):=h12.to λo q=>e5 _ o D.TOi1.symm (e4 _ o D.i12 (e3 _ o D.TOi1.symm q))
 have h25:SIt k2 g5 i2 l2 (n+1):=h24.to λo q=>e5 _ o D.TOi2.symm q
 have hzlt:z < g5.objs.size:=Heap.lt_size hz5
 show wpAny _ _ (Builtin.SmallTypes.ownedTupleHandOut (.ref z) (.ref g5.objs.size) >>= _) _ _ _
 refine wpAny_bind ?_
 unfold Builtin.SmallTypes.ownedTupleHandOut
 have hz6:IsZip (g5.push { cls:=.type "tuple",data:=.seq #[x,y] }) z TI TO .ellipsis:=Heap.get?_push_of_some _ hz5
 refine wpAny_bind (wpAny_setField_rec hz6 (by simp) λg7 hz7 s7=>?_)
 replace hz7:IsZip g7 z TI TO (rawInt g5.objs.size):=hz7
 refine wpAny_setField_rec hz7 (by simp) λg8 hz8 s8=>?_
 replace hz8:IsZip g8 z TI TO (rawInt g5.objs.size):=hz8
 have up:∀ c o,c≠z->g5.get? c=some o->g8.get? c=some o:=λc o c1 e=>s8.extBut _ _ c1 (s7.extBut _ _ c1 (Heap.get?_push_of_some _ e))
 have hT8:IsPair g8 g5.objs.size x y:=s8.extBut _ _ (Nat.ne_of_gt hzlt) (s7.extBut _ _ (Nat.ne_of_gt hzlt) (Heap.get?_push_size _ rfl))
 have hz9:g8.objs.size=g5.objs.size+1:=by rw [s8.1,s7.1,Heap.size_push]
 rw [hsz] at hz8 hT8 hz9
 refine wpAny_pure ⟨_,rfl,wpAny_pure ?_⟩
 show Q (some (.ref g5.objs.size)) _
 rw [hsz]
 exact hQ g8 ⟨hz8,up _ _ D.TIz (kp _ _ D.TIz D.TITO D.TIi1 D.TIi2 hTI),⟨_,_,up _ _ D.TOz hTO5⟩,h15.to λo q=>up _ o D.i1z q,h25.to λo q=>up _ o D.i2z q⟩ hT8 hz9 λc o c1 c2 c3 c4 e=>up c o c1 (kp c o c1 c2 c3 c4 e)
set_option maxHeartbeats 1000000 in
theorem xn {Q:Option Value->Shared->Prop} (hh:A.in1.handled=none) (D:ZipApart z TI TO i1 i2 l1 l2) (hs:ZSt k k2 z TI TO i1 i2 l1 l2 .none n s.heap) (hl1:SIs k s.heap l1 xs) (hl2:SIs k2 s.heap l2 ys) (hend:xs[n]?=none\/ys[n]?=none)
  (hQ:∀ h',(∀ c o,c≠z->c≠TO->c≠i1->c≠i2->s.heap.get? c=some o->h'.get? c=some o)->Q none { s with heap:=h' }):wpAny (model prog w) A (pyNext (.ref z)) Q E s:=by
 obtain⟨hz,hTI,⟨a,b,hTO⟩,h1,h2⟩:=hs
 have hT:s.TypeIs (.ref z) "zip":=⟨_,hz,rfl⟩
 have fin:∀ (h':Heap) (e:Addr),(∀ c o,c≠z->c≠TO->c≠i1->c≠i2->s.heap.get? c=some o->h'.get? c=some o)->(∃ o,h'.get? e=some o/\o.cls=.type "StopIteration")->
   wpAny (model prog w) A (do if (<-isInstance (.ref e) (.type "StopIteration")) then pure none else throw (.ref e)) Q E { s with heap:=h' }:=λh' e hk ⟨o,ho,hc⟩=>
  wpAny_bind (wpAny_isInstance (T:="StopIteration") (b:=true) ⟨o,ho,hc⟩ isSubtype_stop (wpAny_pure (hQ _ hk)))
 unfold pyNext
 refine wpAny_bind (wpAny_attempt (wpAny_callSpecial?_slot (name:=Str.ofString "__next__") hT F.slot_zip_next (wpAny_call_entry F.slot_zip_next hT F.entry_zip_next ?_ (F.args_zip_next_1 _))))
 show wpAny _ _ (field (.ref z) 2 >>= _) _ _ _
 refine wpAny_bind (wpAny_field hz rfl (x:=.bool false) rfl ?_)
 show wpAny _ _ (field (.ref z) 3 >>= _) _ _ _
 refine wpAny_bind (wpAny_field hz rfl (x:=.ref TI) rfl (wpAny_bind (wpAny_seqItems hTI rfl ?_)))
 show wpAny _ _ (Builtin.SmallTypes.ownedTupleIsFree (.ref z) >>= _) _ _ _
 refine wpAny_bind ?_
 unfold Builtin.SmallTypes.ownedTupleIsFree
 refine wpAny_bind (wpAny_field hz rfl (x:=.none) rfl (wpAny_pure ?_))
 simp only [if_true]
 refine wpAny_bind (wpAny_rule (wpAny_bind (wpAny_field hz rfl (x:=.ref TO) rfl ?_)))
 refine wpAny_bind (wpAny_setField_rec hz (by simp) λg1 hz1 s1=>?_)
 replace hz1:IsZip g1 z TI TO .ellipsis:=hz1
 refine wpAny_bind ?_
 simp only [List.zipIdx_cons,List.zipIdx_nil,List.forIn_cons,List.forIn_nil]
 have e1:=s1.extBut
 refine wpAny_bind (wpAny_bind (wpAny_onRaise ?_))
 show wpAny _ _ (Builtin.SmallTypes.nextOf (.ref i1) >>= _) _ _ _
 cases hx:xs[n]? with
 | none=>
  refine wpAny_bind (ux hh (h1.to λo q=>e1 _ o D.i1z q) (hl1.to λo q=>e1 _ o D.l1z q) hx λg2 e s2 he=>?_)
  obtain⟨oe,hoe,hce⟩:=he
  have hz2:IsZip g2 z TI TO .ellipsis:=s2 _ _ D.i1z.symm hz1
  have hez:e≠z:=λx=>by subst x;rw [hz2] at hoe;cases hoe;simp at hce
  exact wpAny_setField_rec hz2 (by simp) λg3 _ s3=>fin g3 e (λc o c1 _ c3 _ x=>s3.extBut _ _ c1 (s2 _ _ c3 (e1 _ _ c1 x))) ⟨oe,s3.extBut _ _ hez hoe,hce⟩
 | some x=>
  have hy:ys[n]?=none:=by rcases hend with h | h;rw [hx] at h;cases h;exact h
  refine wpAny_bind (nP (h1.to λo q=>e1 _ o D.i1z q) (hl1.to λo q=>e1 _ o D.l1z q) hx λg2 h12 s2=>wpAny_pure ?_)
  have e2:=s2.extBut
  have hTO2:IsPair g2 TO a b:=e2 _ _ D.TOi1 (e1 _ _ D.TOz hTO)
  refine wpAny_bind (wpAny_seqItems hTO2 rfl (wpAny_bind (wpAny_updateSeq_pair hTO2 λg3 hTO3 s3=>?_)))
  have e3:=s3.extBut
  refine wpAny_bind (wpAny_letGo (wpAny_pure ?_))
  refine wpAny_bind (wpAny_bind (wpAny_onRaise ?_))
  show wpAny _ _ (Builtin.SmallTypes.nextOf (.ref i2) >>= _) _ _ _
  refine wpAny_bind (ux hh (h2.to λo q=>e3 _ o D.TOi2.symm (e2 _ o D.i12.symm (e1 _ o D.i2z q))) (hl2.to λo q=>e3 _ o D.l2TO (e2 _ o D.l2i1 (e1 _ o D.l2z q))) hy λg4 e s4 he=>?_)
  obtain⟨oe,hoe,hce⟩:=he
  have hz4:IsZip g4 z TI TO .ellipsis:=s4 _ _ D.i2z.symm (e3 _ _ D.TOz.symm (e2 _ _ D.i1z.symm hz1))
  have hez:e≠z:=λx=>by subst x;rw [hz4] at hoe;cases hoe;simp at hce
  exact wpAny_setField_rec hz4 (by simp) λg5 _ s5=>fin g5 e (λc o c1 c2 c3 c4 x=>s5.extBut _ _ c1 (s4 _ _ c4 (e3 _ _ c2 (e2 _ _ c3 (e1 _ _ c1 x))))) ⟨oe,s5.extBut _ _ hez hoe,hce⟩
end
end L2
namespace L2
open PySem PySem.Spec PyProof.Rows
open PySem.AutoSeq1 (wpAny_loadPart')
noncomputable def zR (k:Bool):Value:=if k=true then .type "tuple_iterator" else .type "list_iterator"
noncomputable def lv (k:Bool) (l:Addr):Obj:={ cls:=zR k,data:=.fields #[.ref l,.int 0 0] }
abbrev zH1 (k:Bool) (h:Heap) (l1:Addr):Heap:=h.push (lv k l1)
abbrev zH2 (k k2:Bool) (h:Heap) (l1 l2:Addr):Heap:=(zH1 k h l1).push (lv k2 l2)
abbrev zH3 (k k2:Bool) (h:Heap) (l1 l2:Addr):Heap:=(zH2 k k2 h l1 l2).push { cls:=.type "tuple",data:=.seq #[.ref h.objs.size,.ref (zH1 k h l1).objs.size] }
abbrev zH4 (k k2:Bool) (h:Heap) (l1 l2:Addr):Heap:=(zH3 k k2 h l1 l2).push { cls:=.type "tuple",data:=.seq #[.none,.none] }
abbrev zH5 (k k2:Bool) (h:Heap) (l1 l2:Addr):Heap:=(zH4 k k2 h l1 l2).push { cls:=.type "zip",data:=.fields #[.none,.bool false,.bool false,.ref (zH2 k k2 h l1 l2).objs.size,.ref (zH3 k k2 h l1 l2).objs.size] }
section
variable {prog:Program}{w:World}{A:Around}{E:Value->Shared->Prop}{s:Shared}{k k2:Bool}
theorem ou {l:Addr}{xs:Array Value}{Q:Value->Shared->Prop} (hl:SIs k s.heap l xs) (h:Q (.ref s.heap.objs.size) { s with heap:=s.heap.push (lv k l) }):wpAny (model prog w) A (pyIter (.ref l)) Q E s:=by
 cases k with
 | true=>exact wpAny_pyIter_tuple hl h
 | false=>exact wpAny_pyIter_list hl h
theorem lO (l1 l2:Addr) (xs ys:Array Value) (k k2:Bool) :
  Meets (Builtin.«zip.__new__» ⟨[.type "zip",.ref l1,.ref l2],[]⟩) (λ_ R s=>SIs k s.heap l1 xs/\SIs k2 s.heap l2 ys/\R (.ok (.ret (.ref (zH4 k k2 s.heap l1 l2).objs.size))) { s with heap:=zH5 k k2 s.heap l1 l2 }):=
 .of_wp λprog w A R s h=>by
  obtain⟨hp,g,d,tk,os⟩:=s
  obtain⟨hl1,hl2,h⟩:=h
  have hsub:=sub_zip
  have hL1:SIs k (Shared.heap ⟨hp,g,d,tk,os⟩) l1 xs:=hl1
  have hL2:SIs k2 (Shared.heap ⟨hp.push (lv k l1),g,d,tk,os⟩) l2 ys:=hl2.to λo q=>Heap.get?_push_of_some _ q
  wp_walk using ou hL1,ou hL2
  exact⟨_,rfl,h⟩
theorem ow (k:Bool) {h:Heap}{it l:Addr} (e:h.get? it=some (lv k l)):SIt k h it l 0:=by
 cases k with
 | true=>exact⟨_,e,rfl,rfl⟩
 | false=>exact⟨_,e,rfl,rfl⟩
theorem mR {l1 l2:Addr}{xs ys:Array Value}{Q:Value->Shared->Prop} (hl1:SIs k s.heap l1 xs) (hl2:SIs k2 s.heap l2 ys)
  (h:∀ h',ZSt k k2 (s.heap.objs.size+4) (s.heap.objs.size+2) (s.heap.objs.size+3) s.heap.objs.size (s.heap.objs.size+1) l1 l2 .none 0 h'->
    (∀ c o,s.heap.get? c=some o->h'.get? c=some o)->Q (.ref (s.heap.objs.size+4)) { s with heap:=h' }) :
  wpAny (model prog w) A (call (.type "zip") [.ref l1,.ref l2]) Q E s:=by
 refine callType_new F.called_zip (by decide) (F.typeCall_zip_2 _ _) (F.newCall_zip_2 _ _) (λobj=>F.args_object_init_3 obj _ _) F.entry_zip_new (lO l1 l2 xs ys k k2) ⟨hl1,hl2,?_⟩
 have z1:(zH1 k s.heap l1).objs.size=s.heap.objs.size+1:=Heap.size_push ..
 have z2:(zH2 k k2 s.heap l1 l2).objs.size=s.heap.objs.size+2:=by rw [Heap.size_push,z1]
 have z3:(zH3 k k2 s.heap l1 l2).objs.size=s.heap.objs.size+3:=by rw [Heap.size_push,z2]
 have z4:(zH4 k k2 s.heap l1 l2).objs.size=s.heap.objs.size+4:=by rw [Heap.size_push,z3]
 have up:∀ {h:Heap}{o':Obj}{c:Addr}{o:Obj},h.get? c=some o->(h.push o').get? c=some o:=λe=>Heap.get?_push_of_some _ e
 have g5:(zH5 k k2 s.heap l1 l2).get? (zH4 k k2 s.heap l1 l2).objs.size=some _:=Heap.get?_push_size _ rfl
 have g4:(zH5 k k2 s.heap l1 l2).get? (zH3 k k2 s.heap l1 l2).objs.size=some _:=up (Heap.get?_push_size _ rfl)
 have g3:(zH5 k k2 s.heap l1 l2).get? (zH2 k k2 s.heap l1 l2).objs.size=some _:=up (up (Heap.get?_push_size _ rfl))
 have g2:(zH5 k k2 s.heap l1 l2).get? (zH1 k s.heap l1).objs.size=some (lv k2 l2):=up (up (up (Heap.get?_push_size _ rfl)))
 have g1:(zH5 k k2 s.heap l1 l2).get? s.heap.objs.size=some (lv k l1):=up (up (up (up (Heap.get?_push_size _ rfl))))
 show _/\_
 rw [z2,z3,z4] at g5
 rw [z1,z2] at g3
 rw [z3] at g4
 rw [z1] at g2
 rw [z4]
 exact⟨⟨_,g5,rfl⟩,h _ ⟨g5,g3,⟨_,_,g4⟩,ow k g1,ow k2 g2⟩ λc o x=>up (up (up (up (up x))))⟩
end
noncomputable def SqK (k:Bool) (K:PySem.W.Frag) (H:Hp) (a:Addr) (xs:List V):Prop:=match k with
 | true=>SqT K H a xs
 | false=>SqL K H a xs
noncomputable def Itz (S1 S2:Hp->List V->Prop):It:=
 ⟨λi H=>∃ xs ys x y,S1 H xs/\S2 H ys/\xs[i]?=some x/\ys[i]?=some y,λi H x H'=>∃ T v u,(∀ xs,S1 H xs->xs[i]?=some v)/\(∀ ys,S2 H ys->ys[i]?=some u)/\H T=none/\x=.ref T/\H'=upd H T (.tup [v,u]),
  λi H=>∃ xs ys,S1 H xs/\S2 H ys/\(xs[i]?=none\/ys[i]?=none)⟩
theorem Inv.seqK {X:Cx}{pins:List (Addr×Obj)}{σ:St}{H:Hp}{s:Shared}{k:Bool}{a:Addr}{xs:List V} (I:Inv X pins σ H s) (h:SqK k X.K H a xs):∃ its:List Value,aK xs its/\SIs k s.heap a its.toArray:=by
 cases k with
 | true=>obtain⟨its,r,p,_⟩:=I.tuple h;exact⟨its,r,p⟩
 | false=>obtain⟨its,r,p,_⟩:=I.list h;exact⟨its,r,p.isList⟩
theorem Inv.seqK_inj {X:Cx}{pins:List (Addr×Obj)}{σ:St}{H:Hp}{s:Shared}{k:Bool}{a:Addr}{xs ys:List V} (I:Inv X pins σ H s) (h:SqK k X.K H a xs) (h':SqK k X.K H a ys):xs=ys:=by
 cases k with
 | true=>exact I.tuple_inj h h'
 | false=>exact I.list_inj h h'
theorem uJ {P:Program}{w:World}{K:PySem.W.Frag}{elts:List Expr}{kk:Nat}{pos:Pos}{k k2:Bool}{z TI TO i1 i2 l1 l2:Addr} (D:ZipApart z TI TO i1 i2 l1 l2) :
  pU P w K (.Tuple elts kk pos) (Itz (λH xs=>SqK k K H l1 xs) λH xs=>SqK k2 K H l2 xs) [z,TI,TO,i1,i2] z (λi h=>ZSt k k2 z TI TO i1 i2 l1 l2 .none i h) where
 mem:=by simp
 obj:=λi h st b hb=>by
  simp only [List.mem_cons,List.not_mem_nil,or_false] at hb
  rcases hb with rfl | rfl | rfl | rfl | rfl
  ·exact⟨_,st.z,λv z=>by cases z⟩
  ·exact⟨_,st.ti,λv z=>by cases z⟩
  ·obtain⟨a,b,e⟩:=st.to;exact⟨_,e,λv z=>by cases z⟩
  ·obtain⟨o,vs,e,d⟩:=st.t1.live;exact⟨o,e,λv z=>by rw [d] at z;cases z⟩
  ·obtain⟨o,vs,e,d⟩:=st.t2.live;exact⟨o,e,λv z=>by rw [d] at z;cases z⟩
 keep:=λi h h' st kp=>by
  obtain⟨a,b,e⟩:=st.to
  exact⟨kp z (by simp) _ st.z,kp TI (by simp) _ st.ti,⟨a,b,kp TO (by simp) _ e⟩,st.t1.to λo q=>kp i1 (by simp) o q,st.t2.to λo q=>kp i2 (by simp) o q⟩
 item:=by
  intro X hP hw hK hc i pins s σ H E I hf st hg
  subst hP hw hK
  obtain⟨xs,ys,x,y,hq1,hq2,hx,hy⟩:=hg
  obtain⟨us,rv1,p1⟩:=I.seqK hq1
  obtain⟨vs,rv2,p2⟩:=I.seqK hq2
  obtain⟨u,hu,ru⟩:=rv1.get hx
  obtain⟨v,hv,rv⟩:=rv2.get hy
  refine vE D st p1 p2 (x:=u) (y:=v) (by simpa using hu) (by simpa using hv) λh1 st1 hT hsz kp=>⟨_,rfl,?_⟩
  refine wpAny_letOwnedTupleGo_zip st1.z λh2 hz2 s2=>?_
  have e2:=s2.extBut
  obtain⟨c1,c2,hto⟩:=st1.to
  have nz:∀ b ∈ [z,TI,TO,i1,i2],b≠s.heap.objs.size:=λb hb e=>by
   obtain⟨o,ho,_⟩:=(show ∃ o,s.heap.get? b=some o/\True by
    simp only [List.mem_cons,List.not_mem_nil,or_false] at hb
    obtain⟨a',b',e'⟩:=st.to
    obtain⟨o1,_,q1,_⟩:=st.t1.live
    obtain⟨o2,_,q2,_⟩:=st.t2.live
    rcases hb with rfl | rfl | rfl | rfl | rfl
    ·exact⟨_,st.z,trivial⟩
    ·exact⟨_,st.ti,trivial⟩
    ·exact⟨_,e',trivial⟩
    ·exact⟨_,q1,trivial⟩
    ·exact⟨_,q2,trivial⟩)
   have:=Heap.lt_size ho
   rw [e] at this
   exact Nat.lt_irrefl _ this
  have hT2:di h2 s.heap.objs.size #[u,v]:=⟨_,e2 _ _ (Ne.symm (nz z (by simp))) hT,rfl,⟨_,rfl⟩,rfl⟩
  refine⟨.ref s.heap.objs.size,upd H s.heap.objs.size (.tup [x,y]),?_,rfl,⟨s.heap.objs.size,x,y,λzs hz=>by rw [I.seqK_inj hz hq1];exact hx,λzs hz=>by rw [I.seqK_inj hz hq2];exact hy,I.hok.fresh (Nat.le_refl _),rfl,rfl⟩,?_,λb hb=>?_⟩
  ·have I2:Inv X pins σ (upd H s.heap.objs.size (.tup [x,y])) { s with heap:=h2,toks:=s.toks }:=I.turnsT (fp:=[z,TI,TO,i1,i2]) (h':=h2) (t':=s.toks) (its:=#[u,v]) hf (λb o hb q=>by
    simp only [List.mem_cons,List.not_mem_nil,or_false,not_or] at hb
    exact e2 b o hb.1 (kp b o hb.1 hb.2.2.1 hb.2.2.2.1 hb.2.2.2.2 q)) (Nat.le_refl _) hT2 (.cons ru (.cons rv .nil)) (by show 2<=sizeLine;decide)
   exact I2
  ·exact⟨hz2,e2 _ _ D.TIz st1.ti,⟨c1,c2,e2 _ _ D.TOz hto⟩,st1.t1.to λo q=>e2 _ o D.i1z q,st1.t2.to λo q=>e2 _ o D.i2z q⟩
  ·rw [aF (nz b hb)];exact (hf b hb).1
 done:=by
  intro X hP hw hK hc i pins s σ H E I hf st hg
  subst hP hw hK
  obtain⟨xs,ys,hq1,hq2,hend⟩:=hg
  obtain⟨us,rv1,p1⟩:=I.seqK hq1
  obtain⟨vs,rv2,p2⟩:=I.seqK hq2
  have hl1:=rv1.length
  have hl2:=rv2.length
  refine xn (I.ok.hd hc) D st p1 p2 (by
   rcases hend with h | h
   ·left;rw [List.getElem?_eq_none_iff] at h;simp;lia
   ·right;rw [List.getElem?_eq_none_iff] at h;simp;lia) λh' kp=>⟨rfl,I.turns (t':=s.toks) (fp:=[z,TI,TO,i1,i2]) hf λb o hb q=>?_⟩
  simp only [List.mem_cons,List.not_mem_nil,or_false,not_or] at hb
  exact kp b o hb.1 hb.2.2.1 hb.2.2.2.1 hb.2.2.2.2 q
 self:=λ_ _ _ _ _ st h=>wpAny_pyIter_zip st.z h
noncomputable def A1 (K:PySem.W.Frag) (k k2:Bool) (ta:TA):L2.TI:=λσ H R=>ta σ H λvs H1=>∃ a b,vs=[.ref a,.ref b]/\(∃ xs,SqK k K H1 a xs)/\(∃ xs,SqK k2 K H1 b xs)/\R (Itz (λH xs=>SqK k K H a xs) λH xs=>SqK k2 K H b xs) H1
theorem yC {X:Cx}{elts:List Expr}{kk:Nat}{tpos:Pos}{a b:Expr}{ta:TA}{p pos:Pos}{k k2:Bool} (hg:Gl X "zip") (hm:X.mg "zip" = none) (ha:PA X [a,b] ta) (hs:starEach [a,b] X.env=[(false,eval a X.env),(false,eval b X.env)]:=by rfl) (hs2:starEach [b] X.env=[(false,eval b X.env)]:=by rfl) :
  PI X (.Tuple elts kk tpos) (.Call (.Name "zip" p) [a,b] [] pos) (A1 X.K k k2 ta):=by
 intro pins s σ H R I h
 refine Call_ (iI I hg hm boot_zip (PyProof.Rows.callWith_type1 (thn (ha pos pins s σ H _ I h) λus s1 ⟨vs,H1,I1,r1,q1⟩=>?_) (by rw [hs,hs2]) (by rw [hs2];rfl)))
 obtain⟨l,m,e,⟨xs,hq⟩,⟨ys,hq2⟩,q⟩:=q1
 subst e
 cases r1 with
 | cons r rr=>
  cases rr with
  | cons r' rr=>
   cases rr
   cases r
   cases r'
   obtain⟨us,rv1,p1⟩:=I1.seqK hq
   obtain⟨vs,rv2,p2⟩:=I1.seqK hq2
   have lt:∀ {k:Bool}{l:Addr}{us:Array Value},SIs k s1.heap l us->l < s1.heap.objs.size:=λ{k l us} hl=>by
    cases k with
    | true=>obtain⟨_,he,_⟩:=hl;exact Heap.lt_size he
    | false=>obtain⟨_,he,_⟩:=hl;exact Heap.lt_size he
   refine mR p1 p2 λh' hst hk=>wpAny_pyIter_zip hst.z ?_
   refine⟨_,[s1.heap.objs.size+4,s1.heap.objs.size+2,s1.heap.objs.size+3,s1.heap.objs.size,s1.heap.objs.size+1],_,_,H1,rfl,I1.kept (t':=s1.toks) hk,uJ (zipApart_new (lt p1) (lt p2)),hst,λb hb=>?_,q⟩
   have hb':s1.heap.objs.size<=b:=by
    simp only [List.mem_cons,List.not_mem_nil,or_false] at hb
    rcases hb with rfl | rfl | rfl | rfl | rfl
    ·exact Nat.le_add_right _ 4
    ·exact Nat.le_add_right _ 2
    ·exact Nat.le_add_right _ 3
    ·exact Nat.le_refl _
    ·exact Nat.le_add_right _ 1
   exact I1.fpOk hb' (I1.hok.fresh hb')
noncomputable def fg:List D->List D->List D
 | d::ds,e::es=>.tup [d,e]::fg ds es
 | _,_=>[]
noncomputable def wC:W->Option (Bool×List D)
 | .d (.tup ds)=>some (true,ds)
 | .d (.lst ds)=>some (false,ds)
 | _=>none
noncomputable def kK (af:Af):Lf
 | env,st=>(af env st).bind λr=>match r.1 with
  | [x,y]=>(wC x).bind λa=>(wC y).map λb=>(fg a.2 b.2,r.2)
  | _=>none
theorem jc:∀ (ds es:List D) (i:Nat),(fg ds es)[i]?=(ds[i]?).bind λd=>(es[i]?).map λe=>D.tup [d,e]
 | [],es,i=>by simp [fg]
 | d::ds,[],i=>by cases i<;>simp [fg]
 | d::ds,e::es,0=>by simp [fg]
 | d::ds,e::es,i+1=>by simpa [fg] using jc ds es i
theorem i5:∀ (ds es:List D),(fg ds es).length=min ds.length es.length
 | [],es=>by simp [fg]
 | d::ds,[]=>by simp [fg]
 | d::ds,e::es=>by simp [fg,i5 ds es]
section
variable {K:PySem.W.Frag}{X:Cx}{a b:Expr}{pos:Pos}{af:Af}
theorem qI {st:Sto}{H:Hp}{φ:List Addr}{w:W}{v:V}{p:Bool×List D} (r:Rw K H φ w v) (e:wC w=some p) (S:Sr K H φ st):∃ a vs,v=.ref a/\SqK p.1 K H a vs/\(∀ H' φ',Fw φ φ' H H'->SqK p.1 K H' a vs)/\Rls K H φ p.2 vs:=by
 cases w with
 | h n=>cases e
 | d x=>
  cases x with
  | tup ds=>
   cases e
   obtain⟨a,us,rfl,hq,hr⟩:=r
   exact⟨a,us,rfl,(SqT.of hq),λH' φ' f=>(SqT.of hq).fw S f,hr⟩
  | lst ds=>
   cases e
   obtain⟨a,us,rfl,h0,hq,hr⟩:=r
   exact⟨a,us,rfl,.inl hq,λH' φ' f=>.inl (hq.fw f h0),hr⟩
  | _=>cases e
theorem yg {S1 S2:Hp->List V->Prop}{ds es:List D}{vs us:List V}{φ:List Addr}{H:Hp} (h1:∀ H' φ',Fw φ φ' H H'->S1 H' vs) (h2:∀ H' φ',Fw φ φ' H H'->S2 H' us) (r1:∀ H' φ',Fw φ φ' H H'->Rls K H' φ' ds vs) (r2:∀ H' φ',Fw φ φ' H H'->Rls K H' φ' es us) :
  Yl K φ H (Itz S1 S2) (fg ds es):=by
 intro H2 φ2 st2 i f2 s2
 have q1:=h1 H2 φ2 f2
 have q2:=h2 H2 φ2 f2
 have w1:=r1 H2 φ2 f2
 have w2:=r2 H2 φ2 f2
 refine⟨λd hd=>?_,λhi=>⟨vs,us,q1,q2,?_⟩⟩
 ·rw [jc,Option.bind_eq_some_iff] at hd
  obtain⟨d1,hd1,hd⟩:=hd
  obtain⟨d2,hd2,rfl⟩:=Option.map_eq_some_iff.mp hd
  obtain⟨v,ev,rv⟩:=w1.get hd1
  obtain⟨u,eu,ru⟩:=w2.get hd2
  refine⟨⟨vs,us,v,u,q1,q2,ev,eu⟩,λx H' y=>?_⟩
  obtain⟨T,v',u',y1,y2,hT,rfl,rfl⟩:=y
  have z1:=y1 vs q1
  have z2:=y2 us q2
  rw [ev] at z1
  rw [eu] at z2
  cases z1
  cases z2
  exact⟨bp.new hT _,T,_,rfl,aW,_,_,rfl,rv.fw s2 (Fw.new hT),_,_,rfl,ru.fw s2 (Fw.new hT),rfl⟩
 ·rw [i5] at hi
  have l1:=w1.length
  have l2:=w2.length
  rw [List.getElem?_eq_none_iff,List.getElem?_eq_none_iff]
  lia
theorem uz {elts:List Expr}{k:Nat}{tpos p:Pos} (hg:Gl X "zip") (hm:X.mg "zip" = none) (ha:IA K X [a,b] af) (hs:aO a=true:=by rfl) (hs2:aO b=true:=by rfl) (hK:X.K=K:=by rfl) :
  II K X (.Tuple elts k tpos) (.Call (.Name "zip" p) [a,b] [] pos) (kK af):=by
 subst hK
 refine⟨λenv st r hr=>?_⟩
 simp only [kK,Option.bind_eq_some_iff] at hr
 obtain⟨⟨ws,s1⟩,hy,hr⟩:=hr
 match ws,hr with
 | [x,y],hr=>
  simp only [Option.bind_eq_some_iff,Option.map_eq_some_iff] at hr
  obtain⟨p1,hp1,p2,hp2,rfl⟩:=hr
  refine (yC (k:=p1.1) (k2:=p2.1) hg hm (ha.run _ _ _ hy) (uo hs hs2) (gZ hs2)).imp ?_
  rintro σ H R ⟨φ,hE,hS,q⟩
  refine⟨φ,hE,hS,λvs H1 φ1 f1 s1 w1=>?_⟩
  obtain⟨v,r,rfl,rx,v2,r',rfl,ry,rfl⟩:=w1
  obtain⟨a,us,rfl,hq,hq',hr⟩:=qI rx hp1 s1
  obtain⟨b,us2,rfl,hq2,hq2',hr2⟩:=qI ry hp2 s1
  exact⟨a,b,rfl,⟨us,hq⟩,⟨us2,hq2⟩,q _ H1 φ1 f1 s1 (yg hq' hq2' (λH' φ' f=>hr.fw s1 f) λH' φ' f=>hr2.fw s1 f)⟩
end
end L2
namespace L2
open PySem PySem.Spec PyProof.Rows
noncomputable def ig:List Int->Int->Int
 | [],m=>m
 | n::ns,m=>ig ns (if n > m then n else m)
noncomputable def lh:List Int->Int->Int
 | [],m=>m
 | n::ns,m=>lh ns (if n < m then n else m)
section
variable {prog:Program}{w:World}{A:Around}{s:Shared}{I l S:Addr}{items:Array Value}{ns:List Int}{kw:List (Str×Value)}{R:Result->Shared->Prop}
theorem fu (h:IntsAre items.toList ns) {j:Nat}{n:Int} (hn:ns[j]?=some n):∃ t,items[j]?=some (.int n t):=by
 have hj:j < items.toList.length:=by rw [dk h];exact (List.getElem?_eq_some_iff.mp hn).1
 obtain⟨t,e⟩:=fN h j hj
 refine⟨t,?_⟩
 have hj':j < items.size:=by simpa using hj
 rw [Array.getElem?_eq_getElem hj']
 rw [Array.getElem_toList] at e
 rw [e,List.getD_eq_getElem?_getD,hn];rfl
theorem fz (h:IntsAre items.toList ns) {j:Nat} (hn:ns[j]?=none):items[j]?=none:=by
 rw [List.getElem?_eq_none_iff] at hn
 have:=dk h
 rw [Array.getElem?_eq_none_iff]
 rw [Array.length_toList] at this
 lia
theorem zv (hh:A.handled=none) (hi:IntsAre items.toList ns) (hSI:S≠I) (hlI:l≠I) (hlS:l≠S):∀ (rest:List Int) (j:Nat) (s:Shared) (m:Int) (t:Tok) (c:Nat),ns.drop j=rest->s.heap.IsListIter I l j->s.heap.IsList l items->
  s.heap.get? S=some { cls:=.type "list",dict:=none,data:=.seq #[.int m t,.int m t] c,slots:=#[] }->
  (∀ t' h',(∀ b o,b≠I->b≠S->s.heap.get? b=some o->h'.get? b=some o)->R (.ok (.ret (.int (ig rest m) t'))) { s with heap:=h' })->codeAny (model prog w) A (.builtin "max.loop" ⟨[.ref I,.none,.ref S],kw⟩) R s:=by
 have hname:(toString "max"++toString ".loop" : String) = "max.loop":=by decide
 intro rest
 induction rest with
 | nil=>
  intro j s m t c hd hit hl hS hR
  have hn:ns[j]?=none:=by
   rw [List.getElem?_eq_none_iff]
   have:=congrArg List.length hd
   simp at this;lia
  refine codeAny_builtin F.entry_max_loop ?_
  rw [Around.under_plainId F.plain_max_loop _]
  show wpAny _ A.in1 (seqItems? (.ref S) >>= _) _ _ s
  refine wpAny_bind (wpAny_seqItems hS rfl ?_)
  show wpAny _ A.in1 (tryCatch (pyNext (.ref I)) _ >>= _) _ _ s
  refine wpAny_bind (wpAny_tryCatch (wpAny_pyNext_list_end hh hit hl (fz hi hn) λh1 e1=>?_))
  show wpAny _ A.in1 (updateSeq S (λ_=>#[]) >>= _) _ _ _
  refine wpAny_bind (wpAny_updateSeq (e1 _ _ hSI hS) rfl (wpAny_bind (wpAny_letGo (wpAny_pure ?_))))
  exact hR t _ λb o hb1 hb2 q=>(Heap.get?_update_other _ _ (Ne.symm hb2)).trans (e1 _ _ hb1 q)
 | cons n rest ih=>
  intro j s m t c hd hit hl hS hR
  have hn:ns[j]?=some n:=by
   have:=congrArg (λl=>l[0]?) hd
   simpa using this
  have hd':ns.drop (j+1)=rest:=by
   have:=congrArg (List.drop 1) hd
   simpa [List.drop_drop,Nat.add_comm] using this
  obtain⟨tn,hx⟩:=fu hi hn
  refine codeAny_builtin F.entry_max_loop ?_
  rw [Around.under_plainId F.plain_max_loop _]
  show wpAny _ A.in1 (seqItems? (.ref S) >>= _) _ _ s
  refine wpAny_bind (wpAny_seqItems hS rfl ?_)
  show wpAny _ A.in1 (tryCatch (pyNext (.ref I)) _ >>= _) _ _ s
  refine wpAny_bind (wpAny_tryCatch (wpAny_pyNext_list_item hit hl hx λh1 hit1 s1=>?_))
  have e1:=s1.extBut
  have hS1:=e1 _ _ hSI hS
  show wpAny _ A.in1 (tryCatch (holding [.int n tn,.int n tn] (richCompare .Gt (.int n tn) (.int m t) >>= _)) _ >>= _) _ _ _
  refine wpAny_bind (wpAny_tryCatch (wpAny_holding (wpAny_bind (PyProof.Rows.gt_int ?_))))
  refine wpAny_bind (wpAny_holding (wpAny_truthy_bool ?_))
  refine wpAny_bind (wpAny_letGo (wpAny_pure ?_))
  by_cases hb:n > m
  ·have hb':decide (n > m)=true:=by simp [hb]
   rw [hb']
   simp only [if_true]
   refine wpAny_bind (wpAny_updateSeq hS1 rfl (wpAny_bind (wpAny_letGo ?_)))
   rw [hname]
   refine wpAny_pure ⟨plainId_quiet F.plain_max_loop _,ih (j+1) _ n tn _ hd' (hit1.at λo q=>(Heap.get?_update_other _ _ hSI).trans q) (Heap.IsList.at hl λo q=>(Heap.get?_update_other _ _ (Ne.symm hlS)).trans (e1 _ _ hlI q)) (Heap.get?_update_self _ hS1 rfl) λt' h' k=>?_⟩
   have:=hR t' h' λb o hb1 hb2 q=>k b o hb1 hb2 ((Heap.get?_update_other _ _ (Ne.symm hb2)).trans (e1 _ _ hb1 q))
   rw [ig,if_pos hb] at this
   exact this
  ·have hb':decide (n > m)=false:=by simp [hb]
   rw [hb']
   simp only [Bool.false_eq_true,if_false]
   refine wpAny_bind (wpAny_letGo ?_)
   rw [hname]
   refine wpAny_pure ⟨plainId_quiet F.plain_max_loop _,ih (j+1) _ m t c hd' hit1 (Heap.IsList.at hl λo q=>e1 _ _ hlI q) hS1 λt' h' k=>?_⟩
   have:=hR t' h' λb o hb1 hb2 q=>k b o hb1 hb2 (e1 _ _ hb1 q)
   rw [ig,if_neg hb] at this
   exact this
variable {E:Value->Shared->Prop}
theorem dc {id:String}{b:Builtin}{args:List Value}{kw:List (Str×Value)}{Q:Value->Shared->Prop} (hk:builtinKind id=none) (hp:plainId id=true) (hb:entryFor table id=some b) (ha:argsOk id ⟨args,kw⟩)
  (hc:wpAny (model prog w) A.in1 (b ⟨args,kw⟩) (λfin s'=>match fin with
    | .done f=>(match (Except.ok f:Result) with | .ok (.ret v)=>Q v s' | .ok _=>False | .error e=>E e s')
    | .again c'=>c'.quiet=true/\codeAny (model prog w) A c' (λr s'=>match r with | .ok (.ret v)=>Q v s' | .ok _=>False | .error e=>E e s') s') E s) :
  wpAny (model prog w) A (call (.builtin id) args kw) Q E s:=by
 refine wpAny_call (codeAny_call_builtin hp hb ?_)
 simp only [checkBuiltinCall,hk]
 cases hsig:Manifest.signature? id with
 | none=>exact wpAny_pure hc
 | some sig=>
  have h2:Bind.checkArgs id sig ⟨args,kw⟩=pure ():=by simpa only [argsOk,hsig] using ha
  show wpAny _ A.in1 (Bind.checkArgs id sig ⟨args,kw⟩) _ _ s
  rw [h2];exact wpAny_pure hc
theorem mC (a v:Value):argsOk "max" ⟨[a],[(Str.ofString "default",v)]⟩:=by unfold argsOk;kernel_rfl
noncomputable def nY (ns:List Int) (d:Option Int):Option Int:=match ns with
 | n::r=>some (ig r n)
 | []=>d
theorem sC (hh:A.handled=none) (hi:IntsAre items.toList ns) (hSI:S≠I) (hlI:l≠I) (hlS:l≠S) {c:Nat} (hit:s.heap.IsListIter I l 0) (hl:s.heap.IsList l items) (hS:s.heap.get? S=some { cls:=.type "list",dict:=none,data:=.seq #[] c,slots:=#[] })
  (hR:∀ v h',(∀ b o,b≠I->b≠S->s.heap.get? b=some o->h'.get? b=some o)->(∀ n r,ns=n::r->∃ t,v=.int (ig r n) t)->(ns=[]->∃ k,kw=[(k,v)])->R (.ok (.ret v)) { s with heap:=h' })
  (h0:ns=[]->∃ k v,kw=[(k,v)]):codeAny (model prog w) A (.builtin "max.loop" ⟨[.ref I,.none,.ref S],kw⟩) R s:=by
 have hname:(toString "max"++toString ".loop" : String) = "max.loop":=by decide
 refine codeAny_builtin F.entry_max_loop ?_
 rw [Around.under_plainId F.plain_max_loop _]
 show wpAny _ A.in1 (seqItems? (.ref S) >>= _) _ _ s
 refine wpAny_bind (wpAny_seqItems hS rfl ?_)
 show wpAny _ A.in1 (tryCatch (pyNext (.ref I)) _ >>= _) _ _ s
 cases hn:ns with
 | nil=>
  obtain⟨k,v,rfl⟩:=h0 hn
  refine wpAny_bind (wpAny_tryCatch (wpAny_pyNext_list_end hh hit hl (fz hi (j:=0) (by rw [hn];rfl)) λh1 e1=>?_))
  refine wpAny_bind (wpAny_rule (wpAny_pure ?_))
  exact hR v _ (λb o hb1 _ q=>e1 _ _ hb1 q) (λn r e=>by rw [hn] at e;cases e) λ_=>⟨k,rfl⟩
 | cons n rest=>
  obtain⟨tn,hx⟩:=fu hi (j:=0) (n:=n) (by rw [hn];rfl)
  refine wpAny_bind (wpAny_tryCatch (wpAny_pyNext_list_item hit hl hx λh1 hit1 s1=>?_))
  have e1:=s1.extBut
  have hS1:=e1 _ _ hSI hS
  show wpAny _ A.in1 (updateSeq S (λ_=>#[.int n tn,.int n tn]) >>= _) _ _ _
  refine wpAny_bind (wpAny_updateSeq hS1 rfl ?_)
  rw [hname]
  refine wpAny_pure ⟨plainId_quiet F.plain_max_loop _,zv hh hi hSI hlI hlS rest 1 _ n tn _ (by rw [hn];rfl) (hit1.at λo q=>(Heap.get?_update_other _ _ hSI).trans q) (Heap.IsList.at hl λo q=>(Heap.get?_update_other _ _ (Ne.symm hlS)).trans (e1 _ _ hlI q)) (Heap.get?_update_self _ hS1 rfl) λt' h' k=>?_⟩
  exact hR _ h' (λb o hb1 hb2 q=>k b o hb1 hb2 ((Heap.get?_update_other _ _ (Ne.symm hb2)).trans (e1 _ _ hb1 q))) (λn' r' e=>by rw [hn] at e;cases e;exact⟨t',rfl⟩) λe=>by rw [hn] at e;cases e
theorem m6 {Q:Value->Shared->Prop} (hh:A.handled=none) (hi:IntsAre items.toList ns) (hl:s.heap.IsList l items) (hk:kw=[]\/∃ v,kw=[(Str.ofString "default",v)]) (h0:ns=[]->kw≠[])
  (h:∀ v h',(∀ b o,s.heap.get? b=some o->h'.get? b=some o)->(∀ n r,ns=n::r->∃ t,v=.int (ig r n) t)->(ns=[]->∃ k,kw=[(k,v)])->Q v { s with heap:=h' }) :
  wpAny (model prog w) A (call (.builtin "max") [.ref l] kw) Q E s:=by
 have hname:(toString "max"++toString ".loop" : String) = "max.loop":=by decide
 have hlt:l < s.heap.objs.size:=by obtain⟨_,e,_⟩:=hl;exact Heap.lt_size e
 have hsz:(s.heap.push { cls:=.type "list_iterator",data:=.fields #[.ref l,.int 0 0] }).objs.size=s.heap.objs.size+1:=Heap.size_push ..
 have fin:∀ dd:List Value,kw=dd.map (λd=>((Str.ofString "default",d):Str×Value))->wpAny (model prog w) A.in1 (do
   let it <-pyIter (.ref l)
   let b <-newList []
   PySem.again (.builtin "max.loop" ⟨[it,.none,b],dd.map λd=>(Str.ofString "default",d)⟩)) (λfin s'=>match fin with
   | .done f=>(match (Except.ok f:Result) with | .ok (.ret v)=>Q v s' | .ok _=>False | .error e=>E e s')
   | .again c'=>c'.quiet=true/\codeAny (model prog w) A c' (λr s'=>match r with | .ok (.ret v)=>Q v s' | .ok _=>False | .error e=>E e s') s') E s:=λdd hdd=>by
  refine wpAny_bind (wpAny_pyIter_list hl (wpAny_bind (wpAny_newObj_type ?_)))
  refine wpAny_pure ⟨plainId_quiet F.plain_max_loop _,?_⟩
  rw [<-hdd]
  refine sC (S:=(s.heap.push { cls:=.type "list_iterator",data:=.fields #[.ref l,.int 0 0] }).objs.size) (I:=s.heap.objs.size) (l:=l) hh hi (by rw [hsz];exact Nat.succ_ne_self _) (Nat.ne_of_lt hlt) (by rw [hsz];exact Nat.ne_of_lt (Nat.lt_succ_of_lt hlt))
   ⟨_,Heap.get?_push_of_some _ (Heap.get?_push_size _ rfl),rfl,rfl⟩ (Heap.IsList.at hl λo q=>Heap.get?_push_of_some _ (Heap.get?_push_of_some _ q)) (Heap.get?_push_size _ rfl) (λv h' k h1 h2=>?_) (λe=>?_)
  ·refine h v h' (λb o q=>?_) h1 h2
   have hb:=Heap.lt_size q
   exact k b o (Nat.ne_of_lt hb) (by rw [hsz];exact Nat.ne_of_lt (Nat.lt_succ_of_lt hb)) (Heap.get?_push_of_some _ (Heap.get?_push_of_some _ q))
  ·rcases hk with hk | ⟨v,hk⟩
   ·exact absurd hk (h0 e)
   ·exact⟨_,v,hk⟩
 rcases hk with rfl | ⟨v,rfl⟩
 ·refine dc F.kind_max F.plain_max F.entry_max (F.args_max1 _) ?_
  show wpAny _ A.in1 (Builtin.Builtins.bindParams "max" ["key","default"] 0 ⟨[],[]⟩ >>= _) _ _ s
  refine wpAny_bind (wpAny_of_eq (show Builtin.Builtins.bindParams "max" ["key","default"] 0 ⟨[],[]⟩=pure [none,none] from rfl) ?_)
  refine wpAny_bind (wpAny_pure ?_)
  have:=fin [] rfl
  rw [<-hname] at this
  exact this
 ·refine dc F.kind_max F.plain_max F.entry_max (mC _ _) ?_
  show wpAny _ A.in1 (Builtin.Builtins.bindParams "max" ["key","default"] 0 ⟨[],[(Str.ofString "default",v)]⟩ >>= _) _ _ s
  refine wpAny_bind (wpAny_of_eq (show Builtin.Builtins.bindParams "max" ["key","default"] 0 ⟨[],[(Str.ofString "default",v)]⟩=pure [none,some v] from by kernel_rfl) ?_)
  refine wpAny_bind (wpAny_pure ?_)
  have:=fin [v] rfl
  rw [<-hname] at this
  exact this
end
end L2
namespace L2
open PySem PySem.Spec PyProof.Rows
section
variable {K:PySem.W.Frag}{X:Cx}{e a b:Expr}{es:List Expr}{pos:Pos}{f fa fb:Ef}{af:Af}
noncomputable def lsI (st:Sto) (w:W):Option (List Int):=(lsD st w).bind bV
theorem sN (hc:X.calm=true) {kw:List (Str×Value)}{d:Option V}{ns:List Int}{pins:List (Addr×Obj)}{σ:St}{H:Hp}{s:Shared}{ad:Addr}{Q:VK}{E:XK}{r:Int} (I:Inv X pins σ H s) (hl:Rd H ad (.lst (ns.map V.int)))
  (hk:(kw=[]/\ns≠[])\/∃ c t,kw=[(Str.ofString "default",.int c t)]/\(ns=[]->r=c)) (hr:∀ n q,ns=n::q->r=ig q n) (q:Q (.int r) H) :
  wpAny (model X.prog X.w) X.A (call (.builtin "max") [.ref ad] kw) (EP X pins σ Q) X.xe s:=by
 obtain⟨its,rv,pl,hz⟩:=I.list (.inl hl)
 refine m6 (items:=its.toArray) (ns:=ns) (I.ok.hd hc) (by simpa using eI rv) pl.isList ?_ ?_ λv h' kp h1 h2=>?_
 ·rcases hk with hk | ⟨c,t,hk,_⟩
  ·exact .inl hk.1
  ·exact .inr ⟨_,hk⟩
 ·intro e z
  rcases hk with hk | ⟨c,t,hk,_⟩
  ·exact hk.2 e
  ·rw [hk] at z;cases z
 ·have hv:∃ t,v=.int r t:=by
   cases hn:ns with
   | nil=>
    obtain⟨k,hk2⟩:=h2 hn
    rcases hk with hk | ⟨c,t,hk,hc'⟩
    ·exact absurd hn hk.2
    ·rw [hk] at hk2
     cases hk2
     rw [hc' hn];exact⟨t,rfl⟩
   | cons n q=>
    rw [hr n q hn]
    exact h1 n q hn
  exact⟨.int r,H,I.kept kp,hv,q⟩
noncomputable def dMx (st:Sto):List W->Option D
 | [.d (.int i),.d (.int j)]=>some (.int (if j > i then j else i))
 | [w]=>(lsI st w).bind λns=>(nY ns none).map D.int
 | _=>none
theorem rJ {st:Sto}{H:Hp}{φ:List Addr}{w:W}{v:V}{ns:List Int} (S:Sr K H φ st) (r:Rw K H φ w v) (h:lsI st w=some ns):∃ ad,v=.ref ad/\Rd H ad (.lst (ns.map V.int)):=by
 obtain⟨ds,e1,e2⟩:=Option.bind_eq_some_iff.mp h
 obtain⟨ad,vs,rfl,h1,h2⟩:=m8 S r e1
 cases cw e2
 cases h2.ints
 exact⟨ad,rfl,h1⟩
theorem Al (hc:X.calm=true:=by rfl):eS K X (.builtin "max") dMx:=by
 refine⟨λst ws d h=>?_⟩
 have one:∀ w,((lsI st w).bind λns=>(nY ns none).map D.int)=some d->bR X (.builtin "max") (rCD K st [w] d):=λw h=>by
  obtain⟨ns,e1,h⟩:=Option.bind_eq_some_iff.mp h
  obtain⟨r,e2,rfl⟩:=Option.map_eq_some_iff.mp h
  intro pins s σ H xs us Q I rv q
  obtain⟨φ,S,⟨v,rr,rfl,r1,rfl⟩,q⟩:=q
  obtain⟨ad,rfl,hl⟩:=rJ S r1 e1
  obtain⟨u,rfl,ru⟩:=g9 rv
  cases ru
  refine sN (E:=λ_ _ _=>False) (d:=none) hc I hl (.inl ⟨rfl,λe=>by rw [e] at e2;cases e2⟩) (λn q hn=>by rw [hn] at e2;exact (Option.some.inj e2).symm) (q _ H (bp.refl H) rfl)
 match ws,h with
 | [.d (.int i),.d (.int j)],h=>
  cases h
  refine (rW hc).imp ?_
  rintro vs H Q ⟨φ,S,⟨v,r,rfl,r1,u,r',rfl,r2,rfl⟩,q⟩
  exact⟨i,j,by rw [show v=.int i from r1,show u=.int j from r2],q _ H (bp.refl H) rfl⟩
 | [w],h=>exact one w (by cases w with | h n=>exact h | d x=>cases x<;>exact h)
end
end L2
namespace L2
open PySem PySem.Spec PyProof.Rows
section
variable {K:PySem.W.Frag}{X:Cx}
noncomputable def AC (b:Bool):D->Bool
 | .bl c=>c==b
 | _=>false
noncomputable def zh (_:Sto):W->W->Option D
 | .d x,.d (.bl b)=>some (.bl (AC b x))
 | _,_=>none
theorem oB {M:Model}{A:Around}{E:Value->Shared->Prop}{s:Shared}{Q:Value->Shared->Prop}{v:Value}{b:Bool} (hb:∀ id,v≠.builtin id) (h:Q (.bool (v==.bool b)) s):wpAny M A (compareOp .Is v (.bool b)) Q E s:=by
 cases v<;>first | exact wpAny_pure h | exact absurd rfl (hb _)
theorem z7 {H:Hp}{φ:List Addr}{d:D}{v:V}{u:Value}{b:Bool} (r:Rl K H φ d v) (q:aX v u):AC b d=(u==.bool b):=by
 cases d with
 | bl c=>
  have r':v=.bl c:=r
  subst r'
  have q':u=.bool c:=q
  subst q'
  cases c<;>cases b<;>rfl
 | non=>have r':v=.non:=r;subst r';have q':u=.none:=q;subst q';rfl
 | int i=>have r':v=.int i:=r;subst r';obtain⟨t,rfl⟩:=q;rfl
 | str i=>have r':v=.str i:=r;subst r';obtain⟨t,rfl⟩:=q;rfl
 | ty i=>have r':v=.ty i:=r;subst r';have q':u=.type i:=q;subst q';rfl
 | dct=>obtain⟨a,rfl,_⟩:=r;have q':u=.ref a:=q;subst q';rfl
 | scr ns=>obtain⟨a,rfl,_⟩:=r;have q':u=.ref a:=q;subst q';rfl
 | tup ds=>obtain⟨a,vs,rfl,_⟩:=r;have q':u=.ref a:=q;subst q';rfl
 | lst ds=>obtain⟨a,vs,rfl,_⟩:=r;have q':u=.ref a:=q;subst q';rfl
theorem wG {H:Hp}{φ:List Addr}{d:D}{v:V}{u:Value} (r:Rl K H φ d v) (q:aX v u):∀ id,u≠.builtin id:=by
 intro id e
 subst e
 cases d with
 | bl c=>have r':v=.bl c:=r;subst r';cases q
 | non=>have r':v=.non:=r;subst r';cases q
 | int i=>have r':v=.int i:=r;subst r';obtain⟨t,h⟩:=q;cases h
 | str i=>have r':v=.str i:=r;subst r';obtain⟨t,h⟩:=q;cases h
 | ty i=>have r':v=.ty i:=r;subst r';cases q
 | dct=>obtain⟨a,rfl,_⟩:=r;cases q
 | scr ns=>obtain⟨a,rfl,_⟩:=r;cases q
 | tup ds=>obtain⟨a,vs,rfl,_⟩:=r;cases q
 | lst ds=>obtain⟨a,vs,rfl,_⟩:=r;cases q
theorem yj:OpD K X (compareOp .Is) zh:=by
 refine⟨λst x y d h=>?_⟩
 match x,y,h with
 | .d x,.d (.bl b),h=>
  cases h
  intro pins s σ H vx vy v u Q I rx ry hq
  obtain⟨φ,S,r1,r2,q⟩:=hq
  have r2':vy=.bl b:=r2
  subst r2'
  have ry':u=.bool b:=ry
  subst ry'
  exact oB (wG r1 rx) (qs I (q _ H (bp.refl H) rfl) (z7 r1 rx))
noncomputable def ug (_:Sto):W->W->Option D
 | .d (.int i),.d (.int j)=>some (.int (Builtin.bitAnd i j))
 | _,_=>none
theorem qA:OpD K X (binaryOp .BitAnd) ug:=mm (λ_=>rfl) (λ_ _=>rfl) λi j=>zp.imp λvx vy H Q h=>⟨i,j,h.1,h.2.1,h.2.2⟩
noncomputable def zH (_ j:Int):Prop:=0 < j/\j < 1000000000000000000000000000000000000000000000000000000000000
theorem wB {j:Int} (h0:0 < j) (h:j < 1000000000000000000000000000000000000000000000000000000000000):j.natAbs.log2 < 9000:=by
 have h1:j.natAbs≠0:=by lia
 have h2:j.natAbs < 2 ^ 200:=by
  have:(1000000000000000000000000000000000000000000000000000000000000:Nat) < 2 ^ 200:=by decide
  lia
 have:=(Nat.log2_lt h1).mpr h2
 lia
theorem uP:OpR X (binaryOp .FloorDiv) (rI zH λi j=>.int (i / j)):=opI λi j _ _ _ _ _ hc q=>by
 obtain⟨h0,h1⟩:=hc
 exact floordiv_int (by lia) (by rw [Int.fdiv_eq_ediv_of_nonneg i (by lia)];exact q) (.inl (PyProof.noPylong_of_log2 (wB h0 h1)))
noncomputable def zk (_:Sto):W->W->Option D
 | .d (.int i),.d (.int j)=>if 0 < j/\j < 1000000000000000000000000000000000000000000000000000000000000 then some (.int (i / j)) else none
 | _,_=>none
theorem yT:OpD K X (binaryOp .FloorDiv) zk:=jD (λ_=>rfl) (λ_ _=>rfl) λi j hc=>uP.imp λvx vy H Q h=>⟨i,j,h.1,h.2.1,hc,h.2.2⟩
end
end L2
namespace L2
open PySem PySem.Spec PyProof.Rows
section
variable {K:PySem.W.Frag}{X:Cx}{pos:Pos}{a b:Expr}{af:Af}
end
end L2
namespace L2
open PySem PySem.Spec PyProof.Rows
noncomputable def ge (a b:Ef):Ef
 | env,st=>(a env st).bind λx=>(b env x.2).bind λy=>match x.1,y.1 with
 | .h n,.d (.int i)=>(match y.2[n]? with
  | some (.n ws)=>(atI ws i).map λw=>(w,y.2)
  | _=>none)
 | _,_=>none
noncomputable def rG (a:Af):Ef
 | env,st=>(a env st).bind λr=>if r.1.length<=1000 then some (.h r.2.length,r.2++[.n r.1]) else none
noncomputable def i9 (o i v:Ef):Sf
 | env,st=>(v env st).bind λrv=>(o env rv.2).bind λro=>(i env ro.2).bind λri=>match ro.1,ri.1,rv.1 with
 | .h n,.d (.int k),.d x=>(match ri.2[n]? with
  | some (.n ws)=>(ixN ws.length k).map λj=>.nx env (ri.2.set n (.n (ws.set j (.d x))))
  | _=>none)
 | _,_,_=>none
noncomputable def tJ (ds:List D):List W->Option (D×List D)
 | [.d (.int i)]=>(ixN ds.length i).bind λk=>(ds[k]?).bind λd=>if gj d=true/\-(2 ^ 62)<=i/\i < 2 ^ 62 then some (d,ds.eraseIdx k) else none
 | _=>none
noncomputable def qM (i j l:Nat) (a:Af):Sf
 | env,st=>(a env st).bind λr=>match r.1 with
 | [x,y,z]=>some (.nx (((env.set i (some x)).set j (some y)).set l (some z)) r.2)
 | _=>none
section
variable {K:PySem.W.Frag}{X:Cx}{pos:Pos}{e a b c:Expr}{es:List Expr}{f fa fb:Ef}{af:Af}
theorem Rws.get {H:Hp}{φ:List Addr}:∀ {ds:List W}{vs:List V},Rws K H φ ds vs->∀ {i:Nat}{d:W},ds[i]?=some d->∃ v,vs[i]?=some v/\Rw K H φ d v
 | [],_,h,i,d,e=>by simp at e
 | d::ds,_,h,i,e,q=>by
  obtain⟨v,r,rfl,h1,h2⟩:=h
  cases i with
  | zero=>simp at q;subst q;exact⟨v,rfl,h1⟩
  | succ i=>simpa using Rws.get h2 (i:=i) (d:=e) (by simpa using q)
theorem Rws.set {H:Hp}{φ:List Addr}:∀ {ds:List W}{vs:List V} (n:Nat) {d:W}{v:V},Rws K H φ ds vs->Rw K H φ d v->Rws K H φ (ds.set n d) (vs.set n v)
 | [],_,_,_,_,h,_=>by cases h;exact rfl
 | e::ds,_,0,d,v,h,hd=>by
  obtain⟨u,r,rfl,h1,h2⟩:=h
  exact⟨v,r,rfl,hd,h2⟩
 | e::ds,_,n+1,d,v,h,hd=>by
  obtain⟨u,r,rfl,h1,h2⟩:=h
  exact⟨u,_,rfl,h1,Rws.set n h2 hd⟩
theorem Rws.mem {H:Hp}{φ:List Addr}:∀ {ds:List W}{vs:List V},Rws K H φ ds vs->∀ {m:Nat},W.h m ∈ ds->m < φ.length
 | [],_,_,m,hm=>nomatch hm
 | d::ds,_,h,m,hm=>by
  obtain⟨v,r,rfl,h1,h2⟩:=h
  rcases List.mem_cons.mp hm with z | z
  ·subst z
   obtain⟨a,e,_⟩:=h1
   exact (List.getElem?_eq_some_iff.mp e).1
  ·exact Rws.mem h2 z
theorem Sr.atn {H:Hp}{φ:List Addr}{st:Sto} (S:Sr K H φ st) {n:Nat}{p:Addr}{ws:List W} (e1:φ[n]?=some p) (e2:st[n]?=some (.n ws)):∃ vs,H p=some (.lst vs)/\Rws K H φ ws vs/\∀ m,W.h m ∈ ws->m < n:=S.at_ n p _ e1 e2
theorem w6 {H:Hp}{φ:List Addr}{ds:List W}{vs:List V}{i:Int}{d:W} (r:Rws K H φ ds vs) (e:atI ds i=some d):∃ v,atI vs i=some v/\Rw K H φ d v:=by
 unfold atI at e ⊢
 rw [<-r.length]
 obtain⟨j,e1,e2⟩:=Option.bind_eq_some_iff.mp e
 obtain⟨v,ev,rv⟩:=r.get e2
 exact⟨v,by rw [e1];exact ev,rv⟩
theorem dS (ha:IE K X a fa) (hb:IE K X b fb) (hs:jq b=true:=by rfl) (hK:X.K=K:=by rfl):IE K X (.Subscript a b pos) (ge fa fb):=by
 subst hK
 refine⟨λenv st r hr=>?_⟩
 simp only [ge,Option.bind_eq_some_iff] at hr
 obtain⟨⟨x,s1⟩,hx,⟨y,s2⟩,hy,hr⟩:=hr
 match x,y,hr with
 | .h n,.d (.int i),hr=>
  dsimp only at hr
  split at hr
  ·rename_i ws hws
   obtain⟨w,hw,rfl⟩:=Option.map_eq_some_iff.mp hr
   refine (xU qt (ha.run _ _ _ hx) (hb.run _ _ _ hy) (pj hs)).imp ?_
   rintro σ H Q ⟨φ,hE,hS,q⟩
   refine⟨φ,hE,hS,λv H1 φ1 f1 S1 w1=>⟨φ1,hE.fw hS f1,S1,λu H2 φ2 f2 S2 w2=>?_⟩⟩
   obtain⟨p,ep,rfl⟩:=w1.fw S1 f2
   obtain⟨vs,hv,rl,_⟩:=S2.atn ep hws
   obtain⟨z,ez,rz⟩:=w6 rl hw
   exact .inl ⟨p,vs,i,z,rfl,w2,SqL.of hv,ez,q z H2 φ2 (f1.trans f2) S2 rz⟩
  ·cases hr
theorem xt (h:IA K X es af):IE K X (.List es pos) (rG af):=by
 refine⟨λenv st r hr=>?_⟩
 simp only [rG,Option.bind_eq_some_iff] at hr
 obtain⟨y,hy,hr⟩:=hr
 split at hr
 ·cases hr
  rename_i hl
  refine (vA (h.run _ _ _ hy)).imp ?_
  rintro σ H Q ⟨φ,hE,hS,q⟩
  refine⟨φ,hE,hS,λvs H1 φ1 f1 s1 w1=>?_⟩
  refine⟨by rw [<-w1.length];exact ki hl,λp hp=>?_⟩
  exact q _ _ (φ1++[p]) (f1.trans (Fw.more hp)) (s1.moreC hp ⟨vs,aW,w1.fw s1 (Fw.more hp),λm hm=>w1.mem hm⟩) ⟨p,by rw [<-s1.len];simp,rfl⟩
 ·cases hr
theorem r8 {tpos:Pos} (ho:IE K X a fa) (hi:IE K X b fb) (hv:IE K X e f) (hb:jq b=true:=by rfl) (hs:swapsWithSole [.Subscript a b tpos] e pos.line X.env=pure false:=by rfl) (hw:swappedStores [.Subscript a b tpos] e X.env=pure none:=by rfl) :
  IS K X (.Assign [.Subscript a b tpos] e pos) (i9 fa fb f):=by
 refine⟨λenv st r hr=>?_⟩
 simp only [i9,Option.bind_eq_some_iff] at hr
 obtain⟨⟨rv,s1⟩,ev,⟨ro,s2⟩,eo,⟨ri,s3⟩,ei,hr⟩:=hr
 match ro,ri,rv,hr with
 | .h n,.d (.int k),.d x,hr=>
  dsimp only at hr
  split at hr
  ·rename_i ws hws
   obtain⟨j,ej,rfl⟩:=Option.map_eq_some_iff.mp hr
   refine (tZ (hv.run _ _ _ ev) (uF (ho.run _ _ _ eo) (hi.run _ _ _ ei) oA (rH hb)) hs hw (qN rfl)).imp ?_
   rintro D σ H ⟨φ,hE,hS,q⟩
   refine⟨φ,hE,hS,λv H1 φ1 f1 s1 w1=>⟨φ1,hE.fw hS f1,s1,λo H2 φ2 f2 s2 w2=>⟨φ2,(hE.fw hS f1).fw s1 f2,s2,λi H3 φ3 f3 s3 w3=>?_⟩⟩⟩
   have e3:=((hE.fw hS f1).fw s1 f2).fw s2 f3
   have w1':=(w1.fw s1 f2).fw s2 f3
   obtain⟨p,ep,rfl⟩:=w2.fw s2 f3
   obtain⟨vs,hp,rl,bd⟩:=s3.atn ep hws
   have w3':i=.int k:=w3
   subst w3'
   obtain⟨f4,s4⟩:=s3.putC (o:=.lst (vs.set j v)) (c:=.n (ws.set j (.d x))) ep λf=>⟨_,aW,(Rws.set j rl w1').fw s3 f,λm hm=>by
    rcases List.mem_or_eq_of_mem_set hm with z | z
    ·exact bd m z
    ·cases z⟩
   refine⟨p,vs,k,j,rfl,rfl,hp,by rw [<-rl.length];exact ej,?_⟩
   exact q _ _ φ3 (((f1.trans f2).trans f3).trans f4) (e3.fw s3 f4) s4
  ·cases hr
theorem Rls.erase {H:Hp}{φ:List Addr}:∀ {ds:List D}{vs:List V} (n:Nat),Rls K H φ ds vs->Rls K H φ (ds.eraseIdx n) (vs.eraseIdx n)
 | [],_,_,h=>by cases h;exact rfl
 | d::ds,_,0,h=>by
  obtain⟨v,r,rfl,h1,h2⟩:=h
  exact h2
 | d::ds,_,n+1,h=>by
  obtain⟨v,r,rfl,h1,h2⟩:=h
  exact⟨v,_,rfl,h1,Rls.erase n h2⟩
theorem x9 {apos:Pos} (ho:IE K X a fa) (ha:IA K X (e::es) af) (hbase:attributeBase a "pop" X.env (eval a X.env)=eval a X.env:=by rfl)
  (hall:(e::es).all aO=true:=by rfl) (hfl30:(e::es).length < 30:=by decide) (hline:(apos.endLine==pos.line)=true:=by rfl) (hK:X.K=K:=by rfl) :
  IE K X (.Call (.Attribute a "pop" apos) (e::es) [] pos) (g6 tJ fa af):=by
 refine vp PySem.F.slot_list_pop PySem.F.type_list_pop uV (λH φ st n ad ds vs ws us y Q S ea eds hv rl rw hy q=>?_) (λds ws y h=>?_) ho ha hbase hall hfl30 hline hK
 ·match ws,hy with
  | [.d (.int i)],hy=>
   simp only [tJ,Option.bind_eq_some_iff] at hy
   obtain⟨k,hk,d,hd,hy⟩:=hy
   split at hy
   ·rename_i hl
    cases hy
    obtain⟨v,r,rfl,r1,rfl⟩:=rw
    obtain⟨x,ex,rx⟩:=rl.get hd
    refine⟨ad,vs,i,k,x,rfl,by rw [show v=.int i from r1],hv,by lia,by lia,by rw [<-rl.length];exact (nr hk).1,ex,q _ _ rx (rl.erase k) λb z=>?_⟩
    obtain⟨z1,z2⟩:=i7 hl.1 rx
    rw [z] at z2
    cases z2
   ·cases hy
 ·match ws,h with
  | [.d (.int i)],h=>
   simp only [tJ,Option.bind_eq_some_iff] at h
   obtain⟨k,hk,d,hd,h⟩:=h
   split at h
   ·rename_i hl
    cases h;exact hl.1
   ·cases h
noncomputable def Ap (i j l:Nat) (ta:TA):TS:=λD σ H=>ta σ H λvs H1=>∃ v w u,vs=[v,w,u]/\D.nx (((σ.set i (some v)).set j (some w)).set l (some u)) H1
theorem wq {i j l:Nat}{x y z:Str}{ta:TA}{px py pz pt:Pos}{kt k2 pt2} (hc:X.calm=true) (hN:X.N.Nodup) (hi:X.N[i]?=some x) (hj:X.N[j]?=some y) (hl:X.N[l]?=some z) (hij:i≠j) (hil:i≠l) (hjl:j≠l)
  (hx:X.env.scope.names.lookup x=some .local) (hy:X.env.scope.names.lookup y=some .local) (hz:X.env.scope.names.lookup z=some .local) (ha:PA X [a,b,c] ta)
  (hw:swappedStores [.Tuple [.Name x px,.Name y py,.Name z pz] kt pt] (.Tuple [a,b,c] k2 pt2) X.env=pure (some [x,y,z]))
  (hs:swapsWithSole [.Tuple [.Name x px,.Name y py,.Name z pz] kt pt] (.Tuple [a,b,c] k2 pt2) pos.line X.env=pure false) :
  PS X (.Assign [.Tuple [.Name x px,.Name y py,.Name z pz] kt pt] (.Tuple [a,b,c] k2 pt2) pos) (Ap i j l ta):=by
 intro pins s σ H D I h
 rw [exec_Assign_arm]
 refine wpAny_bind (wpAny_standAt ?_)
 rw [hs]
 refine wpAny_bind (wpAny_pure ?_)
 rw [if_neg (by decide)]
 refine wpAny_bind (Tuple_ (thn (ha _ pins s σ H _ I h) λus s1 ⟨vs,H1,I1,r1,q1⟩=>?_))
 obtain⟨v,w,u,e1,q1⟩:=q1
 subst e1
 obtain⟨u1,u2,u3,rfl,rv,rw',ru⟩:∃ u1 u2 u3,us=[u1,u2,u3]/\aX v u1/\aX w u2/\aX u u3:=by
  cases r1 with
  | cons p q=>
   cases q with
   | cons p' q'=>
    cases q' with
    | cons p2 q2=>
     cases q2
     exact⟨_,_,_,rfl,p,p',p2⟩
 refine wpAny_newObj_type ?_ (by show 3<=sizeLine;decide)
 have I2:Inv X pins σ H1 { s1 with heap:=s1.heap.push { cls:=.type "tuple",data:=.seq [u1,u2,u3].toArray } }:=I1.kept (t':=s1.toks) λb o e=>Heap.get?_push_of_some _ e
 rw [hw]
 refine wpAny_bind (wpAny_pure ?_)
 show wpAny (model X.prog X.w) X.A (do rule "assign.swapped-stores";let items <-unpackItems (.ref s1.heap.objs.size) 3 none;assignInOrder [λv=>bindName X.env z v,λv=>bindName X.env y v,λv=>bindName X.env x v] items.reverse;pure Flow.next) _ _ _
 refine wpAny_bind (wpAny_rule (wpAny_bind (unpackItems_tuple (items:=#[u1,u2,u3]) (I.ok.hd hc) (IsTup.new s1.heap _) λh' hx'=>?_)))
 have I3:=I2.kept (h':=h') (t':=s1.toks) λb o e=>hx' b o (Nat.ne_of_lt (Heap.lt_size e)) e
 show wpAny _ _ (assignInOrder [λv=>bindName X.env z v,λv=>bindName X.env y v,λv=>bindName X.env x v] [u3,u2,u1] >>= λ_=>pure Flow.next) _ _ _
 refine wpAny_bind (assignInOrder_cons (wpAny_bindName (fv I3 hN hl (.inl hz) ru (λs2 I4=>?_) (.inr hz))))
 refine assignInOrder_cons (wpAny_bindName (fv I4 hN hj (.inl hy) rw' (λs3 I5=>?_) (.inr hy)))
 refine assignInOrder_cons (wpAny_bindName (fv I5 hN hi (.inl hx) rv (λs4 I6=>assignInOrder_nil (wpAny_pure ?_)) (.inr hx)))
 rw [List.set_comm _ _ (Ne.symm hij),List.set_comm _ _ (Ne.symm hil),List.set_comm _ _ (Ne.symm hjl)] at I6
 exact⟨_,H1,I6,q1⟩
theorem wj {i j l:Nat}{x y z:Str}{px py pz pt:Pos}{kt k2 pt2} (hc:X.calm=true) (hN:X.N.Nodup) (hi:X.N[i]?=some x) (hj:X.N[j]?=some y) (hl:X.N[l]?=some z) (hij:i≠j) (hil:i≠l) (hjl:j≠l)
  (hx:X.env.scope.names.lookup x=some .local) (hy:X.env.scope.names.lookup y=some .local) (hz:X.env.scope.names.lookup z=some .local) (ha:IA K X [a,b,c] af)
  (hw:swappedStores [.Tuple [.Name x px,.Name y py,.Name z pz] kt pt] (.Tuple [a,b,c] k2 pt2) X.env=pure (some [x,y,z]))
  (hs:swapsWithSole [.Tuple [.Name x px,.Name y py,.Name z pz] kt pt] (.Tuple [a,b,c] k2 pt2) pos.line X.env=pure false) :
  IS K X (.Assign [.Tuple [.Name x px,.Name y py,.Name z pz] kt pt] (.Tuple [a,b,c] k2 pt2) pos) (qM i j l af):=by
 refine⟨λenv st r hr=>?_⟩
 simp only [qM,Option.bind_eq_some_iff] at hr
 obtain⟨⟨ws,s1⟩,hy',hr⟩:=hr
 match ws,hr with
 | [wx,wy,wz],hr=>
  cases hr
  refine (wq hc hN hi hj hl hij hil hjl hx hy hz (ha.run _ _ _ hy') hw hs).imp ?_
  rintro D σ H ⟨φ,hE,hS,q⟩
  refine⟨φ,hE,hS,λvs H1 φ1 f1 S1 w1=>?_⟩
  obtain⟨v,r,rfl,r1,u,r',rfl,r2,u3,r'',rfl,r3,r4⟩:=w1
  cases r4
  exact⟨v,u,u3,rfl,q _ H1 φ1 f1 ((((hE.fw hS f1).set i r1).set j r2).set l r3) S1⟩
end
end L2
namespace L2
open PySem PySem.Spec PyProof.Rows
noncomputable def zg (_:Sto):List W->Option D
 | [.d (.tup ds)]=>(bV ds).map λns=>.bl (ns.any λn=>decide (n≠0))
 | _=>none
section
variable {K:PySem.W.Frag}{X:Cx}
theorem sQ:bR X (.builtin "any") (λxs H Q=>X.calm=true/\∃ (a:Addr) (ns:List Int),xs=[.ref a]/\H a=some (.tup (ns.map V.int))/\Q (.bl (ns.any λn=>decide (n≠0))) H):=by
 intro pins s σ H xs us Q I rv h
 obtain⟨hc,a,bs,rfl,hq,q⟩:=h
 obtain⟨u1,rfl,ru1⟩:=g9 rv
 cases ru1
 obtain⟨z,its,rv,p⟩:=(show cv X.prog X.w H s.heap a (.tup (bs.map V.int)) from I.hok a _ hq)
 have pt:s.heap.IsTuple a its.toArray:=p.tup
 have hlt:a < s.heap.objs.size:=let ⟨_,e,_⟩:=p;Heap.lt_size e
 have hlen:its.length=bs.length:=by have:=rv.length;simpa using this.symm
 refine call_any_walk (wpAny_pyIter_tuple pt ?_)
 refine⟨s.heap.objs.size,_,_,_,_,_,λi=>decide ((bs[i]?).getD 0≠0),rfl,Walks.tuple (A:=X.A.in1) (I.ok.hd hc) s.heap.objs.size a (Nat.ne_of_lt hlt) its.toArray,⟨⟨_,Heap.get?_push_size _ rfl,rfl,rfl⟩,pt.push _⟩,?_,λh' tk hk=>?_⟩
 ·intro i v s' Q' E' hv hQ'
  have hv':its[i]?=some v:=by simpa using hv
  have hi:i < its.length:=(List.getElem?_eq_some_iff.mp hv').1
  obtain⟨b,hb⟩:∃ b,bs[i]?=some b:=⟨bs[i]'(by lia),by simp [show i < bs.length by lia]⟩
  have:(bs.map V.int)[i]?=some (.int b):=by rw [List.getElem?_map,hb];rfl
  obtain⟨u,hu,ru⟩:=rv.get this
  rw [hv'] at hu
  cases hu
  obtain⟨t,rfl⟩:=ru
  have hQ2:Q' (decide ((bs[i]?).getD 0≠0)) s':=hQ'
  rw [hb] at hQ2
  refine PyProof.Rows.truthy_int ?_
  have e:(b != 0)=decide (b≠0):=by
   by_cases h:b=0
   ·subst h;rfl
   ·rw [decide_eq_true h];simpa using h
  rw [e];exact hQ2
 ·refine⟨.bl (bs.any λn=>decide (n≠0)),H,I.kept (t':=tk) (λb o e=>hk b o (λz=>absurd (Heap.lt_size e) (by rw [List.mem_singleton.mp z];exact Nat.lt_irrefl _)) (Heap.get?_push_of_some _ e)),?_,q⟩
  show Value.bool _=Value.bool _
  congr 1
  have:∀ n,n=bs.length->((List.range n).any λi=>decide ((bs[i]?).getD 0≠0))=bs.any λn=>decide (n≠0):=by
   intro n hn
   subst hn
   apply Bool.eq_iff_iff.mpr
   rw [List.any_eq_true,List.any_eq_true]
   constructor
   ·rintro⟨i,hi,h⟩
    have hi':=List.mem_range.mp hi
    refine⟨bs[i],List.getElem_mem hi',?_⟩
    rw [List.getElem?_eq_getElem hi'] at h
    exact h
   ·rintro⟨x,hx,h⟩
    obtain⟨i,hi,rfl⟩:=List.getElem_of_mem hx
    refine⟨i,List.mem_range.mpr hi,?_⟩
    rw [List.getElem?_eq_getElem hi]
    exact h
  exact this _ (by simpa using hlen)
theorem zw (hc:X.calm=true:=by rfl) (hK:X.K=K:=by rfl):eS K X (.builtin "any") zg:=by
 subst hK
 refine⟨λst ws d h=>?_⟩
 match ws,h with
 | [.d (.tup ds)],h=>
  obtain⟨ns,e,rfl⟩:=Option.map_eq_some_iff.mp h
  cases cw e
  refine bR.imp sQ ?_
  rintro vs H Q ⟨φ,S,⟨v,r,rfl,⟨a,us,rfl,h1,h2⟩,rfl⟩,q⟩
  cases h2.ints
  exact⟨hc,a,ns,rfl,h1,q _ H (bp.refl H) rfl⟩
end
end L2
namespace L2
open PySem PySem.Spec PyProof.Rows
section
variable {prog:Program}{w:World}{A:Around}{s:Shared}{I l S:Addr}{items:Array Value}{ns:List Int}{kw:List (Str×Value)}{R:Result->Shared->Prop}
theorem wl (hh:A.handled=none) (hi:IntsAre items.toList ns) (hSI:S≠I) (hlI:l≠I) (hlS:l≠S):∀ (rest:List Int) (j:Nat) (s:Shared) (m:Int) (t:Tok) (c:Nat),ns.drop j=rest->s.heap.IsTupleIter I l j->s.heap.IsTuple l items->
  s.heap.get? S=some { cls:=.type "list",dict:=none,data:=.seq #[.int m t,.int m t] c,slots:=#[] }->
  (∀ t' h',(∀ b o,b≠I->b≠S->s.heap.get? b=some o->h'.get? b=some o)->R (.ok (.ret (.int (ig rest m) t'))) { s with heap:=h' })->codeAny (model prog w) A (.builtin "max.loop" ⟨[.ref I,.none,.ref S],kw⟩) R s:=by
 have hname:(toString "max"++toString ".loop" : String) = "max.loop":=by decide
 intro rest
 induction rest with
 | nil=>
  intro j s m t c hd hit hl hS hR
  have hn:ns[j]?=none:=by
   rw [List.getElem?_eq_none_iff]
   have:=congrArg List.length hd
   simp at this;lia
  refine codeAny_builtin F.entry_max_loop ?_
  rw [Around.under_plainId F.plain_max_loop _]
  show wpAny _ A.in1 (seqItems? (.ref S) >>= _) _ _ s
  refine wpAny_bind (wpAny_seqItems hS rfl ?_)
  show wpAny _ A.in1 (tryCatch (pyNext (.ref I)) _ >>= _) _ _ s
  refine wpAny_bind (wpAny_tryCatch (wpAny_pyNext_tuple_end hh hit hl (fz hi hn) λh1 e1=>?_))
  show wpAny _ A.in1 (updateSeq S (λ_=>#[]) >>= _) _ _ _
  refine wpAny_bind (wpAny_updateSeq (e1 _ _ hSI hS) rfl (wpAny_bind (wpAny_letGo (wpAny_pure ?_))))
  exact hR t _ λb o hb1 hb2 q=>(Heap.get?_update_other _ _ (Ne.symm hb2)).trans (e1 _ _ hb1 q)
 | cons n rest ih=>
  intro j s m t c hd hit hl hS hR
  have hn:ns[j]?=some n:=by
   have:=congrArg (λl=>l[0]?) hd
   simpa using this
  have hd':ns.drop (j+1)=rest:=by
   have:=congrArg (List.drop 1) hd
   simpa [List.drop_drop,Nat.add_comm] using this
  obtain⟨tn,hx⟩:=fu hi hn
  refine codeAny_builtin F.entry_max_loop ?_
  rw [Around.under_plainId F.plain_max_loop _]
  show wpAny _ A.in1 (seqItems? (.ref S) >>= _) _ _ s
  refine wpAny_bind (wpAny_seqItems hS rfl ?_)
  show wpAny _ A.in1 (tryCatch (pyNext (.ref I)) _ >>= _) _ _ s
  refine wpAny_bind (wpAny_tryCatch (wpAny_pyNext_tuple_item hit hl hx λh1 hit1 s1=>?_))
  have e1:=s1.extBut
  have hS1:=e1 _ _ hSI hS
  show wpAny _ A.in1 (tryCatch (holding [.int n tn,.int n tn] (richCompare .Gt (.int n tn) (.int m t) >>= _)) _ >>= _) _ _ _
  refine wpAny_bind (wpAny_tryCatch (wpAny_holding (wpAny_bind (PyProof.Rows.gt_int ?_))))
  refine wpAny_bind (wpAny_holding (wpAny_truthy_bool ?_))
  refine wpAny_bind (wpAny_letGo (wpAny_pure ?_))
  by_cases hb:n > m
  ·have hb':decide (n > m)=true:=by simp [hb]
   rw [hb']
   simp only [if_true]
   refine wpAny_bind (wpAny_updateSeq hS1 rfl (wpAny_bind (wpAny_letGo ?_)))
   rw [hname]
   refine wpAny_pure ⟨plainId_quiet F.plain_max_loop _,ih (j+1) _ n tn _ hd' (hit1.at λo q=>(Heap.get?_update_other _ _ hSI).trans q) (Heap.IsTuple.at hl λo q=>(Heap.get?_update_other _ _ (Ne.symm hlS)).trans (e1 _ _ hlI q)) (Heap.get?_update_self _ hS1 rfl) λt' h' k=>?_⟩
   have:=hR t' h' λb o hb1 hb2 q=>k b o hb1 hb2 ((Heap.get?_update_other _ _ (Ne.symm hb2)).trans (e1 _ _ hb1 q))
   rw [ig,if_pos hb] at this
   exact this
  ·have hb':decide (n > m)=false:=by simp [hb]
   rw [hb']
   simp only [Bool.false_eq_true,if_false]
   refine wpAny_bind (wpAny_letGo ?_)
   rw [hname]
   refine wpAny_pure ⟨plainId_quiet F.plain_max_loop _,ih (j+1) _ m t c hd' hit1 (Heap.IsTuple.at hl λo q=>e1 _ _ hlI q) hS1 λt' h' k=>?_⟩
   have:=hR t' h' λb o hb1 hb2 q=>k b o hb1 hb2 (e1 _ _ hb1 q)
   rw [ig,if_neg hb] at this
   exact this
variable {E:Value->Shared->Prop}
theorem pO (hh:A.handled=none) (hi:IntsAre items.toList ns) (hSI:S≠I) (hlI:l≠I) (hlS:l≠S) {c:Nat} (hit:s.heap.IsTupleIter I l 0) (hl:s.heap.IsTuple l items) (hS:s.heap.get? S=some { cls:=.type "list",dict:=none,data:=.seq #[] c,slots:=#[] })
  (hR:∀ v h',(∀ b o,b≠I->b≠S->s.heap.get? b=some o->h'.get? b=some o)->(∀ n r,ns=n::r->∃ t,v=.int (ig r n) t)->(ns=[]->∃ k,kw=[(k,v)])->R (.ok (.ret v)) { s with heap:=h' })
  (h0:ns=[]->∃ k v,kw=[(k,v)]):codeAny (model prog w) A (.builtin "max.loop" ⟨[.ref I,.none,.ref S],kw⟩) R s:=by
 have hname:(toString "max"++toString ".loop" : String) = "max.loop":=by decide
 refine codeAny_builtin F.entry_max_loop ?_
 rw [Around.under_plainId F.plain_max_loop _]
 show wpAny _ A.in1 (seqItems? (.ref S) >>= _) _ _ s
 refine wpAny_bind (wpAny_seqItems hS rfl ?_)
 show wpAny _ A.in1 (tryCatch (pyNext (.ref I)) _ >>= _) _ _ s
 cases hn:ns with
 | nil=>
  obtain⟨k,v,rfl⟩:=h0 hn
  refine wpAny_bind (wpAny_tryCatch (wpAny_pyNext_tuple_end hh hit hl (fz hi (j:=0) (by rw [hn];rfl)) λh1 e1=>?_))
  refine wpAny_bind (wpAny_rule (wpAny_pure ?_))
  exact hR v _ (λb o hb1 _ q=>e1 _ _ hb1 q) (λn r e=>by rw [hn] at e;cases e) λ_=>⟨k,rfl⟩
 | cons n rest=>
  obtain⟨tn,hx⟩:=fu hi (j:=0) (n:=n) (by rw [hn];rfl)
  refine wpAny_bind (wpAny_tryCatch (wpAny_pyNext_tuple_item hit hl hx λh1 hit1 s1=>?_))
  have e1:=s1.extBut
  have hS1:=e1 _ _ hSI hS
  show wpAny _ A.in1 (updateSeq S (λ_=>#[.int n tn,.int n tn]) >>= _) _ _ _
  refine wpAny_bind (wpAny_updateSeq hS1 rfl ?_)
  rw [hname]
  refine wpAny_pure ⟨plainId_quiet F.plain_max_loop _,wl hh hi hSI hlI hlS rest 1 _ n tn _ (by rw [hn];rfl) (hit1.at λo q=>(Heap.get?_update_other _ _ hSI).trans q) (Heap.IsTuple.at hl λo q=>(Heap.get?_update_other _ _ (Ne.symm hlS)).trans (e1 _ _ hlI q)) (Heap.get?_update_self _ hS1 rfl) λt' h' k=>?_⟩
  exact hR _ h' (λb o hb1 hb2 q=>k b o hb1 hb2 ((Heap.get?_update_other _ _ (Ne.symm hb2)).trans (e1 _ _ hb1 q))) (λn' r' e=>by rw [hn] at e;cases e;exact⟨t',rfl⟩) λe=>by rw [hn] at e;cases e
theorem lU {Q:Value->Shared->Prop} (hh:A.handled=none) (hi:IntsAre items.toList ns) (hl:s.heap.IsTuple l items) (hk:kw=[]\/∃ v,kw=[(Str.ofString "default",v)]) (h0:ns=[]->kw≠[])
  (h:∀ v h',(∀ b o,s.heap.get? b=some o->h'.get? b=some o)->(∀ n r,ns=n::r->∃ t,v=.int (ig r n) t)->(ns=[]->∃ k,kw=[(k,v)])->Q v { s with heap:=h' }) :
  wpAny (model prog w) A (call (.builtin "max") [.ref l] kw) Q E s:=by
 have hname:(toString "max"++toString ".loop" : String) = "max.loop":=by decide
 have hlt:l < s.heap.objs.size:=by obtain⟨_,e,_⟩:=hl;exact Heap.lt_size e
 have hsz:(s.heap.push { cls:=.type "tuple_iterator",data:=.fields #[.ref l,.int 0 0] }).objs.size=s.heap.objs.size+1:=Heap.size_push ..
 have fin:∀ dd:List Value,kw=dd.map (λd=>((Str.ofString "default",d):Str×Value))->wpAny (model prog w) A.in1 (do
   let it <-pyIter (.ref l)
   let b <-newList []
   PySem.again (.builtin "max.loop" ⟨[it,.none,b],dd.map λd=>(Str.ofString "default",d)⟩)) (λfin s'=>match fin with
   | .done f=>(match (Except.ok f:Result) with | .ok (.ret v)=>Q v s' | .ok _=>False | .error e=>E e s')
   | .again c'=>c'.quiet=true/\codeAny (model prog w) A c' (λr s'=>match r with | .ok (.ret v)=>Q v s' | .ok _=>False | .error e=>E e s') s') E s:=λdd hdd=>by
  refine wpAny_bind (wpAny_pyIter_tuple hl (wpAny_bind (wpAny_newObj_type ?_)))
  refine wpAny_pure ⟨plainId_quiet F.plain_max_loop _,?_⟩
  rw [<-hdd]
  refine pO (S:=(s.heap.push { cls:=.type "tuple_iterator",data:=.fields #[.ref l,.int 0 0] }).objs.size) (I:=s.heap.objs.size) (l:=l) hh hi (by rw [hsz];exact Nat.succ_ne_self _) (Nat.ne_of_lt hlt) (by rw [hsz];exact Nat.ne_of_lt (Nat.lt_succ_of_lt hlt))
   ⟨_,Heap.get?_push_of_some _ (Heap.get?_push_size _ rfl),rfl,rfl⟩ (Heap.IsTuple.at hl λo q=>Heap.get?_push_of_some _ (Heap.get?_push_of_some _ q)) (Heap.get?_push_size _ rfl) (λv h' k h1 h2=>?_) (λe=>?_)
  ·refine h v h' (λb o q=>?_) h1 h2
   have hb:=Heap.lt_size q
   exact k b o (Nat.ne_of_lt hb) (by rw [hsz];exact Nat.ne_of_lt (Nat.lt_succ_of_lt hb)) (Heap.get?_push_of_some _ (Heap.get?_push_of_some _ q))
  ·rcases hk with hk | ⟨v,hk⟩
   ·exact absurd hk (h0 e)
   ·exact⟨_,v,hk⟩
 rcases hk with rfl | ⟨v,rfl⟩
 ·refine dc F.kind_max F.plain_max F.entry_max (F.args_max1 _) ?_
  show wpAny _ A.in1 (Builtin.Builtins.bindParams "max" ["key","default"] 0 ⟨[],[]⟩ >>= _) _ _ s
  refine wpAny_bind (wpAny_of_eq (show Builtin.Builtins.bindParams "max" ["key","default"] 0 ⟨[],[]⟩=pure [none,none] from rfl) ?_)
  refine wpAny_bind (wpAny_pure ?_)
  have:=fin [] rfl
  rw [<-hname] at this
  exact this
 ·refine dc F.kind_max F.plain_max F.entry_max (mC _ _) ?_
  show wpAny _ A.in1 (Builtin.Builtins.bindParams "max" ["key","default"] 0 ⟨[],[(Str.ofString "default",v)]⟩ >>= _) _ _ s
  refine wpAny_bind (wpAny_of_eq (show Builtin.Builtins.bindParams "max" ["key","default"] 0 ⟨[],[(Str.ofString "default",v)]⟩=pure [none,some v] from by kernel_rfl) ?_)
  refine wpAny_bind (wpAny_pure ?_)
  have:=fin [v] rfl
  rw [<-hname] at this
  exact this
end
noncomputable def wW (st:Sto) (ws:List W):Option D:=match ws with
 | [.d (.tup ds)]=>(bV ds).bind λns=>(nY ns none).map D.int
 | ws=>dMx st ws
section
variable {K:PySem.W.Frag}{X:Cx}
theorem y8 (hc:X.calm=true:=by rfl):eS K X (.builtin "max") wW:=by
 refine⟨λst ws d h=>?_⟩
 unfold wW at h
 split at h
 next ds=>
  obtain⟨ns,e1,h⟩:=Option.bind_eq_some_iff.mp h
  obtain⟨r,e2,rfl⟩:=Option.map_eq_some_iff.mp h
  cases cw e1
  intro pins s σ H xs us Q I rv q
  obtain⟨φ,S,⟨v,rr,rfl,⟨ad,vs,rfl,h1,h2⟩,rfl⟩,q⟩:=q
  cases h2.ints
  obtain⟨u,rfl,ru⟩:=g9 rv
  cases ru
  obtain⟨z,its,rv,p⟩:=(show cv X.prog X.w H s.heap ad (.tup (ns.map V.int)) from I.hok ad _ h1)
  have pt:s.heap.IsTuple ad its.toArray:=p.tup
  refine lU (items:=its.toArray) (ns:=ns) (I.ok.hd hc) (by simpa using eI rv) pt (.inl rfl) (λe=>by rw [e] at e2;cases e2) λv h' kp a1 a2=>?_
  have hv:∃ t,v=.int r t:=by
   cases hn:ns with
   | nil=>rw [hn] at e2;cases e2
   | cons n r2=>rw [hn] at e2;cases e2;exact a1 n r2 hn
  exact⟨.int r,H,I.kept kp,hv,q _ H (bp.refl H) rfl⟩
 ·exact (Al (K:=K) (X:=X) hc).run st ws d h
end
end L2
namespace L2
open PySem PySem.Spec PyProof.Rows
noncomputable def mB (ns:List Int) (d:Option Int):Option Int:=match ns with
 | n::r=>some (lh r n)
 | []=>d
section
variable {prog:Program}{w:World}{A:Around}{s:Shared}{I l S:Addr}{items:Array Value}{ns:List Int}{kw:List (Str×Value)}{R:Result->Shared->Prop}
theorem yP (hh:A.handled=none) (hi:IntsAre items.toList ns) (hSI:S≠I) (hlI:l≠I) (hlS:l≠S):∀ (rest:List Int) (j:Nat) (s:Shared) (m:Int) (t:Tok) (c:Nat),ns.drop j=rest->s.heap.IsListIter I l j->s.heap.IsList l items->
  s.heap.get? S=some { cls:=.type "list",dict:=none,data:=.seq #[.int m t,.int m t] c,slots:=#[] }->
  (∀ t' h',(∀ b o,b≠I->b≠S->s.heap.get? b=some o->h'.get? b=some o)->R (.ok (.ret (.int (lh rest m) t'))) { s with heap:=h' })->codeAny (model prog w) A (.builtin "min.loop" ⟨[.ref I,.none,.ref S],kw⟩) R s:=by
 have hname:(toString "min"++toString ".loop" : String) = "min.loop":=by decide
 intro rest
 induction rest with
 | nil=>
  intro j s m t c hd hit hl hS hR
  have hn:ns[j]?=none:=by
   rw [List.getElem?_eq_none_iff]
   have:=congrArg List.length hd
   simp at this;lia
  refine codeAny_builtin F.entry_min_loop ?_
  rw [Around.under_plainId F.plain_min_loop _]
  show wpAny _ A.in1 (seqItems? (.ref S) >>= _) _ _ s
  refine wpAny_bind (wpAny_seqItems hS rfl ?_)
  show wpAny _ A.in1 (tryCatch (pyNext (.ref I)) _ >>= _) _ _ s
  refine wpAny_bind (wpAny_tryCatch (wpAny_pyNext_list_end hh hit hl (fz hi hn) λh1 e1=>?_))
  show wpAny _ A.in1 (updateSeq S (λ_=>#[]) >>= _) _ _ _
  refine wpAny_bind (wpAny_updateSeq (e1 _ _ hSI hS) rfl (wpAny_bind (wpAny_letGo (wpAny_pure ?_))))
  exact hR t _ λb o hb1 hb2 q=>(Heap.get?_update_other _ _ (Ne.symm hb2)).trans (e1 _ _ hb1 q)
 | cons n rest ih=>
  intro j s m t c hd hit hl hS hR
  have hn:ns[j]?=some n:=by
   have:=congrArg (λl=>l[0]?) hd
   simpa using this
  have hd':ns.drop (j+1)=rest:=by
   have:=congrArg (List.drop 1) hd
   simpa [List.drop_drop,Nat.add_comm] using this
  obtain⟨tn,hx⟩:=fu hi hn
  refine codeAny_builtin F.entry_min_loop ?_
  rw [Around.under_plainId F.plain_min_loop _]
  show wpAny _ A.in1 (seqItems? (.ref S) >>= _) _ _ s
  refine wpAny_bind (wpAny_seqItems hS rfl ?_)
  show wpAny _ A.in1 (tryCatch (pyNext (.ref I)) _ >>= _) _ _ s
  refine wpAny_bind (wpAny_tryCatch (wpAny_pyNext_list_item hit hl hx λh1 hit1 s1=>?_))
  have e1:=s1.extBut
  have hS1:=e1 _ _ hSI hS
  show wpAny _ A.in1 (tryCatch (holding [.int n tn,.int n tn] (richCompare .Lt (.int n tn) (.int m t) >>= _)) _ >>= _) _ _ _
  refine wpAny_bind (wpAny_tryCatch (wpAny_holding (wpAny_bind (PyProof.Rows.lt_int ?_))))
  refine wpAny_bind (wpAny_holding (wpAny_truthy_bool ?_))
  refine wpAny_bind (wpAny_letGo (wpAny_pure ?_))
  by_cases hb:n < m
  ·have hb':decide (n < m)=true:=by simp [hb]
   rw [hb']
   simp only [if_true]
   refine wpAny_bind (wpAny_updateSeq hS1 rfl (wpAny_bind (wpAny_letGo ?_)))
   rw [hname]
   refine wpAny_pure ⟨plainId_quiet F.plain_min_loop _,ih (j+1) _ n tn _ hd' (hit1.at λo q=>(Heap.get?_update_other _ _ hSI).trans q) (Heap.IsList.at hl λo q=>(Heap.get?_update_other _ _ (Ne.symm hlS)).trans (e1 _ _ hlI q)) (Heap.get?_update_self _ hS1 rfl) λt' h' k=>?_⟩
   have:=hR t' h' λb o hb1 hb2 q=>k b o hb1 hb2 ((Heap.get?_update_other _ _ (Ne.symm hb2)).trans (e1 _ _ hb1 q))
   rw [lh,if_pos hb] at this
   exact this
  ·have hb':decide (n < m)=false:=by simp [hb]
   rw [hb']
   simp only [Bool.false_eq_true,if_false]
   refine wpAny_bind (wpAny_letGo ?_)
   rw [hname]
   refine wpAny_pure ⟨plainId_quiet F.plain_min_loop _,ih (j+1) _ m t c hd' hit1 (Heap.IsList.at hl λo q=>e1 _ _ hlI q) hS1 λt' h' k=>?_⟩
   have:=hR t' h' λb o hb1 hb2 q=>k b o hb1 hb2 (e1 _ _ hb1 q)
   rw [lh,if_neg hb] at this
   exact this
variable {E:Value->Shared->Prop}
theorem sV (hh:A.handled=none) (hi:IntsAre items.toList ns) (hSI:S≠I) (hlI:l≠I) (hlS:l≠S) {c:Nat} (hit:s.heap.IsListIter I l 0) (hl:s.heap.IsList l items) (hS:s.heap.get? S=some { cls:=.type "list",dict:=none,data:=.seq #[] c,slots:=#[] })
  (hR:∀ v h',(∀ b o,b≠I->b≠S->s.heap.get? b=some o->h'.get? b=some o)->(∀ n r,ns=n::r->∃ t,v=.int (lh r n) t)->(ns=[]->∃ k,kw=[(k,v)])->R (.ok (.ret v)) { s with heap:=h' })
  (h0:ns=[]->∃ k v,kw=[(k,v)]):codeAny (model prog w) A (.builtin "min.loop" ⟨[.ref I,.none,.ref S],kw⟩) R s:=by
 have hname:(toString "min"++toString ".loop" : String) = "min.loop":=by decide
 refine codeAny_builtin F.entry_min_loop ?_
 rw [Around.under_plainId F.plain_min_loop _]
 show wpAny _ A.in1 (seqItems? (.ref S) >>= _) _ _ s
 refine wpAny_bind (wpAny_seqItems hS rfl ?_)
 show wpAny _ A.in1 (tryCatch (pyNext (.ref I)) _ >>= _) _ _ s
 cases hn:ns with
 | nil=>
  obtain⟨k,v,rfl⟩:=h0 hn
  refine wpAny_bind (wpAny_tryCatch (wpAny_pyNext_list_end hh hit hl (fz hi (j:=0) (by rw [hn];rfl)) λh1 e1=>?_))
  refine wpAny_bind (wpAny_rule (wpAny_pure ?_))
  exact hR v _ (λb o hb1 _ q=>e1 _ _ hb1 q) (λn r e=>by rw [hn] at e;cases e) λ_=>⟨k,rfl⟩
 | cons n rest=>
  obtain⟨tn,hx⟩:=fu hi (j:=0) (n:=n) (by rw [hn];rfl)
  refine wpAny_bind (wpAny_tryCatch (wpAny_pyNext_list_item hit hl hx λh1 hit1 s1=>?_))
  have e1:=s1.extBut
  have hS1:=e1 _ _ hSI hS
  show wpAny _ A.in1 (updateSeq S (λ_=>#[.int n tn,.int n tn]) >>= _) _ _ _
  refine wpAny_bind (wpAny_updateSeq hS1 rfl ?_)
  rw [hname]
  refine wpAny_pure ⟨plainId_quiet F.plain_min_loop _,yP hh hi hSI hlI hlS rest 1 _ n tn _ (by rw [hn];rfl) (hit1.at λo q=>(Heap.get?_update_other _ _ hSI).trans q) (Heap.IsList.at hl λo q=>(Heap.get?_update_other _ _ (Ne.symm hlS)).trans (e1 _ _ hlI q)) (Heap.get?_update_self _ hS1 rfl) λt' h' k=>?_⟩
  exact hR _ h' (λb o hb1 hb2 q=>k b o hb1 hb2 ((Heap.get?_update_other _ _ (Ne.symm hb2)).trans (e1 _ _ hb1 q))) (λn' r' e=>by rw [hn] at e;cases e;exact⟨t',rfl⟩) λe=>by rw [hn] at e;cases e
theorem nn {Q:Value->Shared->Prop} (hh:A.handled=none) (hi:IntsAre items.toList ns) (hl:s.heap.IsList l items) (hk:kw=[]) (h0:ns=[]->kw≠[])
  (h:∀ v h',(∀ b o,s.heap.get? b=some o->h'.get? b=some o)->(∀ n r,ns=n::r->∃ t,v=.int (lh r n) t)->(ns=[]->∃ k,kw=[(k,v)])->Q v { s with heap:=h' }) :
  wpAny (model prog w) A (call (.builtin "min") [.ref l] kw) Q E s:=by
 have hname:(toString "min"++toString ".loop" : String) = "min.loop":=by decide
 have hlt:l < s.heap.objs.size:=by obtain⟨_,e,_⟩:=hl;exact Heap.lt_size e
 have hsz:(s.heap.push { cls:=.type "list_iterator",data:=.fields #[.ref l,.int 0 0] }).objs.size=s.heap.objs.size+1:=Heap.size_push ..
 have fin:∀ dd:List Value,kw=dd.map (λd=>((Str.ofString "default",d):Str×Value))->wpAny (model prog w) A.in1 (do
   let it <-pyIter (.ref l)
   let b <-newList []
   PySem.again (.builtin "min.loop" ⟨[it,.none,b],dd.map λd=>(Str.ofString "default",d)⟩)) (λfin s'=>match fin with
   | .done f=>(match (Except.ok f:Result) with | .ok (.ret v)=>Q v s' | .ok _=>False | .error e=>E e s')
   | .again c'=>c'.quiet=true/\codeAny (model prog w) A c' (λr s'=>match r with | .ok (.ret v)=>Q v s' | .ok _=>False | .error e=>E e s') s') E s:=λdd hdd=>by
  refine wpAny_bind (wpAny_pyIter_list hl (wpAny_bind (wpAny_newObj_type ?_)))
  refine wpAny_pure ⟨plainId_quiet F.plain_min_loop _,?_⟩
  rw [<-hdd]
  refine sV (S:=(s.heap.push { cls:=.type "list_iterator",data:=.fields #[.ref l,.int 0 0] }).objs.size) (I:=s.heap.objs.size) (l:=l) hh hi (by rw [hsz];exact Nat.succ_ne_self _) (Nat.ne_of_lt hlt) (by rw [hsz];exact Nat.ne_of_lt (Nat.lt_succ_of_lt hlt))
   ⟨_,Heap.get?_push_of_some _ (Heap.get?_push_size _ rfl),rfl,rfl⟩ (Heap.IsList.at hl λo q=>Heap.get?_push_of_some _ (Heap.get?_push_of_some _ q)) (Heap.get?_push_size _ rfl) (λv h' k h1 h2=>?_) (λe=>?_)
  ·refine h v h' (λb o q=>?_) h1 h2
   have hb:=Heap.lt_size q
   exact k b o (Nat.ne_of_lt hb) (by rw [hsz];exact Nat.ne_of_lt (Nat.lt_succ_of_lt hb)) (Heap.get?_push_of_some _ (Heap.get?_push_of_some _ q))
  ·exact absurd hk (h0 e)
 subst hk
 refine dc F.kind_min F.plain_min F.entry_min (F.args_min1 _) ?_
 show wpAny _ A.in1 (Builtin.Builtins.bindParams "min" ["key","default"] 0 ⟨[],[]⟩ >>= _) _ _ s
 refine wpAny_bind (wpAny_of_eq (show Builtin.Builtins.bindParams "min" ["key","default"] 0 ⟨[],[]⟩=pure [none,none] from rfl) ?_)
 refine wpAny_bind (wpAny_pure ?_)
 have:=fin [] rfl
 rw [<-hname] at this
 exact this
end
end L2
namespace L2
open PySem PySem.Spec PyProof.Rows
section
variable {K:PySem.W.Frag}{X:Cx}{e a b:Expr}{es:List Expr}{pos:Pos}{f fa fb:Ef}{af:Af}
theorem rM (hc:X.calm=true) {kw:List (Str×Value)}{d:Option V}{ns:List Int}{pins:List (Addr×Obj)}{σ:St}{H:Hp}{s:Shared}{ad:Addr}{Q:VK}{E:XK}{r:Int} (I:Inv X pins σ H s) (hl:Rd H ad (.lst (ns.map V.int)))
  (hk:kw=[]/\ns≠[]) (hr:∀ n q,ns=n::q->r=lh q n) (q:Q (.int r) H) :
  wpAny (model X.prog X.w) X.A (call (.builtin "min") [.ref ad] kw) (EP X pins σ Q) X.xe s:=by
 obtain⟨its,rv,pl,hz⟩:=I.list (.inl hl)
 refine nn (items:=its.toArray) (ns:=ns) (I.ok.hd hc) (by simpa using eI rv) pl.isList ?_ ?_ λv h' kp h1 h2=>?_
 ·exact hk.1
 ·intro e z
  exact hk.2 e
 ·have hv:∃ t,v=.int r t:=by
   cases hn:ns with
   | nil=>exact absurd hn hk.2
   | cons n q=>
    rw [hr n q hn]
    exact h1 n q hn
  exact⟨.int r,H,I.kept kp,hv,q⟩
noncomputable def dMi (st:Sto):List W->Option D
 | [.d (.int i),.d (.int j)]=>some (.int (if j < i then j else i))
 | [w]=>(lsI st w).bind λns=>(mB ns none).map D.int
 | _=>none
theorem tq (hc:X.calm=true:=by rfl):eS K X (.builtin "min") dMi:=by
 refine⟨λst ws d h=>?_⟩
 have one:∀ w,((lsI st w).bind λns=>(mB ns none).map D.int)=some d->bR X (.builtin "min") (rCD K st [w] d):=λw h=>by
  obtain⟨ns,e1,h⟩:=Option.bind_eq_some_iff.mp h
  obtain⟨r,e2,rfl⟩:=Option.map_eq_some_iff.mp h
  intro pins s σ H xs us Q I rv q
  obtain⟨φ,S,⟨v,rr,rfl,r1,rfl⟩,q⟩:=q
  obtain⟨ad,rfl,hl⟩:=rJ S r1 e1
  obtain⟨u,rfl,ru⟩:=g9 rv
  cases ru
  refine rM (E:=λ_ _ _=>False) (d:=none) hc I hl ⟨rfl,λe=>by rw [e] at e2;cases e2⟩ (λn q hn=>by rw [hn] at e2;exact (Option.some.inj e2).symm) (q _ H (bp.refl H) rfl)
 match ws,h with
 | [.d (.int i),.d (.int j)],h=>
  cases h
  refine (sL hc).imp ?_
  rintro vs H Q ⟨φ,S,⟨v,r,rfl,r1,u,r',rfl,r2,rfl⟩,q⟩
  exact⟨i,j,by rw [show v=.int i from r1,show u=.int j from r2],q _ H (bp.refl H) rfl⟩
 | [w],h=>exact one w (by cases w with | h n=>exact h | d x=>cases x<;>exact h)
end
end L2
namespace Own
open PySem L2
noncomputable def b_is_whole:Sf:=(bg (gE (iCB pv (ae (iV 0) (ae (iC (.ty "int")) aj))) (n8 (iCB pv (ae (iV 0) (ae (iC (.ty "bool")) aj))))))
noncomputable def m_is_whole:Fn:=aN 1 1 b_is_whole
noncomputable def gk:Ef:=(gE (aD m_is_whole (ae (iV 0) aj)) (iOp dGe (iV 0) (iC (.int 0))))
noncomputable def b_are_amounts:Sf:=(ap (eA (uj (iS (nR lX (iCB pv (ae (iV 0) (ae (iC (.ty "tuple")) aj))))) (bJ dNe (iCB cj (ae (iV 0) aj)) (iV 1))) (bg (iC (.bl false))) dA) (bg (iCB sq (ae (aJ (iLc 1 [] (bm (iV 0)) (.nm 0) dD gk)) aj))))
noncomputable def m_are_amounts:Fn:=aN 2 2 b_are_amounts
noncomputable def dE:Sf:=(aP (.nm 1) (iOp dv (iV 1) (iC (.int 2))))
noncomputable def b_power_of_two:Sf:=(ap (aP (.nm 1) (iC (.int 1))) (ap (fq (bE (ae (iV 0) aj)) (.nm 2) dE) (bg (iV 1))))
noncomputable def m_power_of_two:Fn:=aN 3 1 b_power_of_two
noncomputable def b_on_in:Sf:=(bg (iOp fk (iOp gm (iV 0) (aD m_power_of_two (ae (iV 1) aj))) (iC (.int 2))))
noncomputable def m_on_in:Fn:=aN 2 2 b_on_in
noncomputable def ck:Tf:=(bJ dNe (iV 3) (iC (.int 0)))
noncomputable def dm:Sf:=(ap (aP (.nm 4) (iOp fk (iV 1) (iV 3))) (ap (aP (.nm 1) (iV 3)) (aP (.nm 3) (iV 4))))
noncomputable def dn:Sf:=(ap (aP (.nm 3) (iCB pk (ae (iV 2) aj))) (gF 1000000000000000000000000000000 ck dm))
noncomputable def b_greatest_part:Sf:=(ap (aP (.nm 1) (iC (.int 0))) (ap (fq (bm (iV 0)) (.nm 2) dn) (bg (iV 1))))
noncomputable def m_greatest_part:Fn:=aN 5 1 b_greatest_part
noncomputable def gH:Ef:=(iOp zk (iV 0) (iV 1))
noncomputable def b_lowered:Sf:=(ap (aP (.nm 1) (aD m_greatest_part (ae (iV 0) aj))) (ap (eA (bJ dEq (iV 1) (iC (.int 0))) (bg (iCB hV (ae (iV 0) aj))) dA) (bg (iCB hV (ae (aJ (iLc 1 [1] (bm (iV 0)) (.nm 0) dD gH)) aj)))))
noncomputable def m_lowered:Fn:=aN 2 1 b_lowered
noncomputable def dO:Sf:=(aP (.nm 2) (iOp gm (iOp dv (iV 2) (iOp gI (iV 0) (iV 3))) (iOp dw (iV 3) (iC (.int 1)))))
noncomputable def b_how_many_choices:Sf:=(ap (aP (.nm 2) (iC (.int 1))) (ap (fq (bE (ae (iV 1) aj)) (.nm 3) dO) (bg (iV 2))))
noncomputable def m_how_many_choices:Fn:=aN 4 2 b_how_many_choices
noncomputable def gO:Sf:=(aP (.nm 1) (iOp dv (iV 1) (iV 2)))
noncomputable def b_multiplied:Sf:=(ap (aP (.nm 1) (iC (.int 1))) (ap (fq (bm (iV 0)) (.nm 2) gO) (bg (iV 1))))
noncomputable def m_multiplied:Fn:=aN 3 1 b_multiplied
noncomputable def cH:Tf:=(bJ dLt (iV 2) (iCB cj (ae (iV 0) aj)))
noncomputable def dR:Sf:=(ap (aP (.nm 2) (iOp dv (iV 2) (iC (.int 2)))) (aP (.nm 1) (iOp dw (iV 1) (iC (.int 1)))))
noncomputable def b_switches_of:Sf:=(ap (aP (.nm 1) (iC (.int 0))) (ap (aP (.nm 2) (iC (.int 1))) (ap (gF 1000000000000000000000000000000 cH dR) (bg (iV 1)))))
noncomputable def m_switches_of:Fn:=aN 3 1 b_switches_of
noncomputable def eY:Ef:=(iV 0)
noncomputable def fj:Tf:=(bJ uY (iV 1) (iC .non))
noncomputable def b_told_rows:Sf:=(bg (iCB hV (ae (aJ (iLc 2 [] (gL (ae (iV 0) aj)) (.tp [0,1]) fj eY)) aj)))
noncomputable def m_told_rows:Fn:=aN 1 1 b_told_rows
noncomputable def b_sign_at:Sf:=(bg (lT (bJ dEq (iOp dIx (iV 0) (iV 1)) (iC (.int 1))) (iC (.int 1)) (iUn qk (iC (.int 1)))))
noncomputable def m_sign_at:Fn:=aN 2 2 b_sign_at
noncomputable def fT:Ef:=(iOp dw (iV 0) (mh (ae (iV 2) aj)))
noncomputable def fR:Tf:=(bJ dLt (iCB cj (ae (iV 0) aj)) (iV 1))
noncomputable def fX:Sf:=(aP (.nm 2) (iOp dw (iV 2) (aJ (iLc 1 [1,3] (bm (iV 2)) (.nm 0) fR fT))))
noncomputable def b_terms_to:Sf:=(ap (aP (.nm 2) (aJ (eN (ae (mh aj) aj)))) (ap (fq (bE (ae (iV 0) aj)) (.nm 3) fX) (bg (iCB hV (ae (aJ (iCL fZ (ae (iV 2) aj))) aj)))))
noncomputable def m_terms_to:Fn:=aN 4 2 b_terms_to
noncomputable def fM:Ef:=(aD m_on_in (ae (iV 1) (ae (iV 0) aj)))
noncomputable def b_value_of:Sf:=(ap (aP (.nm 3) (iCB mS (ae (aJ (iLc 1 [2] (bm (iV 1)) (.nm 0) dD fM)) aj))) (ap (eA (bJ dEq (iV 0) (iC (.str "both"))) (bg (lT (bJ dEq (iV 3) (iCB cj (ae (iV 1) aj))) (iC (.int 1)) (iC (.int 0)))) dA) (bg (lT (bJ dEq (iOp fk (iV 3) (iC (.int 2))) (iC (.int 1))) (iUn qk (iC (.int 1))) (iC (.int 1))))))
noncomputable def m_value_of:Fn:=aN 4 3 b_value_of
noncomputable def da:Tf:=(bJ dGt (iV 0) (iC (.int 0)))
noncomputable def gK:Sf:=(ap (aP (.nm 1) (iOp dw (iV 1) (iOp fk (iV 0) (iC (.int 2))))) (aP (.nm 0) (iOp gm (iV 0) (iC (.int 2)))))
noncomputable def b_many_on:Sf:=(ap (aP (.nm 1) (iC (.int 0))) (ap (gF 1000000000000000000000000000000 da gK) (bg (iV 1))))
noncomputable def m_many_on:Fn:=aN 2 1 b_many_on
noncomputable def ik:Ef:=(iOp dIx (iV 1) (aD m_many_on (ae (iV 0) aj)))
noncomputable def b_by_counts:Sf:=(bg (iCB hV (ae (aJ (iLc 1 [0] (bE (ae (aD m_power_of_two (ae (iOp gI (iCB cj (ae (iV 0) aj)) (iC (.int 1))) aj)) aj)) (.nm 0) dD ik)) aj)))
noncomputable def m_by_counts:Fn:=aN 1 1 b_by_counts
noncomputable def jG:Ef:=(iV 0)
noncomputable def jR:Tf:=(bJ dNe (iOp dIx (iV 1) (iV 0)) (iOp dIx (iV 1) (iOp dw (iV 0) (iC (.int 1)))))
noncomputable def b_ends_of:Sf:=(bg (aJ (iLc 1 [0] (bE (ae (iOp gI (iCB cj (ae (iV 0) aj)) (iC (.int 1))) aj)) (.nm 0) jR jG)))
noncomputable def m_ends_of:Fn:=aN 1 1 b_ends_of
noncomputable def b_changes_of:Sf:=(bg (iCB cj (ae (aD m_ends_of (ae (iV 0) aj)) aj)))
noncomputable def m_changes_of:Fn:=aN 1 1 b_changes_of
noncomputable def fW:Ef:=(iCB pk (ae (iOp gI (iV 1) (iV 0)) aj))
noncomputable def fY:Tf:=(bJ dNe (iV 0) (iV 1))
noncomputable def b_share_of:Sf:=(bg (iOp dv (aD m_multiplied (ae (aJ (iLc 1 [2] (bm (iV 1)) (.nm 0) fY fW)) aj)) (aD m_how_many_choices (ae (iV 0) (ae (iV 2) aj)))))
noncomputable def m_share_of:Fn:=aN 3 3 b_share_of
noncomputable def gQ:Sf:=(gv (iV 4) (iV 5) (iOp gm (aD m_multiplied (ae (iV 3) aj)) (iV 6)))
noncomputable def lz:Sf:=(ap (aP (.nm 4) (jo (u8 vt (aJ (eN (ae (iC (.int 0)) aj))) (iCB cj (ae (iV 0) aj))))) (ap (fq (kK (ae (iV 2) (ae (iV 3) aj))) (.tp [5,6]) gQ) (bg (aD m_lowered (ae (aD m_by_counts (ae (iV 4) aj)) aj)))))
noncomputable def el:Ef:=(aD m_share_of (ae (iV 1) (ae (iV 2) (ae (iV 0) aj))))
noncomputable def b_counts_bar:Sf:=(ap (aP (.nm 1) (iOp gI (iCB cj (ae (iV 0) aj)) (iC (.int 1)))) (ap (eA (bJ dEq (aD m_changes_of (ae (iV 0) aj)) (iC (.int 0))) (bg (iC .non)) dA) (ap (aP (.nm 2) (iOp dw (aD m_ends_of (ae (iV 0) aj)) (aJ (eN (ae (iV 1) aj))))) (ap (aP (.nm 3) (aJ (iLc 1 [1,2] (bm (iV 2)) (.nm 0) dD el))) lz))))
noncomputable def m_counts_bar:Fn:=i3 7 1 b_counts_bar
noncomputable def b_signed_value:Sf:=(bg (iOp dv (aD m_sign_at (ae (iV 0) (ae (iV 3) aj))) (aD m_value_of (ae (iV 1) (ae (iV 2) (ae (iV 3) aj))))))
noncomputable def m_signed_value:Fn:=aN 4 4 b_signed_value
noncomputable def fP:Ef:=(iOp dv (iOp dIx (iV 1) (iV 0)) (aD m_signed_value (ae (iV 2) (ae (iV 3) (ae (iV 4) (ae (iV 0) aj))))))
noncomputable def b_weighted:Sf:=(bg (iCB mS (ae (aJ (iLc 1 [3,0,1,2] (bm (aD m_told_rows (ae (iV 0) aj))) (.nm 0) dD fP)) aj)))
noncomputable def m_weighted:Fn:=aN 4 4 b_weighted
noncomputable def gi:Ef:=(iOp dEq (iV 1) (iC (.int 0)))
noncomputable def gf:Tf:=(bJ zo (iV 0) (iC .non))
noncomputable def b_are_weights:Sf:=(ap (eA (iS (nR lX (aD m_are_amounts (ae (iV 1) (ae (iCB cj (ae (iV 0) aj)) aj))))) (bg (iC (.bl false))) dA) (bg (iCB sq (ae (aJ (iLc 2 [] (kK (ae (iV 0) (ae (iV 1) aj))) (.tp [0,1]) gf gi)) aj))))
noncomputable def m_are_weights:Fn:=aN 2 2 b_are_weights
noncomputable def ft:Ef:=(iOp dEq (aD m_weighted (ae (iV 1) (ae (iV 2) (ae (iV 0) (ae (iV 3) aj))))) (iC (.int 0)))
noncomputable def b_are_balanced:Sf:=(bg (iCB sq (ae (aJ (iLc 1 [0,1,3] (bm (iV 2)) (.nm 0) dD ft)) aj)))
noncomputable def m_are_balanced:Fn:=aN 4 4 b_are_balanced
noncomputable def b_is_bar:Sf:=(bg (gE (aD m_are_weights (ae (iV 0) (ae (iV 3) aj))) (gE (iCB zg (ae (iV 3) aj)) (aD m_are_balanced (ae (iV 0) (ae (iV 1) (ae (iV 2) (ae (iV 3) aj))))))))
noncomputable def m_is_bar:Fn:=aN 4 4 b_is_bar
noncomputable def ii:Ef:=(iCB cj (ae (iV 0) aj))
noncomputable def iq:Tf:=(bJ dNe (aD m_weighted (ae (iV 1) (ae (iC (.str "odd")) (ae (iV 0) (ae (iV 2) aj))))) (iC (.int 0)))
noncomputable def b_barred_to:Sf:=(ap (aP (.nm 2) (aD m_switches_of (ae (iV 0) aj))) (bg (iCB dMi (ae (aJ (iLc 1 [0,1] (bm (aD m_terms_to (ae (iV 2) (ae (iV 2) aj)))) (.nm 0) iq ii)) aj))))
noncomputable def m_barred_to:Fn:=aN 3 2 b_barred_to
noncomputable def du:Ef:=(iCB pk (ae (iV 0) aj))
noncomputable def dq:Tf:=(bJ dGe (iCB pk (ae (iV 0) aj)) (iOp ze (iC (.int 10)) (iC (.int 18))))
noncomputable def eF:Sf:=(aP (.nm 1) (iOp fk (iOp dw (iOp dv (iV 1) (iC (.int 1000003))) (iV 2)) (iC (.int 2305843009213693951))))
noncomputable def b__law_spool:Sf:=(ap (aP (.nm 1) (iOp dw (iCB cj (ae (iV 0) aj)) (iC (.int 11)))) (ap (fq (bm (iSl (iV 0) iPn (iPs (iC (.int 63))))) (.nm 2) eF) (bg (rG (ae (jo (iLc 1 [] (bm (iSl (iV 0) iPn (iPs (iC (.int 63))))) (.nm 0) dq du)) (ae (iV 1) (ae (iC (.int 0)) aj)))))))
noncomputable def m__law_spool:Fn:=aN 3 1 b__law_spool
noncomputable def cx:Tf:=(mw (bJ dNe (ge (iV 0) (iC (.int 0))) (aJ (eN aj))) (bJ dEq (iOp dIx (ge (iV 0) (iC (.int 0))) (iC (.int 0))) (iC (.int 0))))
noncomputable def fe:Sf:=(i6 (g6 tJ (ge (iV 0) (iC (.int 0))) (ae (iC (.int 0)) aj)))
noncomputable def b__law_take:Sf:=(ap (gF 1000000000000000000000000000000 cx fe) (ap (eA (bJ dNe (ge (iV 0) (iC (.int 0))) (aJ (eN aj))) (ap (aP (.nm 2) (iOp fk (iOp dIx (ge (iV 0) (iC (.int 0))) (iC (.int 0))) (iV 1))) (ap (gv (ge (iV 0) (iC (.int 0))) (iC (.int 0)) (iOp gm (iOp dIx (ge (iV 0) (iC (.int 0))) (iC (.int 0))) (iV 1))) (bg (iV 2)))) dA) (ap (i9 (iV 0) (iC (.int 2)) (iOp dw (ge (iV 0) (iC (.int 2))) (iC (.int 1)))) (ap (aP (.nm 3) (iOp fk (iOp dv (iOp dw (ge (iV 0) (iC (.int 1))) (iOp dv (iC (.int 104729)) (ge (iV 0) (iC (.int 2))))) (iC (.int 48271))) (iC (.int 2305843009213693951)))) (ap (aP (.nm 4) (iOp fk (iOp dv (iV 3) (iOp dw (iOp dw (iOp gm (iV 3) (iC (.int 1000003))) (iOp dv (ge (iV 0) (iC (.int 2))) (ge (iV 0) (iC (.int 2))))) (iC (.int 7)))) (iC (.int 2305843009213693921)))) (bg (iOp fk (iOp gm (iV 4) (iC (.int 8191))) (iV 1))))))))
noncomputable def m__law_take:Fn:=aN 5 2 b__law_take
noncomputable def jQ:Ef:=(iV 0)
noncomputable def jH:Tf:=(bJ dEq (iOp ug (iOp tz (iV 1) (iV 0)) (iC (.int 1))) (iC (.int 1)))
noncomputable def b__law_on:Sf:=(bg (iCB cj (ae (aJ (iLc 1 [0] (bE (ae (iC (.int 6)) aj)) (.nm 0) jH jQ)) aj)))
noncomputable def m__law_on:Fn:=aN 1 1 b__law_on
noncomputable def ix:Ef:=(iV 0)
noncomputable def im:Tf:=(bJ dEq (iOp ug (iOp tz (iV 1) (iV 0)) (iC (.int 1))) (iC (.int 1)))
noncomputable def b__law_term:Sf:=(ap (aP (.nm 3) (iCB cj (ae (aJ (iLc 1 [2] (bm (iV 1)) (.nm 0) im ix)) aj))) (bg (lT (bJ dEq (iV 0) (iC (.str "both"))) (iCB t7 (ae (iOp dEq (iV 3) (iCB cj (ae (iV 1) aj))) aj)) (iOp gI (iC (.int 1)) (iOp dv (iC (.int 2)) (iOp fk (iV 3) (iC (.int 2))))))))
noncomputable def m__law_term:Fn:=aN 4 3 b__law_term
noncomputable def eK:Ef:=(iV 0)
noncomputable def eD:Tf:=(bJ dLe (iCB cj (ae (iV 0) aj)) (iV 1))
noncomputable def gA:Ef:=(iV 0)
noncomputable def gu:Tf:=(bJ dEq (iOp ug (iOp tz (iV 1) (iV 0)) (iC (.int 1))) (iC (.int 1)))
noncomputable def gU:Ef:=(iCB hV (ae (aJ (iLc 1 [0] (bE (ae (iV 1) aj)) (.nm 0) gu gA)) aj))
noncomputable def b__law_terms:Sf:=(ap (aP (.nm 2) (aJ (iLc 1 [0] (bE (ae (iOp oM (iC (.int 1)) (iV 0)) aj)) (.nm 0) dD gU))) (bg (aJ (iCL fZ (ae (aJ (iLc 1 [1] (bm (iV 2)) (.nm 0) eD eK)) aj)))))
noncomputable def m__law_terms:Fn:=aN 3 2 b__law_terms
noncomputable def d4:Sf:=(ap (aP (.nm 7) (aD m__law_take (ae (iV 0) (ae (iC (.int 2)) aj)))) (i6 (g6 eP (iV 5) (ae (iOp dIx (aJ (eN (ae (iV 7) (ae (iV 7) (ae (iOp fk (iOp dw (iV 2) (iV 6)) (iC (.int 2))) (ae (iCB t7 (ae (iOp dEq (iOp dLt (iV 6) (iV 3)) (iOp dEq (iV 2) (iC (.int 0)))) aj)) (ae (iV 2) aj))))))) (iV 4)) aj))))
noncomputable def b__law_row:Sf:=(ap (aP (.nm 1) (iOp dw (iC (.int 1)) (aD m__law_take (ae (iV 0) (ae (iC (.int 7)) aj))))) (ap (qM 2 3 4 (ae (aD m__law_take (ae (iV 0) (ae (iC (.int 2)) aj))) (ae (aD m__law_take (ae (iV 0) (ae (iV 1) aj))) (ae (aD m__law_take (ae (iV 0) (ae (iC (.int 5)) aj))) aj)))) (ap (aP (.nm 5) (jo (eN aj))) (ap (fq (bE (ae (iV 1) aj)) (.nm 6) d4) (bg (iCB hV (ae (iV 5) aj)))))))
noncomputable def m__law_row:Fn:=i3 8 1 b__law_row
noncomputable def dJ:Ef:=(gE (iCB pv (ae (iV 0) (ae (iC (.ty "int")) aj))) (gE (n8 (iCB pv (ae (iV 0) (ae (iC (.ty "bool")) aj)))) (iOp dGe (iV 0) (iC (.int 0)))))
noncomputable def b__law_are_weights:Sf:=(ap (eA (uj (iS (nR lX (iCB pv (ae (iV 0) (ae (iC (.ty "tuple")) aj))))) (bJ dNe (iCB cj (ae (iV 0) aj)) (iV 1))) (bg (iC (.bl false))) dA) (ap (eA (iS (nR lX (iCB sq (ae (aJ (iLc 1 [] (bm (iV 0)) (.nm 0) dD dJ)) aj)))) (bg (iC (.bl false))) dA) (bg (iOp dGt (iCB wW (ae (iV 0) aj)) (iC (.int 0))))))
noncomputable def m__law_are_weights:Fn:=aN 2 2 b__law_are_weights
noncomputable def eG:Ef:=(iOp dIx (iV 1) (aD m__law_on (ae (iV 0) aj)))
noncomputable def gz:Sf:=(ap (eA (bJ dLt (iCB dMi (ae (iV 6) aj)) (iV 3)) (bg (iC (.bl false))) dA) (ap (aP (.nm 8) (iCB hV (ae (aJ (iLc 1 [0] (bE (ae (iOp oM (iC (.int 1)) (iV 2)) aj)) (.nm 0) dD eG)) aj))) (ap (aP (.nm 9) (iCB hV (ae (aD m__law_terms (ae (iV 2) (ae (iOp gI (iV 3) (iC (.int 1))) aj))) aj))) (bg (gE (iOp zh (aD m_is_bar (ae (iV 8) (ae (iV 1) (ae (iV 9) (ae (iV 4) aj))))) (iC (.bl true))) (iOp dEq (iCB jN (ae (aD m_barred_to (ae (iV 8) (ae (iV 4) aj))) aj)) (iCB jN (ae (iCB dMi (ae (iV 6) aj)) aj))))))))
noncomputable def dr:Ef:=(iOp dv (iV 1) (aD m__law_term (ae (iV 2) (ae (iV 3) (ae (iV 0) aj)))))
noncomputable def db:Tf:=(bJ dNe (iV 1) (iC (.int 0)))
noncomputable def de:Sf:=(eA (bJ dNe (iCB mS (ae (aJ (iLc 2 [1,7] (gL (ae (iV 5) aj)) (.tp [0,1]) db dr)) aj)) (iC (.int 0))) (i6 (g6 eP (iV 6) (ae (iCB cj (ae (iV 7) aj)) aj))) dA)
noncomputable def eB:Ef:=(iOp dv (iV 1) (iOp gI (iOp dv (iC (.int 2)) (iOp dIx (iV 2) (aD m__law_on (ae (iV 0) aj)))) (iC (.int 1))))
noncomputable def gy:Sf:=(ap (eA (iS (nR lX (aD m__law_are_weights (ae (iV 4) (ae (iOp oM (iC (.int 1)) (iV 2)) aj))))) (bg (iC (.bl false))) dA) (ap (aP (.nm 5) (aJ (iLc 2 [0] (gL (ae (iV 4) aj)) (.tp [0,1]) dD eB))) (ap (aP (.nm 6) (jo (eN aj))) (ap (fq (bm (aD m__law_terms (ae (iV 2) (ae (iV 2) aj)))) (.nm 7) de) gz))))
noncomputable def eL:Ef:=(iV 0)
noncomputable def er:Tf:=(bJ dNe (iOp dIx (iV 1) (iV 0)) (iOp dIx (iV 1) (iOp dw (iV 0) (iC (.int 1)))))
noncomputable def b__law_right:Sf:=(ap (aP (.nm 2) (iOp gI (iCB cj (ae (iV 0) aj)) (iC (.int 1)))) (ap (aP (.nm 3) (iCB cj (ae (aJ (iLc 1 [0] (bE (ae (iV 2) aj)) (.nm 0) er eL)) aj))) (ap (aP (.nm 4) (aD m_counts_bar (ae (iV 0) aj))) (ap (eA (bJ dEq (iV 3) (iC (.int 0))) (bg (iOp zo (iV 4) (iC .non))) dA) gy))))
noncomputable def m__law_right:Fn:=i3 10 2 b__law_right
noncomputable def nc:Sf:=(ap (aP (.nm 3) (aD m__law_row (ae (iV 1) aj))) (eA (iS (nR lX (aD m__law_right (ae (iV 3) (ae (iOp dIx (aJ (eN (ae (iC (.str "both")) (ae (iC (.str "odd")) aj)))) (aD m__law_take (ae (iV 1) (ae (iC (.int 2)) aj)))) aj))))) (bg (iC (.bl false))) dA))
noncomputable def me:Sf:=(ap (aP (.nm 1) (aD m__law_spool (ae (iV 0) aj))) (ap (fq (bE (ae (iC (.int 3)) aj)) (.nm 2) nc) (bg (iC (.bl true)))))
noncomputable def m_law:Fn:=i3 4 1 me
end Own
section
set_option maxHeartbeats 2000000
namespace Own
open PySem L2
noncomputable def top (i:Nat):Stmt:=PySem.Challenge.pw_signpoly_k60_weights_by_counts.main.body.getD i (.Pass ⟨0,0,0,0⟩)
abbrev ce:Stmt:=top 1
abbrev br:Stmt:=top 2
abbrev bx:Stmt:=top 3
abbrev dZ:Stmt:=top 4
abbrev bi:Stmt:=top 5
abbrev cp:Stmt:=top 6
abbrev aM:Stmt:=top 7
abbrev bL:Stmt:=top 8
abbrev bF:Stmt:=top 10
abbrev bN:Stmt:=top 11
abbrev cC:Stmt:=top 12
abbrev b0:Stmt:=top 14
abbrev b3:Stmt:=top 15
abbrev cF:Stmt:=top 17
abbrev bP:Stmt:=top 18
abbrev cn:Stmt:=top 19
abbrev bM:Stmt:=top 20
abbrev b5:Stmt:=top 21
abbrev bI:Stmt:=top 22
abbrev bv:Stmt:=top 24
abbrev b6:Stmt:=top 26
abbrev bt:Stmt:=top 27
abbrev bf:Stmt:=top 28
abbrev dl:Stmt:=top 29
abbrev bQ:Stmt:=top 30
abbrev bG:Stmt:=top 32
abbrev bY:Stmt:=top 33
abbrev cq:Stmt:=top 34
abbrev bO:Stmt:=top 35
abbrev bh:Stmt:=top 36
abbrev cc:Stmt:=top 37
abbrev aI:Stmt:=top 38
abbrev aV:Stmt:=top 39
abbrev i8:Stmt:=top 40
theorem pJ:ay ["thing"] ["thing"] (aa ce):=⟨rfl,rfl,rfl,by decide +kernel,rfl,by decide +kernel,by decide +kernel⟩
theorem kB:ay ["thing","many"] ["thing","many"] (aa br):=⟨rfl,rfl,rfl,by decide +kernel,rfl,by decide +kernel,by decide +kernel⟩
theorem cS:ay ["k","power","step"] ["k"] (aa bx):=⟨rfl,rfl,rfl,by decide +kernel,rfl,by decide +kernel,by decide +kernel⟩
theorem ve:ay ["row","k"] ["row","k"] (aa dZ):=⟨rfl,rfl,rfl,by decide +kernel,rfl,by decide +kernel,by decide +kernel⟩
theorem bD:ay ["numbers","found","number","rest","over"] ["numbers"] (aa bi):=⟨rfl,rfl,rfl,by decide +kernel,rfl,by decide +kernel,by decide +kernel⟩
theorem kU:ay ["numbers","shared"] ["numbers"] (aa cp):=⟨rfl,rfl,rfl,by decide +kernel,rfl,by decide +kernel,by decide +kernel⟩
theorem b9:ay ["many","taken","ways","k"] ["many","taken"] (aa aM):=⟨rfl,rfl,rfl,by decide +kernel,rfl,by decide +kernel,by decide +kernel⟩
theorem dF:ay ["numbers","product","number"] ["numbers"] (aa bL):=⟨rfl,rfl,rfl,by decide +kernel,rfl,by decide +kernel,by decide +kernel⟩
theorem cz:ay ["f","many","rows"] ["f"] (aa bF):=⟨rfl,rfl,rfl,by decide +kernel,rfl,by decide +kernel,by decide +kernel⟩
theorem ng:ay ["f"] ["f"] (aa bN):=⟨rfl,rfl,rfl,by decide +kernel,rfl,by decide +kernel,by decide +kernel⟩
theorem pX:ay ["f","row"] ["f","row"] (aa cC):=⟨rfl,rfl,rfl,by decide +kernel,rfl,by decide +kernel,by decide +kernel⟩
theorem eW:ay ["n","size","terms","k"] ["n","size"] (aa b0):=⟨rfl,rfl,rfl,by decide +kernel,rfl,by decide +kernel,by decide +kernel⟩
theorem jP:ay ["kind","term","row","many"] ["kind","term","row"] (aa b3):=⟨rfl,rfl,rfl,by decide +kernel,rfl,by decide +kernel,by decide +kernel⟩
theorem fK:ay ["row","many"] ["row"] (aa cF):=⟨rfl,rfl,rfl,by decide +kernel,rfl,by decide +kernel,by decide +kernel⟩
theorem nj:ay ["row"] ["row"] (aa bP):=⟨rfl,rfl,rfl,by decide +kernel,rfl,by decide +kernel,by decide +kernel⟩
theorem qd:ay ["row"] ["row"] (aa cn):=⟨rfl,rfl,rfl,by decide +kernel,rfl,by decide +kernel,by decide +kernel⟩
theorem lK:ay ["row"] ["row"] (aa bM):=⟨rfl,rfl,rfl,by decide +kernel,rfl,by decide +kernel,by decide +kernel⟩
theorem oG:ay ["n","counts","count"] ["n","counts","count"] (aa b5):=⟨rfl,rfl,rfl,by decide +kernel,rfl,by decide +kernel,by decide +kernel⟩
theorem b7:ay ["row","n","counts","shares","weights","count","share"] ["row"] (aa bI):=⟨rfl,rfl,rfl,by decide +kernel,rfl,by decide +kernel,by decide +kernel⟩
theorem j5:ay ["f","kind","term","row"] ["f","kind","term","row"] (aa bv):=⟨rfl,rfl,rfl,by decide +kernel,rfl,by decide +kernel,by decide +kernel⟩
theorem pf:ay ["f","kind","term","weights"] ["f","kind","term","weights"] (aa b6):=⟨rfl,rfl,rfl,by decide +kernel,rfl,by decide +kernel,by decide +kernel⟩
theorem ln:ay ["f","thing"] ["f","thing"] (aa bt):=⟨rfl,rfl,rfl,by decide +kernel,rfl,by decide +kernel,by decide +kernel⟩
theorem jW:ay ["f","kind","terms","weights"] ["f","kind","terms","weights"] (aa bf):=⟨rfl,rfl,rfl,by decide +kernel,rfl,by decide +kernel,by decide +kernel⟩
theorem sI:ay ["f","kind","terms","thing"] ["f","kind","terms","thing"] (aa dl):=⟨rfl,rfl,rfl,by decide +kernel,rfl,by decide +kernel,by decide +kernel⟩
theorem iK:ay ["f","weights","n"] ["f","weights"] (aa bQ):=⟨rfl,rfl,rfl,by decide +kernel,rfl,by decide +kernel,by decide +kernel⟩
theorem dI:ay ["_law_script","_law_seed","_law_cell"] ["_law_script"] (aa bG):=⟨rfl,rfl,rfl,by decide +kernel,rfl,by decide +kernel,by decide +kernel⟩
theorem d5:ay ["_law_spool_here","_law_many","_law_digit","_law_once","_law_twice"] ["_law_spool_here","_law_many"] (aa bY):=⟨rfl,rfl,rfl,by decide +kernel,rfl,by decide +kernel,by decide +kernel⟩
theorem qx:ay ["_law_row_here"] ["_law_row_here"] (aa cq):=⟨rfl,rfl,rfl,by decide +kernel,rfl,by decide +kernel,by decide +kernel⟩
theorem iM:ay ["_law_kind","_law_term_here","_law_row_here","_law_on_here"] ["_law_kind","_law_term_here","_law_row_here"] (aa bO):=⟨rfl,rfl,rfl,by decide +kernel,rfl,by decide +kernel,by decide +kernel⟩
theorem il:ay ["_law_n","_law_size","_law_every"] ["_law_n","_law_size"] (aa bh):=⟨rfl,rfl,rfl,by decide +kernel,rfl,by decide +kernel,by decide +kernel⟩
theorem cV:ay ["_law_spool_here","_law_many","_law_first","_law_at","_law_way","_law_some","_law_k","_law_drawn"] ["_law_spool_here"] (aa cc):=⟨rfl,rfl,rfl,by decide +kernel,rfl,by decide +kernel,by decide +kernel⟩
theorem h8:ay ["_law_thing","_law_many"] ["_law_thing","_law_many"] (aa aI):=⟨rfl,rfl,rfl,by decide +kernel,rfl,by decide +kernel,by decide +kernel⟩
theorem bH:ay ["_law_row_here","_law_kind","_law_n","_law_changes","_law_weights","_law_shares","_law_sizes","_law_term_here","_law_f","_law_terms_here"] ["_law_row_here","_law_kind"] (aa aV):=⟨rfl,rfl,rfl,by decide +kernel,rfl,by decide +kernel,by decide +kernel⟩
theorem mY:ay ["_law_script","_law_spool_here","_law_turn","_law_row_here"] ["_law_script"] (aa i8):=⟨rfl,rfl,rfl,by decide +kernel,rfl,by decide +kernel,by decide +kernel⟩
set_option genSizeOf false in
set_option genInjectivity false in
structure Adr where
 f_is_whole:Addr
 fd_is_whole:FuncData
 f_are_amounts:Addr
 fd_are_amounts:FuncData
 f_power_of_two:Addr
 fd_power_of_two:FuncData
 f_on_in:Addr
 fd_on_in:FuncData
 f_greatest_part:Addr
 fd_greatest_part:FuncData
 f_lowered:Addr
 fd_lowered:FuncData
 f_how_many_choices:Addr
 fd_how_many_choices:FuncData
 f_multiplied:Addr
 fd_multiplied:FuncData
 f_switches_of:Addr
 fd_switches_of:FuncData
 f_told_rows:Addr
 fd_told_rows:FuncData
 f_sign_at:Addr
 fd_sign_at:FuncData
 f_terms_to:Addr
 fd_terms_to:FuncData
 f_value_of:Addr
 fd_value_of:FuncData
 f_many_on:Addr
 fd_many_on:FuncData
 f_by_counts:Addr
 fd_by_counts:FuncData
 f_ends_of:Addr
 fd_ends_of:FuncData
 f_changes_of:Addr
 fd_changes_of:FuncData
 f_share_of:Addr
 fd_share_of:FuncData
 f_counts_bar:Addr
 fd_counts_bar:FuncData
 f_signed_value:Addr
 fd_signed_value:FuncData
 f_weighted:Addr
 fd_weighted:FuncData
 f_are_weights:Addr
 fd_are_weights:FuncData
 f_are_balanced:Addr
 fd_are_balanced:FuncData
 f_is_bar:Addr
 fd_is_bar:FuncData
 f_barred_to:Addr
 fd_barred_to:FuncData
 f__law_spool:Addr
 fd__law_spool:FuncData
 f__law_take:Addr
 fd__law_take:FuncData
 f__law_on:Addr
 fd__law_on:FuncData
 f__law_term:Addr
 fd__law_term:FuncData
 f__law_terms:Addr
 fd__law_terms:FuncData
 f__law_row:Addr
 fd__law_row:FuncData
 f__law_are_weights:Addr
 fd__law_are_weights:FuncData
 f__law_right:Addr
 fd__law_right:FuncData
 f_law:Addr
 fd_law:FuncData
structure Txt (K:PySem.W.Frag) (mg:Str->Option Value) (t:Adr):Prop where
 F_is_whole:Fun K "is_whole" "is_whole" ce t.f_is_whole t.fd_is_whole
 m_is_whole:mg "is_whole" = some (.ref t.f_is_whole)
 b_is_whole:bq K t.fd_is_whole ["thing"] []
 F_are_amounts:Fun K "are_amounts" "are_amounts" br t.f_are_amounts t.fd_are_amounts
 m_are_amounts:mg "are_amounts" = some (.ref t.f_are_amounts)
 b_are_amounts:bq K t.fd_are_amounts ["thing","many"] []
 F_power_of_two:Fun K "power_of_two" "power_of_two" bx t.f_power_of_two t.fd_power_of_two
 m_power_of_two:mg "power_of_two" = some (.ref t.f_power_of_two)
 b_power_of_two:bq K t.fd_power_of_two ["k"] []
 F_on_in:Fun K "on_in" "on_in" dZ t.f_on_in t.fd_on_in
 m_on_in:mg "on_in" = some (.ref t.f_on_in)
 b_on_in:bq K t.fd_on_in ["row","k"] []
 F_greatest_part:Fun K "greatest_part" "greatest_part" bi t.f_greatest_part t.fd_greatest_part
 m_greatest_part:mg "greatest_part" = some (.ref t.f_greatest_part)
 b_greatest_part:bq K t.fd_greatest_part ["numbers"] []
 F_lowered:Fun K "lowered" "lowered" cp t.f_lowered t.fd_lowered
 m_lowered:mg "lowered" = some (.ref t.f_lowered)
 b_lowered:bq K t.fd_lowered ["numbers"] []
 F_how_many_choices:Fun K "how_many_choices" "how_many_choices" aM t.f_how_many_choices t.fd_how_many_choices
 m_how_many_choices:mg "how_many_choices" = some (.ref t.f_how_many_choices)
 b_how_many_choices:bq K t.fd_how_many_choices ["many","taken"] []
 F_multiplied:Fun K "multiplied" "multiplied" bL t.f_multiplied t.fd_multiplied
 m_multiplied:mg "multiplied" = some (.ref t.f_multiplied)
 b_multiplied:bq K t.fd_multiplied ["numbers"] []
 F_switches_of:Fun K "switches_of" "switches_of" bF t.f_switches_of t.fd_switches_of
 m_switches_of:mg "switches_of" = some (.ref t.f_switches_of)
 b_switches_of:bq K t.fd_switches_of ["f"] []
 F_told_rows:Fun K "told_rows" "told_rows" bN t.f_told_rows t.fd_told_rows
 m_told_rows:mg "told_rows" = some (.ref t.f_told_rows)
 b_told_rows:bq K t.fd_told_rows ["f"] []
 F_sign_at:Fun K "sign_at" "sign_at" cC t.f_sign_at t.fd_sign_at
 m_sign_at:mg "sign_at" = some (.ref t.f_sign_at)
 b_sign_at:bq K t.fd_sign_at ["f","row"] []
 F_terms_to:Fun K "terms_to" "terms_to" b0 t.f_terms_to t.fd_terms_to
 m_terms_to:mg "terms_to" = some (.ref t.f_terms_to)
 b_terms_to:bq K t.fd_terms_to ["n","size"] []
 F_value_of:Fun K "value_of" "value_of" b3 t.f_value_of t.fd_value_of
 m_value_of:mg "value_of" = some (.ref t.f_value_of)
 b_value_of:bq K t.fd_value_of ["kind","term","row"] []
 F_many_on:Fun K "many_on" "many_on" cF t.f_many_on t.fd_many_on
 m_many_on:mg "many_on" = some (.ref t.f_many_on)
 b_many_on:bq K t.fd_many_on ["row"] []
 F_by_counts:Fun K "by_counts" "by_counts" bP t.f_by_counts t.fd_by_counts
 m_by_counts:mg "by_counts" = some (.ref t.f_by_counts)
 b_by_counts:bq K t.fd_by_counts ["row"] []
 F_ends_of:Fun K "ends_of" "ends_of" cn t.f_ends_of t.fd_ends_of
 m_ends_of:mg "ends_of" = some (.ref t.f_ends_of)
 b_ends_of:bq K t.fd_ends_of ["row"] []
 F_changes_of:Fun K "changes_of" "changes_of" bM t.f_changes_of t.fd_changes_of
 m_changes_of:mg "changes_of" = some (.ref t.f_changes_of)
 b_changes_of:bq K t.fd_changes_of ["row"] []
 F_share_of:Fun K "share_of" "share_of" b5 t.f_share_of t.fd_share_of
 m_share_of:mg "share_of" = some (.ref t.f_share_of)
 b_share_of:bq K t.fd_share_of ["n","counts","count"] []
 F_counts_bar:Fun K "counts_bar" "counts_bar" bI t.f_counts_bar t.fd_counts_bar
 m_counts_bar:mg "counts_bar" = some (.ref t.f_counts_bar)
 b_counts_bar:bq K t.fd_counts_bar ["row"] []
 F_signed_value:Fun K "signed_value" "signed_value" bv t.f_signed_value t.fd_signed_value
 m_signed_value:mg "signed_value" = some (.ref t.f_signed_value)
 b_signed_value:bq K t.fd_signed_value ["f","kind","term","row"] []
 F_weighted:Fun K "weighted" "weighted" b6 t.f_weighted t.fd_weighted
 m_weighted:mg "weighted" = some (.ref t.f_weighted)
 b_weighted:bq K t.fd_weighted ["f","kind","term","weights"] []
 F_are_weights:Fun K "are_weights" "are_weights" bt t.f_are_weights t.fd_are_weights
 m_are_weights:mg "are_weights" = some (.ref t.f_are_weights)
 b_are_weights:bq K t.fd_are_weights ["f","thing"] []
 F_are_balanced:Fun K "are_balanced" "are_balanced" bf t.f_are_balanced t.fd_are_balanced
 m_are_balanced:mg "are_balanced" = some (.ref t.f_are_balanced)
 b_are_balanced:bq K t.fd_are_balanced ["f","kind","terms","weights"] []
 F_is_bar:Fun K "is_bar" "is_bar" dl t.f_is_bar t.fd_is_bar
 m_is_bar:mg "is_bar" = some (.ref t.f_is_bar)
 b_is_bar:bq K t.fd_is_bar ["f","kind","terms","thing"] []
 F_barred_to:Fun K "barred_to" "barred_to" bQ t.f_barred_to t.fd_barred_to
 m_barred_to:mg "barred_to" = some (.ref t.f_barred_to)
 b_barred_to:bq K t.fd_barred_to ["f","weights"] []
 F__law_spool:Fun K "_law_spool" "_law_spool" bG t.f__law_spool t.fd__law_spool
 m__law_spool:mg "_law_spool" = some (.ref t.f__law_spool)
 b__law_spool:bq K t.fd__law_spool ["_law_script"] []
 F__law_take:Fun K "_law_take" "_law_take" bY t.f__law_take t.fd__law_take
 m__law_take:mg "_law_take" = some (.ref t.f__law_take)
 b__law_take:bq K t.fd__law_take ["_law_spool_here","_law_many"] []
 F__law_on:Fun K "_law_on" "_law_on" cq t.f__law_on t.fd__law_on
 m__law_on:mg "_law_on" = some (.ref t.f__law_on)
 b__law_on:bq K t.fd__law_on ["_law_row_here"] []
 F__law_term:Fun K "_law_term" "_law_term" bO t.f__law_term t.fd__law_term
 m__law_term:mg "_law_term" = some (.ref t.f__law_term)
 b__law_term:bq K t.fd__law_term ["_law_kind","_law_term_here","_law_row_here"] []
 F__law_terms:Fun K "_law_terms" "_law_terms" bh t.f__law_terms t.fd__law_terms
 m__law_terms:mg "_law_terms" = some (.ref t.f__law_terms)
 b__law_terms:bq K t.fd__law_terms ["_law_n","_law_size"] []
 F__law_row:Fun K "_law_row" "_law_row" cc t.f__law_row t.fd__law_row
 m__law_row:mg "_law_row" = some (.ref t.f__law_row)
 b__law_row:bq K t.fd__law_row ["_law_spool_here"] []
 F__law_are_weights:Fun K "_law_are_weights" "_law_are_weights" aI t.f__law_are_weights t.fd__law_are_weights
 m__law_are_weights:mg "_law_are_weights" = some (.ref t.f__law_are_weights)
 b__law_are_weights:bq K t.fd__law_are_weights ["_law_thing","_law_many"] []
 F__law_right:Fun K "_law_right" "_law_right" aV t.f__law_right t.fd__law_right
 m__law_right:mg "_law_right" = some (.ref t.f__law_right)
 b__law_right:bq K t.fd__law_right ["_law_row_here","_law_kind"] []
 F_law:Fun K "law" "law" i8 t.f_law t.fd_law
 m_law:mg "law" = some (.ref t.f_law)
 me:bq K t.fd_law ["_law_script"] []
 z_abs:mg "abs" = none
 z_all:mg "all" = none
 z_any:mg "any" = none
 z_bool:mg "bool" = none
 z_enumerate:mg "enumerate" = none
 z_int:mg "int" = none
 z_isinstance:mg "isinstance" = none
 z_len:mg "len" = none
 z_max:mg "max" = none
 z_min:mg "min" = none
 z_range:mg "range" = none
 z_repr:mg "repr" = none
 z_sorted:mg "sorted" = none
 z_sum:mg "sum" = none
 z_tuple:mg "tuple" = none
 z_zip:mg "zip" = none
section
variable {P:Program}{w:World}{K:PySem.W.Frag}{mg:Str->Option Value}{base:Heap}{t:Adr}
theorem lZ (T:Txt K mg t) (cdv:Value) (A:Around) (outer:List Env) (s:Shared) (H:Hp) (E:XK) (hr:bn (0) (A.deeper (PyProof.Rows.envOfC "is_whole" (aa ce) s.heap.objs.size t.f_is_whole cdv))):ISs K (b8 CX0 P w K mg base ["thing"] "is_whole" (aa ce) t.f_is_whole cdv A outer s H E).nox (am ce) b_is_whole:=
 (ao (aC (iD (bb (jk rfl) rfl T.z_isinstance PyProof.Rows.boot_isinstance (ab (iv 0) (ab (mk rfl T.z_int PyProof.Rows.boot_int (by decide) (by decide)) ag rfl) rfl) (by decide) (by decide) rfl rfl) (lq (tO (bb (jk rfl) rfl T.z_isinstance PyProof.Rows.boot_isinstance (ab (iv 0) (ab (mk rfl T.z_bool PyProof.Rows.boot_bool (by decide) (by decide)) ag rfl) rfl) (by decide) (by decide) rfl rfl))))))
theorem nX (T:Txt K mg t):aL P w K mg base CX0 1 t.f_is_whole t.fd_is_whole ["thing"] (spI K m_is_whole):=
 show aL P w K mg base CX0 1 t.f_is_whole t.fd_is_whole ["thing"] (spI K (aN (List.length (α:=Str) ["thing"]) (List.length (α:=Str) ["thing"]) b_is_whole)) from cY (N:=["thing"]) (ps:=["thing"]) (b:=b_is_whole) T.F_is_whole pJ (λcdv A outer s H E hr=>lZ T cdv A outer s H E hr)
theorem jp (T:Txt K mg t) (cdv:Value) (A:Around) (outer:List Env) (s:Shared) (H:Hp) (E:XK) (hr:bn (1) (A.deeper (PyProof.Rows.envOfC "are_amounts" (aa br) s.heap.objs.size t.f_are_amounts cdv))):ISs K (b8 CX0 P w K mg base ["thing","many"] "are_amounts" (aa br) t.f_are_amounts cdv A outer s H E).nox (am br) b_are_amounts:=
 (ak (fB (p6 (ud (jr (jv (bb (jk rfl) rfl T.z_isinstance PyProof.Rows.boot_isinstance (ab (iv 0) (ab (mk rfl T.z_tuple PyProof.Rows.boot_tuple (by decide) (by decide)) ag rfl) rfl) (by decide) (by decide) rfl rfl) rfl rfl)) (rF (bo (gD hr rfl) (bb (ca rfl) rfl T.z_len PySem.boot_len (ab (iv 0) ag rfl) (by decide) (by decide) rfl rfl) (iv 1) (aH _))))) (ao (aC iQ)) cB) (ao (aC (bb (np rfl rfl) rfl T.z_all PyProof.Rows.boot_all (ab (aR (cP (cr (aa br).names ["thing","many"] ["number"] 1 [] rfl rfl rfl (by decide +kernel)) rfl (by decide) (cA (iv 0) rfl) (λ_ _ _ _ _=>(aQ (ax (i:=0) (show List.Nodup (α:=Str) ["number"] by decide +kernel) rfl (by first | exact Or.inl rfl | exact Or.inr rfl)))) (λ_ _ _ _ _=>df) (λ_ _ _ _ _=>(iD (aq (nX T) (by decide) hr rfl T.m_is_whole T.F_is_whole.kp T.b_is_whole (ab (iv 0) ag rfl) (by decide) rfl rfl) (lq (dQ uh (iv 0) ai (aH _))))) (λ_=>rfl))) ag rfl) (by decide) (by decide) rfl rfl))))
theorem kz (T:Txt K mg t):aL P w K mg base CX0 2 t.f_are_amounts t.fd_are_amounts ["thing","many"] (spI K m_are_amounts):=
 show aL P w K mg base CX0 2 t.f_are_amounts t.fd_are_amounts ["thing","many"] (spI K (aN (List.length (α:=Str) ["thing","many"]) (List.length (α:=Str) ["thing","many"]) b_are_amounts)) from cY (N:=["thing","many"]) (ps:=["thing","many"]) (b:=b_are_amounts) T.F_are_amounts kB (λcdv A outer s H E hr=>jp T cdv A outer s H E hr)
theorem iO (T:Txt K mg t) (cdv:Value) (A:Around) (outer:List Env) (s:Shared) (H:Hp) (E:XK) (hr:bn (0) (A.deeper (PyProof.Rows.envOfC "power_of_two" (aa bx) s.heap.objs.size t.f_power_of_two cdv))):ISs K (b8 CX0 P w K mg base ["k","power","step"] "power_of_two" (aa bx) t.f_power_of_two cdv A outer s H E).nox (am bx) b_power_of_two:=
 (ak (aE (i:=1) cS.nd rfl (by first | exact Or.inl rfl | exact Or.inr rfl) ai rfl (by first | exact .inl rfl | exact .inr rfl)) (ak (fo (cR rfl T.z_range (ab (iv 0) ag rfl) rfl) (aQ (ax (i:=2) cS.nd rfl (by first | exact Or.inl rfl | exact Or.inr rfl))) (ao (aE (i:=1) cS.nd rfl (by first | exact Or.inl rfl | exact Or.inr rfl) (aw (cJ rfl) (iv 1) ai) rfl (by first | exact .inl rfl | exact .inr rfl))) PassesOwn.never rfl (λ_=>rfl)) (ao (aC (iv 1)))))
theorem gh (T:Txt K mg t):aL P w K mg base CX0 1 t.f_power_of_two t.fd_power_of_two ["k"] (spI K m_power_of_two):=
 show aL P w K mg base CX0 1 t.f_power_of_two t.fd_power_of_two ["k"] (spI K (aN (List.length (α:=Str) ["k","power","step"]) (List.length (α:=Str) ["k"]) b_power_of_two)) from cY (N:=["k","power","step"]) (ps:=["k"]) (b:=b_power_of_two) T.F_power_of_two cS (λcdv A outer s H E hr=>iO T cdv A outer s H E hr)
theorem qc (T:Txt K mg t) (cdv:Value) (A:Around) (outer:List Env) (s:Shared) (H:Hp) (E:XK) (hr:bn (1) (A.deeper (PyProof.Rows.envOfC "on_in" (aa dZ) s.heap.objs.size t.f_on_in cdv))):ISs K (b8 CX0 P w K mg base ["row","k"] "on_in" (aa dZ) t.f_on_in cdv A outer s H E).nox (am dZ) b_on_in:=
 (ao (aC (aw et (aw fL (iv 0) (aq (gh T) (by decide) hr rfl T.m_power_of_two T.F_power_of_two.kp T.b_power_of_two (ab (iv 1) ag rfl) (by decide) rfl rfl)) ai)))
theorem sZ (T:Txt K mg t):aL P w K mg base CX0 2 t.f_on_in t.fd_on_in ["row","k"] (spI K m_on_in):=
 show aL P w K mg base CX0 2 t.f_on_in t.fd_on_in ["row","k"] (spI K (aN (List.length (α:=Str) ["row","k"]) (List.length (α:=Str) ["row","k"]) b_on_in)) from cY (N:=["row","k"]) (ps:=["row","k"]) (b:=b_on_in) T.F_on_in ve (λcdv A outer s H E hr=>qc T cdv A outer s H E hr)
theorem iF (T:Txt K mg t) (cdv:Value) (A:Around) (outer:List Env) (s:Shared) (H:Hp) (E:XK) (hr:bn (0) (A.deeper (PyProof.Rows.envOfC "greatest_part" (aa bi) s.heap.objs.size t.f_greatest_part cdv))):ISs K (b8 CX0 P w K mg base ["numbers","found","number","rest","over"] "greatest_part" (aa bi) t.f_greatest_part cdv A outer s H E).nox (am bi) b_greatest_part:=
 (ak (aE (i:=1) bD.nd rfl (by first | exact Or.inl rfl | exact Or.inr rfl) ai rfl (by first | exact .inl rfl | exact .inr rfl)) (ak (fo (cA (iv 0) rfl) (aQ (ax (i:=2) bD.nd rfl (by first | exact Or.inl rfl | exact Or.inr rfl))) (ak (aE (i:=3) bD.nd rfl (by first | exact Or.inl rfl | exact Or.inr rfl) (bb nF rfl T.z_abs PyProof.Rows.boot_abs (ab (iv 2) ag rfl) (by decide) (by decide) rfl rfl) rfl (by first | exact .inl rfl | exact .inr rfl)) (ao (iY 1000000000000000000000000000000 (bo (gD hr rfl) (iv 3) ai (aH _)) (ak (aE (i:=4) bD.nd rfl (by first | exact Or.inl rfl | exact Or.inr rfl) (aw et (iv 1) (iv 3)) rfl (by first | exact .inl rfl | exact .inr rfl)) (ak (aE (i:=1) bD.nd rfl (by first | exact Or.inl rfl | exact Or.inr rfl) (iv 3) rfl (by first | exact .inl rfl | exact .inr rfl)) (ao (aE (i:=3) bD.nd rfl (by first | exact Or.inl rfl | exact Or.inr rfl) (iv 4) rfl (by first | exact .inl rfl | exact .inr rfl))))) PassesOwn.never))) PassesOwn.never rfl (λ_=>rfl)) (ao (aC (iv 1)))))
theorem jw (T:Txt K mg t):aL P w K mg base CX0 1 t.f_greatest_part t.fd_greatest_part ["numbers"] (spI K m_greatest_part):=
 show aL P w K mg base CX0 1 t.f_greatest_part t.fd_greatest_part ["numbers"] (spI K (aN (List.length (α:=Str) ["numbers","found","number","rest","over"]) (List.length (α:=Str) ["numbers"]) b_greatest_part)) from cY (N:=["numbers","found","number","rest","over"]) (ps:=["numbers"]) (b:=b_greatest_part) T.F_greatest_part bD (λcdv A outer s H E hr=>iF T cdv A outer s H E hr)
theorem m9 (T:Txt K mg t) (cdv:Value) (A:Around) (outer:List Env) (s:Shared) (H:Hp) (E:XK) (hr:bn (1) (A.deeper (PyProof.Rows.envOfC "lowered" (aa cp) s.heap.objs.size t.f_lowered cdv))):ISs K (b8 CX0 P w K mg base ["numbers","shared"] "lowered" (aa cp) t.f_lowered cdv A outer s H E).nox (am cp) b_lowered:=
 (ak (aE (i:=1) kU.nd rfl (by first | exact Or.inl rfl | exact Or.inr rfl) (aq (jw T) (by decide) hr rfl T.m_greatest_part T.F_greatest_part.kp T.b_greatest_part (ab (iv 0) ag rfl) (by decide) rfl rfl) rfl (by first | exact .inl rfl | exact .inr rfl)) (ak (fB (bo (dB hr rfl) (iv 1) ai (aH _)) (ao (aC (gw (fI rfl) rfl T.z_tuple PyProof.Rows.boot_tuple (ab (iv 0) ag rfl) (by decide) (by decide) rfl rfl))) cB) (ao (aC (gw (fI rfl) rfl T.z_tuple PyProof.Rows.boot_tuple (ab (aR (cP (cr (aa cp).names ["numbers","shared"] ["number","shared"] 1 [1] rfl rfl rfl (by decide +kernel)) rfl (by decide) (cA (iv 0) rfl) (λ_ _ _ _ _=>(aQ (ax (i:=0) (show List.Nodup (α:=Str) ["number","shared"] by decide +kernel) rfl (by first | exact Or.inl rfl | exact Or.inr rfl)))) (λ_ _ _ _ _=>df) (λ_ _ _ _ _=>(aw yT (iv 0) (iv 1))) (λ_=>rfl))) ag rfl) (by decide) (by decide) rfl rfl)))))
theorem pT (T:Txt K mg t):aL P w K mg base CX0 2 t.f_lowered t.fd_lowered ["numbers"] (spI K m_lowered):=
 show aL P w K mg base CX0 2 t.f_lowered t.fd_lowered ["numbers"] (spI K (aN (List.length (α:=Str) ["numbers","shared"]) (List.length (α:=Str) ["numbers"]) b_lowered)) from cY (N:=["numbers","shared"]) (ps:=["numbers"]) (b:=b_lowered) T.F_lowered kU (λcdv A outer s H E hr=>m9 T cdv A outer s H E hr)
theorem gn (T:Txt K mg t) (cdv:Value) (A:Around) (outer:List Env) (s:Shared) (H:Hp) (E:XK) (hr:bn (0) (A.deeper (PyProof.Rows.envOfC "how_many_choices" (aa aM) s.heap.objs.size t.f_how_many_choices cdv))):ISs K (b8 CX0 P w K mg base ["many","taken","ways","k"] "how_many_choices" (aa aM) t.f_how_many_choices cdv A outer s H E).nox (am aM) b_how_many_choices:=
 (ak (aE (i:=2) b9.nd rfl (by first | exact Or.inl rfl | exact Or.inr rfl) ai rfl (by first | exact .inl rfl | exact .inr rfl)) (ak (fo (cR rfl T.z_range (ab (iv 1) ag rfl) rfl) (aQ (ax (i:=3) b9.nd rfl (by first | exact Or.inl rfl | exact Or.inr rfl))) (ao (aE (i:=2) b9.nd rfl (by first | exact Or.inl rfl | exact Or.inr rfl) (aw fL (aw (cJ rfl) (iv 2) (aw gc (iv 0) (iv 3))) (aw (cK rfl) (iv 3) ai)) rfl (by first | exact .inl rfl | exact .inr rfl))) PassesOwn.never rfl (λ_=>rfl)) (ao (aC (iv 2)))))
theorem hX (T:Txt K mg t):aL P w K mg base CX0 1 t.f_how_many_choices t.fd_how_many_choices ["many","taken"] (spI K m_how_many_choices):=
 show aL P w K mg base CX0 1 t.f_how_many_choices t.fd_how_many_choices ["many","taken"] (spI K (aN (List.length (α:=Str) ["many","taken","ways","k"]) (List.length (α:=Str) ["many","taken"]) b_how_many_choices)) from cY (N:=["many","taken","ways","k"]) (ps:=["many","taken"]) (b:=b_how_many_choices) T.F_how_many_choices b9 (λcdv A outer s H E hr=>gn T cdv A outer s H E hr)
theorem j7 (T:Txt K mg t) (cdv:Value) (A:Around) (outer:List Env) (s:Shared) (H:Hp) (E:XK) (hr:bn (0) (A.deeper (PyProof.Rows.envOfC "multiplied" (aa bL) s.heap.objs.size t.f_multiplied cdv))):ISs K (b8 CX0 P w K mg base ["numbers","product","number"] "multiplied" (aa bL) t.f_multiplied cdv A outer s H E).nox (am bL) b_multiplied:=
 (ak (aE (i:=1) dF.nd rfl (by first | exact Or.inl rfl | exact Or.inr rfl) ai rfl (by first | exact .inl rfl | exact .inr rfl)) (ak (fo (cA (iv 0) rfl) (aQ (ax (i:=2) dF.nd rfl (by first | exact Or.inl rfl | exact Or.inr rfl))) (ao (aE (i:=1) dF.nd rfl (by first | exact Or.inl rfl | exact Or.inr rfl) (aw (cJ rfl) (iv 1) (iv 2)) rfl (by first | exact .inl rfl | exact .inr rfl))) PassesOwn.never rfl (λ_=>rfl)) (ao (aC (iv 1)))))
theorem ip (T:Txt K mg t):aL P w K mg base CX0 1 t.f_multiplied t.fd_multiplied ["numbers"] (spI K m_multiplied):=
 show aL P w K mg base CX0 1 t.f_multiplied t.fd_multiplied ["numbers"] (spI K (aN (List.length (α:=Str) ["numbers","product","number"]) (List.length (α:=Str) ["numbers"]) b_multiplied)) from cY (N:=["numbers","product","number"]) (ps:=["numbers"]) (b:=b_multiplied) T.F_multiplied dF (λcdv A outer s H E hr=>j7 T cdv A outer s H E hr)
theorem jh (T:Txt K mg t) (cdv:Value) (A:Around) (outer:List Env) (s:Shared) (H:Hp) (E:XK) (hr:bn (0) (A.deeper (PyProof.Rows.envOfC "switches_of" (aa bF) s.heap.objs.size t.f_switches_of cdv))):ISs K (b8 CX0 P w K mg base ["f","many","rows"] "switches_of" (aa bF) t.f_switches_of cdv A outer s H E).nox (am bF) b_switches_of:=
 (ak (aE (i:=1) cz.nd rfl (by first | exact Or.inl rfl | exact Or.inr rfl) ai rfl (by first | exact .inl rfl | exact .inr rfl)) (ak (aE (i:=2) cz.nd rfl (by first | exact Or.inl rfl | exact Or.inr rfl) ai rfl (by first | exact .inl rfl | exact .inr rfl)) (ak (iY 1000000000000000000000000000000 (bo rg (iv 2) (bb (ca rfl) rfl T.z_len PySem.boot_len (ab (iv 0) ag rfl) (by decide) (by decide) rfl rfl) (aH _)) (ak (aE (i:=2) cz.nd rfl (by first | exact Or.inl rfl | exact Or.inr rfl) (aw (cJ rfl) (iv 2) ai) rfl (by first | exact .inl rfl | exact .inr rfl)) (ao (aE (i:=1) cz.nd rfl (by first | exact Or.inl rfl | exact Or.inr rfl) (aw (cK rfl) (iv 1) ai) rfl (by first | exact .inl rfl | exact .inr rfl)))) PassesOwn.never) (ao (aC (iv 1))))))
theorem lc (T:Txt K mg t):aL P w K mg base CX0 1 t.f_switches_of t.fd_switches_of ["f"] (spI K m_switches_of):=
 show aL P w K mg base CX0 1 t.f_switches_of t.fd_switches_of ["f"] (spI K (aN (List.length (α:=Str) ["f","many","rows"]) (List.length (α:=Str) ["f"]) b_switches_of)) from cY (N:=["f","many","rows"]) (ps:=["f"]) (b:=b_switches_of) T.F_switches_of cz (λcdv A outer s H E hr=>jh T cdv A outer s H E hr)
theorem kQ (T:Txt K mg t) (cdv:Value) (A:Around) (outer:List Env) (s:Shared) (H:Hp) (E:XK) (hr:bn (0) (A.deeper (PyProof.Rows.envOfC "told_rows" (aa bN) s.heap.objs.size t.f_told_rows cdv))):ISs K (b8 CX0 P w K mg base ["f"] "told_rows" (aa bN) t.f_told_rows cdv A outer s H E).nox (am bN) b_told_rows:=
 (ao (aC (gw (fI rfl) rfl T.z_tuple PyProof.Rows.boot_tuple (ab (aR (cP (cr (aa bN).names ["f"] ["row","value"] 2 [] rfl rfl rfl (by decide +kernel)) rfl (by decide) (mM rfl T.z_enumerate (ab (iv 0) ag rfl) rfl rfl) (λ_ _ _ _ _=>(kH (cN (ax (i:=0) (show List.Nodup (α:=Str) ["row","value"] by decide +kernel) rfl (by first | exact Or.inl rfl | exact Or.inr rfl)) (cN (ax (i:=1) (show List.Nodup (α:=Str) ["row","value"] by decide +kernel) rfl (by first | exact Or.inl rfl | exact Or.inr rfl)) iL)) rfl rfl rfl rfl rfl)) (λ_ _ _ _ _=>(cE (bo vU (iv 1) nV (aH _)))) (λ_ _ _ _ _=>(iv 0)) (λ_=>rfl))) ag rfl) (by decide) (by decide) rfl rfl)))
theorem mU (T:Txt K mg t):aL P w K mg base CX0 1 t.f_told_rows t.fd_told_rows ["f"] (spI K m_told_rows):=
 show aL P w K mg base CX0 1 t.f_told_rows t.fd_told_rows ["f"] (spI K (aN (List.length (α:=Str) ["f"]) (List.length (α:=Str) ["f"]) b_told_rows)) from cY (N:=["f"]) (ps:=["f"]) (b:=b_told_rows) T.F_told_rows ng (λcdv A outer s H E hr=>kQ T cdv A outer s H E hr)
theorem mL (T:Txt K mg t) (cdv:Value) (A:Around) (outer:List Env) (s:Shared) (H:Hp) (E:XK) (hr:bn (0) (A.deeper (PyProof.Rows.envOfC "sign_at" (aa cC) s.heap.objs.size t.f_sign_at cdv))):ISs K (b8 CX0 P w K mg base ["f","row"] "sign_at" (aa cC) t.f_sign_at cdv A outer s H E).nox (am cC) b_sign_at:=
 (ao (aC (rm (bo (dB hr rfl) (eX (iv 0) (iv 1) rfl rfl) ai (aH _)) ai (uG ai))))
theorem qC (T:Txt K mg t):aL P w K mg base CX0 1 t.f_sign_at t.fd_sign_at ["f","row"] (spI K m_sign_at):=
 show aL P w K mg base CX0 1 t.f_sign_at t.fd_sign_at ["f","row"] (spI K (aN (List.length (α:=Str) ["f","row"]) (List.length (α:=Str) ["f","row"]) b_sign_at)) from cY (N:=["f","row"]) (ps:=["f","row"]) (b:=b_sign_at) T.F_sign_at pX (λcdv A outer s H E hr=>mL T cdv A outer s H E hr)
theorem lW (T:Txt K mg t) (cdv:Value) (A:Around) (outer:List Env) (s:Shared) (H:Hp) (E:XK) (hr:bn (0) (A.deeper (PyProof.Rows.envOfC "terms_to" (aa b0) s.heap.objs.size t.f_terms_to cdv))):ISs K (b8 CX0 P w K mg base ["n","size","terms","k"] "terms_to" (aa b0) t.f_terms_to cdv A outer s H E).nox (am b0) b_terms_to:=
 (ak (aE (i:=2) eW.nd rfl (by first | exact Or.inl rfl | exact Or.inr rfl) (aR (fV (ab (vg ag) ag rfl))) rfl (by first | exact .inl rfl | exact .inr rfl)) (ak (fo (cR rfl T.z_range (ab (iv 0) ag rfl) rfl) (aQ (ax (i:=3) eW.nd rfl (by first | exact Or.inl rfl | exact Or.inr rfl))) (ao (aE (i:=2) eW.nd rfl (by first | exact Or.inl rfl | exact Or.inr rfl) (aw (cK rfl) (iv 2) (aR (cP (cr (aa b0).names ["n","size","terms","k"] ["term","size","k"] 1 [1,3] rfl rfl rfl (by decide +kernel)) rfl (by decide) (cA (iv 2) rfl) (λ_ _ _ _ _=>(aQ (ax (i:=0) (show List.Nodup (α:=Str) ["term","size","k"] by decide +kernel) rfl (by first | exact Or.inl rfl | exact Or.inr rfl)))) (λ_ _ _ _ _=>(cE (bo rg (bb (ca rfl) rfl T.z_len PySem.boot_len (ab (iv 0) ag rfl) (by decide) (by decide) rfl rfl) (iv 1) (aH _)))) (λ_ _ _ _ _=>(aw (cK rfl) (iv 0) (vg (ab (iv 2) ag rfl)))) (λ_=>rfl)))) rfl (by first | exact .inl rfl | exact .inr rfl))) PassesOwn.never rfl (λ_=>rfl)) (ao (aC (gw (fI rfl) rfl T.z_tuple PyProof.Rows.boot_tuple (ab (aR (xX (oZ hr rfl) rfl T.z_sorted PyProof.Rows.boot_sorted (ab (iv 2) ag rfl) (by decide) (by decide) rfl rfl)) ag rfl) (by decide) (by decide) rfl rfl)))))
theorem oV (T:Txt K mg t):aL P w K mg base CX0 1 t.f_terms_to t.fd_terms_to ["n","size"] (spI K m_terms_to):=
 show aL P w K mg base CX0 1 t.f_terms_to t.fd_terms_to ["n","size"] (spI K (aN (List.length (α:=Str) ["n","size","terms","k"]) (List.length (α:=Str) ["n","size"]) b_terms_to)) from cY (N:=["n","size","terms","k"]) (ps:=["n","size"]) (b:=b_terms_to) T.F_terms_to eW (λcdv A outer s H E hr=>lW T cdv A outer s H E hr)
theorem lY (T:Txt K mg t) (cdv:Value) (A:Around) (outer:List Env) (s:Shared) (H:Hp) (E:XK) (hr:bn (2) (A.deeper (PyProof.Rows.envOfC "value_of" (aa b3) s.heap.objs.size t.f_value_of cdv))):ISs K (b8 CX0 P w K mg base ["kind","term","row","many"] "value_of" (aa b3) t.f_value_of cdv A outer s H E).nox (am b3) b_value_of:=
 (ak (aE (i:=3) jP.nd rfl (by first | exact Or.inl rfl | exact Or.inr rfl) (bb (pP rfl rfl) rfl T.z_sum PyProof.Rows.boot_sum (ab (aR (cP (cr (aa b3).names ["kind","term","row","many"] ["k","row"] 1 [2] rfl rfl rfl (by decide +kernel)) rfl (by decide) (cA (iv 1) rfl) (λ_ _ _ _ _=>(aQ (ax (i:=0) (show List.Nodup (α:=Str) ["k","row"] by decide +kernel) rfl (by first | exact Or.inl rfl | exact Or.inr rfl)))) (λ_ _ _ _ _=>df) (λ_ _ _ _ _=>(aq (sZ T) (by decide) hr rfl T.m_on_in T.F_on_in.kp T.b_on_in (ab (iv 1) (ab (iv 0) ag rfl) rfl) (by decide) rfl rfl)) (λ_=>rfl))) ag rfl) (by decide) (by decide) rfl rfl) rfl (by first | exact .inl rfl | exact .inr rfl)) (ak (fB (bo (dB hr rfl) (iv 0) kS (aH _)) (ao (aC (rm (bo (dB hr rfl) (iv 3) (bb (ca rfl) rfl T.z_len PySem.boot_len (ab (iv 1) ag rfl) (by decide) (by decide) rfl rfl) (aH _)) ai ai))) cB) (ao (aC (rm (bo (dB hr rfl) (aw et (iv 3) ai) ai (aH _)) (uG ai) ai)))))
theorem oa (T:Txt K mg t):aL P w K mg base CX0 3 t.f_value_of t.fd_value_of ["kind","term","row"] (spI K m_value_of):=
 show aL P w K mg base CX0 3 t.f_value_of t.fd_value_of ["kind","term","row"] (spI K (aN (List.length (α:=Str) ["kind","term","row","many"]) (List.length (α:=Str) ["kind","term","row"]) b_value_of)) from cY (N:=["kind","term","row","many"]) (ps:=["kind","term","row"]) (b:=b_value_of) T.F_value_of jP (λcdv A outer s H E hr=>lY T cdv A outer s H E hr)
theorem mP (T:Txt K mg t) (cdv:Value) (A:Around) (outer:List Env) (s:Shared) (H:Hp) (E:XK) (hr:bn (0) (A.deeper (PyProof.Rows.envOfC "many_on" (aa cF) s.heap.objs.size t.f_many_on cdv))):ISs K (b8 CX0 P w K mg base ["row","many"] "many_on" (aa cF) t.f_many_on cdv A outer s H E).nox (am cF) b_many_on:=
 (ak (aE (i:=1) fK.nd rfl (by first | exact Or.inl rfl | exact Or.inr rfl) ai rfl (by first | exact .inl rfl | exact .inr rfl)) (ak (iY 1000000000000000000000000000000 (bo xD (iv 0) ai (aH _)) (ak (aE (i:=1) fK.nd rfl (by first | exact Or.inl rfl | exact Or.inr rfl) (aw (cK rfl) (iv 1) (aw et (iv 0) ai)) rfl (by first | exact .inl rfl | exact .inr rfl)) (ao (aE (i:=0) fK.nd rfl (by first | exact Or.inl rfl | exact Or.inr rfl) (aw fL (iv 0) ai) rfl (by first | exact .inl rfl | exact .inr rfl)))) PassesOwn.never) (ao (aC (iv 1)))))
theorem qe (T:Txt K mg t):aL P w K mg base CX0 1 t.f_many_on t.fd_many_on ["row"] (spI K m_many_on):=
 show aL P w K mg base CX0 1 t.f_many_on t.fd_many_on ["row"] (spI K (aN (List.length (α:=Str) ["row","many"]) (List.length (α:=Str) ["row"]) b_many_on)) from cY (N:=["row","many"]) (ps:=["row"]) (b:=b_many_on) T.F_many_on fK (λcdv A outer s H E hr=>mP T cdv A outer s H E hr)
theorem lp (T:Txt K mg t) (cdv:Value) (A:Around) (outer:List Env) (s:Shared) (H:Hp) (E:XK) (hr:bn (1) (A.deeper (PyProof.Rows.envOfC "by_counts" (aa bP) s.heap.objs.size t.f_by_counts cdv))):ISs K (b8 CX0 P w K mg base ["row"] "by_counts" (aa bP) t.f_by_counts cdv A outer s H E).nox (am bP) b_by_counts:=
 (ao (aC (gw (fI rfl) rfl T.z_tuple PyProof.Rows.boot_tuple (ab (aR (cP (cr (aa bP).names ["row"] ["place","row"] 1 [0] rfl rfl rfl (by decide +kernel)) rfl (by decide) (cR rfl T.z_range (ab (aq (gh T) (by decide) hr rfl T.m_power_of_two T.F_power_of_two.kp T.b_power_of_two (ab (aw gc (bb (ca rfl) rfl T.z_len PySem.boot_len (ab (iv 0) ag rfl) (by decide) (by decide) rfl rfl) ai) ag rfl) (by decide) rfl rfl) ag rfl) rfl) (λ_ _ _ _ _=>(aQ (ax (i:=0) (show List.Nodup (α:=Str) ["place","row"] by decide +kernel) rfl (by first | exact Or.inl rfl | exact Or.inr rfl)))) (λ_ _ _ _ _=>df) (λ_ _ _ _ _=>(eX (iv 1) (aq (qe T) (by decide) hr rfl T.m_many_on T.F_many_on.kp T.b_many_on (ab (iv 0) ag rfl) (by decide) rfl rfl) rfl rfl)) (λ_=>rfl))) ag rfl) (by decide) (by decide) rfl rfl)))
theorem nG (T:Txt K mg t):aL P w K mg base CX0 2 t.f_by_counts t.fd_by_counts ["row"] (spI K m_by_counts):=
 show aL P w K mg base CX0 2 t.f_by_counts t.fd_by_counts ["row"] (spI K (aN (List.length (α:=Str) ["row"]) (List.length (α:=Str) ["row"]) b_by_counts)) from cY (N:=["row"]) (ps:=["row"]) (b:=b_by_counts) T.F_by_counts nj (λcdv A outer s H E hr=>lp T cdv A outer s H E hr)
theorem nM (T:Txt K mg t) (cdv:Value) (A:Around) (outer:List Env) (s:Shared) (H:Hp) (E:XK) (hr:bn (0) (A.deeper (PyProof.Rows.envOfC "ends_of" (aa cn) s.heap.objs.size t.f_ends_of cdv))):ISs K (b8 CX0 P w K mg base ["row"] "ends_of" (aa cn) t.f_ends_of cdv A outer s H E).nox (am cn) b_ends_of:=
 (ao (aC (aR (cP (cr (aa cn).names ["row"] ["count","row"] 1 [0] rfl rfl rfl (by decide +kernel)) rfl (by decide) (cR rfl T.z_range (ab (aw gc (bb (ca rfl) rfl T.z_len PySem.boot_len (ab (iv 0) ag rfl) (by decide) (by decide) rfl rfl) ai) ag rfl) rfl) (λ_ _ _ _ _=>(aQ (ax (i:=0) (show List.Nodup (α:=Str) ["count","row"] by decide +kernel) rfl (by first | exact Or.inl rfl | exact Or.inr rfl)))) (λ_ _ _ _ _=>(cE (bo (gD hr rfl) (eX (iv 1) (iv 0) rfl rfl) (eX (iv 1) (aw (cK rfl) (iv 0) ai) rfl rfl) (aH _)))) (λ_ _ _ _ _=>(iv 0)) (λ_=>rfl)))))
theorem kF (T:Txt K mg t):aL P w K mg base CX0 1 t.f_ends_of t.fd_ends_of ["row"] (spI K m_ends_of):=
 show aL P w K mg base CX0 1 t.f_ends_of t.fd_ends_of ["row"] (spI K (aN (List.length (α:=Str) ["row"]) (List.length (α:=Str) ["row"]) b_ends_of)) from cY (N:=["row"]) (ps:=["row"]) (b:=b_ends_of) T.F_ends_of qd (λcdv A outer s H E hr=>nM T cdv A outer s H E hr)
theorem kc (T:Txt K mg t) (cdv:Value) (A:Around) (outer:List Env) (s:Shared) (H:Hp) (E:XK) (hr:bn (1) (A.deeper (PyProof.Rows.envOfC "changes_of" (aa bM) s.heap.objs.size t.f_changes_of cdv))):ISs K (b8 CX0 P w K mg base ["row"] "changes_of" (aa bM) t.f_changes_of cdv A outer s H E).nox (am bM) b_changes_of:=
 (ao (aC (bb (ca rfl) rfl T.z_len PySem.boot_len (ab (aq (kF T) (by decide) hr rfl T.m_ends_of T.F_ends_of.kp T.b_ends_of (ab (iv 0) ag rfl) (by decide) rfl rfl) ag rfl) (by decide) (by decide) rfl rfl)))
theorem lL (T:Txt K mg t):aL P w K mg base CX0 2 t.f_changes_of t.fd_changes_of ["row"] (spI K m_changes_of):=
 show aL P w K mg base CX0 2 t.f_changes_of t.fd_changes_of ["row"] (spI K (aN (List.length (α:=Str) ["row"]) (List.length (α:=Str) ["row"]) b_changes_of)) from cY (N:=["row"]) (ps:=["row"]) (b:=b_changes_of) T.F_changes_of lK (λcdv A outer s H E hr=>kc T cdv A outer s H E hr)
theorem lH (T:Txt K mg t) (cdv:Value) (A:Around) (outer:List Env) (s:Shared) (H:Hp) (E:XK) (hr:bn (1) (A.deeper (PyProof.Rows.envOfC "share_of" (aa b5) s.heap.objs.size t.f_share_of cdv))):ISs K (b8 CX0 P w K mg base ["n","counts","count"] "share_of" (aa b5) t.f_share_of cdv A outer s H E).nox (am b5) b_share_of:=
 (ao (aC (aw (cJ rfl) (aq (ip T) (by decide) hr rfl T.m_multiplied T.F_multiplied.kp T.b_multiplied (ab (aR (cP (cr (aa b5).names ["n","counts","count"] ["other","count"] 1 [2] rfl rfl rfl (by decide +kernel)) rfl (by decide) (cA (iv 1) rfl) (λ_ _ _ _ _=>(aQ (ax (i:=0) (show List.Nodup (α:=Str) ["other","count"] by decide +kernel) rfl (by first | exact Or.inl rfl | exact Or.inr rfl)))) (λ_ _ _ _ _=>(cE (bo (gD hr rfl) (iv 0) (iv 1) (aH _)))) (λ_ _ _ _ _=>(bb nF rfl T.z_abs PyProof.Rows.boot_abs (ab (aw gc (iv 1) (iv 0)) ag rfl) (by decide) (by decide) rfl rfl)) (λ_=>rfl))) ag rfl) (by decide) rfl rfl) (aq (hX T) (by decide) hr rfl T.m_how_many_choices T.F_how_many_choices.kp T.b_how_many_choices (ab (iv 0) (ab (iv 2) ag rfl) rfl) (by decide) rfl rfl))))
theorem oO (T:Txt K mg t):aL P w K mg base CX0 2 t.f_share_of t.fd_share_of ["n","counts","count"] (spI K m_share_of):=
 show aL P w K mg base CX0 2 t.f_share_of t.fd_share_of ["n","counts","count"] (spI K (aN (List.length (α:=Str) ["n","counts","count"]) (List.length (α:=Str) ["n","counts","count"]) b_share_of)) from cY (N:=["n","counts","count"]) (ps:=["n","counts","count"]) (b:=b_share_of) T.F_share_of oG (λcdv A outer s H E hr=>lH T cdv A outer s H E hr)
theorem j8 (T:Txt K mg t) (cdv:Value) (A:Around) (outer:List Env) (s:Shared) (H:Hp) (E:XK) (hr:bn (2) (A.deeper (PyProof.Rows.envOfC "counts_bar" (aa bI) s.heap.objs.size t.f_counts_bar cdv))):ISs K (b8 CX0 P w K mg base ["row","n","counts","shares","weights","count","share"] "counts_bar" (aa bI) t.f_counts_bar cdv A outer s H E).nox (am bI) b_counts_bar:=
 (ak (aE (i:=1) b7.nd rfl (by first | exact Or.inl rfl | exact Or.inr rfl) (aw gc (bb (ca rfl) rfl T.z_len PySem.boot_len (ab (iv 0) ag rfl) (by decide) (by decide) rfl rfl) ai) rfl (by first | exact .inl rfl | exact .inr rfl)) (ak (fB (bo (dB hr rfl) (aq (lL T) (by decide) hr rfl T.m_changes_of T.F_changes_of.kp T.b_changes_of (ab (iv 0) ag rfl) (by decide) rfl rfl) ai (aH _)) (ao (aC nV)) cB) (ak (aE (i:=2) b7.nd rfl (by first | exact Or.inl rfl | exact Or.inr rfl) (aw (cK rfl) (aq (kF T) (by decide) hr rfl T.m_ends_of T.F_ends_of.kp T.b_ends_of (ab (iv 0) ag rfl) (by decide) rfl rfl) (aR (fV (ab (iv 1) ag rfl)))) rfl (by first | exact .inl rfl | exact .inr rfl)) (ak (And.left (u5 (i0:=3) b7.nd rfl (by first | exact Or.inl rfl | exact Or.inr rfl) (cr (aa bI).names ["row","n","counts","shares","weights","count","share"] ["count","n","counts"] 1 [1,2] rfl rfl rfl (by decide +kernel)) rfl (by decide) (cA (iv 2) rfl) (λ_ _ _ _ _=>(aQ (ax (i:=0) (show List.Nodup (α:=Str) ["count","n","counts"] by decide +kernel) rfl (by first | exact Or.inl rfl | exact Or.inr rfl)))) (λ_ _ _ _ _=>df) (λ_ _ _ _ _=>(aq (oO T) (by decide) hr rfl T.m_share_of T.F_share_of.kp T.b_share_of (ab (iv 1) (ab (iv 2) (ab (iv 0) ag rfl) rfl) rfl) (by decide) rfl rfl)) rfl (by first | exact .inl rfl | exact .inr rfl) (λ_=>rfl))) (ak (aE (i:=4) b7.nd rfl (by first | exact Or.inl rfl | exact Or.inr rfl) (mW (As yt (aR (fV (ab ai ag rfl))) (bb (ca rfl) rfl T.z_len PySem.boot_len (ab (iv 0) ag rfl) (by decide) (by decide) rfl rfl))) rfl (by first | exact .inl rfl | exact .inr rfl)) (ak (fo (uz rfl T.z_zip (ab (iv 2) (ab (iv 3) ag rfl) rfl) rfl rfl rfl) (kH (cN (ax (i:=5) b7.nd rfl (by first | exact Or.inl rfl | exact Or.inr rfl)) (cN (ax (i:=6) b7.nd rfl (by first | exact Or.inl rfl | exact Or.inr rfl)) iL)) rfl rfl rfl rfl rfl) (ao (pE (iv 4) (iv 5) (aw fL (aq (ip T) (by decide) hr rfl T.m_multiplied T.F_multiplied.kp T.b_multiplied (ab (iv 3) ag rfl) (by decide) rfl rfl) (iv 6)) rfl rfl rfl)) PassesOwn.never rfl (λ_=>rfl)) (ao (aC (aq (pT T) (by decide) hr rfl T.m_lowered T.F_lowered.kp T.b_lowered (ab (aq (nG T) (by decide) hr rfl T.m_by_counts T.F_by_counts.kp T.b_by_counts (ab (iv 4) ag rfl) (by decide) rfl rfl) ag rfl) (by decide) rfl rfl)))))))))
theorem lN (T:Txt K mg t):aL P w K mg base CX0 3 t.f_counts_bar t.fd_counts_bar ["row"] (spI K m_counts_bar):=
 show aL P w K mg base CX0 3 t.f_counts_bar t.fd_counts_bar ["row"] (spI K (i3 (List.length (α:=Str) ["row","n","counts","shares","weights","count","share"]) (List.length (α:=Str) ["row"]) b_counts_bar)) from xa (N:=["row","n","counts","shares","weights","count","share"]) (ps:=["row"]) (b:=b_counts_bar) T.F_counts_bar b7 (λcdv A outer s H E hr=>j8 T cdv A outer s H E hr)
theorem i4 (T:Txt K mg t) (cdv:Value) (A:Around) (outer:List Env) (s:Shared) (H:Hp) (E:XK) (hr:bn (3) (A.deeper (PyProof.Rows.envOfC "signed_value" (aa bv) s.heap.objs.size t.f_signed_value cdv))):ISs K (b8 CX0 P w K mg base ["f","kind","term","row"] "signed_value" (aa bv) t.f_signed_value cdv A outer s H E).nox (am bv) b_signed_value:=
 (ao (aC (aw (cJ rfl) (aq (qC T) (by decide) hr rfl T.m_sign_at T.F_sign_at.kp T.b_sign_at (ab (iv 0) (ab (iv 3) ag rfl) rfl) (by decide) rfl rfl) (aq (oa T) (by decide) hr rfl T.m_value_of T.F_value_of.kp T.b_value_of (ab (iv 1) (ab (iv 2) (ab (iv 3) ag rfl) rfl) rfl) (by decide) rfl rfl))))
theorem jY (T:Txt K mg t):aL P w K mg base CX0 4 t.f_signed_value t.fd_signed_value ["f","kind","term","row"] (spI K m_signed_value):=
 show aL P w K mg base CX0 4 t.f_signed_value t.fd_signed_value ["f","kind","term","row"] (spI K (aN (List.length (α:=Str) ["f","kind","term","row"]) (List.length (α:=Str) ["f","kind","term","row"]) b_signed_value)) from cY (N:=["f","kind","term","row"]) (ps:=["f","kind","term","row"]) (b:=b_signed_value) T.F_signed_value j5 (λcdv A outer s H E hr=>i4 T cdv A outer s H E hr)
theorem lS (T:Txt K mg t) (cdv:Value) (A:Around) (outer:List Env) (s:Shared) (H:Hp) (E:XK) (hr:bn (4) (A.deeper (PyProof.Rows.envOfC "weighted" (aa b6) s.heap.objs.size t.f_weighted cdv))):ISs K (b8 CX0 P w K mg base ["f","kind","term","weights"] "weighted" (aa b6) t.f_weighted cdv A outer s H E).nox (am b6) b_weighted:=
 (ao (aC (bb (pP rfl rfl) rfl T.z_sum PyProof.Rows.boot_sum (ab (aR (cP (cr (aa b6).names ["f","kind","term","weights"] ["row","weights","f","kind","term"] 1 [3,0,1,2] rfl rfl rfl (by decide +kernel)) rfl (by decide) (cA (aq (mU T) (by decide) hr rfl T.m_told_rows T.F_told_rows.kp T.b_told_rows (ab (iv 0) ag rfl) (by decide) rfl rfl) rfl) (λ_ _ _ _ _=>(aQ (ax (i:=0) (show List.Nodup (α:=Str) ["row","weights","f","kind","term"] by decide +kernel) rfl (by first | exact Or.inl rfl | exact Or.inr rfl)))) (λ_ _ _ _ _=>df) (λ_ _ _ _ _=>(aw (cJ rfl) (eX (iv 1) (iv 0) rfl rfl) (aq (jY T) (by decide) hr rfl T.m_signed_value T.F_signed_value.kp T.b_signed_value (ab (iv 2) (ab (iv 3) (ab (iv 4) (ab (iv 0) ag rfl) rfl) rfl) rfl) (by decide) rfl rfl))) (λ_=>rfl))) ag rfl) (by decide) (by decide) rfl rfl)))
theorem jL (T:Txt K mg t):aL P w K mg base CX0 5 t.f_weighted t.fd_weighted ["f","kind","term","weights"] (spI K m_weighted):=
 show aL P w K mg base CX0 5 t.f_weighted t.fd_weighted ["f","kind","term","weights"] (spI K (aN (List.length (α:=Str) ["f","kind","term","weights"]) (List.length (α:=Str) ["f","kind","term","weights"]) b_weighted)) from cY (N:=["f","kind","term","weights"]) (ps:=["f","kind","term","weights"]) (b:=b_weighted) T.F_weighted pf (λcdv A outer s H E hr=>lS T cdv A outer s H E hr)
theorem ju (T:Txt K mg t) (cdv:Value) (A:Around) (outer:List Env) (s:Shared) (H:Hp) (E:XK) (hr:bn (2) (A.deeper (PyProof.Rows.envOfC "are_weights" (aa bt) s.heap.objs.size t.f_are_weights cdv))):ISs K (b8 CX0 P w K mg base ["f","thing"] "are_weights" (aa bt) t.f_are_weights cdv A outer s H E).nox (am bt) b_are_weights:=
 (ak (fB (jr (jv (aq (kz T) (by decide) hr rfl T.m_are_amounts T.F_are_amounts.kp T.b_are_amounts (ab (iv 1) (ab (bb (ca rfl) rfl T.z_len PySem.boot_len (ab (iv 0) ag rfl) (by decide) (by decide) rfl rfl) ag rfl) rfl) (by decide) rfl rfl) rfl rfl)) (ao (aC iQ)) cB) (ao (aC (bb (np rfl rfl) rfl T.z_all PyProof.Rows.boot_all (ab (aR (cP (cr (aa bt).names ["f","thing"] ["value","weight"] 2 [] rfl rfl rfl (by decide +kernel)) rfl (by decide) (uz rfl T.z_zip (ab (iv 0) (ab (iv 1) ag rfl) rfl) rfl rfl rfl) (λ_ _ _ _ _=>(kH (cN (ax (i:=0) (show List.Nodup (α:=Str) ["value","weight"] by decide +kernel) rfl (by first | exact Or.inl rfl | exact Or.inr rfl)) (cN (ax (i:=1) (show List.Nodup (α:=Str) ["value","weight"] by decide +kernel) rfl (by first | exact Or.inl rfl | exact Or.inr rfl)) iL)) rfl rfl rfl rfl rfl)) (λ_ _ _ _ _=>(cE (bo ue (iv 0) nV (aH _)))) (λ_ _ _ _ _=>(dQ (dB hr rfl) (iv 1) ai (aH _))) (λ_=>rfl))) ag rfl) (by decide) (by decide) rfl rfl))))
theorem lj (T:Txt K mg t):aL P w K mg base CX0 3 t.f_are_weights t.fd_are_weights ["f","thing"] (spI K m_are_weights):=
 show aL P w K mg base CX0 3 t.f_are_weights t.fd_are_weights ["f","thing"] (spI K (aN (List.length (α:=Str) ["f","thing"]) (List.length (α:=Str) ["f","thing"]) b_are_weights)) from cY (N:=["f","thing"]) (ps:=["f","thing"]) (b:=b_are_weights) T.F_are_weights ln (λcdv A outer s H E hr=>ju T cdv A outer s H E hr)
theorem iX (T:Txt K mg t) (cdv:Value) (A:Around) (outer:List Env) (s:Shared) (H:Hp) (E:XK) (hr:bn (5) (A.deeper (PyProof.Rows.envOfC "are_balanced" (aa bf) s.heap.objs.size t.f_are_balanced cdv))):ISs K (b8 CX0 P w K mg base ["f","kind","terms","weights"] "are_balanced" (aa bf) t.f_are_balanced cdv A outer s H E).nox (am bf) b_are_balanced:=
 (ao (aC (bb (np rfl rfl) rfl T.z_all PyProof.Rows.boot_all (ab (aR (cP (cr (aa bf).names ["f","kind","terms","weights"] ["term","f","kind","weights"] 1 [0,1,3] rfl rfl rfl (by decide +kernel)) rfl (by decide) (cA (iv 2) rfl) (λ_ _ _ _ _=>(aQ (ax (i:=0) (show List.Nodup (α:=Str) ["term","f","kind","weights"] by decide +kernel) rfl (by first | exact Or.inl rfl | exact Or.inr rfl)))) (λ_ _ _ _ _=>df) (λ_ _ _ _ _=>(dQ (dB hr rfl) (aq (jL T) (by decide) hr rfl T.m_weighted T.F_weighted.kp T.b_weighted (ab (iv 1) (ab (iv 2) (ab (iv 0) (ab (iv 3) ag rfl) rfl) rfl) rfl) (by decide) rfl rfl) ai (aH _))) (λ_=>rfl))) ag rfl) (by decide) (by decide) rfl rfl)))
theorem jU (T:Txt K mg t):aL P w K mg base CX0 6 t.f_are_balanced t.fd_are_balanced ["f","kind","terms","weights"] (spI K m_are_balanced):=
 show aL P w K mg base CX0 6 t.f_are_balanced t.fd_are_balanced ["f","kind","terms","weights"] (spI K (aN (List.length (α:=Str) ["f","kind","terms","weights"]) (List.length (α:=Str) ["f","kind","terms","weights"]) b_are_balanced)) from cY (N:=["f","kind","terms","weights"]) (ps:=["f","kind","terms","weights"]) (b:=b_are_balanced) T.F_are_balanced jW (λcdv A outer s H E hr=>iX T cdv A outer s H E hr)
theorem oE (T:Txt K mg t) (cdv:Value) (A:Around) (outer:List Env) (s:Shared) (H:Hp) (E:XK) (hr:bn (6) (A.deeper (PyProof.Rows.envOfC "is_bar" (aa dl) s.heap.objs.size t.f_is_bar cdv))):ISs K (b8 CX0 P w K mg base ["f","kind","terms","thing"] "is_bar" (aa dl) t.f_is_bar cdv A outer s H E).nox (am dl) b_is_bar:=
 (ao (aC (iD (aq (lj T) (by decide) hr rfl T.m_are_weights T.F_are_weights.kp T.b_are_weights (ab (iv 0) (ab (iv 3) ag rfl) rfl) (by decide) rfl rfl) (iD (bb (zw rfl rfl) rfl T.z_any PyProof.Rows.boot_any (ab (iv 3) ag rfl) (by decide) (by decide) rfl rfl) (lq (aq (jU T) (by decide) hr rfl T.m_are_balanced T.F_are_balanced.kp T.b_are_balanced (ab (iv 0) (ab (iv 1) (ab (iv 2) (ab (iv 3) ag rfl) rfl) rfl) rfl) (by decide) rfl rfl))))))
theorem si (T:Txt K mg t):aL P w K mg base CX0 7 t.f_is_bar t.fd_is_bar ["f","kind","terms","thing"] (spI K m_is_bar):=
 show aL P w K mg base CX0 7 t.f_is_bar t.fd_is_bar ["f","kind","terms","thing"] (spI K (aN (List.length (α:=Str) ["f","kind","terms","thing"]) (List.length (α:=Str) ["f","kind","terms","thing"]) b_is_bar)) from cY (N:=["f","kind","terms","thing"]) (ps:=["f","kind","terms","thing"]) (b:=b_is_bar) T.F_is_bar sI (λcdv A outer s H E hr=>oE T cdv A outer s H E hr)
theorem lB (T:Txt K mg t) (cdv:Value) (A:Around) (outer:List Env) (s:Shared) (H:Hp) (E:XK) (hr:bn (5) (A.deeper (PyProof.Rows.envOfC "barred_to" (aa bQ) s.heap.objs.size t.f_barred_to cdv))):ISs K (b8 CX0 P w K mg base ["f","weights","n"] "barred_to" (aa bQ) t.f_barred_to cdv A outer s H E).nox (am bQ) b_barred_to:=
 (ak (aE (i:=2) iK.nd rfl (by first | exact Or.inl rfl | exact Or.inr rfl) (aq (lc T) (by decide) hr rfl T.m_switches_of T.F_switches_of.kp T.b_switches_of (ab (iv 0) ag rfl) (by decide) rfl rfl) rfl (by first | exact .inl rfl | exact .inr rfl)) (ao (aC (bb (tq rfl) rfl T.z_min PyProof.Rows.boot_min (ab (aR (cP (cr (aa bQ).names ["f","weights","n"] ["term","f","weights"] 1 [0,1] rfl rfl rfl (by decide +kernel)) rfl (by decide) (cA (aq (oV T) (by decide) hr rfl T.m_terms_to T.F_terms_to.kp T.b_terms_to (ab (iv 2) (ab (iv 2) ag rfl) rfl) (by decide) rfl rfl) rfl) (λ_ _ _ _ _=>(aQ (ax (i:=0) (show List.Nodup (α:=Str) ["term","f","weights"] by decide +kernel) rfl (by first | exact Or.inl rfl | exact Or.inr rfl)))) (λ_ _ _ _ _=>(cE (bo (gD hr rfl) (aq (jL T) (by decide) hr rfl T.m_weighted T.F_weighted.kp T.b_weighted (ab (iv 1) (ab kS (ab (iv 0) (ab (iv 2) ag rfl) rfl) rfl) rfl) (by decide) rfl rfl) ai (aH _)))) (λ_ _ _ _ _=>(bb (ca rfl) rfl T.z_len PySem.boot_len (ab (iv 0) ag rfl) (by decide) (by decide) rfl rfl)) (λ_=>rfl))) ag rfl) (by decide) (by decide) rfl rfl))))
theorem mI (T:Txt K mg t):aL P w K mg base CX0 6 t.f_barred_to t.fd_barred_to ["f","weights"] (spI K m_barred_to):=
 show aL P w K mg base CX0 6 t.f_barred_to t.fd_barred_to ["f","weights"] (spI K (aN (List.length (α:=Str) ["f","weights","n"]) (List.length (α:=Str) ["f","weights"]) b_barred_to)) from cY (N:=["f","weights","n"]) (ps:=["f","weights"]) (b:=b_barred_to) T.F_barred_to iK (λcdv A outer s H E hr=>lB T cdv A outer s H E hr)
theorem ka (T:Txt K mg t) (cdv:Value) (A:Around) (outer:List Env) (s:Shared) (H:Hp) (E:XK) (hr:bn (0) (A.deeper (PyProof.Rows.envOfC "_law_spool" (aa bG) s.heap.objs.size t.f__law_spool cdv))):ISs K (b8 CX0 P w K mg base ["_law_script","_law_seed","_law_cell"] "_law_spool" (aa bG) t.f__law_spool cdv A outer s H E).nox (am bG) b__law_spool:=
 (ak (aE (i:=1) dI.nd rfl (by first | exact Or.inl rfl | exact Or.inr rfl) (aw (cK rfl) (bb (ca rfl) rfl T.z_len PySem.boot_len (ab (iv 0) ag rfl) (by decide) (by decide) rfl rfl) ai) rfl (by first | exact .inl rfl | exact .inr rfl)) (ak (fo (cA (xM (iv 0) rA (rh ai) rfl) rfl) (aQ (ax (i:=2) dI.nd rfl (by first | exact Or.inl rfl | exact Or.inr rfl))) (ao (aE (i:=1) dI.nd rfl (by first | exact Or.inl rfl | exact Or.inr rfl) (aw et (aw (cK rfl) (aw (cJ rfl) (iv 1) ai) (iv 2)) ai) rfl (by first | exact .inl rfl | exact .inr rfl))) PassesOwn.never rfl (λ_=>rfl)) (ao (aC (xt (ab (mW (cP (cr (aa bG).names ["_law_script","_law_seed","_law_cell"] ["_law_cell"] 1 [] rfl rfl rfl (by decide +kernel)) rfl (by decide) (cA (xM (iv 0) rA (rh ai) rfl) rfl) (λ_ _ _ _ _=>(aQ (ax (i:=0) (show List.Nodup (α:=Str) ["_law_cell"] by decide +kernel) rfl (by first | exact Or.inl rfl | exact Or.inr rfl)))) (λ_ _ _ _ _=>(cE (bo uh (bb nF rfl T.z_abs PyProof.Rows.boot_abs (ab (iv 0) ag rfl) (by decide) (by decide) rfl rfl) (aw zr ai ai) (aH _)))) (λ_ _ _ _ _=>(bb nF rfl T.z_abs PyProof.Rows.boot_abs (ab (iv 0) ag rfl) (by decide) (by decide) rfl rfl)) (λ_=>rfl))) (ab (iv 1) (ab ai ag rfl) rfl) rfl))))))
theorem lR (T:Txt K mg t):aL P w K mg base CX0 1 t.f__law_spool t.fd__law_spool ["_law_script"] (spI K m__law_spool):=
 show aL P w K mg base CX0 1 t.f__law_spool t.fd__law_spool ["_law_script"] (spI K (aN (List.length (α:=Str) ["_law_script","_law_seed","_law_cell"]) (List.length (α:=Str) ["_law_script"]) b__law_spool)) from cY (N:=["_law_script","_law_seed","_law_cell"]) (ps:=["_law_script"]) (b:=b__law_spool) T.F__law_spool dI (λcdv A outer s H E hr=>ka T cdv A outer s H E hr)
theorem kT (T:Txt K mg t) (cdv:Value) (A:Around) (outer:List Env) (s:Shared) (H:Hp) (E:XK) (hr:bn (0) (A.deeper (PyProof.Rows.envOfC "_law_take" (aa bY) s.heap.objs.size t.f__law_take cdv))):ISs K (b8 CX0 P w K mg base ["_law_spool_here","_law_many","_law_digit","_law_once","_law_twice"] "_law_take" (aa bY) t.f__law_take cdv A outer s H E).nox (am bY) b__law_take:=
 (ak (iY 1000000000000000000000000000000 (p6 (wY (bo (gD hr rfl) (dS (iv 0) ai rfl rfl) (aR (fV ag)) (aH _)) (vB (bo (dB hr rfl) (eX (dS (iv 0) ai rfl rfl) ai rfl rfl) ai (aH _))))) (ao (nt (x9 (dS (iv 0) ai rfl rfl) (ab ai ag rfl) rfl rfl (by decide) rfl rfl) rfl)) PassesOwn.never) (ak (fB (bo (gD hr rfl) (dS (iv 0) ai rfl rfl) (aR (fV ag)) (aH _)) (ak (aE (i:=2) d5.nd rfl (by first | exact Or.inl rfl | exact Or.inr rfl) (aw et (eX (dS (iv 0) ai rfl rfl) ai rfl rfl) (iv 1)) rfl (by first | exact .inl rfl | exact .inr rfl)) (ak (pE (dS (iv 0) ai rfl rfl) ai (aw fL (eX (dS (iv 0) ai rfl rfl) ai rfl rfl) (iv 1)) rfl rfl rfl) (ao (aC (iv 2))))) cB) (ak (r8 (iv 0) ai (aw (cK rfl) (dS (iv 0) ai rfl rfl) ai) rfl rfl rfl) (ak (aE (i:=3) d5.nd rfl (by first | exact Or.inl rfl | exact Or.inr rfl) (aw et (aw (cJ rfl) (aw (cK rfl) (dS (iv 0) ai rfl rfl) (aw (cJ rfl) ai (dS (iv 0) ai rfl rfl))) ai) ai) rfl (by first | exact .inl rfl | exact .inr rfl)) (ak (aE (i:=4) d5.nd rfl (by first | exact Or.inl rfl | exact Or.inr rfl) (aw et (aw (cJ rfl) (iv 3) (aw (cK rfl) (aw (cK rfl) (aw fL (iv 3) ai) (aw (cJ rfl) (dS (iv 0) ai rfl rfl) (dS (iv 0) ai rfl rfl))) ai)) ai) rfl (by first | exact .inl rfl | exact .inr rfl)) (ao (aC (aw et (aw fL (iv 4) ai) (iv 1)))))))))
theorem cI (T:Txt K mg t):aL P w K mg base CX0 1 t.f__law_take t.fd__law_take ["_law_spool_here","_law_many"] (spI K m__law_take):=
 show aL P w K mg base CX0 1 t.f__law_take t.fd__law_take ["_law_spool_here","_law_many"] (spI K (aN (List.length (α:=Str) ["_law_spool_here","_law_many","_law_digit","_law_once","_law_twice"]) (List.length (α:=Str) ["_law_spool_here","_law_many"]) b__law_take)) from cY (N:=["_law_spool_here","_law_many","_law_digit","_law_once","_law_twice"]) (ps:=["_law_spool_here","_law_many"]) (b:=b__law_take) T.F__law_take d5 (λcdv A outer s H E hr=>kT T cdv A outer s H E hr)
theorem mT (T:Txt K mg t) (cdv:Value) (A:Around) (outer:List Env) (s:Shared) (H:Hp) (E:XK) (hr:bn (0) (A.deeper (PyProof.Rows.envOfC "_law_on" (aa cq) s.heap.objs.size t.f__law_on cdv))):ISs K (b8 CX0 P w K mg base ["_law_row_here"] "_law_on" (aa cq) t.f__law_on cdv A outer s H E).nox (am cq) b__law_on:=
 (ao (aC (bb (ca rfl) rfl T.z_len PySem.boot_len (ab (aR (cP (cr (aa cq).names ["_law_row_here"] ["_law_k","_law_row_here"] 1 [0] rfl rfl rfl (by decide +kernel)) rfl (by decide) (cR rfl T.z_range (ab ai ag rfl) rfl) (λ_ _ _ _ _=>(aQ (ax (i:=0) (show List.Nodup (α:=Str) ["_law_k","_law_row_here"] by decide +kernel) rfl (by first | exact Or.inl rfl | exact Or.inr rfl)))) (λ_ _ _ _ _=>(cE (bo (dB hr rfl) (aw qA (aw pV (iv 1) (iv 0)) ai) ai (aH _)))) (λ_ _ _ _ _=>(iv 0)) (λ_=>rfl))) ag rfl) (by decide) (by decide) rfl rfl)))
theorem kN (T:Txt K mg t):aL P w K mg base CX0 1 t.f__law_on t.fd__law_on ["_law_row_here"] (spI K m__law_on):=
 show aL P w K mg base CX0 1 t.f__law_on t.fd__law_on ["_law_row_here"] (spI K (aN (List.length (α:=Str) ["_law_row_here"]) (List.length (α:=Str) ["_law_row_here"]) b__law_on)) from cY (N:=["_law_row_here"]) (ps:=["_law_row_here"]) (b:=b__law_on) T.F__law_on qx (λcdv A outer s H E hr=>mT T cdv A outer s H E hr)
theorem lD (T:Txt K mg t) (cdv:Value) (A:Around) (outer:List Env) (s:Shared) (H:Hp) (E:XK) (hr:bn (0) (A.deeper (PyProof.Rows.envOfC "_law_term" (aa bO) s.heap.objs.size t.f__law_term cdv))):ISs K (b8 CX0 P w K mg base ["_law_kind","_law_term_here","_law_row_here","_law_on_here"] "_law_term" (aa bO) t.f__law_term cdv A outer s H E).nox (am bO) b__law_term:=
 (ak (aE (i:=3) iM.nd rfl (by first | exact Or.inl rfl | exact Or.inr rfl) (bb (ca rfl) rfl T.z_len PySem.boot_len (ab (aR (cP (cr (aa bO).names ["_law_kind","_law_term_here","_law_row_here","_law_on_here"] ["_law_k","_law_row_here"] 1 [2] rfl rfl rfl (by decide +kernel)) rfl (by decide) (cA (iv 1) rfl) (λ_ _ _ _ _=>(aQ (ax (i:=0) (show List.Nodup (α:=Str) ["_law_k","_law_row_here"] by decide +kernel) rfl (by first | exact Or.inl rfl | exact Or.inr rfl)))) (λ_ _ _ _ _=>(cE (bo (dB hr rfl) (aw qA (aw pV (iv 1) (iv 0)) ai) ai (aH _)))) (λ_ _ _ _ _=>(iv 0)) (λ_=>rfl))) ag rfl) (by decide) (by decide) rfl rfl) rfl (by first | exact .inl rfl | exact .inr rfl)) (ao (aC (rm (bo (dB hr rfl) (iv 0) kS (aH _)) (gw tj rfl T.z_int PyProof.Rows.boot_int (ab (dQ (dB hr rfl) (iv 3) (bb (ca rfl) rfl T.z_len PySem.boot_len (ab (iv 1) ag rfl) (by decide) (by decide) rfl rfl) (aH _)) ag rfl) (by decide) (by decide) rfl rfl) (aw gc ai (aw (cJ rfl) ai (aw et (iv 3) ai)))))))
theorem mV (T:Txt K mg t):aL P w K mg base CX0 1 t.f__law_term t.fd__law_term ["_law_kind","_law_term_here","_law_row_here"] (spI K m__law_term):=
 show aL P w K mg base CX0 1 t.f__law_term t.fd__law_term ["_law_kind","_law_term_here","_law_row_here"] (spI K (aN (List.length (α:=Str) ["_law_kind","_law_term_here","_law_row_here","_law_on_here"]) (List.length (α:=Str) ["_law_kind","_law_term_here","_law_row_here"]) b__law_term)) from cY (N:=["_law_kind","_law_term_here","_law_row_here","_law_on_here"]) (ps:=["_law_kind","_law_term_here","_law_row_here"]) (b:=b__law_term) T.F__law_term iM (λcdv A outer s H E hr=>lD T cdv A outer s H E hr)
theorem j9 (T:Txt K mg t) (cdv:Value) (A:Around) (outer:List Env) (s:Shared) (H:Hp) (E:XK) (hr:bn (0) (A.deeper (PyProof.Rows.envOfC "_law_terms" (aa bh) s.heap.objs.size t.f__law_terms cdv))):ISs K (b8 CX0 P w K mg base ["_law_n","_law_size","_law_every"] "_law_terms" (aa bh) t.f__law_terms cdv A outer s H E).nox (am bh) b__law_terms:=
 (ak (And.left (u5 (i0:=2) il.nd rfl (by first | exact Or.inl rfl | exact Or.inr rfl) (cr (aa bh).names ["_law_n","_law_size","_law_every"] ["_law_at","_law_n"] 1 [0] rfl rfl rfl (by decide +kernel)) rfl (by decide) (cR rfl T.z_range (ab (aw pY ai (iv 0)) ag rfl) rfl) (λ_ _ _ _ _=>(aQ (ax (i:=0) (show List.Nodup (α:=Str) ["_law_at","_law_n"] by decide +kernel) rfl (by first | exact Or.inl rfl | exact Or.inr rfl)))) (λ_ _ _ _ _=>df) (λ_ _ _ _ _=>(gw (fI rfl) rfl T.z_tuple PyProof.Rows.boot_tuple (ab (aR (cP (cr _ ["_law_at","_law_n"] ["_law_k","_law_at"] 1 [0] (vW (ns:=(aa bh).names) rfl rfl) rfl rfl (by decide +kernel)) rfl (by decide) (cR rfl T.z_range (ab (iv 1) ag rfl) rfl) (λ_ _ _ _ _=>(aQ (ax (i:=0) (show List.Nodup (α:=Str) ["_law_k","_law_at"] by decide +kernel) rfl (by first | exact Or.inl rfl | exact Or.inr rfl)))) (λ_ _ _ _ _=>(cE (bo (dB hr rfl) (aw qA (aw pV (iv 1) (iv 0)) ai) ai (aH _)))) (λ_ _ _ _ _=>(iv 0)) (λ_=>rfl))) ag rfl) (by decide) (by decide) rfl rfl)) rfl (by first | exact .inl rfl | exact .inr rfl) (λ_=>rfl))) (ao (aC (aR (xX (oZ hr rfl) rfl T.z_sorted PyProof.Rows.boot_sorted (ab (aR (cP (cr (aa bh).names ["_law_n","_law_size","_law_every"] ["_law_term_here","_law_size"] 1 [1] rfl rfl rfl (by decide +kernel)) rfl (by decide) (cA (iv 2) rfl) (λ_ _ _ _ _=>(aQ (ax (i:=0) (show List.Nodup (α:=Str) ["_law_term_here","_law_size"] by decide +kernel) rfl (by first | exact Or.inl rfl | exact Or.inr rfl)))) (λ_ _ _ _ _=>(cE (bo AD (bb (ca rfl) rfl T.z_len PySem.boot_len (ab (iv 0) ag rfl) (by decide) (by decide) rfl rfl) (iv 1) (aH _)))) (λ_ _ _ _ _=>(iv 0)) (λ_=>rfl))) ag rfl) (by decide) (by decide) rfl rfl)))))
theorem ij (T:Txt K mg t):aL P w K mg base CX0 1 t.f__law_terms t.fd__law_terms ["_law_n","_law_size"] (spI K m__law_terms):=
 show aL P w K mg base CX0 1 t.f__law_terms t.fd__law_terms ["_law_n","_law_size"] (spI K (aN (List.length (α:=Str) ["_law_n","_law_size","_law_every"]) (List.length (α:=Str) ["_law_n","_law_size"]) b__law_terms)) from cY (N:=["_law_n","_law_size","_law_every"]) (ps:=["_law_n","_law_size"]) (b:=b__law_terms) T.F__law_terms il (λcdv A outer s H E hr=>j9 T cdv A outer s H E hr)
theorem lV (T:Txt K mg t) (cdv:Value) (A:Around) (outer:List Env) (s:Shared) (H:Hp) (E:XK) (hr:bn (1) (A.deeper (PyProof.Rows.envOfC "_law_row" (aa cc) s.heap.objs.size t.f__law_row cdv))):ISs K (b8 CX0 P w K mg base ["_law_spool_here","_law_many","_law_first","_law_at","_law_way","_law_some","_law_k","_law_drawn"] "_law_row" (aa cc) t.f__law_row cdv A outer s H E).nox (am cc) b__law_row:=
 (ak (aE (i:=1) cV.nd rfl (by first | exact Or.inl rfl | exact Or.inr rfl) (aw (cK rfl) ai (aq (cI T) (by decide) hr rfl T.m__law_take T.F__law_take.kp T.b__law_take (ab (iv 0) (ab ai ag rfl) rfl) (by decide) rfl rfl)) rfl (by first | exact .inl rfl | exact .inr rfl)) (ak (wj (i:=2) (j:=3) (l:=4) rfl cV.nd rfl rfl rfl (by decide) (by decide) (by decide) rfl rfl rfl (ab (aq (cI T) (by decide) hr rfl T.m__law_take T.F__law_take.kp T.b__law_take (ab (iv 0) (ab ai ag rfl) rfl) (by decide) rfl rfl) (ab (aq (cI T) (by decide) hr rfl T.m__law_take T.F__law_take.kp T.b__law_take (ab (iv 0) (ab (iv 1) ag rfl) rfl) (by decide) rfl rfl) (ab (aq (cI T) (by decide) hr rfl T.m__law_take T.F__law_take.kp T.b__law_take (ab (iv 0) (ab ai ag rfl) rfl) (by decide) rfl rfl) ag rfl) rfl) rfl) rfl rfl) (ak (aE (i:=5) cV.nd rfl (by first | exact Or.inl rfl | exact Or.inr rfl) (mW (fV ag)) rfl (by first | exact .inl rfl | exact .inr rfl)) (ak (fo (cR rfl T.z_range (ab (iv 1) ag rfl) rfl) (aQ (ax (i:=6) cV.nd rfl (by first | exact Or.inl rfl | exact Or.inr rfl))) (ak (aE (i:=7) cV.nd rfl (by first | exact Or.inl rfl | exact Or.inr rfl) (aq (cI T) (by decide) hr rfl T.m__law_take T.F__law_take.kp T.b__law_take (ab (iv 0) (ab ai ag rfl) rfl) (by decide) rfl rfl) rfl (by first | exact .inl rfl | exact .inr rfl)) (ao (nt (mq (iv 5) (ab (eX (aR (fV (ab (iv 7) (ab (iv 7) (ab (aw et (aw (cK rfl) (iv 2) (iv 6)) ai) (ab (gw tj rfl T.z_int PyProof.Rows.boot_int (ab (dQ (dB hr rfl) (dQ rg (iv 6) (iv 3) (aH _)) (dQ (dB hr rfl) (iv 2) ai (aH _)) (aH _)) ag rfl) (by decide) (by decide) rfl rfl) (ab (iv 2) ag rfl) rfl) rfl) rfl) rfl))) (iv 4) rfl rfl) ag rfl) rfl rfl (by decide) rfl rfl) rfl))) PassesOwn.never rfl (λ_=>rfl)) (ao (aC (gw (fI rfl) rfl T.z_tuple PyProof.Rows.boot_tuple (ab (iv 5) ag rfl) (by decide) (by decide) rfl rfl)))))))
theorem om (T:Txt K mg t):aL P w K mg base CX0 2 t.f__law_row t.fd__law_row ["_law_spool_here"] (spI K m__law_row):=
 show aL P w K mg base CX0 2 t.f__law_row t.fd__law_row ["_law_spool_here"] (spI K (i3 (List.length (α:=Str) ["_law_spool_here","_law_many","_law_first","_law_at","_law_way","_law_some","_law_k","_law_drawn"]) (List.length (α:=Str) ["_law_spool_here"]) b__law_row)) from xa (N:=["_law_spool_here","_law_many","_law_first","_law_at","_law_way","_law_some","_law_k","_law_drawn"]) (ps:=["_law_spool_here"]) (b:=b__law_row) T.F__law_row cV (λcdv A outer s H E hr=>lV T cdv A outer s H E hr)
theorem gq (T:Txt K mg t) (cdv:Value) (A:Around) (outer:List Env) (s:Shared) (H:Hp) (E:XK) (hr:bn (0) (A.deeper (PyProof.Rows.envOfC "_law_are_weights" (aa aI) s.heap.objs.size t.f__law_are_weights cdv))):ISs K (b8 CX0 P w K mg base ["_law_thing","_law_many"] "_law_are_weights" (aa aI) t.f__law_are_weights cdv A outer s H E).nox (am aI) b__law_are_weights:=
 (ak (fB (p6 (ud (jr (jv (bb (jk rfl) rfl T.z_isinstance PyProof.Rows.boot_isinstance (ab (iv 0) (ab (mk rfl T.z_tuple PyProof.Rows.boot_tuple (by decide) (by decide)) ag rfl) rfl) (by decide) (by decide) rfl rfl) rfl rfl)) (rF (bo (gD hr rfl) (bb (ca rfl) rfl T.z_len PySem.boot_len (ab (iv 0) ag rfl) (by decide) (by decide) rfl rfl) (iv 1) (aH _))))) (ao (aC iQ)) cB) (ak (fB (jr (jv (bb (np rfl rfl) rfl T.z_all PyProof.Rows.boot_all (ab (aR (cP (cr (aa aI).names ["_law_thing","_law_many"] ["_law_one"] 1 [] rfl rfl rfl (by decide +kernel)) rfl (by decide) (cA (iv 0) rfl) (λ_ _ _ _ _=>(aQ (ax (i:=0) (show List.Nodup (α:=Str) ["_law_one"] by decide +kernel) rfl (by first | exact Or.inl rfl | exact Or.inr rfl)))) (λ_ _ _ _ _=>df) (λ_ _ _ _ _=>(iD (bb (jk rfl) rfl T.z_isinstance PyProof.Rows.boot_isinstance (ab (iv 0) (ab (mk rfl T.z_int PyProof.Rows.boot_int (by decide) (by decide)) ag rfl) rfl) (by decide) (by decide) rfl rfl) (iD (tO (bb (jk rfl) rfl T.z_isinstance PyProof.Rows.boot_isinstance (ab (iv 0) (ab (mk rfl T.z_bool PyProof.Rows.boot_bool (by decide) (by decide)) ag rfl) rfl) (by decide) (by decide) rfl rfl)) (lq (dQ uh (iv 0) ai (aH _)))))) (λ_=>rfl))) ag rfl) (by decide) (by decide) rfl rfl) rfl rfl)) (ao (aC iQ)) cB) (ao (aC (dQ xD (bb (y8 rfl) rfl T.z_max PyProof.Rows.boot_max (ab (iv 0) ag rfl) (by decide) (by decide) rfl rfl) ai (aH _))))))
theorem ie (T:Txt K mg t):aL P w K mg base CX0 1 t.f__law_are_weights t.fd__law_are_weights ["_law_thing","_law_many"] (spI K m__law_are_weights):=
 show aL P w K mg base CX0 1 t.f__law_are_weights t.fd__law_are_weights ["_law_thing","_law_many"] (spI K (aN (List.length (α:=Str) ["_law_thing","_law_many"]) (List.length (α:=Str) ["_law_thing","_law_many"]) b__law_are_weights)) from cY (N:=["_law_thing","_law_many"]) (ps:=["_law_thing","_law_many"]) (b:=b__law_are_weights) T.F__law_are_weights h8 (λcdv A outer s H E hr=>gq T cdv A outer s H E hr)
theorem j0 (T:Txt K mg t) (cdv:Value) (A:Around) (outer:List Env) (s:Shared) (H:Hp) (E:XK) (hr:bn (7) (A.deeper (PyProof.Rows.envOfC "_law_right" (aa aV) s.heap.objs.size t.f__law_right cdv))):ISs K (b8 CX0 P w K mg base ["_law_row_here","_law_kind","_law_n","_law_changes","_law_weights","_law_shares","_law_sizes","_law_term_here","_law_f","_law_terms_here"] "_law_right" (aa aV) t.f__law_right cdv A outer s H E).nox (am aV) b__law_right:=
 (ak (aE (i:=2) bH.nd rfl (by first | exact Or.inl rfl | exact Or.inr rfl) (aw gc (bb (ca rfl) rfl T.z_len PySem.boot_len (ab (iv 0) ag rfl) (by decide) (by decide) rfl rfl) ai) rfl (by first | exact .inl rfl | exact .inr rfl)) (ak (aE (i:=3) bH.nd rfl (by first | exact Or.inl rfl | exact Or.inr rfl) (bb (ca rfl) rfl T.z_len PySem.boot_len (ab (aR (cP (cr (aa aV).names ["_law_row_here","_law_kind","_law_n","_law_changes","_law_weights","_law_shares","_law_sizes","_law_term_here","_law_f","_law_terms_here"] ["_law_k","_law_row_here"] 1 [0] rfl rfl rfl (by decide +kernel)) rfl (by decide) (cR rfl T.z_range (ab (iv 2) ag rfl) rfl) (λ_ _ _ _ _=>(aQ (ax (i:=0) (show List.Nodup (α:=Str) ["_law_k","_law_row_here"] by decide +kernel) rfl (by first | exact Or.inl rfl | exact Or.inr rfl)))) (λ_ _ _ _ _=>(cE (bo (gD hr rfl) (eX (iv 1) (iv 0) rfl rfl) (eX (iv 1) (aw (cK rfl) (iv 0) ai) rfl rfl) (aH _)))) (λ_ _ _ _ _=>(iv 0)) (λ_=>rfl))) ag rfl) (by decide) (by decide) rfl rfl) rfl (by first | exact .inl rfl | exact .inr rfl)) (ak (aE (i:=4) bH.nd rfl (by first | exact Or.inl rfl | exact Or.inr rfl) (aq (lN T) (by decide) hr rfl T.m_counts_bar T.F_counts_bar.kp T.b_counts_bar (ab (iv 0) ag rfl) (by decide) rfl rfl) rfl (by first | exact .inl rfl | exact .inr rfl)) (ak (fB (bo (dB hr rfl) (iv 3) ai (aH _)) (ao (aC (dQ ue (iv 4) nV (aH _)))) cB) (ak (fB (jr (jv (aq (ie T) (by decide) hr rfl T.m__law_are_weights T.F__law_are_weights.kp T.b__law_are_weights (ab (iv 4) (ab (aw pY ai (iv 2)) ag rfl) rfl) (by decide) rfl rfl) rfl rfl)) (ao (aC iQ)) cB) (ak (And.left (u5 (i0:=5) bH.nd rfl (by first | exact Or.inl rfl | exact Or.inr rfl) (cr (aa aV).names ["_law_row_here","_law_kind","_law_n","_law_changes","_law_weights","_law_shares","_law_sizes","_law_term_here","_law_f","_law_terms_here"] ["_law_at","_law_weight","_law_row_here"] 2 [0] rfl rfl rfl (by decide +kernel)) rfl (by decide) (mM rfl T.z_enumerate (ab (iv 4) ag rfl) rfl rfl) (λ_ _ _ _ _=>(kH (cN (ax (i:=0) (show List.Nodup (α:=Str) ["_law_at","_law_weight","_law_row_here"] by decide +kernel) rfl (by first | exact Or.inl rfl | exact Or.inr rfl)) (cN (ax (i:=1) (show List.Nodup (α:=Str) ["_law_at","_law_weight","_law_row_here"] by decide +kernel) rfl (by first | exact Or.inl rfl | exact Or.inr rfl)) iL)) rfl rfl rfl rfl rfl)) (λ_ _ _ _ _=>df) (λ_ _ _ _ _=>(aw (cJ rfl) (iv 1) (aw gc (aw (cJ rfl) ai (eX (iv 2) (aq (kN T) (by decide) hr rfl T.m__law_on T.F__law_on.kp T.b__law_on (ab (iv 0) ag rfl) (by decide) rfl rfl) rfl rfl)) ai))) rfl (by first | exact .inl rfl | exact .inr rfl) (λ_=>rfl))) (ak (aE (i:=6) bH.nd rfl (by first | exact Or.inl rfl | exact Or.inr rfl) (mW (fV ag)) rfl (by first | exact .inl rfl | exact .inr rfl)) (ak (fo (cA (aq (ij T) (by decide) hr rfl T.m__law_terms T.F__law_terms.kp T.b__law_terms (ab (iv 2) (ab (iv 2) ag rfl) rfl) (by decide) rfl rfl) rfl) (aQ (ax (i:=7) bH.nd rfl (by first | exact Or.inl rfl | exact Or.inr rfl))) (ao (fB (bo (gD hr rfl) (bb (pP rfl rfl) rfl T.z_sum PyProof.Rows.boot_sum (ab (aR (cP (cr (aa aV).names ["_law_row_here","_law_kind","_law_n","_law_changes","_law_weights","_law_shares","_law_sizes","_law_term_here","_law_f","_law_terms_here"] ["_law_at","_law_share","_law_kind","_law_term_here"] 2 [1,7] rfl rfl rfl (by decide +kernel)) rfl (by decide) (mM rfl T.z_enumerate (ab (iv 5) ag rfl) rfl rfl) (λ_ _ _ _ _=>(kH (cN (ax (i:=0) (show List.Nodup (α:=Str) ["_law_at","_law_share","_law_kind","_law_term_here"] by decide +kernel) rfl (by first | exact Or.inl rfl | exact Or.inr rfl)) (cN (ax (i:=1) (show List.Nodup (α:=Str) ["_law_at","_law_share","_law_kind","_law_term_here"] by decide +kernel) rfl (by first | exact Or.inl rfl | exact Or.inr rfl)) iL)) rfl rfl rfl rfl rfl)) (λ_ _ _ _ _=>(cE (bo (gD hr rfl) (iv 1) ai (aH _)))) (λ_ _ _ _ _=>(aw (cJ rfl) (iv 1) (aq (mV T) (by decide) hr rfl T.m__law_term T.F__law_term.kp T.b__law_term (ab (iv 2) (ab (iv 3) (ab (iv 0) ag rfl) rfl) rfl) (by decide) rfl rfl))) (λ_=>rfl))) ag rfl) (by decide) (by decide) rfl rfl) ai (aH _)) (ao (nt (mq (iv 6) (ab (bb (ca rfl) rfl T.z_len PySem.boot_len (ab (iv 7) ag rfl) (by decide) (by decide) rfl rfl) ag rfl) rfl rfl (by decide) rfl rfl) rfl)) cB)) PassesOwn.never rfl (λ_=>rfl)) (ak (fB (bo rg (bb (tq rfl) rfl T.z_min PyProof.Rows.boot_min (ab (iv 6) ag rfl) (by decide) (by decide) rfl rfl) (iv 3) (aH _)) (ao (aC iQ)) cB) (ak (aE (i:=8) bH.nd rfl (by first | exact Or.inl rfl | exact Or.inr rfl) (gw (fI rfl) rfl T.z_tuple PyProof.Rows.boot_tuple (ab (aR (cP (cr (aa aV).names ["_law_row_here","_law_kind","_law_n","_law_changes","_law_weights","_law_shares","_law_sizes","_law_term_here","_law_f","_law_terms_here"] ["_law_at","_law_row_here"] 1 [0] rfl rfl rfl (by decide +kernel)) rfl (by decide) (cR rfl T.z_range (ab (aw pY ai (iv 2)) ag rfl) rfl) (λ_ _ _ _ _=>(aQ (ax (i:=0) (show List.Nodup (α:=Str) ["_law_at","_law_row_here"] by decide +kernel) rfl (by first | exact Or.inl rfl | exact Or.inr rfl)))) (λ_ _ _ _ _=>df) (λ_ _ _ _ _=>(eX (iv 1) (aq (kN T) (by decide) hr rfl T.m__law_on T.F__law_on.kp T.b__law_on (ab (iv 0) ag rfl) (by decide) rfl rfl) rfl rfl)) (λ_=>rfl))) ag rfl) (by decide) (by decide) rfl rfl) rfl (by first | exact .inl rfl | exact .inr rfl)) (ak (aE (i:=9) bH.nd rfl (by first | exact Or.inl rfl | exact Or.inr rfl) (gw (fI rfl) rfl T.z_tuple PyProof.Rows.boot_tuple (ab (aq (ij T) (by decide) hr rfl T.m__law_terms T.F__law_terms.kp T.b__law_terms (ab (iv 2) (ab (aw gc (iv 3) ai) ag rfl) rfl) (by decide) rfl rfl) ag rfl) (by decide) (by decide) rfl rfl) rfl (by first | exact .inl rfl | exact .inr rfl)) (ao (aC (iD (dQ yj (aq (si T) (by decide) hr rfl T.m_is_bar T.F_is_bar.kp T.b_is_bar (ab (iv 8) (ab (iv 1) (ab (iv 9) (ab (iv 4) ag rfl) rfl) rfl) rfl) (by decide) rfl rfl) iQ (aH _)) (lq (dQ (dB hr rfl) (bb (qZ hr rfl) rfl T.z_repr PyProof.Rows.boot_repr (ab (aq (mI T) (by decide) hr rfl T.m_barred_to T.F_barred_to.kp T.b_barred_to (ab (iv 8) (ab (iv 4) ag rfl) rfl) (by decide) rfl rfl) ag rfl) (by decide) (by decide) rfl rfl) (bb (qZ hr rfl) rfl T.z_repr PyProof.Rows.boot_repr (ab (bb (tq rfl) rfl T.z_min PyProof.Rows.boot_min (ab (iv 6) ag rfl) (by decide) (by decide) rfl rfl) ag rfl) (by decide) (by decide) rfl rfl) (aH _)))))))))))))))))
theorem lP (T:Txt K mg t):aL P w K mg base CX0 8 t.f__law_right t.fd__law_right ["_law_row_here","_law_kind"] (spI K m__law_right):=
 show aL P w K mg base CX0 8 t.f__law_right t.fd__law_right ["_law_row_here","_law_kind"] (spI K (i3 (List.length (α:=Str) ["_law_row_here","_law_kind","_law_n","_law_changes","_law_weights","_law_shares","_law_sizes","_law_term_here","_law_f","_law_terms_here"]) (List.length (α:=Str) ["_law_row_here","_law_kind"]) b__law_right)) from xa (N:=["_law_row_here","_law_kind","_law_n","_law_changes","_law_weights","_law_shares","_law_sizes","_law_term_here","_law_f","_law_terms_here"]) (ps:=["_law_row_here","_law_kind"]) (b:=b__law_right) T.F__law_right bH (λcdv A outer s H E hr=>j0 T cdv A outer s H E hr)
theorem vd (T:Txt K mg t) (cdv:Value) (A:Around) (outer:List Env) (s:Shared) (H:Hp) (E:XK) (hr:bn (8) (A.deeper (PyProof.Rows.envOfC "law" (aa i8) s.heap.objs.size t.f_law cdv))):ISs K (b8 CX0 P w K mg base ["_law_script","_law_spool_here","_law_turn","_law_row_here"] "law" (aa i8) t.f_law cdv A outer s H E).nox (am i8) me:=
 (ak (aE (i:=1) mY.nd rfl (by first | exact Or.inl rfl | exact Or.inr rfl) (aq (lR T) (by decide) hr rfl T.m__law_spool T.F__law_spool.kp T.b__law_spool (ab (iv 0) ag rfl) (by decide) rfl rfl) rfl (by first | exact .inl rfl | exact .inr rfl)) (ak (fo (cR rfl T.z_range (ab ai ag rfl) rfl) (aQ (ax (i:=2) mY.nd rfl (by first | exact Or.inl rfl | exact Or.inr rfl))) (ak (aE (i:=3) mY.nd rfl (by first | exact Or.inl rfl | exact Or.inr rfl) (aq (om T) (by decide) hr rfl T.m__law_row T.F__law_row.kp T.b__law_row (ab (iv 1) ag rfl) (by decide) rfl rfl) rfl (by first | exact .inl rfl | exact .inr rfl)) (ao (fB (jr (jv (aq (lP T) (by decide) hr rfl T.m__law_right T.F__law_right.kp T.b__law_right (ab (iv 3) (ab (eX (aR (fV (ab kS (ab kS ag rfl) rfl))) (aq (cI T) (by decide) hr rfl T.m__law_take T.F__law_take.kp T.b__law_take (ab (iv 1) (ab ai ag rfl) rfl) (by decide) rfl rfl) rfl rfl) ag rfl) rfl) (by decide) rfl rfl) rfl rfl)) (ao (aC iQ)) cB))) PassesOwn.never rfl (λ_=>rfl)) (ao (aC iQ))))
theorem zl (T:Txt K mg t):aL P w K mg base CX0 9 t.f_law t.fd_law ["_law_script"] (spI K m_law):=
 show aL P w K mg base CX0 9 t.f_law t.fd_law ["_law_script"] (spI K (i3 (List.length (α:=Str) ["_law_script","_law_spool_here","_law_turn","_law_row_here"]) (List.length (α:=Str) ["_law_script"]) me)) from xa (N:=["_law_script","_law_spool_here","_law_turn","_law_row_here"]) (ps:=["_law_script"]) (b:=me) T.F_law mY (λcdv A outer s H E hr=>vd T cdv A outer s H E hr)
end
end Own
end
namespace L2
open PySem
end L2
namespace L2
noncomputable def cL:Nat->List (List Int)
 | 0=>[[]]
 | n+1=>cL n++(cL n).map λt=>t++[(n:Int)]
noncomputable def nL (n:Nat):List (List Int):=ef (cL n)
theorem gs:∀ n,(cL n).length=2 ^ n
 | 0=>rfl
 | n+1=>by rw [cL,List.length_append,List.length_map,gs n,Nat.pow_succ];lia
theorem vK (n:Nat):(nL n).length=2 ^ n:=by rw [nL,(cU _).length_eq,gs]
noncomputable def Trm (n:Nat) (t:List Int):Prop:=t.Pairwise (· < ·)/\∀ k ∈ t,0<=k/\k < n
theorem Trm.mono {n m:Nat}{t:List Int} (h:Trm n t) (hn:n<=m):Trm m t:=⟨h.1,λk hk=>⟨(h.2 k hk).1,by have:=(h.2 k hk).2;lia⟩⟩
theorem gS:∀ (n:Nat) {t:List Int},t ∈ cL n->Trm n t
 | 0,t,h=>by
  rw [cL,List.mem_singleton] at h
  subst h
  exact⟨List.Pairwise.nil,λk hk=>by cases hk⟩
 | n+1,t,h=>by
  rcases List.mem_append.mp h with h | h
  ·exact (gS n h).mono (Nat.le_succ n)
  ·obtain⟨u,hu,rfl⟩:=List.mem_map.mp h
   have:=gS n hu
   refine⟨List.pairwise_append.mpr ⟨this.1,List.pairwise_singleton _ _,λa ha b hb=>?_⟩,λk hk=>?_⟩
   ·rw [List.mem_singleton.mp hb];exact (this.2 a ha).2
   ·rcases List.mem_append.mp hk with hk | hk
    ·exact⟨(this.2 k hk).1,by have:=(this.2 k hk).2;lia⟩
    ·rw [List.mem_singleton.mp hk];lia
theorem jd {n:Nat}{t:List Int} (h:Trm n t):t.length<=n:=by
 have key:∀ (t:List Int) (a:Int),t.Pairwise (· < ·)->(∀ k ∈ t,a<=k/\k < n)->(t.length:Int)<=max 0 ((n:Int) - a):=by
  intro t
  induction t with
  | nil=>intro a _ _;simp;lia
  | cons x t ih=>
   intro a hp hm
   have h1:=hm x List.mem_cons_self
   have:=ih (x+1) (List.pairwise_cons.mp hp).2 λk hk=>⟨(List.pairwise_cons.mp hp).1 k hk,(hm k (List.mem_cons_of_mem _ hk)).2⟩
   rw [List.length_cons];push_cast;lia
 have:=key t 0 h.1 h.2
 lia
theorem ir (p:List Int->Bool) (l:List (List Int)):ef (l.filter p)=(ef l).filter p:=
 iN ((cU _).trans ((cU l).symm.filter p)) (dH _) ((dH l).filter p)
noncomputable def dz (m:Int):Nat->List (List Int)
 | 0=>[[]]
 | n+1=>dz m n++((dz m n).filter λt=>decide ((t.length:Int) < m)).map λt=>t++[(n:Int)]
theorem kf (m:Int) (h0:0<=m):∀ n,dz m n=(cL n).filter λt=>decide ((t.length:Int)<=m)
 | 0=>by simp [dz,cL,h0]
 | n+1=>by
  rw [dz,cL,List.filter_append,kf m h0 n,List.filter_filter,List.filter_map]
  congr 2
  refine List.filter_congr λt _=>?_
  rw [Bool.eq_iff_iff]
  simp
  lia
theorem oj (m:Int) (h0:0<=m) (n:Nat):(dz m n).length<=2 ^ n:=by
 rw [kf m h0,<-gs n];exact List.length_filter_le _ _
noncomputable def onI (row k:Int):Int:=row / 2 ^ k.toNat % 2
noncomputable def cX (row:Int):List Int->Int
 | []=>0
 | k::t=>onI row k+cX row t
theorem li (row k:Int):onI row k=0\/onI row k=1:=by unfold onI;lia
theorem lr (row:Int):∀ t:List Int,(t.map (onI row)).sum=cX row t
 | []=>rfl
 | k::t=>by rw [List.map_cons,List.sum_cons,lr row t];rfl
theorem nu (row:Int):∀ t:List Int,0<=cX row t/\cX row t<=t.length
 | []=>by simp [cX]
 | k::t=>by
  have ih:=nu row t
  rcases li row k with e | e<;>(simp only [cX,e,List.length_cons];push_cast;lia)
theorem kq:∀ (ls:List (List Int)),ms (ls.map ah)=some ((ef ls).map ah)
 | []=>rfl
 | t::r=>by
  have e:bV ((t::r).map ah)=none:=rfl
  unfold ms
  rw [e,kL];rfl
end L2
namespace L2
noncomputable def uU (u:D):Prop:=u=.non\/u=.int 0\/u=.int 1
noncomputable def cQ:Nat->List D->List Int
 | _,[]=>[]
 | i,.non::r=>cQ (i+1) r
 | i,_::r=>(i:Int)::cQ (i+1) r
noncomputable def sgD:D->Int
 | .int v=>if v=1 then 1 else -1
 | _=>1
theorem mz:∀ (r:List D) (i:Nat) {j:Int},j ∈ cQ i r->∃ m:Nat,j=((i+m:Nat):Int)/\m < r.length/\r[m]?≠some .non
 | [],i,j,h=>by cases h
 | d::r,i,j,h=>by
  have up:j ∈ cQ (i+1) r->∃ m:Nat,j=((i+m:Nat):Int)/\m < (d::r).length/\(d::r)[m]?≠some .non:=λh=>by
   obtain⟨m,e,hm,hn⟩:=mz r (i+1) h
   exact⟨m+1,by rw [e];congr 1;lia,by simpa using hm,by simpa using hn⟩
  cases d with
  | non=>exact up h
  | _=>
   rcases List.mem_cons.mp h with rfl | h
   ·exact⟨0,by simp,by simp,by simp⟩
   ·exact up h
noncomputable def vo:D->Bool
 | .tup [_,v]=>!pK v
 | _=>false
noncomputable def yr:D->D
 | .tup [j,_]=>j
 | d=>d
theorem lw:∀ (r:List D) (i:Nat),((bS i r).filter vo).map yr=(cQ i r).map D.int
 | [],i=>rfl
 | d::r,i=>by
  have ih:=lw r (i+1)
  have e0:bS i (d::r)=.tup [.int (i:Int),d]::bS (i+1) r:=rfl
  rw [e0,List.filter_cons]
  cases d<;>first
   | (rw [if_neg (show ¬ vo (.tup [.int (i:Int),.non])=true from (λh=>by cases h))];exact ih)
   | (rw [if_pos (show vo (.tup [.int (i:Int),_])=true from rfl),List.map_cons,ih];rfl)
theorem mo:∀ (r:List D) (i:Nat),(cQ i r).length<=r.length
 | [],i=>Nat.le_refl _
 | d::r,i=>by
  have ih:=mo r (i+1)
  cases d<;>first
   | (show (cQ (i+1) r).length<=r.length+1;lia)
   | (show (cQ (i+1) r).length+1<=r.length+1;lia)
noncomputable def eO (b:Bool) (on:Int):Int:=if b=true then on else 1 - 2*on
end L2
namespace L2
open PySem
abbrev Prt:=List Int×Int
end L2
namespace L2
open PySem
noncomputable def en:Nat->List Int->Nat
 | g,[]=>g
 | g,n::ns=>en (Nat.gcd g n.natAbs) ns
theorem pq (n:Int):∀ (g:Nat) (ns:List Int),en g (ns++[n])=Nat.gcd (en g ns) n.natAbs
 | g,[]=>rfl
 | g,m::ns=>pq n _ ns
theorem kW:∀ (g:Nat) (ns:List Int),en g ns∣g/\∀ n ∈ ns,en g ns∣n.natAbs
 | g,[]=>⟨Nat.dvd_refl _,λ_ h=>by cases h⟩
 | g,m::ns=>by
  have ih:=kW (Nat.gcd g m.natAbs) ns
  refine⟨Nat.dvd_trans ih.1 (Nat.gcd_dvd_left _ _),λn hn=>?_⟩
  rcases List.mem_cons.mp hn with rfl | hn
  ·exact Nat.dvd_trans ih.1 (Nat.gcd_dvd_right _ _)
  ·exact ih.2 n hn
theorem kZ {ns:List Int}{n:Int} (hn:n ∈ ns) (h0:n≠0):0 < en 0 ns/\en 0 ns<=n.natAbs:=by
 have h:=(kW 0 ns).2 n hn
 have hp:0 < n.natAbs:=by lia
 exact⟨Nat.pos_of_dvd_of_pos h hp,Nat.le_of_dvd hp h⟩
end L2
namespace L2
open PySem
theorem aB {g:Sto->W->W->Option D}{a b:Ef}{env:Ev}{st s1 s2:Sto}{x y:W}{d:D} (ha:a env st=some (x,s1)) (hb:b env s1=some (y,s2)) (hg:g s2 x y=some d):iOp g a b env st=some (.d d,s2):=by
 simp only [iOp,ha,hb,hg,Option.bind_some,Option.map_some]
theorem bB {g:Sto->W->W->Option D}{a b:Ef}{env:Ev}{st s1 s2:Sto}{x y:W}{k:Bool} (ha:a env st=some (x,s1)) (hb:b env s1=some (y,s2)) (hg:g s2 x y=some (.bl k)):bJ g a b env st=some (k,s2):=by
 simp only [bJ,ha,hb,hg,Option.bind_some,gM,Option.map_some]
theorem au {a b:Sf}{env e:Ev}{st s:Sto}{r:Fl} (ha:a env st=some (.nx e s)) (hb:b e s=some r):ap a b env st=some r:=by
 simp only [ap,ha,hb,Option.bind_some]
theorem qW {a b:Sf}{env:Ev}{st s:Sto}{w:W} (ha:a env st=some (.rt w s)):ap a b env st=some (.rt w s):=by
 simp only [ap,ha,Option.bind_some]
theorem bj {i:Nat}{f:Ef}{env:Ev}{st s:Sto}{w:W} (h:f env st=some (w,s)):aP (.nm i) f env st=some (.nx (env.set i (some w)) s):=by
 simp only [aP,h,Option.bind_some,dM,Option.map_some]
theorem av {m:Fn}{a:Af}{env:Ev}{st s:Sto}{ws:List W}{r:W×Sto} (ha:a env st=some (ws,s)) (hm:m ws s=some r):aD m a env st=some r:=by
 simp only [aD,ha,hm,Option.bind_some]
theorem aA {g:Sto->List W->Option D}{a:Af}{env:Ev}{st s:Sto}{ws:List W}{d:D} (ha:a env st=some (ws,s)) (hm:g s ws=some d):iCB g a env st=some (.d d,s):=by
 simp only [iCB,ha,hm,Option.bind_some,Option.map_some]
theorem ar {a:Ef}{b:Af}{env:Ev}{st s1 s2:Sto}{x:W}{y:List W} (ha:a env st=some (x,s1)) (hb:b env s1=some (y,s2)):ae a b env st=some (x::y,s2):=by
 simp only [ae,ha,hb,Option.bind_some,Option.map_some]
theorem iT {fi:Lf}{g:Tg}{b:Sf}{env:Ev}{st s:Sto}{ds:List D}{r:Fl} (h:fi env st=some (ds,s)) (hf:jZ g b ds env s=some r):fq fi g b env st=some r:=by
 simp only [fq,h,hf,Option.bind_some]
theorem bC {f:Ef}{env:Ev}{st s:Sto}{w:W} (h:f env st=some (w,s)):bg f env st=some (.rt w s):=by
 simp only [bg,h,Option.map_some]
theorem t8 {c:Tf}{a b:Sf}{env:Ev}{st s:Sto}{r:Option Fl} (h:c env st=some (true,s)) (ha:a env s=r):eA c a b env st=r:=by
 simp only [eA,h,Option.bind_some,if_true,ha]
theorem gC {c:Tf}{a b:Sf}{env:Ev}{st s:Sto}{r:Option Fl} (h:c env st=some (false,s)) (hb:b env s=r):eA c a b env st=r:=by
 simp only [eA,h,Option.bind_some,Bool.false_eq_true,if_false,hb]
theorem b4 {k:Nat}{js:List Nat}{fi:Lf}{g:Tg}{tt:Tf}{te:Ef}{env:Ev}{st s s2:Sto}{ds ys:List D} (h:fi env st=some (ds,s)) (hl:ds.length<=1000000) (hc:lcI g tt te (gT k js env) ds s=some (ys,s2)):iLc k js fi g tt te env st=some (ys,s2):=by
 simp only [iLc,h,hc,hl,Option.bind_some,if_true]
theorem aY {a:Lf}{env:Ev}{st s:Sto}{ds:List D} (h:a env st=some (ds,s)):aJ a env st=some (.d (.lst ds),s):=by
 simp only [aJ,h,Option.map_some]
theorem bu {n k:Nat}{b:Sf}{ws:List W}{st s:Sto}{w:W} (hl:ws.length=k) (h:b (ws.map some++List.replicate (n - k) none) st=some (.rt w s)):aN n k b ws st=some (w,s):=by
 simp only [aN,hl,if_true,h,Option.bind_some]
theorem gW {n k:Nat}{b:Sf}{ws:List W}{st s:Sto}{x:D} (hl:ws.length=k) (h:b (ws.map some++List.replicate (n - k) none) st=some (.rt (.d x) s)):i3 n k b ws st=some (.d x,s.take st.length):=by
 simp only [i3,hl,if_true,h,Option.bind_some,vi]
structure Spo where
 xs:List Int
 s:Int
 c:Int
noncomputable def spo (p:Spo) (rest:Sto):Sto:=.l (p.xs.map D.int)::.n [.h 0,.d (.int p.s),.d (.int p.c)]::rest
noncomputable def okP (p:Spo) (Z:Int):Prop:=(∀ x ∈ p.xs,0<=x)/\p.xs.length<=63/\0<=p.c/\p.c<=Z
theorem okP.mono {p:Spo}{Z Z':Int} (h:okP p Z) (hz:Z<=Z'):okP p Z':=⟨h.1,h.2.1,h.2.2.1,Int.le_trans h.2.2.2 hz⟩
theorem wd (p:Spo) (rest:Sto):(spo p rest).length=rest.length+2:=rfl
theorem pi (p:Spo) (rest:Sto):(spo p rest)[0]?=some (.l (p.xs.map D.int)):=rfl
theorem oI (p:Spo) (rest:Sto):(spo p rest)[1]?=some (.n [.h 0,.d (.int p.s),.d (.int p.c)]):=rfl
theorem nZ (p:Spo) (rest:Sto) (ys:List Int):(spo p rest).set 0 (.l (ys.map D.int))=spo { p with xs:=ys } rest:=rfl
theorem vj (p:Spo) (rest:Sto) (a b:Int):(spo p rest).set 1 (.n [.h 0,.d (.int a),.d (.int b)])=spo { p with s:=a,c:=b } rest:=rfl
theorem ww (p:Spo) (rest u:Sto):spo p rest++u=spo p (rest++u):=rfl
theorem uv (p:Spo) (rest u:Sto):(spo p (rest++u)).take (rest.length+2)=spo p rest:=by
 unfold spo
 rw [List.take_succ_cons,List.take_succ_cons,List.take_left]
theorem uE (p:Spo) (rest:Sto) (c:C):(spo p (rest++[c]))[rest.length+2]?=some c:=by
 unfold spo
 simp
theorem wA (p:Spo) (rest:Sto) (c c':C):(spo p (rest++[c])).set (rest.length+2) c'=spo p (rest++[c']):=by
 unfold spo
 simp
theorem kj (st:Sto) (ds:List D):lg (st++[.l ds]) st.length=some ds:=by
 unfold lg
 rw [List.getElem?_append_right (Nat.le_refl _),Nat.sub_self]
 rfl
theorem rK (st:Sto) (c c':C):(st++[c]).set st.length c'=st++[c']:=by
 rw [List.set_append_right _ _ (Nat.le_refl _),Nat.sub_self]
 rfl
theorem nW (st u:Sto):(st++u).take st.length=st:=List.take_left
end L2
section
set_option maxHeartbeats 1000000
namespace Own
open PySem L2
theorem Bb:oQ 10 18:=p18
theorem xz {many:Int}:∀ (xs:List Int) (p:Spo) (rest:Sto) (f:Nat),p.xs=xs->xs.length < f->(∀ x ∈ xs,0<=x)->
  ∃ ys:List Int,ys.length<=xs.length/\(∀ x ∈ ys,0<=x)/\(∀ x l,ys=x::l->x≠0)/\
   ∀ rest:Sto,cb cx fe f [some (.h 1),some (.d (.int many)),none,none,none] (spo p rest)=some (.nx [some (.h 1),some (.d (.int many)),none,none,none] (spo { p with xs:=ys } rest))
 | [],p,_,f+1,h,_,_=>by
  refine⟨[],Nat.le_refl _,(λx hx=>nomatch hx),(λx l e=>nomatch e),λrest=>?_⟩
  obtain⟨pxs,ps,pc⟩:=p
  dsimp only at h;subst h
  unfold cb
  simp only [cx,iV,iC,iOp,bJ,mw,aj,eN,aJ,iZ,gM,dN,dIx,dEq,dNe,dh,eqK,eZ,Option.bind_some,Option.map_some,List.getD_cons_zero,List.map_nil,List.length_nil,if_true,if_false,Bool.false_eq_true,Bool.not_true,sg,List.all_nil,and_self,ge,lg,Nat.zero_le,pi,oI,List.map_nil,Bool.not_true]
 | x::xs,p,rest0,f+1,h,hf,h0=>by
  obtain⟨pxs,ps,pc⟩:=p
  dsimp only at h;subst h
  by_cases hx:x=0
  ·subst hx
   obtain⟨ys,a1,a2,a3,a4⟩:=xz (many:=many) xs ⟨xs,ps,pc⟩ rest0 f rfl (by simp at hf;lia) λy hy=>h0 y (List.mem_cons_of_mem _ hy)
   refine⟨ys,by simp;lia,a2,a3,λrest=>?_⟩
   have a5:=a4 rest
   unfold cb
   have e:=nZ ⟨0::xs,ps,pc⟩ rest xs
   simp only [cx,fe,iV,iC,iOp,bJ,mw,aj,ae,eN,aJ,i6,g6,iZ,gM,dN,dIx,dEq,dNe,dh,eqK,eqD,eZ,gj,Option.bind_some,Option.map_some,List.getD_cons_zero,List.map_cons,List.length_cons,List.length_nil,if_true,if_false,Bool.not_false,sg,zK,List.getElem?_cons_zero,List.all_cons,List.all_nil,and_self,ge,tJ,lg,Nat.zero_le,Nat.add_one_ne_zero,pi,oI,show ((0:Int)==0)=true from rfl,List.eraseIdx_cons_zero,show ((-(2 ^ 62):Int)<=0) by decide,show ((0:Int) < 2 ^ 62) by decide,e]
   exact a5
  ·refine⟨x::xs,Nat.le_refl _,h0,λy l e=>by cases e;exact hx,λrest=>?_⟩
   unfold cb
   have hb:(x==0)=false:=by rw [beq_eq_false_iff_ne];exact hx
   simp only [cx,iV,iC,iOp,bJ,mw,aj,eN,aJ,iZ,gM,dN,dIx,dEq,dNe,dh,eqK,eqD,eZ,Option.bind_some,Option.map_some,List.getD_cons_zero,List.map_cons,List.length_cons,List.length_nil,if_true,if_false,Bool.false_eq_true,Bool.not_false,sg,List.all_cons,List.all_nil,ge,lg,Nat.zero_le,Nat.add_one_ne_zero,pi,oI,hb]
theorem hJ {p:Spo}{m Z:Int} (h:okP p Z) (hZ:Z < 1000000000) (m0:0 < m) (m1:m < 1073741824):∃ r p',0<=r/\r < m/\okP p' (Z+1)/\∀ rest,m__law_take [.h 1,.d (.int m)] (spo p rest)=some (.d (.int r),spo p' rest):=by
 obtain⟨h0,h63,c0,c1⟩:=h
 obtain⟨ys,y1,y2,y3,y4⟩:=xz (many:=m) p.xs p [] 1000000000000000000000000000000 rfl (by lia) h0
 obtain⟨pxs,ps,pc⟩:=p
 dsimp only at h0 h63 c0 c1 y1 y4
 cases ys with
 | cons x l=>
  refine⟨x % m,⟨x / m::l,ps,pc⟩,Int.emod_nonneg _ (by lia),Int.emod_lt_of_pos _ m0,⟨λz hz=>?_,by simp at y1 ⊢;lia,c0,by dsimp only;lia⟩,λrest=>?_⟩
  ·rcases List.mem_cons.mp hz with hz | hz
   ·subst hz;exact Int.ediv_nonneg (y2 x List.mem_cons_self) (by lia)
   ·exact y2 z (List.mem_cons_of_mem _ hz)
  ·have e:=nZ ⟨x::l,ps,pc⟩ rest (x / m::l)
   have y5:=y4 rest
   simp only [List.map_cons] at e
   simp only [m__law_take,b__law_take,gF,iV,iC,iOp,bJ,aj,eN,aJ,dA,ap,aP,la,gv,bg,eA,aN,dM,iZ,gM,dN,lsD,dIx,dw,dv,gm,fk,dNe,dh,eqK,eZ,Option.bind_some,Option.map_some,List.getD_cons_zero,List.getD_cons_succ,List.set_cons_zero,List.set_cons_succ,List.map_cons,List.map_nil,List.length_cons,List.length_nil,List.replicate_succ,List.replicate_zero,List.cons_append,List.nil_append,Nat.reduceAdd,Nat.reduceSub,if_true,if_false,Bool.not_false,sg,zK,Nat.zero_add,List.all_cons,List.all_nil,and_self,ge,i9,lg,Nat.zero_le,Nat.add_one_ne_zero,Int.reduceNeg,y5,pi,oI,m0,m1,e]
 | nil=>
  obtain⟨u,hu⟩:∃ u,(ps+104729*(pc+1))*48271 % 2305843009213693951=u:=⟨_,rfl⟩
  have u0:0<=u:=by rw [<-hu];exact Int.emod_nonneg _ (by decide)
  have u1:u < 2305843009213693951:=by rw [<-hu];exact Int.emod_lt_of_pos _ (by decide)
  have k1:∀ q,PySem.IntMulOk 104729 q:=λq=>ny (by decide)
  have k2:∀ q,PySem.IntMulOk q 48271:=λq=>fO (by decide)
  have k3:PySem.IntMulOk (pc+1) (pc+1):=fO ⟨by lia,by lia⟩
  have k4:∀ q,PySem.IntMulOk u q:=λq=>ny ⟨by lia,by lia⟩
  refine⟨u*(u / 1000003+(pc+1)*(pc+1)+7) % 2305843009213693921 / 8191 % m,⟨[],ps,pc+1⟩,Int.emod_nonneg _ (by lia),Int.emod_lt_of_pos _ m0,⟨λz hz=>(nomatch hz),by simp,by dsimp only;lia,by dsimp only;lia⟩,λrest=>?_⟩
  have y5:=y4 rest
  have e:=vj ⟨[],ps,pc⟩ rest ps (pc+1)
  simp only [m__law_take,b__law_take,gF,iV,iC,iOp,bJ,aj,eN,aJ,dA,ap,aP,la,gv,bg,eA,aN,dM,iZ,gM,dN,lsD,dIx,dw,dv,gm,fk,dNe,dh,eqK,eZ,Option.bind_some,Option.map_some,List.getD_cons_zero,List.getD_cons_succ,List.set_cons_zero,List.set_cons_succ,List.map_cons,List.map_nil,List.length_cons,List.length_nil,List.replicate_succ,List.replicate_zero,List.cons_append,List.nil_append,Nat.reduceAdd,Nat.reduceSub,if_true,if_false,Bool.false_eq_true,Bool.not_true,sg,At,z6,AS,Nat.zero_add,List.all_nil,and_self,ge,i9,lg,Nat.zero_le,Int.reduceNeg,y5,pi,oI,m0,e,k1,k2,k3,k4,hu,show (0:Int) < 2305843009213693921 by decide,show (0:Int) < 2305843009213693951 by decide,show (0:Int) < 1000003 by decide,show (1000003:Int) < 1073741824 by decide,show (0:Int) < 8191 by decide,show (8191:Int) < 1073741824 by decide]
theorem tU (ns:List Int) (hn:ns.length<=63):∃ p,okP p 0/\m__law_spool [.d (.scr ns)] []=some (.h 1,spo p []):=by
 have ec:lu (ns.map D.int) none (some 63)=ns.map D.int:=by
  unfold lu
  have e1:HT.sIx (ns.map D.int).length 0 none=0:=rfl
  have e2:HT.sIx (ns.map D.int).length (ns.map D.int).length (some 63)=(ns.map D.int).length:=by
   unfold HT.sIx;simp;lia
  rw [e1,e2,List.drop_zero,Nat.sub_zero,List.take_length]
 have k1:∀ q,PySem.IntMulOk q 1000003:=λq=>fO (by decide)
 have hF:∀ (l:List Int) (sd:Int) (last:Option W) ,∃ sd' last',jZ (.nm 2) eF (l.map D.int) [some (.d (.scr ns)),some (.d (.int sd)),last] []=some (.nx [some (.d (.scr ns)),some (.d (.int sd')),last'] []):=by
  intro l
  induction l with
  | nil=>exact λsd last=>⟨sd,last,rfl⟩
  | cons x l ih=>
   intro sd last
   obtain⟨a,b,e⟩:=ih ((sd*1000003+x) % 2305843009213693951) (some (.d (.int x)))
   refine⟨a,b,?_⟩
   rw [List.map_cons]
   unfold jZ
   simp only [eF,iV,iC,iOp,aP,dM,lsD,dw,dv,fk,Option.bind_some,Option.map_some,List.getD_cons_zero,List.getD_cons_succ,List.set_cons_zero,List.set_cons_succ,if_true,lg,Int.reduceNeg,k1,show (0:Int) < 2305843009213693951 by decide]
   exact e
 have hL:lcI (.nm 0) dq du [none] (ns.map D.int) []=some (((ns.filter λx=>decide (x.natAbs>=10 ^ 18)).map λx:Int=>(x.natAbs:Int)).map D.int,[]):=by
  have:=bX (g:=.nm 0) (tt:=dq) (te:=du) (env:=[none]) (st:=[]) (λd=>match d with | .int x=>decide (x.natAbs>=10 ^ 18) | _=>false) (λd=>match d with | .int x=>.int (x.natAbs:Int) | d=>d) (ds:=ns.map D.int) λd hd=>by
   obtain⟨x,_,rfl⟩:=List.mem_map.mp hd
   have ea:(if x < 0 then -x else x)=(x.natAbs:Int):=by split<;>lia
   refine⟨[some (.d (.int x))],rfl,?_,λ_=>?_⟩
   ·have eb:decide ((x.natAbs:Int)>=10 ^ Int.toNat 18)=decide (x.natAbs>=10 ^ 18):=by
     rw [show Int.toNat 18=18 from rfl]
     rw [Bool.eq_iff_iff];simp;lia
    simp only [dq,iV,iC,iOp,bJ,aj,ae,iCB,gM,ze,dGe,pk,Option.bind_some,Option.map_some,List.getD_cons_zero,if_true,ea,Bb,eb]
   ·simp only [du,iV,aj,ae,iCB,pk,Option.bind_some,Option.map_some,List.getD_cons_zero,ea]
  rw [this]
  rw [List.filter_map,List.map_map,List.map_map]
  rfl
 obtain⟨sd',last',e1⟩:=hF ns ((ns.length:Int)+11) none
 refine⟨⟨(ns.filter λx=>decide (x.natAbs>=10 ^ 18)).map λx:Int=>(x.natAbs:Int),sd',0⟩,⟨λx hx=>?_,?_,Int.le_refl 0,Int.le_refl 0⟩,?_⟩
 ·obtain⟨y,_,rfl⟩:=List.mem_map.mp hx;lia
 ·rw [List.length_map];exact Nat.le_trans (List.length_filter_le _ _) hn
 ·have hlen:ns.length<=1000000:=by lia
  simp only [m__law_spool,b__law_spool,iV,iC,iOp,aj,ae,iCB,jo,ap,aP,bg,fq,iLc,bm,iSl,iPn,iPs,aN,dM,zA,gT,dN,lsD,dw,cj,dSl,Option.bind_some,Option.map_some,List.getD_cons_zero,List.getD_cons_succ,List.set_cons_zero,List.set_cons_succ,List.map_cons,List.map_nil,List.length_cons,List.length_nil,List.replicate_succ,List.replicate_zero,List.cons_append,List.nil_append,Nat.reduceAdd,Nat.reduceSub,if_true,Nat.zero_add,rG,lg,ec,List.length_map,e1,hlen,hL,show (3:Nat)<=1000 by decide]
  rfl
end Own
end
section
set_option maxHeartbeats 1000000
namespace Own
open PySem L2
theorem n5 {st:Sto}{k:Int} (hk0:0<=k) (hk:k<=60):m_power_of_two [.d (.int k)] st=some (.d (.int (2 ^ k.toNat)),st):=by
 obtain⟨env',s2,e2,o,rfl,rfl⟩:=cM (g:=.nm 2) (body:=dE) (ds:=bU 0 k.toNat) (λi env s=>∃ o,env=[some (.d (.int k)),some (.d (.int (2 ^ i))),o]/\s=st) (env:=[some (.d (.int k)),some (.d (.int 1)),none]) (st:=st)
  ⟨none,rfl,rfl⟩ (λi d env s hd ⟨o,e,es⟩=>by
   subst e es
   obtain⟨rfl,hi⟩:=dj hd
   have km:PySem.IntMulOk (2 ^ i:Int) 2:=fO (by decide)
   have e1:(2 ^ i:Int)*2=2 ^ (i+1):=by rw [Int.pow_succ]
   refine⟨_,[some (.d (.int k)),some (.d (.int (2 ^ (i+1)))),some (.d (.int i))],s,rfl,.inl ?_,_,rfl,rfl⟩
   generalize (2 ^ i:Int)=p at km e1
   simp only [dE,iV,iC,iOp,aP,dM,dv,Option.bind_some,Option.map_some,List.getD_cons_zero,List.getD_cons_succ,List.set_cons_zero,List.set_cons_succ,if_true,Int.reduceNeg,km,e1])
 rw [cy] at e2
 have hb:-(2 ^ 62)<=k/\k < 2 ^ 62:=by lia
 generalize (2 ^ k.toNat:Int)=q at e2 ⊢
 simp only [m_power_of_two,b_power_of_two,iV,iC,aj,ae,ap,aP,bg,fq,bE,aN,dM,Option.bind_some,Option.map_some,List.getD_cons_zero,List.getD_cons_succ,List.set_cons_zero,List.set_cons_succ,List.map_cons,List.map_nil,List.length_cons,List.length_nil,List.replicate_succ,List.replicate_zero,List.cons_append,List.nil_append,Nat.reduceSub,if_true,Nat.zero_add,and_self,hb,e2]
theorem rQ {j:Nat} (h:j<=20):(0:Int) < 2 ^ j/\(2:Int) ^ j < 1073741824:=by
 have h1:∀ m:Nat,m<=20->2 ^ m<=2 ^ 20:=λm hm=>Nat.pow_le_pow_right (by decide) hm
 have h2:(2:Nat) ^ 20=1048576:=by decide
 have h3:=h1 j h
 have h4:((2 ^ j:Nat):Int)=(2:Int) ^ j:=by push_cast;rfl
 have h5:0 < 2 ^ j:=Nat.pow_pos (by decide)
 lia
theorem wm {st:Sto}{row k:Int} (k0:0<=k) (k1:k<=20):m_on_in [.d (.int row),.d (.int k)] st=some (.d (.int (onI row k)),st):=by
 have h:=rQ (j:=k.toNat) (by lia)
 have e:=n5 (st:=st) k0 (by lia)
 unfold onI
 generalize (2 ^ k.toNat:Int)=q at h e ⊢
 simp only [m_on_in,b_on_in,iV,iC,iOp,aj,ae,aD,bg,aN,gm,fk,Option.bind_some,Option.map_some,List.getD_cons_zero,List.getD_cons_succ,List.map_cons,List.map_nil,List.length_cons,List.length_nil,List.replicate_zero,List.cons_append,List.nil_append,Nat.reduceAdd,Nat.reduceSub,if_true,Nat.zero_add,and_self,e,h.1,h.2,show (0:Int) < 2 by decide]
noncomputable def aS (b:Bool) (t:List Int) (row:Int):Int:=if b=true then (if cX row t=(t.length:Int) then 1 else 0) else (if cX row t % 2=1 then -1 else 1)
noncomputable def bT (b:Bool):Str:=if b=true then "both" else "odd"
theorem sH (b:Bool):(bT b==("both" : Str))=b:=by cases b<;>decide
theorem tQ {st:Sto}{b:Bool}{t:List Int}{row:Int} (ht:∀ k ∈ t,0<=k/\k<=20) (hl:t.length<=1000):m_value_of [.d (.str (bT b)),.d (ah t),.d (.int row)] st=some (.d (.int (aS b t row)),st):=by
 have key:lcI (.nm 0) dD fM [none,some (.d (.int row))] (t.map D.int) st=some ((t.map D.int).map λd=>match d with | .int k=>.int (onI row k) | d=>d,st):=dg _ λd hd=>by
  obtain⟨k,hk,rfl⟩:=List.mem_map.mp hd
  exact⟨_,rfl,by simp only [fM,iV,aj,ae,aD,Option.bind_some,Option.map_some,List.getD_cons_zero,List.getD_cons_succ,List.set_cons_zero,wm (st:=st) (row:=row) (ht k hk).1 (ht k hk).2]⟩
 have e1:((t.map D.int).map λd=>match d with | .int k=>.int (onI row k) | d=>d)=(t.map (onI row)).map D.int:=by rw [List.map_map,List.map_map];rfl
 rw [e1] at key
 have hs:bV ((t.map (onI row)).map D.int)=some (t.map (onI row)):=ci _
 have hlm:(t.map D.int).length<=1000000:=by rw [List.length_map];lia
 have e2:((t.map D.int).length:Int)=(t.length:Int):=by rw [List.length_map]
 have kb:=sH b
 have hv:aS b t row=if b=true then (if (cX row t==(t.length:Int))=true then 1 else 0) else (if (cX row t % 2==(1:Int))=true then -1 else 1):=by simp only [aS,beq_iff_eq]
 rw [hv]
 generalize bT b=kd at kb ⊢
 cases b with
 | true=>cases hq:(cX row t==(t.length:Int))<;>simp only [m_value_of,b_value_of,ah,iV,iC,iOp,bJ,iUn,lT,aj,ae,iCB,aJ,dA,ap,aP,bg,eA,iLc,bm,aN,dM,gM,gT,dN,fk,dEq,dh,eqK,eqD,qk,cj,mS,Option.bind_some,Option.map_some,List.getD_cons_zero,List.getD_cons_succ,List.set_cons_zero,List.set_cons_succ,List.map_cons,List.map_nil,List.length_cons,List.length_nil,List.replicate_succ,List.replicate_zero,List.cons_append,List.nil_append,Nat.reduceAdd,Nat.reduceSub,if_true,if_false,Bool.false_eq_true,Nat.zero_add,lg,Int.reduceNeg,key,hs,hlm,lr,kb,e2,hq]
 | false=>cases hq:(cX row t % 2==(1:Int))<;>simp only [m_value_of,b_value_of,ah,iV,iC,iOp,bJ,iUn,lT,aj,ae,iCB,aJ,dA,ap,aP,bg,eA,iLc,bm,aN,dM,gM,gT,dN,fk,dEq,dh,eqK,eqD,qk,cj,mS,Option.bind_some,Option.map_some,List.getD_cons_zero,List.getD_cons_succ,List.set_cons_zero,List.set_cons_succ,List.map_cons,List.map_nil,List.length_cons,List.length_nil,List.replicate_succ,List.replicate_zero,List.cons_append,List.nil_append,Nat.reduceAdd,Nat.reduceSub,if_true,if_false,Bool.false_eq_true,Nat.zero_add,lg,Int.reduceNeg,key,hs,hlm,lr,kb,hq,show (0:Int) < 2 by decide]
noncomputable def gX (l:List Int):Prop:=∀ x ∈ l,x=0\/x=1
theorem gX.getD {l:List Int} (h:gX l) (i:Nat):l.getD i 0=0\/l.getD i 0=1:=by
 rw [List.getD]
 cases e:l[i]? with
 | none=>exact .inl rfl
 | some d=>exact h d (List.mem_of_getElem? e)
theorem sS {o:Ef}{a:Af}{env:Ev}{st:Sto}{ds:List D}{x:D} (ho:o env (st++[.l ds])=some (.h st.length,st++[.l ds])) (ha:a env (st++[.l ds])=some ([.d x],st++[.l ds])) (hl:ds.length < 1000000):i6 (g6 eP o a) env (st++[.l ds])=some (.nx env (st++[.l (ds++[x])])):=by
 have al:=kj st ds
 simp only [i6,g6,ho,ha,al,eP,hl,rK,Option.bind_some,Option.map_some,if_true]
theorem uI {c:Tf}{b:Sf}{n:Nat}{env:Ev}{st s:Sto} (h:c env st=some (false,s)):cb c b (n+1) env st=some (.nx env s):=by
 unfold cb
 rw [h,Option.bind_some,if_neg Bool.false_ne_true]
theorem xH {c:Tf}{b:Sf}{n:Nat}{env e:Ev}{st s s2:Sto} (h:c env st=some (true,s)) (hb:b env s=some (.nx e s2)):cb c b (n+1) env st=cb c b n e s2:=by
 rw [cb,h,Option.bind_some,if_pos rfl,hb,Option.bind_some]
theorem Ak {x:Int} (h:0<=x):Builtin.bitAnd x 1=x % 2:=by
 unfold Builtin.bitAnd
 rw [decide_eq_true h,show decide ((0:Int)<=1)=true from rfl]
 show ((x.toNat &&& (1:Int).toNat:Nat):Int)=x % 2
 rw [show (1:Int).toNat=1 from rfl,Nat.and_one_is_mod]
 lia
noncomputable def pcF:Nat->Nat->Nat
 | 0,_=>0
 | f+1,r=>r % 2+pcF f (r / 2)
theorem pF:∀ f,pcF f 0=0
 | 0=>rfl
 | f+1=>by unfold pcF;rw [Nat.zero_div,pF f]
theorem rV {st:Sto}:∀ (f r:Nat) (many:Int) (fuel:Nat),r < 2 ^ f->f < fuel->cb da gK fuel [some (.d (.int r)),some (.d (.int many))] st=some (.nx [some (.d (.int 0)),some (.d (.int (many+pcF f r)))] st):=by
 intro f
 induction f with
 | zero=>
  intro r many fuel hr hf
  obtain⟨k,rfl⟩:∃ k,fuel=k+1:=⟨fuel - 1,by lia⟩
  have e:r=0:=by simpa using hr
  subst e
  have hc:da [some (.d (.int ((0:Nat):Int))),some (.d (.int many))] st=some (false,st):=rfl
  rw [uI hc]
  simp [pcF]
 | succ f ih=>
  intro r many fuel hr hf
  obtain⟨k,rfl⟩:∃ k,fuel=k+1:=⟨fuel - 1,by lia⟩
  by_cases h0:r=0
  ·subst h0
   have hc:da [some (.d (.int ((0:Nat):Int))),some (.d (.int many))] st=some (false,st):=rfl
   rw [uI hc,pF]
   simp
  ·have e:=ih (r / 2) (many+(r:Int) % 2) k (by rw [Nat.pow_succ] at hr;lia) (by lia)
   have hd:decide ((r:Int) > 0)=true:=by simp;lia
   have hc:da [some (.d (.int r)),some (.d (.int many))] st=some (true,st):=bB rfl rfl (congrArg (λb=>some (D.bl b)) hd)
   have e2:((r / 2:Nat):Int)=(r:Int) / 2:=Int.natCast_ediv ..
   have hb:gK [some (.d (.int r)),some (.d (.int many))] st=some (.nx [some (.d (.int ((r / 2:Nat):Int))),some (.d (.int (many+(r:Int) % 2)))] st):=by
    rw [e2];rfl
   rw [xH hc hb,e]
   rw [show pcF (f+1) r=r % 2+pcF f (r / 2) from rfl]
   have e3:((r % 2+pcF f (r / 2):Nat):Int)=(r:Int) % 2+(pcF f (r / 2):Nat):=by push_cast;rfl
   rw [e3,Int.add_assoc]
theorem wk {st:Sto}{r:Nat} (h:r < 64):m_many_on [.d (.int r)] st=some (.d (.int (pcF 6 r)),st):=by
 have e:=rV (st:=st) 6 r 0 1000000000000000000000000000000 h (by decide)
 rw [Int.zero_add] at e
 exact bu rfl (au (e:=[some (.d (.int r)),some (.d (.int 0))]) (s:=st) rfl (au e rfl))
theorem rT:∀ r:Fin 64,(((bU 0 6).filter λd=>match d with | .int k=>((r.val:Int) / 2 ^ k.toNat % 2==1) | _=>false).map id).length=pcF 6 r.val:=by decide +kernel
theorem xF {st:Sto}{r:Nat} (h:r < 64):m__law_on [.d (.int r)] st=some (.d (.int (pcF 6 r)),st):=by
 have hL:lcI (.nm 0) jH jQ [none,some (.d (.int r))] (bU 0 6) st=some (((bU 0 6).filter λd=>match d with | .int k=>((r:Int) / 2 ^ k.toNat % 2==1) | _=>false).map id,st):=by
  refine bX _ _ λd hd=>?_
  obtain⟨i,hi'⟩:=List.mem_iff_getElem?.mp hd
  obtain⟨rfl,hi⟩:=dj hi'
  refine⟨_,rfl,?_,λ_=>rfl⟩
  have h0:0<=(r:Int) / 2 ^ (i:Int).toNat:=Int.ediv_nonneg (by lia) (Int.le_of_lt (Int.pow_pos (by decide)))
  refine bB (x:=.d (.int ((r:Int) / 2 ^ (i:Int).toNat % 2))) (s1:=st) (y:=.d (.int 1)) (s2:=st) (aB (x:=.d (.int ((r:Int) / 2 ^ (i:Int).toNat))) (s1:=st) (aB rfl rfl ?_) rfl ?_) rfl rfl
  ·show (if (0:Int)<=(i:Int) then some (D.int ((r:Int) / 2 ^ (i:Int).toNat)) else none)=_
   rw [if_pos (by lia)]
  ·show some (D.int (Builtin.bitAnd ((r:Int) / 2 ^ (i:Int).toNat) 1))=_
   rw [Ak h0]
 have hF:=rT ⟨r,h⟩
 dsimp only at hF
 generalize ((bU 0 6).filter λd=>match d with | .int k=>((r:Int) / 2 ^ k.toNat % 2==1) | _=>false).map id=L at hL hF
 have e0:bE (ae (iC (.int 6)) aj) [some (.d (.int r))] st=some (bU 0 6,st):=rfl
 refine bu rfl (bC (aA (ar (aY (b4 e0 (by decide) hL)) rfl) ?_))
 show some (D.int (L.length:Int))=_
 rw [hF]
theorem ut:∀ n:Fin 7,∀ r:Fin 64,r.val < 2 ^ n.val->pcF 6 r.val<=n.val:=by decide +kernel
theorem qQ:∀ n:Fin 7,pcF 6 (2 ^ n.val - 1)=n.val:=by decide +kernel
noncomputable def bcL (row:List Int):List Int:=(List.range (2 ^ (row.length - 1))).map λr=>row.getD (pcF 6 r) 0
noncomputable def Row (row:List Int):Prop:=gX row/\1<=row.length/\row.length<=7
theorem cO {n:Nat} (h:n<=6):2 ^ n<=64:=Nat.le_trans (Nat.pow_le_pow_right (by decide) h) (by decide)
theorem vh {row:List Int} (h:Row row) {r:Nat} (hr:r < 2 ^ (row.length - 1)):atI (row.map D.int) ((pcF 6 r:Nat):Int)=some (.int (row.getD (pcF 6 r) 0)):=by
 have h2:=h.2
 have h64:=cO (n:=row.length - 1) (by lia)
 have:=ut ⟨row.length - 1,by lia⟩ ⟨r,by lia⟩ hr
 dsimp only at this
 refine dG ?_
 rw [List.getElem?_map,List.getD,List.getElem?_eq_getElem (by lia:pcF 6 r < row.length)]
 rfl
noncomputable def bcF (row:List Int):D->D
 | .int r=>.int (row.getD (pcF 6 r.toNat) 0)
 | d=>d
theorem yZ (row:List Int) (q:Int) (hq:q.toNat=2 ^ (row.length - 1)):((bU 0 q.toNat).map (bcF row))=(bcL row).map D.int:=by
 unfold bU bcL
 rw [hq,List.map_map,List.map_map]
 refine List.map_congr_left λk _=>?_
 show D.int (row.getD (pcF 6 (0+(k:Int)).toNat) 0)=_
 rw [Int.zero_add,Int.toNat_natCast];rfl
theorem wZ {st:Sto}{f:D}{L:Int}{n:Nat} (hL:L=((2 ^ n:Nat):Int)) (hf:∀ s,cj s [.d f]=some (.int L)):∀ (g j fuel:Nat) (many:Int),j+g=n->n<=60->g < fuel->cb cH dR fuel [some (.d f),some (.d (.int many)),some (.d (.int ((2 ^ j:Nat):Int)))] st=some (.nx [some (.d f),some (.d (.int (many+g))),some (.d (.int ((2 ^ n:Nat):Int)))] st):=by
 intro g
 induction g with
 | zero=>
  intro j fuel many hj hn hf'
  obtain⟨k,rfl⟩:∃ k,fuel=k+1:=⟨fuel - 1,by lia⟩
  have e:j=n:=by lia
  subst e
  have hc:cH [some (.d f),some (.d (.int many)),some (.d (.int ((2 ^ j:Nat):Int)))] st=some (false,st):=by
   refine bB rfl (aA rfl (hf st)) ?_
   show some (D.bl (decide (((2 ^ j:Nat):Int) < L)))=_
   rw [hL];simp
  rw [uI hc]
  simp
 | succ g ih=>
  intro j fuel many hj hn hf'
  obtain⟨k,rfl⟩:∃ k,fuel=k+1:=⟨fuel - 1,by lia⟩
  have e:=ih (j+1) k (many+1) (by lia) hn (by lia)
  have hlt:2 ^ j < 2 ^ n:=Nat.pow_lt_pow_right (by decide) (by lia)
  have hc:cH [some (.d f),some (.d (.int many)),some (.d (.int ((2 ^ j:Nat):Int)))] st=some (true,st):=by
   refine bB rfl (aA rfl (hf st)) ?_
   show some (D.bl (decide (((2 ^ j:Nat):Int) < L)))=_
   rw [hL,decide_eq_true (by lia)]
  have e2:((2 ^ (j+1):Nat):Int)=((2 ^ j:Nat):Int)*2:=by rw [Nat.pow_succ];push_cast;rfl
  have km:PySem.IntMulOk (((2 ^ j:Nat):Int)) 2:=fO (by decide)
  have hb:dR [some (.d f),some (.d (.int many)),some (.d (.int ((2 ^ j:Nat):Int)))] st=some (.nx [some (.d f),some (.d (.int (many+1))),some (.d (.int ((2 ^ (j+1):Nat):Int)))] st):=by
   rw [e2]
   refine au (bj (aB rfl rfl ?_)) rfl
   show (if IntMulOk _ 2 then some (D.int (((2 ^ j:Nat):Int)*2)) else none)=_
   rw [if_pos km]
  rw [xH hc hb,e]
  have e3:many+1+(g:Int)=many+((g+1:Nat):Int):=by push_cast;lia
  rw [e3]
theorem pe {st:Sto}{f:List Int}{n:Nat} (hf:f.length=2 ^ n) (hn:n<=6):m_switches_of [.d (ah f)] st=some (.d (.int n),st):=by
 have e:=wZ (st:=st) (f:=ah f) (L:=((2 ^ n:Nat):Int)) (n:=n) rfl (λs=>by
  show some (D.int ((f.map D.int).length:Int))=_
  rw [List.length_map,hf]) n 0 1000000000000000000000000000000 0 (by lia) (by lia) (by lia)
 rw [Int.zero_add] at e
 exact bu rfl (au (e:=[some (.d (ah f)),some (.d (.int 0)),none]) (s:=st) rfl (au (e:=[some (.d (ah f)),some (.d (.int 0)),some (.d (.int 1))]) (s:=st) rfl (au e rfl)))
end Own
end
section
set_option maxHeartbeats 1000000
namespace Own
open PySem L2
theorem xg {st:Sto}{fs:List D} (hl:fs.length<=1000):m_told_rows [.d (.tup fs)] st=some (.d (.tup ((cQ 0 fs).map D.int)),st):=by
 have key:lcI (.tp [0,1]) fj eY [none,none] (bS 0 fs) st=some (((bS 0 fs).filter vo).map yr,st):=bX _ _ λd hd=>by
  obtain⟨i,hi⟩:=List.mem_iff_getElem?.mp hd
  rw [d7] at hi
  obtain⟨e,he,rfl⟩:=Option.map_eq_some_iff.mp hi
  exact⟨_,rfl,by simp only [fj,vo,iV,iC,bJ,jJ,gM,uY,pK,Option.bind_some,Option.map_some,List.getD_cons_zero,List.getD_cons_succ,List.set_cons_zero,List.set_cons_succ,Nat.zero_add],λ_=>by simp only [eY,yr,iV,jJ,Option.map_some,List.getD_cons_zero,List.set_cons_zero,List.set_cons_succ,Nat.zero_add]⟩
 rw [lw] at key
 have hz:(bS 0 fs).length<=1000000:=by rw [ed];lia
 simp only [m_told_rows,b_told_rows,iV,aj,ae,iCB,aJ,bg,iLc,gL,aN,gT,dN,hV,Option.bind_some,Option.map_some,List.getD_cons_zero,List.map_cons,List.map_nil,List.length_cons,List.length_nil,List.replicate_succ,List.replicate_zero,List.cons_append,List.nil_append,Nat.reduceSub,if_true,Nat.zero_add,lg,key,hz]
theorem wH {st:Sto}{fs:List D}{j:Nat}{d:D} (hd:fs[j]?=some d) (hv:uU d) (hn:d≠.non):m_sign_at [.d (.tup fs),.d (.int (j:Int))] st=some (.d (.int (sgD d)),st):=by
 have e:atI fs (j:Int)=some d:=dG hd
 rcases hv with rfl | rfl | rfl
 ·exact absurd rfl hn
 ·simp only [m_sign_at,b_sign_at,iV,iC,iOp,bJ,iUn,lT,bg,aN,gM,dN,dIx,dEq,dh,eqK,eqD,qk,Option.bind_some,Option.map_some,List.getD_cons_zero,List.getD_cons_succ,List.map_cons,List.map_nil,List.length_cons,List.length_nil,List.replicate_zero,List.cons_append,List.nil_append,Nat.reduceAdd,Nat.reduceSub,if_true,if_false,Bool.false_eq_true,Nat.zero_add,lg,Int.reduceNeg,e,sgD,show ((0:Int)==1)=false by decide,show ¬ (0:Int)=1 by decide]
 ·simp only [m_sign_at,b_sign_at,iV,iC,iOp,bJ,iUn,lT,bg,aN,gM,dN,dIx,dEq,dh,eqK,eqD,qk,Option.bind_some,Option.map_some,List.getD_cons_zero,List.getD_cons_succ,List.map_cons,List.map_nil,List.length_cons,List.length_nil,List.replicate_zero,List.cons_append,List.nil_append,Nat.reduceAdd,Nat.reduceSub,if_true,Nat.zero_add,lg,Int.reduceNeg,e,sgD,show ((1:Int)==1)=true by decide]
theorem sg1 {d:D}:sgD d=1\/sgD d=-1:=by
 unfold sgD
 split
 ·split
  ·exact .inl rfl
  ·exact .inr rfl
 ·exact .inl rfl
theorem sG {st:Sto}{fs:List D}{j:Nat}{d:D}{b:Bool}{t:List Int} (hd:fs[j]?=some d) (hv:uU d) (hn:d≠.non) (ht:∀ k ∈ t,0<=k/\k<=20) (hl:t.length<=1000) :
  m_signed_value [.d (.tup fs),.d (.str (bT b)),.d (ah t),.d (.int (j:Int))] st=some (.d (.int (sgD d*aS b t j)),st):=by
 have e1:=wH (st:=st) hd hv hn
 have e2:=tQ (st:=st) (b:=b) (row:=j) ht hl
 have km:PySem.IntMulOk (sgD d) (aS b t j):=ny (by rcases sg1 (d:=d) with h | h<;>(rw [h];decide))
 generalize bT b=kd at e2 ⊢
 generalize ah t=tt at e2 ⊢
 simp only [m_signed_value,b_signed_value,iV,iOp,aj,ae,aD,bg,aN,dv,Option.bind_some,Option.map_some,List.getD_cons_zero,List.getD_cons_succ,List.map_cons,List.map_nil,List.length_cons,List.length_nil,List.replicate_zero,List.cons_append,List.nil_append,Nat.reduceAdd,Nat.reduceSub,if_true,Nat.zero_add,Int.reduceNeg,e1,e2,km]
theorem pS {st:Sto}{n m:Int} (n0:0<=n) (n1:n<=6) (m0:0<=m):m_terms_to [.d (.int n),.d (.int m)] st=some (.d (.tup (((nL n.toNat).filter λt=>decide ((t.length:Int)<=m)).map ah)),st):=by
 obtain⟨env',s2,e2,o,rfl,rfl⟩:=cM (g:=.nm 3) (body:=fX) (ds:=bU 0 n.toNat) (λi env s=>∃ o,env=[some (.d (.int n)),some (.d (.int m)),some (.d (.lst ((dz m i).map ah))),o]/\s=st) (env:=[some (.d (.int n)),some (.d (.int m)),some (.d (.lst [.tup []])),none]) (st:=st)
  ⟨none,rfl,rfl⟩ (λi d env s hd ⟨o,e,es⟩=>by
   subst e es
   obtain⟨rfl,hi⟩:=dj hd
   have hl:(dz m i).length<=64:=Nat.le_trans (oj m m0 i) (Nat.le_trans (Nat.pow_le_pow_right (by decide) (by lia:i<=6)) (by decide))
   have ht:∀ t ∈ dz m i,t.length<=i:=λt ht=>by
    rw [kf m m0] at ht
    exact jd (gS i (List.mem_filter.mp ht).1)
   have key:lcI (.nm 0) fR fT [none,some (.d (.int m)),some (.d (.int i))] ((dz m i).map ah) s =
     some ((((dz m i).map ah).filter λd=>match d with | .tup ds=>decide ((ds.length:Int) < m) | _=>false).map λd=>match d with | .tup ds=>.tup (ds++[.int i]) | d=>d,s):=bX _ _ λd hd=>by
    obtain⟨t,htm,rfl⟩:=List.mem_map.mp hd
    have htl:=ht t htm
    have hk:(t.map D.int).length+1<=1000000:=by rw [List.length_map];lia
    exact⟨_,rfl,by simp only [fR,ah,iV,bJ,aj,ae,iCB,gM,dN,dLt,cj,Option.bind_some,Option.map_some,List.getD_cons_zero,List.getD_cons_succ,List.set_cons_zero,lg],λ_=>by simp only [fT,ah,iV,iOp,aj,ae,mh,iZ,lsD,dw,Option.bind_some,Option.map_some,List.getD_cons_zero,List.getD_cons_succ,List.set_cons_zero,List.length_cons,List.length_nil,if_true,Nat.zero_add,lg,hk,show (1:Nat)<=1000 by decide]⟩
   have e1:((((dz m i).map ah).filter λd=>match d with | .tup ds=>decide ((ds.length:Int) < m) | _=>false).map λd=>match d with | .tup ds=>.tup (ds++[.int i]) | d=>d) =
     (((dz m i).filter λt=>decide ((t.length:Int) < m)).map λt=>t++[(i:Int)]).map ah:=by
    rw [List.filter_map,List.map_map,List.map_map]
    have e0:((λd=>match d with | .tup ds=>decide ((ds.length:Int) < m) | _=>false) ∘ ah)=λt:List Int=>decide ((t.length:Int) < m):=by
     funext t
     show decide (((t.map D.int).length:Int) < m)=_
     rw [List.length_map]
    rw [e0]
    refine List.map_congr_left λt _=>?_
    show D.tup (t.map D.int++[.int i])=D.tup ((t++[(i:Int)]).map D.int)
    rw [List.map_append];rfl
   rw [e1] at key
   have e3:(dz m (i+1)).map ah=(dz m i).map ah++(((dz m i).filter λt=>decide ((t.length:Int) < m)).map λt=>t++[(i:Int)]).map ah:=by rw [dz,List.map_append]
   have h1:((dz m i).map ah).length<=1000000:=by rw [List.length_map];lia
   have h2:((dz m i).map ah).length+((((dz m i).filter λt=>decide ((t.length:Int) < m)).map λt=>t++[(i:Int)]).map ah).length<=1000000:=by
    have:=List.length_filter_le (λt:List Int=>decide ((t.length:Int) < m)) (dz m i)
    simp only [List.length_map];lia
   refine⟨_,[some (.d (.int n)),some (.d (.int m)),some (.d (.lst ((dz m (i+1)).map ah))),some (.d (.int i))],s,rfl,.inl ?_,_,rfl,rfl⟩
   rw [e3]
   generalize (((dz m i).filter λt=>decide ((t.length:Int) < m)).map λt=>t++[(i:Int)]).map ah=B at key h2 ⊢
   generalize (dz m i).map ah=A at key h1 h2 ⊢
   simp only [fX,iV,iOp,aJ,aP,iLc,bm,dM,gT,lsD,dw,Option.bind_some,Option.map_some,List.getD_cons_zero,List.getD_cons_succ,List.set_cons_zero,List.set_cons_succ,List.map_cons,List.map_nil,List.replicate_succ,List.replicate_zero,List.cons_append,List.nil_append,if_true,lg,key,h1,h2])
 rw [cy] at e2
 have hb:-(2 ^ 62)<=n/\n < 2 ^ 62:=by lia
 have hl:((dz m n.toNat).map ah).length<=64:=by
  rw [List.length_map]
  exact Nat.le_trans (oj m m0 _) (Nat.le_trans (Nat.pow_le_pow_right (by decide) (by lia:n.toNat<=6)) (by decide))
 have hs:ms ((dz m n.toNat).map ah)=some (((nL n.toNat).filter λt=>decide ((t.length:Int)<=m)).map ah):=by
  have e9:ef (dz m n.toNat)=(nL n.toNat).filter λt=>decide ((t.length:Int)<=m):=by rw [kf m m0,ir];rfl
  rw [kq,e9]
 generalize (dz m n.toNat).map ah=A at e2 hl hs
 generalize ((nL n.toNat).filter λt=>decide ((t.length:Int)<=m)).map ah=B at hs ⊢
 simp only [m_terms_to,b_terms_to,fZ,iV,aj,ae,iCB,iCL,mh,eN,aJ,ap,aP,bg,fq,bE,aN,dM,iZ,dN,lsD,fZ,hV,Option.bind_some,Option.map_some,List.getD_cons_zero,List.getD_cons_succ,List.set_cons_zero,List.set_cons_succ,List.map_cons,List.map_nil,List.length_cons,List.length_nil,List.replicate_succ,List.replicate_zero,List.cons_append,List.nil_append,Nat.reduceAdd,Nat.reduceSub,if_true,Nat.zero_add,and_self,lg,hb,e2,hl,hs,show (1:Nat)<=1000 by decide,show (0:Nat)<=1000 by decide]
noncomputable def wS (g:Int->Int):Nat->List Int->List D->Int
 | i,_::ws,.non::r=>wS g (i+1) ws r
 | i,w::ws,d::r=>w*(sgD d*g i)+wS g (i+1) ws r
 | _,_,_=>0
theorem xy (g:Int->Int) (fs:List D) (ws:List Int):∀ (r:List D) (wr:List Int) (i:Nat),wr.length=r.length->(∀ u ∈ r,uU u)->fs.drop i=r->ws.drop i=wr->((cQ i r).map λj=>ws.getD j.toNat 0*(sgD (fs.getD j.toNat .non)*g j)).sum=wS g i wr r
 | [],wr,i,hl,_,_,_=>by cases wr<;>rfl
 | d::r,[],i,hl,_,_,_=>by simp at hl
 | d::r,w::wr,i,hl,hv,h,h'=>by
  have hd:fs[i]?=some d:=by
   have:=congrArg (λl=>l[0]?) h
   simpa using this
  have hr:fs.drop (i+1)=r:=by
   have:=congrArg (List.drop 1) h
   simpa [List.drop_drop,Nat.add_comm] using this
  have hd':ws[i]?=some w:=by
   have:=congrArg (λl=>l[0]?) h'
   simpa using this
  have hr':ws.drop (i+1)=wr:=by
   have:=congrArg (List.drop 1) h'
   simpa [List.drop_drop,Nat.add_comm] using this
  have ih:=xy g fs ws r wr (i+1) (by simpa using hl) (λu hu=>hv u (List.mem_cons_of_mem _ hu)) hr hr'
  rcases hv d List.mem_cons_self with rfl | rfl | rfl
  ·exact ih
  ·show ((_::cQ (i+1) r).map _).sum=w*(sgD (.int 0)*g i)+wS g (i+1) wr r
   rw [List.map_cons,List.sum_cons,ih,Int.toNat_natCast,List.getD_eq_getElem?_getD,List.getD_eq_getElem?_getD,hd,hd'];rfl
  ·show ((_::cQ (i+1) r).map _).sum=w*(sgD (.int 1)*g i)+wS g (i+1) wr r
   rw [List.map_cons,List.sum_cons,ih,Int.toNat_natCast,List.getD_eq_getElem?_getD,List.getD_eq_getElem?_getD,hd,hd'];rfl
theorem oz (b:Bool) (t:List Int) (row:Int):-1<=aS b t row/\aS b t row<=1:=by
 unfold aS
 split<;>split<;>lia
theorem pp {st:Sto}{fs:List D}{b:Bool}{t ws:List Int} (hf:fs.length<=1000) (hv:∀ u ∈ fs,uU u) (hw:ws.length=fs.length) (ht:∀ k ∈ t,0<=k/\k<=20) (hl:t.length<=1000) :
  m_weighted [.d (.tup fs),.d (.str (bT b)),.d (ah t),.d (.tup (ws.map D.int))] st=some (.d (.int (wS (aS b t) 0 ws fs)),st):=by
 have key:lcI (.nm 0) dD fP [none,some (.d (.tup (ws.map D.int))),some (.d (.tup fs)),some (.d (.str (bT b))),some (.d (ah t))] ((cQ 0 fs).map D.int) st =
   some (((cQ 0 fs).map D.int).map λd=>match d with | .int j=>.int (ws.getD j.toNat 0*(sgD (fs.getD j.toNat .non)*aS b t j)) | d=>d,st):=dg _ λd hd=>by
  obtain⟨j,hj,rfl⟩:=List.mem_map.mp hd
  obtain⟨m,rfl,hm,hn⟩:=mz fs 0 hj
  rw [Nat.zero_add]
  have he:=List.getElem?_eq_getElem hm
  have hmw:m < ws.length:=by lia
  have e:=sG (st:=st) (b:=b) he (hv _ (List.getElem_mem hm)) (λq=>hn (by rw [he,q])) ht hl
  have eg:fs.getD m .non=fs[m]:=by rw [List.getD_eq_getElem?_getD,he];rfl
  have ew:ws.getD m 0=ws[m]:=by rw [List.getD_eq_getElem?_getD,List.getElem?_eq_getElem hmw];rfl
  have ea:atI (ws.map D.int) (m:Int)=some (.int ws[m]):=dG (by rw [List.getElem?_map,List.getElem?_eq_getElem hmw];rfl)
  have km:PySem.IntMulOk ws[m] (sgD fs[m]*aS b t m):=fO (by
   have:=oz b t m
   rcases sg1 (d:=fs[m]) with h | h<;>(rw [h];lia))
  refine⟨_,rfl,?_⟩
  show _=some (W.d (D.int (ws.getD ((m:Int)).toNat 0*(sgD (fs.getD ((m:Int)).toNat .non)*aS b t m))),st)
  rw [Int.toNat_natCast,eg,ew]
  generalize bT b=kd at e ⊢
  generalize ah t=tt at e ⊢
  generalize sgD fs[m]*aS b t m=q at e km ⊢
  generalize ws.map D.int=WD at ea
  simp only [fP,iV,iOp,aj,ae,aD,dN,dIx,dv,Option.bind_some,Option.map_some,List.getD_cons_zero,List.getD_cons_succ,List.set_cons_zero,if_true,lg,Int.reduceNeg,ea,e,km]
 have e1:(((cQ 0 fs).map D.int).map λd=>match d with | .int j=>.int (ws.getD j.toNat 0*(sgD (fs.getD j.toNat .non)*aS b t j)) | d=>d)=((cQ 0 fs).map λj=>ws.getD j.toNat 0*(sgD (fs.getD j.toNat .non)*aS b t j)).map D.int:=by rw [List.map_map,List.map_map];rfl
 rw [e1] at key
 have hs:bV (((cQ 0 fs).map λj=>ws.getD j.toNat 0*(sgD (fs.getD j.toNat .non)*aS b t j)).map D.int)=some ((cQ 0 fs).map λj=>ws.getD j.toNat 0*(sgD (fs.getD j.toNat .non)*aS b t j)):=ci _
 have hsum:=xy (aS b t) fs ws fs ws 0 hw hv rfl rfl
 have hz:((cQ 0 fs).map D.int).length<=1000000:=by rw [List.length_map];have:=mo fs 0;lia
 have e2:=xg (st:=st) hf
 generalize wS (aS b t) 0 ws fs=R0 at hsum ⊢
 generalize bT b=kd at key ⊢
 generalize ah t=tt at key ⊢
 generalize ws.map D.int=WD at key ⊢
 generalize ((cQ 0 fs).map λj=>ws.getD j.toNat 0*(sgD (fs.getD j.toNat .non)*aS b t j))=L at key hs hsum
 generalize (cQ 0 fs).map D.int=R at key hz e2
 simp only [m_weighted,b_weighted,iV,aj,ae,iCB,aD,aJ,bg,iLc,bm,aN,gT,mS,Option.bind_some,Option.map_some,List.getD_cons_zero,List.getD_cons_succ,List.map_cons,List.map_nil,List.length_cons,List.length_nil,List.replicate_succ,List.replicate_zero,List.cons_append,List.nil_append,Nat.reduceAdd,Nat.reduceSub,if_true,Nat.zero_add,e2,key,hz,hs,hsum]
end Own
end
section
set_option maxHeartbeats 1000000
namespace Own
open PySem L2
theorem kD (s:Sto) {a b:Int} (h:-(2 ^ 64) < b/\b < 2 ^ 64):dv s (.d (.int a)) (.d (.int b))=some (.int (a*b)):=by
 show (if PySem.IntMulOk a b then some (D.int (a*b)) else none)=_
 rw [if_pos (fO h)]
theorem tT (s:Sto) {a b:Int} (h:0 < b/\b < 1073741824):gm s (.d (.int a)) (.d (.int b))=some (.int (a / b)):=by
 show (if 0 < b/\b < 1073741824 then some (D.int (a / b)) else none)=_
 rw [if_pos h]
theorem iG {e:Ef}{z:Int}{m:Nat}{env:Ev}{st:Sto} (he:e env st=some (.d (.int z),st)) (h0:0<=z) (h1:z<=1000) (hm:z.toNat=m):bE (ae e aj) env st=some (bU 0 m,st):=by
 have hb:-(2 ^ 62)<=z/\z < 2 ^ 62:=⟨Int.le_trans (by decide) h0,Int.lt_of_le_of_lt h1 (by decide)⟩
 have h2:=ar (b:=aj) he rfl
 simp only [bE,h2,Option.bind_some,hb,and_self,if_true,hm]
theorem fG {f:Ef}{env:Ev}{st s:Sto}{ds:List D} (h:f env st=some (.d (.lst ds),s)):bm f env st=some (ds,s):=by
 simp only [bm,h,Option.bind_some]
theorem d8 {f:Ef}{env:Ev}{st s:Sto}{ds:List D} (h:f env st=some (.d (.tup ds),s)):bm f env st=some (ds,s):=by
 simp only [bm,h,Option.bind_some]
noncomputable def chF (n:Int):Nat->Int
 | 0=>1
 | i+1=>chF n i*(n - i) / (i+1)
theorem p8 {st:Sto}{n c:Nat} (hn:n<=6) (hc:c<=n):m_how_many_choices [.d (.int n),.d (.int c)] st=some (.d (.int (chF n c)),st):=by
 obtain⟨e',s',hF,o,rfl,rfl⟩:=cM (g:=.nm 3) (body:=dO) (ds:=bU 0 c) (λi env s=>∃ o,env=[some (.d (.int n)),some (.d (.int c)),some (.d (.int (chF n i))),o]/\s=st)
  (env:=[some (.d (.int n)),some (.d (.int c)),some (.d (.int 1)),none]) (st:=st) ⟨none,rfl,rfl⟩ (by
  rintro i d env s hd ⟨o,rfl,rfl⟩
  obtain⟨rfl,hi⟩:=dj hd
  refine⟨_,_,_,rfl,.inl (bj (i:=2) (aB (aB rfl (aB rfl rfl rfl) (kD _ ⟨by lia,by lia⟩)) (aB rfl rfl rfl) (tT _ ⟨by lia,by lia⟩))),some (.d (.int i)),rfl,rfl⟩)
 rw [cy] at hF
 have hrg:=iG (e:=iV 1) (z:=(c:Int)) (m:=c) (env:=[some (.d (.int n)),some (.d (.int c)),some (.d (.int 1)),none]) (st:=s') rfl (by lia) (by lia) (by lia)
 exact bu (n:=4) (k:=2) (b:=b_how_many_choices) rfl (au (bj (i:=2) (w:=.d (.int 1)) rfl) (au (iT hrg hF) (bC rfl)))
noncomputable def eE (ns:List Int):Int:=ns.foldl (λa x=>a*x) 1
theorem pQ {ns:List Int}{i:Nat}{x:Int} (h:ns[i]?=some x):eE (ns.take (i+1))=eE (ns.take i)*x:=by
 unfold eE
 rw [List.take_add_one,h,List.foldl_append];rfl
theorem iu {st:Sto}{ns:List Int} (hb:∀ x ∈ ns,-(2 ^ 64) < x/\x < 2 ^ 64):m_multiplied [.d (.lst (ns.map D.int))] st=some (.d (.int (eE ns)),st):=by
 obtain⟨e',s',hF,o,rfl,rfl⟩:=cM (g:=.nm 2) (body:=gO) (ds:=ns.map D.int) (λi env s=>∃ o,env=[some (.d (.lst (ns.map D.int))),some (.d (.int (eE (ns.take i)))),o]/\s=st)
  (env:=[some (.d (.lst (ns.map D.int))),some (.d (.int 1)),none]) (st:=st) ⟨none,rfl,rfl⟩ (by
  rintro i d env s hd ⟨o,rfl,rfl⟩
  rw [List.getElem?_map,Option.map_eq_some_iff] at hd
  obtain⟨x,hx,rfl⟩:=hd
  refine⟨_,_,_,rfl,.inl (bj (i:=1) (aB rfl rfl (kD _ (hb x (List.mem_of_getElem? hx))))),some (.d (.int x)),?_,rfl⟩
  rw [pQ hx];rfl)
 rw [List.length_map,List.take_length] at hF
 generalize ns.map D.int=L at *
 exact bu (n:=3) (k:=1) (b:=b_multiplied) rfl (au (bj (i:=1) (w:=.d (.int 1)) rfl) (au (iT (fG rfl) hF) (bC rfl)))
noncomputable def bK (l:List Nat):List D:=l.map λk=>.int (k:Nat)
noncomputable def aT (row:List Int):List Nat:=(List.range (row.length - 1)).filter λk=>decide (row.getD k 0≠row.getD (k+1) 0)
theorem vI {st:Sto}{row:List Int}{k:Nat} (h:k < row.length):dIx st (.d (ah row)) (.d (.int (k:Nat)))=some (.int (row.getD k 0)):=by
 show (dN st (.d (ah row))).bind (λds=>atI ds (k:Nat))=_
 refine dG ?_
 rw [List.getElem?_map,List.getD,List.getElem?_eq_getElem h];rfl
theorem iA (s:Sto) (a b:Int):dNe s (.d (.int a)) (.d (.int b))=some (.bl (!(a==b))):=by
 simp only [dNe,dh,eqK,eqD,Option.bind_some,Option.map_some]
theorem gR (s:Sto) (a b:Int):dEq s (.d (.int a)) (.d (.int b))=some (.bl (a==b)):=by
 simp only [dEq,dh,eqK,eqD,Option.bind_some,Option.map_some]
theorem kg (a b:Int):(!(a==b))=decide (a≠b):=by
 by_cases h:a=b
 ·subst h;simp
 ·rw [decide_eq_true h];simp [h]
theorem rO (row:List Int) (n:Nat) (hn:n=row.length - 1):(((bU 0 n).filter λd=>match d with | .int k=>decide (row.getD k.toNat 0≠row.getD (k.toNat+1) 0) | _=>false).map id)=bK (aT row):=by
 subst hn
 unfold bU bK aT
 rw [List.map_id,List.filter_map]
 have e:((λd:D=>match d with | .int k=>decide (row.getD k.toNat 0≠row.getD (k.toNat+1) 0) | _=>false) ∘ λk:Nat=>D.int (0+(k:Int)))=λk:Nat=>decide (row.getD k 0≠row.getD (k+1) 0):=by
  funext k
  show decide (row.getD ((0:Int)+(k:Int)).toNat 0≠row.getD (((0:Int)+(k:Int)).toNat+1) 0)=_
  rw [Int.zero_add,Int.toNat_natCast]
 rw [e]
 refine List.map_congr_left λk _=>?_
 rw [Int.zero_add]
theorem qV {st:Sto}{row:List Int}{n:Nat} (hn:row.length=n+1) {tt:Tf}{te:Ef} (htt:tt=jR) (hte:te=jG):lcI (.nm 0) tt te [none,some (.d (ah row))] (bU 0 n) st=some (bK (aT row),st):=by
 subst htt hte
 rw [<-rO row n (by lia)]
 refine bX _ _ λd hd=>?_
 obtain⟨k,hk⟩:=List.mem_iff_getElem?.mp hd
 obtain⟨rfl,hk'⟩:=dj hk
 refine⟨_,rfl,?_,λ_=>rfl⟩
 refine bB (aB rfl rfl (vI (k:=k) (by lia))) (aB rfl (aB (d:=.int ((k+1:Nat):Int)) rfl rfl rfl) (vI (k:=k+1) (by lia))) ?_
 rw [iA,kg]
 show some (D.bl _)=some (D.bl (decide (row.getD ((k:Int)).toNat 0≠row.getD (((k:Int)).toNat+1) 0)))
 rw [Int.toNat_natCast]
theorem d3 {st:Sto} (row:List Int):cj st [.d (ah row)]=some (.int (row.length:Int)):=by
 show some (D.int (((row.map D.int).length:Nat):Int))=_
 rw [List.length_map]
theorem qO {st:Sto}{row:List Int}{n:Nat} (hn:row.length=n+1) (hn6:n<=6):m_ends_of [.d (ah row)] st=some (.d (.lst (bK (aT row))),st):=by
 have key:=qV (st:=st) hn rfl rfl
 have hz:(bU 0 n).length<=1000000:=by rw [cy];lia
 have hrg:bE (ae (iOp gI (iCB cj (ae (iV 0) aj)) (iC (.int 1))) aj) [some (.d (ah row))] st=some (bU 0 n,st):=iG (z:=(row.length:Int) - 1) (aB (aA rfl (d3 row)) rfl rfl) (by lia) (by lia) (by lia)
 generalize bK (aT row)=E at *
 exact bu (n:=1) (k:=1) (b:=b_ends_of) rfl (bC (aY (b4 hrg hz key)))
theorem nh {st:Sto} (ds:List D):cj st [.d (.lst ds)]=some (.int (ds.length:Int)):=rfl
theorem kr {st:Sto}{row:List Int}{n:Nat} (hn:row.length=n+1) (hn6:n<=6):m_changes_of [.d (ah row)] st=some (.d (.int ((aT row).length:Int)),st):=by
 have e:=qO (st:=st) hn hn6
 have hl:(bK (aT row)).length=(aT row).length:=by unfold bK;rw [List.length_map]
 rw [<-hl]
 generalize bK (aT row)=E at *
 exact bu (n:=1) (k:=1) (b:=b_changes_of) rfl (bC (aA (ar (av rfl e) rfl) (nh E)))
noncomputable def shI (n:Nat) (cs:List Nat) (c:Nat):Int:=eE ((cs.filter λo=>decide (o≠c)).map λo:Nat=>(((c:Int) - (o:Int)).natAbs:Int))*chF n c
theorem uX {st:Sto}{n c:Nat}{cs:List Nat} (hn:n<=6) (hc:c<=n) (hcs:∀ o ∈ cs,o<=6) (hl:cs.length<=1000) (hch:-(2 ^ 64) < chF n c/\chF n c < 2 ^ 64):m_share_of [.d (.int n),.d (.lst (bK cs)),.d (.int c)] st=some (.d (.int (shI n cs c)),st):=by
 have key:lcI (.nm 0) fY fW [none,some (.d (.int c))] (bK cs) st=some (((cs.filter λo=>decide (o≠c)).map λo:Nat=>(((c:Int) - (o:Int)).natAbs:Int)).map D.int,st):=by
  have h:=bX (g:=.nm 0) (tt:=fY) (te:=fW) (env:=[none,some (.d (.int (c:Nat)))]) (st:=st) (λd=>match d with | .int o=>decide (o≠(c:Int)) | _=>false) (λd=>match d with | .int o=>.int ((((c:Int) - o).natAbs:Nat):Int) | d=>d) (ds:=bK cs) λd hd=>by
   obtain⟨o,ho,rfl⟩:=List.mem_map.mp hd
   refine⟨_,rfl,?_,λ_=>?_⟩
   ·exact bB rfl rfl (by rw [iA,kg])
   ·refine aA (ar (aB rfl rfl rfl) rfl) ?_
    show some (D.int (if (c:Int) - (o:Int) < 0 then -((c:Int) - (o:Int)) else (c:Int) - (o:Int)))=_
    congr 2
    split<;>lia
  rw [h]
  congr 2
  unfold bK
  rw [List.filter_map,List.map_map,List.map_map]
  have e:((λd:D=>match d with | .int o=>decide (o≠(c:Int)) | _=>false) ∘ λk:Nat=>D.int (k:Int))=λo:Nat=>decide (o≠c):=by
   funext o
   show decide ((o:Int)≠(c:Int))=_
   exact decide_eq_decide.mpr ⟨λh z=>h (by rw [z]),λh z=>h (by lia)⟩
  rw [e];rfl
 have hm:=iu (st:=st) (ns:=(cs.filter λo=>decide (o≠c)).map λo:Nat=>(((c:Int) - (o:Int)).natAbs:Int)) λx hx=>by
  obtain⟨o,ho,rfl⟩:=List.mem_map.mp hx
  have:=hcs o (List.mem_filter.mp ho).1
  constructor<;>lia
 have hch':=p8 (st:=st) hn hc
 have hz:(bK cs).length<=1000000:=by unfold bK;rw [List.length_map];lia
 unfold shI
 generalize ((cs.filter λo=>decide (o≠c)).map λo:Nat=>(((c:Int) - (o:Int)).natAbs:Int))=NS at *
 generalize bK cs=CS at *
 generalize NS.map D.int=ND at *
 exact bu (n:=3) (k:=3) (b:=b_share_of) rfl (bC (aB (av (ar (aY (b4 (fG rfl) hz key)) rfl) hm) (av rfl hch') (kD _ hch)))
end Own
end
section
set_option maxHeartbeats 1000000
namespace Own
open PySem L2
theorem jM {st:Sto}{a0 a2:Option W}:∀ (n a b:Nat) (o:Option W),b < n->∃ o',cb ck dm n [a0,some (.d (.int (a:Int))),a2,some (.d (.int (b:Int))),o] st=some (.nx [a0,some (.d (.int ((Nat.gcd a b:Nat):Int))),a2,some (.d (.int 0)),o'] st)
 | 0,a,b,o,h=>by lia
 | n+1,a,b,o,h=>by
  by_cases hb:b=0
  ·subst hb
   refine⟨o,?_⟩
   rw [Nat.gcd_zero_right,cb]
   simp only [ck,iV,iC,bJ,gM,dNe,dh,eqK,eqD,Option.bind_some,Option.map_some,List.getD_cons_zero,List.getD_cons_succ,if_false,Bool.false_eq_true,Bool.not_true,lg,beq_self_eq_true,Int.cast_ofNat_Int]
  ·have hf:(((b:Int))==(0:Int))=false:=by simp;lia
   obtain⟨o',ih⟩:=jM n b (a % b) (some (.d (.int ((a % b:Nat):Int)))) (by have:=Nat.mod_lt a (Nat.pos_of_ne_zero hb);lia)
   refine⟨o',?_⟩
   have eg:Nat.gcd a b=Nat.gcd b (a % b):=by rw [Nat.gcd_comm a b,Nat.gcd_rec b a,Nat.gcd_comm]
   have hp:(0:Int) < (b:Int):=by lia
   have em:(a:Int) % (b:Int)=((a % b:Nat):Int):=by push_cast;rfl
   rw [eg,<-ih,cb]
   simp only [ck,dm,iV,iC,iOp,bJ,ap,aP,dM,gM,fk,dNe,dh,eqK,eqD,Option.bind_some,Option.map_some,List.getD_cons_zero,List.getD_cons_succ,List.set_cons_zero,List.set_cons_succ,if_true,Bool.not_false,lg,hf,hp,em]
theorem td {st:Sto}{ns:List Int} (hn:∀ n ∈ ns,n.natAbs < 1000000000000000000000):m_greatest_part [.d (.tup (ns.map D.int))] st=some (.d (.int ((en 0 ns:Nat):Int)),st):=by
 obtain⟨env',s2,e2,⟨o2,o3,o4,rfl⟩,rfl⟩:=cM (g:=.nm 2) (body:=dn) (ds:=ns.map D.int) (λi env s=>(∃ o2 o3 o4,env=[some (.d (.tup (ns.map D.int))),some (.d (.int ((en 0 (ns.take i):Nat):Int))),o2,o3,o4])/\s=st)
  (env:=[some (.d (.tup (ns.map D.int))),some (.d (.int 0)),none,none,none]) (st:=st) ⟨⟨_,_,_,rfl⟩,rfl⟩ (λi d env s hd ⟨⟨o2,o3,o4,e⟩,es⟩=>by
   subst e es
   rw [List.getElem?_map,Option.map_eq_some_iff] at hd
   obtain⟨n,hk,rfl⟩:=hd
   obtain⟨hi,hk'⟩:=List.getElem?_eq_some_iff.mp hk
   have hb:=hn n (List.mem_of_getElem? hk)
   have ea:(if n < 0 then -n else n)=((n.natAbs:Nat):Int):=by split<;>lia
   have eg:en 0 (ns.take (i+1))=Nat.gcd (en 0 (ns.take i)) n.natAbs:=by
    rw [List.take_succ_eq_append_getElem hi,hk',pq]
   obtain⟨o',ew⟩:=jM (st:=s) (a0:=some (.d (.tup (ns.map D.int)))) (a2:=some (.d (.int n))) 1000000000000000000000000000000 (en 0 (ns.take i)) n.natAbs o4 (by lia)
   refine⟨_,[some (.d (.tup (ns.map D.int))),some (.d (.int ((en 0 (ns.take (i+1)):Nat):Int))),some (.d (.int n)),some (.d (.int 0)),o'],s,rfl,.inl ?_,⟨_,_,_,rfl⟩,rfl⟩
   rw [eg]
   generalize ns.map D.int=L at ew ⊢
   simp only [dn,gF,iV,aj,ae,iCB,ap,aP,dM,pk,Option.bind_some,Option.map_some,List.getD_cons_zero,List.getD_cons_succ,List.set_cons_zero,List.set_cons_succ,ea,ew])
 rw [List.length_map,List.take_length] at e2
 generalize ns.map D.int=L at e2 ⊢
 simp only [m_greatest_part,b_greatest_part,iV,iC,ap,aP,bg,fq,bm,aN,dM,Option.bind_some,Option.map_some,List.getD_cons_zero,List.getD_cons_succ,List.set_cons_zero,List.set_cons_succ,List.map_cons,List.map_nil,List.length_cons,List.length_nil,List.replicate_succ,List.replicate_zero,List.cons_append,List.nil_append,Nat.reduceSub,if_true,Nat.zero_add,e2]
theorem qu {st:Sto}{L:List Int}{a:Nat} (v:Int) (h:a < L.length):la (st++[.l (L.map D.int)]) (.h st.length) (.d (.int a)) (.d (.int v))=some (st++[.l ((L.set a v).map D.int)]):=by
 have e:(L.map D.int).set a (.int v)=(L.set a v).map D.int:=by rw [List.map_set]
 show (lg (st++[.l (L.map D.int)]) st.length).bind (λds=>(ixN ds.length (a:Int)).map λj=>(st++[C.l (L.map D.int)]).set st.length (.l (ds.set j (.int v))))=_
 rw [kj,Option.bind_some,mH (by rw [List.length_map];exact h),Option.map_some,rK,e]
theorem vT {st:Sto}{L:List Int}{a:Nat}{v:Int} (h:L[a]?=some v):dIx (st++[.l (L.map D.int)]) (.h st.length) (.d (.int a))=some (.int v):=by
 show (lg (st++[.l (L.map D.int)]) st.length).bind (λds=>atI ds (a:Int))=_
 rw [kj,Option.bind_some]
 exact dG (by rw [List.getElem?_map,h];rfl)
theorem sw {o i v:Ef}{env:Ev}{st s1 s2 s3 s4:Sto}{x wo wi:W} (h:v env st=some (x,s1)) (h1:o env s1=some (wo,s2)) (h2:i env s2=some (wi,s3)) (h3:la s3 wo wi x=some s4):gv o i v env st=some (.nx env s4):=by
 simp only [gv,h,h1,h2,h3,Option.bind_some,Option.map_some]
noncomputable def bcW (L:List Int) (n:Nat):List Int:=(List.range (2 ^ n)).map λr=>L.getD (pcF 6 r) 0
theorem sX {st:Sto}{L:List Int}:cj (st++[.l (L.map D.int)]) [.h st.length]=some (.int (L.length:Int)):=by
 show (lg (st++[.l (L.map D.int)]) st.length).map (λds=>D.int (ds.length:Int))=_
 rw [kj,Option.map_some,List.length_map]
theorem m7 {st:Sto}{L:List Int}{n:Nat} (hl:L.length=n+1) (hn:n<=6):m_by_counts [.h st.length] (st++[.l (L.map D.int)])=some (.d (ah (bcW L n)),st++[.l (L.map D.int)]):=by
 have h64:2 ^ n<=64:=cO hn
 have key:lcI (.nm 0) dD ik [none,some (.h st.length)] (bU 0 (2 ^ n)) (st++[.l (L.map D.int)])=some ((bU 0 (2 ^ n)).map λd=>match d with | .int r=>.int (L.getD (pcF 6 r.toNat) 0) | d=>d,st++[.l (L.map D.int)]):=dg _ λd hd=>by
  obtain⟨r,hr⟩:=List.mem_iff_getElem?.mp hd
  obtain⟨rfl,hr'⟩:=dj hr
  have hp:=ut ⟨n,by lia⟩ ⟨r,by lia⟩ hr'
  dsimp only at hp
  have e1:=wk (st:=st++[.l (L.map D.int)]) (r:=r) (by lia)
  refine⟨_,rfl,aB rfl (av rfl e1) ?_⟩
  exact vT (a:=pcF 6 r) (by rw [show ((r:Int)).toNat=r from Int.toNat_natCast r,List.getD,List.getElem?_eq_getElem (by lia)];rfl)
 have e2:((bU 0 (2 ^ n)).map λd=>match d with | .int r=>.int (L.getD (pcF 6 r.toNat) 0) | d=>d)=(bcW L n).map D.int:=by
  unfold bU bcW
  rw [List.map_map,List.map_map]
  refine List.map_congr_left λr _=>?_
  show D.int (L.getD (pcF 6 ((0:Int)+(r:Int)).toNat) 0)=_
  rw [Int.zero_add,Int.toNat_natCast];rfl
 rw [e2] at key
 have hz:(bU 0 (2 ^ n)).length<=1000000:=by rw [cy];lia
 have e3:=n5 (st:=st++[.l (L.map D.int)]) (k:=(n:Int)) (by lia) (by lia)
 rw [Int.toNat_natCast] at e3
 have e4:((2:Int) ^ n)=((2 ^ n:Nat):Int):=by push_cast;rfl
 have hrg:bE (ae (aD m_power_of_two (ae (iOp gI (iCB cj (ae (iV 0) aj)) (iC (.int 1))) aj)) aj) [some (.h st.length)] (st++[.l (L.map D.int)])=some (bU 0 (2 ^ n),st++[.l (L.map D.int)]):=by
  refine iG (z:=(2:Int) ^ n) (av (ar (aB (d:=.int (n:Int)) (aA rfl sX) rfl ?_) rfl) e3) (by rw [e4];lia) (by rw [e4];lia) (by rw [e4];lia)
  show some (D.int ((L.length:Int) - 1))=_
  rw [show (L.length:Int) - 1=(n:Int) by lia]
 unfold ah
 generalize (bcW L n).map D.int=G at *
 exact bu (n:=1) (k:=1) (b:=b_by_counts) rfl (bC (aA (ar (aY (b4 hrg hz key)) rfl) rfl))
theorem qD {st:Sto}{ns:List Int} (hb:∀ x ∈ ns,x.natAbs < 1000000000000000000000) (hp:∃ x ∈ ns,x≠0) (hl:ns.length<=1000):m_lowered [.d (ah ns)] st=some (.d (ah (ns.map λx=>x / ((en 0 ns:Nat):Int))),st):=by
 obtain⟨x,hx,x0⟩:=hp
 have e1:=td (st:=st) hb
 obtain⟨g0,g1⟩:=kZ hx x0
 have hbx:=hb x hx
 obtain⟨g,hg⟩:∃ g:Int,((en 0 ns:Nat):Int)=g:=⟨_,rfl⟩
 rw [hg] at e1 ⊢
 have g0':0 < g:=by lia
 have g1':g < 1000000000000000000000000000000000000000000000000000000000000:=by lia
 have f0:(g==(0:Int))=false:=by simp;lia
 have key:lcI (.nm 0) dD gH [none,some (.d (.int g))] (ns.map D.int) st=some ((ns.map λx=>x / g).map D.int,st):=by
  have h:=dg (g:=.nm 0) (te:=gH) (env:=[none,some (.d (.int g))]) (st:=st) (λd=>match d with | .int x=>.int (x / g) | d=>d) (ds:=ns.map D.int) λd hd=>by
   obtain⟨y,hy,rfl⟩:=List.mem_map.mp hd
   refine⟨_,rfl,aB rfl rfl ?_⟩
   simp only [zk,g0',g1',and_self,if_true]
  rw [h,List.map_map,List.map_map];rfl
 have hz:(ns.map D.int).length<=1000000:=by rw [List.length_map];lia
 unfold ah at *
 generalize (ns.map λx=>x / g).map D.int=G at *
 generalize ns.map D.int=N at *
 exact bu (n:=2) (k:=1) (b:=b_lowered) rfl (au (bj (i:=1) (av rfl e1)) (au (gC (bB rfl rfl (by rw [gR,f0])) rfl) (bC (aA (ar (aY (b4 (d8 rfl) hz key)) rfl) rfl))))
noncomputable def bA (row:List Int) (n:Nat):List Nat:=aT row++[n]
noncomputable def cu (row:List Int) (n:Nat):List Int:=(bA row n).map (shI n (bA row n))
noncomputable def nJ (P:Int) (W:List Int) (p:Nat×Int):List Int:=W.set p.1 (P / p.2)
noncomputable def cg (row:List Int) (n:Nat):List Int:=((bA row n).zip (cu row n)).foldl (nJ (eE (cu row n))) (List.replicate (n+1) 0)
noncomputable def cbL (row:List Int) (n:Nat):List Int:=(bcW (cg row n) n).map λx=>x / ((en 0 (bcW (cg row n) n):Nat):Int)
theorem lA (P:Int):∀ (l:List (Nat×Int)) (W:List Int),(l.foldl (nJ P) W).length=W.length
 | [],_=>rfl
 | p::l,W=>by rw [List.foldl_cons,lA P l];unfold nJ;rw [List.length_set]
theorem rC (row:List Int) (n:Nat):(cg row n).length=n+1:=by unfold cg;rw [lA,List.length_replicate]
theorem tW (k:Nat):(List.replicate k [D.int 0]).flatten=(List.replicate k (0:Int)).map D.int:=by
 induction k with
 | zero=>rfl
 | succ k ih=>rw [List.replicate_succ,List.flatten_cons,ih,List.replicate_succ,List.map_cons];rfl
theorem xv {row:List Int}{n k:Nat} (hn:row.length=n+1) (h:k ∈ aT row):k < n:=by
 have:=List.mem_range.mp (List.mem_filter.mp h).1
 lia
theorem mN {row:List Int}{n k:Nat} (hn:row.length=n+1) (h:k ∈ bA row n):k<=n:=by
 rcases List.mem_append.mp h with h | h
 ·have:=xv hn h;lia
 ·rw [List.mem_singleton.mp h];exact Nat.le_refl _
theorem va:∀ n:Fin 7,∀ c:Fin 7,-(2 ^ 64) < chF n.val c.val/\chF n.val c.val < 2 ^ 64:=by decide +kernel
theorem xc {st:Sto}{row:List Int}{n:Nat} (hn:row.length=n+1) (hn6:n<=6) (hd:(aT row).length≠0) (hs:∀ x ∈ cu row n,0 < x/\x < 1073741824) (hw:∀ x ∈ cg row n,x.natAbs < 1000000000000000000000) (hp:∃ c,c<=n/\(cg row n).getD c 0≠0) :
  m_counts_bar [.d (ah row)] st=some (.d (ah (cbL row n)),st):=by
 have hch:(((aT row).length:Int)==0)=false:=by
  rw [beq_eq_false_iff_ne]
  intro h
  exact hd (by lia)
 have e1:=kr (st:=st) hn hn6
 have e2:=qO (st:=st) hn hn6
 have hle:(aT row).length<=7:=by
  unfold aT
  refine Nat.le_trans (List.length_filter_le _ _) ?_
  rw [List.length_range];lia
 have hcl:(bA row n).length<=8:=by unfold bA;rw [List.length_append,List.length_singleton];lia
 have ecs:bK (aT row)++[.int (n:Nat)]=bK (bA row n):=by unfold bK bA;rw [List.map_append];rfl
 have kSh:lcI (.nm 0) dD el [none,some (.d (.int n)),some (.d (.lst (bK (bA row n))))] (bK (bA row n)) st=some ((cu row n).map D.int,st):=by
  have h:=dg (g:=.nm 0) (te:=el) (env:=[none,some (.d (.int n)),some (.d (.lst (bK (bA row n))))]) (st:=st) (λd=>match d with | .int c=>.int (shI n (bA row n) c.toNat) | d=>d) (ds:=bK (bA row n)) λd hd=>by
   obtain⟨c,hc,rfl⟩:=List.mem_map.mp hd
   have hcn:=mN hn hc
   have:=uX (st:=st) (n:=n) (c:=c) (cs:=bA row n) hn6 hcn (λo ho=>by have:=mN hn ho;lia) (by lia) (va ⟨n,by lia⟩ ⟨c,by lia⟩)
   refine⟨_,rfl,?_⟩
   show _=some (W.d (.int (shI n (bA row n) ((c:Nat):Int).toNat)),st)
   rw [Int.toNat_natCast]
   exact av rfl this
  rw [h]
  congr 2
  unfold bK cu
  rw [List.map_map,List.map_map]
  refine List.map_congr_left λc _=>?_
  show D.int (shI n (bA row n) ((c:Nat):Int).toNat)=_
  rw [Int.toNat_natCast];rfl
 have hmul:=λs=>iu (st:=s) (ns:=cu row n) λx hx=>by have:=hs x hx;constructor<;>lia
 have hzip:∀ i d,(fg (bK (bA row n)) ((cu row n).map D.int))[i]?=some d->∃ c x,((bA row n).zip (cu row n))[i]?=some (c,x)/\d=D.tup [.int (c:Nat),.int x]/\c<=n/\0 < x/\x < 1073741824:=λi d hd=>by
  rw [jc] at hd
  obtain⟨a,ha,hd⟩:=Option.bind_eq_some_iff.mp hd
  obtain⟨b,hb,rfl⟩:=Option.map_eq_some_iff.mp hd
  unfold bK at ha
  rw [List.getElem?_map,Option.map_eq_some_iff] at ha hb
  obtain⟨c,hc,rfl⟩:=ha
  obtain⟨x,hx,rfl⟩:=hb
  have:=hs x (List.mem_of_getElem? hx)
  refine⟨c,x,?_,rfl,mN hn (List.mem_of_getElem? hc),this.1,this.2⟩
  rw [List.getElem?_zip_eq_some]
  exact⟨hc,hx⟩
 have hzl:(fg (bK (bA row n)) ((cu row n).map D.int)).length=((bA row n).zip (cu row n)).length:=by
  rw [i5,List.length_zip];unfold bK;rw [List.length_map,List.length_map]
 obtain⟨e',s',hF,o5,o6,rfl,rfl⟩:=cM (g:=.tp [5,6]) (body:=gQ) (ds:=fg (bK (bA row n)) ((cu row n).map D.int)) (λi env s=>∃ o5 o6,env=[some (.d (ah row)),some (.d (.int n)),some (.d (.lst (bK (bA row n)))),some (.d (.lst ((cu row n).map D.int))),some (.h st.length),o5,o6]/\s=st++[.l (((((bA row n).zip (cu row n)).take i).foldl (nJ (eE (cu row n))) (List.replicate (n+1) 0)).map D.int)])
  (env:=[some (.d (ah row)),some (.d (.int n)),some (.d (.lst (bK (bA row n)))),some (.d (.lst ((cu row n).map D.int))),some (.h st.length),none,none]) (st:=st++[.l ((List.replicate (n+1) (0:Int)).map D.int)]) ⟨none,none,rfl,rfl⟩ (by
  rintro i d env s hd ⟨o5,o6,rfl,rfl⟩
  obtain⟨c,x,hz,rfl,hc,x0,x1⟩:=hzip i d hd
  have htk:(((bA row n).zip (cu row n)).take (i+1)).foldl (nJ (eE (cu row n))) (List.replicate (n+1) 0)=((((bA row n).zip (cu row n)).take i).foldl (nJ (eE (cu row n))) (List.replicate (n+1) 0)).set c (eE (cu row n) / x):=by
   rw [List.take_add_one,hz,List.foldl_append];rfl
  have hlen:c < ((((bA row n).zip (cu row n)).take i).foldl (nJ (eE (cu row n))) (List.replicate (n+1) 0)).length:=by rw [lA,List.length_replicate];lia
  rw [htk]
  generalize (((bA row n).zip (cu row n)).take i).foldl (nJ (eE (cu row n))) (List.replicate (n+1) 0)=WW at *
  have hm:=hmul (st++[C.l (WW.map D.int)])
  generalize eE (cu row n)=PP at *
  generalize (cu row n).map D.int=SS at *
  generalize bK (bA row n)=CC at *
  generalize ah row=TR at *
  exact⟨[some (.d TR),some (.d (.int n)),some (.d (.lst CC)),some (.d (.lst SS)),some (.h st.length),some (.d (.int c)),some (.d (.int x))],_,_,rfl,.inl (sw (aB (av rfl hm) rfl (tT _ ⟨x0,x1⟩)) rfl rfl (qu _ hlen)),_,_,rfl,rfl⟩)
 rw [hzl,List.take_length] at hF
 have hW:((bA row n).zip (cu row n)).foldl (nJ (eE (cu row n))) (List.replicate (n+1) 0)=cg row n:=rfl
 rw [hW] at hF
 have hb:=m7 (st:=st) (L:=cg row n) (rC row n) hn6
 have h64:2 ^ n<=64:=cO hn6
 have hlow:=qD (st:=st++[.l ((cg row n).map D.int)]) (ns:=bcW (cg row n) n) (λx hx=>by
   obtain⟨r,hr,rfl⟩:=List.mem_map.mp hx
   rw [List.getD]
   cases e:(cg row n)[pcF 6 r]? with
   | none=>decide
   | some y=>exact hw y (List.mem_of_getElem? e)) (by
   obtain⟨c,hc,h0⟩:=hp
   have hpl:=qQ ⟨c,by lia⟩
   dsimp only at hpl
   refine⟨(cg row n).getD c 0,List.mem_map.mpr ⟨2 ^ c - 1,List.mem_range.mpr ?_,by rw [hpl]⟩,h0⟩
   have h1:2 ^ c<=2 ^ n:=Nat.pow_le_pow_right (by decide) hc
   have h2:0 < 2 ^ c:=Nat.pow_pos (by decide)
   lia) (by unfold bcW;rw [List.length_map,List.length_range];lia)
 have hl2:(bK (aT row)).length+1<=1000000:=by unfold bK;rw [List.length_map];lia
 have hadd:dw st (.d (.lst (bK (aT row)))) (.d (.lst [.int (n:Nat)]))=some (.lst (bK (bA row n))):=by
  rw [<-ecs]
  show (if (bK (aT row)).length+[D.int (n:Nat)].length<=1000000 then some (D.lst (bK (aT row)++[.int (n:Nat)])) else none)=_
  rw [if_pos (show (bK (aT row)).length+[D.int (n:Nat)].length<=1000000 from hl2)]
 have hz1:(bK (bA row n)).length<=1000000:=by unfold bK;rw [List.length_map];lia
 have hsub:gI st (.d (.int (row.length:Int))) (.d (.int 1))=some (.int (n:Nat)):=by
  show some (D.int ((row.length:Int) - 1))=_
  rw [show (row.length:Int) - 1=(n:Int) by lia]
 have hmulL:vt st (.d (.lst [.int 0])) (.d (.int (row.length:Int)))=some ((List.replicate (n+1) (0:Int)).map D.int):=by
  show (if ([D.int 0]:List D).length<=1000/\-1000<=(row.length:Int)/\(row.length:Int) < 1000 then some ((List.replicate ((row.length:Int)).toNat [D.int 0]).flatten) else none)=_
  rw [if_pos ⟨by show 1<=1000;decide,by lia,by lia⟩,Int.toNat_natCast,tW,hn]
 unfold cbL
 have hlt:=d3 (st:=st) row
 generalize (bcW (cg row n) n).map (λx=>x / ((en 0 (bcW (cg row n) n):Nat):Int))=OUT at *
 generalize bcW (cg row n) n=BW at *
 generalize ((cg row n).map D.int)=WD at *
 generalize (List.replicate (n+1) (0:Int)).map D.int=RP at *
 generalize hZ:fg (bK (bA row n)) ((cu row n).map D.int)=ZZ at *
 have hzz:∀ (env:Ev) (s:Sto),env.getD 2 none=some (.d (.lst (bK (bA row n))))->env.getD 3 none=some (.d (.lst ((cu row n).map D.int)))->kK (ae (iV 2) (ae (iV 3) aj)) env s=some (ZZ,s):=λenv s h2 h3=>by
  rw [<-hZ]
  simp only [kK,ae,aj,iV,h2,h3,Option.map_some,Option.bind_some,wC]
 have hnew:jo (u8 vt (aJ (eN (ae (iC (.int 0)) aj))) (iCB cj (ae (iV 0) aj))) [some (.d (ah row)),some (.d (.int n)),some (.d (.lst (bK (bA row n)))),some (.d (.lst ((cu row n).map D.int))),none,none,none] st=some (.h st.length,st++[.l RP]):=by
  have q1:aJ (eN (ae (iC (.int 0)) aj)) [some (.d (ah row)),some (.d (.int n)),some (.d (.lst (bK (bA row n)))),some (.d (.lst ((cu row n).map D.int))),none,none,none] st=some (.d (.lst [.int 0]),st):=rfl
  have q2:iCB cj (ae (iV 0) aj) [some (.d (ah row)),some (.d (.int n)),some (.d (.lst (bK (bA row n)))),some (.d (.lst ((cu row n).map D.int))),none,none,none] st=some (.d (.int (row.length:Int)),st):=aA rfl hlt
  simp only [jo,u8,q1,q2,hmulL,Option.bind_some,Option.map_some]
 generalize (cu row n).map D.int=SS at *
 generalize bK (bA row n)=CC at *
 generalize bK (aT row)=EE at *
 generalize ah row=TR at *
 have hq:=gW (n:=7) (k:=1) (b:=b_counts_bar) (ws:=[.d TR]) (st:=st) (x:=ah OUT) rfl
  (au (bj (i:=1) (aB (aA rfl hlt) rfl hsub)) (au (gC (bB (av rfl e1) rfl (by rw [gR,hch])) rfl) (au (bj (i:=2) (aB (av rfl e2) rfl hadd)) (au (bj (i:=3) (aY (b4 (fG rfl) hz1 kSh))) (au (bj (i:=4) hnew) (au (iT (hzz _ _ rfl rfl) hF) (bC (av (ar (av rfl hb) rfl) hlow))))))))
 rw [nW] at hq
 exact hq
end Own
end
section
set_option maxHeartbeats 1000000
namespace Own
open PySem L2
noncomputable def eM (b:Bool) (ps:List Prt) (row:Int):Int:=(ps.map λp=>p.2*aS b p.1 row).sum
theorem xN {n:Nat}{t:List Int} (h:Trm n t) (hn:n<=6):∀ k ∈ t,0<=k/\k<=20:=λk hk=>⟨(h.2 k hk).1,by have:=(h.2 k hk).2;lia⟩
theorem fD (b:Bool) (row:Int):∀ (t:List Int) (a:Int),(t.foldl (λv k=>v*eO b (onI row k)) a)=a*aS b t row
 | [],a=>by cases b<;>simp [aS,cX]
 | k::t,a=>by
  rw [List.foldl_cons,fD b row t]
  have hc:=nu row t
  rw [Int.mul_assoc]
  congr 1
  cases b with
  | true=>
   simp only [eO,if_true,aS,cX,List.length_cons]
   rcases li row k with e | e
   ·simp only [e,Int.zero_mul]
    split
    ·push_cast at *;lia
    ·rfl
   ·simp only [e,Int.one_mul]
    split<;>split<;>first | rfl | (push_cast at *;lia)
  | false=>
   simp only [eO,Bool.false_eq_true,if_false,aS,cX]
   rcases li row k with e | e
   ·simp only [e,Int.zero_add]
    split<;>rfl
   ·simp only [e]
    split<;>split<;>first | rfl | lia
noncomputable def spF (s k:Int) (q:Prt):Prt:=(q.1++[k],q.2*s)
noncomputable def spS (s:Int) (L:List Prt) (k:Int):List Prt:=L++L.map (spF s k)
noncomputable def spL (s c:Int) (t:List Int):List Prt:=t.foldl (spS s) [(([]:List Int),c)]
theorem s0 (b:Bool) (row:Int) (a c:List Prt):eM b (a++c) row=eM b a row+eM b c row:=by unfold eM;rw [List.map_append,List.sum_append]
theorem mG (b:Bool) (row:Int) (q:Prt) (L:List Prt):eM b (q::L) row=q.2*aS b q.1 row+eM b L row:=by unfold eM;rw [List.map_cons,List.sum_cons]
theorem jz (b:Bool) (t:List Int) (k row:Int):aS b (t++[k]) row=aS b t row*eO b (onI row k):=by
 have h1:=fD b row (t++[k]) 1
 have h2:=fD b row t 1
 rw [List.foldl_append,h2,Int.one_mul,Int.one_mul] at h1
 exact h1.symm
theorem sR (b:Bool) (t:List Int) (k row:Int):aS b (k::t) row=eO b (onI row k)*aS b t row:=by
 have h1:=fD b row (k::t) 1
 rw [List.foldl_cons,fD,Int.one_mul,Int.one_mul] at h1
 exact h1.symm
theorem mx (b:Bool) (row s k:Int):∀ L:List Prt,eM b (L.map (spF s k)) row=eM b L row*(s*eO b (onI row k))
 | []=>by show (0:Int)=0*_;rw [Int.zero_mul]
 | q::L=>by
  have ih:=mx b row s k L
  rw [List.map_cons,mG,mG,ih,Int.add_mul]
  congr 1
  show q.2*s*aS b (q.1++[k]) row=_
  rw [jz,Int.mul_assoc,Int.mul_assoc]
  congr 1
  rw [<-Int.mul_assoc,Int.mul_comm s,Int.mul_assoc]
theorem uy (b:Bool) (row s k:Int) (L:List Prt):eM b (spS s L k) row=eM b L row*(1+s*eO b (onI row k)):=by
 unfold spS
 rw [s0,mx,Int.mul_add,Int.mul_one]
theorem nw (b:Bool) (row s:Int):∀ (t:List Int) (L:List Prt),eM b (t.foldl (spS s) L) row=t.foldl (λv k=>v*(1+s*eO b (onI row k))) (eM b L row)
 | [],_=>rfl
 | k::t,L=>by rw [List.foldl_cons,List.foldl_cons,nw b row s t,uy]
theorem vf (c row:Int) (t:List Int):eM true (spL (-2) c t) row=c*aS false t row:=by
 unfold spL
 rw [nw,<-fD]
 have e:eM true [(([]:List Int),c)] row=c:=by simp [eM,aS,cX]
 have h:∀ k,(1+-2*eO true (onI row k))=eO false (onI row k):=λk=>by
  simp only [eO,if_true,Bool.false_eq_true,if_false];lia
 simp only [h,e]
theorem xA (row:Int):∀ (t:List Int) (a:Int),t.foldl (λv k=>v*(2*eO true (onI row k))) a=a*(2 ^ t.length*aS true t row)
 | [],a=>by simp [aS,cX]
 | k::t,a=>by
  rw [List.foldl_cons,xA row t,sR,List.length_cons,Int.pow_succ,Int.mul_assoc]
  congr 1
  generalize eO true (onI row k)=f
  generalize aS true t row=v
  generalize (2:Int) ^ t.length=p
  rw [Int.mul_assoc 2 f,Int.mul_left_comm f p v,<-Int.mul_assoc 2 p,Int.mul_comm 2 p]
theorem wn (c row:Int) (t:List Int):eM false (spL (-1) c t) row=c*(2 ^ t.length*aS true t row):=by
 unfold spL
 rw [nw,<-xA]
 have e:eM false [(([]:List Int),c)] row=c:=by simp [eM,aS,cX]
 have h:∀ k,(1+-1*eO false (onI row k))=2*eO true (onI row k):=λk=>by
  simp only [eO,if_true,Bool.false_eq_true,if_false];lia
 simp only [h,e]
theorem fC {α:Type}:∀ l:List α,(l.map λ_=>(0:Int)).sum=0
 | []=>rfl
 | x::l=>by rw [List.map_cons,List.sum_cons,fC l];rfl
theorem nA {α:Type} (f g:α->Int):∀ l:List α,(l.map λx=>f x+g x).sum=(l.map f).sum+(l.map g).sum
 | []=>rfl
 | x::l=>by rw [List.map_cons,List.map_cons,List.map_cons,List.sum_cons,List.sum_cons,List.sum_cons,nA f g l];lia
theorem rj (row:Int):∀ t:List Int,cX row t=(t.length:Int)↔∀ k ∈ t,onI row k=1
 | []=>by simp [cX]
 | k::t=>by
  have ih:=rj row t
  have hc:=nu row t
  rw [cX,List.length_cons]
  constructor
  ·intro h j hj
   rcases li row k with e | e
   ·rw [e] at h;push_cast at h;lia
   ·rcases List.mem_cons.mp hj with rfl | hj
    ·exact e
    ·exact ih.mp (by rw [e] at h;push_cast at h;lia) j hj
  ·intro h
   rw [h k List.mem_cons_self,ih.mpr λj hj=>h j (List.mem_cons_of_mem _ hj)];push_cast;lia
theorem lG {α:Type} (a:α->Int) (c:Int):∀ l:List α,(l.map λx=>a x*c).sum=(l.map a).sum*c
 | []=>by show (0:Int)=0*c;rw [Int.zero_mul]
 | x::l=>by rw [List.map_cons,List.map_cons,List.sum_cons,List.sum_cons,lG a c l,Int.add_mul]
theorem eh {α:Type} (a:α->Int) (c:Int):∀ l:List α,(l.map λx=>c*a x).sum=c*(l.map a).sum
 | []=>by show (0:Int)=c*0;rw [Int.mul_zero]
 | x::l=>by rw [List.map_cons,List.map_cons,List.sum_cons,List.sum_cons,eh a c l,Int.mul_add]
theorem lx {α β:Type} (F:α->β->Int) (m:List β):∀ l:List α,(l.map λt=>(m.map λr=>F t r).sum).sum=(m.map λr=>(l.map λt=>F t r).sum).sum
 | []=>by
  show (0:Int)=(m.map λ_=>(0:Int)).sum
  rw [fC]
 | t::l=>by
  rw [List.map_cons,List.sum_cons,lx F m l,<-nA]
  rfl
theorem jC (s:Nat->Int) (C:Int) (x:Nat):∀ l:List Nat,l.Nodup->x ∈ l->(l.map λr=>s r*(if r=x then C else 0)).sum=s x*C
 | [],_,h=>by cases h
 | r::l,hn,h=>by
  rw [List.map_cons,List.sum_cons]
  rw [List.nodup_cons] at hn
  by_cases e:r=x
  ·subst e
   have:(l.map λy=>s y*(if y=r then C else 0))=l.map λ_=>(0:Int):=List.map_congr_left λy hy=>by
    rw [if_neg (λz:y=r=>hn.1 (z ▸ hy)),Int.mul_zero]
   rw [this,fC,if_pos rfl,Int.add_zero]
  ·rw [if_neg e,Int.mul_zero,Int.zero_add]
   exact jC s C x l hn.2 ((List.mem_cons.mp h).resolve_left λz=>e z.symm)
noncomputable def orP (r q:Int):Nat->Int
 | 0=>1
 | n+1=>orP r q n*(1+eO false (onI r n)*eO false (onI q n))
theorem yy (r q:Int):∀ n:Nat,((cL n).map λt=>aS false t r*aS false t q).sum=orP r q n
 | 0=>by simp [cL,orP,aS,cX]
 | n+1=>by
  rw [cL,List.map_append,List.sum_append,List.map_map,yy r q n,orP,Int.mul_add,Int.mul_one]
  congr 1
  rw [<-yy r q n,<-lG]
  congr 1
  refine List.map_congr_left λt _=>?_
  show aS false (t++[(n:Int)]) r*aS false (t++[(n:Int)]) q=_
  rw [jz,jz]
  generalize aS false t r=a
  generalize aS false t q=b
  generalize eO false (onI r n)=c
  generalize eO false (onI q n)=d
  rw [Int.mul_assoc,Int.mul_left_comm c b d,<-Int.mul_assoc]
theorem um (r q k:Int):eO false (onI r k)*eO false (onI q k)=if onI r k=onI q k then 1 else -1:=by
 rcases li r k with a | a<;>rcases li q k with b | b<;>rw [a,b]<;>decide
theorem oh (r q:Int) {k:Nat} (h:onI r k≠onI q k):∀ n:Nat,k < n->orP r q n=0
 | 0,hk=>by lia
 | n+1,hk=>by
  rw [orP]
  by_cases e:k=n
  ·subst e
   rw [um,if_neg h];show _*(0:Int)=0;rw [Int.mul_zero]
  ·rw [oh r q h n (by lia),Int.zero_mul]
theorem oJ (r:Int):∀ n:Nat,orP r r n=2 ^ n
 | 0=>rfl
 | n+1=>by rw [orP,oJ r n,um,if_pos rfl,Int.pow_succ];rfl
theorem no (r k:Nat):onI (r:Int) (k:Int)=((r / 2 ^ k % 2:Nat):Int):=by
 unfold onI
 rw [Int.toNat_natCast];push_cast;rfl
theorem o0 {n r q:Nat} (hr:r < 2 ^ n) (hq:q < 2 ^ n) (h:r≠q):∃ k,k < n/\onI (r:Int) (k:Int)≠onI (q:Int) (k:Int):=by
 apply Classical.byContradiction
 intro hc
 refine h (Nat.eq_of_testBit_eq λk=>?_)
 by_cases hk:k < n
 ·have:onI (r:Int) (k:Int)=onI (q:Int) (k:Int):=Classical.byContradiction λz=>hc ⟨k,hk,z⟩
  rw [no,no] at this
  have h2:r / 2 ^ k % 2=q / 2 ^ k % 2:=by lia
  rw [Nat.testBit_eq_decide_div_mod_eq,Nat.testBit_eq_decide_div_mod_eq,h2]
 ·have hp:2 ^ n<=2 ^ k:=Nat.pow_le_pow_right (by decide) (by lia)
  rw [Nat.testBit_lt_two_pow (Nat.lt_of_lt_of_le hr hp),Nat.testBit_lt_two_pow (Nat.lt_of_lt_of_le hq hp)]
theorem tN {n r q:Nat} (hr:r < 2 ^ n) (hq:q < 2 ^ n):((cL n).map λt=>aS false t (r:Int)*aS false t (q:Int)).sum=if r=q then 2 ^ n else 0:=by
 rw [yy]
 by_cases e:r=q
 ·subst e;rw [if_pos rfl,oJ]
 ·obtain⟨k,hk,hd⟩:=o0 hr hq e
  rw [if_neg e,oh _ _ hd n hk]
theorem sB (s:Nat->Int) {n row:Nat} (h:row < 2 ^ n):((cL n).map λt=>((List.range (2 ^ n)).map λr:Nat=>s r*aS false t (r:Int)).sum*aS false t (row:Int)).sum=2 ^ n*s row:=by
 have e1:((cL n).map λt=>((List.range (2 ^ n)).map λr:Nat=>s r*aS false t (r:Int)).sum*aS false t (row:Int))=(cL n).map λt=>((List.range (2 ^ n)).map λr:Nat=>s r*aS false t (r:Int)*aS false t (row:Int)).sum:=List.map_congr_left λt _=>(lG _ _ _).symm
 rw [e1,lx]
 have e2:((List.range (2 ^ n)).map λr:Nat=>((cL n).map λt=>s r*aS false t (r:Int)*aS false t (row:Int)).sum)=(List.range (2 ^ n)).map λr:Nat=>s r*(if r=row then 2 ^ n else 0):=List.map_congr_left λr hr=>by
  rw [<-tN (List.mem_range.mp hr) h,<-eh]
  congr 1
  refine List.map_congr_left λt _=>?_
  rw [Int.mul_assoc]
 rw [e2,jC s (2 ^ n) row _ List.nodup_range (List.mem_range.mpr h),Int.mul_comm]
theorem ql (r k:Nat):onI (r:Int) (k:Int)=if r.testBit k=true then 1 else 0:=by
 rw [no,Nat.testBit_eq_decide_div_mod_eq]
 by_cases h:r / 2 ^ k % 2=1
 ·rw [h,if_pos (decide_eq_true rfl)];rfl
 ·have h0:r / 2 ^ k % 2=0:=by lia
  rw [h0];rfl
noncomputable def tmO (k m:Nat):List Int:=((List.range k).filter λi=>m.testBit i).map λi=>((i:Nat):Int)
theorem wI {k m:Nat}{x:Int} (h:x ∈ tmO k m):∃ i:Nat,x=i/\i < k/\m.testBit i=true:=by
 obtain⟨i,hi,rfl⟩:=List.mem_map.mp h
 obtain⟨h1,h2⟩:=List.mem_filter.mp hi
 exact⟨i,rfl,List.mem_range.mp h1,h2⟩
theorem vO {k m i:Nat} (h:i < k) (hb:m.testBit i=true):(i:Int) ∈ tmO k m:=List.mem_map.mpr ⟨i,List.mem_filter.mpr ⟨List.mem_range.mpr h,hb⟩,rfl⟩
theorem lF (k m:Nat):tmO (k+1) m=tmO k m++if m.testBit k=true then [(k:Int)] else []:=by
 unfold tmO
 rw [List.range_succ,List.filter_append,List.map_append]
 congr 1
 by_cases h:m.testBit k=true
 ·rw [if_pos h,List.filter_cons_of_pos (by simpa using h)];rfl
 ·rw [if_neg h,List.filter_cons_of_neg (by simpa using h)];rfl
theorem rR {k m m':Nat} (h:∀ i,i < k->m.testBit i=m'.testBit i):tmO k m=tmO k m':=by
 unfold tmO
 congr 1
 exact List.filter_congr λi hi=>h i (List.mem_range.mp hi)
noncomputable def SU (u:Nat->Int) (n:Nat) (b:Bool) (t:List Int):Int:=((List.range (2 ^ n)).map λr:Nat=>u r*aS b t (r:Int)).sum
theorem qG {u:Nat->Int}{n:Nat}{b:Bool} (L:List Prt):((List.range (2 ^ n)).map λr:Nat=>u r*eM b L (r:Int)).sum=(L.map λq:Prt=>q.2*SU u n b q.1).sum:=by
 have e:((List.range (2 ^ n)).map λr:Nat=>u r*eM b L (r:Int))=(List.range (2 ^ n)).map λr:Nat=>(L.map λq:Prt=>q.2*(u r*aS b q.1 (r:Int))).sum:=List.map_congr_left λr _=>by
  unfold eM
  rw [<-eh]
  congr 1
  refine List.map_congr_left λq _=>?_
  rw [Int.mul_left_comm]
 rw [e,lx (λ(r:Nat) (q:Prt)=>q.2*(u r*aS b q.1 (r:Int))) L (List.range (2 ^ n))]
 congr 1
 refine List.map_congr_left λq _=>?_
 unfold SU
 rw [<-eh]
theorem nQ (F:List Int->Int) (s:Int):∀ (t:List Int) (L:List Prt),(∀ q ∈ L,∀ v:List Int,v.Sublist t->v.length < t.length->F (q.1++v)=0)->((t.foldl (spS s) L).map λq:Prt=>q.2*F q.1).sum=s ^ t.length*(L.map λq:Prt=>q.2*F (q.1++t)).sum
 | [],L,_=>by
  rw [List.foldl_nil,List.length_nil,Int.pow_zero,Int.one_mul]
  congr 1
  exact List.map_congr_left λq _=>by rw [List.append_nil]
 | k::t,L,h=>by
  rw [List.foldl_cons,nQ F s t (spS s L k) ?_]
  ·unfold spS
   rw [List.map_append,List.sum_append,List.map_map]
   have e1:(L.map λq:Prt=>q.2*F (q.1++t))=L.map λ_=>(0:Int):=List.map_congr_left λq hq=>by
    rw [h q hq t (List.sublist_cons_self k t) (by rw [List.length_cons];lia),Int.mul_zero]
   have e2:(L.map ((λq:Prt=>q.2*F (q.1++t)) ∘ spF s k))=L.map λq:Prt=>s*(q.2*F (q.1++(k::t))):=List.map_congr_left λq _=>by
    show q.2*s*F (q.1++[k]++t)=_
    rw [List.append_assoc,List.singleton_append,Int.mul_right_comm,Int.mul_comm]
   rw [e1,fC,Int.zero_add,e2,eh,List.length_cons,Int.pow_succ,Int.mul_assoc]
  ·intro q hq v hv hl
   rcases List.mem_append.mp hq with hq | hq
   ·exact h q hq v (hv.trans (List.sublist_cons_self k t)) (by rw [List.length_cons];lia)
   ·obtain⟨p,hp,rfl⟩:=List.mem_map.mp hq
    show F (p.1++[k]++v)=0
    rw [List.append_assoc,List.singleton_append]
    exact h p hp (k::v) (hv.cons₂ k) (by rw [List.length_cons,List.length_cons];lia)
noncomputable def Van (u:Nat->Int) (n:Nat) (b:Bool) (m:Nat):Prop:=∀ t,Trm n t->t.length < m->SU u n b t=0
theorem oH {n:Nat}{t v:List Int} (h:Trm n t) (hs:v.Sublist t):Trm n v:=⟨h.1.sublist hs,λk hk=>h.2 k (hs.subset hk)⟩
theorem uB (m:Nat):(2:Int) ^ m≠0:=by
 have:(0:Int) < 2 ^ m:=Int.pow_pos (by decide)
 lia
theorem iJ {a:Int} (h:a≠0):∀ m:Nat,a ^ m≠0
 | 0=>by rw [Int.pow_zero];decide
 | m+1=>by rw [Int.pow_succ];exact Int.mul_ne_zero (iJ h m) h
theorem uA {u:Nat->Int}{n:Nat}{t:List Int} (ht:Trm n t) (h:Van u n true t.length):SU u n false t=(-2) ^ t.length*SU u n true t:=by
 have e:SU u n false t=((spL (-2) 1 t).map λq:Prt=>q.2*SU u n true q.1).sum:=by
  rw [<-qG]
  unfold SU
  congr 1
  refine List.map_congr_left λr _=>?_
  rw [vf,Int.one_mul]
 rw [e]
 unfold spL
 rw [nQ (SU u n true) (-2) t [([],1)] λq hq v hv hl=>by
  rw [List.mem_singleton.mp hq]
  exact h v (oH ht hv) hl]
 show (-2) ^ t.length*((1:Int)*SU u n true ([]++t)+0)=_
 rw [List.nil_append,Int.one_mul,Int.add_zero]
theorem q9 {u:Nat->Int}{n:Nat}{t:List Int} (ht:Trm n t) (h:Van u n false t.length):2 ^ t.length*SU u n true t=(-1) ^ t.length*SU u n false t:=by
 have e:2 ^ t.length*SU u n true t=((spL (-1) 1 t).map λq:Prt=>q.2*SU u n false q.1).sum:=by
  rw [<-qG]
  unfold SU
  rw [<-eh]
  congr 1
  refine List.map_congr_left λr _=>?_
  rw [wn,Int.one_mul,Int.mul_left_comm]
 rw [e]
 unfold spL
 rw [nQ (SU u n false) (-1) t [([],1)] λq hq v hv hl=>by
  rw [List.mem_singleton.mp hq]
  exact h v (oH ht hv) hl]
 show (-1) ^ t.length*((1:Int)*SU u n false ([]++t)+0)=_
 rw [List.nil_append,Int.one_mul,Int.add_zero]
theorem uO {u:Nat->Int}{n:Nat}{b:Bool}{m k:Nat} (h:Van u n b m) (hk:k<=m):Van u n b k:=λt ht hl=>h t ht (by lia)
theorem rf {u:Nat->Int}{n:Nat}{m:Nat} (h:Van u n true m):Van u n false m:=λt ht hl=>by
 rw [uA ht (uO h (by lia)),h t ht hl,Int.mul_zero]
theorem tH {u:Nat->Int}{n:Nat}:∀ {m:Nat},Van u n false m->Van u n true m
 | 0,_=>λt _ hl=>absurd hl (by lia)
 | m+1,h=>λt ht hl=>by
  have e:=q9 ht (uO h (by lia))
  rw [h t ht hl,Int.mul_zero] at e
  exact (Int.mul_eq_zero.mp e).resolve_left (uB _)
noncomputable def Lst (u:Nat->Int) (n:Nat) (b:Bool) (e:Nat):Prop:=Van u n b e/\∃ t,Trm n t/\t.length=e/\SU u n b t≠0
theorem Lst.kind {u:Nat->Int}{n e:Nat}{b:Bool} (h:Lst u n b e):Lst u n (!b) e:=by
 obtain⟨h1,t,t1,t2,t3⟩:=h
 cases b with
 | true=>
  refine⟨rf h1,t,t1,t2,?_⟩
  show SU u n false t≠0
  rw [uA t1 (by rw [t2];exact h1)]
  exact Int.mul_ne_zero (iJ (by decide) _) t3
 | false=>
  refine⟨tH h1,t,t1,t2,λz=>?_⟩
  have e':=q9 t1 (by rw [t2];exact h1)
  have z':SU u n true t=0:=z
  rw [z',Int.mul_zero] at e'
  exact t3 ((Int.mul_eq_zero.mp e'.symm).resolve_left (iJ (by decide) _))
theorem Lst.any {u:Nat->Int}{n e:Nat}{b c:Bool} (h:Lst u n b e):Lst u n c e:=by
 by_cases z:c=b
 ·rw [z];exact h
 ·have:c=!b:=by cases b<;>cases c<;>simp_all
  rw [this];exact h.kind
theorem yD {u:Nat->Int}{n r0:Nat} (hr:r0 < 2 ^ n) (hu:u r0≠0):∃ e,Lst u n false e:=by
 have hex:∃ t,Trm n t/\SU u n false t≠0:=Classical.byContradiction λhc=>by
  have h0:∀ t,Trm n t->SU u n false t=0:=λt ht=>Classical.byContradiction λz=>hc ⟨t,ht,z⟩
  have e:=sB u hr
  have e1:((cL n).map λt=>((List.range (2 ^ n)).map λr:Nat=>u r*aS false t (r:Int)).sum*aS false t (r0:Int))=(cL n).map λ_=>(0:Int):=List.map_congr_left λt ht=>by
   have:=h0 t (gS n ht)
   unfold SU at this
   rw [this,Int.zero_mul]
  rw [e1,fC] at e
  exact hu ((Int.mul_eq_zero.mp e.symm).resolve_left (uB n))
 obtain⟨t,ht,hne⟩:=hex
 have key:∀ m:Nat,Van u n false m\/∃ e,Lst u n false e:=λm=>by
  induction m with
  | zero=>exact .inl λt _ hl=>absurd hl (by lia)
  | succ m ih=>
   rcases ih with ih | ih
   ·by_cases hc:∃ t,Trm n t/\t.length=m/\SU u n false t≠0
    ·exact .inr ⟨m,ih,hc⟩
    ·refine .inl λt ht hl=>?_
     by_cases hlt:t.length < m
     ·exact ih t ht hlt
     ·exact Classical.byContradiction λz=>hc ⟨t,ht,by lia,z⟩
   ·exact .inr ih
 rcases key (t.length+1) with h | h
 ·exact absurd (h t ht (by lia)) hne
 ·exact h
end Own
end
section
set_option maxHeartbeats 1000000
namespace Own
open PySem L2
noncomputable def vG:Nat->List (List Int)
 | 0=>[[]]
 | m+1=>(vG m).map (λl=>0::l)++(vG m).map λl=>1::l
theorem pr:∀ (row:List Int),gX row->row ∈ vG row.length
 | [],_=>List.mem_singleton.mpr rfl
 | x::l,h=>by
  have ih:=pr l λy hy=>h y (List.mem_cons_of_mem _ hy)
  rw [List.length_cons,vG]
  rcases h x List.mem_cons_self with rfl | rfl
  ·exact List.mem_append_left _ (List.mem_map.mpr ⟨l,ih,rfl⟩)
  ·exact List.mem_append_right _ (List.mem_map.mpr ⟨l,ih,rfl⟩)
noncomputable def tbI (n k c:Nat):Int:=if k<=c then chF ((n:Int) - (k:Int)) (c - k) else 0
noncomputable def Ar (row:List Int):Bool:=
 (aT row).length==0 || ((cu row (row.length - 1)).all (λx=>decide (0 < x) && decide (x < 1073741824)) && (cg row (row.length - 1)).all (λx=>decide (0<=x) && decide (x < 1000000000000000000000)) && (cg row (row.length - 1)).any (λx=>decide (0 < x)) &&
  (List.range (aT row).length).all λk=>((List.range row.length).map λc=>(cg row (row.length - 1)).getD c 0*(2*row.getD c 0 - 1)*tbI (row.length - 1) k c).sum==0)
theorem wJ:∀ m:Fin 8,(vG m.val).all Ar=true:=by decide +kernel
theorem wV:∀ n:Fin 7,∀ m:Fin 64,m.val < 2 ^ n.val->∀ c:Fin 7,c.val<=n.val->((((List.range (2 ^ n.val)).filter λr=>(m.val &&& r)==m.val).filter λr=>pcF 6 r==c.val).length:Int)=tbI n.val (pcF 6 m.val) c.val:=by decide +kernel
theorem wU:∀ n:Fin 7,∀ m:Fin 64,m.val < 2 ^ n.val->(tmO n.val m.val).length=pcF 6 m.val:=by decide +kernel
structure vL (row:List Int) (n:Nat):Prop where
 sh:∀ x ∈ cu row n,0 < x/\x < 1073741824
 w:∀ x ∈ cg row n,0<=x/\x < 1000000000000000000000
 p:∃ c,c<=n/\0 < (cg row n).getD c 0
 z:∀ k,k < (aT row).length->((List.range (n+1)).map λc=>(cg row n).getD c 0*(2*row.getD c 0 - 1)*tbI n k c).sum=0
theorem sK {row:List Int}{n:Nat} (h01:gX row) (hn:row.length=n+1) (hn6:n<=6) (hd:(aT row).length≠0):vL row n:=by
 have h:=List.all_eq_true.mp (wJ ⟨row.length,by lia⟩) row (pr row h01)
 have e:row.length - 1=n:=by lia
 have hd':((aT row).length==0)=false:=by rw [beq_eq_false_iff_ne];exact hd
 unfold Ar at h
 rw [e,hd',Bool.false_or,Bool.and_eq_true,Bool.and_eq_true,Bool.and_eq_true,List.all_eq_true,List.all_eq_true,List.any_eq_true,List.all_eq_true,hn] at h
 obtain⟨⟨⟨a,b⟩,c⟩,d⟩:=h
 refine⟨λx hx=>?_,λx hx=>?_,?_,λk hk=>?_⟩
 ·have:=a x hx
  rw [Bool.and_eq_true,decide_eq_true_eq,decide_eq_true_eq] at this
  exact this
 ·have:=b x hx
  rw [Bool.and_eq_true,decide_eq_true_eq,decide_eq_true_eq] at this
  exact this
 ·obtain⟨x,hx,h0⟩:=c
  obtain⟨i,hi,rfl⟩:=List.getElem_of_mem hx
  have hl:=rC row n
  refine⟨i,by lia,?_⟩
  rw [List.getD,List.getElem?_eq_getElem hi]
  exact of_decide_eq_true h0
 ·exact eq_of_beq (d k (List.mem_range.mpr hk))
theorem iR:∀ (n:Nat) (t:List Int),Trm n t->∃ m,m < 2 ^ n/\t=tmO n m
 | 0,t,h=>by
  cases t with
  | nil=>exact⟨0,by decide,rfl⟩
  | cons x l=>have:=h.2 x List.mem_cons_self;lia
 | n+1,t,h=>by
  rcases List.eq_nil_or_concat t with rfl | ⟨l,x,rfl⟩
  ·obtain⟨m,hm,e⟩:=iR n [] ⟨List.Pairwise.nil,λk hk=>nomatch hk⟩
   refine⟨m,Nat.lt_of_lt_of_le hm (Nat.pow_le_pow_right (by decide) (by lia)),?_⟩
   rw [lF,if_neg (by rw [Nat.testBit_lt_two_pow hm];decide),List.append_nil,<-e]
  ·rw [List.concat_eq_append] at h ⊢
   have hx:=h.2 x (List.mem_append_right _ (List.mem_singleton.mpr rfl))
   have hpw:=List.pairwise_append.mp h.1
   by_cases e:x=(n:Int)
   ·subst e
    have hl:Trm n l:=⟨hpw.1,λk hk=>⟨(h.2 k (List.mem_append_left _ hk)).1,hpw.2.2 k hk _ (List.mem_singleton.mpr rfl)⟩⟩
    obtain⟨m,hm,e⟩:=iR n l hl
    refine⟨2 ^ n+m,by rw [Nat.pow_succ];lia,?_⟩
    rw [lF,if_pos (by rw [Nat.testBit_two_pow_add_eq,Nat.testBit_lt_two_pow hm];rfl),e,rR (m:=2 ^ n+m) (m':=m) λi hi=>Nat.testBit_two_pow_add_gt hi m]
   ·have hl:Trm n (l++[x]):=⟨h.1,λk hk=>by
     have h0:=h.2 k hk
     refine⟨h0.1,?_⟩
     rcases List.mem_append.mp hk with z | z
     ·have:=hpw.2.2 k z x (List.mem_singleton.mpr rfl);lia
     ·rw [List.mem_singleton.mp z];lia⟩
    obtain⟨m,hm,e2⟩:=iR n (l++[x]) hl
    refine⟨m,Nat.lt_of_lt_of_le hm (Nat.pow_le_pow_right (by decide) (by lia)),?_⟩
    rw [lF,if_neg (by rw [Nat.testBit_lt_two_pow hm];decide),List.append_nil,<-e2]
theorem wK {n m r:Nat} (hm:m < 2 ^ n):aS true (tmO n m) (r:Int)=if (m &&& r)==m then 1 else 0:=by
 have e:(cX (r:Int) (tmO n m)=((tmO n m).length:Int))↔(m &&& r)=m:=by
  rw [rj]
  constructor
  ·intro h
   refine Nat.eq_of_testBit_eq λi=>?_
   rw [Nat.testBit_and]
   by_cases hb:m.testBit i=true
   ·have hi:i < n:=Classical.byContradiction λz=>by
     rw [Nat.testBit_lt_two_pow (Nat.lt_of_lt_of_le hm (Nat.pow_le_pow_right (by decide) (by lia)))] at hb
     cases hb
    have:=h _ (vO hi hb)
    rw [ql] at this
    have hr:r.testBit i=true:=Classical.byContradiction λz=>by rw [if_neg z] at this;lia
    rw [hb,hr];rfl
   ·have hb':m.testBit i=false:=by simpa using hb
    rw [hb'];rfl
  ·intro h k hk
   obtain⟨i,rfl,hi,hb⟩:=wI hk
   rw [<-h,Nat.testBit_and,Bool.and_eq_true] at hb
   rw [ql,if_pos hb.2]
 simp only [aS,if_true]
 by_cases h:(m &&& r)=m
 ·rw [if_pos (e.mpr h),if_pos (by simpa using h)]
 ·rw [if_neg (λz=>h (e.mp z)),if_neg (by simpa using h)]
theorem qU (g:Nat->Int) (p:Nat->Nat) (n:Nat):∀ l:List Nat,(∀ r ∈ l,p r<=n)->(l.map λr=>g (p r)).sum=((List.range (n+1)).map λc=>g c*((l.filter λr=>p r==c).length:Int)).sum
 | [],_=>by
  have:((List.range (n+1)).map λc=>g c*((([]:List Nat).filter λr=>p r==c).length:Int))=(List.range (n+1)).map λ_=>(0:Int):=List.map_congr_left λc _=>Int.mul_zero _
  rw [this,fC];rfl
 | r::l,h=>by
  rw [List.map_cons,List.sum_cons,qU g p n l λq hq=>h q (List.mem_cons_of_mem _ hq)]
  have e:=jC g 1 (p r) (List.range (n+1)) List.nodup_range (List.mem_range.mpr (by have:=h r List.mem_cons_self;lia))
  rw [Int.mul_one] at e
  rw [<-e,<-nA]
  congr 1
  refine List.map_congr_left λc _=>?_
  by_cases hc:c=p r
  ·rw [if_pos hc,List.filter_cons_of_pos (by simp [hc]),List.length_cons]
   push_cast
   rw [Int.mul_add,Int.mul_one,Int.add_comm]
  ·rw [if_neg hc,List.filter_cons_of_neg (by simpa using λz=>hc z.symm),Int.mul_zero,Int.zero_add]
noncomputable def uR (row:List Int) (n r:Nat):Int:=(cbL row n).getD r 0*(2*row.getD (pcF 6 r) 0 - 1)
theorem ni {W:List Int}{n r:Nat} (hr:r < 2 ^ n):(bcW W n)[r]?=some (W.getD (pcF 6 r) 0):=by
 unfold bcW
 rw [List.getElem?_map,List.getElem?_range hr];rfl
theorem xK {row:List Int}{n r:Nat} (hr:r < 2 ^ n):(cbL row n).getD r 0=(cg row n).getD (pcF 6 r) 0 / ((en 0 (bcW (cg row n) n):Nat):Int):=by
 unfold cbL
 rw [List.getD,List.getElem?_map,ni hr];rfl
theorem xG {row:List Int}{n r:Nat} (hr:r < 2 ^ n):((en 0 (bcW (cg row n) n):Nat):Int)∣(cg row n).getD (pcF 6 r) 0:=by
 have:=(kW 0 (bcW (cg row n) n)).2 _ (List.mem_of_getElem? (ni (W:=cg row n) hr))
 exact Int.ofNat_dvd_left.mpr this
theorem xW {c n:Nat} (hc:c<=n) (hn:n<=6):2 ^ c - 1 < 2 ^ n/\pcF 6 (2 ^ c - 1)=c:=by
 have hpl:=qQ ⟨c,by lia⟩
 dsimp only at hpl
 have h1:2 ^ c<=2 ^ n:=Nat.pow_le_pow_right (by decide) hc
 have h2:0 < 2 ^ c:=Nat.pow_pos (by decide)
 exact⟨by lia,hpl⟩
theorem wF {row:List Int}{n:Nat} (hn6:n<=6) (F:vL row n):Van (uR row n) n true (aT row).length:=λt ht hl=>by
 obtain⟨m,hm,rfl⟩:=iR n t ht
 have h64:2 ^ n<=64:=cO hn6
 have hk:=wU ⟨n,by lia⟩ ⟨m,by lia⟩ hm
 dsimp only at hk
 have hz:=F.z (tmO n m).length hl
 rw [hk] at hz
 obtain⟨c0,hc0,hp0⟩:=F.p
 obtain⟨hr0,hpc⟩:=xW hc0 hn6
 have g0:0 < en 0 (bcW (cg row n) n):=by
  have:=ni (W:=cg row n) hr0
  rw [hpc] at this
  exact (kZ (List.mem_of_getElem? this) (by lia)).1
 have key:((en 0 (bcW (cg row n) n):Nat):Int)*SU (uR row n) n true (tmO n m)=0:=by
  unfold SU
  rw [<-eh]
  have e1:((List.range (2 ^ n)).map λr:Nat=>((en 0 (bcW (cg row n) n):Nat):Int)*(uR row n r*aS true (tmO n m) (r:Int)))=(List.range (2 ^ n)).map λr=>if (m &&& r)==m then (cg row n).getD (pcF 6 r) 0*(2*row.getD (pcF 6 r) 0 - 1) else 0:=List.map_congr_left λr hr=>by
   have hr':=List.mem_range.mp hr
   have hd:=Int.mul_ediv_cancel' (xG (row:=row) hr')
   rw [wK hm]
   unfold uR
   rw [xK hr']
   split
   ·rw [Int.mul_one,<-Int.mul_assoc,hd]
   ·rw [Int.mul_zero,Int.mul_zero]
  have e2:∀ l:List Nat,(l.map λr=>if (m &&& r)==m then (cg row n).getD (pcF 6 r) 0*(2*row.getD (pcF 6 r) 0 - 1) else 0).sum=((l.filter λr=>(m &&& r)==m).map λr=>(cg row n).getD (pcF 6 r) 0*(2*row.getD (pcF 6 r) 0 - 1)).sum:=λl=>by
   induction l with
   | nil=>rfl
   | cons r l ih=>
    rw [List.map_cons,List.sum_cons,ih]
    by_cases hb:((m &&& r)==m)=true
    ·rw [if_pos hb,List.filter_cons_of_pos (p:=λr=>(m &&& r)==m) hb,List.map_cons,List.sum_cons]
    ·rw [if_neg hb,List.filter_cons_of_neg (p:=λr=>(m &&& r)==m) hb,Int.zero_add]
  rw [e1,e2,qU (λc=>(cg row n).getD c 0*(2*row.getD c 0 - 1)) (pcF 6) n _ λr hr=>by
   have hr':=List.mem_range.mp (List.mem_filter.mp hr).1
   exact ut ⟨n,by lia⟩ ⟨r,by lia⟩ hr']
  refine Eq.trans ?_ hz
  congr 1
  refine List.map_congr_left λc hc=>?_
  have hc':=List.mem_range.mp hc
  have:=wV ⟨n,by lia⟩ ⟨m,by lia⟩ hm ⟨c,by lia⟩ (by show c<=n;lia)
  dsimp only at this
  rw [this]
 exact (Int.mul_eq_zero.mp key).resolve_left (by lia)
theorem AV {row:List Int}{n:Nat} (h01:gX row) (hn6:n<=6) (F:vL row n):∃ r,r < 2 ^ n/\uR row n r≠0/\0 < (cbL row n).getD r 0:=by
 obtain⟨c0,hc0,hp0⟩:=F.p
 obtain⟨hr0,hpc⟩:=xW hc0 hn6
 have h1:=xK (row:=row) hr0
 have h2:=xG (row:=row) hr0
 rw [hpc] at h1 h2
 have g0:0 < en 0 (bcW (cg row n) n):=by
  have:=ni (W:=cg row n) hr0
  rw [hpc] at this
  exact (kZ (List.mem_of_getElem? this) (by lia)).1
 have hpos:0 < (cbL row n).getD (2 ^ c0 - 1) 0:=by
  rw [h1]
  exact Int.ediv_pos_of_pos_of_dvd hp0 (by lia) h2
 refine⟨2 ^ c0 - 1,hr0,?_,hpos⟩
 unfold uR
 refine Int.mul_ne_zero (by lia) ?_
 rcases h01.getD (pcF 6 (2 ^ c0 - 1)) with e | e<;>rw [e]<;>decide
theorem Av {row:List Int}{n:Nat} (F:vL row n):∀ x ∈ cbL row n,0<=x:=λx hx=>by
 unfold cbL at hx
 obtain⟨y,hy,rfl⟩:=List.mem_map.mp hx
 unfold bcW at hy
 obtain⟨r,_,rfl⟩:=List.mem_map.mp hy
 refine Int.ediv_nonneg ?_ (by lia)
 rw [List.getD]
 cases e:(cg row n)[pcF 6 r]? with
 | none=>decide
 | some z=>exact (F.w z (List.mem_of_getElem? e)).1
theorem dW (row:List Int) (n:Nat):(cbL row n).length=2 ^ n:=by unfold cbL bcW;rw [List.length_map,List.length_map,List.length_range]
end Own
end
section
set_option maxHeartbeats 1000000
namespace Own
open PySem L2
theorem vc {st:Sto}{r k:Int} (r0:0<=r) (k0:0<=k) {env:Ev}{a b:Ef} (ha:a env st=some (.d (.int r),st)) (hb:b env st=some (.d (.int k),st)):bJ dEq (iOp ug (iOp tz a b) (iC (.int 1))) (iC (.int 1)) env st=some (onI r k==1,st):=by
 have h0:0<=r / 2 ^ k.toNat:=Int.ediv_nonneg r0 (Int.le_of_lt (Int.pow_pos (by decide)))
 refine bB (x:=.d (.int (onI r k))) (y:=.d (.int 1)) (aB (x:=.d (.int (r / 2 ^ k.toNat))) (aB ha hb ?_) rfl ?_) rfl (gR _ _ _)
 ·show (if (0:Int)<=k then some (D.int (r / 2 ^ k.toNat)) else none)=_
  rw [if_pos k0]
 ·show some (D.int (Builtin.bitAnd (r / 2 ^ k.toNat) 1))=_
  rw [Ak h0];rfl
theorem ll (row:Int):∀ t:List Int,((t.filter λk=>onI row k==1).length:Int)=cX row t
 | []=>rfl
 | k::t=>by
  have ih:=ll row t
  rcases li row k with h | h
  ·rw [List.filter_cons_of_neg (by rw [h];decide),ih,cX,h,Int.zero_add]
  ·rw [List.filter_cons_of_pos (by rw [h];decide),List.length_cons,cX,h,<-ih];push_cast;rw [Int.add_comm]
noncomputable def vk (r:Int) (d:D):Bool:=match d with | .int k=>onI r k==1 | _=>false
theorem vD (r:Int) (t:List Int):((t.map D.int).filter (vk r)).map id=(t.filter λk=>onI r k==1).map D.int:=by
 rw [List.map_id,List.filter_map];rfl
theorem vF {st:Sto}{b:Bool}{t:List Int}{row:Int} (h0:0<=row) (ht:∀ k ∈ t,0<=k/\k<=20) (hl:t.length<=1000):m__law_term [.d (.str (bT b)),.d (ah t),.d (.int row)] st=some (.d (.int (aS b t row)),st):=by
 have key:lcI (.nm 0) im ix [none,some (.d (.int row))] (t.map D.int) st=some (((t.map D.int).filter (vk row)).map id,st):=bX _ _ λd hd=>by
  obtain⟨k,hk,rfl⟩:=List.mem_map.mp hd
  exact⟨_,rfl,vc h0 (ht k hk).1 rfl rfl,λ_=>rfl⟩
 rw [vD] at key
 have hlm:(t.map D.int).length<=1000000:=by rw [List.length_map];lia
 have e3:cj st [.d (.lst ((t.filter λk=>onI row k==1).map D.int))]=some (.int (cX row t)):=by
  rw [nh,List.length_map,ll]
 have e4:=d3 (st:=st) t
 have kb:dEq st (.d (.str (bT b))) (.d (.str "both"))=some (.bl b):=by cases b<;>rfl
 have hv:aS b t row=if b=true then (if (cX row t==(t.length:Int))=true then 1 else 0) else 1 - 2*(cX row t % 2):=by
  unfold aS
  simp only [beq_iff_eq]
  split
  ·rfl
  ·split<;>lia
 rw [hv]
 unfold ah at *
 generalize (t.filter λk=>onI row k==1).map D.int=Q at *
 generalize t.map D.int=T at *
 generalize cX row t=c at *
 generalize bT b=kd at *
 refine bu (n:=4) (k:=3) (b:=b__law_term) rfl (au (bj (i:=3) (aA (ar (aY (b4 (d8 rfl) hlm key)) rfl) e3)) (bC ?_))
 have hc:bJ dEq (iV 0) (iC (.str "both")) [some (.d (.str kd)),some (.d (.tup T)),some (.d (.int row)),some (.d (.int c))] st=some (b,st):=bB rfl rfl kb
 cases b with
 | true=>
  have h2:iCB t7 (ae (iOp dEq (iV 3) (iCB cj (ae (iV 1) aj))) aj) [some (.d (.str kd)),some (.d (.tup T)),some (.d (.int row)),some (.d (.int c))] st=some (.d (.int (if (c==(t.length:Int))=true then 1 else 0)),st):=aA (ar (aB rfl (aA rfl e4) (gR _ _ _)) rfl) rfl
  show ((bJ dEq (iV 0) (iC (.str "both")) [some (.d (.str kd)),some (.d (.tup T)),some (.d (.int row)),some (.d (.int c))] st).bind λr=>if r.1=true then _ else _)=_
  rw [hc]
  exact h2
 | false=>
  have h2:iOp gI (iC (.int 1)) (iOp dv (iC (.int 2)) (iOp fk (iV 3) (iC (.int 2)))) [some (.d (.str kd)),some (.d (.tup T)),some (.d (.int row)),some (.d (.int c))] st=some (.d (.int (1 - 2*(c % 2))),st):=aB rfl (aB rfl (aB rfl rfl (d:=.int (c % 2)) rfl) (kD _ ⟨by lia,by lia⟩)) rfl
  show ((bJ dEq (iV 0) (iC (.str "both")) [some (.d (.str kd)),some (.d (.tup T)),some (.d (.int row)),some (.d (.int c))] st).bind λr=>if r.1=true then _ else _)=_
  rw [hc]
  exact h2
theorem oF:∀ n:Fin 7,cL n.val=(List.range (2 ^ n.val)).map (tmO n.val):=by decide +kernel
theorem zM (r k:Nat):(onI (r:Int) (k:Int)==1)=r.testBit k:=by
 rw [ql]
 cases r.testBit k<;>rfl
theorem sW (n m:Nat):((bU 0 n).filter (vk m)).map id=(tmO n m).map D.int:=by
 unfold bU tmO
 rw [List.map_id,List.filter_map,List.map_map]
 have e:(vk (m:Int) ∘ λk:Nat=>D.int (0+(k:Int)))=λk:Nat=>m.testBit k:=by
  funext k
  show (onI (m:Int) (0+(k:Int))==1)=_
  rw [Int.zero_add,zM]
 rw [e]
 refine List.map_congr_left λk _=>?_
 rw [Int.zero_add];rfl
theorem tY {n:Nat} (h:n<=6) (s:Sto):oM s (.d (.int 1)) (.d (.int (n:Nat)))=some (.int ((2 ^ n:Nat):Int)):=by
 have:n=0\/n=1\/n=2\/n=3\/n=4\/n=5\/n=6:=by lia
 rcases this with rfl | rfl | rfl | rfl | rfl | rfl | rfl<;>rfl
theorem gJ {n:Nat} (h:n<=6) {t:List Int}:t ∈ nL n↔Trm n t:=by
 unfold nL
 rw [(cU _).mem_iff]
 constructor
 ·exact gS n
 ·intro ht
  obtain⟨m,hm,rfl⟩:=iR n t ht
  have:=oF ⟨n,by lia⟩
  dsimp only at this
  rw [this]
  exact List.mem_map.mpr ⟨m,List.mem_range.mpr hm,rfl⟩
noncomputable def tlT (n:Nat) (m:Int):List (List Int):=(nL n).filter λt=>decide ((t.length:Int)<=m)
theorem qz {n:Nat} (h:n<=6) (m:Int):(tlT n m).length<=64:=Nat.le_trans (List.length_filter_le _ _) (by rw [vK];exact cO h)
theorem mD {st:Sto}{n:Nat} (hn:n<=6) (m:Int):m__law_terms [.d (.int (n:Nat)),.d (.int m)] st=some (.d (.lst ((tlT n m).map ah)),st):=by
 have h64:=cO hn
 have k1:lcI (.nm 0) dD gU [none,some (.d (.int (n:Nat)))] (bU 0 (2 ^ n)) st=some ((bU 0 (2 ^ n)).map λd=>match d with | .int c=>ah (tmO n c.toNat) | d=>d,st):=dg _ λd hd=>by
  obtain⟨c,hc⟩:=List.mem_iff_getElem?.mp hd
  obtain⟨rfl,hc'⟩:=dj hc
  have k2:lcI (.nm 0) gu gA [none,some (.d (.int (c:Nat)))] (bU 0 n) st=some (((bU 0 n).filter (vk (c:Nat))).map id,st):=bX _ _ λd hd=>by
   obtain⟨k,hk⟩:=List.mem_iff_getElem?.mp hd
   obtain⟨rfl,hk'⟩:=dj hk
   exact⟨_,rfl,vc (by lia) (by lia) rfl rfl,λ_=>rfl⟩
  rw [sW] at k2
  refine⟨_,rfl,?_⟩
  show _=some (W.d (ah (tmO n ((c:Nat):Int).toNat)),st)
  rw [Int.toNat_natCast]
  exact aA (ar (aY (b4 (iG (z:=(n:Int)) rfl (by lia) (by lia) (by lia)) (by rw [cy];lia) k2)) rfl) rfl
 have e1:((bU 0 (2 ^ n)).map λd=>match d with | .int c=>ah (tmO n c.toNat) | d=>d)=(cL n).map ah:=by
  have:=oF ⟨n,by lia⟩
  dsimp only at this
  rw [this]
  unfold bU
  rw [List.map_map,List.map_map]
  refine List.map_congr_left λk _=>?_
  show ah (tmO n ((0:Int)+(k:Int)).toNat)=_
  rw [Int.zero_add,Int.toNat_natCast];rfl
 rw [e1] at k1
 have k3:lcI (.nm 0) eD eK [none,some (.d (.int m))] ((cL n).map ah) st=some ((((cL n).map ah).filter λd=>match d with | .tup ds=>decide ((ds.length:Int)<=m) | _=>false).map id,st):=bX _ _ λd hd=>by
  obtain⟨t,ht,rfl⟩:=List.mem_map.mp hd
  exact⟨_,rfl,bB (aA rfl rfl) rfl rfl,λ_=>rfl⟩
 have e3:((((cL n).map ah).filter λd=>match d with | .tup ds=>decide ((ds.length:Int)<=m) | _=>false).map id)=((cL n).filter λt=>decide ((t.length:Int)<=m)).map ah:=by
  rw [List.map_id,List.filter_map]
  congr 1
  refine List.filter_congr λt _=>?_
  show decide (((t.map D.int).length:Int)<=m)=_
  rw [List.length_map]
 rw [e3] at k3
 have hg:((cL n).map ah).length<=1000000:=by rw [List.length_map,gs];lia
 have hrg:∀ env,iV 0 env st=some (.d (.int (n:Nat)),st)->bE (ae (iOp oM (iC (.int 1)) (iV 0)) aj) env st=some (bU 0 (2 ^ n),st):=λenv he=>iG (z:=((2 ^ n:Nat):Int)) (aB rfl he (tY hn st)) (by lia) (by lia) (by lia)
 have hso:fZ st [.d (.lst (((cL n).filter λt=>decide ((t.length:Int)<=m)).map ah))]=some ((tlT n m).map ah):=by
  show (if (((cL n).filter λt=>decide ((t.length:Int)<=m)).map ah).length<=64 then ms (((cL n).filter λt=>decide ((t.length:Int)<=m)).map ah) else none)=_
  rw [if_pos (by rw [List.length_map];exact Nat.le_trans (List.length_filter_le _ _) (by rw [gs];exact h64)),kq,ir]
  rfl
 generalize (tlT n m).map ah=R at *
 generalize ((cL n).filter λt=>decide ((t.length:Int)<=m)).map ah=F at *
 generalize (cL n).map ah=G at *
 have h9:iCL fZ (ae (aJ (iLc 1 [1] (bm (iV 2)) (.nm 0) eD eK)) aj) [some (.d (.int (n:Nat))),some (.d (.int m)),some (.d (.lst G))] st=some (R,st):=by
  have:=ar (b:=aj) (aY (b4 (k:=1) (js:=[1]) (env:=[some (.d (.int (n:Nat))),some (.d (.int m)),some (.d (.lst G))]) (fG (f:=iV 2) rfl) hg k3)) rfl
  show ((ae _ aj _ st).bind λr=>(fZ r.2 r.1).map λd=>(d,r.2))=_
  rw [this,Option.bind_some,hso];rfl
 exact bu (n:=3) (k:=2) (b:=b__law_terms) rfl (au (bj (i:=2) (aY (b4 (hrg _ rfl) (by rw [cy];lia) k1))) (bC (aY h9)))
noncomputable def sh (g:Int->Int):Nat->List Int->Int
 | _,[]=>0
 | k,s::S=>s*g k+sh g (k+1) S
theorem o8 (g:Int->Int) (u:Nat->Int):∀ (N k:Nat),sh g k ((List.range' k N).map u)=((List.range' k N).map λr:Nat=>u r*g (r:Int)).sum
 | 0,_=>rfl
 | N+1,k=>by rw [List.range'_succ,List.map_cons,sh,o8 g u N (k+1),List.map_cons,List.sum_cons]
theorem xC (u:Nat->Int) (n:Nat) (b:Bool) (t:List Int):sh (aS b t) 0 ((List.range (2 ^ n)).map u)=SU u n b t:=by
 unfold SU
 rw [List.range_eq_range',o8]
noncomputable def shP (d:D):Bool:=match d with | .tup [.int _,.int s]=>decide (s≠0) | _=>false
noncomputable def shF (g:Int->Int) (d:D):D:=match d with | .tup [.int i,.int s]=>.int (s*g i) | d=>d
theorem qR (g:Int->Int):∀ (S:List Int) (k:Nat),∃ L:List Int,((bS k (S.map D.int)).filter shP).map (shF g)=L.map D.int/\L.sum=sh g k S
 | [],_=>⟨[],rfl,rfl⟩
 | s::S,k=>by
  obtain⟨L,h1,h2⟩:=qR g S (k+1)
  rw [List.map_cons,bS]
  by_cases h:s=0
  ·refine⟨L,?_,?_⟩
   ·rw [List.filter_cons_of_neg (by show ¬ decide (s≠0)=true;simp [h]),h1]
   ·rw [sh,h2,h,Int.zero_mul,Int.zero_add]
  ·refine⟨s*g k::L,?_,?_⟩
   ·rw [List.filter_cons_of_pos (by show decide (s≠0)=true;simp [h]),List.map_cons,h1];rfl
   ·rw [List.sum_cons,h2];rfl
theorem xJ (g:Int->Int):∀ (ws xs:List Int) (k:Nat),gX xs->wS g k ws (xs.map D.int)=sh g k (List.zipWith (λw x=>w*(2*x - 1)) ws xs)
 | [],_,_,_=>by rw [List.zipWith_nil_left,sh];unfold wS;rfl
 | w::ws,[],_,_=>by rw [List.map_nil,List.zipWith_nil_right,sh];unfold wS;rfl
 | w::ws,x::xs,k,h=>by
  have ih:=xJ g ws xs (k+1) λy hy=>h y (List.mem_cons_of_mem _ hy)
  rw [List.zipWith_cons_cons,sh,<-ih]
  show w*(sgD (.int x)*g k)+_=_
  rcases h x List.mem_cons_self with rfl | rfl
  ·show w*(-1*g k)+_=w*(-1)*g k+_
   rw [Int.mul_assoc]
  ·show w*(1*g k)+_=w*1*g k+_
   rw [Int.mul_assoc]
theorem xL {row:List Int} (h:gX row):gX (bcL row):=λx hx=>by
 obtain⟨r,_,rfl⟩:=List.mem_map.mp hx
 exact h.getD _
theorem Ah {row:List Int}{n:Nat} (hn:row.length=n+1):List.zipWith (λw x=>w*(2*x - 1)) (cbL row n) (bcL row)=(List.range (2 ^ n)).map (uR row n):=by
 refine List.ext_getElem (by rw [List.length_zipWith,dW];unfold bcL;simp [hn]) λr h1 h2=>?_
 have hr:r < 2 ^ n:=by simpa using h2
 have hc:r < (cbL row n).length:=by rw [dW];exact hr
 have e1:(cbL row n).getD r 0=(cbL row n)[r]:=by rw [List.getD,List.getElem?_eq_getElem hc];rfl
 have hb:r < (bcL row).length:=by unfold bcL;simp [hn];exact hr
 have e2:(bcL row)[r]=row.getD (pcF 6 r) 0:=by unfold bcL;simp
 rw [List.getElem_zipWith,List.getElem_map,List.getElem_range]
 unfold uR
 rw [e1,e2]
theorem AB {row:List Int}{n:Nat} (h01:gX row) (hn:row.length=n+1) (b:Bool) (t:List Int):wS (aS b t) 0 (cbL row n) ((bcL row).map D.int)=SU (uR row n) n b t:=by
 rw [xJ _ _ _ _ (xL h01),Ah hn,xC]
theorem zu {row:List Int} (n:Nat):((bS 0 ((cbL row n).map D.int)).map λd=>match d with | .tup [.int i,.int w]=>.int (w*(2*row.getD (pcF 6 i.toNat) 0 - 1)) | d=>d)=((List.range (2 ^ n)).map (uR row n)).map D.int:=by
 refine List.ext_getElem? λi=>?_
 rw [List.getElem?_map,d7,List.getElem?_map,List.getElem?_map,List.getElem?_map]
 by_cases hi:i < 2 ^ n
 ·have hc:i < (cbL row n).length:=by rw [dW];exact hi
  have e1:(cbL row n).getD i 0=(cbL row n)[i]:=by rw [List.getD,List.getElem?_eq_getElem hc];rfl
  rw [List.getElem?_eq_getElem hc,List.getElem?_range hi]
  show some (D.int ((cbL row n)[i]*(2*row.getD (pcF 6 ((0+i:Nat):Int).toNat) 0 - 1)))=some (D.int (uR row n i))
  unfold uR
  rw [e1,Nat.zero_add,Int.toNat_natCast]
 ·rw [List.getElem?_eq_none (by rw [dW];lia),List.getElem?_eq_none (by rw [List.length_range];lia)];rfl
theorem rn {e:Int}:∀ (ns:List Int) (m:Int),(e ∈ ns\/e=m)->(∀ x ∈ ns,e<=x)->e<=m->lh ns m=e
 | [],m,h,_,_=>by
  rcases h with h | h
  ·cases h
  ·exact h.symm
 | n::ns,m,h,ha,hm=>by
  have hn:=ha n List.mem_cons_self
  rw [lh]
  refine rn ns _ ?_ (λx hx=>ha x (List.mem_cons_of_mem _ hx)) (by split<;>lia)
  rcases h with h | h
  ·rcases List.mem_cons.mp h with h | h
   ·right;split<;>lia
   ·exact .inl h
  ·right;split<;>lia
theorem uS {ns:List Int}{e:Int} (h:e ∈ ns) (ha:∀ x ∈ ns,e<=x):mB ns none=some e:=by
 cases ns with
 | nil=>cases h
 | cons n r=>
  show some (lh r n)=_
  rw [rn r n (by rcases List.mem_cons.mp h with z | z;exact .inr z;exact .inl z) (λx hx=>ha x (List.mem_cons_of_mem _ hx)) (ha n List.mem_cons_self)]
theorem re:∀ (ns:List Int) (m x:Int),(x ∈ ns\/x<=m)->x<=ig ns m
 | [],m,x,h=>by
  rcases h with h | h
  ·cases h
  ·exact h
 | n::ns,m,x,h=>by
  rw [ig]
  refine re ns _ x ?_
  rcases h with h | h
  ·rcases List.mem_cons.mp h with h | h
   ·right;split<;>lia
   ·exact .inl h
  ·right;split<;>lia
theorem u6 {ns:List Int}{x:Int} (h:x ∈ ns):∃ M,nY ns none=some M/\x<=M:=by
 cases ns with
 | nil=>cases h
 | cons n r=>exact⟨ig r n,rfl,re r n x (by rcases List.mem_cons.mp h with z | z;exact .inr (by lia);exact .inl z)⟩
noncomputable def fE (u:Nat->Int) (n:Nat) (b:Bool) (l:List (List Int)):List Int:=(l.filter λt=>decide (SU u n b t≠0)).map λt=>(t.length:Int)
theorem yK {n:Nat}{t:List Int} (h:Trm n t):(t.length:Int)<=n:=by have:=jd h;lia
theorem oX {u:Nat->Int}{n e:Nat}{b:Bool} (hn:n<=6) (h:Lst u n b e):mB (fE u n b (tlT n n)) none=some (e:Int):=by
 obtain⟨h1,t,t1,t2,t3⟩:=h
 refine uS ?_ λx hx=>?_
 ·unfold fE tlT
  refine List.mem_map.mpr ⟨t,List.mem_filter.mpr ⟨List.mem_filter.mpr ⟨(gJ hn).mpr t1,decide_eq_true (yK t1)⟩,decide_eq_true t3⟩,by rw [t2]⟩
 ·unfold fE tlT at hx
  obtain⟨v,hv,rfl⟩:=List.mem_map.mp hx
  have h4:=List.mem_filter.mp hv
  have h5:=(gJ hn).mp (List.mem_filter.mp h4.1).1
  have h6:=of_decide_eq_true h4.2
  by_cases hlt:v.length < e
  ·exact absurd (h1 v h5 hlt) h6
  ·lia
end Own
end
section
set_option maxHeartbeats 1000000
namespace Own
open PySem L2
theorem iH {a b:Ef}{env:Ev}{st s:Sto}{r:Option (W×Sto)} (h:a env st=some (.d (.bl true),s)) (hb:b env s=r):gE a b env st=r:=by
 subst hb
 show ((a env st).bind λx=>(blW x.1).bind λk=>if k=true then b env x.2 else some (.d (.bl false),x.2))=_
 rw [h];rfl
theorem tX {a:Ef}{env:Ev}{st s:Sto}{k:Bool} (h:a env st=some (.d (.bl k),s)):n8 a env st=some (.d (.bl (!k)),s):=by
 show ((a env st).bind λx=>(blW x.1).map λk=>(W.d (D.bl (!k)),x.2))=_
 rw [h];rfl
theorem mi {a:Ef}{env:Ev}{st s:Sto}{k:Bool} (h:a env st=some (.d (.bl k),s)):nR lX a env st=some (k,s):=by
 show ((a env st).bind λx=>(lX x.2 x.1).map λk=>(k,x.2))=_
 rw [h];rfl
theorem jB {a:Tf}{env:Ev}{st s:Sto}{k:Bool} (h:a env st=some (k,s)):iS a env st=some (!k,s):=by
 show ((a env st).map λr=>(!r.1,r.2))=_
 rw [h];rfl
theorem xI {a b:Tf}{env:Ev}{st s:Sto}{r:Option (Bool×Sto)} (h:a env st=some (false,s)) (hb:b env s=r):uj a b env st=r:=by
 subst hb
 show ((a env st).bind λr=>if r.1=true then some (true,r.2) else b env r.2)=_
 rw [h];rfl
theorem nB {st:Sto} (ds:List D):sq st [.d (.lst (ds.map λ_=>D.bl true))]=some (.bl true):=by
 have e:ds.map (λ_=>D.bl true)=(ds.map λ_=>true).map D.bl:=by rw [List.map_map];rfl
 show ((jj (ds.map λ_=>D.bl true)).map λns=>D.bl (ns.all id))=_
 rw [e,kP]
 show some (D.bl ((ds.map λ_=>true).all id))=_
 have:(ds.map λ_=>true).all id=true:=by rw [List.all_eq_true];intro x hx;obtain⟨_,_,rfl⟩:=List.mem_map.mp hx;rfl
 rw [this]
theorem ge0 {st:Sto}{x:Int} (h:0<=x):dGe st (.d (.int x)) (.d (.int 0))=some (.bl true):=by
 show some (D.bl (decide (0<=x)))=_
 rw [decide_eq_true h]
theorem tE {st:Sto} (x:Int):m_is_whole [.d (.int x)] st=some (.d (.bl true),st):=
 bu (n:=1) (k:=1) (b:=b_is_whole) rfl (bC (iH (aA rfl rfl) (tX (k:=false) (aA rfl rfl))))
theorem rE {st:Sto} (a:Int):dNe st (.d (.int a)) (.d (.int a))=some (.bl false):=by rw [iA,beq_self_eq_true];rfl
theorem qq {st:Sto}{ws:List Int} (hw:∀ x ∈ ws,0<=x) (hl:ws.length<=1000):m_are_amounts [.d (ah ws),.d (.int (ws.length:Int))] st=some (.d (.bl true),st):=by
 have key:lcI (.nm 0) dD gk [none] (ws.map D.int) st=some ((ws.map D.int).map λ_=>D.bl true,st):=dg _ λd hd=>by
  obtain⟨x,hx,rfl⟩:=List.mem_map.mp hd
  exact⟨_,rfl,iH (av rfl (tE x)) (aB rfl rfl (ge0 (hw x hx)))⟩
 have hz:(ws.map D.int).length<=1000000:=by rw [List.length_map];lia
 have e1:=nB (st:=st) (ws.map D.int)
 have e2:=d3 (st:=st) ws
 unfold ah at *
 generalize ws.map D.int=WD at *
 exact bu (n:=2) (k:=2) (b:=b_are_amounts) rfl (au (gC (xI (jB (k:=true) (mi (aA rfl rfl))) (bB (aA rfl e2) rfl (rE _))) rfl) (bC (aA (ar (aY (b4 (d8 rfl) hz key)) rfl) e1)))
theorem qy {st:Sto}{ws xs:List Int} (hw:∀ x ∈ ws,0<=x) (hl:ws.length<=1000) (hx:xs.length=ws.length):m_are_weights [.d (ah xs),.d (ah ws)] st=some (.d (.bl true),st):=by
 have e1:=qq (st:=st) hw hl
 have e2:=d3 (st:=st) xs
 rw [hx] at e2
 have key:lcI (.tp [0,1]) gf gi [none,none] (fg (xs.map D.int) (ws.map D.int)) st=some (((fg (xs.map D.int) (ws.map D.int)).filter λ_=>false).map id,st):=bX _ _ λd hd=>by
  obtain⟨i,hi⟩:=List.mem_iff_getElem?.mp hd
  rw [jc] at hi
  obtain⟨a,ha,hi⟩:=Option.bind_eq_some_iff.mp hi
  obtain⟨c,hc,rfl⟩:=Option.map_eq_some_iff.mp hi
  rw [List.getElem?_map,Option.map_eq_some_iff] at ha
  obtain⟨x,_,rfl⟩:=ha
  exact⟨_,rfl,bB rfl rfl rfl,λh=>nomatch h⟩
 rw [List.filter_eq_nil_iff.mpr λ_ _=>Bool.false_ne_true] at key
 have hz:(fg (xs.map D.int) (ws.map D.int)).length<=1000000:=by rw [i5,List.length_map,List.length_map];lia
 have hzz:kK (ae (iV 0) (ae (iV 1) aj)) [some (.d (ah xs)),some (.d (ah ws))] st=some (fg (xs.map D.int) (ws.map D.int),st):=rfl
 generalize fg (xs.map D.int) (ws.map D.int)=ZZ at *
 unfold ah at *
 generalize ws.map D.int=WD at *
 generalize xs.map D.int=XD at *
 exact bu (n:=2) (k:=2) (b:=b_are_weights) rfl (au (gC (jB (k:=true) (mi (av (ar rfl (ar (aA rfl e2) rfl)) e1))) rfl) (bC (aA (ar (aY (b4 hzz hz key)) rfl) rfl)))
theorem pL {st:Sto}{ws:List Int} (hw:∀ x ∈ ws,0<=x) (hl:ws.length<=1000) (hp:∃ x ∈ ws,0 < x):m__law_are_weights [.d (ah ws),.d (.int (ws.length:Int))] st=some (.d (.bl true),st):=by
 obtain⟨x,hx,x0⟩:=hp
 obtain⟨M,hM,hxM⟩:=u6 hx
 have key:lcI (.nm 0) dD dJ [none] (ws.map D.int) st=some ((ws.map D.int).map λ_=>D.bl true,st):=dg _ λd hd=>by
  obtain⟨x,hx,rfl⟩:=List.mem_map.mp hd
  exact⟨_,rfl,iH (aA rfl rfl) (iH (tX (k:=false) (aA rfl rfl)) (aB rfl rfl (ge0 (hw x hx))))⟩
 have hz:(ws.map D.int).length<=1000000:=by rw [List.length_map];lia
 have e1:=nB (st:=st) (ws.map D.int)
 have e2:=d3 (st:=st) ws
 have e3:wW st [.d (ah ws)]=some (.int M):=by
  show ((bV (ws.map D.int)).bind λns=>(nY ns none).map D.int)=_
  rw [ci,Option.bind_some,hM];rfl
 have e4:dGt st (.d (.int M)) (.d (.int 0))=some (.bl true):=by
  show some (D.bl (decide (0 < M)))=_
  rw [decide_eq_true (by lia)]
 unfold ah at *
 generalize ws.map D.int=WD at *
 exact bu (n:=2) (k:=2) (b:=b__law_are_weights) rfl (au (gC (xI (jB (k:=true) (mi (aA rfl rfl))) (bB (aA rfl e2) rfl (rE _))) rfl) (au (gC (jB (k:=true) (mi (aA (ar (aY (b4 (d8 rfl) hz key)) rfl) e1))) rfl) (bC (aB (aA rfl e3) rfl e4))))
theorem nE {row:List Int}{n:Nat} (hn:row.length=n+1):(bcL row).length=2 ^ n:=by unfold bcL;simp [hn]
theorem zj {row:List Int} (h:gX row):∀ u ∈ (bcL row).map D.int,uU u:=λu hu=>by
 obtain⟨x,hx,rfl⟩:=List.mem_map.mp hu
 rcases xL h x hx with rfl | rfl
 ·exact .inr (.inl rfl)
 ·exact .inr (.inr rfl)
theorem vH {st:Sto}{row:List Int}{n:Nat}{b:Bool}{t:List Int} (h01:gX row) (hn:row.length=n+1) (hn6:n<=6) (ht:Trm n t):m_weighted [.d (ah (bcL row)),.d (.str (bT b)),.d (ah t),.d (ah (cbL row n))] st=some (.d (.int (SU (uR row n) n b t)),st):=by
 have h64:=cO hn6
 have hl:=jd ht
 have h:=pp (st:=st) (fs:=(bcL row).map D.int) (b:=b) (t:=t) (ws:=cbL row n) (by rw [List.length_map,nE hn];lia) (zj h01) (by rw [dW,List.length_map,nE hn]) (xN ht hn6) (by lia)
 rw [AB h01 hn] at h
 exact h
theorem oR {st:Sto}{row:List Int}{n:Nat}{b:Bool}{m:Int} (h01:gX row) (hn:row.length=n+1) (hn6:n<=6) (hv:∀ t,Trm n t->(t.length:Int)<=m->SU (uR row n) n b t=0):m_are_balanced [.d (ah (bcL row)),.d (.str (bT b)),.d (.tup ((tlT n m).map ah)),.d (ah (cbL row n))] st=some (.d (.bl true),st):=by
 have key:lcI (.nm 0) dD ft [none,some (.d (ah (bcL row))),some (.d (.str (bT b))),some (.d (ah (cbL row n)))] ((tlT n m).map ah) st=some (((tlT n m).map ah).map λ_=>D.bl true,st):=dg _ λd hd=>by
  obtain⟨t,ht,rfl⟩:=List.mem_map.mp hd
  have h1:=List.mem_filter.mp ht
  have h2:=(gJ hn6).mp h1.1
  have e:=vH (st:=st) (b:=b) h01 hn hn6 h2
  rw [hv t h2 (of_decide_eq_true h1.2)] at e
  exact⟨_,rfl,aB (av rfl e) rfl (gR _ _ _)⟩
 have hz:((tlT n m).map ah).length<=1000000:=by rw [List.length_map];have:=qz hn6 m;lia
 have e1:=nB (st:=st) ((tlT n m).map ah)
 generalize (tlT n m).map ah=TT at *
 generalize ah (bcL row)=F at *
 generalize ah (cbL row n)=WD at *
 generalize bT b=kd at *
 exact bu (n:=4) (k:=4) (b:=b_are_balanced) rfl (bC (aA (ar (aY (b4 (d8 rfl) hz key)) rfl) e1))
theorem uc {st:Sto}{row:List Int}{n:Nat}{b:Bool}{m:Int} (h01:gX row) (hn:row.length=n+1) (hn6:n<=6) (hv:∀ t,Trm n t->(t.length:Int)<=m->SU (uR row n) n b t=0) (hw:∀ x ∈ cbL row n,0<=x) (hp:∃ x ∈ cbL row n,0 < x):m_is_bar [.d (ah (bcL row)),.d (.str (bT b)),.d (.tup ((tlT n m).map ah)),.d (ah (cbL row n))] st=some (.d (.bl true),st):=by
 have h64:=cO hn6
 have e1:=qy (st:=st) (xs:=bcL row) hw (by rw [dW];lia) (by rw [nE hn,dW])
 have e2:=oR (st:=st) (b:=b) h01 hn hn6 hv
 have e3:zg st [.d (ah (cbL row n))]=some (.bl true):=by
  show ((bV ((cbL row n).map D.int)).map λns=>D.bl (ns.any λn=>decide (n≠0)))=_
  rw [ci]
  obtain⟨x,hx,x0⟩:=hp
  have:((cbL row n).any λn=>decide (n≠0))=true:=List.any_eq_true.mpr ⟨x,hx,decide_eq_true (by lia)⟩
  show some (D.bl _)=_
  rw [this]
 generalize (tlT n m).map ah=TT at *
 generalize ah (bcL row)=F at *
 generalize ah (cbL row n)=WD at *
 generalize bT b=kd at *
 exact bu (n:=4) (k:=4) (b:=b_is_bar) rfl (bC (iH (av rfl e1) (iH (aA rfl e3) (av rfl e2))))
theorem sf (u:Nat->Int) (n:Nat) (b:Bool) (l:List (List Int)) {p:D->Bool}{F:D->D} (hp:∀ t ∈ l,p (ah t)=decide (SU u n b t≠0)) (hF:∀ t ∈ l,F (ah t)=.int (t.length:Int)):((l.map ah).filter p).map F=(fE u n b l).map D.int:=by
 unfold fE
 rw [List.filter_map,List.map_map,List.map_map]
 have e:l.filter (p ∘ ah)=l.filter λt=>decide (SU u n b t≠0):=List.filter_congr λt ht=>hp t ht
 rw [e]
 exact List.map_congr_left λt ht=>hF t (List.mem_filter.mp ht).1
noncomputable def suP (u:Nat->Int) (n:Nat) (b:Bool) (d:D):Bool:=match d with | .tup ds=>(match bV ds with | some t=>decide (SU u n b t≠0) | none=>false) | _=>false
theorem uD (u:Nat->Int) (n:Nat) (b:Bool) (t:List Int):suP u n b (ah t)=decide (SU u n b t≠0):=by
 show (match bV (t.map D.int) with | some t=>decide (SU u n b t≠0) | none=>false)=_
 rw [ci]
theorem oW {st:Sto}{row:List Int}{n e:Nat} (h01:gX row) (hn:row.length=n+1) (hn6:n<=6) (h:Lst (uR row n) n false e):m_barred_to [.d (ah (bcL row)),.d (ah (cbL row n))] st=some (.d (.int (e:Int)),st):=by
 have e1:=pe (st:=st) (nE hn) hn6
 have e2:=pS (st:=st) (n:=(n:Int)) (m:=(n:Int)) (by lia) (by lia) (by lia)
 rw [Int.toNat_natCast] at e2
 have e2':m_terms_to [.d (.int (n:Nat)),.d (.int (n:Nat))] st=some (.d (.tup ((tlT n n).map ah)),st):=e2
 have key:lcI (.nm 0) iq ii [none,some (.d (ah (bcL row))),some (.d (ah (cbL row n)))] ((tlT n n).map ah) st=some ((((tlT n n).map ah).filter (suP (uR row n) n false)).map (λd=>match d with | .tup ds=>.int (ds.length:Int) | d=>d),st):=bX _ _ λd hd=>by
  obtain⟨t,ht,rfl⟩:=List.mem_map.mp hd
  have h2:=(gJ hn6).mp (List.mem_filter.mp ht).1
  have e:=vH (st:=st) (b:=false) h01 hn hn6 h2
  refine⟨_,rfl,?_,λ_=>aA rfl rfl⟩
  rw [uD]
  exact bB (av rfl e) rfl (by rw [iA,kg])
 rw [sf (uR row n) n false (tlT n n) (λt _=>uD _ _ _ t) (λt _=>by
   show D.int (((t.map D.int).length:Nat):Int)=_
   rw [List.length_map])] at key
 have hz:((tlT n n).map ah).length<=1000000:=by rw [List.length_map];have:=qz hn6 n;lia
 have hm:dMi st [.d (.lst ((fE (uR row n) n false (tlT n n)).map D.int))]=some (.int (e:Int)):=by
  show ((bV ((fE (uR row n) n false (tlT n n)).map D.int)).bind λns=>(mB ns none).map D.int)=_
  rw [ci,Option.bind_some,oX hn6 h];rfl
 generalize (fE (uR row n) n false (tlT n n)).map D.int=LL at *
 generalize (tlT n n).map ah=TT at *
 generalize ah (bcL row)=F at *
 generalize ah (cbL row n)=WD at *
 exact bu (n:=3) (k:=2) (b:=b_barred_to) rfl (au (bj (i:=2) (av rfl e1)) (bC (aA (ar (aY (b4 (d8 (av rfl e2')) hz key)) rfl) hm)))
end Own
end
section
set_option maxHeartbeats 1000000
namespace Own
open PySem L2
theorem vm {p:Spo}{Z many fst at_ way k:Int}{rest:Sto}{ds:List D}{y:Option W} (h:okP p Z) (hZ:Z < 900000000) (hf:fst=0\/fst=1) (w0:0<=way) (w1:way < 5) (hl:ds.length < 1000) :
  ∃ x p' y',(x=0\/x=1)/\okP p' (Z+1)/\d4 [some (.h 1),some (.d (.int many)),some (.d (.int fst)),some (.d (.int at_)),some (.d (.int way)),some (.h (rest.length+2)),some (.d (.int k)),y] (spo p (rest++[.l ds])) =
   some (.nx [some (.h 1),some (.d (.int many)),some (.d (.int fst)),some (.d (.int at_)),some (.d (.int way)),some (.h (rest.length+2)),some (.d (.int k)),y'] (spo p' (rest++[.l (ds++[.int x])]))):=by
 obtain⟨r,p',r0,r1,h',e1⟩:=hJ h (by lia) (m:=2) (by decide) (by decide)
 have e2:=e1 (rest++[.l ds])
 obtain⟨b,hb⟩:∃ b:Bool,(decide (k < at_)==(fst==0))=b:=⟨_,rfl⟩
 obtain⟨x,e3,hx⟩:∃ x,atI [D.int r,.int r,.int ((fst+k) % 2),.int (if b=true then 1 else 0),.int fst] way=some (.int x)/\(x=0\/x=1):=by
  have:way=0\/way=1\/way=2\/way=3\/way=4:=by lia
  rcases this with rfl | rfl | rfl | rfl | rfl
  ·exact⟨r,sg _ _,by lia⟩
  ·exact⟨r,At _ _ _,by lia⟩
  ·exact⟨_,z6 _ _ _ _,by lia⟩
  ·exact⟨_,dG (j:=3) rfl,by cases b;exact .inl rfl;exact .inr rfl⟩
  ·exact⟨_,dG (j:=4) rfl,hf⟩
 refine⟨x,p',some (.d (.int r)),hx,h',?_⟩
 have hl':ds.length < 1000000:=by lia
 have sl:=uE p' rest (.l ds)
 simp only [d4,iV,iC,iOp,aj,ae,iCB,aD,eN,aJ,ap,aP,i6,g6,dM,iZ,dN,lsD,dIx,dw,fk,dLt,dEq,dh,eqK,eqD,t7,eP,Option.bind_some,Option.map_some,List.getD_cons_zero,List.getD_cons_succ,List.set_cons_zero,List.set_cons_succ,List.length_cons,List.length_nil,Nat.reduceAdd,if_true,Nat.zero_add,lg,Nat.reduceLeDiff,Int.reduceLT,e2,hb,e3,sl,wA,hl']
theorem yJ {p:Spo}{Z:Int} (rest:Sto) (h:okP p Z) (hZ:Z < 800000000):∃ l p',Row l/\okP p' (Z+20)/\m__law_row [.h 1] (spo p rest)=some (.d (ah l),spo p' rest):=by
 obtain⟨m,p1,m0,m1,h1,e1⟩:=hJ h (by lia) (m:=7) (by decide) (by decide)
 obtain⟨fst,p2,f0,f1,h2,e2⟩:=hJ h1 (by lia) (m:=2) (by decide) (by decide)
 obtain⟨at_,p3,a0,a1,h3,e3⟩:=hJ h2 (by lia) (m:=1+m) (by lia) (by lia)
 obtain⟨way,p4,w0,w1,h4,e4⟩:=hJ h3 (by lia) (m:=5) (by decide) (by decide)
 obtain⟨e',s',hF,p5,l,x,y,rfl,rfl,h5,hv,hl⟩:=cM (g:=.nm 6) (body:=d4) (ds:=bU 0 (1+m).toNat)
  (λi env s=>∃ p l x y,env=[some (.h 1),some (.d (.int (1+m))),some (.d (.int fst)),some (.d (.int at_)),some (.d (.int way)),some (.h (rest.length+2)),x,y]/\s=spo p (rest++[.l (l.map D.int)])/\okP p (Z+4+i)/\gX l/\l.length=i)
  (env:=[some (.h 1),some (.d (.int (1+m))),some (.d (.int fst)),some (.d (.int at_)),some (.d (.int way)),some (.h (rest.length+2)),none,none]) (st:=spo p4 (rest++[.l []]))
  ⟨p4,[],none,none,rfl,rfl,h4.mono (by lia),(λx hx=>nomatch hx),rfl⟩ (by
  rintro i d env s hd ⟨p,l,x,y,rfl,rfl,hp,hv,hl⟩
  obtain⟨rfl,hi⟩:=dj hd
  obtain⟨x,p',y',hx,hp',e⟩:=vm (many:=1+m) (fst:=fst) (at_:=at_) (way:=way) (k:=(i:Int)) (rest:=rest) (ds:=l.map D.int) (y:=y) hp (by lia) (by lia) w0 w1 (by rw [List.length_map];lia)
  refine⟨_,_,_,rfl,.inl e,p',l++[x],_,_,rfl,by rw [List.map_append];rfl,hp'.mono (by push_cast;lia),λz hz=>?_,by simp [hl]⟩
  rcases List.mem_append.mp hz with hz | hz
  ·exact hv z hz
  ·rw [List.mem_singleton.mp hz];exact hx)
 rw [cy] at hl h5
 refine⟨l,p5,⟨hv,by lia,by lia⟩,h5.mono (by lia),?_⟩
 have sl:=uE p5 rest (.l (l.map D.int))
 have e1':=e1 rest
 have e2':=e2 rest
 have e3':=e3 rest
 have e4':=e4 rest
 have hb:-(2 ^ 62)<=1+m/\1+m < 2 ^ 62:=by lia
 clear hl h5
 unfold ah
 generalize l.map D.int=T at hF sl ⊢
 simp only [m__law_row,b__law_row,iV,iC,iOp,aj,ae,iCB,aD,eN,jo,ap,aP,bg,fq,bE,i3,vi,dM,iZ,dN,lsD,dw,hV,Option.bind_some,Option.map_some,List.getD_cons_zero,List.getD_cons_succ,List.set_cons_zero,List.set_cons_succ,List.map_cons,List.map_nil,List.length_cons,List.length_nil,List.replicate_succ,List.replicate_zero,List.cons_append,List.nil_append,Nat.reduceSub,if_true,Nat.zero_add,and_self,qM,lg,Nat.zero_le,e1',e2',e3',e4',hb,hF,sl,wd,ww,uv]
theorem vz {st:Sto}{row:List Int}{n:Nat} (hn:row.length=n+1) (hn6:n<=6) (hd:(aT row).length=0):m_counts_bar [.d (ah row)] st=some (.d .non,st):=by
 have e1:=kr (st:=st) hn hn6
 rw [hd] at e1
 have hlt:=d3 (st:=st) row
 generalize ah row=TR at *
 have hq:=gW (n:=7) (k:=1) (b:=b_counts_bar) (ws:=[.d TR]) (st:=st) (x:=.non) rfl
  (au (bj (i:=1) (aB (d:=.int ((row.length:Int) - 1)) (aA rfl hlt) rfl rfl)) (qW (t8 (bB (av rfl e1) rfl (gR _ _ _)) (bC rfl))))
 rw [List.take_length] at hq
 exact hq
theorem v6 {st:Sto}{u:Nat->Int}{n:Nat}{b:Bool}{t:List Int} (hn6:n<=6) (ht:Trm n t):lcI (.tp [0,1]) db dr [none,none,some (.d (.str (bT b))),some (.d (ah t))] (bS 0 (((List.range (2 ^ n)).map u).map D.int)) st=some (((bS 0 (((List.range (2 ^ n)).map u).map D.int)).filter shP).map (shF (aS b t)),st):=bX _ _ λd hd=>by
 obtain⟨i,hi⟩:=List.mem_iff_getElem?.mp hd
 rw [d7,List.getElem?_map] at hi
 obtain⟨d',hd',rfl⟩:=Option.map_eq_some_iff.mp hi
 obtain⟨s,_,rfl⟩:=Option.map_eq_some_iff.mp hd'
 have hl:=jd ht
 have e:=vF (st:=st) (b:=b) (t:=t) (row:=((0+i:Nat):Int)) (by lia) (xN ht hn6) (by lia)
 have hv:=oz b t ((0+i:Nat):Int)
 refine⟨_,rfl,?_,λ_=>?_⟩
 ·refine bB rfl rfl ?_
  rw [iA,kg];rfl
 ·exact aB rfl (av rfl e) (kD _ ⟨by lia,by lia⟩)
theorem wD {st:Sto}{row:List Int} (h:Row row) {r:Nat} (hr:r < 2 ^ (row.length - 1)):dIx st (.d (ah row)) (.d (.int ((pcF 6 r:Nat):Int)))=some (.int (row.getD (pcF 6 r) 0)):=vh h hr
theorem sO {st:Sto}{row:List Int}{n:Nat} (h01:gX row) (h1:1<=row.length) (h7:row.length<=7) (hn:row.length=n+1) (hn6:n<=6):lcI (.tp [0,1]) dD eB [none,none,some (.d (ah row))] (bS 0 ((cbL row n).map D.int)) st=some (((List.range (2 ^ n)).map (uR row n)).map D.int,st):=by
 have h64:2 ^ n<=64:=cO hn6
 rw [<-zu n]
 refine dg _ λd hd=>?_
 obtain⟨i,hi⟩:=List.mem_iff_getElem?.mp hd
 have hi2:=(List.getElem?_eq_some_iff.mp hi).1
 rw [ed,List.length_map,dW] at hi2
 rw [d7,List.getElem?_map] at hi
 obtain⟨d',hd',rfl⟩:=Option.map_eq_some_iff.mp hi
 obtain⟨w,_,rfl⟩:=Option.map_eq_some_iff.mp hd'
 rw [Nat.zero_add]
 have o:=xF (st:=st) (r:=i) (by lia)
 have g:=wD (st:=st) ⟨h01,h1,h7⟩ (r:=i) (by rw [hn];exact hi2)
 have hb01:=h01.getD (pcF 6 i)
 refine⟨_,rfl,?_⟩
 show _=some (W.d (D.int (w*(2*row.getD (pcF 6 ((i:Nat):Int).toNat) 0 - 1))),st)
 rw [Int.toNat_natCast]
 exact aB rfl (aB (aB rfl (aB rfl (av rfl o) g) (kD _ ⟨by lia,by lia⟩)) rfl rfl) (kD _ ⟨by lia,by lia⟩)
theorem u4 {st:Sto}{u:Nat->Int}{n CH:Nat}{b:Bool}{TR WD:D}{SD:List D} (hn6:n<=6) (hzs:(bS 0 SD).length<=1000000)
  (hsum:∀ (s:Sto) (t:List Int),Trm n t->∃ L,lcI (.tp [0,1]) db dr [none,none,some (.d (.str (bT b))),some (.d (ah t))] (bS 0 SD) s=some (L,s)/\mS s [.d (.lst L)]=some (.int (SU u n b t))) :
  ∃ o7,jZ (.nm 7) de ((tlT n n).map ah) [some (.d TR),some (.d (.str (bT b))),some (.d (.int (n:Nat))),some (.d (.int (CH:Nat))),some (.d WD),some (.d (.lst SD)),some (.h st.length),none,none,none] (st++[.l []])=some (.nx [some (.d TR),some (.d (.str (bT b))),some (.d (.int (n:Nat))),some (.d (.int (CH:Nat))),some (.d WD),some (.d (.lst SD)),some (.h st.length),o7,none,none] (st++[.l ((fE u n b (tlT n n)).map D.int)])):=by
 have tll:=qz hn6 (n:Int)
 obtain⟨env',s',hF,o7,rfl,rfl⟩:=cM (g:=.nm 7) (body:=de) (ds:=(tlT n n).map ah) (λi env s=>∃ o7,env=[some (.d (TR)),some (.d (.str (bT b))),some (.d (.int (n:Nat))),some (.d (.int (CH:Nat))),some (.d (WD)),some (.d (.lst SD)),some (.h st.length),o7,none,none]/\s=st++[.l ((fE (u) n b ((tlT n n).take i)).map D.int)])
  (env:=[some (.d (TR)),some (.d (.str (bT b))),some (.d (.int (n:Nat))),some (.d (.int (CH:Nat))),some (.d (WD)),some (.d (.lst SD)),some (.h st.length),none,none,none]) (st:=st++[.l []]) ⟨none,rfl,rfl⟩ (by
  rintro i d env s hd ⟨o7,rfl,rfl⟩
  rw [List.getElem?_map] at hd
  obtain⟨t,hti,rfl⟩:=Option.map_eq_some_iff.mp hd
  have hi:=(List.getElem?_eq_some_iff.mp hti).1
  have ht:=(gJ hn6).mp (List.mem_filter.mp (List.mem_of_getElem? hti)).1
  obtain⟨L,l1,l2⟩:=hsum (st++[.l ((fE (u) n b ((tlT n n).take i)).map D.int)]) t ht
  have hln:((fE (u) n b ((tlT n n).take i)).map D.int).length < 1000000:=by
   rw [List.length_map]
   unfold fE
   rw [List.length_map]
   have:=List.length_filter_le (λt=>decide (SU (u) n b t≠0)) ((tlT n n).take i)
   rw [List.length_take] at this
   lia
  have htk:fE (u) n b ((tlT n n).take (i+1))=fE (u) n b ((tlT n n).take i)++(if SU (u) n b t≠0 then [(t.length:Int)] else []):=by
   unfold fE
   rw [List.take_add_one,hti,List.filter_append,List.map_append]
   congr 1
   by_cases z:SU (u) n b t≠0
   ·rw [if_pos z];show ([t].filter _).map _=_;rw [List.filter_cons_of_pos (by exact decide_eq_true z)];rfl
   ·rw [if_neg z];show ([t].filter _).map _=_;rw [List.filter_cons_of_neg (by simpa using z)];rfl
  have hlti:=d3 (st:=st++[.l ((fE (u) n b ((tlT n n).take i)).map D.int)]) t
  rw [htk]
  generalize fE (u) n b ((tlT n n).take i)=LL at *
  generalize bT b=kd at *
  by_cases z:SU (u) n b t=0
  ·rw [if_neg (by simpa using z),List.append_nil]
   rw [z] at l2
   exact⟨_,[some (.d TR),some (.d (.str kd)),some (.d (.int (n:Nat))),some (.d (.int (CH:Nat))),some (.d WD),some (.d (.lst SD)),some (.h st.length),some (.d (ah t)),none,none],_,rfl,.inl (gC (bB (aA (ar (aY (b4 rfl hzs l1)) rfl) l2) rfl (by rw [iA];rfl)) rfl),_,rfl,rfl⟩
  ·rw [if_pos z,List.map_append]
   have hne:(!(SU (u) n b t==0))=true:=by simpa using z
   exact⟨_,[some (.d TR),some (.d (.str kd)),some (.d (.int (n:Nat))),some (.d (.int (CH:Nat))),some (.d WD),some (.d (.lst SD)),some (.h st.length),some (.d (ah t)),none,none],_,rfl,.inl (t8 (bB (aA (ar (aY (b4 rfl hzs l1)) rfl) l2) rfl (by rw [iA,hne])) (sS rfl (ar (aA rfl hlti) rfl) hln)),_,rfl,rfl⟩)
 rw [List.length_map,List.take_length] at hF
 exact⟨o7,hF⟩
theorem tm {st:Sto}{row:List Int} (b:Bool) (h:Row row):m__law_right [.d (ah row),.d (.str (bT b))] st=some (.d (.bl true),st):=by
 obtain⟨h01,h1,h7⟩:=h
 obtain⟨n,hn⟩:∃ n,row.length=n+1:=⟨row.length - 1,by lia⟩
 have hn6:n<=6:=by lia
 have h64:2 ^ n<=64:=cO hn6
 have hsub:gI st (.d (.int (row.length:Int))) (.d (.int 1))=some (.int (n:Nat)):=by
  show some (D.int ((row.length:Int) - 1))=_
  rw [show (row.length:Int) - 1=(n:Int) by lia]
 have hlt:=d3 (st:=st) row
 have kE:lcI (.nm 0) er eL [none,some (.d (ah row))] (bU 0 n) st=some (bK (aT row),st):=qV hn rfl rfl
 have hzn:(bU 0 n).length<=1000000:=by rw [cy];lia
 have hle:cj st [.d (.lst (bK (aT row)))]=some (.int ((aT row).length:Nat)):=by
  rw [nh];unfold bK;rw [List.length_map]
 have hrg:∀ env s,iV 2 env s=some (.d (.int (n:Nat)),s)->bE (ae (iV 2) aj) env s=some (bU 0 n,s):=λenv s he=>iG (z:=(n:Int)) he (by lia) (by lia) (by lia)
 by_cases hd:(aT row).length=0
 ·have e1:=vz (st:=st) hn hn6 hd
  rw [hd] at hle
  generalize bK (aT row)=EE at *
  generalize ah row=TR at *
  generalize bT b=kd at *
  have hq:=gW (n:=10) (k:=2) (b:=b__law_right) (ws:=[.d TR,.d (.str kd)]) (st:=st) (x:=.bl true) rfl
   (au (bj (i:=2) (aB (aA rfl hlt) rfl hsub)) (au (bj (i:=3) (aA (ar (aY (b4 (hrg _ _ rfl) hzn kE)) rfl) hle)) (au (bj (i:=4) (av rfl e1)) (qW (t8 (bB rfl rfl (gR _ _ _)) (bC (aB rfl rfl rfl)))))))
  rw [List.take_length] at hq
  exact hq
 have F:=sK h01 hn hn6 hd
 have hnn:=Av F
 obtain⟨r0,hr0,hu0,hp0⟩:=AV h01 hn6 F
 have hpos:∃ x ∈ cbL row n,0 < x:=by
  have hc:r0 < (cbL row n).length:=by rw [dW];exact hr0
  refine⟨(cbL row n)[r0],List.getElem_mem hc,?_⟩
  rw [List.getD,List.getElem?_eq_getElem hc] at hp0
  exact hp0
 have hvan:Van (uR row n) n b (aT row).length:=by
  have hv:=wF hn6 F
  cases b
  ·exact rf hv
  ·exact hv
 obtain⟨e,he⟩:=yD hr0 hu0
 have heb:Lst (uR row n) n b e:=he.any
 have hge:(aT row).length<=e:=by
  obtain⟨_,t,t1,t2,t3⟩:=heb
  by_cases hlt:e < (aT row).length
  ·exact absurd (hvan t t1 (by lia)) t3
  ·lia
 have he6:e<=6:=by
  obtain⟨_,t,t1,t2,_⟩:=heb
  have:=jd t1
  lia
 have e1:=xc (st:=st) hn hn6 hd F.sh (λx hx=>by have:=F.w x hx;lia) (by obtain⟨c,c1,c2⟩:=F.p;exact⟨c,c1,by lia⟩)
 have e2:=pL (st:=st) hnn (by rw [dW];lia) hpos
 rw [dW] at e2
 have k3:=sO (st:=st) h01 h1 h7 hn hn6
 have hz3:(bS 0 ((cbL row n).map D.int)).length<=1000000:=by rw [ed,List.length_map,dW];lia
 have e4:=mD (st:=st++[.l []]) hn6 (n:Int)
 obtain⟨SD,hSD⟩:∃ SD,((List.range (2 ^ n)).map (uR row n)).map D.int=SD:=⟨_,rfl⟩
 have hzs:(bS 0 SD).length<=1000000:=by rw [<-hSD,ed,List.length_map,List.length_map,List.length_range];lia
 have hsum:∀ (s:Sto) (t:List Int),Trm n t->∃ L,lcI (.tp [0,1]) db dr [none,none,some (.d (.str (bT b))),some (.d (ah t))] (bS 0 SD) s=some (L,s)/\mS s [.d (.lst L)]=some (.int (SU (uR row n) n b t)):=λs t ht=>by
  have k:=v6 (st:=s) (u:=uR row n) (b:=b) hn6 ht
  obtain⟨L,l1,l2⟩:=qR (aS b t) ((List.range (2 ^ n)).map (uR row n)) 0
  rw [l1,hSD] at k
  refine⟨_,k,?_⟩
  show ((bV (L.map D.int)).map λns=>D.int ns.sum)=_
  rw [ci,Option.map_some,l2,xC]
 rw [hSD] at k3
 obtain⟨o7,hF⟩:=u4 (st:=st) (CH:=(aT row).length) (TR:=ah row) (WD:=ah (cbL row n)) hn6 hzs hsum
 obtain⟨SZ,hSZ⟩:∃ SZ,st++[C.l ((fE (uR row n) n b (tlT n n)).map D.int)]=SZ:=⟨_,rfl⟩
 have hmi:dMi SZ [.h st.length]=some (.int (e:Int)):=by
  rw [<-hSZ]
  show ((lg (st++[C.l ((fE (uR row n) n b (tlT n n)).map D.int)]) st.length).bind bV).bind (λns=>(mB ns none).map D.int)=_
  rw [kj,Option.bind_some,ci,Option.bind_some,oX hn6 heb];rfl
 have htake:SZ.take st.length=st:=by rw [<-hSZ,nW]
 rw [hSZ] at hF
 have hlt2:dLt SZ (.d (.int (e:Int))) (.d (.int ((aT row).length:Nat)))=some (.bl false):=by
  show some (D.bl (decide ((e:Int) < ((aT row).length:Nat))))=_
  rw [decide_eq_false (by lia)]
 have k8:lcI (.nm 0) dD eG [none,some (.d (ah row))] (bU 0 (2 ^ n)) SZ=some ((bcL row).map D.int,SZ):=by
  have q:=yZ row ((2 ^ n:Nat):Int) (by rw [Int.toNat_natCast,hn];rfl)
  rw [Int.toNat_natCast] at q
  rw [<-q]
  refine dg _ λd hd=>?_
  obtain⟨i,hi'⟩:=List.mem_iff_getElem?.mp hd
  obtain⟨rfl,hi⟩:=dj hi'
  refine⟨_,rfl,aB (x:=.d (ah row)) rfl (av rfl (xF (st:=SZ) (r:=i) (by lia))) ?_⟩
  show atI (row.map D.int) _=some (D.int (row.getD (pcF 6 (i:Int).toNat) 0))
  rw [Int.toNat_natCast]
  exact vh ⟨h01,h1,h7⟩ (by rw [hn];exact hi)
 have hrg8:∀ env s,iV 2 env s=some (.d (.int (n:Nat)),s)->bE (ae (iOp oM (iC (.int 1)) (iV 2)) aj) env s=some (bU 0 (2 ^ n),s):=λenv s he=>iG (z:=((2 ^ n:Nat):Int)) (aB rfl he (tY hn6 s)) (by lia) (by lia) (by lia)
 have hz8:(bU 0 (2 ^ n)).length<=1000000:=by rw [cy];lia
 have e9:=mD (st:=SZ) hn6 (((aT row).length:Nat) - 1:Int)
 have e10:=uc (st:=SZ) (b:=b) (m:=((aT row).length:Nat) - 1) h01 hn hn6 (λt t1 t2=>hvan t t1 (by lia)) hnn hpos
 have e11:=oW (st:=SZ) h01 hn hn6 he
 obtain⟨R,hR⟩:∃ R,jN SZ [.d (.int (e:Int))]=some (.str R):=by
  refine⟨_,if_pos ?_⟩
  have:e=0\/e=1\/e=2\/e=3\/e=4\/e=5\/e=6:=by lia
  rcases this with rfl | rfl | rfl | rfl | rfl | rfl | rfl<;>decide
 have hRR:dEq SZ (.d (.str R)) (.d (.str R))=some (.bl true):=by
  show some (D.bl (R==R))=_
  rw [beq_self_eq_true]
 have hch:(((aT row).length:Int)==0)=false:=by
  rw [beq_eq_false_iff_ne]
  intro z
  exact hd (by lia)
 have hsh:=λs=>tY hn6 s
 have hen:∀ env s,iV 4 env s=some (.d (ah (cbL row n)),s)->gL (ae (iV 4) aj) env s=some (bS 0 ((cbL row n).map D.int),s):=λenv s he=>by
  have:=ar (b:=aj) he rfl
  show ((ae (iV 4) aj env s).bind λr=>match r.1 with | [.d (.tup ds)]=>some (bS 0 ds,r.2) | [.d (.lst ds)]=>some (bS 0 ds,r.2) | _=>none)=_
  rw [this];rfl
 have hbf:∀ s:Sto,hV s [.d (.lst ((bcL row).map D.int))]=some (ah (bcL row)):=λs=>rfl
 clear hSZ hSD hvan heb he hsum F
 generalize bS 0 ((cbL row n).map D.int)=EN at *
 generalize (tlT n (((aT row).length:Nat) - 1:Int)).map ah=T9 at *
 generalize (tlT n n).map ah=TT at *
 generalize ah (bcL row)=FD at *
 generalize (bcL row).map D.int=FL at *
 generalize ah (cbL row n)=WD at *
 generalize bK (aT row)=EE at *
 generalize ah row=TR at *
 generalize bT b=kd at *
 generalize (aT row).length=CH at *
 have t0:gE (iOp zh (aD m_is_bar (ae (iV 8) (ae (iV 1) (ae (iV 9) (ae (iV 4) aj))))) (iC (.bl true))) (iOp dEq (iCB jN (ae (aD m_barred_to (ae (iV 8) (ae (iV 4) aj))) aj)) (iCB jN (ae (iCB dMi (ae (iV 6) aj)) aj))) [some (.d TR),some (.d (.str kd)),some (.d (.int (n:Nat))),some (.d (.int (CH:Nat))),some (.d WD),some (.d (.lst SD)),some (.h st.length),o7,some (.d FD),some (.d (.tup T9))] SZ=some (.d (.bl true),SZ):=
  iH (aB (av rfl e10) rfl rfl) (aB (aA (ar (av rfl e11) rfl) hR) (aA (ar (aA rfl hmi) rfl) hR) hRR)
 have s9:aP (.nm 9) (iCB hV (ae (aD m__law_terms (ae (iV 2) (ae (iOp gI (iV 3) (iC (.int 1))) aj))) aj)) [some (.d TR),some (.d (.str kd)),some (.d (.int (n:Nat))),some (.d (.int (CH:Nat))),some (.d WD),some (.d (.lst SD)),some (.h st.length),o7,some (.d FD),none] SZ=some (.nx [some (.d TR),some (.d (.str kd)),some (.d (.int (n:Nat))),some (.d (.int (CH:Nat))),some (.d WD),some (.d (.lst SD)),some (.h st.length),o7,some (.d FD),some (.d (.tup T9))] SZ):=
  bj (i:=9) (aA (d:=.tup T9) (ar (av (ar rfl (ar (aB rfl rfl rfl) rfl)) e9) rfl) rfl)
 have s8:aP (.nm 8) (iCB hV (ae (aJ (iLc 1 [0] (bE (ae (iOp oM (iC (.int 1)) (iV 2)) aj)) (.nm 0) dD eG)) aj)) [some (.d TR),some (.d (.str kd)),some (.d (.int (n:Nat))),some (.d (.int (CH:Nat))),some (.d WD),some (.d (.lst SD)),some (.h st.length),o7,none,none] SZ=some (.nx [some (.d TR),some (.d (.str kd)),some (.d (.int (n:Nat))),some (.d (.int (CH:Nat))),some (.d WD),some (.d (.lst SD)),some (.h st.length),o7,some (.d FD),none] SZ):=
  bj (i:=8) (aA (ar (aY (b4 (hrg8 _ _ rfl) hz8 k8)) rfl) (hbf _))
 have t1:gz [some (.d TR),some (.d (.str kd)),some (.d (.int (n:Nat))),some (.d (.int (CH:Nat))),some (.d WD),some (.d (.lst SD)),some (.h st.length),o7,none,none] SZ=some (.rt (.d (.bl true)) SZ):=
  au (gC (bB (aA rfl hmi) rfl hlt2) rfl) (au s8 (au s9 (bC t0)))
 have s5:aP (.nm 5) (aJ (iLc 2 [0] (gL (ae (iV 4) aj)) (.tp [0,1]) dD eB)) [some (.d TR),some (.d (.str kd)),some (.d (.int (n:Nat))),some (.d (.int (CH:Nat))),some (.d WD),none,none,none,none,none] st=some (.nx [some (.d TR),some (.d (.str kd)),some (.d (.int (n:Nat))),some (.d (.int (CH:Nat))),some (.d WD),some (.d (.lst SD)),none,none,none,none] st):=
  bj (i:=5) (aY (b4 (hen _ _ rfl) hz3 k3))
 have s6:aP (.nm 6) (jo (eN aj)) [some (.d TR),some (.d (.str kd)),some (.d (.int (n:Nat))),some (.d (.int (CH:Nat))),some (.d WD),some (.d (.lst SD)),none,none,none,none] st=some (.nx [some (.d TR),some (.d (.str kd)),some (.d (.int (n:Nat))),some (.d (.int (CH:Nat))),some (.d WD),some (.d (.lst SD)),some (.h st.length),none,none,none] (st++[.l []])):=rfl
 have s7:fq (bm (aD m__law_terms (ae (iV 2) (ae (iV 2) aj)))) (.nm 7) de [some (.d TR),some (.d (.str kd)),some (.d (.int (n:Nat))),some (.d (.int (CH:Nat))),some (.d WD),some (.d (.lst SD)),some (.h st.length),none,none,none] (st++[.l []])=some (.nx [some (.d TR),some (.d (.str kd)),some (.d (.int (n:Nat))),some (.d (.int (CH:Nat))),some (.d WD),some (.d (.lst SD)),some (.h st.length),o7,none,none] SZ):=
  iT (fG (av rfl e4)) hF
 have t2:gy [some (.d TR),some (.d (.str kd)),some (.d (.int (n:Nat))),some (.d (.int (CH:Nat))),some (.d WD),none,none,none,none,none] st=some (.rt (.d (.bl true)) SZ):=
  au (gC (jB (k:=true) (mi (av (ar rfl (ar (aB rfl rfl (hsh _)) rfl)) e2))) rfl) (au s5 (au s6 (au s7 t1)))
 clear s5 s6 s7 s8 s9 t0 t1
 have q3:aP (.nm 3) (iCB cj (ae (aJ (iLc 1 [0] (bE (ae (iV 2) aj)) (.nm 0) er eL)) aj)) [some (.d TR),some (.d (.str kd)),some (.d (.int (n:Nat))),none,none,none,none,none,none,none] st=some (.nx [some (.d TR),some (.d (.str kd)),some (.d (.int (n:Nat))),some (.d (.int (CH:Nat))),none,none,none,none,none,none] st):=bj (i:=3) (aA (ar (aY (b4 (hrg _ _ rfl) hzn kE)) rfl) hle)
 have q2:aP (.nm 2) (iOp gI (iCB cj (ae (iV 0) aj)) (iC (.int 1))) [some (.d TR),some (.d (.str kd)),none,none,none,none,none,none,none,none] st=some (.nx [some (.d TR),some (.d (.str kd)),some (.d (.int (n:Nat))),none,none,none,none,none,none,none] st):=bj (i:=2) (aB (aA rfl hlt) rfl hsub)
 have q4:aP (.nm 4) (aD m_counts_bar (ae (iV 0) aj)) [some (.d TR),some (.d (.str kd)),some (.d (.int (n:Nat))),some (.d (.int (CH:Nat))),none,none,none,none,none,none] st=some (.nx [some (.d TR),some (.d (.str kd)),some (.d (.int (n:Nat))),some (.d (.int (CH:Nat))),some (.d WD),none,none,none,none,none] st):=bj (i:=4) (av rfl e1)
 have hq:=gW (n:=10) (k:=2) (b:=b__law_right) (ws:=[.d TR,.d (.str kd)]) (st:=st) (s:=SZ) (x:=.bl true) rfl
  (au q2 (au q3 (au q4 (au (gC (bB rfl rfl (by rw [gR,hch])) rfl) t2))))
 rw [htake] at hq
 exact hq
theorem v5 {p:Spo}{Z i:Int}{ns:List Int}{x3:Option W} (h:okP p Z) (hZ:Z < 700000000) :
  ∃ p' y3,okP p' (Z+21)/\nc [some (.d (.scr ns)),some (.h 1),some (.d (.int i)),x3] (spo p [])=some (.nx [some (.d (.scr ns)),some (.h 1),some (.d (.int i)),y3] (spo p' [])):=by
 obtain⟨l,p1,hr,h1,e1⟩:=yJ [] h (by lia)
 obtain⟨r,p2,r0,r1,h2,e2⟩:=hJ h1 (by lia) (m:=2) (by decide) (by decide)
 have e2':=e2 []
 obtain⟨b,hb⟩:∃ b:Bool,∀ s,dIx s (.d (.lst [.str "both",.str "odd"])) (.d (.int r))=some (.str (bT b)):=by
  have:r=0\/r=1:=by lia
  rcases this with rfl | rfl
  ·exact⟨true,λs=>rfl⟩
  ·exact⟨false,λs=>rfl⟩
 have e3:=tm (st:=spo p2 []) b hr
 refine⟨p2,some (.d (ah l)),h2.mono (by lia),?_⟩
 generalize ah l=L at *
 generalize bT b=kd at *
 exact au (e:=[some (.d (.scr ns)),some (.h 1),some (.d (.int i)),some (.d L)]) (bj (i:=3) (av rfl e1)) (gC (jB (k:=true) (mi (av (ar rfl (ar (aB rfl (av rfl e2') (hb _)) rfl)) e3))) rfl)
theorem uK (ns:List Int) (hl:ns.length<=63):∃ st,m_law [.d (.scr ns)] []=some (.d (.bl true),st):=by
 obtain⟨p,hp,e1⟩:=tU ns hl
 obtain⟨e',s',hF,p',x2,x3,rfl,rfl,hp'⟩:=cM (g:=.nm 2) (body:=nc) (ds:=bU 0 3)
  (λi env s=>∃ p x2 x3,env=[some (.d (.scr ns)),some (.h 1),x2,x3]/\s=spo p []/\okP p (21*(i:Int)))
  (env:=[some (.d (.scr ns)),some (.h 1),none,none]) (st:=spo p []) ⟨p,none,none,rfl,rfl,by simpa using hp⟩ (by
  rintro i d env s hd ⟨p,x2,x3,rfl,rfl,hp⟩
  obtain⟨rfl,hi⟩:=dj hd
  obtain⟨p',y3,hp',e⟩:=v5 (i:=(i:Int)) (ns:=ns) (x3:=x3) hp (by lia)
  exact⟨_,_,_,rfl,.inl e,p',_,_,rfl,rfl,hp'.mono (by push_cast;lia)⟩)
 exact⟨[],gW (n:=4) (k:=1) (b:=me) (st:=[]) rfl (au (bj (i:=1) (av rfl e1)) (au (iT rfl hF) (bC rfl)))⟩
end Own
end
namespace Own
open PySem L2
theorem gx {us:List Value} (h:us.length=1):∃ a0,us=[a0]:=List.length_eq_one_iff.mp h
theorem yY {us:List Value}{n:Nat} (h:us.length=n+1):∃ a t,us=a::t/\t.length=n:=by
 cases us with
 | nil=>cases h
 | cons a t=>exact⟨a,t,rfl,Nat.succ.inj h⟩
theorem jV {us:List Value} (h:us.length=2):∃ a0 a1,us=[a0,a1]:=by
 obtain⟨a,t,rfl,k⟩:=yY h
 obtain⟨b,rfl⟩:=gx k
 exact⟨a,b,rfl⟩
theorem v0 {us:List Value} (h:us.length=3):∃ a0 a1 a2,us=[a0,a1,a2]:=by
 obtain⟨a,t,rfl,k⟩:=yY h
 obtain⟨b,c,rfl⟩:=jV k
 exact⟨a,b,c,rfl⟩
theorem wc {us:List Value} (h:us.length=4):∃ a0 a1 a2 a3,us=[a0,a1,a2,a3]:=by
 obtain⟨a,t,rfl,k⟩:=yY h
 obtain⟨b,c,d,rfl⟩:=v0 k
 exact⟨a,b,c,d,rfl⟩
theorem txt_mk {K:PySem.W.Frag}{h:Heap}{mg:Str->Option Value} (X:K.In h) (G:h.Ns mainGlobals mg)
  {f0:Addr}{od0 an0:Option Addr}{sl0:Array (Option Value)}{oc0 kV0 dc0 pm0 cd0 ct0:Value}
  (a0:PySem.W.nsIn K mainGlobals "is_whole" = some (some (.ref f0))) (l0:K.lookup f0=some ⟨oc0,od0,.func (PySem.W.fnOf "is_whole" "is_whole" (az ce) (am ce) (aa ce) .none kV0 dc0 pm0 an0 cd0 ct0),sl0⟩) (c0:PySem.W.codeIn K cd0 "is_whole" = true) (k0:PySem.W.keepIn K (.ref f0)=true)
  {f1:Addr}{od1 an1:Option Addr}{sl1:Array (Option Value)}{oc1 kV1 dc1 pm1 cd1 ct1:Value}
  (a1:PySem.W.nsIn K mainGlobals "are_amounts" = some (some (.ref f1))) (l1:K.lookup f1=some ⟨oc1,od1,.func (PySem.W.fnOf "are_amounts" "are_amounts" (az br) (am br) (aa br) .none kV1 dc1 pm1 an1 cd1 ct1),sl1⟩) (c1:PySem.W.codeIn K cd1 "are_amounts" = true) (k1:PySem.W.keepIn K (.ref f1)=true)
  {f2:Addr}{od2 an2:Option Addr}{sl2:Array (Option Value)}{oc2 kV2 dc2 pm2 cd2 ct2:Value}
  (a2:PySem.W.nsIn K mainGlobals "power_of_two" = some (some (.ref f2))) (l2:K.lookup f2=some ⟨oc2,od2,.func (PySem.W.fnOf "power_of_two" "power_of_two" (az bx) (am bx) (aa bx) .none kV2 dc2 pm2 an2 cd2 ct2),sl2⟩) (c2:PySem.W.codeIn K cd2 "power_of_two" = true) (k2:PySem.W.keepIn K (.ref f2)=true)
  {f3:Addr}{od3 an3:Option Addr}{sl3:Array (Option Value)}{oc3 kV3 dc3 pm3 cd3 ct3:Value}
  (a3:PySem.W.nsIn K mainGlobals "on_in" = some (some (.ref f3))) (l3:K.lookup f3=some ⟨oc3,od3,.func (PySem.W.fnOf "on_in" "on_in" (az dZ) (am dZ) (aa dZ) .none kV3 dc3 pm3 an3 cd3 ct3),sl3⟩) (c3:PySem.W.codeIn K cd3 "on_in" = true) (k3:PySem.W.keepIn K (.ref f3)=true)
  {f4:Addr}{od4 an4:Option Addr}{sl4:Array (Option Value)}{oc4 kV4 dc4 pm4 cd4 ct4:Value}
  (a4:PySem.W.nsIn K mainGlobals "greatest_part" = some (some (.ref f4))) (l4:K.lookup f4=some ⟨oc4,od4,.func (PySem.W.fnOf "greatest_part" "greatest_part" (az bi) (am bi) (aa bi) .none kV4 dc4 pm4 an4 cd4 ct4),sl4⟩) (c4:PySem.W.codeIn K cd4 "greatest_part" = true) (k4:PySem.W.keepIn K (.ref f4)=true)
  {f5:Addr}{od5 an5:Option Addr}{sl5:Array (Option Value)}{oc5 kV5 dc5 pm5 cd5 ct5:Value}
  (a5:PySem.W.nsIn K mainGlobals "lowered" = some (some (.ref f5))) (l5:K.lookup f5=some ⟨oc5,od5,.func (PySem.W.fnOf "lowered" "lowered" (az cp) (am cp) (aa cp) .none kV5 dc5 pm5 an5 cd5 ct5),sl5⟩) (c5:PySem.W.codeIn K cd5 "lowered" = true) (k5:PySem.W.keepIn K (.ref f5)=true)
  {f6:Addr}{od6 an6:Option Addr}{sl6:Array (Option Value)}{oc6 kV6 dc6 pm6 cd6 ct6:Value}
  (a6:PySem.W.nsIn K mainGlobals "how_many_choices" = some (some (.ref f6))) (l6:K.lookup f6=some ⟨oc6,od6,.func (PySem.W.fnOf "how_many_choices" "how_many_choices" (az aM) (am aM) (aa aM) .none kV6 dc6 pm6 an6 cd6 ct6),sl6⟩) (c6:PySem.W.codeIn K cd6 "how_many_choices" = true) (k6:PySem.W.keepIn K (.ref f6)=true)
  {f7:Addr}{od7 an7:Option Addr}{sl7:Array (Option Value)}{oc7 kV7 dc7 pm7 cd7 ct7:Value}
  (a7:PySem.W.nsIn K mainGlobals "multiplied" = some (some (.ref f7))) (l7:K.lookup f7=some ⟨oc7,od7,.func (PySem.W.fnOf "multiplied" "multiplied" (az bL) (am bL) (aa bL) .none kV7 dc7 pm7 an7 cd7 ct7),sl7⟩) (c7:PySem.W.codeIn K cd7 "multiplied" = true) (k7:PySem.W.keepIn K (.ref f7)=true)
  {f8:Addr}{od8 an8:Option Addr}{sl8:Array (Option Value)}{oc8 kV8 dc8 pm8 cd8 ct8:Value}
  (a8:PySem.W.nsIn K mainGlobals "switches_of" = some (some (.ref f8))) (l8:K.lookup f8=some ⟨oc8,od8,.func (PySem.W.fnOf "switches_of" "switches_of" (az bF) (am bF) (aa bF) .none kV8 dc8 pm8 an8 cd8 ct8),sl8⟩) (c8:PySem.W.codeIn K cd8 "switches_of" = true) (k8:PySem.W.keepIn K (.ref f8)=true)
  {f9:Addr}{od9 an9:Option Addr}{sl9:Array (Option Value)}{oc9 kV9 dc9 pm9 cd9 ct9:Value}
  (a9:PySem.W.nsIn K mainGlobals "told_rows" = some (some (.ref f9))) (l9:K.lookup f9=some ⟨oc9,od9,.func (PySem.W.fnOf "told_rows" "told_rows" (az bN) (am bN) (aa bN) .none kV9 dc9 pm9 an9 cd9 ct9),sl9⟩) (c9:PySem.W.codeIn K cd9 "told_rows" = true) (k9:PySem.W.keepIn K (.ref f9)=true)
  {f10:Addr}{od10 an10:Option Addr}{sl10:Array (Option Value)}{oc10 kV10 dc10 pm10 cd10 ct10:Value}
  (a10:PySem.W.nsIn K mainGlobals "sign_at" = some (some (.ref f10))) (l10:K.lookup f10=some ⟨oc10,od10,.func (PySem.W.fnOf "sign_at" "sign_at" (az cC) (am cC) (aa cC) .none kV10 dc10 pm10 an10 cd10 ct10),sl10⟩) (c10:PySem.W.codeIn K cd10 "sign_at" = true) (k10:PySem.W.keepIn K (.ref f10)=true)
  {f11:Addr}{od11 an11:Option Addr}{sl11:Array (Option Value)}{oc11 kV11 dc11 pm11 cd11 ct11:Value}
  (a11:PySem.W.nsIn K mainGlobals "terms_to" = some (some (.ref f11))) (l11:K.lookup f11=some ⟨oc11,od11,.func (PySem.W.fnOf "terms_to" "terms_to" (az b0) (am b0) (aa b0) .none kV11 dc11 pm11 an11 cd11 ct11),sl11⟩) (c11:PySem.W.codeIn K cd11 "terms_to" = true) (k11:PySem.W.keepIn K (.ref f11)=true)
  {f12:Addr}{od12 an12:Option Addr}{sl12:Array (Option Value)}{oc12 kV12 dc12 pm12 cd12 ct12:Value}
  (a12:PySem.W.nsIn K mainGlobals "value_of" = some (some (.ref f12))) (l12:K.lookup f12=some ⟨oc12,od12,.func (PySem.W.fnOf "value_of" "value_of" (az b3) (am b3) (aa b3) .none kV12 dc12 pm12 an12 cd12 ct12),sl12⟩) (c12:PySem.W.codeIn K cd12 "value_of" = true) (k12:PySem.W.keepIn K (.ref f12)=true)
  {f13:Addr}{od13 an13:Option Addr}{sl13:Array (Option Value)}{oc13 kV13 dc13 pm13 cd13 ct13:Value}
  (a13:PySem.W.nsIn K mainGlobals "many_on" = some (some (.ref f13))) (l13:K.lookup f13=some ⟨oc13,od13,.func (PySem.W.fnOf "many_on" "many_on" (az cF) (am cF) (aa cF) .none kV13 dc13 pm13 an13 cd13 ct13),sl13⟩) (c13:PySem.W.codeIn K cd13 "many_on" = true) (k13:PySem.W.keepIn K (.ref f13)=true)
  {f14:Addr}{od14 an14:Option Addr}{sl14:Array (Option Value)}{oc14 kV14 dc14 pm14 cd14 ct14:Value}
  (a14:PySem.W.nsIn K mainGlobals "by_counts" = some (some (.ref f14))) (l14:K.lookup f14=some ⟨oc14,od14,.func (PySem.W.fnOf "by_counts" "by_counts" (az bP) (am bP) (aa bP) .none kV14 dc14 pm14 an14 cd14 ct14),sl14⟩) (c14:PySem.W.codeIn K cd14 "by_counts" = true) (k14:PySem.W.keepIn K (.ref f14)=true)
  {f15:Addr}{od15 an15:Option Addr}{sl15:Array (Option Value)}{oc15 kV15 dc15 pm15 cd15 ct15:Value}
  (a15:PySem.W.nsIn K mainGlobals "ends_of" = some (some (.ref f15))) (l15:K.lookup f15=some ⟨oc15,od15,.func (PySem.W.fnOf "ends_of" "ends_of" (az cn) (am cn) (aa cn) .none kV15 dc15 pm15 an15 cd15 ct15),sl15⟩) (c15:PySem.W.codeIn K cd15 "ends_of" = true) (k15:PySem.W.keepIn K (.ref f15)=true)
  {f16:Addr}{od16 an16:Option Addr}{sl16:Array (Option Value)}{oc16 kV16 dc16 pm16 cd16 ct16:Value}
  (a16:PySem.W.nsIn K mainGlobals "changes_of" = some (some (.ref f16))) (l16:K.lookup f16=some ⟨oc16,od16,.func (PySem.W.fnOf "changes_of" "changes_of" (az bM) (am bM) (aa bM) .none kV16 dc16 pm16 an16 cd16 ct16),sl16⟩) (c16:PySem.W.codeIn K cd16 "changes_of" = true) (k16:PySem.W.keepIn K (.ref f16)=true)
  {f17:Addr}{od17 an17:Option Addr}{sl17:Array (Option Value)}{oc17 kV17 dc17 pm17 cd17 ct17:Value}
  (a17:PySem.W.nsIn K mainGlobals "share_of" = some (some (.ref f17))) (l17:K.lookup f17=some ⟨oc17,od17,.func (PySem.W.fnOf "share_of" "share_of" (az b5) (am b5) (aa b5) .none kV17 dc17 pm17 an17 cd17 ct17),sl17⟩) (c17:PySem.W.codeIn K cd17 "share_of" = true) (k17:PySem.W.keepIn K (.ref f17)=true)
  {f18:Addr}{od18 an18:Option Addr}{sl18:Array (Option Value)}{oc18 kV18 dc18 pm18 cd18 ct18:Value}
  (a18:PySem.W.nsIn K mainGlobals "counts_bar" = some (some (.ref f18))) (l18:K.lookup f18=some ⟨oc18,od18,.func (PySem.W.fnOf "counts_bar" "counts_bar" (az bI) (am bI) (aa bI) .none kV18 dc18 pm18 an18 cd18 ct18),sl18⟩) (c18:PySem.W.codeIn K cd18 "counts_bar" = true) (k18:PySem.W.keepIn K (.ref f18)=true)
  {f19:Addr}{od19 an19:Option Addr}{sl19:Array (Option Value)}{oc19 kV19 dc19 pm19 cd19 ct19:Value}
  (a19:PySem.W.nsIn K mainGlobals "signed_value" = some (some (.ref f19))) (l19:K.lookup f19=some ⟨oc19,od19,.func (PySem.W.fnOf "signed_value" "signed_value" (az bv) (am bv) (aa bv) .none kV19 dc19 pm19 an19 cd19 ct19),sl19⟩) (c19:PySem.W.codeIn K cd19 "signed_value" = true) (k19:PySem.W.keepIn K (.ref f19)=true)
  {f20:Addr}{od20 an20:Option Addr}{sl20:Array (Option Value)}{oc20 kV20 dc20 pm20 cd20 ct20:Value}
  (a20:PySem.W.nsIn K mainGlobals "weighted" = some (some (.ref f20))) (l20:K.lookup f20=some ⟨oc20,od20,.func (PySem.W.fnOf "weighted" "weighted" (az b6) (am b6) (aa b6) .none kV20 dc20 pm20 an20 cd20 ct20),sl20⟩) (c20:PySem.W.codeIn K cd20 "weighted" = true) (k20:PySem.W.keepIn K (.ref f20)=true)
  {f21:Addr}{od21 an21:Option Addr}{sl21:Array (Option Value)}{oc21 kV21 dc21 pm21 cd21 ct21:Value}
  (a21:PySem.W.nsIn K mainGlobals "are_weights" = some (some (.ref f21))) (l21:K.lookup f21=some ⟨oc21,od21,.func (PySem.W.fnOf "are_weights" "are_weights" (az bt) (am bt) (aa bt) .none kV21 dc21 pm21 an21 cd21 ct21),sl21⟩) (c21:PySem.W.codeIn K cd21 "are_weights" = true) (k21:PySem.W.keepIn K (.ref f21)=true)
  {f22:Addr}{od22 an22:Option Addr}{sl22:Array (Option Value)}{oc22 kV22 dc22 pm22 cd22 ct22:Value}
  (a22:PySem.W.nsIn K mainGlobals "are_balanced" = some (some (.ref f22))) (l22:K.lookup f22=some ⟨oc22,od22,.func (PySem.W.fnOf "are_balanced" "are_balanced" (az bf) (am bf) (aa bf) .none kV22 dc22 pm22 an22 cd22 ct22),sl22⟩) (c22:PySem.W.codeIn K cd22 "are_balanced" = true) (k22:PySem.W.keepIn K (.ref f22)=true)
  {f23:Addr}{od23 an23:Option Addr}{sl23:Array (Option Value)}{oc23 kV23 dc23 pm23 cd23 ct23:Value}
  (a23:PySem.W.nsIn K mainGlobals "is_bar" = some (some (.ref f23))) (l23:K.lookup f23=some ⟨oc23,od23,.func (PySem.W.fnOf "is_bar" "is_bar" (az dl) (am dl) (aa dl) .none kV23 dc23 pm23 an23 cd23 ct23),sl23⟩) (c23:PySem.W.codeIn K cd23 "is_bar" = true) (k23:PySem.W.keepIn K (.ref f23)=true)
  {f24:Addr}{od24 an24:Option Addr}{sl24:Array (Option Value)}{oc24 kV24 dc24 pm24 cd24 ct24:Value}
  (a24:PySem.W.nsIn K mainGlobals "barred_to" = some (some (.ref f24))) (l24:K.lookup f24=some ⟨oc24,od24,.func (PySem.W.fnOf "barred_to" "barred_to" (az bQ) (am bQ) (aa bQ) .none kV24 dc24 pm24 an24 cd24 ct24),sl24⟩) (c24:PySem.W.codeIn K cd24 "barred_to" = true) (k24:PySem.W.keepIn K (.ref f24)=true)
  {f25:Addr}{od25 an25:Option Addr}{sl25:Array (Option Value)}{oc25 kV25 dc25 pm25 cd25 ct25:Value}
  (a25:PySem.W.nsIn K mainGlobals "_law_spool" = some (some (.ref f25))) (l25:K.lookup f25=some ⟨oc25,od25,.func (PySem.W.fnOf "_law_spool" "_law_spool" (az bG) (am bG) (aa bG) .none kV25 dc25 pm25 an25 cd25 ct25),sl25⟩) (c25:PySem.W.codeIn K cd25 "_law_spool" = true) (k25:PySem.W.keepIn K (.ref f25)=true)
  {f26:Addr}{od26 an26:Option Addr}{sl26:Array (Option Value)}{oc26 kV26 dc26 pm26 cd26 ct26:Value}
  (a26:PySem.W.nsIn K mainGlobals "_law_take" = some (some (.ref f26))) (l26:K.lookup f26=some ⟨oc26,od26,.func (PySem.W.fnOf "_law_take" "_law_take" (az bY) (am bY) (aa bY) .none kV26 dc26 pm26 an26 cd26 ct26),sl26⟩) (c26:PySem.W.codeIn K cd26 "_law_take" = true) (k26:PySem.W.keepIn K (.ref f26)=true)
  {f27:Addr}{od27 an27:Option Addr}{sl27:Array (Option Value)}{oc27 kV27 dc27 pm27 cd27 ct27:Value}
  (a27:PySem.W.nsIn K mainGlobals "_law_on" = some (some (.ref f27))) (l27:K.lookup f27=some ⟨oc27,od27,.func (PySem.W.fnOf "_law_on" "_law_on" (az cq) (am cq) (aa cq) .none kV27 dc27 pm27 an27 cd27 ct27),sl27⟩) (c27:PySem.W.codeIn K cd27 "_law_on" = true) (k27:PySem.W.keepIn K (.ref f27)=true)
  {f28:Addr}{od28 an28:Option Addr}{sl28:Array (Option Value)}{oc28 kV28 dc28 pm28 cd28 ct28:Value}
  (a28:PySem.W.nsIn K mainGlobals "_law_term" = some (some (.ref f28))) (l28:K.lookup f28=some ⟨oc28,od28,.func (PySem.W.fnOf "_law_term" "_law_term" (az bO) (am bO) (aa bO) .none kV28 dc28 pm28 an28 cd28 ct28),sl28⟩) (c28:PySem.W.codeIn K cd28 "_law_term" = true) (k28:PySem.W.keepIn K (.ref f28)=true)
  {f29:Addr}{od29 an29:Option Addr}{sl29:Array (Option Value)}{oc29 kV29 dc29 pm29 cd29 ct29:Value}
  (a29:PySem.W.nsIn K mainGlobals "_law_terms" = some (some (.ref f29))) (l29:K.lookup f29=some ⟨oc29,od29,.func (PySem.W.fnOf "_law_terms" "_law_terms" (az bh) (am bh) (aa bh) .none kV29 dc29 pm29 an29 cd29 ct29),sl29⟩) (c29:PySem.W.codeIn K cd29 "_law_terms" = true) (k29:PySem.W.keepIn K (.ref f29)=true)
  {f30:Addr}{od30 an30:Option Addr}{sl30:Array (Option Value)}{oc30 kV30 dc30 pm30 cd30 ct30:Value}
  (a30:PySem.W.nsIn K mainGlobals "_law_row" = some (some (.ref f30))) (l30:K.lookup f30=some ⟨oc30,od30,.func (PySem.W.fnOf "_law_row" "_law_row" (az cc) (am cc) (aa cc) .none kV30 dc30 pm30 an30 cd30 ct30),sl30⟩) (c30:PySem.W.codeIn K cd30 "_law_row" = true) (k30:PySem.W.keepIn K (.ref f30)=true)
  {f31:Addr}{od31 an31:Option Addr}{sl31:Array (Option Value)}{oc31 kV31 dc31 pm31 cd31 ct31:Value}
  (a31:PySem.W.nsIn K mainGlobals "_law_are_weights" = some (some (.ref f31))) (l31:K.lookup f31=some ⟨oc31,od31,.func (PySem.W.fnOf "_law_are_weights" "_law_are_weights" (az aI) (am aI) (aa aI) .none kV31 dc31 pm31 an31 cd31 ct31),sl31⟩) (c31:PySem.W.codeIn K cd31 "_law_are_weights" = true) (k31:PySem.W.keepIn K (.ref f31)=true)
  {f32:Addr}{od32 an32:Option Addr}{sl32:Array (Option Value)}{oc32 kV32 dc32 pm32 cd32 ct32:Value}
  (a32:PySem.W.nsIn K mainGlobals "_law_right" = some (some (.ref f32))) (l32:K.lookup f32=some ⟨oc32,od32,.func (PySem.W.fnOf "_law_right" "_law_right" (az aV) (am aV) (aa aV) .none kV32 dc32 pm32 an32 cd32 ct32),sl32⟩) (c32:PySem.W.codeIn K cd32 "_law_right" = true) (k32:PySem.W.keepIn K (.ref f32)=true)
  {f33:Addr}{od33 an33:Option Addr}{sl33:Array (Option Value)}{oc33 kV33 dc33 pm33 cd33 ct33:Value}
  (a33:PySem.W.nsIn K mainGlobals "law" = some (some (.ref f33))) (l33:K.lookup f33=some ⟨oc33,od33,.func (PySem.W.fnOf "law" "law" (az i8) (am i8) (aa i8) .none kV33 dc33 pm33 an33 cd33 ct33),sl33⟩) (c33:PySem.W.codeIn K cd33 "law" = true) (k33:PySem.W.keepIn K (.ref f33)=true)
  (z_abs:PySem.W.nsIn K mainGlobals "abs" = some none)
  (z_all:PySem.W.nsIn K mainGlobals "all" = some none)
  (z_any:PySem.W.nsIn K mainGlobals "any" = some none)
  (z_bool:PySem.W.nsIn K mainGlobals "bool" = some none)
  (z_enumerate:PySem.W.nsIn K mainGlobals "enumerate" = some none)
  (z_int:PySem.W.nsIn K mainGlobals "int" = some none)
  (z_isinstance:PySem.W.nsIn K mainGlobals "isinstance" = some none)
  (z_len:PySem.W.nsIn K mainGlobals "len" = some none)
  (z_max:PySem.W.nsIn K mainGlobals "max" = some none)
  (z_min:PySem.W.nsIn K mainGlobals "min" = some none)
  (z_range:PySem.W.nsIn K mainGlobals "range" = some none)
  (z_repr:PySem.W.nsIn K mainGlobals "repr" = some none)
  (z_sorted:PySem.W.nsIn K mainGlobals "sorted" = some none)
  (z_sum:PySem.W.nsIn K mainGlobals "sum" = some none)
  (z_tuple:PySem.W.nsIn K mainGlobals "tuple" = some none)
  (z_zip:PySem.W.nsIn K mainGlobals "zip" = some none)
  : ∃ t,Txt K mg t/\t.f_law=f33:=by
 have F0:=aU (st:=ce) l0 c0 k0
 have F1:=aU (st:=br) l1 c1 k1
 have F2:=aU (st:=bx) l2 c2 k2
 have F3:=aU (st:=dZ) l3 c3 k3
 have F4:=aU (st:=bi) l4 c4 k4
 have F5:=aU (st:=cp) l5 c5 k5
 have F6:=aU (st:=aM) l6 c6 k6
 have F7:=aU (st:=bL) l7 c7 k7
 have F8:=aU (st:=bF) l8 c8 k8
 have F9:=aU (st:=bN) l9 c9 k9
 have F10:=aU (st:=cC) l10 c10 k10
 have F11:=aU (st:=b0) l11 c11 k11
 have F12:=aU (st:=b3) l12 c12 k12
 have F13:=aU (st:=cF) l13 c13 k13
 have F14:=aU (st:=bP) l14 c14 k14
 have F15:=aU (st:=cn) l15 c15 k15
 have F16:=aU (st:=bM) l16 c16 k16
 have F17:=aU (st:=b5) l17 c17 k17
 have F18:=aU (st:=bI) l18 c18 k18
 have F19:=aU (st:=bv) l19 c19 k19
 have F20:=aU (st:=b6) l20 c20 k20
 have F21:=aU (st:=bt) l21 c21 k21
 have F22:=aU (st:=bf) l22 c22 k22
 have F23:=aU (st:=dl) l23 c23 k23
 have F24:=aU (st:=bQ) l24 c24 k24
 have F25:=aU (st:=bG) l25 c25 k25
 have F26:=aU (st:=bY) l26 c26 k26
 have F27:=aU (st:=cq) l27 c27 k27
 have F28:=aU (st:=bO) l28 c28 k28
 have F29:=aU (st:=bh) l29 c29 k29
 have F30:=aU (st:=cc) l30 c30 k30
 have F31:=aU (st:=aI) l31 c31 k31
 have F32:=aU (st:=aV) l32 c32 k32
 have F33:=aU (st:=i8) l33 c33 k33
 refine⟨⟨f0,_,f1,_,f2,_,f3,_,f4,_,f5,_,f6,_,f7,_,f8,_,f9,_,f10,_,f11,_,f12,_,f13,_,f14,_,f15,_,f16,_,f17,_,f18,_,f19,_,f20,_,f21,_,f22,_,f23,_,f24,_,f25,_,f26,_,f27,_,f28,_,f29,_,f30,_,f31,_,f32,_,f33,_⟩,⟨F0,PySem.W.mg_of X G a0,F0.binds λ_ _ _ _ _ _ us hl=>(by obtain⟨_,rfl⟩:=gx hl;rfl),F1,PySem.W.mg_of X G a1,F1.binds λ_ _ _ _ _ _ us hl=>(by obtain⟨_,_,rfl⟩:=jV hl;rfl),F2,PySem.W.mg_of X G a2,F2.binds λ_ _ _ _ _ _ us hl=>(by obtain⟨_,rfl⟩:=gx hl;rfl),F3,PySem.W.mg_of X G a3,F3.binds λ_ _ _ _ _ _ us hl=>(by obtain⟨_,_,rfl⟩:=jV hl;rfl),F4,PySem.W.mg_of X G a4,F4.binds λ_ _ _ _ _ _ us hl=>(by obtain⟨_,rfl⟩:=gx hl;rfl),F5,PySem.W.mg_of X G a5,F5.binds λ_ _ _ _ _ _ us hl=>(by obtain⟨_,rfl⟩:=gx hl;rfl),F6,PySem.W.mg_of X G a6,F6.binds λ_ _ _ _ _ _ us hl=>(by obtain⟨_,_,rfl⟩:=jV hl;rfl),F7,PySem.W.mg_of X G a7,F7.binds λ_ _ _ _ _ _ us hl=>(by obtain⟨_,rfl⟩:=gx hl;rfl),F8,PySem.W.mg_of X G a8,F8.binds λ_ _ _ _ _ _ us hl=>(by obtain⟨_,rfl⟩:=gx hl;rfl),F9,PySem.W.mg_of X G a9,F9.binds λ_ _ _ _ _ _ us hl=>(by obtain⟨_,rfl⟩:=gx hl;rfl),F10,PySem.W.mg_of X G a10,F10.binds λ_ _ _ _ _ _ us hl=>(by obtain⟨_,_,rfl⟩:=jV hl;rfl),F11,PySem.W.mg_of X G a11,F11.binds λ_ _ _ _ _ _ us hl=>(by obtain⟨_,_,rfl⟩:=jV hl;rfl),F12,PySem.W.mg_of X G a12,F12.binds λ_ _ _ _ _ _ us hl=>(by obtain⟨_,_,_,rfl⟩:=v0 hl;rfl),F13,PySem.W.mg_of X G a13,F13.binds λ_ _ _ _ _ _ us hl=>(by obtain⟨_,rfl⟩:=gx hl;rfl),F14,PySem.W.mg_of X G a14,F14.binds λ_ _ _ _ _ _ us hl=>(by obtain⟨_,rfl⟩:=gx hl;rfl),F15,PySem.W.mg_of X G a15,F15.binds λ_ _ _ _ _ _ us hl=>(by obtain⟨_,rfl⟩:=gx hl;rfl),F16,PySem.W.mg_of X G a16,F16.binds λ_ _ _ _ _ _ us hl=>(by obtain⟨_,rfl⟩:=gx hl;rfl),F17,PySem.W.mg_of X G a17,F17.binds λ_ _ _ _ _ _ us hl=>(by obtain⟨_,_,_,rfl⟩:=v0 hl;rfl),F18,PySem.W.mg_of X G a18,F18.binds λ_ _ _ _ _ _ us hl=>(by obtain⟨_,rfl⟩:=gx hl;rfl),F19,PySem.W.mg_of X G a19,F19.binds λ_ _ _ _ _ _ us hl=>(by obtain⟨_,_,_,_,rfl⟩:=wc hl;rfl),F20,PySem.W.mg_of X G a20,F20.binds λ_ _ _ _ _ _ us hl=>(by obtain⟨_,_,_,_,rfl⟩:=wc hl;rfl),F21,PySem.W.mg_of X G a21,F21.binds λ_ _ _ _ _ _ us hl=>(by obtain⟨_,_,rfl⟩:=jV hl;rfl),F22,PySem.W.mg_of X G a22,F22.binds λ_ _ _ _ _ _ us hl=>(by obtain⟨_,_,_,_,rfl⟩:=wc hl;rfl),F23,PySem.W.mg_of X G a23,F23.binds λ_ _ _ _ _ _ us hl=>(by obtain⟨_,_,_,_,rfl⟩:=wc hl;rfl),F24,PySem.W.mg_of X G a24,F24.binds λ_ _ _ _ _ _ us hl=>(by obtain⟨_,_,rfl⟩:=jV hl;rfl),F25,PySem.W.mg_of X G a25,F25.binds λ_ _ _ _ _ _ us hl=>(by obtain⟨_,rfl⟩:=gx hl;rfl),F26,PySem.W.mg_of X G a26,F26.binds λ_ _ _ _ _ _ us hl=>(by obtain⟨_,_,rfl⟩:=jV hl;rfl),F27,PySem.W.mg_of X G a27,F27.binds λ_ _ _ _ _ _ us hl=>(by obtain⟨_,rfl⟩:=gx hl;rfl),F28,PySem.W.mg_of X G a28,F28.binds λ_ _ _ _ _ _ us hl=>(by obtain⟨_,_,_,rfl⟩:=v0 hl;rfl),F29,PySem.W.mg_of X G a29,F29.binds λ_ _ _ _ _ _ us hl=>(by obtain⟨_,_,rfl⟩:=jV hl;rfl),F30,PySem.W.mg_of X G a30,F30.binds λ_ _ _ _ _ _ us hl=>(by obtain⟨_,rfl⟩:=gx hl;rfl),F31,PySem.W.mg_of X G a31,F31.binds λ_ _ _ _ _ _ us hl=>(by obtain⟨_,_,rfl⟩:=jV hl;rfl),F32,PySem.W.mg_of X G a32,F32.binds λ_ _ _ _ _ _ us hl=>(by obtain⟨_,_,rfl⟩:=jV hl;rfl),F33,PySem.W.mg_of X G a33,F33.binds λ_ _ _ _ _ _ us hl=>(by obtain⟨_,rfl⟩:=gx hl;rfl),PySem.W.mg_none_of X G z_abs,PySem.W.mg_none_of X G z_all,PySem.W.mg_none_of X G z_any,PySem.W.mg_none_of X G z_bool,PySem.W.mg_none_of X G z_enumerate,PySem.W.mg_none_of X G z_int,PySem.W.mg_none_of X G z_isinstance,PySem.W.mg_none_of X G z_len,PySem.W.mg_none_of X G z_max,PySem.W.mg_none_of X G z_min,PySem.W.mg_none_of X G z_range,PySem.W.mg_none_of X G z_repr,PySem.W.mg_none_of X G z_sorted,PySem.W.mg_none_of X G z_sum,PySem.W.mg_none_of X G z_tuple,PySem.W.mg_none_of X G z_zip⟩,rfl⟩
theorem txt_ex {K:PySem.W.Frag}{mg:Str->Option Value}{f:Addr} (h:∃ t,Txt K mg t/\t.f_law=f):∃ t,Txt K mg t:=let ⟨t,a,_⟩:=h;⟨t,a⟩
theorem walk {l:PySem.W.OpenLaw}{q:Program}{loose:List Str}{XP:(Str->Option Value)->Heap->Prop}{YP:World->Heap->Prop}{d:DefRec}{K:Params->PySem.W.Frag} (hn:l.most=some 63) (hdf:d.params.defaults=[])
  (hY:∀ (w:World) (h:Heap),YP w h->(K w.params).In h)
  (F:∀ (w:World) (mg:Str->Option Value) (fa:Addr) (h:Heap),(K w.params).In h->h.Ns mainGlobals mg->mg d.name=some (.ref fa)->
    ∃ fd:FuncData,(∀ (s:Shared) (u:Value),BindsTo s fd ⟨[u],[]⟩ [("_law_script",u)])/\∀ base:Heap,(K w.params).In base->base.Ns mainGlobals mg->aL l.prog w (K w.params) mg base CX0 9 fa fd ["_law_script"] (spI (K w.params) m_law)) :
  PySem.W.WalkO q loose XP YP l.row.toRowW d [] (λf vs=>PySem.call f vs):=
 L2.walk_of (n:=63) (k:=9) (x:="_law_script") (CX:=λ_=>CX0) (sp:=λw=>spI (K w.params) m_law) hn (by decide) hdf ⟨rfl,by decide,by decide,rfl⟩ hY F (λ_ _ a ns hl hO hS=>vZ hO hS (uK ns hl)) λ_ _ _ _ _ z=>z
theorem law_mk {l:PySem.W.OpenLaw}{w:World}{K:PySem.W.Frag}{h:Heap}{mg:Str->Option Value}{fa:Addr} (hfa:mg "law" = some (.ref fa)) (T0:∃ t,Txt K mg t) :
  ∃ fd:FuncData,(∀ (s:Shared) (v:Value),BindsTo s fd ⟨[v],[]⟩ [("_law_script",v)])/\∀ base:Heap,K.In base->base.Ns mainGlobals mg->aL l.prog w K mg base CX0 9 fa fd ["_law_script"] (spI K m_law):=by
 obtain⟨t,T⟩:=T0
 have e:=hfa.symm.trans T.m_law
 cases e
 refine⟨t.fd_law,λs v=>?_,λbase _ _=>zl T⟩
 obtain⟨oc,od,kV,doc,pm,an,cdv,ct,osl,e,_⟩:=T.F_law.ex
 rw [e]
 exact .of_eq rfl
end Own
open PySem PySem.W PyProof.Rows
set_option maxRecDepth 100000 in
set_option maxHeartbeats 0 in
theorem PySem.Challenge.cw_signpoly_k60_weights_by_counts_holds : PySem.Challenge.rw_signpoly_k60_weights_by_counts.Holds := by
 w_on;o_law;k_head;(case hw=>w_witness2)
 k_fill
 refine Own.walk (l:=PySem.Challenge.rw_signpoly_k60_weights_by_counts) rfl rfl (λw h Y=>PySem.W.kIn_of Y) ?F
 case F=>
  intro w mg fa h KX G hmg
  refine Own.law_mk (h:=h) hmg ?T
  case T=>
   refine' Own.txt_ex (Own.txt_mk KX G ?a0 ?l0 ?c0 ?k0 ?a1 ?l1 ?c1 ?k1 ?a2 ?l2 ?c2 ?k2 ?a3 ?l3 ?c3 ?k3 ?a4 ?l4 ?c4 ?k4 ?a5 ?l5 ?c5 ?k5 ?a6 ?l6 ?c6 ?k6 ?a7 ?l7 ?c7 ?k7 ?a8 ?l8 ?c8 ?k8 ?a9 ?l9 ?c9 ?k9 ?a10 ?l10 ?c10 ?k10 ?a11 ?l11 ?c11 ?k11 ?a12 ?l12 ?c12 ?k12 ?a13 ?l13 ?c13 ?k13 ?a14 ?l14 ?c14 ?k14 ?a15 ?l15 ?c15 ?k15 ?a16 ?l16 ?c16 ?k16 ?a17 ?l17 ?c17 ?k17 ?a18 ?l18 ?c18 ?k18 ?a19 ?l19 ?c19 ?k19 ?a20 ?l20 ?c20 ?k20 ?a21 ?l21 ?c21 ?k21 ?a22 ?l22 ?c22 ?k22 ?a23 ?l23 ?c23 ?k23 ?a24 ?l24 ?c24 ?k24 ?a25 ?l25 ?c25 ?k25 ?a26 ?l26 ?c26 ?k26 ?a27 ?l27 ?c27 ?k27 ?a28 ?l28 ?c28 ?k28 ?a29 ?l29 ?c29 ?k29 ?a30 ?l30 ?c30 ?k30 ?a31 ?l31 ?c31 ?k31 ?a32 ?l32 ?c32 ?k32 ?a33 ?l33 ?c33 ?k33 ?z_abs ?z_all ?z_any ?z_bool ?z_enumerate ?z_int ?z_isinstance ?z_len ?z_max ?z_min ?z_range ?z_repr ?z_sorted ?z_sum ?z_tuple ?z_zip)
   (case a0=>k_is)
   (case l0=>k_is)
   (case c0=>k_is)
   (case k0=>k_is)
   (case a1=>k_is)
   (case l1=>k_is)
   (case c1=>k_is)
   (case k1=>k_is)
   (case a2=>k_is)
   (case l2=>k_is)
   (case c2=>k_is)
   (case k2=>k_is)
   (case a3=>k_is)
   (case l3=>k_is)
   (case c3=>k_is)
   (case k3=>k_is)
   (case a4=>k_is)
   (case l4=>k_is)
   (case c4=>k_is)
   (case k4=>k_is)
   (case a5=>k_is)
   (case l5=>k_is)
   (case c5=>k_is)
   (case k5=>k_is)
   (case a6=>k_is)
   (case l6=>k_is)
   (case c6=>k_is)
   (case k6=>k_is)
   (case a7=>k_is)
   (case l7=>k_is)
   (case c7=>k_is)
   (case k7=>k_is)
   (case a8=>k_is)
   (case l8=>k_is)
   (case c8=>k_is)
   (case k8=>k_is)
   (case a9=>k_is)
   (case l9=>k_is)
   (case c9=>k_is)
   (case k9=>k_is)
   (case a10=>k_is)
   (case l10=>k_is)
   (case c10=>k_is)
   (case k10=>k_is)
   (case a11=>k_is)
   (case l11=>k_is)
   (case c11=>k_is)
   (case k11=>k_is)
   (case a12=>k_is)
   (case l12=>k_is)
   (case c12=>k_is)
   (case k12=>k_is)
   (case a13=>k_is)
   (case l13=>k_is)
   (case c13=>k_is)
   (case k13=>k_is)
   (case a14=>k_is)
   (case l14=>k_is)
   (case c14=>k_is)
   (case k14=>k_is)
   (case a15=>k_is)
   (case l15=>k_is)
   (case c15=>k_is)
   (case k15=>k_is)
   (case a16=>k_is)
   (case l16=>k_is)
   (case c16=>k_is)
   (case k16=>k_is)
   (case a17=>k_is)
   (case l17=>k_is)
   (case c17=>k_is)
   (case k17=>k_is)
   (case a18=>k_is)
   (case l18=>k_is)
   (case c18=>k_is)
   (case k18=>k_is)
   (case a19=>k_is)
   (case l19=>k_is)
   (case c19=>k_is)
   (case k19=>k_is)
   (case a20=>k_is)
   (case l20=>k_is)
   (case c20=>k_is)
   (case k20=>k_is)
   (case a21=>k_is)
   (case l21=>k_is)
   (case c21=>k_is)
   (case k21=>k_is)
   (case a22=>k_is)
   (case l22=>k_is)
   (case c22=>k_is)
   (case k22=>k_is)
   (case a23=>k_is)
   (case l23=>k_is)
   (case c23=>k_is)
   (case k23=>k_is)
   (case a24=>k_is)
   (case l24=>k_is)
   (case c24=>k_is)
   (case k24=>k_is)
   (case a25=>k_is)
   (case l25=>k_is)
   (case c25=>k_is)
   (case k25=>k_is)
   (case a26=>k_is)
   (case l26=>k_is)
   (case c26=>k_is)
   (case k26=>k_is)
   (case a27=>k_is)
   (case l27=>k_is)
   (case c27=>k_is)
   (case k27=>k_is)
   (case a28=>k_is)
   (case l28=>k_is)
   (case c28=>k_is)
   (case k28=>k_is)
   (case a29=>k_is)
   (case l29=>k_is)
   (case c29=>k_is)
   (case k29=>k_is)
   (case a30=>k_is)
   (case l30=>k_is)
   (case c30=>k_is)
   (case k30=>k_is)
   (case a31=>k_is)
   (case l31=>k_is)
   (case c31=>k_is)
   (case k31=>k_is)
   (case a32=>k_is)
   (case l32=>k_is)
   (case c32=>k_is)
   (case k32=>k_is)
   (case a33=>k_is)
   (case l33=>k_is)
   (case c33=>k_is)
   (case k33=>k_is)
   (case z_abs=>k_is)
   (case z_all=>k_is)
   (case z_any=>k_is)
   (case z_bool=>k_is)
   (case z_enumerate=>k_is)
   (case z_int=>k_is)
   (case z_isinstance=>k_is)
   (case z_len=>k_is)
   (case z_max=>k_is)
   (case z_min=>k_is)
   (case z_range=>k_is)
   (case z_repr=>k_is)
   (case z_sorted=>k_is)
   (case z_sum=>k_is)
   (case z_tuple=>k_is)
   (case z_zip=>k_is)
