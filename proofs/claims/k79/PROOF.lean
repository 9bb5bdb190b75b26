import PyProof.Rows.All
import Wide.All
import OpenK.AllK
import Wide.FinOn
import Lean
import PyProof.EqAt
import PyProof.EqKinds
import PyProof.TupleCall
import PyProof.ListRange
import PyProof.NeKinds
import KE.KUnpack
import KE.KSortTup
import PyProof.ZipIter
import PyProof.Rows.CallKwBuiltin
import KE.KDictLaws
import KE.KDictList
import PyProof.SetKind
import PyProof.SetRoads
import PyProof.Rows.SetFrom
import PyProof.WalksMore
import KE.KIntText
import KE.KDictOf
import PyProof.AttrMissSeq
import PyProof.TupleIter
import PySem.Challenge.RW_signpoly_k79_polynomials_written
set_option Elab.async false
set_option linter.all false
set_option maxRecDepth 100000
set_option genSizeOf false
noncomputable section
namespace L2
open PySem PySem.Spec PyProof.Rows
abbrev Key:=Sum Int Str
noncomputable def kP:Key->Value->Bool
 | .inl k,v=>Value.isInt k v
 | .inr x,v=>Value.isStrOf x v
noncomputable def zT (w:World):Key->Int
 | .inl k=>hashInt k
 | .inr x=>hashStr w x
theorem bn:∀ {k:Key}{v:Value},kP k v=true->(∃ i t,k=Sum.inl i/\v=Value.int i t)\/(∃ x t,k=Sum.inr x/\v=Value.str x t)
 | .inl i,v,h=>by
  obtain⟨t,e⟩:=Value.isInt_shape (k:=i) (v:=v) h
  exact .inl ⟨i,t,rfl,e⟩
 | .inr x,v,h=>by
  obtain⟨t,e⟩:=Value.isStrOf_shape (x:=x) (v:=v) h
  exact .inr ⟨x,t,rfl,e⟩
theorem p7 (i:Int) (t:Tok):kP (.inl i) (.int i t)=true:=by simp [kP,Value.isInt]
theorem qk (x:Str) (t:Tok):kP (.inr x) (.str x t)=true:=by simp [kP,Value.isStrOf]
theorem wq (a b:Int):decide ((Sum.inl a:Key)=Sum.inl b)=(a==b):=by
 by_cases e:a=b
 ·subst e;simp
 ·have h:¬ (Sum.inl a:Key)=Sum.inl b:=λq=>e (Sum.inl.inj q)
  rw [decide_eq_false h]
  exact (beq_eq_false_iff_ne.mpr e).symm
theorem ww (a b:Str):decide ((Sum.inr a:Key)=Sum.inr b)=decide (a=b):=by
 by_cases e:a=b
 ·subst e;simp
 ·have h:¬ (Sum.inr a:Key)=Sum.inr b:=λq=>e (Sum.inr.inj q)
  rw [decide_eq_false h,decide_eq_false e]
theorem xk (a:Int) (b:Str):decide ((Sum.inl a:Key)=Sum.inr b)=false:=decide_eq_false (λq=>nomatch q)
theorem xo (a:Str) (b:Int):decide ((Sum.inr a:Key)=Sum.inl b)=false:=decide_eq_false (λq=>nomatch q)
noncomputable def bR (prog:Program) (w:World):PySem.KeyKind prog w Key where
 is:=kP
 hash:=zT w
 inj:=λv a b ha hb=>by
  rcases bn ha with⟨i,t,rfl,rfl⟩ | ⟨x,t,rfl,rfl⟩
  ·rcases bn hb with⟨j,u,rfl,e⟩ | ⟨y,u,rfl,e⟩
   ·injection e with e1 _;rw [e1]
   ·exact nomatch e
  ·rcases bn hb with⟨j,u,rfl,e⟩ | ⟨y,u,rfl,e⟩
   ·exact nomatch e
   ·injection e with e1 _;rw [e1]
 byValue:=λk v h=>by
  rcases bn h with⟨i,t,rfl,rfl⟩ | ⟨x,t,rfl,rfl⟩<;>rfl
 pyHash:=λhv h=>by
  rcases bn hv with⟨i,t,rfl,rfl⟩ | ⟨x,t,rfl,rfl⟩
  ·exact wpAny_pyHash_int h
  ·exact wpAny_pyHash_str h
 eqBool:=λhu hv h=>by
  rcases bn hu with⟨i,t,rfl,rfl⟩ | ⟨x,t,rfl,rfl⟩
  ·rcases bn hv with⟨j,u,rfl,rfl⟩ | ⟨y,u,rfl,rfl⟩
   ·rw [wq] at h;exact wpAny_eqBool_int h
   ·rw [xk] at h;exact SeqAt.EqAt.int_str i t y u _ _ _ _ h
  ·rcases bn hv with⟨j,u,rfl,rfl⟩ | ⟨y,u,rfl,rfl⟩
   ·rw [xo] at h;exact SeqAt.EqAt.str_int x t j u _ _ _ _ h
   ·rw [ww] at h;exact wpAny_eqBool_str h
 «strs»:=λk x t v h=>by
  rcases bn h with⟨i,u,rfl,e⟩ | ⟨y,u,rfl,e⟩
  ·exact nomatch e
  ·injection e with e1 _
   subst e1
   cases v<;>rfl
theorem mU (prog:Program) (w:World) (i:Int) (t:Tok):(bR prog w).is (.inl i) (.int i t)=true:=p7 i t
theorem nq (prog:Program) (w:World) (x:Str) (t:Tok):(bR prog w).is (.inr x) (.str x t)=true:=qk x t
end L2
namespace L2
open PySem PySem.Spec PyProof.Rows
inductive V where
 | non | bl (b:Bool) | int (i:Int) | str (x:Str) | byt (b:Array UInt8) | flt (b:UInt64) | ref (a:Addr) | ty (n:String)
 deriving DecidableEq
noncomputable def az:V->Value->Prop
 | .non,u=>u=Value.none
 | .bl b,u=>u=Value.bool b
 | .int i,u=>∃ t,u=Value.int i t
 | .str x,u=>∃ t,u=Value.str x t
 | .byt b,u=>∃ t,u=Value.bytes b t
 | .flt b,u=>∃ t,u=Value.float b t
 | .ref a,u=>u=Value.ref a
 | .ty n,u=>u=Value.type n
abbrev aA:List V->List Value->Prop:=Paired az
theorem aA.length {xs:List V}{us:List Value} (r:aA xs us):xs.length=us.length:=Paired.length r
theorem aA.get:∀ {xs:List V}{us:List Value}{i:Nat}{x:V},aA xs us->xs[i]?=some x->∃ u,us[i]?=some u/\az x u
 | _,_,_,_,.nil,e=>by simp at e
 | _,_,0,_,.cons r _,e=>by simp at e;subst e;exact⟨_,rfl,r⟩
 | _,_,i+1,x,.cons _ t,e=>by
  obtain⟨u,h1,h2⟩:=aA.get (i:=i) (x:=x) t (by simpa using e)
  exact⟨u,by simpa using h1,h2⟩
theorem aA.set {x:V}{u:Value} (r:az x u):∀ {xs:List V}{us:List Value} (i:Nat),aA xs us->aA (xs.set i x) (us.set i u)
 | _,_,_,.nil=>.nil
 | _,_,0,.cons _ t=>.cons r t
 | _,_,i+1,.cons q t=>.cons q (aA.set r i t)
theorem aA.append:∀ {xs ys:List V}{us ws:List Value},aA xs us->aA ys ws->aA (xs++ys) (us++ws)
 | _,_,_,_,.nil,s=>s
 | _,_,_,_,.cons r t,s=>.cons r (aA.append t s)
theorem aA.take:∀ {xs:List V}{us:List Value} (n:Nat),aA xs us->aA (xs.take n) (us.take n)
 | _,_,0,_=>.nil
 | _,_,_+1,.nil=>.nil
 | _,_,n+1,.cons r t=>.cons r (aA.take n t)
theorem aA.drop:∀ {xs:List V}{us:List Value} (n:Nat),aA xs us->aA (xs.drop n) (us.drop n)
 | _,_,0,r=>r
 | _,_,_+1,.nil=>.nil
 | _,_,n+1,.cons _ t=>aA.drop n t
noncomputable def jJ:Option V->Option Value->Prop
 | some v,some u=>az v u
 | none,none=>True
 | _,_=>False
noncomputable def KV {κ:Type}:List (κ×V)->List (κ×Value)->Prop:=Paired λ(p:κ×V) (q:κ×Value)=>p.1=q.1/\az p.2 q.2
noncomputable def kV:Key->V
 | .inl i=>.int i
 | .inr x=>.str x
inductive HO where
 | lst (xs:List V)
 | tup (xs:List V)
 | dK (kvs:List (Key×V)) | dT (kvs:List (List Key×V))
 | set (S:Int->Bool) (n:Nat)
 | ins (C dx:Addr) (fs:List (Str×V))
 | own (x:Addr)
 | xd (fs:List (Str×V))
 | met (f x:Addr)
 | rng (lo hi:Int)
 | frz (o:Obj) (u:HO)
 | tbl (ps:Array Value)
 | ext (φ:Heap->Prop)
abbrev Hp:=Addr->Option HO
noncomputable def upd (H:Hp) (a:Addr) (o:HO):Hp:=λb=>if b=a then some o else H b
theorem aW {H:Hp}{a:Addr}{o:HO}:upd H a o a=some o:=by unfold upd;rw [if_pos rfl]
theorem bb {H:Hp}{a b:Addr}{o:HO} (h:b≠a):upd H a o b=H b:=by unfold upd;rw [if_neg h]
theorem yt {H:Hp}{a b:Addr}{o u:HO} (h:H a=some o) (h':H b=some u) (d:o≠u):a≠b:=by
 intro e;subst e;rw [h] at h';exact d (Option.some.inj h')
theorem bi {H:Hp}{a b:Addr}{o:HO} (h:H a=some o) (h':H b=none):a≠b:=by
 intro e;subst e;rw [h] at h';cases h'
noncomputable def eO (h:Heap) (a:Addr) (its:Array Value):Prop:=∃ o:Obj,h.get? a=some o/\o.cls=.type "tuple"/\(∃ n,o.data=.seq its n)/\o.dict=none
theorem eO.tup {h:Heap}{a:Addr}{its:Array Value} (x:eO h a its):IsTup h a its:=let ⟨o,e,c,n,_⟩:=x;⟨o,e,c,n⟩
theorem eO.new (h:Heap) (its:Array Value):eO (h.push { cls:=.type "tuple",data:=.seq its }) h.objs.size its:=⟨_,Heap.get?_push_size _ rfl,rfl,⟨_,rfl⟩,rfl⟩
section
variable (P:Program) (w:World)
noncomputable def bw (H:Hp) (h:Heap) (a:Addr):HO->Prop
 | .lst xs=>xs.length<=sizeLine/\∃ (its:List Value) (n:Nat),aA xs its/\h.get? a=some { cls:=.type "list",data:=.seq its.toArray n }
 | .tup xs=>xs.length<=sizeLine/\∃ its:List Value,aA xs its/\eO h a its.toArray
 | .dK kvs=>kvs.length<=sizeLine/\(a==sysModules)=false/\∃ vs,KV kvs vs/\h.DictOf (bR P w) a vs
 | .dT kvs=>kvs.length<=sizeLine/\(a==sysModules)=false/\∃ xs:List (List Key×Addr×Value),
   Paired (λ(p:List Key×V) (q:List Key×Addr×Value)=>p.1=q.1/\H q.2.1=some (.tup (p.1.map kV))/\az p.2 q.2.2) kvs xs/\
   ∃ o es ep,h.get? a=some o/\o.ExactDict/\o.data=.dict es ep/\es.toList=xs.map (entryOfKey (tupleKind (bR P w)))/\(xs.map (·.1)).Nodup
 | .set S n=>h.SetOf (intKind P w) a S n
 | .ins C dx fs=>H dx=some (.own a)/\fs.length<=1000/\dx≠a/\h.get? a=some (PySem.W.instObj C dx)/\
   ∃ mA,h.Ns1 dx mA/\(∀ f,jJ (fs.lookup f) (mA f))/\PySem.Within mA (fs.map (·.1))
 | .own _=>∃ o,h.get? a=some o
 | .xd fs=>∃ mA,h.Ns1 a mA/\∀ f,jJ (fs.lookup f) (mA f)
 | .rng lo hi=>∃ t u v,h.get? a=some { cls:=.type "range",data:=.fields #[.int lo t,.int hi u,.int 1 v] }
 | .frz o u=>h.get? a=some o/\bw H h a u
 | .tbl ps=>h.get? a=some { cls:=.none,data:=.fields ps }
 | .met f x=>h.get? a=some (PySem.W.methodObj (.ref f) (.ref x))
 | .ext φ=>φ h/\(∃ o,h.get? a=some o)/\∀ h1 h2:Heap,φ h1->(∀ o,h1.get? a=some o->h2.get? a=some o)->φ h2
noncomputable def HOk (H:Hp) (h:Heap):Prop:=∀ a o,H a=some o->bw P w H h a o
end
section
variable {P:Program}{w:World}{H H':Hp}{h h':Heap}{a:Addr}{o:HO}
theorem bw.lt (x:bw P w H h a o):a < h.objs.size:=by
 cases o with
 | lst xs=>obtain⟨_,_,_,_,e⟩:=x;exact Heap.lt_size e
 | tup xs=>obtain⟨_,_,_,p⟩:=x;exact p.tup.lt
 | dK kvs=>obtain⟨_,_,_,_,o,_,_,e,_⟩:=x;exact Heap.lt_size e
 | dT kvs=>obtain⟨_,_,_,_,o,_,_,e,_⟩:=x;exact Heap.lt_size e
 | set S n=>obtain⟨o,_,_,_,e,_⟩:=x;exact Heap.lt_size e
 | ins C dx fs=>obtain⟨_,_,_,e,_⟩:=x;exact Heap.lt_size e
 | own y=>obtain⟨_,e⟩:=x;exact Heap.lt_size e
 | xd fs=>obtain⟨_,⟨_,_,_,e,_⟩,_⟩:=x;exact Heap.lt_size e
 | rng lo hi=>obtain⟨_,_,_,e⟩:=x;exact Heap.lt_size e
 | frz ob u=>obtain⟨e,_⟩:=x;exact Heap.lt_size e
 | tbl ps=>exact Heap.lt_size (show h.get? a=some _ from x)
 | met f y=>exact Heap.lt_size (show h.get? a=some _ from x)
 | ext φ=>obtain⟨_,⟨_,e⟩,_⟩:=x;exact Heap.lt_size e
theorem Paired.mapP {α β:Type}{F G:α->β->Prop}:∀ {l₁:List α}{l₂:List β},Paired F l₁ l₂->(∀ a b,F a b->G a b)->Paired G l₁ l₂
 | _,_,.nil,_=>.nil
 | _,_,.cons r t,f=>.cons (f _ _ r) (Paired.mapP t f)
theorem bw.stay (x:bw P w H h a o) (k:∀ b u,(b=a\/H b=some (.own a))->h.get? b=some u->h'.get? b=some u)
  (ho:∀ b,H b=some (.own a)->H' b=some (.own a)) (ht:∀ b xs,H b=some (.tup xs)->H' b=some (.tup xs)):bw P w H' h' a o:=by
 induction o with
 | lst xs=>obtain⟨z,its,n,r,e⟩:=x;exact⟨z,its,n,r,k _ _ (.inl rfl) e⟩
 | tup xs=>obtain⟨z,its,r,ob,e,c⟩:=x;exact⟨z,its,r,ob,k _ _ (.inl rfl) e,c⟩
 | dK kvs=>obtain⟨z,y,vs,r,ob,es,ep,e,c⟩:=x;exact⟨z,y,vs,r,ob,es,ep,k _ _ (.inl rfl) e,c⟩
 | dT kvs=>
  obtain⟨z,y,xs,r,ob,es,ep,e,c⟩:=x
  exact⟨z,y,xs,Paired.mapP r λp q z=>⟨z.1,ht _ _ z.2.1,z.2.2⟩,ob,es,ep,k _ _ (.inl rfl) e,c⟩
 | set S n=>obtain⟨ob,es,ep,t,e,c⟩:=x;exact⟨ob,es,ep,t,k _ _ (.inl rfl) e,c⟩
 | ins C dx fs=>
  obtain⟨d,z,ne,e,mA,⟨od,es,ep,e2,c⟩,r⟩:=x
  exact⟨ho _ d,z,ne,k _ _ (.inl rfl) e,mA,⟨od,es,ep,k _ _ (.inr d) e2,c⟩,r⟩
 | own y=>obtain⟨ob,e⟩:=x;exact⟨ob,k _ _ (.inl rfl) e⟩
 | xd fs=>obtain⟨mA,⟨od,es,ep,e,c⟩,r⟩:=x;exact⟨mA,⟨od,es,ep,k _ _ (.inl rfl) e,c⟩,r⟩
 | rng lo hi=>obtain⟨t,u,v,e⟩:=x;exact⟨t,u,v,k _ _ (.inl rfl) e⟩
 | frz ob u ih=>obtain⟨e,q⟩:=x;exact⟨k _ _ (.inl rfl) e,ih q⟩
 | tbl ps=>
  have e:h.get? a=some { cls:=.none,data:=.fields ps }:=x
  show h'.get? a=some { cls:=.none,data:=.fields ps }
  exact k a _ (.inl rfl) e
 | met f y=>
  have e:h.get? a=some (PySem.W.methodObj (.ref f) (.ref y)):=x
  show h'.get? a=some (PySem.W.methodObj (.ref f) (.ref y))
  exact k a _ (.inl rfl) e
 | ext φ=>obtain⟨p,⟨o,e⟩,st⟩:=x;exact⟨st _ _ p λo q=>k _ _ (.inl rfl) q,⟨o,k _ _ (.inl rfl) e⟩,st⟩
theorem HOk.lt (x:HOk P w H h) (e:H a=some o):a < h.objs.size:=(x a o e).lt
theorem HOk.fresh (x:HOk P w H h) (e:h.objs.size<=a):H a=none:=by
 cases q:H a with
 | none=>rfl
 | some u=>exact absurd (Nat.lt_of_lt_of_le (x.lt q) e) (Nat.lt_irrefl _)
theorem HOk.kept (x:HOk P w H h) (k:∀ b u,h.get? b=some u->h'.get? b=some u):HOk P w H h':=λa o e=>
 (x a o e).stay (λb u _ q=>k b u q) (λ_ q=>q) λ_ _ q=>q
theorem HOk.laid (x:HOk P w H h) (k:∀ b u,h.get? b=some u->h'.get? b=some u) (hp:h.objs.size<=a) (new:bw P w (upd H a o) h' a o):HOk P w (upd H a o) h':=λb u e=>by
 have hn:=x.fresh hp
 by_cases hb:b=a
 ·subst hb;rw [aW] at e;cases e;exact new
 ·rw [bb hb] at e
  exact (x b u e).stay (λc v _ q=>k c v q) (λc q=>by rw [bb (bi q hn)];exact q) λc xs q=>by rw [bb (bi q hn)];exact q
end
noncomputable def Rd (H:Hp) (a:Addr) (u:HO):Prop:=H a=some u\/∃ o,H a=some (.frz o u)
theorem Rd.of {H:Hp}{a:Addr}{u:HO} (h:H a=some u):Rd H a u:=.inl h
theorem Rd.ok {P:Program}{w:World}{H:Hp}{h:Heap}{a:Addr}{u:HO} (r:Rd H a u) (x:HOk P w H h):bw P w H h a u:=by
 rcases r with r | ⟨o,r⟩
 ·exact x a u r
 ·obtain⟨_,q⟩:=x a _ r
  exact q
noncomputable def Mut:Option HO->Prop
 | some (.lst _)=>True
 | some (.dK _)=>True
 | some (.dT _)=>True
 | some (.set _ _)=>True
 | some (.ins _ _ _)=>True
 | some (.ext _)=>True
 | _=>False
section
variable {P:Program}{w:World}{H:Hp}{h h':Heap}{x e:Addr}{o':HO}
theorem HOk.write (ok:HOk P w H h) (mu:Mut (H x)) (he:e=x\/H e=some (.own x)) (k:∀ b u,b≠e->h.get? b=some u->h'.get? b=some u) (heo:∃ u,h'.get? e=some u)
  (new:bw P w (upd H x o') h' x o'):HOk P w (upd H x o') h':=λb u q=>by
 have nown:∀ c y,H c=some (.own y)->c≠x:=λc y r z=>by subst z;rw [r] at mu;exact mu
 have ntup:∀ c xs,H c=some (.tup xs)->c≠x:=λc xs r z=>by subst z;rw [r] at mu;exact mu
 by_cases hb:b=x
 ·subst hb;rw [aW] at q;cases q;exact new
 ·rw [bb hb] at q
  by_cases hbe:b=e
  ·have q':H b=some (.own x):=by
    rcases he with z | z
    ·exact absurd (hbe.trans z) hb
    ·rw [hbe];exact z
   rw [q] at q';cases q'
   obtain⟨v,hv⟩:=heo
   exact⟨v,by rw [hbe];exact hv⟩
  ·refine (ok b u q).stay (λc v hc r=>k c v ?_ r) (λc r=>by rw [bb (nown c b r)];exact r) λc xs r=>by rw [bb (ntup c xs r)];exact r
   rcases hc with rfl | hc
   ·exact hbe
   ·rintro rfl
    rcases he with z | z
    ·exact nown c b hc z
    ·rw [hc] at z;cases z;exact hb rfl
end
structure Un (fs ex:List Addr) (H H':Hp) (h h':Heap):Prop where
 keep:∀ b o,h.get? b=some o->H b=none->b ∉ fs->b ∉ ex->h'.get? b=some o
 slot:∀ b o,h.get? b=some o->H b=none->b ∈ fs->b ∉ ex->∃ sl,h'.get? b=some { o with slots:=sl }
 free:∀ b o,h.get? b=some o->H b=none->b ∉ ex->H' b=none
 there:∀ b o,h.get? b=some o->b ∉ ex->∃ o',h'.get? b=some o'
 tups:∀ b xs,H b=some (.tup xs)->H' b=some (.tup xs)
 frzs:∀ b o u,H b=some (.frz o u)->H' b=some (.frz o u)
 tbls:∀ b ps,H b=some (.tbl ps)->∃ more,H' b=some (.tbl (ps++more))
section
variable {fs fs' ex ex':List Addr}{H H1 H2:Hp}{h h1 h2 h':Heap}{a x e:Addr}{o:HO}
theorem Un.any (u:Un fs ex H H1 h h1) {b:Addr}{ob:Obj} (q:h.get? b=some ob) (n:H b=none) (hx:b ∉ ex):∃ sl,h1.get? b=some { ob with slots:=sl }:=by
 by_cases hb:b ∈ fs
 ·exact u.slot b ob q n hb hx
 ·exact⟨ob.slots,u.keep b ob q n hb hx⟩
theorem Un.kept (k:∀ b u,h.get? b=some u->h'.get? b=some u):Un fs ex H H h h':=
 ⟨λb ob q _ _ _=>k b ob q,λb ob q _ _ _=>⟨ob.slots,k b ob q⟩,λ_ _ _ n _=>n,λb ob q _=>⟨ob,k b ob q⟩,λ_ _ q=>q,λ_ _ _ q=>q,λ_ ps q=>⟨#[],by rw [q];simp⟩⟩
theorem Un.refl:Un fs ex H H h h:=Un.kept λ_ _ q=>q
theorem Un.laid (k:∀ b u,h.get? b=some u->h'.get? b=some u) (hp:h.objs.size<=a) (hn:H a=none):Un fs ex H (upd H a o) h h' where
 keep:=λb u q _ _ _=>k b u q
 slot:=λb u q _ _ _=>⟨u.slots,k b u q⟩
 free:=λb u q n _=>by rw [bb (Nat.ne_of_lt (Nat.lt_of_lt_of_le (Heap.lt_size q) hp))];exact n
 there:=λb u q _=>⟨u,k b u q⟩
 tups:=λb xs q=>by rw [bb (bi q hn)];exact q
 frzs:=λb u xs q=>by rw [bb (bi q hn)];exact q
 tbls:=λb ps q=>⟨#[],by rw [bb (bi q hn),q];simp⟩
theorem Un.write (mu:Mut (H x)) (he:e=x\/H e=some (.own x)) (k:∀ b u,b≠e->h.get? b=some u->h'.get? b=some u) (heo:∃ u,h'.get? e=some u):Un fs ex H (upd H x o) h h':=by
 have hx:∀ b,H b=none->b≠x:=λb n z=>by subst z;rw [n] at mu;exact mu
 have hb:∀ b,H b=none->b≠e:=λb n z=>by
  subst z
  rcases he with r | r
  ·exact hx b n r
  ·rw [n] at r;cases r
 have hm:∀ b u,H b=some u->¬ Mut (some u)->b≠x:=λb u q nm z=>by subst z;rw [q] at mu;exact nm mu
 refine⟨λb u q n _ _=>k b u (hb b n) q,λb u q n _ _=>⟨u.slots,k b u (hb b n) q⟩,λb u q n _=>by rw [bb (hx b n)];exact n,λb u q _=>?_,
  λb xs q=>by rw [bb (hm b _ q λz=>z)];exact q,λb u xs q=>by rw [bb (hm b _ q λz=>z)];exact q,λb ps q=>⟨#[],by rw [bb (hm b _ q λz=>z),q];simp⟩⟩
 by_cases hbe:b=e
 ·subst hbe;exact heo
 ·exact⟨u,k b u hbe q⟩
end
noncomputable def trk (h:Heap) (H:Hp):List Addr:=(List.range h.objs.size).filter λa=>(H a).isSome
noncomputable def mq (h:Heap) (H:Hp):Heap:=PySem.W.hideAll h (trk h H)
theorem qC (h:Heap) (H:Hp):(mq h H).objs.size=h.objs.size:=PySem.W.hideAll_size _ _
theorem sL {h:Heap}{H:Hp}{b:Addr}{o:Obj} (e:h.get? b=some o) (n:H b=none):(mq h H).get? b=some o:=
 PySem.W.hideAll_get _ e λhm=>by
  have q:(H b).isSome=true:=(List.mem_filter.mp hm).2
  rw [n] at q;simp at q
theorem tJ {h:Heap}{H:Hp}{b:Addr}{o:Obj} (e:(mq h H).get? b=some o):h.get? b=some o/\H b=none:=by
 have e':h.get? b=some o:=PySem.W.of_hideAll (trk h H) e
 refine⟨e',?_⟩
 cases q:H b with
 | none=>rfl
 | some x=>
  have hm:b ∈ trk h H:=List.mem_filter.mpr ⟨List.mem_range.mpr (Heap.lt_size e'),by simp [q]⟩
  have z:(mq h H).get? b=none:=PySem.W.hideAll_none (trk h H) hm
  rw [z] at e;cases e
end L2
namespace L2
open PySem PySem.Spec PyProof.Rows
structure Mod (K:PySem.W.Frag) (mg:Str->Option Value) (base:Heap):Prop where
 kin:K.In base
 glob:base.Ns mainGlobals mg
 blt:∃ mb,base.Ns builtinsNs mb/\∀ x:Str,x≠"__name__"->mb x=bootBuiltins x
 nolimit:base.NoLimit
structure Cx where
 prog:Program
 w:World
 K:PySem.W.Frag
 mg:Str->Option Value
 base:Heap
 A:Around
 N:List Str
 s₀:Shared
 H₀:Hp
 env:Env
 outer:List Env
 stack:List Env
 ex:List Addr
 fn:Str->Bool
 calm:Bool
 pn:List (Addr×Obj)
 xe:Value->Shared->Prop
noncomputable def frs (l:List Env):List Addr:=l.filterMap (·.frame)
abbrev Cx.fs (X:Cx):List Addr:=frs X.outer
noncomputable def Vis (sc:Scope) (x:Str):Prop:=sc.names.lookup x=some .local\/sc.names.lookup x=some .cell\/sc.names.lookup x=some .free
noncomputable def Loc (sc:Scope) (x:Str):Prop:=sc.names.lookup x=some .local\/sc.names.lookup x=some .cell
noncomputable def zB (env:Env) (h:Heap) (m:Str->Option Value) (x:Str) (u:Value):Prop:=
 (env.kindOf x=some .local/\m x=some u)\/((env.kindOf x=some .cell\/env.kindOf x=some .free)/\∃ c,env.cells.lookup x=some c/\h.IsCell c (some u))
structure Cx.Ok (X:Cx):Prop where
 mod:Mod X.K X.mg X.base
 kind:X.env.scope.kind=.function
 glob:X.env.globals=mainGlobals
 blt:X.env.builtins=builtinsNs
 above:X.s₀.heap.objs.size<=X.env.locals
 inj:∀ x y c,X.env.cells.lookup x=some c->X.env.cells.lookup y=some c->x=y
 has:∀ x,(X.env.kindOf x=some .cell\/X.env.kindOf x=some .free)->∃ c,X.env.cells.lookup x=some c
 cab:∀ x c,X.fn x=true->X.env.cells.lookup x=some c->X.s₀.heap.objs.size<=c
 hd:X.calm=true->X.A.handled=none
 frames:X.A.frames=some X.stack
 stk:X.stack=X.outer\/(X.stack=X.env::X.outer/\X.env.frame=some X.env.locals)
 exf:∀ b ∈ X.ex,b≠X.env.locals/\∀ x c,X.env.cells.lookup x=some c->c≠b
 bs:∀ b o,X.base.get? b=some o->X.s₀.heap.get? b=some o/\X.H₀ b=none
 bsz:X.base.objs.size<=X.s₀.heap.objs.size
 noex:∀ b o,X.base.get? b=some o->b ∉ X.ex
 exfs:∀ b ∈ X.ex,b ∉ X.fs
 funs:X.s₀.heap.FunFrames X.base X.outer
 frf:∀ b ∈ X.fs,X.H₀ b=none
structure Inv (X:Cx) (pins:List (Addr×Obj)) (σ:List (Option V)) (H:Hp) (s:Shared):Prop where
 ok:X.Ok
 os:s.os=X.s₀.os
 bare:AllBare s.gens
 base:Un X.fs X.ex X.H₀ H X.s₀.heap s.heap
 loc:∃ m,s.heap.Ns X.env.locals m/\∀ (i:Nat) (x:Str) (v:V),X.N[i]?=some x->σ[i]?=some (some v)->Vis X.env.scope x->∃ u,az v u/\zB X.env s.heap m x u
 cell:∀ x c,X.env.cells.lookup x=some c->∃ v,s.heap.IsCell c v
 free:H X.env.locals=none
 freeC:∀ x c,X.env.cells.lookup x=some c->H c=none
 pin:∀ p ∈ X.pn++pins,s.heap.get? p.1=some p.2/\H p.1=none/\p.1≠X.env.locals/\p.1 ∉ X.fs/\∀ v,p.2.data≠.cell v
 hok:HOk X.prog X.w H s.heap
 len:σ.length=X.N.length
section
variable {X:Cx}{pins:List (Addr×Obj)}{σ:List (Option V)}{H H':Hp}{s:Shared}{h':Heap}
theorem Cx.Ok.nofr (ok:X.Ok) {b:Addr}{o:Obj} (e:X.base.get? b=some o):b ∉ X.fs:=λhb=>by
 have:=(ok.funs.mem hb).1
 rw [e] at this;cases this
theorem Inv.bs (I:Inv X pins σ H s):∀ b o,X.base.get? b=some o->s.heap.get? b=some o/\H b=none:=λb o e=>
 ⟨I.base.keep b o (I.ok.bs b o e).1 (I.ok.bs b o e).2 (I.ok.nofr e) (I.ok.noex b o e),I.base.free b o (I.ok.bs b o e).1 (I.ok.bs b o e).2 (I.ok.noex b o e)⟩
theorem Inv.bk (I:Inv X pins σ H s):∀ b o,X.base.get? b=some o->s.heap.get? b=some o:=λb o e=>(I.bs b o e).1
theorem Inv.mod (I:Inv X pins σ H s):Mod X.K X.mg X.base:=I.ok.mod
theorem Inv.kIn (I:Inv X pins σ H s):X.K.In s.heap:=I.ok.mod.kin.keeps I.bk
theorem Inv.fr (I:Inv X pins σ H s):∃ m,Fr X.base X.env.locals s.heap m:=
 let ⟨m,hn,_⟩:=I.loc
 ⟨m,hn,I.bk,Nat.le_trans I.ok.bsz I.ok.above⟩
theorem Inv.lt (I:Inv X pins σ H s):X.env.locals < s.heap.objs.size:=let ⟨_,hn,_⟩:=I.loc;hn.lt
theorem Inv.sz (I:Inv X pins σ H s):X.s₀.heap.objs.size<=s.heap.objs.size:=Nat.le_trans I.ok.above (Nat.le_of_lt I.lt)
theorem Inv.nofs (I:Inv X pins σ H s) {a:Addr} (h:s.heap.objs.size<=a):a ∉ X.fs:=λhb=>by
 obtain⟨_,o,ho,_⟩:=I.ok.funs.mem hb
 exact absurd (Nat.lt_of_lt_of_le (Heap.lt_size ho) (Nat.le_trans I.sz h)) (Nat.lt_irrefl _)
theorem Inv.cne (I:Inv X pins σ H s):∀ x c,X.env.cells.lookup x=some c->c≠X.env.locals:=λx c e z=>by
 obtain⟨v,o,ho,hd⟩:=I.cell x c e
 obtain⟨m,⟨o',es,ep,ho',hd',_⟩,_⟩:=I.loc
 rw [z,ho'] at ho;cases ho;rw [hd'] at hd;cases hd
theorem Inv.funs (I:Inv X pins σ H s):s.heap.FunFrames X.base X.outer:=by
 have all:∀ (l:List Env),(∀ b ∈ frs l,b ∈ X.fs)->X.s₀.heap.FunFrames X.base l->s.heap.FunFrames X.base l:=by
  intro l
  induction l with
  | nil=>intro _ _;trivial
  | cons env r ih=>
   intro hs hl
   obtain⟨hk,⟨L,o,hf,hn,ho,hd⟩,hr⟩:=hl
   have hL:L ∈ X.fs:=hs L (by unfold frs;rw [List.filterMap_cons,hf];exact List.mem_cons_self)
   obtain⟨sl,e⟩:=I.base.slot L o ho (I.ok.frf L hL) hL λz=>I.ok.exfs L z hL
   exact⟨hk,⟨L,_,hf,hn,e,hd⟩,ih (λb hb=>hs b (by unfold frs;rw [List.filterMap_cons,hf];exact List.mem_cons_of_mem _ hb)) hr⟩
 exact all X.outer (λ_ hb=>hb) I.ok.funs
theorem Inv.stack (I:Inv X pins σ H s):s.heap.FunFrames X.base X.stack:=by
 rcases I.ok.stk with e | ⟨e,hf⟩
 ·rw [e];exact I.funs
 ·rw [e]
  obtain⟨m,hn,_⟩:=I.loc
  refine .cons (by rw [I.ok.kind];decide) hf hn ?_ I.funs
  exact Heap.get?_none_of_le (Nat.le_trans I.ok.bsz I.ok.above)
theorem Inv.stkSub (I:Inv X pins σ H s):∀ b ∈ frs X.stack,b ∈ X.env.locals::X.fs:=λb hb=>by
 rcases I.ok.stk with e | ⟨e,hf⟩
 ·rw [e] at hb;exact List.mem_cons_of_mem _ hb
 ·rw [e] at hb
  unfold frs at hb
  rw [List.filterMap_cons,hf] at hb
  exact hb
theorem Inv.stkFree (I:Inv X pins σ H s):∀ b ∈ frs X.stack,H b=none:=λb hb=>by
 rcases List.mem_cons.mp (I.stkSub b hb) with e | hb
 ·rw [e];exact I.free
 ·obtain⟨_,o,ho,_⟩:=I.ok.funs.mem hb
  exact I.base.free b o ho (I.ok.frf b hb) λz=>I.ok.exfs b z hb
theorem Inv.step {g':Array GenState}{t':Nat}{d':Drawn}{ch:List Addr} (I:Inv X pins σ H s)
  (hch:∀ b ∈ ch,(b ∈ X.ex\/X.s₀.heap.objs.size<=b)/\b≠X.env.locals/\(∀ x c,X.env.cells.lookup x=some c->c≠b)/\∀ p ∈ X.pn++pins,p.1≠b)
  (keep:∀ b o,b≠X.env.locals->b ∉ X.fs->b ∉ ch->s.heap.get? b=some o->H b=none->h'.get? b=some o)
  (slot:∀ b o,b≠X.env.locals->b ∈ X.fs->b ∉ ch->s.heap.get? b=some o->H b=none->∃ sl,h'.get? b=some { o with slots:=sl }) (free:∀ b o,b ∉ ch->s.heap.get? b=some o->H b=none->H' b=none)
  (there:∀ b o,b ∉ ch->s.heap.get? b=some o->∃ o',h'.get? b=some o')
  (tups:∀ b xs,H b=some (.tup xs)->H' b=some (.tup xs)) (frzs:∀ b o u,H b=some (.frz o u)->H' b=some (.frz o u)) (tbls:∀ b ps,H b=some (.tbl ps)->∃ more,H' b=some (.tbl (ps++more)))
  (ns:∀ m,s.heap.Ns X.env.locals m->h'.Ns X.env.locals m) (hok:HOk X.prog X.w H' h') (hg:AllBare g') :
  Inv X pins σ H' { s with heap:=h',gens:=g',drawn:=d',toks:=t' }:=by
 have neL:∀ b o,X.s₀.heap.get? b=some o->b≠X.env.locals:=λb o e=>Nat.ne_of_lt (Nat.lt_of_lt_of_le (Heap.lt_size e) I.ok.above)
 have neC:∀ b o,X.s₀.heap.get? b=some o->b ∉ X.ex->b ∉ ch:=λb o e hx hb=>by
  rcases (hch b hb).1 with z | z
  ·exact hx z
  ·exact absurd (Nat.lt_of_lt_of_le (Heap.lt_size e) z) (Nat.lt_irrefl _)
 have cellK:∀ x c,X.env.cells.lookup x=some c->∀ v,s.heap.IsCell c v->h'.IsCell c v:=λx c e v ⟨o,ho,hd⟩=>by
  have nch:c ∉ ch:=λz=>(hch c z).2.2.1 x c e rfl
  by_cases hc:c ∈ X.fs
  ·obtain⟨sl,q⟩:=slot c o (I.cne x c e) hc nch ho (I.freeC x c e)
   exact⟨_,q,hd⟩
  ·exact⟨o,keep c o (I.cne x c e) hc nch ho (I.freeC x c e),hd⟩
 refine⟨I.ok,I.os,hg,⟨λb o e n hb hx=>?_,λb o e n hb hx=>?_,λb o e n hx=>?_,λb o e hx=>?_,λb xs e=>tups b xs (I.base.tups b xs e),λb o xs e=>frzs b o xs (I.base.frzs b o xs e),λb ps e=>?_⟩,?_,λx c e=>?_,?_,λx c e=>?_,λp hp=>?_,hok,I.len⟩
 ·exact keep b o (neL b o e) hb (neC b o e hx) (I.base.keep b o e n hb hx) (I.base.free b o e n hx)
 ·obtain⟨sl,e1⟩:=I.base.slot b o e n hb hx
  obtain⟨sl',e2⟩:=slot b _ (neL b o e) hb (neC b o e hx) e1 (I.base.free b o e n hx)
  exact⟨sl',e2⟩
 ·obtain⟨o',e1⟩:=I.base.there b o e hx
  exact free b o' (neC b o e hx) e1 (I.base.free b o e n hx)
 ·obtain⟨o',e1⟩:=I.base.there b o e hx
  exact there b o' (neC b o e hx) e1
 ·obtain⟨m1,e1⟩:=I.base.tbls b ps e
  obtain⟨m2,e2⟩:=tbls b _ e1
  exact⟨m1++m2,by rw [e2,Array.append_assoc]⟩
 ·obtain⟨m,hn,hl⟩:=I.loc
  refine⟨m,ns m hn,λi x v e1 e2 e3=>?_⟩
  obtain⟨u,r,l⟩:=hl i x v e1 e2 e3
  refine⟨u,r,?_⟩
  rcases l with l | ⟨k,c,e,z⟩
  ·exact .inl l
  ·exact .inr ⟨k,c,e,cellK x c e _ z⟩
 ·obtain⟨v,z⟩:=I.cell x c e
  exact⟨v,cellK x c e v z⟩
 ·obtain⟨m,⟨o,_,_,ho,_⟩,_⟩:=I.loc
  exact free _ o (λz=>(hch _ z).2.1 rfl) ho I.free
 ·obtain⟨v,o,ho,hd⟩:=I.cell x c e
  exact free c o (λz=>(hch c z).2.2.1 x c e rfl) ho (I.freeC x c e)
 ·obtain⟨e,n,ne,nf,d⟩:=I.pin p hp
  have nch:p.1 ∉ ch:=λz=>(hch p.1 z).2.2.2 p hp rfl
  exact⟨keep p.1 p.2 ne nf nch e n,free p.1 p.2 nch e n,ne,nf,d⟩
theorem Inv.un {t':Nat} (I:Inv X pins σ H s) (u:Un X.fs [] H H' s.heap h') (hok:HOk X.prog X.w H' h'):Inv X pins σ H' { s with heap:=h',toks:=t' }:=by
 obtain⟨m,⟨o,es,ep,ho,r⟩,_⟩:=id I.loc
 obtain⟨sl,hL⟩:=u.any ho I.free (by simp)
 exact I.step (g':=s.gens) (d':=s.drawn) (ch:=[]) (λ_ z=>nomatch z) (λb o _ hb _ e n=>u.keep b o e n hb (by simp)) (λb o _ hb _ e n=>u.slot b o e n hb (by simp)) (λb o _ e n=>u.free b o e n (by simp)) (λb o _ e=>u.there b o e (by simp)) u.tups u.frzs u.tbls (λm' hm=>by
  obtain⟨o',es',ep',ho',r'⟩:=hm
  rw [ho] at ho';cases ho'
  exact⟨_,es',ep',hL,r'⟩) hok I.bare
theorem Inv.call {g':Array GenState}{t':Nat}{d':Drawn}{ch:List Addr} (I:Inv X pins σ H s) (u:Un (frs X.stack) ch H H' s.heap h') (hok:HOk X.prog X.w H' h') (hg:AllBare g')
  (hch:∀ b ∈ ch,(b ∈ X.ex\/X.s₀.heap.objs.size<=b)/\b≠X.env.locals/\(∀ x c,X.env.cells.lookup x=some c->c≠b)/\∀ p ∈ X.pn++pins,p.1≠b) :
  Inv X pins σ H' { s with heap:=h',gens:=g',drawn:=d',toks:=t' }:=by
 obtain⟨m,⟨o,es,ep,ho,r⟩,_⟩:=id I.loc
 obtain⟨sl,hL⟩:=u.any ho I.free λz=>(hch _ z).2.1 rfl
 exact I.step (ch:=ch) hch (λb o hL hb hc e n=>u.keep b o e n (λz=>(List.mem_cons.mp (I.stkSub b z)).elim hL hb) hc) (λb o _ _ hc e n=>u.any e n hc) (λb o hc e n=>u.free b o e n hc) (λb o hc e=>u.there b o e hc) u.tups u.frzs u.tbls (λm' hm=>by
  obtain⟨o',es',ep',ho',r'⟩:=hm
  rw [ho] at ho';cases ho'
  exact⟨_,es',ep',hL,r'⟩) hok hg
theorem Inv.turned {t':Nat}{it:Addr} (I:Inv X pins σ H s) (k:∀ b o,b≠it->s.heap.get? b=some o->h'.get? b=some o) (hn:H it=none) (hL:it≠X.env.locals)
  (h1:it ∈ X.ex\/X.s₀.heap.objs.size<=it) (h2:∀ x c,X.env.cells.lookup x=some c->c≠it) (h3:∀ p ∈ X.pn++pins,p.1≠it):Inv X pins σ H { s with heap:=h',toks:=t' }:=by
 have nit:∀ b u,H b=some u->b≠it:=λb u e z=>by rw [z,hn] at e;cases e
 refine I.step (g':=s.gens) (d':=s.drawn) (ch:=[it]) (λb hb=>?_) (λb o _ _ hc e _=>k b o (λz=>hc (by simp [z])) e) (λb o _ _ hc e _=>⟨o.slots,k b o (λz=>hc (by simp [z])) e⟩) (λ_ _ _ _ n=>n)
  (λb o hc e=>⟨o,k b o (λz=>hc (by simp [z])) e⟩) (λ_ _ e=>e) (λ_ _ _ e=>e) (λb ps e=>⟨#[],by rw [e];simp⟩) (λm hm=>?_) (λb u e=>?_) I.bare
 ·have e:b=it:=by simpa using hb
  subst e
  exact⟨h1,hL,h2,h3⟩
 ·obtain⟨o,es,ep,ho,r⟩:=hm
  exact⟨o,es,ep,k _ o (Ne.symm hL) ho,r⟩
 ·refine (I.hok b u e).stay (λc v hc q=>k c v ?_ q) (λ_ q=>q) λ_ _ q=>q
  rcases hc with z | z
  ·rw [z];exact nit b u e
  ·exact nit c _ z
theorem Inv.tok (I:Inv X pins σ H s) (t:Nat):Inv X pins σ H { s with toks:=t }:=I.un (h':=s.heap) (t':=t) Un.refl I.hok
theorem Inv.kept {t':Nat} (I:Inv X pins σ H s) (k:∀ b u,s.heap.get? b=some u->h'.get? b=some u):Inv X pins σ H { s with heap:=h',toks:=t' }:=I.un (Un.kept k) (I.hok.kept k)
theorem Inv.laid {a:Addr}{o:HO}{t':Nat} (I:Inv X pins σ H s) (k:∀ b u,s.heap.get? b=some u->h'.get? b=some u) (hp:s.heap.objs.size<=a) (new:bw X.prog X.w (upd H a o) h' a o) :
  Inv X pins σ (upd H a o) { s with heap:=h',toks:=t' }:=I.un (Un.laid k hp (I.hok.fresh hp)) (I.hok.laid k hp new)
theorem Inv.write {x e:Addr}{o:HO}{t':Nat} (I:Inv X pins σ H s) (mu:Mut (H x)) (he:e=x\/H e=some (.own x)) (k:∀ b u,b≠e->s.heap.get? b=some u->h'.get? b=some u) (heo:∃ u,h'.get? e=some u)
  (new:bw X.prog X.w (upd H x o) h' x o):Inv X pins σ (upd H x o) { s with heap:=h',toks:=t' }:=I.un (Un.write mu he k heo) (I.hok.write mu he k heo new)
theorem Inv.weak {σ':List (Option V)} (I:Inv X pins σ H s) (hl:σ'.length=σ.length) (w:∀ (i:Nat) v,σ'[i]?=some (some v)->σ[i]?=some (some v)):Inv X pins σ' H s:=
 ⟨I.ok,I.os,I.bare,I.base,let ⟨m,hn,hl'⟩:=I.loc;⟨m,hn,λi x v e1 e2 e3=>hl' i x v e1 (w i v e2) e3⟩,I.cell,I.free,I.freeC,I.pin,I.hok,hl.trans I.len⟩
theorem Inv.pins_of {pins':List (Addr×Obj)} (I:Inv X pins σ H s) (h:∀ p ∈ pins',s.heap.get? p.1=some p.2/\H p.1=none/\p.1≠X.env.locals/\p.1 ∉ X.fs/\∀ v,p.2.data≠.cell v):Inv X pins' σ H s:=
 ⟨I.ok,I.os,I.bare,I.base,I.loc,I.cell,I.free,I.freeC,λp hp=>(List.mem_append.mp hp).elim (λz=>I.pin p (List.mem_append_left _ z)) (h p),I.hok,I.len⟩
theorem nE {N:List Str} (hN:N.Nodup) {i j:Nat}{x:Str} (a:N[i]?=some x) (b:N[j]?=some x):i=j:=by
 obtain⟨h1,e1⟩:=List.getElem?_eq_some_iff.mp a
 obtain⟨h2,e2⟩:=List.getElem?_eq_some_iff.mp b
 exact (List.getElem_inj hN).mp (e1.trans e2.symm)
theorem qx {M:Model}{A:Around}{E:Value->Shared->Prop}{i:Nat}{x:Str}{v:V}{u:Value}{Q:Unit->Shared->Prop} (I:Inv X pins σ H s) (hN:X.N.Nodup) (hi:X.N[i]?=some x) (hx:Loc X.env.scope x) (r:az v u)
  (h:∀ s',Inv X pins (σ.set i (some v)) H s'->(∃ a,Heap.SameBut a s.heap s'.heap/\(a=X.env.locals\/X.env.cells.lookup x=some a))->Q () s') (hf:X.fn x=true\/X.env.scope.names.lookup x=some .local:=by first | exact .inl rfl | exact .inr rfl | assumption):wpAny M A (storeName X.env x u) Q E s:=by
 obtain⟨m,hn,hl⟩:=id I.loc
 have hcls:(X.env.scope.kind==.class || (X.env.scope.kind==.module && X.env.locals != X.env.globals))=false:=by rw [I.ok.kind];rfl
 have hiσ:i < σ.length:=by rw [I.len];exact (List.getElem?_eq_some_iff.mp hi).1
 have cne:=I.cne
 have tracked:∀ {a:Addr}{h':Heap},(∃ o,s.heap.get? a=some o/\H a=none)->Heap.SameBut a s.heap h'->HOk X.prog X.w H h':=λ{a h'} ha hs b ob e=>by
  obtain⟨_,_,hfree⟩:=ha
  refine (I.hok b ob e).stay (λc w' hc q=>(hs.2 c ?_).trans q) (λ_ q=>q) λ_ _ q=>q
  rintro rfl
  rcases hc with rfl | hc
  ·rw [hfree] at e;cases e
  ·rw [hfree] at hc;cases hc
 rcases hx with hk | hk
 ·refine wpAny_storeName_local hk hn (λh' hn' hs=>?_) hcls
  obtain⟨oL,_,_,hoL,_⟩:=id hn
  refine h _ ⟨I.ok,I.os,I.bare,⟨λb o e n hb hx=>?_,λb o e n hb hx=>?_,I.base.free,λb o e hx=>?_,I.base.tups,I.base.frzs,I.base.tbls⟩,⟨_,hn',λj y v' e1 e2 e3=>?_⟩,λy c e=>?_,I.free,I.freeC,λp hp=>?_,tracked ⟨oL,hoL,I.free⟩ hs,by simpa using I.len⟩ ⟨_,hs,.inl rfl⟩
  ·exact (hs.2 b (Nat.ne_of_lt (Nat.lt_of_lt_of_le (Heap.lt_size e) I.ok.above))).trans (I.base.keep b o e n hb hx)
  ·obtain⟨sl,e1⟩:=I.base.slot b o e n hb hx
   exact⟨sl,(hs.2 b (Nat.ne_of_lt (Nat.lt_of_lt_of_le (Heap.lt_size e) I.ok.above))).trans e1⟩
  ·obtain⟨o',e1⟩:=I.base.there b o e hx
   exact⟨o',(hs.2 b (Nat.ne_of_lt (Nat.lt_of_lt_of_le (Heap.lt_size e) I.ok.above))).trans e1⟩
  ·by_cases hj:j=i
   ·subst hj
    rw [hi] at e1;cases e1
    rw [List.getElem?_set_self hiσ] at e2
    cases e2
    exact⟨u,r,.inl ⟨hk,by simp⟩⟩
   ·rw [List.getElem?_set_ne (Ne.symm hj)] at e2
    obtain⟨u',r',q⟩:=hl j y v' e1 e2 e3
    refine⟨u',r',?_⟩
    rcases q with⟨k,e⟩ | ⟨k,c,e,z⟩
    ·refine .inl ⟨k,?_⟩
     have:y≠x:=λe=>hj (nE hN e1 (e ▸ hi))
     simp [this,e]
    ·exact .inr ⟨k,c,e,z.sameBut hs (cne y c e)⟩
  ·obtain⟨w',z⟩:=I.cell y c e
   exact⟨w',z.sameBut hs (cne y c e)⟩
  ·obtain⟨e,n,ne,nf,d⟩:=I.pin p hp
   exact⟨(hs.2 p.1 ne).trans e,n,ne,nf,d⟩
 ·have hfn:X.fn x=true:=by
   rcases hf with z | z
   ·exact z
   ·rw [z] at hk;cases hk
  obtain⟨c,hc⟩:=I.ok.has x (.inl hk)
  obtain⟨w',z⟩:=I.cell x c hc
  refine wpAny_storeName_cell I.ok.kind hk hc z (λh' hc' hs=>?_)
  obtain⟨oc,hoc,hocd⟩:=id z
  refine h { s with heap:=h' } ⟨I.ok,I.os,I.bare,⟨λb o e n hb hx=>?_,λb o e n hb hx=>?_,I.base.free,λb o e hx=>?_,I.base.tups,I.base.frzs,I.base.tbls⟩,⟨m,hn.sameBut hs (Ne.symm (cne x c hc)),λj y v' e1 e2 e3=>?_⟩,λy c' e=>?_,I.free,I.freeC,λp hp=>?_,tracked ⟨oc,hoc,I.freeC x c hc⟩ hs,by simpa using I.len⟩ ⟨c,hs,.inr hc⟩
  ·exact (hs.2 b (Nat.ne_of_lt (Nat.lt_of_lt_of_le (Heap.lt_size e) (I.ok.cab x c hfn hc)))).trans (I.base.keep b o e n hb hx)
  ·obtain⟨sl,e1⟩:=I.base.slot b o e n hb hx
   exact⟨sl,(hs.2 b (Nat.ne_of_lt (Nat.lt_of_lt_of_le (Heap.lt_size e) (I.ok.cab x c hfn hc)))).trans e1⟩
  ·obtain⟨o',e1⟩:=I.base.there b o e hx
   exact⟨o',(hs.2 b (Nat.ne_of_lt (Nat.lt_of_lt_of_le (Heap.lt_size e) (I.ok.cab x c hfn hc)))).trans e1⟩
  ·by_cases hj:j=i
   ·subst hj
    rw [hi] at e1;cases e1
    rw [List.getElem?_set_self hiσ] at e2
    cases e2
    exact⟨u,r,.inr ⟨.inl hk,c,hc,hc'⟩⟩
   ·rw [List.getElem?_set_ne (Ne.symm hj)] at e2
    obtain⟨u',r',q⟩:=hl j y v' e1 e2 e3
    refine⟨u',r',?_⟩
    rcases q with q | ⟨k,c',e,z'⟩
    ·exact .inl q
    ·refine .inr ⟨k,c',e,z'.sameBut hs ?_⟩
     rintro rfl
     exact hj (nE hN e1 (I.ok.inj _ _ _ e hc ▸ hi))
  ·by_cases hcc:c'=c
   ·subst hcc;exact⟨_,hc'⟩
   ·obtain⟨w2,z2⟩:=I.cell y c' e
    exact⟨w2,z2.sameBut hs hcc⟩
  ·obtain⟨e,n,ne,nf,d⟩:=I.pin p hp
   refine⟨(hs.2 p.1 ?_).trans e,n,ne,nf,d⟩
   intro q
   rw [q,hoc] at e
   have q':oc=p.2:=Option.some.inj e
   exact d w' (by rw [<-q'];exact hocd)
theorem mX {M:Model}{A:Around}{E:Value->Shared->Prop}{i:Nat}{x:Str}{v:V}{u:Value}{Q:Unit->Shared->Prop} (I:Inv X pins σ H s) (hN:X.N.Nodup) (hi:X.N[i]?=some x) (hx:Loc X.env.scope x) (r:az v u)
  (h:∀ s',Inv X pins (σ.set i (some v)) H s'->Q () s') (hf:X.fn x=true\/X.env.scope.names.lookup x=some .local:=by first | exact .inl rfl | exact .inr rfl | assumption):wpAny M A (storeName X.env x u) Q E s:=
 qx I hN hi hx r (λs' I' _=>h s' I') hf
theorem Inv.call' {s':Shared}{ch:List Addr} (I:Inv X pins σ H s) (ho:s'.os=s.os) (u:Un (frs X.stack) ch H H' s.heap s'.heap) (hok:HOk X.prog X.w H' s'.heap) (hg:AllBare s'.gens)
  (hch:∀ b ∈ ch,(b ∈ X.ex\/X.s₀.heap.objs.size<=b)/\b≠X.env.locals/\(∀ x c,X.env.cells.lookup x=some c->c≠b)/\∀ p ∈ X.pn++pins,p.1≠b):Inv X pins σ H' s':=by
 obtain⟨h',g',d',t',o'⟩:=s'
 have e:o'=s.os:=ho
 subst e
 exact I.call (g':=g') (t':=t') (d':=d') u hok hg hch
end
abbrev XK:=Value->Option Addr->Hp->Prop
abbrev St:=List (Option V)
abbrev VK:=V->Hp->Prop
abbrev TE:=St->Hp->VK->Prop
abbrev TT:=St->Hp->(Bool->Hp->Prop)->Prop
abbrev TA:=St->Hp->(List V->Hp->Prop)->Prop
structure oJ where
 nx:St->Hp->Prop
 rt:VK
 bk:St->Hp->Prop:=λ_ _=>False
 ct:St->Hp->Prop:=λ_ _=>False
abbrev TS:=oJ->St->Hp->Prop
noncomputable def EP (X:Cx) (pins:List (Addr×Obj)) (σ:St) (Q:VK) (u:Value) (s':Shared):Prop:=∃ v H',Inv X pins σ H' s'/\az v u/\Q v H'
noncomputable def TP (X:Cx) (pins:List (Addr×Obj)) (σ:St) (Q:Bool->Hp->Prop) (b:Bool) (s':Shared):Prop:=∃ H',Inv X pins σ H' s'/\Q b H'
noncomputable def AP (X:Cx) (pins:List (Addr×Obj)) (σ:St) (Q:List V->Hp->Prop) (us:List Value) (s':Shared):Prop:=∃ vs H',Inv X pins σ H' s'/\aA vs us/\Q vs H'
noncomputable def SP (X:Cx) (pins:List (Addr×Obj)) (D:oJ) (f:Flow) (s':Shared):Prop:=
 match f with
 | .next=>∃ σ' H',Inv X pins σ' H' s'/\D.nx σ' H'
 | .brk=>∃ σ' H',Inv X pins σ' H' s'/\D.bk σ' H'
 | .cont=>∃ σ' H',Inv X pins σ' H' s'/\D.ct σ' H'
 | .ret u=>∃ v σ' H',Inv X pins σ' H' s'/\az v u/\D.rt v H'
noncomputable def PE (X:Cx) (e:Expr) (t:TE):Prop:=
 ∀ (pins:List (Addr×Obj)) (s:Shared) (σ:St) (H:Hp) (Q:VK),Inv X pins σ H s->t σ H Q->wpAny (model X.prog X.w) X.A (eval e X.env) (EP X pins σ Q) X.xe s
noncomputable def PT (X:Cx) (e:Expr) (t:TT):Prop:=
 ∀ (pins:List (Addr×Obj)) (s:Shared) (σ:St) (H:Hp) (Q:Bool->Hp->Prop),Inv X pins σ H s->t σ H Q->wpAny (model X.prog X.w) X.A (isTrue e X.env (eval e X.env)) (TP X pins σ Q) X.xe s
noncomputable def PW (X:Cx) (e:Expr) (t:TT):Prop:=
 ∀ (whole:Sem Value) (pins:List (Addr×Obj)) (s:Shared) (σ:St) (H:Hp) (Q:Bool->Hp->Prop),Inv X pins σ H s->t σ H Q->wpAny (model X.prog X.w) X.A (isTrue e X.env whole) (TP X pins σ Q) X.xe s
theorem PW.pt {X:Cx}{e:Expr}{t:TT} (h:PW X e t):PT X e t:=h _
noncomputable def PA (X:Cx) (es:List Expr) (t:TA):Prop:=
 ∀ (pos:Pos) (pins:List (Addr×Obj)) (s:Shared) (σ:St) (H:Hp) (Q:List V->Hp->Prop),Inv X pins σ H s->t σ H Q->wpAny (model X.prog X.w) X.A (spliced (backTo pos (starEach es X.env))) (AP X pins σ Q) X.xe s
noncomputable def PS (X:Cx) (st:Stmt) (t:TS):Prop:=
 ∀ (pins:List (Addr×Obj)) (s:Shared) (σ:St) (H:Hp) (D:oJ),Inv X pins σ H s->t D σ H->wpAny (model X.prog X.w) X.A (exec st X.env) (SP X pins D) X.xe s
noncomputable def PSs (X:Cx) (st:List Stmt) (t:TS):Prop:=
 ∀ (pins:List (Addr×Obj)) (s:Shared) (σ:St) (H:Hp) (D:oJ),Inv X pins σ H s->t D σ H->wpAny (model X.prog X.w) X.A (execs st X.env) (SP X pins D) X.xe s
theorem thn {α:Type}{t:Sem α}{Q Q':α->Shared->Prop}{M:Model}{A:Around}{E:Value->Shared->Prop}{s:Shared} (h:wpAny M A t Q E s) (hQ:∀ a s,Q a s->Q' a s):wpAny M A t Q' E s:=wpAny_mono h hQ λ_ _ x=>x
end L2
namespace L2
open PySem PySem.Spec PyProof.Rows
section
variable {X:Cx}
theorem bin {a b:Expr}{ta tb:TE} (ha:PE X a ta) (hb:PE X b tb) {pins:List (Addr×Obj)}{s:Shared}{σ:St}{H:Hp}{R:V->V->Hp->Prop} (I:Inv X pins σ H s) (h:ta σ H λx H1=>tb σ H1 λy H2=>R x y H2)
  {α:Type}{Q:α->Shared->Prop}{f:Value->Value->Sem α}
  (hf:∀ v u s2 x y H2,Inv X pins σ H2 s2->az x v->az y u->R x y H2->wpAny (model X.prog X.w) X.A (f v u) Q X.xe s2) :
  wpAny (model X.prog X.w) X.A (eval a X.env) (λv s₁=>wpAny (model X.prog X.w) X.A (eval b X.env) (λu s₂=>wpAny (model X.prog X.w) X.A (f v u) Q X.xe s₂) X.xe s₁) X.xe s:=by
 refine thn (ha pins s σ H _ I h) λv s1 ⟨x,H1,I1,r1,q1⟩=>?_
 refine thn (hb pins s1 σ H1 _ I1 q1) λu s2 ⟨y,H2,I2,r2,q2⟩=>?_
 exact hf v u s2 x y H2 I2 r1 r2 q2
noncomputable def xb (i:Nat):TE:=λσ H Q=>∃ v,σ[i]?=some (some v)/\Q v H
noncomputable def tC (v:V):TE:=λ_ H Q=>Q v H
theorem xV {i:Nat}{x:Str}{pos:Pos} (hN:X.N[i]?=some x) (hv:Vis X.env.scope x) (hd:(x==("__debug__" : Str))=false:=by decide) (hcd:(x==("__classdict__" : Str))=false:=by decide):PE X (.Name x pos) (xb i):=by
 intro pins s σ H Q I h
 obtain⟨v,e,h⟩:=h
 obtain⟨m,hn,hl⟩:=I.loc
 obtain⟨u,r,l⟩:=hl i x v hN e hv
 have fin:EP X pins σ Q u s:=⟨v,H,I,r,h⟩
 rcases l with⟨hk,hm⟩ | ⟨hk,c,hc,hcell⟩
 ·exact wpAny_Name (wpAny_loadName_local I.ok.kind hk hn hm fin) hd
 ·rcases hk with hk | hk
  ·exact wpAny_Name (wpAny_loadName_cell I.ok.kind hk hc hcell fin) hd
  ·exact wpAny_Name (wpAny_loadName_free I.ok.kind hk hc hcell fin hcd) hd
theorem wg {i j pos}:PE X (.Constant (.int i) j pos) (tC (.int i)):=λ_ _ _ H _ I h=>wpAny_Constant_int ⟨.int i,H,I.tok _,⟨_,rfl⟩,h⟩
theorem yH {b j pos}:PE X (.Constant (.bool b) j pos) (tC (.bl b)):=λ_ _ _ H _ I h=>Constant_bool ⟨.bl b,H,I,rfl,h⟩
theorem wW {j pos}:PE X (.Constant .none j pos) (tC .non):=λ_ _ _ H _ I h=>Constant_none ⟨.non,H,I,rfl,h⟩
theorem xW {x j pos}:PE X (.Constant (.str x) j pos) (tC (.str x)):=λ_ _ _ H _ I h=>Calls.Constant_str ⟨.str x,H,I.tok _,⟨_,rfl⟩,h⟩
noncomputable def Gl (X:Cx) (x:Str):Prop:=X.env.kindOf x=some .globalImplicit
theorem pr {E:Value->Shared->Prop}{pins:List (Addr×Obj)}{s:Shared}{σ:St}{H:Hp}{x:Str}{u:Value}{pos:Pos}{Q:Value->Shared->Prop} (I:Inv X pins σ H s) (hg:Gl X x) (hm:X.mg x=some u) (h:Q u s)
  (hd:(x==("__debug__" : Str))=false:=by decide):wpAny (model X.prog X.w) X.A (eval (.Name x pos) X.env) Q E s:=
 Calls.Name_function_global I.ok.kind hg (Calls.loadGlobal_global (by rw [I.ok.glob];exact I.mod.glob.keeps I.bk) hm h) hd
theorem mQ {E:Value->Shared->Prop}{pins:List (Addr×Obj)}{s:Shared}{σ:St}{H:Hp}{x:Str}{u:Value}{pos:Pos}{Q:Value->Shared->Prop} (I:Inv X pins σ H s) (hg:Gl X x) (hm:X.mg x=none) (hv:bootBuiltins x=some u) (h:Q u s)
  (hn:x≠"__name__":=by decide) (hd:(x==("__debug__" : Str))=false:=by decide):wpAny (model X.prog X.w) X.A (eval (.Name x pos) X.env) Q E s:=by
 obtain⟨mb,h1,h2⟩:=I.mod.blt
 exact Calls.Name_function_global I.ok.kind hg (Calls.loadGlobal_builtin (by rw [I.ok.glob];exact I.mod.glob.keeps I.bk) hm (by rw [I.ok.blt];exact h1.keeps I.bk) ((h2 x hn).trans hv) h) hd
theorem pK {x:Str}{v:V}{u:Value}{pos:Pos} (hg:Gl X x) (hm:X.mg x=some u) (r:az v u) (hd:(x==("__debug__" : Str))=false:=by decide):PE X (.Name x pos) (tC v):=
 λ_ _ _ H _ I h=>pr I hg hm ⟨v,H,I,r,h⟩ hd
theorem uP {x:Str}{v:V}{u:Value}{pos:Pos} (hg:Gl X x) (hm:X.mg x=none) (hv:bootBuiltins x=some u) (r:az v u) (hn:x≠"__name__":=by decide) (hd:(x==("__debug__" : Str))=false:=by decide):PE X (.Name x pos) (tC v):=
 λ_ _ _ H _ I h=>mQ I hg hm hv ⟨v,H,I,r,h⟩ hn hd
variable {a b:Expr}{ta tb:TE}{pos:Pos}
variable {tA tB':TT}{rest:List Expr}
noncomputable def zN (t u:TT):TT:=λσ H Q=>t σ H λc H1=>if c=true then u σ H1 Q else Q false H1
noncomputable def tOr (t u:TT):TT:=λσ H Q=>t σ H λc H1=>if c=true then Q true H1 else u σ H1 Q
noncomputable def zu (t:TT):TT:=λσ H Q=>t σ H λc H1=>Q (!c) H1
theorem uK (ha:PT X a tA):PW X (.BoolOp .And [a] pos) tA:=by
 intro wh pins s σ H Q I h
 refine isTrue_and (thn (ha pins s σ H Q I h) λc s1 e=>?_)
 cases c with
 | true=>exact isTrue_and_nil e
 | false=>exact e
theorem v0 (ha:PT X a tA):PW X (.BoolOp .Or [a] pos) tA:=by
 intro wh pins s σ H Q I h
 refine isTrue_or (thn (ha pins s σ H Q I h) λc s1 e=>?_)
 cases c with
 | false=>exact isTrue_or_nil e
 | true=>exact e
theorem rC (ha:PT X a tA) (hb:PW X (.BoolOp .And (b::rest) pos) tB'):PW X (.BoolOp .And (a::b::rest) pos) (zN tA tB'):=by
 intro wh pins s σ H Q I h
 refine isTrue_and (thn (ha pins s σ H _ I h) λc s1 ⟨H1,I1,q1⟩=>?_)
 cases c with
 | true=>exact hb wh pins s1 σ H1 Q I1 q1
 | false=>exact⟨H1,I1,q1⟩
theorem vF (ha:PT X a tA) (hb:PW X (.BoolOp .Or (b::rest) pos) tB'):PW X (.BoolOp .Or (a::b::rest) pos) (tOr tA tB'):=by
 intro wh pins s σ H Q I h
 refine isTrue_or (thn (ha pins s σ H _ I h) λc s1 ⟨H1,I1,q1⟩=>?_)
 cases c with
 | true=>exact⟨H1,I1,q1⟩
 | false=>exact hb wh pins s1 σ H1 Q I1 q1
theorem wu (ha:PT X a tA):PT X (.UnaryOp .Not a pos) (zu tA):=by
 intro pins s σ H Q I h
 exact isTrue_not (ha pins s σ H (λc H1=>Q (!c) H1) I h)
noncomputable def zr (ta tb:TE):TE:=λσ H Q=>ta σ H λx H1=>∃ c,x=.bl c/\if c=true then tb σ H1 Q else Q (.bl false) H1
noncomputable def zo (ta:TE):TE:=λσ H Q=>ta σ H λx H1=>∃ c,x=.bl c/\Q (.bl (!c)) H1
theorem wJ {op}{t:TE} (h:PE X a t):PE X (.BoolOp op [a] pos) t:=λpins s σ H Q I hw=>BoolOp_one (h pins s σ H Q I hw)
theorem sD (ha:PE X a ta) (hb:PE X (.BoolOp .And (b::rest) pos) tb):PE X (.BoolOp .And (a::b::rest) pos) (zr ta tb):=by
 intro pins s σ H Q I h
 refine BoolOp_and (thn (ha pins s σ H _ I h) λv s1 ⟨x,H1,I1,r1,q1⟩=>?_)
 obtain⟨c,rfl,q1⟩:=q1
 cases r1
 refine wpAny_truthy_bool ?_
 cases c with
 | true=>exact hb pins s1 σ H1 Q I1 q1
 | false=>exact⟨.bl false,H1,I1,rfl,q1⟩
theorem xA (ha:PE X a ta):PE X (.UnaryOp .Not a pos) (zo ta):=by
 intro pins s σ H Q I h
 refine UnaryOp_ (thn (ha pins s σ H _ I h) λv s1 ⟨x,H1,I1,r1,q1⟩=>?_)
 obtain⟨c,rfl,q1⟩:=q1
 cases r1
 exact not_of (wpAny_truthy_bool ⟨.bl (!c),H1,I1,rfl,q1⟩)
noncomputable def tIf (t:TT) (ta tb:TE):TE:=λσ H Q=>t σ H λc H1=>if c=true then ta σ H1 Q else tb σ H1 Q
theorem n4 {c:Expr} (hc:PT X c tA) (ha:PE X a ta) (hb:PE X b tb):PE X (.IfExp c a b pos) (tIf tA ta tb):=by
 intro pins s σ H Q I h
 refine wpAny_IfExp (thn (hc pins s σ H _ I h) λd s1 ⟨H1,I1,q1⟩=>?_)
 cases d with
 | true=>exact ha pins s1 σ H1 Q I1 q1
 | false=>exact hb pins s1 σ H1 Q I1 q1
end
end L2
namespace L2
open PySem PySem.Spec PyProof.Rows
noncomputable def SqL (K:PySem.W.Frag) (H:Hp) (a:Addr) (xs:List V):Prop:=
 Rd H a (.lst xs)\/
  ∃ (o:Obj) (its:Array Value) (n:Nat),K.lookup a=some o/\o.cls=.type "list"/\o.dict=none/\o.data=.seq its n/\its.size<=sizeLine/\aA xs its.toList
noncomputable def SqT (K:PySem.W.Frag) (H:Hp) (a:Addr) (xs:List V):Prop:=
 H a=some (.tup xs)\/
  ∃ (o:Obj) (its:Array Value) (n:Nat),K.lookup a=some o/\o.cls=.type "tuple"/\o.data=.seq its n/\its.size<=sizeLine/\aA xs its.toList/\o.dict=none
noncomputable def sZ:Value->Option V
 | .none=>some .non
 | .bool b=>some (.bl b)
 | .int i _=>some (.int i)
 | .str x _=>some (.str x)
 | .bytes b _=>some (.byt b)
 | .float b _=>some (.flt b)
 | .ref a=>some (.ref a)
 | .type n=>some (.ty n)
 | _=>none
theorem az.abs {x:V}{u:Value} (r:az x u):sZ u=some x:=by
 cases x with
 | non=>cases r;rfl
 | bl _=>cases r;rfl
 | int _=>obtain⟨t,rfl⟩:=r;rfl
 | str _=>obtain⟨t,rfl⟩:=r;rfl
 | byt _=>obtain⟨t,rfl⟩:=r;rfl
 | flt _=>obtain⟨t,rfl⟩:=r;rfl
 | ref _=>cases r;rfl
 | ty _=>cases r;rfl
theorem az.inj {x y:V}{u:Value} (r:az x u) (q:az y u):x=y:=Option.some.inj (r.abs.symm.trans q.abs)
theorem aA.inj:∀ {xs ys:List V}{us:List Value},aA xs us->aA ys us->xs=ys
 | _,_,_,.nil,.nil=>rfl
 | _,_,_,.cons r t,.cons r' t'=>by rw [r.inj r',aA.inj t t']
section
variable {X:Cx}{pins:List (Addr×Obj)}{σ:St}{H:Hp}{s:Shared}{a:Addr}{xs ys:List V}
theorem SqL.of {K:PySem.W.Frag} (h:H a=some (.lst xs)):SqL K H a xs:=.inl (.inl h)
theorem SqT.of {K:PySem.W.Frag} (h:H a=some (.tup xs)):SqT K H a xs:=.inl h
theorem Inv.list (I:Inv X pins σ H s) (h:SqL X.K H a xs):∃ its:List Value,aA xs its/\PlainL s.heap a its.toArray/\xs.length<=sizeLine:=by
 rcases h with h | ⟨o,its,n,hk,hc,hd,hs,hz,r⟩
 ·obtain⟨z,its,n,r,e⟩:=h.ok I.hok
  exact⟨its,r,⟨_,n,e,rfl,rfl,rfl⟩,z⟩
 ·refine⟨its.toList,r,⟨o,n,I.kIn a o hk,hc,hd,by simpa using hs⟩,?_⟩
  have e:=r.length
  simp only [Array.length_toList] at e
  lia
theorem Inv.tuple (I:Inv X pins σ H s) (h:SqT X.K H a xs):∃ its:List Value,aA xs its/\IsTup s.heap a its.toArray/\xs.length<=sizeLine:=by
 rcases h with h | ⟨o,its,n,hk,hc,hs,hz,r,_⟩
 ·obtain⟨z,its,r,p⟩:=(Rd.of h).ok I.hok
  exact⟨its,r,p.tup,z⟩
 ·refine⟨its.toList,r,⟨o,I.kIn a o hk,hc,n,by simpa using hs⟩,?_⟩
  have e:=r.length
  simp only [Array.length_toList] at e
  lia
theorem Inv.tuple1 (I:Inv X pins σ H s) (h:SqT X.K H a xs):∃ o:Obj,s.heap.get? a=some o/\o.cls=.type "tuple"/\o.dict=none:=by
 rcases h with h | ⟨o,its,n,hk,hc,hs,hz,r,hd⟩
 ·obtain⟨z,its,r,o,e,c,_,hd⟩:=(Rd.of h).ok I.hok
  exact⟨o,e,c,hd⟩
 ·exact⟨o,I.kIn a o hk,hc,hd⟩
theorem Inv.list_inj (I:Inv X pins σ H s) (h:SqL X.K H a xs) (h':SqL X.K H a ys):xs=ys:=by
 obtain⟨its,r,⟨o,n,e,_,_,d⟩,_⟩:=I.list h
 obtain⟨its',r',⟨o',n',e',_,_,d'⟩,_⟩:=I.list h'
 rw [e] at e';cases e'
 rw [d] at d'
 injection d' with d1 _
 have:its=its':=by simpa using congrArg Array.toList d1
 subst this
 exact r.inj r'
theorem Inv.tuple_inj (I:Inv X pins σ H s) (h:SqT X.K H a xs) (h':SqT X.K H a ys):xs=ys:=by
 obtain⟨its,r,⟨o,e,_,n,d⟩,_⟩:=I.tuple h
 obtain⟨its',r',⟨o',e',_,n',d'⟩,_⟩:=I.tuple h'
 rw [e] at e';cases e'
 rw [d] at d'
 injection d' with d1 _
 have:its=its':=by simpa using congrArg Array.toList d1
 subst this
 exact r.inj r'
end
abbrev Cx.wish (X:Cx) (E:Value->Shared->Prop):Cx:={ X with xe:=E }
abbrev Cx.nox (X:Cx):Cx:=X.wish λ_ _=>False
theorem Cx.Ok.wish {X:Cx} (ok:X.Ok) (E:Value->Shared->Prop):(X.wish E).Ok:=
 ⟨ok.mod,ok.kind,ok.glob,ok.blt,ok.above,ok.inj,ok.has,ok.cab,ok.hd,ok.frames,ok.stk,ok.exf,ok.bs,ok.bsz,ok.noex,ok.exfs,ok.funs,ok.frf⟩
theorem Cx.Ok.unwish {X:Cx}{E:Value->Shared->Prop} (ok:(X.wish E).Ok):X.Ok:=
 ⟨ok.mod,ok.kind,ok.glob,ok.blt,ok.above,ok.inj,ok.has,ok.cab,ok.hd,ok.frames,ok.stk,ok.exf,ok.bs,ok.bsz,ok.noex,ok.exfs,ok.funs,ok.frf⟩
section
variable {X:Cx}{pins:List (Addr×Obj)}{σ:St}{H:Hp}{s:Shared}{E:Value->Shared->Prop}
theorem Inv.wish (I:Inv X pins σ H s) (E:Value->Shared->Prop):Inv (X.wish E) pins σ H s:=⟨I.ok.wish E,I.os,I.bare,I.base,I.loc,I.cell,I.free,I.freeC,I.pin,I.hok,I.len⟩
theorem Inv.unwish (I:Inv (X.wish E) pins σ H s):Inv X pins σ H s:=⟨I.ok.unwish,I.os,I.bare,I.base,I.loc,I.cell,I.free,I.freeC,I.pin,I.hok,I.len⟩
theorem SP.unwish {D:oJ}{f:Flow}{s':Shared} (h:SP (X.wish E) pins D f s'):SP X pins D f s':=by
 cases f with
 | next=>obtain⟨σ',H',I,q⟩:=h;exact⟨σ',H',I.unwish,q⟩
 | brk=>obtain⟨σ',H',I,q⟩:=h;exact⟨σ',H',I.unwish,q⟩
 | cont=>obtain⟨σ',H',I,q⟩:=h;exact⟨σ',H',I.unwish,q⟩
 | ret u=>obtain⟨v,σ',H',I,r,q⟩:=h;exact⟨v,σ',H',I.unwish,r,q⟩
theorem PSs.nox {st:List Stmt}{t:TS} (h:PSs X.nox st t):PSs X st t:=λpins s σ H D I hw=>
 wpAny_mono (h pins s σ H D (I.wish _) hw) (λ_ _ q=>q.unwish) λ_ _ z=>False.elim z
end
section
variable {X:Cx}{st:Stmt}{rest:List Stmt}{t u:TS}{e:Expr}{te:TE}{pos:Pos}
noncomputable def yK:TS:=λD σ H=>D.nx σ H
noncomputable def zt (t u:TS):TS:=λD σ H=>t { D with nx:=u D } σ H
theorem uS:PSs X [] yK:=λ_ _ σ H _ I h=>wpAny_execs_nil ⟨σ,H,I,h⟩
theorem gz (h1:PS X st t) (h2:PSs X rest u):PSs X (st::rest) (zt t u):=by
 intro pins s σ H D I h
 refine wpAny_execs_cons (thn (h1 pins s σ H { D with nx:=u D } I h) λf s1 q=>?_)
 cases f with
 | next=>
  obtain⟨σ',H',I',q⟩:=q
  exact h2 pins s1 σ' H' D I' q
 | ret v=>exact q
 | brk=>exact q
 | cont=>exact q
theorem vq (h1:PS X st t):PSs X [st] t:=by
 intro pins s σ H D I h
 refine wpAny_execs_cons (thn (h1 pins s σ H D I h) λf s1 q=>?_)
 cases f with
 | next=>exact wpAny_execs_nil q
 | ret v=>exact q
 | brk=>exact q
 | cont=>exact q
noncomputable def zR (te:TE):TS:=λD σ H=>te σ H D.rt
theorem xq (he:PE X e te):PS X (.Return (some e) pos) (zR te):=by
 intro pins s σ H D I h
 exact wpAny_Return_some (thn (he pins s σ H _ I h) λv s1 ⟨x,H1,I1,r1,q1⟩=>⟨x,σ,H1,I1,r1,q1⟩)
noncomputable def zJ (c:TT) (t u:TS):TS:=λD σ H=>c σ H λb H1=>if b=true then t D σ H1 else u D σ H1
theorem vA {c:Expr}{a b:List Stmt}{tc:TT} (hc:PT X c tc) (ha:PSs X a t) (hb:PSs X b u):PS X (.If c a b pos) (zJ tc t u):=by
 intro pins s σ H D I h
 refine wpAny_If (thn (hc pins s σ H _ I h) λd s1 ⟨H1,I1,q1⟩=>?_)
 cases d with
 | true=>exact ha pins s1 σ H1 D I1 q1
 | false=>exact hb pins s1 σ H1 D I1 q1
noncomputable def xU:TS:=λ_ _ _=>False
theorem er {sts:List Stmt}:PSs X sts xU:=λ_ _ _ _ _ _ h=>h.elim
end
abbrev TG:=V->St->Hp->(St->Hp->Prop)->Prop
abbrev TGs:=List V->St->Hp->(St->Hp->Prop)->Prop
noncomputable def PG (X:Cx) (target:Expr) (t:TG):Prop:=
 ∀ (pins:List (Addr×Obj)) (s:Shared) (σ:St) (H:Hp) (v:V) (u:Value) (Q:St->Hp->Prop),Inv X pins σ H s->az v u->t v σ H Q->
  wpAny (model X.prog X.w) X.A (assign target X.env u) (λ_ s'=>∃ σ' H',Inv X pins σ' H' s'/\Q σ' H') X.xe s
noncomputable def PGs (X:Cx) (ts:List Expr) (t:TGs):Prop:=
 ∀ (pins:List (Addr×Obj)) (s:Shared) (σ:St) (H:Hp) (vs:List V) (us:List Value) (Q:St->Hp->Prop),Inv X pins σ H s->aA vs us->t vs σ H Q->
  wpAny (model X.prog X.w) X.A (assignInOrder ((assignEach ts X.env).map (·.2)) us) (λ_ s'=>∃ σ' H',Inv X pins σ' H' s'/\Q σ' H') X.xe s
abbrev xX:=V->V->V->Hp->(Hp->Prop)->Prop
noncomputable def yG (X:Cx) (t:xX):Prop:=
 ∀ (pins:List (Addr×Obj)) (s:Shared) (σ:St) (H:Hp) (o i v:V) (ov iv u:Value) (Q:Hp->Prop),Inv X pins σ H s->az o ov->az i iv->az v u->t o i v H Q->
  wpAny (model X.prog X.w) X.A (setItem ov iv u) (λ_ s'=>∃ H',Inv X pins σ H' s'/\Q H') X.xe s
section
variable {X:Cx}{pos:Pos}
noncomputable def pC (i:Nat):TG:=λv σ H Q=>Q (σ.set i (some v)) H
theorem bj {i:Nat}{x:Str} (hN:X.N.Nodup) (hi:X.N[i]?=some x) (hx:Loc X.env.scope x) (hf:X.fn x=true\/X.env.scope.names.lookup x=some .local:=by first | exact .inl rfl | exact .inr rfl | assumption):PG X (.Name x pos) (pC i):=by
 intro pins s σ H v u Q I r h
 exact wpAny_assign_Name (mX I hN hi hx r (λs' I'=>⟨_,H,I',h⟩) hf)
noncomputable def zI:TGs:=λvs σ H Q=>vs=[]/\Q σ H
noncomputable def zm (t:TG) (u:TGs):TGs:=λvs σ H Q=>∃ v r,vs=v::r/\t v σ H λσ' H'=>u r σ' H' Q
theorem uT:PGs X [] zI:=by
 intro pins s σ H vs us Q I r h
 obtain⟨e,h⟩:=h
 subst e
 cases r
 exact assignInOrder_nil ⟨σ,H,I,h⟩
theorem rS {e:Expr}{es:List Expr}{t:TG}{u:TGs} (h1:PG X e t) (h2:PGs X es u)
  (hs:(assignEach (e::es) X.env).map (·.2)=assign e X.env::(assignEach es X.env).map (·.2):=by rfl):PGs X (e::es) (zm t u):=by
 intro pins s σ H vs us Q I r h
 obtain⟨v,vr,e1,h⟩:=h
 subst e1
 cases r with
 | cons r rr=>
  rw [hs]
  refine assignInOrder_cons (thn (h1 pins s σ H _ _ _ I r h) λ_ s1 ⟨σ1,H1,I1,q1⟩=>?_)
  exact h2 pins s1 σ1 H1 _ _ Q I1 rr q1
noncomputable def zx (K:PySem.W.Frag) (n:Nat) (t:TGs):TG:=λv σ H Q=>∃ a xs,v=.ref a/\SqT K H a xs/\xs.length=n/\t xs σ H Q
theorem wQ {es:List Expr}{k:Nat}{t:TGs}{n:Nat} (hc:X.calm=true) (h:PGs X es t)
  (hn:(assignEach es X.env).length=n:=by rfl) (hst:(assignEach es X.env).findIdx? (·.1)=none:=by rfl):PG X (.Tuple es k pos) (zx X.K n t):=by
 intro pins s σ H v u Q I r hw
 obtain⟨a,xs,e1,hq,hl,hw⟩:=hw
 subst e1
 cases r
 obtain⟨its,rv,ht,hz⟩:=I.tuple hq
 refine assign_Tuple_tuple (I.ok.hd hc) ht (by simp [hn,<-hl,rv.length]) hst λh' hx=>?_
 have I1:Inv X pins σ H { s with heap:=h' }:=I.kept (t':=s.toks) λb o e=>hx b o (Nat.ne_of_lt (Heap.lt_size e)) e
 exact h pins _ σ H xs _ Q I1 (by simpa using rv) hw
noncomputable def zA (to ti:TE) (t:xX):TG:=λv σ H Q=>to σ H λo H1=>ti σ H1 λi H2=>t o i v H2 λH3=>Q σ H3
theorem xi {o i:Expr}{to ti:TE}{t:xX} (ho:PE X o to) (hi:PE X i ti) (hs:yG X t)
  (ha:∀ v,assign (.Subscript o i pos) X.env v=(do
    let ov <-holding [v] (eval o X.env)
    let iv <-holding [v,ov] (eval i X.env)
    standAt pos
    holding [v,ov,iv] (setItem ov iv v)
    release [v,ov,iv] []):=by intro _;rfl):PG X (.Subscript o i pos) (zA to ti t):=by
 intro pins s σ H v u Q I r h
 rw [ha]
 refine wpAny_bind (wpAny_holding (thn (ho pins s σ H _ I h) λov s1 ⟨x,H1,I1,r1,q1⟩=>?_))
 refine wpAny_bind (wpAny_holding (thn (hi pins s1 σ H1 _ I1 q1) λiv s2 ⟨y,H2,I2,r2,q2⟩=>?_))
 refine wpAny_bind (wpAny_standAt (wpAny_bind (wpAny_holding (thn (hs pins s2 σ H2 x y v ov iv u _ I2 r1 r2 r q2) λ_ s3 ⟨H3,I3,q3⟩=>?_))))
 exact wpAny_release ⟨σ,H3,I3,q3⟩
noncomputable def zf (te:TE) (g:TG):TS:=λD σ H=>te σ H λx H1=>g x σ H1 D.nx
theorem xf {tg e:Expr}{te:TE}{g:TG} (he:PE X e te) (hg:PG X tg g) (hs:swapsWithSole [tg] e pos.line X.env=pure false:=by rfl) (hw:swappedStores [tg] e X.env=pure none:=by rfl)
  (h1:(assignEach [tg] X.env).map (·.2)=[assign tg X.env]:=by rfl):PS X (.Assign [tg] e pos) (zf te g):=by
 intro pins s σ H D I h
 refine wpAny_Assign_stores (thn (he pins s σ H _ I h) λv s1 ⟨x,H1,I1,r1,q1⟩=>?_) hs hw
 rw [h1]
 exact thn (hg pins s1 σ H1 x v _ I1 r1 q1) λ_ s2 q=>q
theorem v4 {i:Nat}{x:Str}{e:Expr}{te:TE}{pos':Pos} (hN:X.N.Nodup) (hi:X.N[i]?=some x) (hx:Loc X.env.scope x) (he:PE X e te) (hs:swapsWith e (some (.Name x pos')) pos.line X.env=pure false:=by rfl) (hf:X.fn x=true\/X.env.scope.names.lookup x=some .local:=by first | exact .inl rfl | exact .inr rfl | assumption) :
  PS X (.Assign [.Name x pos'] e pos) (zf te (pC i)):=by
 intro pins s σ H D I h
 refine wpAny_Assign_Name (thn (he pins s σ H _ I h) λv s1 ⟨y,H1,I1,r1,q1⟩=>?_) hs
 exact mX I1 hN hi hx r1 (λs2 I2=>⟨_,H1,I2,q1⟩) hf
end
section
variable {X:Cx}{pos:Pos}
noncomputable def xx (c:TT) (tb:TS):TS:=λD σ H=>∃ W:Nat->St->Hp->Prop,(∃ m,W m σ H)/\∀ m σ H,W m σ H->
 c σ H λb H1=>if b=true then ∃ N:St->Hp->Prop,(∀ σ' H',N σ' H'->∃ m',m' < m/\W m' σ' H')/\tb { D with nx:=N,ct:=N,bk:=D.nx } σ H1 else D.nx σ H1
theorem sf {c:Expr}{body:List Stmt}{tc:TT}{tb:TS} (hp:PassesOwn (model X.prog X.w) X.A X.env X.xe) (hc:PT X c tc) (hb:PSs X body tb):PS X (.While c body [] pos) (xx tc tb):=by
 intro pins s σ H D I h
 obtain⟨W,⟨m0,w0⟩,turn⟩:=h
 refine wpAny_While (codeAny_whileLoop (λn s'=>∃ σ' H',Inv X pins σ' H' s'/\W n σ' H') ?_ m0 ⟨σ,H,I,w0⟩)
 rintro n s1 ⟨σ1,H1,I1,w1⟩
 refine wpAny_passesOwn hp (thn (hc pins s1 σ1 H1 _ I1 (turn n σ1 H1 w1)) λb s2 ⟨H2,I2,q2⟩=>?_)
 cases b with
 | true=>
  obtain⟨N,hN,q2⟩:=q2
  rw [if_pos rfl]
  refine wpAny_passesOwn hp (thn (hb pins s2 σ1 H2 _ I2 q2) λf s3 q3=>?_)
  cases f with
  | next=>
   obtain⟨σ3,H3,I3,n3⟩:=q3
   obtain⟨m',hm,w3⟩:=hN σ3 H3 n3
   exact⟨m',hm,σ3,H3,I3,w3⟩
  | cont=>
   obtain⟨σ3,H3,I3,n3⟩:=q3
   obtain⟨m',hm,w3⟩:=hN σ3 H3 n3
   exact⟨m',hm,σ3,H3,I3,w3⟩
  | brk=>exact q3
  | ret v=>exact q3
 | false=>
  rw [if_neg Bool.false_ne_true]
  exact wpAny_execs_nil ⟨σ1,H2,I2,q2⟩
end
structure It where
 go:Nat->Hp->Prop
 yld:Nat->Hp->V->Hp->Prop
 stop:Nat->Hp->Prop
noncomputable def nw (X:Cx) (pins:List (Addr×Obj)) (H:Hp) (b:Addr):Prop:=
 H b=none/\b≠X.env.locals/\b ∉ X.fs/\(b ∈ X.ex\/X.s₀.heap.objs.size<=b)/\(∀ x c,X.env.cells.lookup x=some c->c≠b)/\∀ p ∈ X.pn++pins,p.1≠b
theorem Inv.fpOk {X:Cx}{pins:List (Addr×Obj)}{σ:St}{H H':Hp}{s:Shared}{b:Addr} (I:Inv X pins σ H s) (hb:s.heap.objs.size<=b) (hn:H' b=none):nw X pins H' b:=by
 refine⟨hn,Nat.ne_of_gt (Nat.lt_of_lt_of_le I.lt hb),I.nofs hb,.inr (Nat.le_trans I.sz hb),λx c e z=>?_,λp hp z=>?_⟩
 ·obtain⟨v,q⟩:=I.cell x c e
  exact absurd (Nat.lt_of_lt_of_le q.lt (by rw [z];exact hb)) (Nat.lt_irrefl _)
 ·exact absurd (Nat.lt_of_lt_of_le (Heap.lt_size (I.pin p hp).1) (by rw [z];exact hb)) (Nat.lt_irrefl _)
structure rm (P:Program) (w:World) (K:PySem.W.Frag) (tg:Expr) (J:It) (fp:List Addr) (it:Addr) (tn:Nat->Heap->Prop):Prop where
 mem:it ∈ fp
 obj:∀ i h,tn i h->∀ b ∈ fp,∃ o,h.get? b=some o/\∀ v,o.data≠.cell v
 keep:∀ i h h',tn i h->(∀ b ∈ fp,∀ o,h.get? b=some o->h'.get? b=some o)->tn i h'
 item:∀ (X:Cx),X.prog=P->X.w=w->X.K=K->X.calm=true->∀ (i:Nat) (pins:List (Addr×Obj)) (s:Shared) (σ:St) (H:Hp) (E:Value->Shared->Prop),Inv X pins σ H s->(∀ b ∈ fp,nw X pins H b)->tn i s.heap->J.go i H->
  wpAny (model P w) X.A (pyNext (.ref it)) (λr s1=>∃ u,r=some u/\
   wpAny (model P w) X.A (letOwnedTupleGo tg (.ref it) u) (λ_ s2=>∃ x H',Inv X pins σ H' s2/\az x u/\J.yld i H x H'/\tn (i+1) s2.heap/\∀ b ∈ fp,H' b=none) E s1) E s
 done:∀ (X:Cx),X.prog=P->X.w=w->X.K=K->X.calm=true->∀ (i:Nat) (pins:List (Addr×Obj)) (s:Shared) (σ:St) (H:Hp) (E:Value->Shared->Prop),Inv X pins σ H s->(∀ b ∈ fp,nw X pins H b)->tn i s.heap->J.stop i H->
  wpAny (model P w) X.A (pyNext (.ref it)) (λr s1=>r=none/\Inv X pins σ H s1) E s
 self:∀ (A:Around) (i:Nat) (s:Shared) (Q:Value->Shared->Prop) (E:Value->Shared->Prop),tn i s.heap->Q (.ref it) s->wpAny (model P w) A (pyIter (.ref it)) Q E s
abbrev TI:=St->Hp->(It->Hp->Prop)->Prop
noncomputable def PIE (X:Cx) (pins:List (Addr×Obj)) (σ:St) (tg:Expr) (R:It->Hp->Prop) (itv:Value) (s2:Shared):Prop:=
 ∃ (it:Addr) (fp:List Addr) (tn:Nat->Heap->Prop) (J:It) (H':Hp),itv=.ref it/\Inv X pins σ H' s2/\rm X.prog X.w X.K tg J fp it tn/\tn 0 s2.heap/\(∀ b ∈ fp,nw X pins H' b)/\R J H'
noncomputable def PI (X:Cx) (tg iter:Expr) (wi:TI):Prop:=
 ∀ (pins:List (Addr×Obj)) (s:Shared) (σ:St) (H:Hp) (R:It->Hp->Prop),Inv X pins σ H s->wi σ H R->
  wpAny (model X.prog X.w) X.A (eval iter X.env) (λv s1=>wpAny (model X.prog X.w) X.A (pyIter v) (PIE X pins σ tg R) X.xe s1) X.xe s
theorem pv {M:Model}{A:Around}{E:Value->Shared->Prop}{s:Shared}{tg:Expr}{it:Addr}{u:Value}{o:Obj}{n:String}{vs:Array Value}{Q:Unit->Shared->Prop} (ho:s.heap.get? it=some o) (hc:o.cls=.type n) (hd:o.data=.fields vs)
  (hn:["enumerate","zip","dict_itemiterator","dict_reverseitemiterator","odict_iterator","itertools.zip_longest","itertools.pairwise"].contains n=false) (hQ:Q () s):wpAny M A (letOwnedTupleGo tg (.ref it) u) Q E s:=by
 unfold letOwnedTupleGo
 cases tg<;>first
  | exact wpAny_pure hQ
  | (cases u<;>first
      | exact wpAny_pure hQ
      | (refine wpAny_bind (wpAny_load ho ?_)
         rw [hc,hd]
         show wpAny M A (if (["enumerate","zip","dict_itemiterator","dict_reverseitemiterator","odict_iterator","itertools.zip_longest","itertools.pairwise"].contains n && vs[0]?==some (rawInt _))=true then _ else _) Q E s
         rw [if_neg (by intro h;rw [hn,Bool.false_and] at h;cases h)]
         exact wpAny_pure hQ))
noncomputable def Itl (K:PySem.W.Frag) (a:Addr):It:=
 ⟨λi H=>∃ xs x,SqL K H a xs/\xs[i]?=some x,λi H x H'=>H'=H/\∀ xs,SqL K H a xs->xs[i]?=some x,λi H=>∃ xs,SqL K H a xs/\xs.length<=i⟩
noncomputable def Itt (K:PySem.W.Frag) (a:Addr):It:=
 ⟨λi H=>∃ xs x,SqT K H a xs/\xs[i]?=some x,λi H x H'=>H'=H/\∀ xs,SqT K H a xs->xs[i]?=some x,λi H=>∃ xs,SqT K H a xs/\xs.length<=i⟩
noncomputable def Itr (lo:Int) (n:Nat):It:=⟨λi _=>i < n,λi H x H'=>H'=H/\x=.int (lo+i),λi _=>n<=i⟩
theorem qw {P:Program}{w:World}{K:PySem.W.Frag}{tg:Expr} (a it:Addr):rm P w K tg (Itl K a) [it] it (λi h=>h.IsListIter it a i) where
 mem:=by simp
 obj:=λi h st b hb=>by
  have e:b=it:=by simpa using hb
  subst e
  obtain⟨o,e,c,d⟩:=st
  exact⟨o,e,λv z=>by rw [d] at z;cases z⟩
 keep:=λi h h' st k=>st.at λo e=>k it (by simp) o e
 item:=by
  intro X hP hw hK hc i pins s σ H E I hf st hg
  subst hP hw hK
  obtain⟨xs,x,hq,hx⟩:=hg
  obtain⟨its,rv,p,hz⟩:=I.list hq
  obtain⟨u,hu,ru⟩:=rv.get hx
  obtain⟨f0,f1,f2,f3,f4,f5⟩:=hf it (by simp)
  refine wpAny_pyNext_list_item st p.isList (x:=u) (by simpa using hu) λh' st' sb=>?_
  have I1:Inv X pins σ H { s with heap:=h' }:=I.turned (t':=s.toks) (λb o hb e=>(sb.2 b hb).trans e) f0 f1 f3 f4 f5
  obtain⟨o,e,c,d⟩:=id st'
  exact⟨u,rfl,pv (s:={ s with heap:=h' }) e c d (by decide) ⟨x,H,I1,ru,⟨rfl,λys hy=>by rw [I.list_inj hy hq];exact hx⟩,st',λb hb=>(hf b hb).1⟩⟩
 done:=by
  intro X hP hw hK hc i pins s σ H E I hf st hg
  subst hP hw hK
  obtain⟨xs,hq,hx⟩:=hg
  obtain⟨its,rv,p,hz⟩:=I.list hq
  obtain⟨f0,f1,f2,f3,f4,f5⟩:=hf it (by simp)
  have hl:=rv.length
  exact wpAny_pyNext_list_end (I.ok.hd hc) st p.isList (by simp;lia) λh' eb=>⟨rfl,I.turned (t':=s.toks) (λb o hb e=>eb b o hb e) f0 f1 f3 f4 f5⟩
 self:=λ_ _ _ _ _ st h=>wpAny_pyIter_listiter st h
theorem om {P:Program}{w:World}{K:PySem.W.Frag}{tg:Expr} (a it:Addr):rm P w K tg (Itt K a) [it] it (λi h=>h.IsTupleIter it a i) where
 mem:=by simp
 obj:=λi h st b hb=>by
  have e:b=it:=by simpa using hb
  subst e
  obtain⟨o,e,c,d⟩:=st
  exact⟨o,e,λv z=>by rw [d] at z;cases z⟩
 keep:=λi h h' st k=>st.at λo e=>k it (by simp) o e
 item:=by
  intro X hP hw hK hc i pins s σ H E I hf st hg
  subst hP hw hK
  obtain⟨xs,x,hq,hx⟩:=hg
  obtain⟨its,rv,p,hz⟩:=I.tuple hq
  obtain⟨u,hu,ru⟩:=rv.get hx
  obtain⟨f0,f1,f2,f3,f4,f5⟩:=hf it (by simp)
  refine wpAny_pyNext_tuple_item st (show s.heap.IsTuple a its.toArray from p) (x:=u) (by simpa using hu) λh' st' sb=>?_
  have I1:Inv X pins σ H { s with heap:=h' }:=I.turned (t':=s.toks) (λb o hb e=>(sb.2 b hb).trans e) f0 f1 f3 f4 f5
  obtain⟨o,e,c,d⟩:=id st'
  exact⟨u,rfl,pv (s:={ s with heap:=h' }) e c d (by decide) ⟨x,H,I1,ru,⟨rfl,λys hy=>by rw [I.tuple_inj hy hq];exact hx⟩,st',λb hb=>(hf b hb).1⟩⟩
 done:=by
  intro X hP hw hK hc i pins s σ H E I hf st hg
  subst hP hw hK
  obtain⟨xs,hq,hx⟩:=hg
  obtain⟨its,rv,p,hz⟩:=I.tuple hq
  obtain⟨f0,f1,f2,f3,f4,f5⟩:=hf it (by simp)
  have hl:=rv.length
  exact wpAny_pyNext_tuple_end (I.ok.hd hc) st (show s.heap.IsTuple a its.toArray from p) (by simp;lia) λh' eb=>⟨rfl,I.turned (t':=s.toks) (λb o hb e=>eb b o hb e) f0 f1 f3 f4 f5⟩
 self:=λ_ _ _ _ _ st h=>wpAny_pyIter_tupleiter st h
theorem oM {P:Program}{w:World}{K:PySem.W.Frag}{tg:Expr} (it:Addr) (lo:Int) (n:Nat):rm P w K tg (Itr lo n) [it] it (λi h=>IsRangeIter h it (lo+(i:Nat)*1) ((n:Int) - (i:Nat)) 1) where
 mem:=by simp
 obj:=λi h st b hb=>by
  have e:b=it:=by simpa using hb
  subst e
  exact⟨_,st,λv z=>by
   have z':Data.fields _=Data.cell v:=z
   cases z'⟩
 keep:=λi h h' st k=>k it (by simp) _ st
 item:=by
  intro X hP hw hK hc i pins s σ H E I hf st hg
  subst hP hw hK
  obtain⟨f0,f1,f2,f3,f4,f5⟩:=hf it (by simp)
  have W:=Walks.range (prog:=X.prog) (w:=X.w) (I.ok.hd hc) it lo 1 n
  refine W.item i s _ _ hg st λv h' tk hv st' kk=>?_
  obtain⟨t,rfl⟩:=hv
  have I1:Inv X pins σ H { s with heap:=h',toks:=tk }:=I.turned (λb o hb e=>kk b o (by simpa using hb) e) f0 f1 f3 f4 f5
  refine⟨_,rfl,pv (s:={ s with heap:=h',toks:=tk }) (n:="range_iterator") st' rfl rfl (by decide) ⟨.int (lo+i),H,I1,⟨t,?_⟩,⟨rfl,rfl⟩,st',λb hb=>(hf b hb).1⟩⟩
  rw [Int.mul_one]
 done:=by
  intro X hP hw hK hc i pins s σ H E I hf st hg
  subst hP hw hK
  obtain⟨f0,f1,f2,f3,f4,f5⟩:=hf it (by simp)
  exact wpAny_pyNext_range_end (I.ok.hd hc) st (by have:n<=i:=hg;lia) λh' eb=>⟨rfl,I.turned (t':=s.toks) (λb o hb e=>eb b o hb e) f0 f1 f3 f4 f5⟩
 self:=λ_ _ _ _ _ st h=>wpAny_pyIter_rangeiter st h
end L2
namespace L2
open PySem PySem.Spec PyProof.Rows
section
variable {X:Cx}{tg:Expr}
noncomputable def yO (K:PySem.W.Frag) (tl:TE):TI:=λσ H R=>tl σ H λx H1=>∃ a,x=.ref a/\(∃ xs,SqL K H1 a xs)/\R (Itl K a) H1
noncomputable def zS (K:PySem.W.Frag) (tl:TE):TI:=λσ H R=>tl σ H λx H1=>∃ a,x=.ref a/\(∃ xs,SqT K H1 a xs)/\R (Itt K a) H1
theorem uQ {l:Expr}{tl:TE} (hl:PE X l tl):PI X tg l (yO X.K tl):=by
 intro pins s σ H R I h
 refine thn (hl pins s σ H _ I h) λv s1 ⟨x,H1,I1,r1,q1⟩=>?_
 obtain⟨a,e,⟨xs,hq⟩,q⟩:=q1
 subst e
 cases r1
 obtain⟨its,rv,p,hz⟩:=I1.list hq
 refine wpAny_pyIter_list p.isList ?_
 refine⟨s1.heap.objs.size,[s1.heap.objs.size],_,_,H1,rfl,I1.kept (t':=s1.toks) λb o e=>Heap.get?_push_of_some _ e,qw a _,⟨_,Heap.get?_push_size _ rfl,rfl,rfl⟩,λb hb=>?_,q⟩
 have e:b=s1.heap.objs.size:=by simpa using hb
 subst e
 exact I1.fpOk (Nat.le_refl _) (I1.hok.fresh (Nat.le_refl _))
theorem wG {l:Expr}{tl:TE} (hl:PE X l tl):PI X tg l (zS X.K tl):=by
 intro pins s σ H R I h
 refine thn (hl pins s σ H _ I h) λv s1 ⟨x,H1,I1,r1,q1⟩=>?_
 obtain⟨a,e,⟨xs,hq⟩,q⟩:=q1
 subst e
 cases r1
 obtain⟨its,rv,p,hz⟩:=I1.tuple hq
 refine wpAny_pyIter_tuple (show s1.heap.IsTuple a its.toArray from p) ?_
 refine⟨s1.heap.objs.size,[s1.heap.objs.size],_,_,H1,rfl,I1.kept (t':=s1.toks) λb o e=>Heap.get?_push_of_some _ e,om a _,⟨_,Heap.get?_push_size _ rfl,rfl,rfl⟩,λb hb=>?_,q⟩
 have e:b=s1.heap.objs.size:=by simpa using hb
 subst e
 exact I1.fpOk (Nat.le_refl _) (I1.hok.fresh (Nat.le_refl _))
theorem sM {pins:List (Addr×Obj)}{σ:St}{H:Hp}{s:Shared}{R:It->Hp->Prop}{E:Value->Shared->Prop}{lo hi:Int}{t u v:Tok}{tk:Nat} (I:Inv X pins σ H s) (h1:-(2 ^ 62)<=lo) (h2:lo < 2 ^ 62) (h3:-(2 ^ 62)<=hi) (h4:hi < 2 ^ 62)
  (q:R (Itr lo (hi - lo).toNat) H):wpAny (model X.prog X.w) X.A (pyIter (.ref s.heap.objs.size)) (PIE X pins σ tg R) E { s with heap:=s.heap.push { cls:=.type "range",data:=.fields #[.int lo t,.int hi u,.int 1 v] },toks:=tk }:=by
 refine wpAny_pyIter_range (IsRange.new ..) (small_one h1 h2 h3 h4) ?_
 have I1:Inv X pins σ H { s with heap:=s.heap.push { cls:=.type "range",data:=.fields #[.int lo t,.int hi u,.int 1 v] },toks:=tk }:=I.kept λb o e=>Heap.get?_push_of_some _ e
 refine⟨(s.heap.push { cls:=.type "range",data:=.fields #[.int lo t,.int hi u,.int 1 v] }).objs.size,[(s.heap.push { cls:=.type "range",data:=.fields #[.int lo t,.int hi u,.int 1 v] }).objs.size],_,_,H,rfl,
  I1.kept (t':=tk) λb o e=>Heap.get?_push_of_some _ e,oM _ lo (hi - lo).toNat,?_,λb hb=>?_,q⟩
 ·have e1:lo+((0:Nat):Int)*1=lo:=by simp
  have e2:(((hi - lo).toNat:Nat):Int) - ((0:Nat):Int)=Builtin.Range.rangeSize lo hi 1:=by rw [rangeSize_one];split<;>lia
  show IsRangeIter _ _ (lo+((0:Nat):Int)*1) ((((hi - lo).toNat:Nat):Int) - ((0:Nat):Int)) 1
  rw [e1,e2]
  exact Heap.get?_push_size _ rfl
 ·have e:b=(s.heap.push { cls:=.type "range",data:=.fields #[.int lo t,.int hi u,.int 1 v] }).objs.size:=by simpa using hb
  subst e
  exact I1.fpOk (Nat.le_refl _) (I1.hok.fresh (Nat.le_refl _))
noncomputable def zl (ta:TA):TI:=λσ H R=>ta σ H λvs H1=>∃ j:Int,vs=[.int j]/\-(2 ^ 62)<=j/\j < 2 ^ 62/\R (Itr 0 j.toNat) H1
theorem qA {a:Expr}{ta:TA}{p pos:Pos} (hg:Gl X "range") (hm:X.mg "range" = none) (ha:PA X [a] ta) (hs:starEach [a] X.env=[(false,eval a X.env)]:=by rfl):PI X tg (.Call (.Name "range" p) [a] [] pos) (zl ta):=by
 intro pins s σ H R I h
 refine Call_ (mQ I hg hm boot_range (PyProof.Rows.callWith_type1 (thn (ha pos pins s σ H _ I h) λus s1 ⟨vs,H1,I1,r1,q1⟩=>?_) hs rfl))
 obtain⟨j,e,q1,q2,q⟩:=q1
 subst e
 cases r1 with
 | cons r rr=>
  cases rr
  obtain⟨t,rfl⟩:=r
  exact call_range_1 (sM I1 (by lia) (by lia) q1 q2 (by simpa using q))
noncomputable def zE (wi:TI) (g:TG) (tb:TS):TS:=λD σ H=>wi σ H λJ H1=>∃ W:Nat->Nat->St->Hp->Prop,(∃ m,W 0 m σ H1)/\∀ i m σ H,W i m σ H->
 (J.stop i H/\D.nx σ H)\/(J.go i H/\∃ N:St->Hp->Prop,(∀ σ' H',N σ' H'->∃ m',m' < m/\W (i+1) m' σ' H')/\∀ x H',J.yld i H x H'->g x σ H' λσ2 H2=>tb { D with nx:=N,ct:=N,bk:=D.nx } σ2 H2)
noncomputable def j7 (fp:List Addr) (h:Heap):List (Addr×Obj):=fp.filterMap λb=>(h.get? b).map λo=>(b,o)
theorem e8 {fp:List Addr}{h:Heap}{b:Addr}{o:Obj} (hb:b ∈ fp) (e:h.get? b=some o):(b,o) ∈ j7 fp h:=List.mem_filterMap.mpr ⟨b,hb,by rw [e];rfl⟩
theorem qh {fp:List Addr}{h:Heap}{p:Addr×Obj} (hp:p ∈ j7 fp h):p.1 ∈ fp/\h.get? p.1=some p.2:=by
 obtain⟨b,hb,e⟩:=List.mem_filterMap.mp hp
 cases q:h.get? b with
 | none=>rw [q] at e;cases e
 | some o=>
  rw [q] at e
  have e':(b,o)=p:=Option.some.inj e
  subst e'
  exact⟨hb,q⟩
theorem Inv.pinned {pins:List (Addr×Obj)}{σ:St}{H:Hp}{s:Shared}{fp:List Addr} (I:Inv X pins σ H s) (hf:∀ b ∈ fp,nw X pins H b) (ho:∀ b ∈ fp,∃ o,s.heap.get? b=some o/\∀ v,o.data≠.cell v):Inv X (pins++j7 fp s.heap) σ H s:=
 I.pins_of λp hp=>(List.mem_append.mp hp).elim (λz=>I.pin p (List.mem_append_right _ z)) λz=>by
  obtain⟨hb,e⟩:=qh z
  obtain⟨f0,f1,f2,_⟩:=hf p.1 hb
  obtain⟨o,e',d⟩:=ho p.1 hb
  rw [e] at e';cases e'
  exact⟨e,f0,f1,f2,d⟩
theorem Inv.unpinned {pins pl:List (Addr×Obj)}{σ:St}{H:Hp}{s:Shared} (I:Inv X (pins++pl) σ H s):Inv X pins σ H s:=I.pins_of λp hp=>I.pin p (List.mem_append_right _ (List.mem_append_left _ hp))
theorem xJ {iter:Expr}{body:List Stmt}{wi:TI}{g:TG}{tb:TS}{pos:Pos} (hp:PassesOwn (model X.prog X.w) X.A X.env X.xe) (hc:X.calm=true) (hi:PI X tg iter wi) (hg:PG X tg g) (hb:PSs X body tb)
  (hs:∀ x,foldedSetIterable iter X.env x=pure x:=by intro _;rfl):PS X (.For tg iter body [] pos) (zE wi g tb):=by
 intro pins s σ H D I h
 refine wpAny_For (thn (hi pins s σ H _ I h) λv s1 h1=>thn h1 λitv s2 h2=>?_) hs
 obtain⟨it,fp,tn,J,H2,e,I2,T,st2,f2,W,⟨m0,w0⟩,turn⟩:=h2
 subst e
 -- what stays true of the iterator's objects through the loop
 have stat:∀ {H':Hp},(∀ b ∈ fp,H' b=none)->∀ b ∈ fp,nw X pins H' b:=λhn b hb=>⟨hn b hb,(f2 b hb).2⟩
 refine codeAny_forLoop_any (λn s'=>∃ i σ' H',Inv X pins σ' H' s'/\tn i s'.heap/\(∀ b ∈ fp,H' b=none)/\W i n σ' H') ?_ m0 ⟨0,σ,H2,I2,st2,λb hb=>(f2 b hb).1,w0⟩
 rintro n s3 ⟨i,σ3,H3,I3,st3,fr3,w3⟩
 rcases turn i n σ3 H3 w3 with⟨stop,qn⟩ | ⟨go,N,hN,step⟩
 ·refine wpAny_passesOwn hp (thn (T.done X rfl rfl rfl hc i pins s3 σ3 H3 X.xe I3 (stat fr3) st3 stop) λr s4 ⟨hr,I4⟩=>?_)
  subst hr
  exact wpAny_execs_nil ⟨σ3,H3,I4,qn⟩
 ·refine wpAny_passesOwn hp (thn (T.item X rfl rfl rfl hc i pins s3 σ3 H3 X.xe I3 (stat fr3) st3 go) λr s4 ⟨u,hr,h4⟩=>?_)
  subst hr
  refine wpAny_passesOwn hp (thn h4 λ_ s5 ⟨x,H5,I5,r5,y5,st5,fr5⟩=>?_)
  have I5':=I5.pinned (stat fr5) (T.obj _ _ st5)
  refine wpAny_passesOwn hp (thn (hg _ s5 σ3 H5 x u _ I5' r5 (step x H5 y5)) λ_ s6 ⟨σ6,H6,I6,q6⟩=>?_)
  refine wpAny_passesOwn hp (thn (hb _ s6 σ6 H6 _ I6 q6) λf s7 q7=>?_)
  have again:∀ {σ7:St}{H7:Hp},Inv X (pins++j7 fp s5.heap) σ7 H7 s7->N σ7 H7->∃ m,m < n/\∃ i σ' H',Inv X pins σ' H' s7/\tn i s7.heap/\(∀ b ∈ fp,H' b=none)/\W i m σ' H':=λ{σ7 H7} I7 n7=>by
   obtain⟨m',hm,w7⟩:=hN σ7 H7 n7
   refine⟨m',hm,i+1,σ7,H7,I7.unpinned,T.keep _ _ _ st5 λb hb o e=>(I7.pin (b,o) (List.mem_append_right _ (List.mem_append_right _ (e8 hb e)))).1,λb hb=>?_,w7⟩
   obtain⟨o,e,d⟩:=T.obj _ _ st5 b hb
   exact (I7.pin (b,o) (List.mem_append_right _ (List.mem_append_right _ (e8 hb e)))).2.1
  cases f with
  | next=>obtain⟨σ7,H7,I7,n7⟩:=q7;exact again I7 n7
  | cont=>obtain⟨σ7,H7,I7,n7⟩:=q7;exact again I7 n7
  | brk=>obtain⟨σ7,H7,I7,q7⟩:=q7;exact⟨σ7,H7,I7.unpinned,q7⟩
  | ret v=>obtain⟨x7,σ7,H7,I7,r7,q7⟩:=q7;exact⟨x7,σ7,H7,I7.unpinned,r7,q7⟩
end
end L2
namespace L2
open PySem PySem.Spec PyProof.Rows
abbrev R2:=V->V->Hp->VK->Prop
noncomputable def OpR (X:Cx) (f:Value->Value->Sem Value) (r:R2):Prop:=
 ∀ (pins:List (Addr×Obj)) (s:Shared) (σ:St) (H:Hp) (x y:V) (v u:Value) (Q:VK),Inv X pins σ H s->az x v->az y u->r x y H Q->
  wpAny (model X.prog X.w) X.A (f v u) (EP X pins σ Q) X.xe s
noncomputable def UnR (X:Cx) (f:Value->Sem Value) (r:V->Hp->VK->Prop):Prop:=
 ∀ (pins:List (Addr×Obj)) (s:Shared) (σ:St) (H:Hp) (x:V) (v:Value) (Q:VK),Inv X pins σ H s->az x v->r x H Q->
  wpAny (model X.prog X.w) X.A (f v) (EP X pins σ Q) X.xe s
noncomputable def cz (X:Cx) (f:Value) (r:List V->Hp->VK->Prop):Prop:=
 ∀ (pins:List (Addr×Obj)) (s:Shared) (σ:St) (H:Hp) (xs:List V) (us:List Value) (Q:VK),Inv X pins σ H s->aA xs us->r xs H Q->
  wpAny (model X.prog X.w) X.A (call f us) (EP X pins σ Q) X.xe s
noncomputable def zY (X:Cx) (r:V->Hp->(Bool->Hp->Prop)->Prop):Prop:=
 ∀ (pins:List (Addr×Obj)) (s:Shared) (σ:St) (H:Hp) (x:V) (v:Value) (Q:Bool->Hp->Prop),Inv X pins σ H s->az x v->r x H Q->
  wpAny (model X.prog X.w) X.A (truthy v) (TP X pins σ Q) X.xe s
noncomputable def tOp (r:R2) (ta tb:TE):TE:=λσ H Q=>ta σ H λx H1=>tb σ H1 λy H2=>r x y H2 Q
noncomputable def tUn (r:V->Hp->VK->Prop) (ta:TE):TE:=λσ H Q=>ta σ H λx H1=>r x H1 Q
noncomputable def rI (C:Int->Int->Prop) (g:Int->Int->V):R2:=λx y H Q=>∃ i j,x=.int i/\y=.int j/\C i j/\Q (g i j) H
noncomputable def rI0 (g:Int->Int->V):R2:=λx y H Q=>∃ i j,x=.int i/\y=.int j/\Q (g i j) H
noncomputable def rU (g:Int->V):V->Hp->VK->Prop:=λx H Q=>∃ i,x=.int i/\Q (g i) H
section
variable {X:Cx}{a b c:Expr}{ta tb tc:TE}{pos:Pos}
theorem wS (ha:PE X a ta) (hb:PE X b tb) {pins:List (Addr×Obj)}{s:Shared}{σ:St}{H:Hp}{R:V->V->Hp->Prop} (I:Inv X pins σ H s)
  (h:ta σ H λx H1=>tb σ H1 λy H2=>R x y H2) {Q:Value->Shared->Prop}{f:Value->Value->Sem Value}
  (hf:∀ v u s2 x y H2,Inv X pins σ H2 s2->az x v->az y u->R x y H2->wpAny (model X.prog X.w) X.A (f v u) Q X.xe s2) :
  wpAny (model X.prog X.w) X.A (eval a X.env) (λv s₁=>wpAny (model X.prog X.w) X.A (eval b X.env) (λu s₂=>wpAny (model X.prog X.w) X.A (f v u) Q X.xe s₂) X.xe s₁) X.xe s:=by
 refine thn (ha pins s σ H _ I h) λv s1 ⟨x,H1,I1,r1,q1⟩=>?_
 refine thn (hb pins s1 σ H1 _ I1 q1) λu s2 ⟨y,H2,I2,r2,q2⟩=>?_
 exact hf v u s2 x y H2 I2 r1 r2 q2
theorem y9 {op:Operator}{r:R2} (ho:OpR X (binaryOp op) r) (ha:PE X a ta) (hb:PE X b tb):PE X (.BinOp a op b pos) (tOp r ta tb):=by
 intro pins s σ H Q I h
 exact wpAny_BinOp (wS ha hb I h λv u s2 x y H2 I2 rx ry q=>ho pins s2 σ H2 x y v u Q I2 rx ry q)
theorem yn {op:UnaryOp}{r:V->Hp->VK->Prop} (ho:UnR X (unaryOp op) r) (ha:PE X a ta):PE X (.UnaryOp op a pos) (tUn r ta):=by
 intro pins s σ H Q I h
 exact UnaryOp_ (thn (ha pins s σ H _ I h) λv s1 ⟨x,H1,I1,r1,q1⟩=>ho pins s1 σ H1 x v Q I1 r1 q1)
theorem opI {f:Value->Value->Sem Value}{C:Int->Int->Prop}{g:Int->Int->Int}
  (rule:∀ (i j:Int) (t u:Tok) (s:Shared) (Q:Value->Shared->Prop) (E:Value->Shared->Prop),C i j->Q (.int (g i j) s.toks) { s with toks:=s.toks+1 }->wpAny (model X.prog X.w) X.A (f (.int i t) (.int j u)) Q E s) :
  OpR X f (rI C λi j=>.int (g i j)):=by
 intro pins s σ H x y v u Q I rx ry h
 obtain⟨i,j,rfl,rfl,hc,q⟩:=h
 obtain⟨t,rfl⟩:=rx
 obtain⟨t',rfl⟩:=ry
 exact rule i j t t' s _ _ hc ⟨.int (g i j),H,I.tok _,⟨_,rfl⟩,q⟩
theorem zO {f:Value->Value->Sem Value}{g:Int->Int->Int}
  (rule:∀ (i j:Int) (t u:Tok) (s:Shared) (Q:Value->Shared->Prop) (E:Value->Shared->Prop),Q (.int (g i j) s.toks) { s with toks:=s.toks+1 }->wpAny (model X.prog X.w) X.A (f (.int i t) (.int j u)) Q E s) :
  OpR X f (rI0 λi j=>.int (g i j)):=by
 intro pins s σ H x y v u Q I rx ry h
 obtain⟨i,j,rfl,rfl,q⟩:=h
 obtain⟨t,rfl⟩:=rx
 obtain⟨t',rfl⟩:=ry
 exact rule i j t t' s _ _ ⟨.int (g i j),H,I.tok _,⟨_,rfl⟩,q⟩
theorem uV {f:Value->Value->Sem Value}{g:Int->Int->Bool}
  (rule:∀ (i j:Int) (t u:Tok) (s:Shared) (Q:Value->Shared->Prop) (E:Value->Shared->Prop),Q (.bool (g i j)) s->wpAny (model X.prog X.w) X.A (f (.int i t) (.int j u)) Q E s) :
  OpR X f (rI0 λi j=>.bl (g i j)):=by
 intro pins s σ H x y v u Q I rx ry h
 obtain⟨i,j,rfl,rfl,q⟩:=h
 obtain⟨t,rfl⟩:=rx
 obtain⟨t',rfl⟩:=ry
 exact rule i j t t' s _ _ ⟨.bl (g i j),H,I,rfl,q⟩
noncomputable def zX (i j:Int):Prop:=0 < j/\j < 1073741824
noncomputable def kz (i j:Int):Prop:=0<=j/\j<=1000000/\i.natAbs < 2 ^ 64
noncomputable def rY (i j:Int):Prop:=(-(2 ^ 64) < i/\i < 2 ^ 64)\/(-(2 ^ 64) < j/\j < 2 ^ 64)
theorem rY.ok {i j:Int} (h:rY i j):IntMulOk i j:=by
 rcases h with⟨h1,h2⟩ | ⟨h1,h2⟩
 ·exact .of_left (intBits_le_64 h1 h2)
 ·exact .of_right (intBits_le_64 h1 h2)
theorem wN:OpR X (binaryOp .Add) (rI0 λi j=>.int (i+j)):=zO λ_ _ _ _ _ _ _ q=>add_int q
theorem tZ:OpR X (binaryOp .FloorDiv) (rI zX λi j=>.int (i / j)):=opI λi j _ _ _ _ _ hc q=>by
 have h1:(0:Int) < j:=hc.1
 have h2:j < 1073741824:=hc.2
 exact floordiv_int (by lia) (by rw [Int.fdiv_eq_ediv_of_nonneg i (by lia)];exact q) (.inl (PyProof.noPylong_small (by lia)))
theorem xH:OpR X (binaryOp .Mod) (rI (λ_ j=>0 < j) λi j=>.int (i % j)):=opI λi j _ _ _ _ _ hc q=>by
 have h1:(0:Int) < j:=hc
 exact mod_int' (by lia) (by rw [Int.fmod_eq_emod_of_nonneg i (by lia)];exact q)
theorem v8:OpR X (binaryOp .Pow) (rI kz λi j=>.int (i ^ j.toNat)):=opI λ_ _ _ _ _ _ _ hc q=>pow_int_small hc.1 hc.2.1 hc.2.2 q
theorem vY:OpR X (binaryOp .LShift) (rI kz λi j=>.int (i*2 ^ j.toNat)):=opI λ_ _ _ _ _ _ _ hc q=>lshift_int_small hc.1 hc.2.1 hc.2.2 q
theorem unI {f:Value->Sem Value}{g:Int->Int}
  (rule:∀ (i:Int) (t:Tok) (s:Shared) (Q:Value->Shared->Prop) (E:Value->Shared->Prop),Q (.int (g i) s.toks) { s with toks:=s.toks+1 }->wpAny (model X.prog X.w) X.A (f (.int i t)) Q E s) :
  UnR X f (rU λi=>.int (g i)):=by
 intro pins s σ H x v Q I rx h
 obtain⟨i,rfl,q⟩:=h
 obtain⟨t,rfl⟩:=rx
 exact rule i t s _ _ ⟨.int (g i),H,I.tok _,⟨_,rfl⟩,q⟩
theorem wM:UnR X (unaryOp .USub) (rU λi=>.int (-i)):=unI λ_ _ _ _ _ q=>neg_int q
end
section
variable {X:Cx}{a b c:Expr}{ta tb tc:TE}{pos:Pos}
theorem xl {pins:List (Addr×Obj)}{σ:St}{H:Hp}{s:Shared}{Q:VK}{k k':Bool} (I:Inv X pins σ H s) (q:Q (.bl k) H) (e:k=k'):EP X pins σ Q (.bool k') s:=by
 subst e
 exact⟨.bl k,H,I,rfl,q⟩
theorem yZ:OpR X (compareOp .Lt) (rI0 λi j=>.bl (decide (i < j))):=uV λ_ _ _ _ _ _ _ q=>lt_int q
theorem yc:OpR X (compareOp .LtE) (rI0 λi j=>.bl (decide (i<=j))):=uV λ_ _ _ _ _ _ _ q=>le_int q
theorem yE:OpR X (compareOp .Gt) (rI0 λi j=>.bl (decide (j < i))):=uV λ_ _ _ _ _ _ _ q=>gt_int q
theorem yr:OpR X (compareOp .GtE) (rI0 λi j=>.bl (decide (j<=i))):=uV λ_ _ _ _ _ _ _ q=>ge_int q
theorem t6:OpR X (compareOp .IsNot) (λx y H Q=>y=.non/\Q (.bl (!decide (x=.non))) H):=by
 intro pins s σ H x y v u Q I rx ry h
 obtain⟨rfl,q⟩:=h
 cases ry
 refine isnot_none_gen (xl I q ?_)
 cases x<;>first
  | (cases rx;rfl)
  | (obtain⟨t,rfl⟩:=rx;rfl)
theorem aX (b:Expr) {op:CmpOp} (h:op≠.In:=by decide) (h2:op≠.NotIn:=by decide):behindInMarks op b=false:=by
 have e1:(op==CmpOp.In)=false:=by cases op<;>first | rfl | exact absurd rfl h
 have e2:(op==CmpOp.NotIn)=false:=by cases op<;>first | rfl | exact absurd rfl h2
 cases b<;>simp [behindInMarks,e1,e2]
theorem pc {op:CmpOp}{r:R2} (ho:OpR X (compareOp op) r) (ha:PE X a ta) (hb:PE X b tb) (hm:behindInMarks op b=false):PE X (.Compare a [op] [b] pos) (tOp r ta tb):=by
 intro pins s σ H Q I h
 exact wpAny_Compare1 (wS ha hb I h λv u s2 x y H2 I2 rx ry q=>ho pins s2 σ H2 x y v u Q I2 rx ry q) hm
noncomputable def yp (t:TE):TT:=λσ H Q=>t σ H λx H'=>∃ k,x=.bl k/\Q k H'
theorem vk {op:CmpOp}{r:R2} (ho:OpR X (compareOp op) r) (ha:PE X a ta) (hb:PE X b tb) (hm:behindInMarks op b=false):PT X (.Compare a [op] [b] pos) (yp (tOp r ta tb)):=by
 intro pins s σ H Q I h
 refine wpAny_isTrue_Compare1 (thn (ha pins s σ H _ I h) λv s1 ⟨x,H1,I1,r1,q1⟩=>thn (hb pins s1 σ H1 _ I1 q1) λu s2 ⟨y,H2,I2,r2,q2⟩=>
  thn (ho pins s2 σ H2 x y v u _ I2 r1 r2 q2) λc s3 ⟨z,H3,I3,r3,k,e,q3⟩=>?_) hm
 subst e
 cases r3
 exact wpAny_truthy_bool ⟨H3,I3,q3⟩
noncomputable def vW (r r':R2) (ta tb tc:TE):TE:=λσ H Q=>ta σ H λx H1=>tb σ H1 λy H2=>r x y H2 λz H3=>∃ k,z=.bl k/\
 (if k=true then tc σ H3 λw' H4=>r' y w' H4 Q else Q (.bl false) H3)
theorem nu {op op':CmpOp}{r r':R2} (ho:OpR X (compareOp op) r) (ho':OpR X (compareOp op') r') (ha:PE X a ta) (hb:PE X b tb) (hc:PE X c tc)
  (hm:lastMarks [op,op'] [b,c]=false:=by with_unfolding_all rfl):PE X (.Compare a [op,op'] [b,c] pos) (vW r r' ta tb tc):=by
 intro pins s σ H Q I h
 refine Compare_chain (thn (ha pins s σ H _ I h) λv s1 ⟨x,H1,I1,r1,q1⟩=>chain_link (thn (hb pins s1 σ H1 _ I1 q1) λu s2 ⟨y,H2,I2,r2,q2⟩=>
  thn (ho pins s2 σ H2 x y v u _ I2 r1 r2 q2) λd s3 ⟨z,H3,I3,r3,k,e,q3⟩=>?_)) hm
 subst e
 cases r3
 refine wpAny_truthy_bool ?_
 cases k with
 | false=>exact ite_ff ⟨.bl false,H3,I3,rfl,q3⟩
 | true=>exact ite_tt (chain_last (thn (hc pins s3 σ H3 _ I3 q3) λw' s4 ⟨z',H4,I4,r4,q4⟩=>ho' pins s4 σ H4 y z' u w' Q I4 r2 r4 q4))
noncomputable def u0 (K:PySem.W.Frag) (x:V) (H:Hp) (k:Bool):Prop:=
 match x with
 | .non=>k=false
 | .bl b=>k=b
 | .int i=>k=(i != 0)
 | .str y=>y.length<=sizeLine/\k=((y.length:Int) != 0)
 | .byt y=>y.size<=sizeLine/\k=((y.size:Int) != 0)
 | .ref p=>(∃ xs,SqL K H p xs/\k=!xs.isEmpty)\/(∃ xs,SqT K H p xs/\k=!xs.isEmpty)\/∃ kvs,H p=some (.dK kvs)/\k=!kvs.isEmpty
 | _=>False
theorem oC {κ:Type}{kvs:List (κ×V)}{vs:List (κ×Value)} (r:KV kvs vs):(!vs.isEmpty)=!kvs.isEmpty:=by
 cases r<;>rfl
theorem jO {xs:List V}{its:List Value} (r:aA xs its):(!its.toArray.isEmpty)=!xs.isEmpty:=by
 cases r<;>simp
theorem gv:(sizeLine:Nat) < 2 ^ 63:=by rw [sizeLine_eq];decide
theorem xN:zY X (λx H Q=>∃ k,u0 X.K x H k/\Q k H):=by
 intro pins s σ H x v Q I rx h
 obtain⟨k,e,q⟩:=h
 have hl:=gv
 have hs:sizeLine=16777216:=sizeLine_eq
 cases x with
 | non=>
  cases rx
  have e':k=false:=e
  subst e'
  exact truthy_none ⟨H,I,q⟩
 | bl b=>
  cases rx
  have e':k=b:=e
  subst e'
  exact wpAny_truthy_bool ⟨H,I,q⟩
 | int i=>
  obtain⟨t,rfl⟩:=rx
  have e':k=(i != 0):=e
  subst e'
  exact PySem.P.truthy_int ⟨H,I,q⟩
 | str y=>
  obtain⟨t,rfl⟩:=rx
  obtain⟨hy,e'⟩:y.length<=sizeLine/\k=((y.length:Int) != 0):=e
  subst e'
  exact PySem.P.truthy_str (by lia) ⟨H,I.tok _,q⟩
 | byt y=>
  obtain⟨t,rfl⟩:=rx
  obtain⟨hy,e'⟩:y.size<=sizeLine/\k=((y.size:Int) != 0):=e
  subst e'
  exact PySem.W.truthy_bytes (by lia) ⟨H,I.tok _,q⟩
 | ref p=>
  cases rx
  have e':(∃ xs,SqL X.K H p xs/\k=!xs.isEmpty)\/(∃ xs,SqT X.K H p xs/\k=!xs.isEmpty)\/∃ kvs,H p=some (.dK kvs)/\k=!kvs.isEmpty:=e
  rcases e' with⟨xs,hx,e'⟩ | ⟨xs,hx,e'⟩ | ⟨kvs,hx,e'⟩
  ·subst e'
   obtain⟨its,r,pl,hz⟩:=I.list hx
   have hlen:=r.length
   exact wpAny_truthy_list pl.isList (by simp only [List.size_toArray];lia) ⟨H,I.tok _,by rw [jO r];exact q⟩
  ·subst e'
   obtain⟨its,r,pl,hz⟩:=I.tuple hx
   have hlen:=r.length
   exact truthy_tuple pl (by simp only [List.size_toArray];lia) ⟨H,I.tok _,by rw [jO r];exact q⟩
  ·subst e'
   obtain⟨hz,hS,vs,r,m⟩:kvs.length<=sizeLine/\(p==sysModules)=false/\∃ vs,KV kvs vs/\s.heap.DictOf (bR X.prog X.w) p vs:=I.hok p _ hx
   have hlen:kvs.length=vs.length:=Paired.length r
   exact wpAny_truthy_dict hS m (by lia) ⟨H,I.tok _,by rw [oC r];exact q⟩
 | _=>exact (show False from e).elim
theorem sP (ha:PE X a ta) (he:∀ whole,isTrue a X.env whole=(do let v <-whole;standAt a.pos;holding [v] (truthy v))) :
  PT X a (λσ H Q=>ta σ H λx H'=>∃ k,u0 X.K x H' k/\Q k H'):=by
 intro pins s σ H Q I h
 exact isTrue_plain (thn (ha pins s σ H _ I h) λv s1 ⟨x,H1,I1,r1,q1⟩=>xN pins s1 σ H1 x v Q I1 r1 q1) (he _)
theorem oA:OpR X (binaryOp .Add) (λx y H Q=>∃ i j,x=.str i/\y=.str j/\i.length+j.length<=sizeLine/\Q (.str (i++j)) H):=by
 intro pins s σ H x y v u Q I rx ry h
 obtain⟨i,j,rfl,rfl,hz,q⟩:=h
 obtain⟨t,rfl⟩:=rx
 obtain⟨t',rfl⟩:=ry
 exact add_str (λt' tk=>⟨.str (i++j),H,I.tok _,⟨_,rfl⟩,q⟩) hz
theorem fT {x:V}{us:List Value} (r:aA [x] us):∃ u,us=[u]/\az x u:=by
 cases r with
 | cons r1 r2=>cases r2;exact⟨_,rfl,r1⟩
theorem yD {x y:V}{us:List Value} (r:aA [x,y] us):∃ u w',us=[u,w']/\az x u/\az y w':=by
 cases r with
 | cons r1 r2=>
  cases r2 with
  | cons r3 r4=>cases r4;exact⟨_,_,rfl,r1,r3⟩
theorem rK:cz X (.builtin "abs") (λxs H Q=>∃ i,xs=[.int i]/\Q (.int (if i < 0 then -i else i)) H):=by
 intro pins s σ H xs us Q I r h
 obtain⟨i,rfl,q⟩:=h
 obtain⟨u,rfl,t,rfl⟩:=fT r
 exact call_abs_int λu tk=>⟨.int (if i < 0 then -i else i),H,I.tok _,⟨_,rfl⟩,q⟩
theorem pZ (hc:X.calm=true):cz X (.builtin "min") (λxs H Q=>∃ i j,xs=[.int i,.int j]/\Q (.int (if j < i then j else i)) H):=by
 intro pins s σ H xs us Q I r h
 obtain⟨i,j,rfl,q⟩:=h
 obtain⟨u,w',rfl,⟨t,rfl⟩,⟨t',rfl⟩⟩:=yD r
 refine min_two_ints (I.ok.hd hc) λh' tk k=>⟨_,H,I.kept k,?_,q⟩
 by_cases hj:j < i
 ·rw [if_pos hj,if_pos hj];exact⟨_,rfl⟩
 ·rw [if_neg hj,if_neg hj];exact⟨_,rfl⟩
theorem kI:cz X (.type "int") (λxs H Q=>(∃ i,xs=[.int i]/\Q (.int i) H)\/∃ k,xs=[.bl k]/\Q (.int (if k then 1 else 0)) H):=by
 intro pins s σ H xs us Q I r h
 rcases h with⟨i,rfl,q⟩ | ⟨k,rfl,q⟩
 ·obtain⟨u,rfl,t,rfl⟩:=fT r
  exact call_int_int ⟨.int i,H,I,⟨_,rfl⟩,q⟩
 ·obtain⟨u,rfl,r1⟩:=fT r
  cases r1
  exact call_int_bool ⟨.int (if k then 1 else 0),H,I.tok _,⟨_,rfl⟩,q⟩
theorem mw:cz X (.type "str") (λxs H Q=>∃ i,xs=[.int i]/\i.natAbs.log2 < 1920/\Q (.str (toString i)) H):=by
 intro pins s σ H xs us Q I r h
 obtain⟨i,rfl,hz,q⟩:=h
 obtain⟨u,rfl,t,rfl⟩:=fT r
 exact PySem.P.str_of_int hz ⟨.str _,H,I.tok _,⟨_,rfl⟩,q⟩
end
end L2
namespace L2
open PySem PySem.Spec PyProof.Rows
structure xG (h:Heap) (x dx C:Addr) (mA:Str->Option Value):Prop where
 obj:h.get? x=some (PySem.W.instObj C dx)
 ns:h.Ns1 dx mA
 ne:dx≠x
theorem pS {h:Heap}{dx:Addr}{mA:Str->Option Value} (n:h.Ns1 dx mA):∃ od,h.get? dx=some od/\∀ name,PySem.W.lookIn name od=some (mA name):=by
 obtain⟨o,es,ep,ho,hd,hk,_,hm⟩:=n
 refine⟨o,ho,λname=>?_⟩
 have e:=hm name
 unfold nsFind findBy at e
 rw [<-Array.find?_toList] at e
 unfold PySem.W.lookIn
 rw [hd]
 dsimp only
 split
 ·rename_i y q
  rw [q] at e
  exact congrArg some e
 ·rename_i q
  rw [q] at e
  have a:es.toList.any (·.refKey)=false:=by
   rw [List.any_eq_false]
   intro y hy
   obtain⟨z,t,hkey⟩:=hk y (Array.mem_toList_iff.mp hy)
   simp [DictEntry.refKey,hkey]
  have a':¬ es.toList.any (·.refKey)=true:=by rw [a];exact Bool.false_ne_true
  rw [if_neg a']
  exact congrArg some e
theorem xG.look {h:Heap}{x dx C:Addr}{mA:Str->Option Value} (I:xG h x dx C mA):∃ od,PySem.W.InstAt h x (PySem.W.instObj C dx) C (some od)/\∀ name,PySem.W.lookIn name od=some (mA name):=
 let ⟨od,ho,hl⟩:=pS I.ns
 ⟨od,⟨I.obj,rfl,rfl,ho⟩,hl⟩
section
variable {prog:Program}{w:World}{A:Around}{E:Value->Shared->Prop}{s:Shared}{K:PySem.W.Frag}{x dx C f:Addr}{mA:Str->Option Value}{name:Str}{v:Value}
end
theorem jJ.some_of {v:V}{o:Option Value} (r:jJ (some v) o):∃ u,o=some u/\az v u:=by
 cases o with
 | none=>exact (show False from r).elim
 | some u=>exact⟨u,rfl,r⟩
section
variable {P:Program}{w:World}{H H':Hp}{h h':Heap}{a C dx:Addr}{fs fs':List (Str×V)}
theorem uU (hok:HOk P w H h) (e:H a=some (.ins C dx fs)):∃ mA,xG h a dx C mA/\(∀ f,jJ (fs.lookup f) (mA f))/\PySem.Within mA (fs.map (·.1))/\fs.length<=1000/\H dx=some (.own a):=by
 obtain⟨d,z,ne,ob,mA,n,r,q⟩:=(show bw P w H h a (.ins C dx fs) from hok a _ e)
 exact⟨mA,⟨ob,n,ne⟩,r,q,z,d⟩
end
structure Cls (K:PySem.W.Frag) (C:Addr):Prop where
 pg:PySem.W.plainGet K C Str.empty=true
 hd:PySem.W.hasDictIn K C=true
 po:PySem.W.plainOver K C=true
 sa:PySem.W.findIn K (.ref C) "__setattr__" = some (some (.builtin "object.__setattr__"))
theorem Cls.get {K:PySem.W.Frag}{C:Addr} (c:Cls K C) (f:Str):PySem.W.plainGet K C f=true:=c.pg
section
variable {X:Cx}{pins:List (Addr×Obj)}{σ:St}{H:Hp}{s:Shared}{a C dx:Addr}{fs:List (Str×V)}{f:Str}{v:V}{A:Around}{E:Value->Shared->Prop}
end
section
variable {X:Cx}{o e value:Expr}{f:Str}{pos pos' tpos:Pos}{ta tv:TE}
end
section
variable {X:Cx}{pins:List (Addr×Obj)}{σ:St}{H:Hp}{s:Shared}{A:Around}{E:Value->Shared->Prop}{Q:Value->Shared->Prop}{c:Value}{b:Bool}
inductive iJ (K:PySem.W.Frag) (H:Hp):V->Value->Prop where
 | non:iJ K H .non (.type "NoneType")
 | bl (x:Bool):iJ K H (.bl x) (.type "bool")
 | int (i:Int):iJ K H (.int i) (.type "int")
 | str (x:Str):iJ K H (.str x) (.type "str")
 | flt (x:UInt64):iJ K H (.flt x) (.type "float")
 | lst {a:Addr}{xs:List V} (e:H a=some (.lst xs)):iJ K H (.ref a) (.type "list")
 | frz {a:Addr}{o:Obj}{xs:List V} (e:H a=some (.frz o (.lst xs))):iJ K H (.ref a) (.type "list")
 | tup {a:Addr}{xs:List V} (e:H a=some (.tup xs)):iJ K H (.ref a) (.type "tuple")
 | dK {a:Addr}{kvs:List (Key×V)} (e:H a=some (.dK kvs)):iJ K H (.ref a) (.type "dict")
 | dT {a:Addr}{kvs:List (List Key×V)} (e:H a=some (.dT kvs)):iJ K H (.ref a) (.type "dict")
 | ins {a C dx:Addr}{fs:List (Str×V)} (e:H a=some (.ins C dx fs)) (cl:Cls K C) (ha:PySem.W.findIn K (.ref C) "__class__" = some (some (.builtin "object.__class__")))
   (hn:PySem.W.specialIn K (.builtin "object.__class__") "__get__" = some (some (.builtin "getset_descriptor.__get__"))) (htk:PySem.W.takesIn K (.builtin "object.__class__")=some true)
   (hm:PySem.W.mroIn K C (.type "object")=some true):iJ K H (.ref a) (.ref C)
theorem ci {x:V}{u t:Value} (I:Inv X pins σ H s) (rx:az x u) (ty:iJ X.K H x t) (e:PySem.W.kitOne X.K t c=some b) (h:∀ tk,Q (.bool b) { s with toks:=tk }) :
  wpAny (model X.prog X.w) A (call (.builtin "isinstance") [u,c]) Q E s:=by
 cases ty with
 | non=>cases (show u=Value.none from rx);exact PySem.W.kia_one PySem.W.kitx_none I.kIn True.intro e (λz=>nomatch z) h
 | bl y=>cases (show u=Value.bool y from rx);exact PySem.W.kia_one PySem.W.kitx_bool I.kIn True.intro e (λz=>nomatch z) h
 | int i=>obtain⟨t,q⟩:=(show ∃ t,u=Value.int i t from rx);cases q;exact PySem.W.kia_one PySem.W.kitx_int I.kIn True.intro e (λz=>nomatch z) h
 | str y=>obtain⟨t,q⟩:=(show ∃ t,u=Value.str y t from rx);cases q;exact PySem.W.kia_one PySem.W.kitx_str I.kIn True.intro e (λz=>nomatch z) h
 | flt y=>obtain⟨t,q⟩:=(show ∃ t,u=Value.float y t from rx);cases q;exact PySem.W.kia_one PySem.W.kitx_float I.kIn True.intro e (λz=>nomatch z) h
 | @lst a xs ea=>
  cases (show u=Value.ref a from rx)
  obtain⟨_,_,n,_,h1⟩:=(show bw X.prog X.w H s.heap a (.lst xs) from I.hok a _ ea)
  exact PySem.W.kia_one PySem.W.kitx_list I.kIn ⟨_,h1,rfl⟩ e (λz=>nomatch z) h
 | @frz a ob xs ea=>
  cases (show u=Value.ref a from rx)
  obtain⟨_,_,_,n,_,h1⟩:=(show bw X.prog X.w H s.heap a (.frz ob (.lst xs)) from I.hok a _ ea)
  exact PySem.W.kia_one PySem.W.kitx_list I.kIn ⟨_,h1,rfl⟩ e (λz=>nomatch z) h
 | @tup a xs ea=>
  cases (show u=Value.ref a from rx)
  obtain⟨_,_,_,p⟩:=(show bw X.prog X.w H s.heap a (.tup xs) from I.hok a _ ea)
  obtain⟨o,h1,h2,_⟩:=p
  exact PySem.W.kia_one PySem.W.kitx_tuple I.kIn ⟨o,h1,h2⟩ e (λz=>nomatch z) h
 | @dK a kvs ea=>
  cases (show u=Value.ref a from rx)
  obtain⟨_,_,vs,_,p⟩:=(show bw X.prog X.w H s.heap a (.dK kvs) from I.hok a _ ea)
  obtain⟨o,es,ep,h1,h2,_⟩:=p
  exact PySem.W.kia_one PySem.W.kitx_dict I.kIn ⟨o,h1,h2.1⟩ e (λz=>nomatch z) h
 | @dT a kvs ea=>
  cases (show u=Value.ref a from rx)
  obtain⟨_,_,xs,_,o,es,ep,h1,h2,_⟩:=(show bw X.prog X.w H s.heap a (.dT kvs) from I.hok a _ ea)
  exact PySem.W.kia_one PySem.W.kitx_dict I.kIn ⟨o,h1,h2.1⟩ e (λz=>nomatch z) h
 | @ins a C dx fs ea cl ha hn htk hm=>
  cases (show u=Value.ref a from rx)
  obtain⟨mA,O,_⟩:=uU I.hok ea
  obtain⟨od,J,_⟩:=O.look
  exact PySem.W.kia_one (PySem.W.kitx_own (cl.get _) cl.hd ha hn htk hm) I.kIn J e (λz=>nomatch z) h
end
end L2
namespace L2
open PySem PySem.Spec PyProof.Rows
structure cg (k:Nat) (A:Around):Prop where
 hd:A.handled=none
 dp:A.depth+3*k+5 < recursionLimit
 un:A.units+16*k+200 < cLine
 gd:A.guards=some []
theorem cg.mono {j k:Nat}{A:Around} (r:cg k A) (h:j<=k):cg j A:=⟨r.hd,by have:=r.dp;lia,by have:=r.un;lia,r.gd⟩
theorem cg.deeper {k:Nat}{A:Around} (r:cg (k+1) A) (env:Env):cg k (A.deeper env):=
 ⟨r.hd,by have:=r.dp;show A.depth+1+3*k+5 < _;lia,by have:=r.un;show A.units+3+16*k+200 < _;lia,r.gd⟩
theorem cg.depth {k:Nat}{A:Around} (r:cg k A):A.depth < recursionLimit:=by have:=r.dp;lia
theorem cg.units {k:Nat}{A:Around} (r:cg k A):A.units+64 < cLine:=by have:=r.un;lia
theorem cg.units0 {k:Nat}{A:Around} (r:cg k A):A.units < cLine:=by have:=r.un;lia
noncomputable def zy:TA:=λ_ H Q=>Q [] H
noncomputable def zk (ta:TE) (tr:TA):TA:=λσ H Q=>ta σ H λx H1=>tr σ H1 λxs H2=>Q (x::xs) H2
section
variable {X:Cx}{e:Expr}{es:List Expr}{te:TE}{t:TA}{pos:Pos}
theorem wd:PA X [] zy:=λ_ _ _ _ H Q I h=>Calls.spliced_nil ⟨[],H,I,.nil,h⟩
theorem ve (ha:PE X e te) (hr:PA X es t) (hs:starEach (e::es) X.env=(false,eval e X.env)::starEach es X.env:=by rfl):PA X (e::es) (zk te t):=by
 intro pos pins s σ H Q I h
 rw [hs]
 show wpAny _ _ (spliced ((false,eval e X.env)::backTo pos (starEach es X.env))) _ _ s
 refine Calls.spliced_cons (thn (ha pins s σ H _ I h) λu s1 ⟨x,H1,I1,r1,q1⟩=>?_)
 exact thn (hr pos pins s1 σ H1 _ I1 q1) λus s2 ⟨xs,H2,I2,r2,q2⟩=>⟨x::xs,H2,I2,.cons r1 r2,q2⟩
noncomputable def zC (t:TA):TE:=λσ H Q=>t σ H λxs H1=>xs.length<=sizeLine/\∀ p,H1 p=none->Q (.ref p) (upd H1 p (.tup xs))
noncomputable def zv (t:TA):TE:=λσ H Q=>t σ H λxs H1=>xs.length<=sizeLine/\∀ p,H1 p=none->Q (.ref p) (upd H1 p (.lst xs))
theorem xY {x1} (h:PA X es t):PE X (.Tuple es x1 pos) (zC t):=by
 intro pins s σ H Q I hq
 refine wpAny_Tuple_spliced (thn (h pos pins s σ H _ I hq) λus s1 ⟨xs,H1,I1,r,z,q⟩=>⟨by rw [<-r.length];exact z,?_⟩)
 have hf:H1 s1.heap.objs.size=none:=I1.hok.fresh (Nat.le_refl _)
 refine⟨.ref s1.heap.objs.size,upd H1 s1.heap.objs.size (.tup xs),I1.laid (t':=s1.toks) (λb u e=>Heap.get?_push_of_some _ e) (Nat.le_refl _) ?_,rfl,q _ hf⟩
 exact⟨z,us,r,eO.new _ _⟩
theorem vX (h:PA X es t):PE X (.List es pos) (zv t):=by
 intro pins s σ H Q I hq
 refine wpAny_List_spliced (thn (h pos pins s σ H _ I hq) λus s1 ⟨xs,H1,I1,r,z,q⟩=>⟨by rw [<-r.length];exact z,?_⟩)
 have hf:H1 s1.heap.objs.size=none:=I1.hok.fresh (Nat.le_refl _)
 refine⟨.ref s1.heap.objs.size,upd H1 s1.heap.objs.size (.lst xs),I1.laid (t':=s1.toks) (λb u e=>Heap.get?_push_of_some _ e) (Nat.le_refl _) ?_,rfl,q _ hf⟩
 exact⟨z,us,0,r,Heap.get?_push_size _ rfl⟩
end
abbrev Sp:=List V->Hp->VK->XK->Prop
abbrev CXT:=List Env->Hp->Shared->XK->Value->Shared->Prop
structure vd (P:Program) (w:World) (K:PySem.W.Frag) (mg:Str->Option Value) (base:Heap) (A:Around) (outer:List Env) (s:Shared) (H:Hp):Prop where
 frames:A.frames=some outer
 mod:Mod K mg base
 bs:∀ b o,base.get? b=some o->s.heap.get? b=some o/\H b=none
 bsz:base.objs.size<=s.heap.objs.size
 funs:s.heap.FunFrames base outer
 frf:∀ b ∈ frs outer,H b=none
 hok:HOk P w H s.heap
 bare:AllBare s.gens
noncomputable def CE (outer:List Env) (P:Program) (w:World) (H:Hp) (s:Shared) (Q:VK) (u:Value) (s':Shared):Prop:=
 ∃ v H',s'.os=s.os/\AllBare s'.gens/\Un (frs outer) [] H H' s.heap s'.heap/\HOk P w H' s'.heap/\az v u/\Q v H'
noncomputable def CR (CX:CXT) (outer:List Env) (P:Program) (w:World) (H:Hp) (s:Shared) (Q:VK) (E:XK) (r:Result) (s':Shared):Prop:=
 match r with
 | .ok (.ret u)=>CE outer P w H s Q u s'
 | .ok _=>False
 | .error e=>CX outer H s E e s'
structure ck (P:Program) (w:World) (K:PySem.W.Frag) (mg:Str->Option Value) (base:Heap) (CX:CXT) (k:Nat) (f:Addr) (fd:FuncData) (ps:List Str) (sp:Sp):Prop where
 len:∀ vs H Q E,sp vs H Q E->vs.length=ps.length
 run:∀ (A:Around) (outer:List Env) (s:Shared) (H:Hp) (args:Args) (us:List Value) (vs:List V) (Q:VK) (E:XK),cg k A->vd P w K mg base A outer s H->BindsTo s fd args (ps.zip us)->aA vs us->sp vs H Q E->
  codeAny (model P w) A (.call (.ref f) args) (CR CX outer P w H s Q E) s
theorem ck.mono {P:Program}{w:World}{K:PySem.W.Frag}{mg:Str->Option Value}{base:Heap}{CX:CXT}{j k:Nat}{f:Addr}{fd:FuncData}{ps:List Str}{sp:Sp} (F:ck P w K mg base CX j f fd ps sp) (h:j<=k) :
  ck P w K mg base CX k f fd ps sp:=⟨F.len,λA outer s H args us vs Q E hr=>F.run A outer s H args us vs Q E (hr.mono h)⟩
section
variable {X:Cx}{pins:List (Addr×Obj)}{σ:St}{H:Hp}{s s':Shared}
theorem Inv.env0 (I:Inv X pins σ H s):vd X.prog X.w X.K X.mg X.base X.A X.stack s H:=
 ⟨I.ok.frames,I.ok.mod,I.bs,Nat.le_trans I.ok.bsz I.sz,I.stack,I.stkFree,I.hok,I.bare⟩
theorem Inv.after {Q:VK}{u:Value} (I:Inv X pins σ H s) (h:CE X.stack X.prog X.w H s Q u s'):EP X pins σ Q u s':=by
 obtain⟨v,H',os,bare,un,hok,r,q⟩:=h
 obtain⟨hh,g,d,t,os'⟩:=s'
 obtain rfl:os'=s.os:=os
 exact⟨v,H',I.call (h':=hh) (g':=g) (d':=d) (t':=t) (ch:=[]) un hok bare (λb z=>absurd z (by simp)),r,q⟩
end
noncomputable def yS (sp:Sp) (dvs:List V) (E:XK) (t:TA):TE:=λσ H Q=>t σ H λvs H1=>sp (vs++dvs) H1 Q E
noncomputable def bK (K:PySem.W.Frag) (fd:FuncData) (ps:List Str) (ds:List Value):Prop:=
 ∀ (s:Shared) (us:List Value),K.In s.heap->(us++ds).length=ps.length->BindsTo s fd ⟨us,[]⟩ (ps.zip (us++ds))
theorem bK.all {K:PySem.W.Frag}{fd:FuncData}{ps:List Str} (h:∀ us:List Value,us.length=ps.length->bindArgs fd ⟨us,[]⟩=pure (ps.zip us)):bK K fd ps []:=λs us _ hl=>by
 rw [List.append_nil] at hl ⊢
 exact .of_eq (h us hl)
noncomputable def oH (CX:CXT) (X:Cx) (E:XK):Prop:=∀ (pins:List (Addr×Obj)) (σ:St) (H:Hp) (s:Shared) (e:Value) (s':Shared),Inv X pins σ H s->CX X.stack H s E e s'->X.xe e s'
section
variable {X:Cx}{CX:CXT}{k:Nat}{f C:Addr}{fd:FuncData}{ps:List Str}{sp:Sp}{dvs:List V}{ds:List Value}{E:XK}{x m:Str}{p pos apos:Pos}{e o:Expr}{es:List Expr}{ta:TE}{t:TA}
theorem wc {pins:List (Addr×Obj)}{σ:St}{H:Hp}{s:Shared}{Q:VK}{us:List Value}{vs:List V} (F:ck X.prog X.w X.K X.mg X.base CX k f fd ps sp) (hr:cg k X.A) (hb:bK X.K fd ps ds) (hd:aA dvs ds) (hx:oH CX X E)
  (I:Inv X pins σ H s) (r:aA vs us) (h:sp (vs++dvs) H Q E):wpAny (model X.prog X.w) X.A (call (.ref f) us) (EP X pins σ Q) X.xe s:=by
 have r2:aA (vs++dvs) (us++ds):=r.append hd
 have hl:(us++ds).length=ps.length:=by rw [<-r2.length];exact F.len _ _ _ _ h
 refine wpAny_call (codeAny_mono (F.run X.A X.stack s H ⟨us,[]⟩ (us++ds) (vs++dvs) Q E hr I.env0 (hb s us I.kIn hl) r2 h) λr s' hq=>?_)
 cases r with
 | error e=>exact hx pins σ H s e s' I hq
 | ok fl=>
  cases fl with
  | ret u=>exact I.after hq
  | next=>exact False.elim hq
  | brk=>exact False.elim hq
  | cont=>exact False.elim hq
theorem vh (F:ck X.prog X.w X.K X.mg X.base CX k f fd ps sp) (hr:cg k X.A) (hg:Gl X x) (hm:X.mg x=some (.ref f)) (hk:PySem.W.keepIn X.K (.ref f)=true) (hb:bK X.K fd ps ds) (hd:aA dvs ds) (hx:oH CX X E)
  (ha:PA X (e::es) t) (hdb:(x==("__debug__" : Str))=false:=by decide) (he:starEach (e::es) X.env=(false,eval e X.env)::starEach es X.env:=by rfl) (hpl:(backTo pos (starEach es X.env)).any (·.1)=false:=by rfl) :
  PE X (.Call (.Name x p) (e::es) [] pos) (yS sp dvs E t):=by
 intro pins s σ H Q I h
 refine wpAny_Call_Name_kw (pr I hg hm ?_ hdb)
 refine PySem.W.callWith_K (h₀:=X.base) I.ok.mod.kin hk (thn (ha pos pins s σ H _ I h) λus s1 ⟨vs,H1,I1,r,q⟩=>⟨I1.kIn,?_⟩) he hpl
 exact wc F hr hb hd hx I1 r q
end
section
variable {X:Cx}{CX:CXT}{k:Nat}{f C:Addr}{fd:FuncData}{ps ks:List Str}{sp:Sp}{E:XK}{x m:Str}{p pos apos kpos:Pos}{e o:Expr}{es:List Expr}{kws:List Keyword}{te ta:TE}{t tk:TA}{nm:Option Str}
variable {g:List Value->List Value->List Value}{gV:List V->List V->List V}
end
structure aQ (N P:List Str) (sc:Scope):Prop where
 kind:sc.kind=.function
 co:sc.isCoroutine=false
 gen:sc.isGenerator=false
 nd:N.Nodup
 pre:N.take P.length=P
 par:∀ x ∈ P,sc.names.lookup x=some .local\/sc.names.lookup x=some .cell
 nofree:∀ y ∈ sc.names,y.2≠.free
theorem kJ {kindOf:Str->Option NameKind}{x:Str}:∀ {binds:List (Str×Value)}{m:Str->Option Value},(∀ v,(x,v) ∉ binds)->bindL kindOf binds m x=m x
 | [],_,_=>rfl
 | (n,v)::r,m,h=>by
  unfold bindL
  rw [kJ λw hw=>h w (List.mem_cons_of_mem _ hw)]
  split
  ·have:x≠n:=by rintro rfl;exact h v List.mem_cons_self
   simp [this]
  ·rfl
theorem kK {kindOf:Str->Option NameKind}{x:Str}:∀ {binds:List (Str×Value)}{m:Str->Option Value},(∀ v,(x,v) ∉ binds)->bindC kindOf binds m x=m x
 | [],_,_=>rfl
 | (n,v)::r,m,h=>by
  unfold bindC
  rw [kK λw hw=>h w (List.mem_cons_of_mem _ hw)]
  split
  ·rfl
  ·have:x≠n:=by rintro rfl;exact h v List.mem_cons_self
   simp [this]
theorem lh {kindOf:Str->Option NameKind}{x:Str}{v:Value}:∀ {P:List Str}{vs:List Value}{i:Nat}{m:Str->Option Value},P.Nodup->P[i]?=some x->vs[i]?=some v->kindOf x=some .local->
  bindL kindOf (P.zip vs) m x=some v
 | [],_,_,_,_,h,_,_=>by simp at h
 | _::_,[],_,_,_,_,h,_=>by simp at h
 | p::P,w::vs,0,m,nd,h1,h2,hk=>by
  simp at h1 h2;subst h1;subst h2
  show bindL kindOf ((p,w)::P.zip vs) m p=_
  unfold bindL
  rw [kJ λv hv=>(List.nodup_cons.mp nd).1 (List.of_mem_zip hv).1,if_pos hk]
  simp
 | p::P,w::vs,i+1,m,nd,h1,h2,hk=>by
  show bindL kindOf ((p,w)::P.zip vs) m x=_
  unfold bindL
  exact lh (i:=i) (List.nodup_cons.mp nd).2 (by simpa using h1) (by simpa using h2) hk
theorem ln {kindOf:Str->Option NameKind}{x:Str}{v:Value}:∀ {P:List Str}{vs:List Value}{i:Nat}{m:Str->Option Value},P.Nodup->P[i]?=some x->vs[i]?=some v->kindOf x≠some .local->
  bindC kindOf (P.zip vs) m x=some v
 | [],_,_,_,_,h,_,_=>by simp at h
 | _::_,[],_,_,_,_,h,_=>by simp at h
 | p::P,w::vs,0,m,nd,h1,h2,hk=>by
  simp at h1 h2;subst h1;subst h2
  show bindC kindOf ((p,w)::P.zip vs) m p=_
  unfold bindC
  rw [kK λv hv=>(List.nodup_cons.mp nd).1 (List.of_mem_zip hv).1,if_neg hk]
  simp
 | p::P,w::vs,i+1,m,nd,h1,h2,hk=>by
  show bindC kindOf ((p,w)::P.zip vs) m x=_
  unfold bindC
  exact ln (i:=i) (List.nodup_cons.mp nd).2 (by simpa using h1) (by simpa using h2) hk
noncomputable def start (N:List Str) (vs:List V):St:=vs.map some++List.replicate (N.length - vs.length) none
noncomputable def lA (CX:CXT) (P:Program) (w:World) (K:PySem.W.Frag) (mg:Str->Option Value) (base:Heap) (N:List Str) (qual:Str) (scope:Scope) (f:Addr) (cd:Value) (A:Around) (outer:List Env) (s:Shared) (H:Hp) (E:XK):Cx where
 prog:=P
 w:=w
 K:=K
 mg:=mg
 base:=base
 A:=A.deeper (envOfC qual scope s.heap.objs.size f cd)
 N:=N
 s₀:=s
 H₀:=H
 env:=envOfC qual scope s.heap.objs.size f cd
 outer:=outer
 stack:=envOfC qual scope s.heap.objs.size f cd::outer
 ex:=[]
 calm:=true
 fn:=λ_=>true
 pn:=[]
 xe:=λe s'=>wpAny (model P w) (A.deeper (envOfC qual scope s.heap.objs.size f cd)) (leaving (envOfC qual scope s.heap.objs.size f cd) e) (λ_ s''=>CX outer H s E e s'') (λe' s''=>CX outer H s E e' s'') s'
theorem nr {sc:Scope}{n:Nat}{x:Str} (h:sc.names.lookup x=some .cell):∃ c,(cellsFrom n sc.names []).lookup x=some c:=by
 have q:=PySem.W.cellsFrom_some sc.names n [] (.inl h)
 exact Option.isSome_iff_exists.mp q
theorem qq {CX:CXT}{P:Program}{w:World}{K:PySem.W.Frag}{mg:Str->Option Value}{base:Heap}{N ps:List Str}{qual:Str}{scope:Scope}{f:Addr}{cd:Value}{A:Around}{outer:List Env}{s s1:Shared}{H:Hp}{E:XK}{us:List Value}{vs:List V}
  (S:aQ N ps scope) (hd:A.handled=none) (e0:vd P w K mg base A outer s H) (hl:vs.length=ps.length) (r:aA vs us)
  (x:InCallC s s.heap.objs.size (bindL (envOfC qual scope s.heap.objs.size f cd).kindOf (ps.zip us) λ_=>none) (cellsFrom (s.heap.objs.size+1) scope.names []) (bindC (envOfC qual scope s.heap.objs.size f cd).kindOf (ps.zip us) λ_=>none) s1) :
  Inv (lA CX P w K mg base N qual scope f cd A outer s H E) [] (start N vs) H s1:=by
 have hpl:ps.length<=N.length:=by have:=congrArg List.length S.pre;rw [List.length_take] at this;lia
 obtain⟨h1,tk,rfl,hk⟩:=x.done
 have noA:∀ b:Addr,b ∉ (lA CX P w K mg base N qual scope f cd A outer s H E).ex:=λb z=>absurd (show b ∈ ([]:List Addr) from z) (by simp)
 refine⟨⟨e0.mod,S.kind,rfl,rfl,Nat.le_refl _,λy z c h1 h2=>?_,λy hy=>?_,λy c _ h=>?_,λ_=>hd,Around.frames_deeper e0.frames,.inr ⟨rfl,rfl⟩,λb z=>absurd z (noA b),e0.bs,e0.bsz,λb _ _=>noA b,λb z=>absurd z (noA b),e0.funs,e0.frf⟩,
  rfl,e0.bare,Un.kept hk,⟨_,x.toInCall.ns,λi y v h1 h2 h3=>?_⟩,λy c h=>⟨_,x.cell y c h⟩,e0.hok.fresh (Nat.le_refl _),λy c h=>?_,λp hp=>absurd (show p ∈ ([]:List (Addr×Obj)) from hp) (by simp),e0.hok.kept hk,?_⟩
 ·exact name_of_addr x.apart (PySem.mem_of_lookup h1) (PySem.mem_of_lookup h2)
 ·have hy:scope.names.lookup y=some .cell\/scope.names.lookup y=some .free:=hy
  rcases hy with hy | hy
  ·exact nr hy
  ·exact absurd rfl (S.nofree _ (PySem.mem_of_lookup hy))
 ·exact Nat.le_of_lt (x.above y c (PySem.mem_of_lookup h))
 ·have hi:i < vs.length:=by
   unfold start at h2
   by_cases hi:i < vs.length
   ·exact hi
   ·rw [List.getElem?_append_right (by simpa using hi)] at h2
    rw [List.getElem?_replicate] at h2
    split at h2<;>cases h2
  have ha:vs[i]?=some v:=by
   unfold start at h2
   rw [List.getElem?_append_left (by simpa using hi),List.getElem?_map] at h2
   cases e:vs[i]? with
   | none=>rw [e] at h2;cases h2
   | some a=>rw [e] at h2;cases h2;rfl
  obtain⟨u,hu,rv⟩:=r.get ha
  have hp:ps[i]?=some y:=by
   rw [<-S.pre,List.getElem?_take_of_lt (by lia)];exact h1
  have ndP:ps.Nodup:=by rw [<-S.pre];exact S.nd.sublist (List.take_sublist _ _)
  refine⟨u,rv,?_⟩
  rcases S.par y (List.mem_of_getElem? hp) with k | k
  ·exact .inl ⟨k,lh ndP hp hu k⟩
  ·obtain⟨c,e⟩:=nr (n:=s.heap.objs.size+1) k
   refine .inr ⟨.inl k,c,e,?_⟩
   have q:=x.cell y c e
   rw [ln ndP hp hu (by show scope.names.lookup y≠_;rw [k];decide)] at q
   exact q
 ·exact e0.hok.fresh (Nat.le_of_lt (x.above y c (PySem.mem_of_lookup h)))
 ·unfold start
  show _=N.length
  rw [List.length_append,List.length_map,List.length_replicate]
  lia
theorem y4 {CX:CXT}{P:Program}{w:World}{K:PySem.W.Frag}{mg:Str->Option Value}{base:Heap}{k:Nat}{f:Addr}{name qual:Str}{params:Arguments}{body:List Stmt}{scope:Scope}{dV kV doc pm cdv ct oc:Value}{an od:Option Addr}
  {osl:Array (Option Value)}{N ps:List Str}{sp:Sp} (lk:K.lookup f=some ⟨oc,od,.func (PySem.W.fnOf name qual params body scope dV kV doc pm an cdv ct),osl⟩) (hcd:PySem.W.codeIn K cdv qual=true) (S:aQ N ps scope)
  (len:∀ vs H Q E,sp vs H Q E->vs.length=ps.length)
  (hbody:∀ (A:Around) (outer:List Env) (s:Shared) (H:Hp) (vs:List V) (Q:VK) (E:XK),cg k (A.deeper (envOfC qual scope s.heap.objs.size f cdv))->sp vs H Q E->
    ∃ t,PSs (lA CX P w K mg base N qual scope f cdv A outer s H E) body t/\t { nx:=λ_ H'=>Q .non H',rt:=Q } (start N vs) H) :
  ck P w K mg base CX (k+1) f (PySem.W.fnOf name qual params body scope dV kV doc pm an cdv ct) ps sp:=by
 refine⟨len,λA outer s H args us vs Q E hr e0 hb r hsp=>?_⟩
 have hl:=len _ _ _ _ hsp
 have KX:K.In s.heap:=e0.mod.kin.keeps λb o e=>(e0.bs b o e).1
 have lim:s.heap.NoLimit:=e0.mod.nolimit.keeps λb o e=>(e0.bs b o e).1
 have hkind:∀ y ∈ ps.zip us,scope.names.lookup y.1=some .local\/(scope.names.lookup y.1=some .cell/\((cellsFrom (s.heap.objs.size+1) scope.names []).lookup y.1).isSome=true):=λ⟨n,v⟩ hy=>by
  rcases S.par n (List.of_mem_zip hy).1 with q | q
  ·exact .inl q
  ·exact .inr ⟨q,PySem.W.cellsFrom_some _ _ _ (.inl q)⟩
 refine codeAny_call_function hr.depth (KX _ _ lk) rfl S.co S.gen rfl (PySem.W.codeRec_of KX hcd) (hb _ _ _ _ ?_)
 refine wpAny_newFunctionEnv_cells S.kind hkind λenv he s1 x=>?_
 subst he
 refine⟨lim.keeps x.toInCall.keep,codeAny_func ?_⟩
 obtain⟨t,ht,hq⟩:=hbody A outer s H vs Q E (hr.deeper _) hsp
 have I:Inv (lA CX P w K mg base N qual scope f cdv A outer s H E) [] (start N vs) H s1:=qq S hr.hd e0 hl r x
 refine wpAny_mono (ht [] s1 (start N vs) H _ I hq) (λfl s' hs=>?_) λe s' hs=>hs
 have fin:∀ {σ':St}{H':Hp}{v:V}{u:Value},Inv (lA CX P w K mg base N qual scope f cdv A outer s H E) [] σ' H' s'->az v u->Q v H'->CE outer P w H s Q u s':=
  λ{σ' H' v u} J rv q=>⟨v,H',J.os,J.bare,J.base,J.hok,rv,q⟩
 cases fl with
 | ret u=>
  obtain⟨v,σ',H',J,rv,q⟩:=hs
  exact fin J rv q
 | next=>
  obtain⟨σ',H',J,q⟩:=hs
  exact fin (v:=V.non) (u:=Value.none) J rfl q
 | brk=>
  obtain⟨_,_,_,q⟩:=hs
  exact False.elim q
 | cont=>
  obtain⟨_,_,_,q⟩:=hs
  exact False.elim q
end L2
namespace L2
open PySem PySem.Spec PyProof.Rows
section
variable {X:Cx}{x:Str}{p pos:Pos}{e:Expr}{es:List Expr}{t:TA}{id T:String}{r:List V->Hp->VK->Prop}
noncomputable def tCB (r:List V->Hp->VK->Prop) (t:TA):TE:=λσ H Q=>t σ H λvs H1=>r vs H1 Q
theorem nV (hc:cz X (.builtin id) r) (hg:Gl X x) (hm:X.mg x=none) (hv:bootBuiltins x=some (.builtin id)) (ha:PA X (e::es) t) (hn:x≠"__name__":=by decide) (hdb:(x==("__debug__" : Str))=false:=by decide)
  (he:starEach (e::es) X.env=(false,eval e X.env)::starEach es X.env:=by rfl) (hpl:(backTo pos (starEach es X.env)).any (·.1)=false:=by rfl):PE X (.Call (.Name x p) (e::es) [] pos) (tCB r t):=by
 intro pins s σ H Q I h
 refine wpAny_Call_Name_kw (mQ I hg hm hv ?_ hn hdb)
 exact PyProof.Rows.callWith_builtin1 (thn (ha pos pins s σ H _ I h) λus s1 ⟨vs,H1,I1,r1,q1⟩=>hc pins s1 σ H1 vs us Q I1 r1 q1) he hpl
theorem ql (hc:cz X (.type T) r) (hg:Gl X x) (hm:X.mg x=none) (hv:bootBuiltins x=some (.type T)) (ha:PA X (e::es) t) (hn:x≠"__name__":=by decide) (hdb:(x==("__debug__" : Str))=false:=by decide)
  (he:starEach (e::es) X.env=(false,eval e X.env)::starEach es X.env:=by rfl) (hpl:(backTo pos (starEach es X.env)).any (·.1)=false:=by rfl):PE X (.Call (.Name x p) (e::es) [] pos) (tCB r t):=by
 intro pins s σ H Q I h
 refine wpAny_Call_Name_kw (mQ I hg hm hv ?_ hn hdb)
 exact PyProof.Rows.callWith_type1 (thn (ha pos pins s σ H _ I h) λus s1 ⟨vs,H1,I1,r1,q1⟩=>hc pins s1 σ H1 vs us Q I1 r1 q1) he hpl
end
end L2
namespace HT
open PySem PyProof.Rows
theorem sq (A:Around) (s:Shared) (a:Int) (t:Tok) (c:Int) (u:Tok):∃ e,SeqAt.EqAt A s (.int a t) (.int c u) e/\(e=true↔a=c):=
 ⟨(a==c),SeqAt.EqAt.int_int a t c u,by simp⟩
section
open PySem.SeqAt
open PySem.AutoSeq1 (wpAny_loadPart')
open PySem.MeetsSeq PySem.MeetsSeq2 PySem.MeetsSeq3
end
section
variable {prog:Program}{w:World}{A:Around}{E:Value->Shared->Prop}{s:Shared}
theorem cat_tup {t b:Addr}{vs ws:List Value}{Q:Value->Shared->Prop} (ht:IsTup s.heap t vs.toArray) (hb:IsTup s.heap b ws.toArray) (hv:vs≠[])
  (h1:ws=[]->Q (.ref t) s) (h2:ws≠[]->Q (.ref s.heap.objs.size) { s with heap:=s.heap.push { cls:=.type "tuple",data:=.seq (vs++ws).toArray } })
  (hsz:vs.length+ws.length<=sizeLine):wpAny (model prog w) A (binaryOp .Add (.ref t) (.ref b)) Q E s:=by
 obtain⟨⟨cls,dd,data,sl⟩,ho,hc,n,hd⟩:=id ht
 obtain⟨⟨cls2,dd2,data2,sl2⟩,ho2,hc2,n2,hd2⟩:=id hb
 simp only at hc hd hc2 hd2
 subst hc hd hc2 hd2
 have e:vs.toArray++ws.toArray=(vs++ws).toArray:=by simp
 by_cases hw:ws=[]
 ·exact concat_meets ⟨_,ho,rfl⟩ ⟨_,ho2,rfl⟩ noFill_tuple_add seq_tuple_add PySem.F.slot_tuple_add PySem.F.entry_tuple_add (PySem.F.args_tuple_add_2 _ _)
   (tuple_addW1 t b vs.toArray ws.toArray n n2 dd dd2 sl sl2 (by simpa using hv) (by simp [hw])) ⟨ho,ho2,h1 hw⟩
 ·refine concat_meets ⟨_,ho,rfl⟩ ⟨_,ho2,rfl⟩ noFill_tuple_add seq_tuple_add PySem.F.slot_tuple_add PySem.F.entry_tuple_add (PySem.F.args_tuple_add_2 _ _)
   (tuple_addW2 t b vs.toArray ws.toArray n n2 dd dd2 sl sl2 (by simpa using hv) (by simpa using hw) (by rw [List.size_toArray,List.size_toArray];exact hsz)) ⟨ho,ho2,?_⟩
  rw [e]
  exact h2 hw
noncomputable def sIx (n d:Nat):Option Int->Nat
 | none=>d
 | some v=>if v < 0 then (v+(n:Int)).toNat else min v.toNat n
theorem sIx_none (n d:Nat):sIx n d none=d:=rfl
theorem sIx_nat (n d k:Nat):sIx n d (some (k:Int))=min k n:=by
 show (if (k:Int) < 0 then ((k:Int)+(n:Int)).toNat else min (k:Int).toNat n)=min k n
 rw [if_neg (by lia),Int.toNat_natCast]
theorem mi (n d:Nat) (hd:d<=n) (o:Option Int):sIx n d o<=n:=by
 cases o with
 | none=>exact hd
 | some v=>
  show (if v < 0 then (v+(n:Int)).toNat else min v.toNat n)<=n
  by_cases hv:v < 0
  ·rw [if_pos hv];lia
  ·rw [if_neg hv];exact Nat.min_le_right _ _
theorem pA (v:Int) (n d:Nat):(if v < 0 then max (v+(n:Int)) 0 else min v (n:Int))=((sIx n d (some v):Nat):Int):=by
 show (if v < 0 then max (v+(n:Int)) 0 else min v (n:Int))=(((if v < 0 then (v+(n:Int)).toNat else min v.toNat n):Nat):Int)
 by_cases hv:v < 0
 ·simp only [if_pos hv];lia
 ·simp only [if_neg hv];lia
theorem oB (lo hi:Option Int) (n:Nat):Builtin.Slice.sliceAdjust lo hi 1 (n:Int)=(((sIx n 0 lo:Nat):Int),((sIx n n hi:Nat):Int)):=by
 have h1:¬ ((1:Int) < 0):=by lia
 unfold Builtin.Slice.sliceAdjust
 simp only [h1,if_false]
 refine Prod.ext ?_ ?_
 ·cases lo with
  | none=>rfl
  | some v=>exact pA v n 0
 ·cases hi with
  | none=>rfl
  | some v=>exact pA v n n
theorem ot (i j:Nat):Builtin.Slice.slicePlaces (i:Int) (j:Int) 1=j - i:=by
 unfold Builtin.Slice.slicePlaces
 have h1:(1:Int) > 0:=by lia
 simp only [h1,if_true,Int.ediv_one]
 split<;>lia
theorem jT {v:Value}{o:Option Int}{Q:Option Int->Shared->Prop} (p:IsPart v o) (h:Q o s):wpAny (model prog w) A (Builtin.Slice.slicePartIndex v) Q E s:=by
 cases p with
 | none=>exact slicePart_none h
 | int i t=>exact slicePart_int h
theorem eB {sl:Addr}{vl vu:Value}{lo hi:Option Int}{n:Nat}{Q:Int×Int×Nat->Shared->Prop} (hs:s.heap.IsSliceOf sl vl vu .none) (pl:IsPart vl lo) (pu:IsPart vu hi)
  (h:Q (((sIx n 0 lo:Nat):Int),1,sIx n n hi - sIx n 0 lo) s):wpAny (model prog w) A (Builtin.Slice.sliceApplied (.ref sl) (pure (n:Int))) Q E s:=by
 obtain⟨os,hos,hcs,hds⟩:=id hs
 unfold Builtin.Slice.sliceApplied Builtin.Slice.sliceFields
 refine wpAny_bind (wpAny_bind (wpAny_field hos hds (x:=vl) rfl (wpAny_bind (wpAny_field hos hds (x:=vu) rfl (wpAny_bind (wpAny_field hos hds (x:=.none) rfl (wpAny_pure ?_)))))))
 refine wpAny_bind (slicePart_none ?_)
 show wpAny _ _ (if ((1:Int)==0)=true then _ else _) _ _ s
 rw [if_neg (by decide)]
 refine wpAny_bind (jT pl (wpAny_bind (jT pu (wpAny_bind (wpAny_pure ?_)))))
 show wpAny _ _ (match Builtin.Slice.sliceAdjust lo hi 1 (n:Int) with | (lo,hi)=>pure (lo,(1:Int),Builtin.Slice.slicePlaces lo hi 1)) _ _ s
 rw [oB lo hi n]
 show wpAny _ _ (pure (((sIx n 0 lo:Nat):Int),(1:Int),Builtin.Slice.slicePlaces ((sIx n 0 lo:Nat):Int) ((sIx n n hi:Nat):Int) 1)) _ _ s
 rw [ot]
 exact wpAny_pure h
theorem qS (xs:Array Value) (i k:Nat):((List.range k).filterMap λ(m:Nat)=>xs[((i:Int)+(m:Int)*1).toNat]?).toArray=((xs.toList.drop i).take k).toArray:=by
 have e:(λ(m:Nat)=>xs[((i:Int)+(m:Int)*1).toNat]?)=λm=>xs[i+m]?:=by
  funext m
  have:((i:Int)+(m:Int)*1).toNat=i+m:=by lia
  rw [this]
 rw [e]
 have:=pick_run xs i k
 rw [List.filterMap_map] at this
 have e2:((λx=>xs[x]?) ∘ λx=>i+x)=λm=>xs[i+m]?:=rfl
 rw [e2] at this
 rw [this]
theorem getItem_tuple_cut {t sl:Addr}{items:Array Value}{vl vu:Value}{lo hi:Option Int}{Q:Value->Shared->Prop} (ht:IsTup s.heap t items) (hs:s.heap.IsSliceOf sl vl vu .none) (pl:IsPart vl lo) (pu:IsPart vu hi)
  (hw:¬ (sIx items.size 0 lo=0/\sIx items.size items.size hi=items.size))
  (h:Q (.ref s.heap.objs.size) { s with heap:=s.heap.push { cls:=.type "tuple",data:=.seq ((items.toList.drop (sIx items.size 0 lo)).take (sIx items.size items.size hi - sIx items.size 0 lo)).toArray } })
  (hsz:items.size<=sizeLine):wpAny (model prog w) A (getItem (.ref t) (.ref sl)) Q E s:=by
 have htake:sizeOk (.seq ((items.toList.drop (sIx items.size 0 lo)).take (sIx items.size items.size hi - sIx items.size 0 lo)).toArray):=by
  show ((items.toList.drop (sIx items.size 0 lo)).take (sIx items.size items.size hi - sIx items.size 0 lo)).toArray.size<=sizeLine
  rw [List.size_toArray,List.length_take,List.length_drop,Array.length_toList]
  lia
 have hj:sIx items.size items.size hi<=items.size:=mi _ _ (Nat.le_refl _) hi
 obtain⟨os,hos,hcs,hds⟩:=id hs
 have hTs:s.TypeIs (.ref sl) "slice":=⟨os,hos,hcs⟩
 unfold getItem
 try with_reducible refine wpAny_holding ?_
 first | refine wpAny_bind (wpAny_pure ?_) | skip
 refine wpAny_bind (wpAny_sequenceKey ht.typeIs (by decide) ?_)
 refine wpAny_bind (wpAny_callSpecial?_slot (name:=Str.ofString "__getitem__") ht.typeIs PyProof.Rows.slot_tuple_getitem
  (wpAny_call_entry PyProof.Rows.slot_tuple_getitem ht.typeIs entry_tuple_getitem ?_ (args_tuple_getitem _ _)))
 show wpAny _ _ (Builtin.Tuple.tupleItemsOf (.ref t) >>= _) _ _ s
 refine wpAny_bind (tupleItemsOf_ ht ?_)
 refine wpAny_bind (wpAny_typeOf hTs ?_)
 rw [if_pos (by decide)]
 refine wpAny_bind (eB hs pl pu ?_)
 have hno:¬ ((((sIx items.size 0 lo:Nat):Int)==0 && (1:Int)==1 && (sIx items.size items.size hi - sIx items.size 0 lo)==items.size)=true):=by
  intro q
  rw [Bool.and_eq_true,Bool.and_eq_true] at q
  have q1:((sIx items.size 0 lo:Nat):Int)=0:=eq_of_beq q.1.1
  have q2:sIx items.size items.size hi - sIx items.size 0 lo=items.size:=eq_of_beq q.2
  exact hw ⟨by lia,by lia⟩
 show wpAny _ _ (if (((sIx items.size 0 lo:Nat):Int)==0 && (1:Int)==1 && (sIx items.size items.size hi - sIx items.size 0 lo)==items.size)=true then _ else _) _ _ s
 rw [if_neg hno,qS]
 first
  | exact wpAny_bind (m:=Builtin.Tuple.tupleExact _) (wpAny_newObj_type (wpAny_pure ⟨_,rfl,wpAny_pure h⟩) htake)
  | exact wpAny_bind (m:=Builtin.Tuple.tupleExact _) (wpAny_newObj_type (wpAny_bind (wpAny_pure (wpAny_pure ⟨_,rfl,wpAny_pure h⟩))) htake)
  | exact wpAny_bind (wpAny_bind (m:=Builtin.Tuple.tupleExact _) (wpAny_newObj_type (wpAny_pure (wpAny_pure ⟨_,rfl,wpAny_pure h⟩)) htake))
  | exact wpAny_bind (wpAny_bind (m:=Builtin.Tuple.tupleExact _) (wpAny_newObj_type (wpAny_pure ⟨_,rfl,wpAny_pure h⟩) htake))
end
end HT
namespace L2
open PySem PySem.Spec PyProof.Rows
abbrev TO:=St->Hp->(Option Int->Hp->Prop)->Prop
noncomputable def PO (X:Cx) (e:Option Expr) (t:TO):Prop:=
 ∀ (pins:List (Addr×Obj)) (s:Shared) (σ:St) (H:Hp) (Q:Option Int->Hp->Prop),Inv X pins σ H s->t σ H Q->
  wpAny (model X.prog X.w) X.A (evalPart e X.env) (λu s'=>∃ o H',Inv X pins σ H' s'/\IsPart u o/\Q o H') X.xe s
noncomputable def vn:TO:=λ_ H Q=>Q none H
noncomputable def yw (t:TE):TO:=λσ H Q=>t σ H λx H1=>∃ i,x=.int i/\Q (some i) H1
theorem gs {ns:List Int}:∀ {us:List Value},aA (ns.map V.int) us->IntsAre us ns:=by
 induction ns with
 | nil=>intro us r;rw [List.map_nil] at r;cases r;exact .nil
 | cons n ns ih=>
  intro us r
  rw [List.map_cons] at r
  cases r with
  | cons r1 r2=>
   obtain⟨t,e⟩:=r1
   subst e
   exact .cons n t (ih r2)
section
variable {X:Cx}{e:Expr}{te:TE}{lo hi:Option Expr}{tl th:TO}{pos p2:Pos}
theorem t8:PO X none vn:=by
 intro pins s σ H Q I h
 rw [evalPart_none]
 exact wpAny_pure ⟨none,H,I,.none,h⟩
theorem u6 (h:PE X e te):PO X (some e) (yw te):=by
 intro pins s σ H Q I hw
 rw [evalPart_some]
 refine thn (h pins s σ H _ I hw) λu s1 ⟨x,H1,I1,r1,q1⟩=>?_
 obtain⟨i,rfl,q⟩:=q1
 obtain⟨t,rfl⟩:=r1
 exact⟨some i,H1,I1,.int i t,q⟩
noncomputable def SlR (X:Cx) (r:V->Option Int->Option Int->Hp->VK->Prop):Prop:=
 ∀ (pins:List (Addr×Obj)) (s:Shared) (σ:St) (H:Hp) (x:V) (v vl vu:Value) (lo hi:Option Int) (sl:Addr) (Q:VK),Inv X pins σ H s->az x v->s.heap.IsSliceOf sl vl vu .none->IsPart vl lo->IsPart vu hi->r x lo hi H Q->
  ∃ T id,typeLookup (.type T) "__getitem__" = pure (some (.builtin id))/\s.TypeIs v T/\wpAny (model X.prog X.w) X.A (getItem v (.ref sl)) (EP X pins σ Q) X.xe s
noncomputable def tSl (r:V->Option Int->Option Int->Hp->VK->Prop) (te:TE) (tl th:TO):TE:=λσ H Q=>te σ H λx H1=>tl σ H1 λl H2=>th σ H2 λu H3=>r x l u H3 Q
theorem jL {r:V->Option Int->Option Int->Hp->VK->Prop} (hr:SlR X r) (he:PE X e te) (hl:PO X lo tl) (hu:PO X hi th):PE X (.Subscript e (.Slice lo hi none p2) pos) (tSl r te tl th):=by
 intro pins s σ H Q I h
 refine Subscript_ (thn (he pins s σ H _ I h) λv s1 ⟨x,H1,I1,r1,q1⟩=>?_)
 refine wpAny_Slice (thn (hl pins s1 σ H1 _ I1 q1) λvl s2 ⟨l,H2,I2,pl,q2⟩=>thn (hu pins s2 σ H2 _ I2 q2) λvu s3 ⟨u,H3,I3,pu,q3⟩=>?_)
 rw [evalPart_none]
 refine wpAny_pure ?_
 have I4:Inv X pins σ H3 { s3 with heap:=s3.heap.push { cls:=.type "slice",data:=.fields #[vl,vu,.none] } }:=I3.kept (t':=s3.toks) λb ob q=>Heap.get?_push_of_some _ q
 obtain⟨T,id,hT,ht,hg⟩:=hr pins { s3 with heap:=s3.heap.push { cls:=.type "slice",data:=.fields #[vl,vu,.none] } } σ H3 x v vl vu l u s3.heap.objs.size Q I4 r1 (Heap.IsSliceOf.new ..) pl pu q3
 show wpAny (model X.prog X.w) X.A (subscriptTail e (.Slice lo hi none p2) v (.ref s3.heap.objs.size)) (EP X pins σ Q) X.xe { s3 with heap:=s3.heap.push { cls:=.type "slice",data:=.fields #[vl,vu,.none] } }
 exact tail_any (ops:=[.ref s3.heap.objs.size,v]) ht hT hg (by with_unfolding_all rfl)
noncomputable def mC (xs:List V) (lo hi:Option Int):List V:=(xs.drop (HT.sIx xs.length 0 lo)).take (HT.sIx xs.length xs.length hi - HT.sIx xs.length 0 lo)
theorem iy (xs:List V) (lo hi:Option Int):(mC xs lo hi).length<=xs.length:=by
 unfold mC
 rw [List.length_take,List.length_drop]
 lia
noncomputable def zP (K:PySem.W.Frag):V->Option Int->Option Int->Hp->VK->Prop:=λx lo hi H Q=>∃ a xs,x=.ref a/\SqT K H a xs/\
 ¬ (HT.sIx xs.length 0 lo=0/\HT.sIx xs.length xs.length hi=xs.length)/\∀ p,H p=none->Q (.ref p) (upd H p (.tup (mC xs lo hi)))
theorem xO:SlR X (zP X.K):=by
 intro pins s σ H x v vl vu lo hi sl Q I rx hs pl pu h
 obtain⟨a,xs,rfl,hx,hw,q⟩:=h
 cases rx
 obtain⟨its,r,ht,hz⟩:=I.tuple hx
 have hlen:its.toArray.size=xs.length:=by rw [List.size_toArray];exact r.length.symm
 refine⟨"tuple",_,PyProof.Rows.slot_tuple_getitem.lookup,ht.typeIs,?_⟩
 refine HT.getItem_tuple_cut ht hs pl pu (by rw [hlen];exact hw) ?_ (by rw [hlen];exact hz)
 rw [hlen]
 refine⟨.ref s.heap.objs.size,_,I.laid (t':=s.toks) (o:=.tup (mC xs lo hi)) (λb ob q=>Heap.get?_push_of_some _ q) (Nat.le_refl _) ?_,rfl,q _ (I.hok.fresh (Nat.le_refl _))⟩
 exact⟨Nat.le_trans (iy xs lo hi) hz,_,(r.drop (HT.sIx xs.length 0 lo)).take (HT.sIx xs.length xs.length hi - HT.sIx xs.length 0 lo),eO.new _ _⟩
noncomputable def ye (K:PySem.W.Frag):R2:=λx y H Q=>∃ a b xs ys,x=.ref a/\y=.ref b/\SqT K H a xs/\SqT K H b ys/\xs≠[]/\xs.length+ys.length<=sizeLine/\
 (ys=[]->Q (.ref a) H)/\(ys≠[]->∀ p,H p=none->Q (.ref p) (upd H p (.tup (xs++ys))))
theorem aA.nil_iff {xs:List V}{us:List Value} (r:aA xs us):us=[]↔xs=[]:=by
 cases r with
 | nil=>simp
 | cons _ _=>simp
theorem uf:OpR X (binaryOp .Add) (ye X.K):=by
 intro pins s σ H x y v u Q I rx ry h
 obtain⟨a,b,xs,ys,rfl,rfl,ha,hb,hx,hz,q1,q2⟩:=h
 cases rx
 cases ry
 obtain⟨its,r1,p1,_⟩:=I.tuple ha
 obtain⟨its2,r2,p2,_⟩:=I.tuple hb
 refine HT.cat_tup p1 p2 (λz=>hx (r1.nil_iff.mp z)) (λz=>⟨.ref a,H,I,rfl,q1 (r2.nil_iff.mp z)⟩) (λz=>?_) (by rw [<-r1.length,<-r2.length];exact hz)
 refine⟨.ref s.heap.objs.size,_,I.laid (t':=s.toks) (o:=.tup (xs++ys)) (λb ob q=>Heap.get?_push_of_some _ q) (Nat.le_refl _) ?_,rfl,q2 (λw=>z (r2.nil_iff.mpr w)) _ (I.hok.fresh (Nat.le_refl _))⟩
 exact⟨by rw [List.length_append];exact hz,_,r1.append r2,eO.new _ _⟩
end
end L2
namespace L2
open PySem PySem.Spec PyProof.Rows
noncomputable def ixN (n:Nat) (i:Int):Option Nat:=if 0<=i then (if i < n then some i.toNat else none) else if -(n:Int)<=i then some (i+n).toNat else none
noncomputable def atI {α:Type} (xs:List α) (i:Int):Option α:=(ixN xs.length i).bind λj=>xs[j]?
theorem o0 {n:Nat}{i:Int}{j:Nat} (h:ixN n i=some j):seqIndex? i n=some j/\j < n/\-(n:Int)<=i/\i < n:=by
 unfold ixN at h
 by_cases h0:0<=i
 ·rw [if_pos h0] at h
  by_cases h1:i < n
  ·rw [if_pos h1] at h
   have e:i.toNat=j:=Option.some.inj h
   exact⟨by rw [seqIndex_of h0 h1,e],by lia,by lia,h1⟩
  ·rw [if_neg h1] at h;cases h
 ·rw [if_neg h0] at h
  by_cases h1:-(n:Int)<=i
  ·rw [if_pos h1] at h
   have e:(i+n).toNat=j:=Option.some.inj h
   exact⟨by rw [seqIndex_neg (by lia) h1,e],by lia,h1,by lia⟩
  ·rw [if_neg h1] at h;cases h
theorem mJ {α:Type}{xs:List α}{i:Int}{v:α} (h:atI xs i=some v):∃ j,seqIndex? i xs.length=some j/\xs[j]?=some v/\j < xs.length/\-(xs.length:Int)<=i/\i < xs.length:=by
 unfold atI at h
 cases e:ixN xs.length i with
 | none=>rw [e] at h;cases h
 | some j=>
  rw [e] at h
  obtain⟨h1,h2,h3,h4⟩:=o0 e
  exact⟨j,h1,h,h2,h3,h4⟩
theorem gU {α:Type}{xs:List α}{j:Nat}{v:α} (h:xs[j]?=some v):atI xs (j:Int)=some v:=by
 have hj:j < xs.length:=(List.getElem?_eq_some_iff.mp h).1
 have e:ixN xs.length (j:Int)=some j:=by
  unfold ixN
  rw [if_pos (by lia),if_pos (by lia)];simp
 unfold atI;rw [e];exact h
noncomputable def pk (b:Expr):Prop:=∀ o i,subscripted b false o i=operate [o,i] (getItem o i)
noncomputable def IxR (X:Cx) (r:R2):Prop:=
 ∀ (value slice:Expr) (pins:List (Addr×Obj)) (s:Shared) (σ:St) (H:Hp) (x y:V) (v u:Value) (Q:VK),Inv X pins σ H s->az x v->az y u->r x y H Q->
  subscripted slice false v u=operate [v,u] (getItem v u)->wpAny (model X.prog X.w) X.A (subscriptTail value slice v u) (EP X pins σ Q) X.xe s
noncomputable def MtR (X:Cx) (id:String) (r:V->List V->Hp->VK->Prop):Prop:=
 ∀ (pins:List (Addr×Obj)) (s:Shared) (σ:St) (H:Hp) (x:V) (xs:List V) (v:Value) (us:List Value) (Q:VK),Inv X pins σ H s->az x v->aA xs us->r x xs H Q->
  wpAny (model X.prog X.w) X.A (call (.builtin id) (v::us)) (EP X pins σ Q) X.xe s
section
variable {X:Cx}{a b:Expr}{ta tb:TE}{pos:Pos}
theorem IxR.or {r r':R2} (h:IxR X r) (h':IxR X r'):IxR X (λx y H Q=>r x y H Q\/r' x y H Q):=by
 intro value slice pins s σ H x y v u Q I rx ry q hs
 rcases q with q | q
 ·exact h value slice pins s σ H x y v u Q I rx ry q hs
 ·exact h' value slice pins s σ H x y v u Q I rx ry q hs
theorem yX {r:R2} (hr:IxR X r) (ha:PE X a ta) (hb:PE X b tb) (hs:pk b):PE X (.Subscript a b pos) (tOp r ta tb):=by
 intro pins s σ H Q I h
 exact Subscript_ (wS ha hb I h λv u s2 x y H2 I2 rx ry q=>hr a b pins s2 σ H2 x y v u Q I2 rx ry q (hs _ _))
noncomputable def yT (K:PySem.W.Frag):R2:=λx y H Q=>∃ p xs i v,x=.ref p/\y=.int i/\SqL K H p xs/\atI xs i=some v/\Q v H
noncomputable def yy (K:PySem.W.Frag):R2:=λx y H Q=>∃ p xs i v,x=.ref p/\y=.int i/\SqT K H p xs/\atI xs i=some v/\Q v H
noncomputable def yM:R2:=λx y H Q=>∃ z i c,x=.str z/\y=.int i/\z.length<=sizeLine/\atI z.cps.toList i=some c/\Q (.str ⟨#[c]⟩) H
theorem uj:IxR X (yT X.K):=by
 intro value slice pins s σ H x y v u Q I rx ry h hs
 obtain⟨p,xs,i,z,rfl,rfl,hq,he,q⟩:=h
 cases rx
 obtain⟨t,rfl⟩:=ry
 obtain⟨its,r,pl,hz⟩:=I.list hq
 obtain⟨j,h1,h2,h3,h4,h5⟩:=mJ he
 obtain⟨w,ew,rw'⟩:=r.get h2
 have hl:=r.length
 have hn:=gv
 have fin:EP X pins σ Q w s:=⟨z,H,I,rw',q⟩
 by_cases h0:0<=i
 ·have hj:i.toNat=j:=by
   rw [seqIndex_of h0 h5] at h1
   exact Option.some.inj h1
  exact item_listR pl.isList h0 (by lia) (by rw [hj];simpa using ew) fin hs
 ·have hj:(i+(its.toArray.size:Int)).toNat=j:=by
   rw [seqIndex_neg (by lia) h4] at h1
   rw [List.size_toArray,<-hl]
   exact Option.some.inj h1
  exact subscriptTail_builtinR (x:=w) pl.isList.typeIs slot_list_getitem.lookup
   (wpAny_getItem_list_neg (Q:=λr s'=>r=w/\EP X pins σ Q r s') pl.isList (by lia) (by rw [List.size_toArray]<;>lia) (by lia) (by rw [hj];simpa using ew) ⟨rfl,fin⟩) hs
theorem xI:IxR X (yy X.K):=by
 intro value slice pins s σ H x y v u Q I rx ry h hs
 obtain⟨p,xs,i,z,rfl,rfl,hq,he,q⟩:=h
 cases rx
 obtain⟨t,rfl⟩:=ry
 obtain⟨its,r,pl,hz⟩:=I.tuple hq
 obtain⟨j,h1,h2,h3,h4,h5⟩:=mJ he
 obtain⟨w,ew,rw'⟩:=r.get h2
 have hl:=r.length
 have hn:=gv
 have fin:EP X pins σ Q w s:=⟨z,H,I,rw',q⟩
 exact subscriptTail_builtinR (x:=w) pl.typeIs slot_tuple_getitem.lookup
  (getItem_tuple (j:=j) (Q:=λr s'=>r=w/\EP X pins σ Q r s') pl (by lia) (by lia) (by rw [List.size_toArray,<-hl];exact h1) (by simpa using ew) ⟨rfl,fin⟩) hs
theorem wL:IxR X yM:=by
 intro value slice pins s σ H x y v u Q I rx ry h hs
 obtain⟨z,i,c,rfl,rfl,hz,he,q⟩:=h
 obtain⟨t,rfl⟩:=rx
 obtain⟨t',rfl⟩:=ry
 obtain⟨j,h1,h2,h3,h4,h5⟩:=mJ he
 have hl:z.cps.toList.length=z.length:=by simp [Str.length]
 rw [hl] at h1 h4 h5
 have hn:=gv
 exact tail_any (typeIs_str s z t) slot_str_getitem.lookup (getItem_str (c:=c) (by
  have e1:decide (i < -(2 ^ 63:Int))=false:=decide_eq_false (by lia)
  have e2:decide (i>=2 ^ 63)=false:=decide_eq_false (by lia)
  rw [e1,e2,Bool.or_false]) (by rw [h1];simpa using h2) ⟨.str ⟨#[c]⟩,H,I.tok _,⟨_,rfl⟩,q⟩) hs
noncomputable def rIx (K:PySem.W.Frag):R2:=λx y H Q=>yT K x y H Q\/yy K x y H Q\/yM x y H Q
theorem sK:IxR X (rIx X.K):=uj.or (xI.or wL)
theorem oI (its:List Value) (n j:Nat) (u:Value):Obj.mapSeq (·.setIfInBounds j u) { cls:=.type "list",data:=.seq its.toArray n }={ cls:=.type "list",data:=.seq (its.set j u).toArray n }:=by
 simp [Obj.mapSeq]
theorem Inv.lst {pins:List (Addr×Obj)}{σ:St}{H:Hp}{s:Shared}{p:Addr}{xs:List V} (I:Inv X pins σ H s) (h:H p=some (.lst xs)) :
  ∃ (its:List Value) (n:Nat),aA xs its/\s.heap.get? p=some { cls:=.type "list",data:=.seq its.toArray n }/\xs.length<=sizeLine:=by
 obtain⟨z,its,n,r,e⟩:=I.hok p _ h
 exact⟨its,n,r,e,z⟩
theorem Inv.lstUpd {pins:List (Addr×Obj)}{σ:St}{H:Hp}{s:Shared}{p:Addr}{xs ys:List V}{its its':List Value}{n n':Nat}{f:Obj->Obj} (I:Inv X pins σ H s) (h:H p=some (.lst xs))
  (ho:s.heap.get? p=some { cls:=.type "list",data:=.seq its.toArray n }) (hf:f { cls:=.type "list",data:=.seq its.toArray n }={ cls:=.type "list",data:=.seq its'.toArray n' }) (r:aA ys its') (hz:ys.length<=sizeLine) (t:Nat) :
  Inv X pins σ (upd H p (.lst ys)) { s with heap:=s.heap.update p f,toks:=t }:=by
 have e:(s.heap.update p f).get? p=some { cls:=.type "list",data:=.seq its'.toArray n' }:=by
  rw [Heap.get?_update_self f ho (by rw [hf]<;>rfl),hf]
 refine I.write (x:=p) (e:=p) (by rw [h];trivial) (.inl rfl) (λb u hb q=>(Heap.get?_update_other _ _ (Ne.symm hb)).trans q) ⟨_,e⟩ ?_
 exact⟨hz,its',n',r,e⟩
noncomputable def yU:V->V->V->Hp->(Hp->Prop)->Prop:=λo i v H Q=>∃ p xs k j,o=.ref p/\i=.int k/\H p=some (.lst xs)/\ixN xs.length k=some j/\Q (upd H p (.lst (xs.set j v)))
theorem sQ:yG X yU:=by
 intro pins s σ H o i v ov iv u Q I ro ri rv h
 obtain⟨p,xs,k,j,rfl,rfl,hp,hj,q⟩:=h
 cases ro
 obtain⟨t,rfl⟩:=ri
 obtain⟨its,n,r,ho,hz⟩:=I.lst hp
 obtain⟨h1,h2,h3,h4⟩:=o0 hj
 have hl:=r.length
 have hn:=gv
 have I':Inv X pins σ (upd H p (.lst (xs.set j v))) { s with heap:=s.heap.update p (Obj.mapSeq (·.setIfInBounds j u)) }:=
  I.lstUpd hp ho (oI its n j u) (r.set rv j) (by rw [List.length_set];exact hz) s.toks
 by_cases h0:0<=k
 ·have hk:k.toNat=j:=by
   rw [seqIndex_of h0 h4] at h1
   exact Option.some.inj h1
  exact PySem.W.ki_setAt ho h0 (by lia) (by rw [List.size_toArray,<-hl];exact h4) (by rw [hk];exact⟨_,I',q⟩)
 ·have hk:(k+(its.toArray.size:Int)).toNat=j:=by
   rw [seqIndex_neg (by lia) h3] at h1
   rw [List.size_toArray,<-hl]
   exact Option.some.inj h1
  exact PySem.W.ki_setBack ho (by lia) (by rw [List.size_toArray,<-hl];exact h3) (by lia) (by rw [hk];exact⟨_,I',q⟩)
theorem md (lo hi:Option Int) (n:Nat):(sliceBounds lo hi none n).1=((HT.sIx n 0 lo:Nat):Int)/\(sliceBounds lo hi none n).2.1=((HT.sIx n n hi:Nat):Int)/\(sliceBounds lo hi none n).2.2=1:=by
 refine⟨?_,?_,rfl⟩
 ·cases lo with
  | none=>simp [sliceBounds,HT.sIx]
  | some i=>
   simp only [sliceBounds,HT.sIx,Option.getD_none,show (1:Int) > 0 by decide,if_true]
   by_cases h:i < 0
   ·simp only [h,if_true]<;>lia
   ·simp only [h,if_false]<;>lia
 ·cases hi with
  | none=>simp [sliceBounds,HT.sIx]
  | some i=>
   simp only [sliceBounds,HT.sIx,Option.getD_none,show (1:Int) > 0 by decide,if_true]
   by_cases h:i < 0
   ·simp only [h,if_true]<;>lia
   ·simp only [h,if_false]<;>lia
theorem kD (its:List Value) (lo hi:Option Int):slicePick its.toArray lo hi none=((its.drop (HT.sIx its.length 0 lo)).take (HT.sIx its.length its.length hi - HT.sIx its.length 0 lo)).toArray:=by
 obtain⟨h1,h2,h3⟩:=md lo hi its.toArray.size
 unfold slicePick
 rw [h1,h2,h3]
 simp only [sliceRange_one,pick_run,List.size_toArray]<;>rfl
noncomputable def zD (K:PySem.W.Frag):V->Option Int->Option Int->Hp->VK->Prop:=λx lo hi H Q=>∃ a xs,x=.ref a/\SqL K H a xs/\∀ p,H p=none->Q (.ref p) (upd H p (.lst (mC xs lo hi)))
theorem ut:SlR X (zD X.K):=by
 intro pins s σ H x v vl vu lo hi sl Q I rx hs pl pu h
 obtain⟨a,xs,rfl,hx,q⟩:=h
 cases rx
 obtain⟨its,r,ht,hz⟩:=I.list hx
 have hlen:=r.length
 refine⟨"list",_,slot_list_getitem.lookup,ht.isList.typeIs,?_⟩
 refine wpAny_getItem_list_slice ht.isList hs pl pu .none (by simp) ?_ (by rw [List.size_toArray]<;>lia)
 rw [kD,<-hlen]
 refine⟨.ref s.heap.objs.size,_,I.laid (t':=s.toks) (o:=.lst (mC xs lo hi)) (λb ob q=>Heap.get?_push_of_some _ q) (Nat.le_refl _) ?_,rfl,q _ (I.hok.fresh (Nat.le_refl _))⟩
 exact⟨Nat.le_trans (iy xs lo hi) hz,_,0,(r.drop (HT.sIx xs.length 0 lo)).take (HT.sIx xs.length xs.length hi - HT.sIx xs.length 0 lo),Heap.get?_push_size _ rfl⟩
noncomputable def dF:V->Bool
 | .non=>true
 | .bl _=>true
 | .int _=>true
 | .str _=>true
 | _=>false
noncomputable def eqV:V->V->Bool
 | .non,.non=>true
 | .bl a,.bl b=>a==b
 | .bl a,.int b=>(if a then 1 else 0)==b
 | .int a,.bl b=>a==(if b then 1 else 0)
 | .int a,.int b=>a==b
 | .str a,.str b=>a==b
 | _,_=>false
theorem oK {A:Around}{s:Shared}{y x:V}{u v:Value} (ry:az y u) (rx:az x v) (fy:dF y=true) (fx:dF x=true):SeqAt.EqAt A s u v (eqV y x):=by
 cases y with
 | non=>
  cases ry
  cases x with
  | non=>cases rx;exact SeqAt.EqAt.same _
  | bl b=>cases rx;exact SeqAt.EqAt.none_bool b
  | int b=>obtain⟨t,rfl⟩:=rx;exact SeqAt.EqAt.none_int b t
  | str b=>obtain⟨t,rfl⟩:=rx;exact SeqAt.EqAt.none_str b t
  | _=>exact absurd (show false=true from fx) Bool.false_ne_true
 | bl a=>
  cases ry
  cases x with
  | non=>cases rx;exact SeqAt.EqAt.bool_none a
  | bl b=>cases rx;exact SeqAt.EqAt.bool_bool a b
  | int b=>obtain⟨t,rfl⟩:=rx;exact SeqAt.EqAt.bool_int a b t
  | str b=>obtain⟨t,rfl⟩:=rx;exact SeqAt.EqAt.bool_str a b t
  | _=>exact absurd (show false=true from fx) Bool.false_ne_true
 | int a=>
  obtain⟨t',rfl⟩:=ry
  cases x with
  | non=>cases rx;exact SeqAt.EqAt.int_none a t'
  | bl b=>cases rx;exact SeqAt.EqAt.int_bool a t' b
  | int b=>obtain⟨t,rfl⟩:=rx;exact SeqAt.EqAt.int_int a t' b t
  | str b=>obtain⟨t,rfl⟩:=rx;exact SeqAt.EqAt.int_str a t' b t
  | _=>exact absurd (show false=true from fx) Bool.false_ne_true
 | str a=>
  obtain⟨t',rfl⟩:=ry
  cases x with
  | non=>cases rx;exact SeqAt.EqAt.str_none a t'
  | bl b=>cases rx;exact SeqAt.EqAt.str_bool a t' b
  | int b=>obtain⟨t,rfl⟩:=rx;exact SeqAt.EqAt.str_int a t' b t
  | str b=>obtain⟨t,rfl⟩:=rx;exact SeqAt.EqAt.str_str a t' b t
  | _=>exact absurd (show false=true from fx) Bool.false_ne_true
 | _=>exact absurd (show false=true from fy) Bool.false_ne_true
noncomputable def eqU (x:V) (u:Value):Bool:=match u with
 | .none=>eqV .non x
 | .bool b=>eqV (.bl b) x
 | .int i _=>eqV (.int i) x
 | .str z _=>eqV (.str z) x
 | _=>false
theorem sw {x y:V}{u:Value} (r:az y u) (f:dF y=true):eqU x u=eqV y x:=by
 cases y with
 | non=>cases r;rfl
 | bl b=>cases r;rfl
 | int i=>obtain⟨t,rfl⟩:=r;rfl
 | str z=>obtain⟨t,rfl⟩:=r;rfl
 | _=>exact absurd (show false=true from f) Bool.false_ne_true
theorem lE {x:V}:∀ {xs:List V}{us:List Value},aA xs us->xs.all dF=true->us.any (eqU x)=xs.any λy=>eqV y x
 | _,_,.nil,_=>rfl
 | y::xs,u::us,.cons r t,f=>by
  rw [List.all_cons,Bool.and_eq_true] at f
  rw [List.any_cons,List.any_cons,sw r f.1,lE t f.2]
theorem jm {A:Around}{s:Shared}{x:V}{v:Value} (rx:az x v) (fx:dF x=true):∀ {xs:List V}{us:List Value},aA xs us->xs.all dF=true->∀ u ∈ us,SeqAt.EqAt A s u v (eqU x u)
 | _,_,.nil,_=>λu hu=>by cases hu
 | y::xs,u::us,.cons r t,f=>λu' hu=>by
  rw [List.all_cons,Bool.and_eq_true] at f
  rcases List.mem_cons.mp hu with rfl | hu
  ·rw [sw r f.1];exact oK r rx f.1 fx
  ·exact jm rx fx t f.2 u' hu
noncomputable def inV (x:V) (xs:List V):Bool:=xs.any λy=>eqV y x
noncomputable def rIn (K:PySem.W.Frag) (neg:Bool):R2:=λx y H Q=>∃ p xs,y=.ref p/\(SqL K H p xs\/SqT K H p xs)/\dF x=true/\xs.all dF=true/\Q (.bl (if neg then !inV x xs else inV x xs)) H
theorem kY:OpR X (compareOp .In) (rIn X.K false):=by
 intro pins s σ H x y v u Q I rx ry h
 obtain⟨p,xs,rfl,hq,fx,fs,q⟩:=h
 cases ry
 rcases hq with hq | hq
 ·obtain⟨its,r,pl,hz⟩:=I.list hq
  refine SeqAt.in_listAt (eqU x) pl.isList (λw hw=>jm rx fx r fs w (by simpa using hw)) ⟨.bl _,H,I,rfl,?_⟩
  rw [show its.toArray.any (eqU x)=its.any (eqU x) by simp,lE r fs]
  exact q
 ·obtain⟨its,r,pl,hz⟩:=I.tuple hq
  refine SeqAt.in_tupleAt (eqU x) pl (λw hw=>jm rx fx r fs w (by simpa using hw)) ⟨.bl _,H,I,rfl,?_⟩
  rw [show its.toArray.any (eqU x)=its.any (eqU x) by simp,lE r fs]
  exact q
theorem mh:cz X (.builtin "len") (λxs H Q=>∃ p ys,xs=[.ref p]/\(SqL X.K H p ys\/SqT X.K H p ys)/\Q (.int ys.length) H):=by
 intro pins s σ H xs us Q I r h
 obtain⟨p,ys,rfl,hq,q⟩:=h
 obtain⟨u,rfl,rx⟩:=fT r
 cases rx
 have hn:=gv
 rcases hq with hq | hq
 ·obtain⟨its,r',pl,hz⟩:=I.list hq
  have hlen:=r'.length
  exact Calls.call_len_list pl.isList (by simp only [List.size_toArray]<;>lia) ⟨.int ys.length,H,I.tok _,⟨s.toks+1,by rw [List.size_toArray,hlen]⟩,q⟩
 ·obtain⟨its,r',pl,hz⟩:=I.tuple hq
  have hlen:=r'.length
  exact len_tuple pl (by simp only [List.size_toArray]<;>lia) ⟨.int ys.length,H,I.tok _,⟨s.toks+1,by rw [List.size_toArray,hlen]⟩,q⟩
theorem mt:cz X (.builtin "len") (λxs H Q=>∃ z,xs=[.str z]/\z.length<=sizeLine/\Q (.int z.length) H):=by
 intro pins s σ H xs us Q I r h
 obtain⟨z,rfl,hz,q⟩:=h
 obtain⟨u,rfl,t,rfl⟩:=fT r
 have hn:=gv
 exact len_str (by lia) ⟨.int z.length,H,I.tok _,⟨_,rfl⟩,q⟩
theorem kC:cz X (.type "tuple") (λxs H Q=>∃ p ys,xs=[.ref p]/\((SqL X.K H p ys/\∀ l,H l=none->Q (.ref l) (upd H l (.tup ys)))\/(SqT X.K H p ys/\Q (.ref p) H))):=by
 intro pins s σ H xs us Q I r h
 obtain⟨p,ys,rfl,h⟩:=h
 obtain⟨u,rfl,rx⟩:=fT r
 cases rx
 rcases h with⟨hq,q⟩ | ⟨hq,q⟩
 ·obtain⟨its,r',pl,hz⟩:=I.list hq
  have hlen:=r'.length
  refine call_tuple_list pl.isList (λh' kp=>?_) (by simp only [List.size_toArray]<;>lia)
  have I1:Inv X pins σ H { s with heap:=h' }:=I.kept (t':=s.toks) kp
  have I2:Inv X pins σ (upd H h'.objs.size (.tup ys)) { s with heap:=h'.push { cls:=.type "tuple",data:=.seq its.toArray } }:=
   I1.laid (t':=s.toks) (λb o e=>Heap.get?_push_of_some _ e) (Nat.le_refl _) (show bw X.prog X.w _ _ _ (.tup ys) from ⟨hz,its,r',eO.new _ _⟩)
  exact⟨.ref h'.objs.size,_,I2,rfl,q _ (I1.hok.fresh (Nat.le_refl _))⟩
 ·obtain⟨its,r',pl,hz⟩:=I.tuple hq
  exact call_tuple_same pl ⟨.ref p,H,I,rfl,q⟩
noncomputable def tyV (K:PySem.W.Frag) (T:String) (x:V) (H:Hp):Prop:=match x with
 | .str _=>T = "str"
 | .int _=>T = "int"
 | .ref p=>(T = "list"/\∃ xs,SqL K H p xs)\/(T = "tuple"/\((∃ o,K.lookup p=some o/\o.cls=.type "tuple"/\o.dict=none)\/∃ xs,SqT K H p xs))\/
   (T = "dict"/\((∃ kvs,H p=some (.dK kvs))\/∃ kvs,H p=some (.dT kvs)))\/(T = "set"/\∃ S n,H p=some (.set S n))
 | _=>False
theorem wZ {pins:List (Addr×Obj)}{σ:St}{H:Hp}{s:Shared}{T:String}{x:V}{v:Value} (I:Inv X pins σ H s) (r:az x v) (ty:tyV X.K T x H) :
  s.TypeIs v T/\∀ a,v=.ref a->∃ ob,s.heap.get? a=some ob/\ob.dict=none:=by
 cases x with
 | str z=>
  obtain⟨t,rfl⟩:=r
  cases (show T = "str" from ty)
  exact⟨typeIs_str s z t,λ_ e=>nomatch e⟩
 | int i=>
  obtain⟨t,rfl⟩:=r
  cases (show T = "int" from ty)
  exact⟨typeIs_int s i t,λ_ e=>nomatch e⟩
 | ref p=>
  cases r
  rcases ty with⟨rfl,xs,hq⟩ | ⟨rfl,ht⟩ | ⟨rfl,hk⟩ | ⟨rfl,S,n,hk⟩
  ·obtain⟨its,_,pl,_⟩:=I.list hq
   refine⟨pl.isList.typeIs,λa e=>?_⟩
   cases e
   obtain⟨o,n,e,c,hd,_⟩:=pl
   exact⟨o,e,hd⟩
  ·have z:∃ o:Obj,s.heap.get? p=some o/\o.cls=.type "tuple"/\o.dict=none:=by
    rcases ht with⟨o,hk,hc,hd⟩ | ⟨xs,hq⟩
    ·exact⟨o,I.kIn p o hk,hc,hd⟩
    ·exact I.tuple1 hq
   obtain⟨o,e1,hc,hd⟩:=z
   refine⟨⟨o,e1,hc⟩,λa e=>?_⟩
   cases e
   exact⟨o,e1,hd⟩
  ·have z:∃ o,s.heap.get? p=some o/\o.ExactDict:=by
    rcases hk with⟨kvs,hk⟩ | ⟨kvs,hk⟩
    ·obtain⟨_,_,_,_,o,_,_,e,ex,_⟩:=I.hok p _ hk
     exact⟨o,e,ex⟩
    ·obtain⟨_,_,_,_,o,_,_,e,ex,_⟩:=I.hok p _ hk
     exact⟨o,e,ex⟩
   obtain⟨o,e,ex⟩:=z
   refine⟨⟨o,e,ex.1⟩,λa e2=>?_⟩
   cases e2
   exact⟨o,e,ex.2.1⟩
  ·obtain⟨o,_,_,_,e,ex,_⟩:=I.hok p _ hk
   refine⟨⟨o,e,ex.1⟩,λa e2=>?_⟩
   cases e2
   exact⟨o,e,ex.2.1⟩
 | _=>exact False.elim ty
noncomputable def tBM (K:PySem.W.Frag) (T:String) (r:V->List V->Hp->VK->Prop) (to:TE) (t:TA):TE:=λσ H Q=>to σ H λx H1=>tyV K T x H1/\t σ H1 λxs H2=>r x xs H2 Q
variable {o e:Expr}{es:List Expr}{to:TE}{t:TA}{name:Str}{apos cpos:Pos}{T id:String}{r:V->List V->Hp->VK->Prop}
theorem pE (pa:PlainAttrs T) (slot:Slot T name id) (hty:typeOf (.builtin id)=pure (.type "method_descriptor")) (hm:MtR X id r) (ho:PE X o to) (ha:PA X (e::es) t)
  (hbase:attributeBase o name X.env (eval o X.env)=eval o X.env:=by rfl)
  (hfew:((backTo cpos (starEach (e::es) X.env)).all (λx=>!x.1) && (backToKw cpos (keywordEach [] X.env)).all (λx=>x.1.isSome)
    && decide ((e::es).length+([]:List Keyword).length+(if ([]:List Keyword).isEmpty then 0 else 1) < 30))=true:=by rfl)
  (hline:(apos.endLine==cpos.line)=true:=by rfl) (hs:starEach (e::es) X.env=(false,eval e X.env)::starEach es X.env:=by rfl) (hplain:(backTo cpos (starEach es X.env)).any (·.1)=false:=by rfl) :
  PE X (.Call (.Attribute o name apos) (e::es) [] cpos) (tBM X.K T r to t):=by
 intro pins s σ H Q I h
 refine wpAny_Call_method_late hbase hfew hline rfl (thn (ho pins s σ H _ I h) λv s1 ⟨x,H1,I1,r1,ty,q1⟩=>?_)
 obtain⟨h1,h2⟩:=wZ I1 r1 ty
 refine⟨T,id,pa,slot,hty,h1,h2,?_⟩
 have hA:=ha cpos pins s1 σ H1 _ I1 q1
 rw [hs] at hA ⊢
 refine Calls.callWith_builtin (by show (false || (backTo cpos (starEach es X.env)).any (·.1))=false;rw [hplain]<;>rfl) (Calls.evalArgs_plain ?_)
 exact thn hA λus s2 ⟨vs,H2,I2,r2,q2⟩=>hm pins s2 σ H2 x vs v us Q I2 r1 r2 q2
end
end L2
namespace L2
open PySem PySem.Spec PyProof.Rows
theorem aA.one:∀ {x:V}{us:List Value},aA [x] us->∃ u,us=[u]/\az x u
 | _,_,.cons r .nil=>⟨_,rfl,r⟩
theorem aA.two {x y:V}{us:List Value} (h:aA [x,y] us):∃ u v,us=[u,v]/\az x u/\az y v:=by
 cases h with
 | cons r t=>cases t with
  | cons q t2=>cases t2;exact⟨_,_,rfl,r,q⟩
theorem aA.rep {xs:List V}{us:List Value} (h:aA xs us):∀ k:Nat,aA (List.replicate k xs).flatten (List.replicate k us).flatten
 | 0=>.nil
 | k+1=>by
  rw [List.replicate_succ,List.replicate_succ,List.flatten_cons,List.flatten_cons]
  exact aA.append h (aA.rep h k)
theorem ik (its:List Value):∀ (k:Nat) (acc:List Value),
  List.foldl (λx1 x2=>x1++x2) acc.toArray (List.replicate k its.toArray)=(acc++(List.replicate k its).flatten).toArray
 | 0,acc=>by simp
 | k+1,acc=>by
  have e:acc.toArray++its.toArray=(acc++its).toArray:=by simp
  have e2:(acc++its)++(List.replicate k its).flatten=acc++(List.replicate (k+1) its).flatten:=by
   rw [List.replicate_succ,List.flatten_cons,List.append_assoc]
  rw [<-e2,<-ik its k (acc++its),<-e,List.replicate_succ,List.foldl_cons]
section
variable {X:Cx}{pins:List (Addr×Obj)}{σ:St}{H:Hp}{s:Shared}{l b:Addr}{xs ys zs:List V}
theorem Inv.lnew {its:List Value}{t':Nat} (I:Inv X pins σ H s) (hv:aA ys its) (hz:ys.length<=sizeLine) :
  Inv X pins σ (upd H s.heap.objs.size (.lst ys)) { s with heap:=s.heap.push { cls:=.type "list",data:=.seq its.toArray },toks:=t' }:=
 I.laid (λ_ _ q=>Heap.get?_push_of_some _ q) (Nat.le_refl _) ⟨hz,its,0,hv,Heap.get?_push_size _ rfl⟩
theorem Inv.fresh (I:Inv X pins σ H s):H s.heap.objs.size=none:=I.hok.fresh (Nat.le_refl _)
theorem sr {n:Nat} (h:n<=sizeLine):Builtin.List.listTooLong n=false:=by
 unfold Builtin.List.listTooLong
 exact decide_eq_false (by lia)
end
section
variable {X:Cx}
theorem my {α:Type} (xs:List α) (k:Nat):(List.replicate k xs).flatten.length=k*xs.length:=by
 induction k with
 | zero=>simp
 | succ k ih=>rw [List.replicate_succ,List.flatten_cons,List.length_append,ih,Nat.succ_mul,Nat.add_comm]
end
section
variable {prog:Program}{w:World}{A:Around}{E:Value->Shared->Prop}{s:Shared}
end
section
variable {X:Cx}
end
end L2
namespace Att
open PySem PySem.W PySem.Calls PyProof.Rows
theorem iK {P:Params}{h:Heap}:∀ (ns:List Int) (vs:List Value),WellAll P h vs (ns.map WData.int)->IntsAre vs ns:=by
 intro ns
 induction ns with
 | nil=>
  intro vs w
  rw [List.map_nil] at w
  cases w
  exact .nil
 | cons n ns ih=>
  intro vs w
  rw [List.map_cons] at w
  cases w with
  | cons a b=>
   cases a
   exact .cons _ _ (ih _ b)
theorem qD {l:OpenLaw}{n:Nat} (hn:l.most=some n) {P:Params}{h:Heap}{args:List WData}{vals:List Value}
  (hpre:l.row.toRowW.claim.pre args=true) (hwl:WellAll P h vals args) :
  ∃ a vs ns,vals=[Value.ref a]/\args=[WData.list (ns.map WData.int)]/\h.get? a=some { cls:=.type "list",data:=.seq vs.toArray }/\IntsAre vs ns/\ns.length<=n:=by
 have hsh:WShape.hasAll [] args [.list .int]=true:=(pre_splitW hpre).1
 have hc:l.pre.holds [] { args:=args }=true:=(pre_splitW hpre).2
 obtain⟨d,r,rfl,h1,h2⟩:=hasAllW_cons hsh
 obtain rfl:=hasAllW_nil h2
 obtain⟨xs,rfl,h3⟩:=hasW_list h1
 obtain⟨ns,rfl⟩:=items_int h3
 have hlen:ns.length<=n:=by
  unfold OpenLaw.pre at hc
  have h4:(WTm.not (.lt (.lit (.int (n:Int))) (.len (.arg 0)))).holds [] { args:=[.list (ns.map .int)] }=true:=by
   have h4:=(holds_andW hc).1
   rw [hn] at h4
   exact h4
  have h5:=condW_of h4 (w_not (w_lt w_lit (w_len_list (w_arg rfl))))
  rw [List.length_map] at h5
  refine Nat.le_of_not_lt λq=>?_
  have q':(n:Int) < ((ns.length:Nat):Int):=by lia
  first
   | (rw [decide_eq_true q'] at h5;exact absurd h5 (by decide))
   | (simp at h5;lia)
 cases hwl with
 | cons w1 w2=>
  cases w2
  cases w1 with
  | list ho hall=>exact⟨_,_,ns,rfl,rfl,ho,iK ns _ hall,hlen⟩
theorem qB (l:OpenLaw) (args:List WData):l.row.toRowW.claim.post args (.bool true) args=true:=
 postW_of (r:=l.row.toRowW) (X:=(true==true))
  (show WShape.has [] (.bool true) .bool=true by first | rfl | decide | simp [WShape.has,WShape.arms,WShape.armsAll])
  (show (WTm.eq .res (.lit (.bool true))).value [] { args:=args,res:=some (.bool true),after:=args }=some (.bool (true==true)) from w_eq_bool (w_res rfl) w_lit) rfl
theorem attach_call {l:OpenLaw}{n:Nat}{q:Program}{loose:List Str}{XP:(Str->Option Value)->Heap->Prop}{YP:World->Heap->Prop}{d:DefRec}
  (hn:l.most=some n) (hdf:d.params.defaults=[])
  (call:∀ (w:World) (s₀ s₁:Shared) (mg mb:Str->Option Value) (fa:Addr) (o:Obj) (pm cd doc:Value) (a:Addr) (vs:List Value) (ns:List Int),
    Ground q loose [] XP w s₀ mg mb s₁.heap->YP w s₁.heap->
    s₁.heap.get? fa=some o->o.data=.func (docDef d.name d.params d.body d.scope pm cd doc)->s₁.heap.CodeRec cd d.name->mg d.name=some (.ref fa)->
    s₁.heap.get? a=some { cls:=.type "list",data:=.seq vs.toArray }->IntsAre vs ns->ns.length<=n->s₁.gens=#[]->
    codeAny (model l.prog w) callerA (.call (.ref fa) ⟨[.ref a],[]⟩) (λr s'=>r=.ok (.ret (.bool true))/\OldK s₁.heap s'.heap/\s'.os=s₁.os/\AllBare s'.gens) s₁) :
  WalkO q loose XP YP l.row.toRowW d [] (λf vs=>PySem.call f vs):=by
 intro w s₀ s₁ mg mb G Y fa o pm cd doc dV kV ho hd hcd hD hmg hg args vals as hpre hlay hrd hwl hlo
 obtain rfl:dV=.none:=Dflts.none hD hdf
 obtain rfl:kV=.none:=Dflts.noKw hD
 obtain⟨a,vs,ns,rfl,rfl,hobj,hints,hlen⟩:=qD hn hpre hwl
 refine enter_call (codeAny_mono (call w s₀ s₁ mg mb fa o pm cd doc a vs ns G Y ho (fd_plain hd) hcd hmg hobj hints hlen hg) λr s' hq=>?_)
 obtain⟨rfl,h2,h3,h4⟩:=hq
 exact⟨.inl ⟨.bool true,.bool true,[],rfl,λ_=>rfl,.bool true,qB l _,λ_=>⟨List.Pairwise.nil,λ_ hm=>(nomatch hm)⟩⟩,h2,h3,h4⟩
section
variable {prog:Program}{w:World}{A:Around}{E:Value->Shared->Prop}{s:Shared}{K:Frag}
end
end Att
namespace L2
open PySem PySem.Spec PyProof.Rows
theorem kT:∀ {vs:List Value}{ns:List Int},IntsAre vs ns->aA (ns.map V.int) vs
 | _,_,.nil=>.nil
 | _,_,.cons n t h=>.cons ⟨t,rfl⟩ (kT h)
noncomputable def tF (H:Hp):Prop:=∀ b,H b=none\/∃ o xs,H b=some (.frz o (.lst xs))
theorem tD {P:Program}{w:World}{K:PySem.W.Frag}{mg mb:Str->Option Value}{CX:CXT}{k:Nat}{fa a:Addr}{fd:FuncData}{x:Str}{sp:Sp}{s₁:Shared}{vs:List Value}{ns:List Int}
  (KX:K.In s₁.heap) (hns:s₁.heap.Ns mainGlobals mg) (hb:s₁.heap.Ns builtinsNs mb) (hbb:∀ x:Str,x≠"__name__"->mb x=bootBuiltins x) (hlim:s₁.heap.NoLimit) (hg:s₁.gens=#[])
  (ha:s₁.heap.get? a=some { cls:=.type "list",data:=.seq vs.toArray }) (hi:IntsAre vs ns) (hl:ns.length<=sizeLine) (hr:cg k callerA)
  (F:∀ base:Heap,K.In base->base.Ns mainGlobals mg->ck P w K mg base CX k fa fd [x] sp) (hbind:∀ (s:Shared) (u:Value),BindsTo s fd ⟨[u],[]⟩ [(x,u)])
  (hsp:∀ H:Hp,tF H->SqL K H a (ns.map V.int)->sp [.ref a] H (λv _=>v=.bl true) λ_ _ _=>False)
  (hCX:∀ H e s',CX [] H s₁ (λ_ _ _=>False) e s'->False) :
  codeAny (model P w) callerA (.call (.ref fa) ⟨[.ref a],[]⟩) (λr s'=>r=.ok (.ret (.bool true))/\OldK s₁.heap s'.heap/\s'.os=s₁.os/\AllBare s'.gens) s₁:=by
 have rv:=kT hi
 have lenV:=hi.length
 -- from an abstract heap in which nothing but the script may be tracked
 have core:∀ H:Hp,tF H->SqL K H a (ns.map V.int)->HOk P w H s₁.heap->(∀ b,H b≠none->b=a)->(H a≠none->K.lookup a=none)->
   codeAny (model P w) callerA (.call (.ref fa) ⟨[.ref a],[]⟩) (λr s'=>r=.ok (.ret (.bool true))/\OldK s₁.heap s'.heap/\s'.os=s₁.os/\AllBare s'.gens) s₁:=by
  intro H hO hS hok hA hK
  have base_of:∀ {b:Addr}{o:Obj},s₁.heap.get? b=some o->H b=none->(mq s₁.heap H).get? b=some o:=λe n=>sL e n
  have noA:∀ {b:Addr}{o:Obj}{es:Array DictEntry}{ep:Nat},s₁.heap.get? b=some o->o.data=.dict es ep->H b=none:=λ{b o es ep} e d=>by
   cases q:H b with
   | none=>rfl
   | some u=>
    have e':b=a:=hA b (by rw [q];simp)
    subst e'
    rw [ha] at e;cases e
    have d':Data.seq vs.toArray _=Data.dict es ep:=d
    cases d'
  have nsK:∀ {b:Addr}{m:Str->Option Value},s₁.heap.Ns b m->(mq s₁.heap H).Ns b m:=λ{b m} ⟨o,es,ep,e,d,r⟩=>⟨o,es,ep,base_of e (noA e d),d,r⟩
  have hKb:K.In (mq s₁.heap H):=λb o e=>base_of (KX b o e) (by
   cases q:H b with
   | none=>rfl
   | some u=>
    have e':b=a:=hA b (by rw [q];simp)
    subst e'
    rw [hK (by rw [q];simp)] at e;cases e)
  have hM:Mod K mg (mq s₁.heap H):=⟨hKb,nsK hns,⟨mb,nsK hb,hbb⟩,let ⟨mc,h1,h2⟩:=hlim;⟨mc,nsK h1,h2⟩⟩
  have e0:vd P w K mg (mq s₁.heap H) callerA [] s₁ H:=⟨rfl,hM,λb o e=>tJ e,Nat.le_of_eq (qC _ _),trivial,λb hb=>absurd (show b ∈ ([]:List Addr) from hb) (by simp),hok,.of_eq hg⟩
  refine codeAny_mono ((F _ hKb (nsK hns)).run callerA [] s₁ H ⟨[.ref a],[]⟩ [.ref a] [.ref a] _ _ hr e0 (hbind s₁ (.ref a)) (.cons rfl .nil) (hsp H hO hS)) λr s' h=>?_
  cases r with
  | error e=>exact (hCX H e s' h).elim
  | ok fl=>
   cases fl with
   | next=>exact False.elim h
   | brk=>exact False.elim h
   | cont=>exact False.elim h
   | ret u=>
    obtain⟨v,H',os,bare,un,hok',r',q⟩:=h
    have q':v=.bl true:=q
    subst q'
    obtain rfl:u=Value.bool true:=r'
    refine⟨rfl,OldK.of_keep λb o e=>?_,os,bare⟩
    cases q:H b with
    | none=>exact un.keep b o e q (by intro z;exact absurd (show b ∈ ([]:List Addr) from z) (by simp)) (by simp)
    | some u=>
     rcases hO b with z | ⟨ob,xs,z⟩
     ·rw [q] at z;cases z
     ·have z2:=un.frzs b ob _ z
      obtain⟨e1,_⟩:=hok b _ z
      obtain⟨e2,_⟩:=hok' b _ z2
      rw [e] at e1;cases e1
      exact e2
 cases hk:K.lookup a with
 | some o=>
  -- the script is one of the module's own objects
  have e:=KX a o hk
  rw [ha] at e
  cases e
  refine core (λ_=>none) (λ_=>.inl rfl) (.inr ⟨_,vs.toArray,_,hk,rfl,rfl,rfl,by rw [List.size_toArray,lenV];exact hl,by simpa using rv⟩) (λb u z=>by have z':(none:Option HO)=some u:=z;cases z') (λb z=>absurd rfl z) λz=>absurd rfl z
 | none=>
  refine core (λb=>if b=a then some (.frz { cls:=.type "list",data:=.seq vs.toArray } (.lst (ns.map V.int))) else none) (λb=>?_) (.inl (.inr ⟨{ cls:=.type "list",data:=.seq vs.toArray },if_pos rfl⟩)) (λb u z=>?_) (λb z=>?_) λ_=>hk
  ·by_cases hb:b=a
   ·exact .inr ⟨_,_,if_pos hb⟩
   ·exact .inl (if_neg hb)
  ·by_cases hb:b=a
   ·have z':=(if_pos hb).symm.trans z
    cases z'
    subst hb
    exact⟨ha,by rw [List.length_map];exact hl,vs,_,rv,ha⟩
   ·have z':=(if_neg hb).symm.trans z
    cases z'
  ·by_cases hb:b=a
   ·exact hb
   ·exact absurd (if_neg hb) z
end L2
namespace L2
open PySem PySem.Spec PyProof.Rows
theorem walk_of {l:PySem.W.OpenLaw}{n k:Nat}{q:Program}{loose:List Str}{XP:(Str->Option Value)->Heap->Prop}{YP:World->Heap->Prop}{d:DefRec}{K:Params->PySem.W.Frag}{CX:World->CXT}{sp:World->Sp}{x:Str}
  (hn:l.most=some n) (hn2:n<=sizeLine) (hdf:d.params.defaults=[]) (hr:cg k callerA)
  (hY:∀ (w:World) (h:Heap),YP w h->(K w.params).In h)
  (F:∀ (w:World) (mg:Str->Option Value) (fa:Addr) (h:Heap),(K w.params).In h->h.Ns mainGlobals mg->mg d.name=some (.ref fa)->
    ∃ fd:FuncData,(∀ (s:Shared) (u:Value),BindsTo s fd ⟨[u],[]⟩ [(x,u)])/\
     ∀ base:Heap,(K w.params).In base->base.Ns mainGlobals mg->ck l.prog w (K w.params) mg base (CX w) k fa fd [x] (sp w))
  (hsp:∀ (w:World) (H:Hp) (a:Addr) (ns:List Int),ns.length<=n->tF H->SqL (K w.params) H a (ns.map V.int)->sp w [.ref a] H (λv _=>v=.bl true) λ_ _ _=>False)
  (hCX:∀ (w:World) (H:Hp) (s:Shared) (e:Value) (s':Shared),CX w [] H s (λ_ _ _=>False) e s'->False) :
  PySem.W.WalkO q loose XP YP l.row.toRowW d [] (λf vs=>PySem.call f vs):=by
 refine Att.attach_call hn hdf λw s₀ s₁ mg mb fa o pm cd doc a vs ns G Y ho hd hcd hmg hobj hints hlen hg=>?_
 have KX:=hY w _ Y
 obtain⟨fd,hb,hF⟩:=F w mg fa _ KX G.T.g hmg
 exact tD KX G.T.g G.T.b G.T.builtins G.T.nolimit hg hobj hints (Nat.le_trans hlen hn2) hr hF hb (λH hO hS=>hsp w H a ns hlen hO hS) λH e s'=>hCX w H s₁ e s'
end L2
namespace L2
open PySem PySem.Spec PyProof.Rows
noncomputable def aR (s:Stmt):Arguments:=match s with
 | .FunctionDef _ a _ _ _ _ _ _ _ _=>a
 | _=>{ posonlyargs:=[],args:=[],vararg:=none,kwonlyargs:=[],kw_defaults:=[],kwarg:=none,defaults:=[] }
noncomputable def aF (s:Stmt):List Stmt:=match s with
 | .FunctionDef _ _ b _ _ _ _ _ _ _=>b
 | _=>[]
noncomputable def aj (s:Stmt):Scope:=match s with
 | .FunctionDef _ _ _ _ _ _ sc _ _ _=>sc
 | _=>{ kind:=.function,names:=[],isGenerator:=false,isCoroutine:=false }
abbrev CX0:CXT:=λ_ _ _ _ _ _=>False
abbrev E0:XK:=λ_ _ _=>False
theorem zi {X:Cx}:oH CX0 X E0:=λ_ _ _ _ _ _ _ h=>h.elim
structure Fun (K:PySem.W.Frag) (x qual:Str) (st:Stmt) (f:Addr) (fd:FuncData):Prop where
 ex:∃ (oc:Value) (od:Option Addr) (kV doc pm:Value) (an:Option Addr) (cdv ct:Value) (osl:Array (Option Value)),
  fd=PySem.W.fnOf x qual (aR st) (aF st) (aj st) .none kV doc pm an cdv ct/\K.lookup f=some ⟨oc,od,.func fd,osl⟩/\PySem.W.codeIn K cdv qual=true
 kp:PySem.W.keepIn K (.ref f)=true
section
variable {P:Program}{w:World}{K:PySem.W.Frag}{mg:Str->Option Value}{base:Heap}
theorem Fun.ok {x qual:Str}{st:Stmt}{f:Addr}{fd:FuncData}{N ps:List Str}{k:Nat}{sp:Sp} (F:Fun K x qual st f fd) (S:aQ N ps (aj st)) (len:∀ vs H Q E,sp vs H Q E->vs.length=ps.length)
  (hbody:∀ (cdv:Value) (A:Around) (outer:List Env) (s:Shared) (H:Hp) (vs:List V) (Q:VK) (E:XK),cg k (A.deeper (envOfC qual (aj st) s.heap.objs.size f cdv))->sp vs H Q E->
    ∃ t,PSs (lA CX0 P w K mg base N qual (aj st) f cdv A outer s H E).nox (aF st) t/\t { nx:=λ_ H'=>Q .non H',rt:=Q } (start N vs) H):ck P w K mg base CX0 (k+1) f fd ps sp:=by
 obtain⟨oc,od,kV,doc,pm,an,cdv,ct,osl,rfl,lk,hcd⟩:=F.ex
 refine y4 lk hcd S len λA outer s H vs Q E hr hsp=>?_
 obtain⟨t,h,q⟩:=hbody cdv A outer s H vs Q E hr hsp
 exact⟨t,h.nox,q⟩
theorem Fun.binds {x qual:Str}{st:Stmt}{f:Addr}{fd:FuncData}{ps:List Str} (F:Fun K x qual st f fd)
  (h:∀ (kV doc pm:Value) (an:Option Addr) (cdv ct:Value) (us:List Value),us.length=ps.length->bindArgs (PySem.W.fnOf x qual (aR st) (aF st) (aj st) .none kV doc pm an cdv ct) ⟨us,[]⟩=pure (ps.zip us)):bK K fd ps []:=by
 obtain⟨oc,od,kV,doc,pm,an,cdv,ct,osl,rfl,lk,hcd⟩:=F.ex
 exact .all (h kV doc pm an cdv ct)
theorem bI {x qual:Str}{st:Stmt}{f:Addr}{oc:Value}{od an:Option Addr}{osl:Array (Option Value)}{kV doc pm cdv ct:Value} (l:K.lookup f=some ⟨oc,od,.func (PySem.W.fnOf x qual (aR st) (aF st) (aj st) .none kV doc pm an cdv ct),osl⟩)
  (c:PySem.W.codeIn K cdv qual=true) (k:PySem.W.keepIn K (.ref f)=true):Fun K x qual st f (PySem.W.fnOf x qual (aR st) (aF st) (aj st) .none kV doc pm an cdv ct):=⟨⟨oc,od,kV,doc,pm,an,cdv,ct,osl,rfl,l,c⟩,k⟩
end
theorem vG {A:Around}{k:Nat} (hr:cg k A):A.units+1 < cLine:=Nat.lt_of_le_of_lt (Nat.add_le_add_left (by decide:1<=64) _) hr.units
theorem qf {n:Nat} (h:n<=1000):n < sizeLine:=Nat.lt_of_le_of_lt h (by decide)
section
variable {X:Cx}
end
theorem pY {A B:Prop} (h:B):if false=true then A else B:=by
 rw [if_neg Bool.false_ne_true]
 exact h
theorem pW {A B:Prop} (h:A):if true=true then A else B:=by
 rw [if_pos rfl]
 exact h
noncomputable def aY (H H':Hp):Prop:=∀ b o,H b=some o->H' b=some o
theorem aY.refl (H:Hp):aY H H:=λ_ _ h=>h
end L2
namespace L2
open PySem PySem.Spec PyProof.Rows
noncomputable def br (cells:List (Str×Addr)):List (Str×NameKind)->List (Str×Addr)->List (Str×Addr)
 | [],acc=>acc
 | (n,k)::r,acc=>if k==.free then br cells r ((n,(cells.lookup n).getD 0)::acc) else br cells r acc
theorem gu {env:Env} (f:Str×NameKind->List (Str×Addr)->Sem (ForInStep (List (Str×Addr))))
  (hf:∀ n k cs,f (n,k) cs=if k==.free then (do let c <-cellOf env n;pure (.yield ((n,c)::cs))) else pure (.yield cs)) :
  ∀ (names:List (Str×NameKind)) (acc:List (Str×Addr)),(∀ x ∈ names,x.2=.free->∃ c,env.cells.lookup x.1=some c)->
   forIn names acc f=pure (br env.cells names acc)
 | [],acc,_=>by rw [List.forIn_nil];rfl
 | (n,k)::r,acc,h=>by
  rw [List.forIn_cons,hf]
  unfold br
  by_cases hk:(k==.free)=true
  ·obtain⟨c,hc⟩:=h (n,k) List.mem_cons_self (beq_iff_eq.mp hk)
   have hc':env.cells.lookup n=some c:=hc
   rw [if_pos hk,if_pos hk]
   have:cellOf env n=pure c:=by unfold cellOf;rw [hc']
   rw [this,hc']
   simp only [pure_bind,Option.getD_some]
   exact gu f hf r _ λx hx=>h x (List.mem_cons_of_mem _ hx)
  ·rw [if_neg hk,if_neg hk]
   simp only [pure_bind]
   exact gu f hf r _ λx hx=>h x (List.mem_cons_of_mem _ hx)
theorem kG {scope:Scope}{env:Env} (h:∀ x ∈ scope.names,x.2=.free->∃ c,env.cells.lookup x.1=some c) :
  closureFor scope env=pure (br env.cells scope.names []):=by
 simp only [closureFor]
 rw [gu (env:=env) _ (λn k cs=>by cases hk:k==NameKind.free<;>simp [hk]) scope.names [] h]
 simp
theorem d5 {cells:List (Str×Addr)}:∀ (names:List (Str×NameKind)) (acc:List (Str×Addr)) {x:Str}{c:Addr},(br cells names acc).lookup x=some c->
  acc.lookup x=some c\/((x,NameKind.free) ∈ names/\c=(cells.lookup x).getD 0)
 | [],_,_,_,h=>.inl h
 | (n,k)::r,acc,x,c,h=>by
  unfold br at h
  by_cases hk:(k==.free)=true
  ·rw [if_pos hk] at h
   rcases d5 r _ h with q | ⟨q1,q2⟩
   ·rw [List.lookup_cons] at q
    cases hx:x==n with
    | true=>
     rw [hx] at q
     have e:=beq_iff_eq.mp hx
     subst e
     exact .inr ⟨by rw [<-beq_iff_eq.mp hk];exact List.mem_cons_self,(Option.some.inj q).symm⟩
    | false=>rw [hx] at q;exact .inl q
   ·exact .inr ⟨List.mem_cons_of_mem _ q1,q2⟩
  ·rw [if_neg hk] at h
   rcases d5 r _ h with q | ⟨q1,q2⟩
   ·exact .inl q
   ·exact .inr ⟨List.mem_cons_of_mem _ q1,q2⟩
theorem dY {cells:List (Str×Addr)}{x:Str}:∀ (names:List (Str×NameKind)) (acc:List (Str×Addr)),((x,NameKind.free) ∈ names\/(acc.lookup x).isSome=true)->((br cells names acc).lookup x).isSome=true
 | [],_,h=>h.elim (λz=>nomatch z) id
 | (n,k)::r,acc,h=>by
  unfold br
  by_cases hk:(k==.free)=true
  ·rw [if_pos hk]
   refine dY r _ ?_
   rcases h with h | h
   ·rcases List.mem_cons.mp h with e | h
    ·cases e
     exact .inr (by rw [List.lookup_cons,beq_self_eq_true];rfl)
    ·exact .inl h
   ·refine .inr ?_
    rw [List.lookup_cons]
    cases x==n
    ·exact h
    ·rfl
  ·rw [if_neg hk]
   refine dY r _ ?_
   rcases h with h | h
   ·rcases List.mem_cons.mp h with e | h
    ·cases e;exact absurd rfl hk
    ·exact .inl h
   ·exact .inr h
theorem cO:∀ (names:List (Str×NameKind)) (n:Nat) (acc:List (Str×Addr)) {x:Str}{c:Addr},(cellsFrom n names acc).lookup x=some c->acc.lookup x=some c\/((x,NameKind.cell) ∈ names/\n<=c)
 | [],_,_,_,_,h=>.inl h
 | (m,k)::r,n,acc,x,c,h=>by
  unfold cellsFrom at h
  by_cases hk:(k==.cell)=true
  ·rw [if_pos hk] at h
   rcases cO r _ _ h with q | ⟨q1,q2⟩
   ·rw [List.lookup_cons] at q
    cases hx:x==m with
    | true=>
     rw [hx] at q
     have e:=beq_iff_eq.mp hx
     subst e
     exact .inr ⟨by rw [<-beq_iff_eq.mp hk];exact List.mem_cons_self,by rw [Option.some.inj q];exact Nat.le_refl _⟩
    | false=>rw [hx] at q;exact .inl q
   ·exact .inr ⟨List.mem_cons_of_mem _ q1,Nat.le_of_succ_le q2⟩
  ·rw [if_neg hk] at h
   rcases cO r _ _ h with q | ⟨q1,q2⟩
   ·exact .inl q
   ·exact .inr ⟨List.mem_cons_of_mem _ q1,q2⟩
theorem kA:∀ (names:List (Str×NameKind)) (n:Nat) (acc:List (Str×Addr)),(∀ p ∈ acc,p.2 < n)->∀ {x y:Str}{c:Addr},(cellsFrom n names acc).lookup x=some c->(cellsFrom n names acc).lookup y=some c->n<=c->x=y:=by
 have key:∀ (names:List (Str×NameKind)) (n:Nat) (acc:List (Str×Addr)) (lo:Nat),lo<=n->(∀ p ∈ acc,p.2 < n)->(∀ p ∈ acc,∀ q ∈ acc,lo<=p.2->p.2=q.2->p.1=q.1)->
   ∀ p ∈ cellsFrom n names acc,∀ q ∈ cellsFrom n names acc,lo<=p.2->p.2=q.2->p.1=q.1:=by
  intro names
  induction names with
  | nil=>intro n acc lo _ _ h;exact h
  | cons z r ih=>
   intro n acc lo hlo hlt h
   obtain⟨m,k⟩:=z
   unfold cellsFrom
   by_cases hk:(k==.cell)=true
   ·rw [if_pos hk]
    refine ih _ _ lo (Nat.le_succ_of_le hlo) (λp hp=>?_) (λp hp q hq l e=>?_)
    ·rcases List.mem_cons.mp hp with e | hp
     ·rw [e];exact Nat.lt_succ_self _
     ·exact Nat.lt_succ_of_lt (hlt p hp)
    ·rcases List.mem_cons.mp hp with e1 | hp<;>rcases List.mem_cons.mp hq with e2 | hq
     ·rw [e1,e2]
     ·rw [e1] at e;exact absurd (hlt q hq) (by rw [<-e];exact Nat.lt_irrefl _)
     ·rw [e2] at e;exact absurd (hlt p hp) (by rw [e];exact Nat.lt_irrefl _)
     ·exact h p hp q hq l e
   ·rw [if_neg hk]
    exact ih _ _ lo hlo hlt h
 intro names n acc hlt x y c hx hy hc
 exact key names n acc n (Nat.le_refl _) hlt (λp hp q hq l _=>absurd (hlt p hp) (Nat.not_lt.mpr l)) _ (PySem.mem_of_lookup hx) _ (PySem.mem_of_lookup hy) hc rfl
theorem dj:∀ (names:List (Str×NameKind)) (h:Heap) (acc:List (Str×Addr)),(∀ p ∈ acc,∃ v,h.IsCell p.2 v)->∀ p ∈ cellsFrom h.objs.size names acc,∃ v,(pushCells h names).IsCell p.2 v
 | [],_,_,h=>h
 | (m,k)::r,h,acc,hc=>by
  unfold cellsFrom pushCells
  by_cases hk:(k==.cell)=true
  ·rw [if_pos hk,if_pos hk]
   have:=dj r (h.push { cls:=.type "cell",data:=.cell none }) ((m,h.objs.size)::acc) (λp hp=>by
    rcases List.mem_cons.mp hp with e | hp
    ·rw [e];exact⟨none,_,Heap.get?_push_size _ rfl,rfl⟩
    ·obtain⟨v,z⟩:=hc p hp
     exact⟨v,z.keeps λb o e=>Heap.get?_push_of_some _ e⟩)
   rwa [Heap.size_push] at this
  ·rw [if_neg hk,if_neg hk]
   exact dj r h acc hc
theorem eX {names:List (Str×NameKind)} (nd:(names.map (·.1)).Nodup):∀ {x:Str}{k:NameKind},(x,k) ∈ names->names.lookup x=some k:=by
 induction names with
 | nil=>intro x k h;cases h
 | cons z r ih=>
  intro x k h
  obtain⟨m,k'⟩:=z
  rw [List.map_cons,List.nodup_cons] at nd
  rw [List.lookup_cons]
  rcases List.mem_cons.mp h with e | h
  ·cases e;rw [beq_self_eq_true]
  ·have:(x==m)=false:=beq_eq_false_iff_ne.mpr λe=>nd.1 (e ▸ List.mem_map.mpr ⟨(x,k),by assumption,rfl⟩)
   rw [this]
   exact ih nd.2 h
theorem cA {env:Env}:∀ {names:List (Str×NameKind)}{x:Str}{k:NameKind},
  (names.map λ(n,k)=>if (k==NameKind.free && env.scope.kind==.function && env.kindOf n==some .cell) then (n,NameKind.cell) else (n,k)).lookup x=some k->
  ∃ k0,names.lookup x=some k0/\(k=k0\/(k0=.free/\k=.cell))
 | [],_,_,h=>by cases h
 | (n,k0)::r,x,k,h=>by
  rw [List.map_cons] at h
  dsimp only at h
  rw [List.lookup_cons]
  by_cases hc:(k0==NameKind.free && env.scope.kind==.function && env.kindOf n==some .cell)=true
  ·rw [if_pos hc,List.lookup_cons] at h
   cases hx:x==n with
   | true=>
    rw [hx] at h
    refine⟨k0,rfl,.inr ⟨?_,(Option.some.inj h).symm⟩⟩
    simp only [Bool.and_eq_true] at hc
    exact beq_iff_eq.mp hc.1.1
   | false=>rw [hx] at h;exact cA h
  ·rw [if_neg hc,List.lookup_cons] at h
   cases hx:x==n with
   | true=>rw [hx] at h;exact⟨k0,rfl,.inl (Option.some.inj h).symm⟩
   | false=>rw [hx] at h;exact cA h
theorem eY {env:Env}:∀ {names:List (Str×NameKind)}{x:Str},names.lookup x=some .free->
  (names.map λ(n,k)=>if (k==NameKind.free && env.scope.kind==.function && env.kindOf n==some .cell) then (n,NameKind.cell) else (n,k)).lookup x=some .free\/
  (names.map λ(n,k)=>if (k==NameKind.free && env.scope.kind==.function && env.kindOf n==some .cell) then (n,NameKind.cell) else (n,k)).lookup x=some .cell
 | [],_,h=>by cases h
 | (n,k0)::r,x,h=>by
  rw [List.map_cons]
  dsimp only
  rw [List.lookup_cons] at h
  by_cases hc:(k0==NameKind.free && env.scope.kind==.function && env.kindOf n==some .cell)=true
  ·rw [if_pos hc,List.lookup_cons]
   cases hx:x==n with
   | true=>exact .inr rfl
   | false=>rw [hx] at h;exact eY h
  ·rw [if_neg hc,List.lookup_cons]
   cases hx:x==n with
   | true=>rw [hx] at h;exact .inl h
   | false=>rw [hx] at h;exact eY h
theorem mD {M:Model}{A:Around}{E:Value->Shared->Prop}{s:Shared}{scope:Scope}{env:Env}{cl:List (Str×Addr)}{Q:Env->Shared->Prop}
  (hQ:Q (newEnv scope s.heap.objs.size env.globals (cellsFrom (s.heap.objs.size+1) scope.names cl) env.qual none .none (some env) builtinsNs)
    { s with heap:=pushCells (s.heap.push { cls:=.type "dict",data:=.dict #[] }) scope.names }) :
  wpAny M A (newFunctionEnv scope env.globals cl [] env.qual none .none (some env)) Q E s:=by
 simp only [newFunctionEnv,Option.isSome_some,if_true]
 refine wpAny_bind (wpAny_alloc ?_)
 refine wpAny_bind (wpAny_layCells _ (λname kind cells=>by cases hkc:kind==NameKind.cell<;>simp [hkc]) _ _ _ _ ?_)
 rw [show ({ s with heap:=s.heap.push { cls:=.type "dict",data:=.dict #[] } }:Shared).heap.objs.size=s.heap.objs.size+1 from Heap.size_push ..]
 refine wpAny_bind ?_
 rw [List.forIn_nil]
 exact wpAny_pure (wpAny_pure hQ)
theorem fH {prog:Program}{w:World}{A:Around}{R:Result->Shared->Prop}{s:Shared}{elt target iter:Expr}{ifs:List Expr}{scope:Scope}{pos:Pos}{it acc:Value}{env:Env} (I:Nat->Shared->Prop)
  (turn:∀ n s,I n s->wpAny (model prog w) A (pyNext it) (λr s₁=>match r with
    | none=>R (.ok .next) s₁
    | some v=>wpAny (model prog w) A (letOwnedTupleGo target it v) (λ_ s₁'=>wpAny (model prog w) A (assign target env v) (λ_ s₂=>
      wpAny (model prog w) A (forIn ifs true λc r=>if r=true then do let ok <-isTrue c env (eval c env);pure (ForInStep.yield ok) else pure (ForInStep.yield r)) (λok s₃=>
       if ok=true then wpAny (model prog w) A (eval elt env) (λx s₄=>
        wpAny (model prog w) A (call (.builtin "list.append") [acc,x]) (λ_ s₅=>∃ m,m < n/\I m s₅) (λ_ _=>False) s₄) (λ_ _=>False) s₃
       else ∃ m,m < n/\I m s₃) (λ_ _=>False) s₂) (λ_ _=>False) s₁') (λ_ _=>False) s₁) (λ_ _=>False) s)
  (n:Nat) (h:I n s) :
  codeAny (model prog w) A (.compLoop (.ListComp elt [⟨target,iter,ifs,0⟩] scope pos) 0 it acc env) R s:=by
 refine codeAny_loop rfl I (λn s hI=>?_) n h
 show wpAny _ A ((compTurn (.ListComp elt [⟨target,iter,ifs,0⟩] scope pos) 0 it acc env).onRaise (λx=>do noteFrame x env;theTreesLotGoes x)) _ _ s
 refine wpAny_noted ?_
 rw [compTurn_list]
 refine wpAny_bind (wpAny_standAt (wpAny_bind (wpAny_mono (turn n s hI) (λr s₁ h₁=>?_) λ_ _ h'=>h'.elim)))
 cases r with
 | none=>exact wpAny_pure h₁
 | some v=>
  refine wpAny_bind (wpAny_mono h₁ (λ_ s₁' h₁'=>?_) λ_ _ h'=>h'.elim)
  refine wpAny_bind (wpAny_mono h₁' (λ_ s₂ h₂=>wpAny_bind (wpAny_mono h₂ (λok s₃ h₃=>?_) λ_ _ h'=>h'.elim)) λ_ _ h'=>h'.elim)
  cases ok with
  | false=>exact wpAny_pure ⟨rfl,h₃⟩
  | true=>
   exact wpAny_bind (wpAny_bind (wpAny_mono h₃ (λx s₄ h₄=>wpAny_bind (wpAny_mono h₄ (λ_ s₅ h₅=>wpAny_pure (wpAny_pure ⟨rfl,h₅⟩)) λ_ _ h'=>h'.elim)) λ_ _ h'=>h'.elim))
noncomputable def lcX (X:Cx) (scope:Scope) (cells:List (Str×Addr)) (Nc:List Str) (s:Shared) (H:Hp) (C:Addr) (fp:List Addr):Cx where
 prog:=X.prog
 w:=X.w
 K:=X.K
 mg:=X.mg
 base:=X.base
 A:=X.A
 N:=Nc
 s₀:=s
 H₀:=H
 env:=compEnvC scope cells C X.env
 outer:=X.stack
 stack:=X.stack
 ex:=fp
 fn:=λx=>scope.names.lookup x==some .cell
 calm:=X.calm
 pn:=[]
 xe:=λ_ _=>False
structure fV (X:Cx) (scope:Scope) (Nc:List Str) (emb:St->St):Prop where
 kind:scope.kind=.function
 nd:(scope.names.map (·.1)).Nodup
 nN:Nc.Nodup
 free:∀ x ∈ scope.names,x.2=.free->X.env.kindOf x.1=some .cell\/X.env.kindOf x.1=some .free
 len:∀ σ:St,σ.length=X.N.length->(emb σ).length=Nc.length
 emb:∀ σ:St,σ.length=X.N.length->∀ (i:Nat) (x:Str) (v:V),Nc[i]?=some x->(emb σ)[i]?=some (some v)->∃ j:Nat,X.N[j]?=some x/\σ[j]?=some (some v)/\scope.names.lookup x=some .free
section
variable {X:Cx}{pins:List (Addr×Obj)}{σ:St}{H:Hp}{s:Shared}{scope:Scope}{Nc:List Str}{emb:St->St}
theorem fV.clos (S:fV X scope Nc emb) (ok:X.Ok):∀ x ∈ scope.names,x.2=.free->∃ c,X.env.cells.lookup x.1=some c:=λx hx h=>ok.has x.1 (S.free x hx h)
theorem tj (S:fV X scope Nc emb) (I:Inv X pins σ H s) {fp:List Addr} (hf:∀ b ∈ fp,nw X pins H b) (hfo:∀ b ∈ fp,∃ o,s.heap.get? b=some o) {lo:Obj} (hlo:∀ v,lo.data≠.cell v) (hfr:lo.isFreed=false) :
  Inv (lcX X scope (cellsFrom (s.heap.objs.size+2) scope.names (br X.env.cells scope.names [])) Nc s H (s.heap.objs.size+1) fp) [(s.heap.objs.size,lo)] (emb σ) H
   { s with heap:=pushCells ((s.heap.push lo).push { cls:=.type "dict",data:=.dict #[] }) scope.names }:=by
 have hsz2:((s.heap.push lo).push { cls:=.type "dict",data:=.dict #[] }).objs.size=s.heap.objs.size+2:=by rw [Heap.size_push,Heap.size_push]
 have hsz1:(s.heap.push lo).objs.size=s.heap.objs.size+1:=by rw [Heap.size_push]
 have hk:∀ b o,s.heap.get? b=some o->(pushCells ((s.heap.push lo).push { cls:=.type "dict",data:=.dict #[] }) scope.names).get? b=some o:=λb o e=>
  pushCells_keeps _ _ b o (Heap.get?_push_of_some _ (Heap.get?_push_of_some _ e))
 have has:=S.clos I.ok
 have cl_old:∀ {x:Str}{c:Addr},(br X.env.cells scope.names []).lookup x=some c->X.env.cells.lookup x=some c/\(x,NameKind.free) ∈ scope.names:=λ{x c} h=>by
  rcases d5 _ _ h with q | ⟨q1,q2⟩
  ·cases q
  ·obtain⟨c',hc'⟩:=has _ q1 rfl
   have hc'':X.env.cells.lookup x=some c':=hc'
   rw [hc''] at q2
   exact⟨by rw [hc'',q2];rfl,q1⟩
 have cells_cases:∀ {x:Str}{c:Addr},(cellsFrom (s.heap.objs.size+2) scope.names (br X.env.cells scope.names [])).lookup x=some c->
   (X.env.cells.lookup x=some c/\(x,NameKind.free) ∈ scope.names)\/((x,NameKind.cell) ∈ scope.names/\s.heap.objs.size+2<=c):=λ{x c} h=>by
  rcases cO _ _ _ h with q | q
  ·exact .inl (cl_old q)
  ·exact .inr q
 have oldlt:∀ {x:Str}{c:Addr},X.env.cells.lookup x=some c->c < s.heap.objs.size:=λ{x c} h=>by
  obtain⟨v,z⟩:=I.cell x c h
  exact z.lt
 have fplt:∀ b ∈ fp,b < s.heap.objs.size:=λb hb=>by obtain⟨o,e⟩:=hfo b hb;exact Heap.lt_size e
 have accmem:∀ p ∈ br X.env.cells scope.names [],∃ x,X.env.cells.lookup x=some p.2:=by
  have key:∀ (names:List (Str×NameKind)) (acc:List (Str×Addr)),(∀ x ∈ names,x.2=.free->∃ c,X.env.cells.lookup x.1=some c)->(∀ p ∈ acc,∃ x,X.env.cells.lookup x=some p.2)->∀ p ∈ br X.env.cells names acc,∃ x,X.env.cells.lookup x=some p.2:=by
   intro names
   induction names with
   | nil=>intro acc _ h;exact h
   | cons z r ih=>
    intro acc hn h
    obtain⟨m,k⟩:=z
    unfold br
    by_cases hk:(k==.free)=true
    ·rw [if_pos hk]
     refine ih _ (λx hx=>hn x (List.mem_cons_of_mem _ hx)) λp hp=>?_
     rcases List.mem_cons.mp hp with e | hp
     ·obtain⟨c,hc⟩:=hn _ List.mem_cons_self (beq_iff_eq.mp hk)
      have hc':X.env.cells.lookup m=some c:=hc
      exact⟨m,by rw [e,hc'];rfl⟩
     ·exact h p hp
    ·rw [if_neg hk]
     exact ih _ (λx hx=>hn x (List.mem_cons_of_mem _ hx)) h
  exact key _ _ has λp hp=>nomatch hp
 refine⟨⟨I.ok.mod,S.kind,I.ok.glob,I.ok.blt,Nat.le_succ _,λx y c h1 h2=>?_,λx hx=>?_,λx c hx h=>?_,I.ok.hd,I.ok.frames,.inl rfl,λb hb=>?_,I.bs,Nat.le_trans I.ok.bsz I.sz,λb o e hb=>?_,λb hb=>?_,I.stack,I.stkFree⟩,
  rfl,I.bare,Un.kept hk,⟨_,(Heap.Ns.new (s.heap.push lo) (.type "dict")).keeps (pushCells_keeps _ _) |> λq=>by rw [hsz1] at q;exact q,λi x v h1 h2 _=>?_⟩,λx c h=>?_,I.hok.fresh (Nat.le_succ _),λx c h=>?_,λp hp=>?_,I.hok.kept hk,S.len σ I.len⟩
 ·-- inj
  have h1':(cellsFrom (s.heap.objs.size+2) scope.names (br X.env.cells scope.names [])).lookup x=some c:=h1
  have h2':(cellsFrom (s.heap.objs.size+2) scope.names (br X.env.cells scope.names [])).lookup y=some c:=h2
  rcases cells_cases h1' with⟨q1,_⟩ | ⟨_,q1⟩
  ·rcases cells_cases h2' with⟨q2,_⟩ | ⟨_,q2⟩
   ·exact I.ok.inj x y c q1 q2
   ·exact absurd (Nat.lt_of_lt_of_le (Nat.lt_succ_of_lt (Nat.lt_succ_of_lt (oldlt q1))) q2) (Nat.lt_irrefl _)
  ·refine kA scope.names _ _ (λp hp=>?_) h1' h2' q1
   obtain⟨z,hz⟩:=accmem p hp
   exact Nat.lt_succ_of_lt (Nat.lt_succ_of_lt (oldlt hz))
 ·-- has
  have hx':(relabel scope X.env).names.lookup x=some .cell\/(relabel scope X.env).names.lookup x=some .free:=hx
  have:∃ k0,scope.names.lookup x=some k0/\(k0=.cell\/k0=.free):=by
   rcases hx' with q | q
   ·obtain⟨k0,h1,h2⟩:=cA q
    exact⟨k0,h1,h2.elim (λe=>.inl e.symm) λe=>.inr e.1⟩
   ·obtain⟨k0,h1,h2⟩:=cA q
    exact⟨k0,h1,h2.elim (λe=>.inr e.symm) λe=>by cases e.2⟩
  obtain⟨k0,h1,h2⟩:=this
  refine Option.isSome_iff_exists.mp (PySem.W.cellsFrom_some scope.names _ _ ?_)
  rcases h2 with rfl | rfl
  ·exact .inl h1
  ·exact .inr (dY _ _ (.inl (PySem.mem_of_lookup h1)))
 ·-- cab
  have hx':scope.names.lookup x=some .cell:=beq_iff_eq.mp hx
  rcases cells_cases h with⟨_,q⟩ | ⟨_,q⟩
  ·have:=eX S.nd q
   rw [hx'] at this;cases this
  ·exact Nat.le_trans (Nat.le_add_right _ 2) q
 ·-- exf
  refine⟨Nat.ne_of_lt (Nat.lt_succ_of_lt (fplt b hb)),λx c h=>?_⟩
  rcases cells_cases h with⟨q,_⟩ | ⟨_,q⟩
  ·exact (hf b hb).2.2.2.2.1 x c q
  ·intro e
   exact absurd (Nat.lt_of_lt_of_le (Nat.lt_succ_of_lt (Nat.lt_succ_of_lt (fplt b hb))) (e ▸ q)) (Nat.lt_irrefl _)
 ·-- noex
  have hb':b ∈ fp:=hb
  rcases (hf b hb').2.2.2.1 with q | q
  ·exact I.ok.noex b o e q
  ·exact absurd (Nat.lt_of_lt_of_le (Heap.lt_size (I.ok.bs b o e).1) q) (Nat.lt_irrefl _)
 ·-- exfs
  intro hb2
  rcases List.mem_cons.mp (I.stkSub b hb2) with q | q
  ·exact (hf b hb).2.1 q
  ·exact (hf b hb).2.2.1 q
 ·-- loc
  obtain⟨j,e1,e2,e3⟩:=S.emb σ I.len i x v h1 h2
  have kx:=S.free (x,.free) (PySem.mem_of_lookup e3) rfl
  have kx':X.env.kindOf x=some .cell\/X.env.kindOf x=some .free:=kx
  obtain⟨m,hn,hl⟩:=I.loc
  obtain⟨u,ru,lk⟩:=hl j x v e1 e2 (.inr kx')
  refine⟨u,ru,.inr ⟨?_,?_⟩⟩
  ·rcases eY (env:=X.env) e3 with q | q
   ·exact .inr q
   ·exact .inl q
  ·rcases lk with⟨z,_⟩ | ⟨_,c,hc,hcell⟩
   ·rcases kx' with q | q<;>(rw [z] at q;cases q)
   ·obtain⟨c',hc'⟩:=Option.isSome_iff_exists.mp (PySem.W.cellsFrom_some scope.names (s.heap.objs.size+2) (br X.env.cells scope.names []) (x:=x) (.inr (dY _ _ (.inl (PySem.mem_of_lookup e3)))))
    rcases cells_cases hc' with⟨q,_⟩ | ⟨q,_⟩
    ·rw [hc] at q
     cases q
     exact⟨c,hc',hcell.keeps hk⟩
    ·have:=eX S.nd q
     rw [e3] at this;cases this
 ·-- cell
  have h':(cellsFrom (s.heap.objs.size+2) scope.names (br X.env.cells scope.names [])).lookup x=some c:=h
  have:=dj scope.names ((s.heap.push lo).push { cls:=.type "dict",data:=.dict #[] }) (br X.env.cells scope.names []) (λp hp=>by
   obtain⟨z,hz⟩:=accmem p hp
   obtain⟨v,q⟩:=I.cell z p.2 hz
   exact⟨v,q.keeps λb o e=>Heap.get?_push_of_some _ (Heap.get?_push_of_some _ e)⟩) (x,c) (by rw [hsz2];exact PySem.mem_of_lookup h')
  exact this
 ·-- freeC
  rcases cells_cases h with⟨q,_⟩ | ⟨_,q⟩
  ·exact I.freeC x c q
  ·exact I.hok.fresh (Nat.le_trans (Nat.le_add_right _ 2) q)
 ·-- pin
  have hp':p=(s.heap.objs.size,lo):=by
   have:p ∈ ([]:List (Addr×Obj))++[(s.heap.objs.size,lo)]:=hp
   simpa using this
  subst hp'
  refine⟨pushCells_keeps _ _ _ _ (Heap.get?_push_of_some _ (Heap.get?_push_size _ hfr)),I.hok.fresh (Nat.le_refl _),Nat.ne_of_lt (Nat.lt_succ_self _),λhb=>?_,hlo⟩
  rcases List.mem_cons.mp (I.stkSub _ hb) with q | q
  ·exact absurd I.lt (by rw [<-q];exact Nat.lt_irrefl _)
  ·exact I.nofs (Nat.le_refl _) q
end
end L2
namespace L2
open PySem PySem.Spec PyProof.Rows
noncomputable def PTs (X:Cx) (ifs:List Expr) (t:TT):Prop:=
 ∀ (pins:List (Addr×Obj)) (s:Shared) (σ:St) (H:Hp) (Q:Bool->Hp->Prop),Inv X pins σ H s->t σ H Q->
  wpAny (model X.prog X.w) X.A (forIn ifs true λc r=>if r=true then do let ok <-isTrue c X.env (eval c X.env);pure (ForInStep.yield ok) else pure (ForInStep.yield r)) (TP X pins σ Q) X.xe s
noncomputable def zW:TT:=λ_ H Q=>Q true H
theorem uH {X:Cx}:PTs X [] zW:=λ_ _ _ H _ I h=>wpAny_tests_nil ⟨H,I,h⟩
theorem vi {X:Cx}{c:Expr}{t:TT} (hc:PT X c t):PTs X [c] t:=λpins s σ H Q I h=>wpAny_tests_one (hc pins s σ H Q I h)
noncomputable def Sub (σ σ':St):Prop:=σ.length=σ'.length/\∀ (i:Nat) (v:V),σ[i]?=some (some v)->σ'[i]?=some (some v)
noncomputable def zh (J:It) (σe:St) (g:TG) (tt:TT) (te:TE) (H1:Hp) (Q:VK):Prop:=∃ W:Nat->Nat->List V->Hp->Prop,(∃ m,W 0 m [] H1)/\∀ i m ys H,W i m ys H->
 (J.stop i H/\∀ D,H D=none->Q (.ref D) (upd H D (.lst ys)))\/
 (J.go i H/\ys.length < sizeLine/\∃ N:List V->Hp->Prop,(∀ ys' H',N ys' H'->∃ m',m' < m/\W (i+1) m' ys' H')/\∀ x H',J.yld i H x H'->g x σe H' λσ2 H2=>Sub σe σ2/\tt σ2 H2 λb H3=>if b=true then te σ2 H3 λv H4=>N (ys++[v]) H4 else N ys H3)
noncomputable def tLc (emb:St->St) (wi:TI) (g:TG) (tt:TT) (te:TE):TE:=λσ H Q=>wi σ H λJ H1=>zh J (emb σ) g tt te H1 Q
section
variable {X:Cx}{scope:Scope}{Nc:List Str}{emb:St->St}{elt iter tg:Expr}{ifs:List Expr}{pos:Pos}{wi:TI}{g:TG}{tt:TT}{te:TE}
theorem zc (S:fV X scope Nc emb) (hc:X.calm=true) (hi:PI X tg iter wi)
  (hg:∀ cells s H C fp,PG (lcX X scope cells Nc s H C fp) tg g) (ht:∀ cells s H C fp,PTs (lcX X scope cells Nc s H C fp) ifs tt) (he:∀ cells s H C fp,PE (lcX X scope cells Nc s H C fp) elt te)
  (hs:∀ x,foldedSetIterable iter X.env x=pure x:=by intro _;rfl):PE X (.ListComp elt [⟨tg,iter,ifs,0⟩] scope pos) (tLc emb wi g tt te):=by
 intro pins s σ H Q I h
 rw [eval_ListComp]
 refine wpAny_comprehension_free (use:=none) rfl hs (kG (S.clos I.ok)) S.kind (λx hx hl=>eX S.nd (by rw [<-hl];exact hx)) ?_
 refine thn (hi pins s σ H _ I h) λv s1 h1=>thn h1 λitv s2 h2=>?_
 obtain⟨it,fp,tn,J,H2,e,I2,T,st2,f2,W,⟨m0,w0⟩,turn⟩:=h2
 subst e
 refine wpAny_newObj_type (mD ?_)
 rw [show (s2.heap.push { cls:=.type "list",dict:=none,data:=.seq ([]:List Value).toArray }).objs.size=s2.heap.objs.size+1 from Heap.size_push ..]
 generalize hD:s2.heap.objs.size=D
 generalize hlo:({ cls:=.type "list",dict:=none,data:=.seq ([]:List Value).toArray }:Obj)=lo
 have fplt:∀ b ∈ fp,b < s2.heap.objs.size:=λb hb=>by obtain⟨o,e,_⟩:=T.obj _ _ st2 b hb;exact Heap.lt_size e
 have I3:=tj (lo:=lo) S I2 f2 (λb hb=>by obtain⟨o,e,_⟩:=T.obj _ _ st2 b hb;exact⟨o,e⟩) (by rw [<-hlo];intro v z;cases z) (by rw [<-hlo];rfl)
 rw [hD] at I3
 generalize hcells:cellsFrom (D+2) scope.names (br X.env.cells scope.names [])=cells at I3
 generalize hX':lcX X scope cells Nc s2 H2 (D+1) fp=X' at I3
 have hfpX:∀ {H':Hp}{ps:List (Addr×Obj)},(∀ b ∈ fp,H' b=none)->(∀ p ∈ ps,p.1=D)->∀ b ∈ fp,nw X' ps H' b:=λ{H' ps} hn hps b hb=>by
  have ok:=I3.ok
  refine⟨hn b hb,?_,?_,.inl (by rw [<-hX'];exact hb),?_,λp hp=>?_⟩
  ·exact (ok.exf b (by rw [<-hX'];exact hb)).1
  ·exact ok.exfs b (by rw [<-hX'];exact hb)
  ·exact (ok.exf b (by rw [<-hX'];exact hb)).2
  ·have hp':p ∈ ([]:List (Addr×Obj))++ps:=by rw [<-hX'] at hp;exact hp
   have e:p.1=D:=hps p (by simpa using hp')
   rw [e,<-hD]
   exact Nat.ne_of_gt (fplt b hb)
 have Dex:D ∈ X'.ex\/X'.s₀.heap.objs.size<=D:=.inr (by rw [<-hX',<-hD];exact Nat.le_refl _)
 have Dloc:D≠X'.env.locals:=by rw [<-hX'];exact Nat.ne_of_lt (Nat.lt_succ_self _)
 have pD:=I3.pin (D,lo) (by rw [<-hX'];exact List.mem_append_right _ List.mem_cons_self)
 have Dfs:D ∉ X'.fs:=pD.2.2.2.1
 have Dcell:∀ x c,X'.env.cells.lookup x=some c->c≠D:=λx c hc' e=>by
  obtain⟨v,o,ho,hd⟩:=I3.cell x c hc'
  rw [e,pD.1] at ho
  cases ho
  exact pD.2.2.2.2 v hd
 -- the loop
 have loop:∀ s3:Shared,s3={ s2 with heap:=pushCells ((s2.heap.push lo).push { cls:=.type "dict",data:=.dict #[] }) scope.names }->
   codeAny (model X.prog X.w) X.A (.compLoop (.ListComp elt [⟨tg,iter,ifs,0⟩] scope pos) 0 (.ref it) (.ref D) (compEnvC scope cells (D+1) X.env))
    (compPost (model X.prog X.w) X.A X.xe none (EP X pins σ Q) (.ref D) (D+1)) s3:=by
  rintro s3 rfl
  refine fH (λn s'=>∃ i ys its k H',Inv X' [(D,{ cls:=.type "list",data:=.seq its.toArray k })] (emb σ) H' s'/\aA ys its/\tn i s'.heap/\(∀ b ∈ fp,H' b=none)/\ys.length<=sizeLine/\W i n ys H') ?_ m0
   ⟨0,[],[],0,H2,?_,.nil,?_,λb hb=>(f2 b hb).1,Nat.zero_le _,w0⟩
  ·rintro n s4 ⟨i,ys,its,k,H4,I4,rv,st4,fr4,hlen,w4⟩
   have hps:∀ p ∈ [(D,({ cls:=.type "list",data:=.seq its.toArray k }:Obj))],p.1=D:=λp hp=>by
    have:=List.mem_singleton.mp hp
    rw [this]
   rcases turn i n ys H4 w4 with⟨stop,qn⟩ | ⟨go,hlt,N,hN,step⟩
   ·-- the end
    have TD:=T.done X' (by rw [<-hX'];rfl) (by rw [<-hX'];rfl) (by rw [<-hX'];rfl) (by rw [<-hX'];exact hc) i _ s4 (emb σ) H4 (λ_ _=>False) I4 (hfpX fr4 hps) st4 stop
    rw [show X'.A=X.A by rw [<-hX'];rfl] at TD
    refine thn TD λr s5 ⟨hr,I5⟩=>?_
    subst hr
    obtain⟨m5,hn5,_⟩:=id I5.loc
    have eC:X'.env.locals=D+1:=by rw [<-hX'];rfl
    rw [eC] at hn5
    refine⟨m5,hn5,λh' hsb=>?_⟩
    have pD5:=I5.pin (D,{ cls:=.type "list",data:=.seq its.toArray k }) (by rw [<-hX'];exact List.mem_append_right _ List.mem_cons_self)
    have neC:∀ b u,H4 b=some u->b≠D+1:=λb u e z=>by
     have:=I5.free
     rw [eC,<-z,e] at this
     cases this
    have hD4:H4 D=none:=pD5.2.1
    have un:=I5.base
    have un':Un (frs X.stack) fp H2 H4 s2.heap s5.heap:=by rw [<-hX'] at un;exact un
    have old_ne:∀ b o,s2.heap.get? b=some o->b≠D/\b≠D+1:=λb o e=>by
     have q:=Heap.lt_size e
     rw [hD] at q
     exact⟨Nat.ne_of_lt q,Nat.ne_of_lt (Nat.lt_succ_of_lt q)⟩
    have h2D:H2 D=none:=by rw [<-hD];exact I2.fresh
    have hok':HOk X.prog X.w H4 h':=λb u e=>by
     have ob:bw X.prog X.w H4 s5.heap b u:=by have:=I5.hok b u e;rw [<-hX'] at this;exact this
     refine ob.stay (λc v hcv q=>(hsb.2 c ?_).trans q) (λ_ q=>q) λ_ _ q=>q
     rcases hcv with z | z
     ·rw [z];exact neC b u e
     ·exact neC c _ z
    have hokD:HOk X.prog X.w (upd H4 D (.lst ys)) h':=λb u e=>by
     by_cases hb:b=D
     ·subst hb
      rw [aW] at e
      cases e
      exact⟨hlen,its,k,rv,(hsb.2 b (Nat.ne_of_lt (Nat.lt_succ_self _))).trans pD5.1⟩
     ·rw [bb hb] at e
      refine (hok' b u e).stay (λ_ _ _ q=>q) (λc q=>?_) λc z q=>?_
      all_goals first
       | (rw [bb (bi q hD4)];exact q)
       | (rw [bb (bi z hD4)];exact z)
    refine⟨.ref D,upd H4 D (.lst ys),?_,rfl,qn D hD4⟩
    refine I2.call' (s':={ s5 with heap:=h' }) (ch:=fp) ?_ ⟨λb o e nb hb hx=>?_,λb o e nb hb hx=>?_,λb o e nb hx=>?_,λb o e hx=>?_,λb xs e=>?_,λb o u e=>?_,λb ps e=>?_⟩ hokD I5.bare (λb hb=>?_)
    ·have:=I5.os
     rw [<-hX'] at this
     exact this
    ·exact (hsb.2 b (old_ne b o e).2).trans (un'.keep b o e nb hb hx)
    ·obtain⟨sl,q⟩:=un'.slot b o e nb hb hx
     exact⟨sl,(hsb.2 b (old_ne b o e).2).trans q⟩
    ·rw [bb (old_ne b o e).1]
     exact un'.free b o e nb hx
    ·obtain⟨o',q⟩:=un'.there b o e hx
     exact⟨o',(hsb.2 b (old_ne b o e).2).trans q⟩
    ·rw [bb (bi e h2D)]
     exact un'.tups b xs e
    ·rw [bb (bi e h2D)]
     exact un'.frzs b o u e
    ·obtain⟨m,q⟩:=un'.tbls b ps e
     exact⟨m,by rw [bb (bi e h2D)];exact q⟩
    ·obtain⟨q0,q1,q2,q3,q4,q5⟩:=f2 b hb
     exact⟨q3,q1,q4,q5⟩
   ·-- a turn
    have hA:X'.A=X.A:=by rw [<-hX'];rfl
    have hP:X'.prog=X.prog:=by rw [<-hX'];rfl
    have hw:X'.w=X.w:=by rw [<-hX'];rfl
    have hE:X'.env=compEnvC scope cells (D+1) X.env:=by rw [<-hX'];rfl
    have hxe:X'.xe=λ_ _=>False:=by rw [<-hX'];rfl
    have TI':=T.item X' hP hw (by rw [<-hX'];rfl) (by rw [<-hX'];exact hc) i _ s4 (emb σ) H4 (λ_ _=>False) I4 (hfpX fr4 hps) st4 go
    rw [hA] at TI'
    refine thn TI' λr s5 ⟨u,hr,h5⟩=>?_
    subst hr
    refine thn h5 λ_ s6 ⟨x,H6,I6,r6,y6,st6,fr6⟩=>?_
    have I6':=I6.pinned (hfpX fr6 hps) (T.obj _ _ st6)
    have G:=hg cells s2 H2 (D+1) fp
    have TT':=ht cells s2 H2 (D+1) fp
    have EE:=he cells s2 H2 (D+1) fp
    rw [hX'] at G TT' EE
    have G':=G _ s6 (emb σ) H6 x u _ I6' r6 (step x H6 y6)
    rw [hA,hP,hw,hE,hxe] at G'
    refine thn G' λ_ s7 ⟨σ7,H7,I7,sb7,q7⟩=>?_
    have T':=TT' _ s7 σ7 H7 _ I7 q7
    rw [hA,hP,hw,hE,hxe] at T'
    refine thn T' λok s8 ⟨H8,I8,q8⟩=>?_
    -- what is pinned
    have pin_fp:∀ {σ9:St}{H9:Hp}{s9:Shared},Inv X' ([(D,({ cls:=.type "list",data:=.seq its.toArray k }:Obj))]++j7 fp s6.heap) σ9 H9 s9->tn (i+1) s9.heap/\∀ b ∈ fp,H9 b=none:=λ{σ9 H9 s9} I9=>
     ⟨T.keep _ _ _ st6 λb hb o e=>(I9.pin (b,o) (List.mem_append_right _ (List.mem_append_right _ (e8 hb e)))).1,λb hb=>by
      obtain⟨o,e,_⟩:=T.obj _ _ st6 b hb
      exact (I9.pin (b,o) (List.mem_append_right _ (List.mem_append_right _ (e8 hb e)))).2.1⟩
    cases ok with
    | false=>
     rw [if_neg (by decide)] at q8
     rw [if_neg (by decide)]
     obtain⟨m',hm,w8⟩:=hN _ _ q8
     exact⟨m',hm,i+1,ys,its,k,H8,I8.unpinned.weak sb7.1 sb7.2,rv,(pin_fp I8).1,(pin_fp I8).2,hlen,w8⟩
    | true=>
     rw [if_pos rfl] at q8
     rw [if_pos rfl]
     have E':=EE _ s8 σ7 H8 _ I8 q8
     rw [hA,hP,hw,hE,hxe] at E'
     refine thn E' λy s9 ⟨v9,H9,I9,r9,n9⟩=>?_
     obtain⟨m',hm,w9⟩:=hN _ _ n9
     have pD9:=I9.pin (D,{ cls:=.type "list",data:=.seq its.toArray k }) (List.mem_append_right _ (List.mem_append_left _ List.mem_cons_self))
     have hl:=rv.length
     have I9n:Inv X' [] σ7 H9 s9:=I9.pins_of λp hp=>nomatch hp
     refine call_meets F.slot_list_append ⟨_,pD9.1,rfl⟩ F.entry_list_append (F.args_list_append_2 _ _) (PySem.list_append D its.toArray k y (by rw [List.size_toArray];lia)) ⟨pD9.1,?_⟩
     have up:∃ k':Nat,(s9.heap.update D (Obj.mapSeq λxs=>xs.push y)).get? D=some { cls:=.type "list",data:=.seq (its++[y]).toArray k' }:=by
      have q:=PySem.IsL.update pD9.1 (λxs:Array Value=>xs.push y)
      simp only [List.push_toArray] at q
      exact⟨_,q⟩
     obtain⟨k',up⟩:=up
     have hoth:∀ b o,b≠D->s9.heap.get? b=some o->(s9.heap.update D (Obj.mapSeq λxs=>xs.push y)).get? b=some o:=λb o hb e=>(Heap.get?_update_other s9.heap _ (Ne.symm hb)).trans e
     have I10:=I9n.turned (t':=s9.toks) hoth pD9.2.1 Dloc Dex Dcell (λp hp=>absurd (show p ∈ ([]:List (Addr×Obj)) by rw [<-hX'] at hp;exact hp) (by simp))
     refine⟨m',hm,i+1,ys++[v9],its++[y],k',H9,(I10.weak sb7.1 sb7.2).pins_of (λp hp=>?_),rv.append (.cons r9 .nil),T.keep _ _ _ (pin_fp I9).1 (λb hb o e=>hoth b o (by rw [<-hD];exact Nat.ne_of_lt (fplt b hb)) e),(pin_fp I9).2,?_,w9⟩
     ·have:=List.mem_singleton.mp hp
      subst this
      exact⟨up,pD9.2.1,Dloc,Dfs,λv z=>by cases z⟩
     ·rw [List.length_append,List.length_singleton]
      lia
  ·have q:lo={ cls:=.type "list",data:=.seq ([]:List Value).toArray 0 }:=hlo.symm
   rw [<-q]
   exact I3
  ·exact T.keep _ _ _ st2 λb hb o e=>pushCells_keeps _ _ b o (Heap.get?_push_of_some _ (Heap.get?_push_of_some _ e))
 refine codeAny_compStart_list ?_ ?_
 ·exact loop _ rfl
 ·refine T.self X.A 0 _ _ _ (T.keep _ _ _ st2 λb hb o e=>pushCells_keeps _ _ b o (Heap.get?_push_of_some _ (Heap.get?_push_of_some _ e))) ?_
  exact loop _ rfl
end
end L2
namespace L2
open PySem PySem.Spec PyProof.Rows
open PySem.AutoSeq1 (wpAny_loadPart')
section
variable {prog:Program}{w:World}{A:Around}{E:Value->Shared->Prop}{s:Shared}
end
section
variable {X:Cx}{pins:List (Addr×Obj)}{σ:St}{H:Hp}{s:Shared}{h':Heap}{fp:List Addr}
end
end L2
namespace L2
open PySem PySem.Spec PyProof.Rows
section
variable {X:Cx}
theorem sT:cz X (.builtin "all") (λxs H Q=>X.calm=true/\∃ (a:Addr) (bs:List Bool),xs=[.ref a]/\SqL X.K H a (bs.map V.bl)/\Q (.bl (bs.all id)) H):=by
 intro pins s σ H xs us Q I rv h
 obtain⟨hc,a,bs,rfl,hq,q⟩:=h
 cases rv with
 | cons r rr=>
  cases rr
  cases r
  obtain⟨its,rv,p,hz⟩:=I.list hq
  have hlt:a < s.heap.objs.size:=by obtain⟨_,_,e,_⟩:=p;exact Heap.lt_size e
  have hlen:its.length=bs.length:=by have:=rv.length;simpa using this.symm
  refine call_all_walk (wpAny_pyIter_list p.isList ?_)
  refine⟨s.heap.objs.size,_,_,_,_,_,λi=>(bs[i]?).getD true,rfl,Walks.list (A:=X.A.in1) (I.ok.hd hc) s.heap.objs.size a (Nat.ne_of_lt hlt) its.toArray,⟨⟨_,Heap.get?_push_size _ rfl,rfl,rfl⟩,p.isList.push _⟩,?_,λh' tk hk=>?_⟩
  ·intro i v s' Q' E' hv hQ'
   have hv':its[i]?=some v:=by simpa using hv
   have hi:i < its.length:=(List.getElem?_eq_some_iff.mp hv').1
   obtain⟨b,hb⟩:∃ b,bs[i]?=some b:=⟨bs[i]'(by lia),by simp [show i < bs.length by lia]⟩
   have:(bs.map V.bl)[i]?=some (.bl b):=by rw [List.getElem?_map,hb];rfl
   obtain⟨u,hu,ru⟩:=rv.get this
   rw [hv'] at hu
   cases hu
   cases ru
   have hQ2:Q' ((bs[i]?).getD true) s':=hQ'
   rw [hb] at hQ2
   exact wpAny_truthy_bool hQ2
  ·refine⟨.bl (bs.all id),H,I.kept (t':=tk) (λb o e=>hk b o (λz=>absurd (Heap.lt_size e) (by rw [List.mem_singleton.mp z];exact Nat.lt_irrefl _)) (Heap.get?_push_of_some _ e)),?_,q⟩
   show Value.bool _=Value.bool _
   congr 1
   have:∀ n,n=bs.length->((List.range n).all λi=>(bs[i]?).getD true)=bs.all id:=by
    intro n hn
    rw [Bool.eq_iff_iff,List.all_eq_true,List.all_eq_true]
    constructor
    ·intro h b hb
     obtain⟨i,hi,e⟩:=List.mem_iff_getElem.mp hb
     have:=h i (List.mem_range.mpr (by lia))
     simp [hi,e] at this
     exact this
    ·intro h i hi
     have hi':=List.mem_range.mp hi
     have hlt':i < bs.length:=by lia
     simp [hlt']
     exact h _ (List.getElem_mem _)
   exact this _ (by simpa using hlen)
end
end L2
namespace L2
open PySem PySem.Spec PyProof.Rows
noncomputable def fM (k:Nat) (js:List Nat) (σ:St):St:=List.replicate k none++js.map λj=>(σ[j]?).getD none
noncomputable def yz (scope:Scope) (ns:List (Str×NameKind)) (N Nc:List Str) (k:Nat) (js:List Nat):Bool:=
 decide ((scope.names.map (·.1)).Nodup) && decide Nc.Nodup && decide (Nc.length=k+js.length) &&
 (scope.names.all λx=>x.2 != .free || ns.lookup x.1==some .cell || ns.lookup x.1==some .free) &&
 ((List.range js.length).all λi=>match Nc[k+i]?,js[i]? with | some x,some j=>N[j]?==some x && scope.names.lookup x==some .free | _,_=>false)
theorem gT {X:Cx}{scope:Scope} (ns:List (Str×NameKind)) (N Nc:List Str) (k:Nat) (js:List Nat) (hns:X.env.scope.names=ns) (hN:X.N=N) (hk:scope.kind=.function) (h:yz scope ns N Nc k js=true):fV X scope Nc (fM k js):=by
 unfold yz at h
 simp only [Bool.and_eq_true,decide_eq_true_eq] at h
 obtain⟨⟨⟨⟨h1,h2⟩,h3⟩,h4⟩,h5⟩:=h
 refine⟨hk,h1,h2,λx hx hf=>?_,λσ _=>?_,λσ _ i x v e1 e2=>?_⟩
 ·have:=List.all_eq_true.mp h4 x hx
  rw [hf] at this
  simp only [Bool.or_eq_true,beq_iff_eq,bne_self_eq_false,Bool.false_eq_true,false_or] at this
  unfold Env.kindOf
  rw [hns]
  exact this
 ·unfold fM
  rw [List.length_append,List.length_replicate,List.length_map,h3]
 ·unfold fM at e2
  by_cases hi:i < k
  ·rw [List.getElem?_append_left (by simpa using hi),List.getElem?_replicate,if_pos hi] at e2
   cases e2
  ·rw [List.getElem?_append_right (by simpa using hi),List.length_replicate,List.getElem?_map] at e2
   cases ej:js[i - k]? with
   | none=>rw [ej] at e2;cases e2
   | some j=>
    rw [ej] at e2
    have hlt:=(List.getElem?_eq_some_iff.mp ej).1
    have:=List.all_eq_true.mp h5 (i - k) (List.mem_range.mpr hlt)
    rw [show k+(i - k)=i by lia,e1,ej] at this
    simp only [Bool.and_eq_true,beq_iff_eq] at this
    refine⟨j,by rw [hN];exact this.1,?_,this.2⟩
    have e3:(σ[j]?).getD none=some v:=Option.some.inj e2
    cases eq:σ[j]? with
    | none=>rw [eq] at e3;cases e3
    | some o=>rw [eq] at e3;rw [show o=some v from e3]
section
variable {σe tl:St}{tt:TT}{te:TE}{H:Hp}{Q:VK}
end
section
variable {X:Cx}
theorem tM:OpR X (binaryOp .Mult) (rI IntMulOk λi j=>.int (i*j)):=opI λ_ _ _ _ _ _ _ hc q=>mul_int q hc
end
theorem aY.new {H:Hp}{p:Addr} (h:H p=none) (o:HO):aY H (upd H p o):=λb u q=>by rw [bb (bi q h)];exact q
end L2
namespace L2
open PySem PySem.Spec PyProof.Rows
theorem i3 {n:Nat} (h:n<=1000):n<=sizeLine:=Nat.le_of_lt (qf h)
end L2
namespace L2
open PySem PySem.Spec PyProof.Rows
theorem yk:IntMulOk (10 ^ Int.toNat 60) (10 ^ Int.toNat 60):=by unfold IntMulOk;decide +kernel
theorem yi:IntMulOk (10 ^ Int.toNat 60*10 ^ Int.toNat 60) (10 ^ Int.toNat 60):=by unfold IntMulOk;decide +kernel
theorem ze:IntMulOk (10 ^ Int.toNat 60*10 ^ Int.toNat 60*10 ^ Int.toNat 60) (10 ^ Int.toNat 60):=by unfold IntMulOk;decide +kernel
theorem mk:(0:Int) < 10 ^ Int.toNat 60*10 ^ Int.toNat 60*10 ^ Int.toNat 60*10 ^ Int.toNat 60:=by decide +kernel
theorem yP (b:Bool):-(2 ^ 64) < (if b=true then (1:Int) else 0):=by cases b<;>decide
theorem yN (b:Bool):(if b=true then (1:Int) else 0) < 2 ^ 64:=by cases b<;>decide
theorem vB (b:Bool):0<=(if b=true then (1:Int) else 0):=by cases b<;>decide
theorem p60:kz 10 60:=⟨by decide,by decide,by decide⟩
theorem p18:kz 10 18:=⟨by decide,by decide,by decide⟩
end L2
namespace L2
open PySem PySem.Spec PyProof.Rows
open PySem.AutoSeq1 (wpAny_loadPart')
theorem rg (l:Addr) (items:Array Value) (n:Nat) (dct:Option Addr) (sl:Array (Option Value)) (u:Tok) :
  Meets (Builtin.«tuple.__mul__» ⟨[.ref l,.int 1 u],[]⟩) (λ_ R s=>s.heap.get? l=some { cls:=.type "tuple",dict:=dct,data:=.seq items n,slots:=sl }/\R (.ok (.ret (.ref l))) s):=
 .of_wp λprog w A R s h=>by
  obtain⟨hp,g,d,tk,os⟩:=s;obtain⟨hl,h⟩:=h
  wp_walk using wpAny_loadPart' hl
  exact⟨_,rfl,h⟩
theorem qd (l:Addr) (items:Array Value) (n:Nat) (dct:Option Addr) (sl:Array (Option Value)) (x:Int) (u:Tok) (h2:2<=x) (h3:x < 1000) (he:items.isEmpty=false) (hz:items.size<=1000)
  (hsz:((List.replicate x.toNat items).foldl (λx1 x2=>x1++x2) #[]).size<=sizeLine) :
  Meets (Builtin.«tuple.__mul__» ⟨[.ref l,.int x u],[]⟩) (λ_ R s=>s.heap.get? l=some { cls:=.type "tuple",dict:=dct,data:=.seq items n,slots:=sl }/\
   R (.ok (.ret (.ref s.heap.objs.size))) { s with heap:=s.heap.push { cls:=.type "tuple",data:=.seq ((List.replicate x.toNat items).foldl (λx1 x2=>x1++x2) #[]) } }):=
 .of_wp λprog w A R s h=>by
  obtain⟨hp,g,d,tk,os⟩:=s;obtain⟨hl,h⟩:=h
  have c1:(x < -(2 ^ 63) || x>=2 ^ 63)=false:=by simp;lia
  have c2:(items.isEmpty || x==1)=false:=by rw [he];simp;lia
  have c3:(x<=0 || items.isEmpty)=false:=by rw [he];simp;lia
  have hpr:(items.size:Int)*x<=1000000:=by
   have a1:(items.size:Int)*x<=1000*x:=Int.mul_le_mul_of_nonneg_right (by lia) (by lia)
   lia
  have c4:¬ ((items.size:Int)*x > (2 ^ 63 - 1) / 8):=by lia
  have c5:Builtin.Tuple.tupleTooMany ((items.size:Int)*x)=false:=by
   unfold Builtin.Tuple.tupleTooMany
   exact decide_eq_false (by have:(sizeLine:Nat)=16777216:=rfl
                             lia)
  wp_walk using wpAny_loadPart' hl
  refine wpAny_ite_false (decide_eq_false (by rw [c1];exact Bool.false_ne_true)) ?_
  wp_walk using wpAny_loadPart' hl
  refine wpAny_ite_false (decide_eq_false (by rw [c2];exact Bool.false_ne_true)) ?_
  wp_walk using wpAny_loadPart' hl
  refine wpAny_ite_false (decide_eq_false (by rw [c3];exact Bool.false_ne_true)) ?_
  wp_walk using wpAny_loadPart' hl
  refine wpAny_ite_false (decide_eq_false c4) ?_
  wp_walk using wpAny_loadPart' hl
  exact⟨_,rfl,h⟩
theorem h7:fillsNumberSlot (.type "tuple") "mul" = pure false:=
 PySem.fillsNumberSlot_seq (id:="tuple.__mul__") (r:=some (.builtin "tuple.__rmul__")) F.slot_tuple_mul.lookup (by decide +kernel) F.slot_tuple_rmul.lookup (by decide +kernel)
theorem mM:seqRepeat? (.type "tuple")=pure (some (.builtin "tuple.__mul__")):=by
 unfold seqRepeat?
 rw [PySem.seqSlot_of (T:="tuple") (name:="__mul__") (id:="tuple.__mul__") F.slot_tuple_mul.lookup (by decide +kernel),PySem.seqSlot_of (T:="tuple") (name:="__rmul__") (id:="tuple.__rmul__") F.slot_tuple_rmul.lookup (by decide +kernel)]
 rfl
theorem jo (a:Int) (t:Tok) (l:Addr) (items:Array Value) (n:Nat) (dct:Option Addr) (sl:Array (Option Value)) :
  Meets (Builtin.«int.__rmul__» ⟨[.int a t,.ref l],[]⟩) (λ_ R s=>s.heap.get? l=some { cls:=.type "tuple",dict:=dct,data:=.seq items n,slots:=sl }/\R (.ok (.ret Value.notImplemented)) s):=
 .of_wp λprog w A R s h=>by obtain⟨hp,g,d,tk,os⟩:=s;obtain⟨hl,h⟩:=h;wp_walk using wpAny_loadPart' hl;exact⟨_,rfl,h⟩
section
variable {X:Cx}
noncomputable def y8 (K:PySem.W.Frag):R2:=λx y H Q=>∃ l k xs,x=.ref l/\y=.int k/\SqT K H l xs/\xs≠[]/\xs.length<=1000/\1<=k/\k < 1000/\(k=1->Q (.ref l) H)/\
 (k≠1->∀ p,H p=none->Q (.ref p) (upd H p (.tup (List.replicate k.toNat xs).flatten)))
theorem uC:OpR X (binaryOp .Mult) (y8 X.K):=by
 intro pins s σ H x y v u Q I rx ry h
 obtain⟨l,k,xs,rfl,rfl,hq,hne,hl1,h1,h2,q1,q2⟩:=h
 cases rx
 obtain⟨t,rfl⟩:=ry
 obtain⟨its,rv,p,hz⟩:=I.tuple hq
 obtain⟨⟨c,dct,dt,sl⟩,e,hc,n,hd⟩:=p
 replace hc:c=.type "tuple":=hc
 replace hd:dt=.seq its.toArray n:=hd
 subst hc hd
 have hlen:=rv.length
 refine wpAny_binaryOp_repeat_ref (T:="tuple") (U:="int") (by decide) ⟨_,e,rfl⟩ (λs'=>typeIs_int s' k t) h7 F.fills_int_mul F.slot_int_rmul mM F.slot_int_index.lookup
  (call_meets F.slot_int_rmul (typeIs_int s k t) F.entry_int_rmul (F.args_int_rmul_2 _ _) (jo k t l its.toArray n dct sl) ⟨e,rfl,⟨_,e,rfl⟩,?_⟩)
 by_cases hk:k=1
 ·subst hk
  exact call_meets F.slot_tuple_mul ⟨_,e,rfl⟩ F.entry_tuple_mul (F.args_tuple_mul_2 _ _) (rg l its.toArray n dct sl t) ⟨e,.ref l,H,I,rfl,q1 rfl⟩
 ·have f0:List.foldl (λx1 x2=>x1++x2) #[] (List.replicate k.toNat its.toArray)=(List.replicate k.toNat its).flatten.toArray:=by
   have:=ik its k.toNat []
   rw [List.nil_append] at this
   exact this
  have hsz:(List.replicate k.toNat xs).flatten.length<=sizeLine:=by
   rw [my]
   have:k.toNat*xs.length<=1000*1000:=Nat.mul_le_mul (by lia) hl1
   have hs:sizeLine=16777216:=rfl
   lia
  have hsz2:(List.replicate k.toNat its).flatten.length<=sizeLine:=by
   rw [my] at hsz ⊢
   rw [<-hlen];exact hsz
  refine call_meets F.slot_tuple_mul ⟨_,e,rfl⟩ F.entry_tuple_mul (F.args_tuple_mul_2 _ _) (qd l its.toArray n dct sl k t (by lia) h2 ?_ (by rw [List.size_toArray];lia) (by rw [f0,List.size_toArray];exact hsz2)) ⟨e,?_⟩
  ·cases its with
   | nil=>cases xs with
    | nil=>exact absurd rfl hne
    | cons _ _=>cases hlen
   | cons _ _=>rfl
  ·rw [f0]
   refine⟨.ref _,_,I.laid (t':=s.toks) (o:=.tup (List.replicate k.toNat xs).flatten) (λ_ _ q=>Heap.get?_push_of_some _ q) (Nat.le_refl _) ⟨hsz,(List.replicate k.toNat its).flatten,rv.rep k.toNat,⟨_,Heap.get?_push_size _ rfl,rfl,⟨0,rfl⟩,rfl⟩⟩,rfl,q2 hk _ I.fresh⟩
end
end L2
namespace L2
open PySem PySem.Spec PyProof.Rows
end L2
namespace L2
open PySem PySem.Spec PyProof.Rows
section
variable {X:Cx}{K:PySem.W.Frag}
theorem ya (hc:X.calm=true:=by rfl) (hK:X.K=K:=by rfl):cz X (.builtin "all") (λxs H Q=>∃ (a:Addr) (bs:List Bool),xs=[.ref a]/\SqL K H a (bs.map V.bl)/\Q (.bl (bs.all id)) H):=by
 subst hK
 intro pins s σ H xs us Q I rv h
 exact sT pins s σ H xs us Q I rv ⟨hc,h⟩
end
end L2
namespace L2
open PySem PySem.Spec PyProof.Rows
section
variable {X:Cx}
end
end L2
namespace L2
open PySem PySem.Spec PyProof.Rows
theorem lu {n j:Nat} (h:j < n):ixN n (j:Int)=some j:=by
 unfold ixN
 rw [if_pos (by lia),if_pos (by lia),Int.toNat_natCast]
end L2
namespace L2
open PySem PySem.Spec PyProof.Rows
section
variable {X:Cx}{e:Expr}{ty:TE}{p1 p2 p3 p4 dpos apos cpos:Pos}{j1 j2 j3 j4:Nat}
end
end L2
namespace L2
open PySem PySem.Spec PyProof.Rows
end L2
namespace L2
open PySem PySem.Spec PyProof.Rows
open PySem.AutoSeq1 (wpAny_loadPart')
section
variable {prog:Program}{w:World}{A:Around}{E:Value->Shared->Prop}{s:Shared}
end
section
variable {X:Cx}
end
section
variable {prog:Program}{w:World}{A:Around}{E:Value->Shared->Prop}{s:Shared}
end
section
variable {X:Cx}{e:Expr}{te:TE}{p1 p2 p3 pos:Pos}{j:Nat}
end
end L2
namespace L2
open PySem PySem.Spec PyProof.Rows
end L2
namespace L2
open PySem PySem.Spec PyProof.Rows
theorem aA.at {xs:List V}{us:List Value} (r:aA xs us):∀ (j:Nat) (h:j < us.length) ,∃ h':j < xs.length,az xs[j] us[j]:=by
 induction r with
 | nil=>intro j h;exact absurd h (Nat.not_lt_zero j)
 | cons a t ih=>
  intro j h
  cases j with
  | zero=>exact⟨Nat.zero_lt_succ _,a⟩
  | succ j=>
   obtain⟨h1,r1⟩:=ih j (Nat.lt_of_succ_lt_succ h)
   exact⟨Nat.succ_lt_succ h1,r1⟩
theorem jU (e:Nat->Bool) (n:Nat):(List.range (n+1)).all e=(e 0 && (List.range n).all λj=>e (j+1)):=by
 rw [List.range_succ_eq_map,List.all_cons,List.all_map];rfl
section
variable {X:Cx}{K:PySem.W.Frag}{pins:List (Addr×Obj)}{σ:St}{H:Hp}{s:Shared}{A:Around}{a b:Addr}{xs ys:List V}
end
end L2
namespace L2
open PySem PySem.Spec PyProof.Rows
section
variable {X:Cx}{pos p1 p2:Pos}{j1 j2:Nat}
end
section
variable {K:PySem.W.Frag}{H:Hp}
end
section
variable {X:Cx}{K:PySem.W.Frag}
end
end L2
namespace HT
open PySem PySem.Spec PyProof.Rows L2
section
variable {prog:Program}{w:World}{A:Around}{E:Value->Shared->Prop}{s:Shared}
theorem getItem_tuple_all {t sl:Addr}{items:Array Value}{vl vu:Value}{lo hi:Option Int}{Q:Value->Shared->Prop} (ht:IsTup s.heap t items) (hs:s.heap.IsSliceOf sl vl vu .none) (pl:IsPart vl lo) (pu:IsPart vu hi)
  (hw:sIx items.size 0 lo=0/\sIx items.size items.size hi=items.size) (h:Q (.ref t) s):wpAny (model prog w) A (getItem (.ref t) (.ref sl)) Q E s:=by
 obtain⟨os,hos,hcs,hds⟩:=id hs
 have hTs:s.TypeIs (.ref sl) "slice":=⟨os,hos,hcs⟩
 unfold getItem
 try with_reducible refine wpAny_holding ?_
 first | refine wpAny_bind (wpAny_pure ?_) | skip
 refine wpAny_bind (wpAny_sequenceKey ht.typeIs (by decide) ?_)
 refine wpAny_bind (wpAny_callSpecial?_slot (name:=Str.ofString "__getitem__") ht.typeIs PyProof.Rows.slot_tuple_getitem
  (wpAny_call_entry PyProof.Rows.slot_tuple_getitem ht.typeIs entry_tuple_getitem ?_ (args_tuple_getitem _ _)))
 show wpAny _ _ (Builtin.Tuple.tupleItemsOf (.ref t) >>= _) _ _ s
 refine wpAny_bind (tupleItemsOf_ ht ?_)
 refine wpAny_bind (wpAny_typeOf hTs ?_)
 rw [if_pos (by decide)]
 refine wpAny_bind (eB hs pl pu ?_)
 have hyes:(((sIx items.size 0 lo:Nat):Int)==0 && (1:Int)==1 && (sIx items.size items.size hi - sIx items.size 0 lo)==items.size)=true:=by
  rw [hw.1,hw.2]
  simp
 show wpAny _ _ (if (((sIx items.size 0 lo:Nat):Int)==0 && (1:Int)==1 && (sIx items.size items.size hi - sIx items.size 0 lo)==items.size)=true then _ else _) _ _ s
 rw [if_pos hyes]
 unfold Builtin.Tuple.tupleIsExact
 refine wpAny_bind (wpAny_bind (wpAny_typeOf ht.typeIs (wpAny_pure ?_)))
 show wpAny _ _ (if ((Value.type "tuple")==(Value.type "tuple"))=true then _ else _) _ _ s
 rw [if_pos (beq_self_eq_true _)]
 first
  | exact wpAny_bind (wpAny_rule (wpAny_pure ⟨_,rfl,wpAny_pure h⟩))
  | exact wpAny_bind (wpAny_bind (wpAny_rule (wpAny_pure (wpAny_pure ⟨_,rfl,wpAny_pure h⟩))))
  | exact wpAny_bind (wpAny_rule (wpAny_bind (wpAny_pure (wpAny_pure ⟨_,rfl,wpAny_pure h⟩))))
  | exact wpAny_bind (wpAny_rule (wpAny_bind (wpAny_pure ⟨_,rfl,wpAny_pure h⟩)))
end
end HT
namespace L2
open PySem PySem.Spec PyProof.Rows
noncomputable def yj (K:PySem.W.Frag):V->Option Int->Option Int->Hp->VK->Prop:=λx lo hi H Q=>∃ a xs,x=.ref a/\SqT K H a xs/\
 ((¬ (HT.sIx xs.length 0 lo=0/\HT.sIx xs.length xs.length hi=xs.length)/\∀ p,H p=none->Q (.ref p) (upd H p (.tup (mC xs lo hi))))\/
   ((HT.sIx xs.length 0 lo=0/\HT.sIx xs.length xs.length hi=xs.length)/\Q (.ref a) H))
theorem wY {X:Cx}{K:PySem.W.Frag} (hK:X.K=K:=by rfl):SlR X (yj K):=by
 subst hK
 intro pins s σ H x v vl vu lo hi sl Q I rx hs pl pu h
 obtain⟨a,xs,rfl,hx,h⟩:=h
 rcases h with⟨hw,q⟩ | ⟨hw,q⟩
 ·exact xO pins s σ H _ v vl vu lo hi sl Q I rx hs pl pu ⟨a,xs,rfl,hx,hw,q⟩
 ·cases rx
  obtain⟨its,r,ht,hz⟩:=I.tuple hx
  have hlen:its.toArray.size=xs.length:=by rw [List.size_toArray];exact r.length.symm
  refine⟨"tuple",_,PyProof.Rows.slot_tuple_getitem.lookup,ht.typeIs,?_⟩
  exact HT.getItem_tuple_all ht hs pl pu (by rw [hlen];exact hw) ⟨.ref a,H,I,rfl,q⟩
end L2
namespace L2
open PySem PySem.Spec PyProof.Rows
section
variable {X:Cx}{scope:Scope}{Nc:List Str}{emb:St->St}{elt iter tg:Expr}{ifs:List Expr}{pos:Pos}{wi:TI}{g:TG}{tt:TT}{te:TE}
end
end L2
namespace L2
open PySem PySem.Spec PyProof.Rows
noncomputable def aE:Expr->Bool
 | .Starred _ _=>false
 | _=>true
theorem bz {e:Expr}{es:List Expr}{env:Env} (h:aE e=true):starEach (e::es) env=(false,eval e env)::starEach es env:=by
 cases e<;>first | (cases h;done) | rfl
theorem cp {pos:Pos}{env:Env}:∀ {es:List Expr},es.all aE=true->(backTo pos (starEach es env)).any (·.1)=false
 | [],_=>by simp [starEach,backTo]
 | e::es,h=>by
  rw [List.all_cons,Bool.and_eq_true] at h
  rw [bz h.1]
  have:=cp (pos:=pos) (env:=env) h.2
  unfold backTo at this ⊢
  rw [List.map_cons,List.any_cons,this]
  rfl
theorem gK {pos:Pos}{env:Env}{es:List Expr} (h:es.all aE=true) (hl:es.length < 30):((backTo pos (starEach es env)).all (λx=>!x.1) && (backToKw pos (keywordEach [] env)).all (λx=>x.1.isSome)
   && decide (es.length+([]:List Keyword).length+(if ([]:List Keyword).isEmpty then 0 else 1) < 30))=true:=by
 have h1:(backTo pos (starEach es env)).all (λx=>!x.1)=true:=by
  have:=cp (pos:=pos) (env:=env) h
  rw [List.all_eq_true]
  intro x hx
  rw [List.any_eq_false] at this
  simpa using this x hx
 have h2:(backToKw pos (keywordEach [] env)).all (λx=>x.1.isSome)=true:=by simp [keywordEach,backToKw]
 rw [h1,h2]
 simpa using hl
theorem sn {e:Expr}{env:Env} (h:aE e=true):starEach [e] env=[(false,eval e env)]:=by rw [bz h];rfl
noncomputable def rW:Expr->Bool
 | .UnaryOp .Not _ _=>false
 | .BoolOp _ _ _=>false
 | .IfExp _ _ _ _=>false
 | .Compare _ _ _ _=>false
 | _=>true
theorem qt {a:Expr}{env:Env} (h:rW a=true):∀ whole,PySem.isTrue a env whole=(do let v <-whole;standAt a.pos;holding [v] (truthy v)):=by
 intro whole
 cases a with
 | UnaryOp op x p=>cases op<;>first | (cases h;done) | rfl
 | BoolOp _ _ _=>cases h
 | IfExp _ _ _ _=>cases h
 | Compare _ _ _ _=>cases h
 | _=>rfl
theorem jZ {t:Expr}{ts:List Expr}{env:Env} (h:aE t=true):assignEach (t::ts) env=(false,assign t env)::assignEach ts env:=by
 cases t<;>first | (cases h;done) | rfl
theorem lV {env:Env}:∀ {ts:List Expr},ts.all aE=true->(assignEach ts env).length=ts.length
 | [],_=>by simp [assignEach]
 | t::ts,h=>by
  rw [List.all_cons,Bool.and_eq_true] at h
  rw [jZ h.1,List.length_cons,lV h.2,List.length_cons]
theorem jD {env:Env}:∀ {ts:List Expr},ts.all aE=true->(assignEach ts env).findIdx? (·.1)=none
 | [],_=>by simp [assignEach]
 | t::ts,h=>by
  rw [List.all_cons,Bool.and_eq_true] at h
  rw [jZ h.1,List.findIdx?_cons,jD h.2]
  rfl
theorem pP {t:Expr}{ts:List Expr}{env:Env} (h:aE t=true):(assignEach (t::ts) env).map (·.2)=assign t env::(assignEach ts env).map (·.2):=by rw [jZ h];rfl
theorem um {t:Expr}{env:Env} (h:aE t=true):(assignEach [t] env).map (·.2)=[assign t env]:=by rw [pP h];simp [assignEach]
noncomputable def me:Expr->Bool
 | .Slice _ _ _ _=>false
 | _=>true
theorem va {o i:Expr}{pos:Pos}{env:Env} (h:me i=true) (v:Value):assign (.Subscript o i pos) env v=(do
   let ov <-holding [v] (eval o env)
   let iv <-holding [v,ov] (eval i env)
   standAt pos
   holding [v,ov,iv] (setItem ov iv v)
   release [v,ov,iv] []):=by
 cases i<;>first | (cases h;done) | rfl
theorem qO {i:Expr} (h:me i=true):pk i:=by
 intro o j
 cases i<;>first | (cases h;done) | rfl
end L2
namespace L2
open PySem PySem.Spec PyProof.Rows
inductive D where
 | non | bl (b:Bool) | int (i:Int) | str (x:Str) | ty (n:String) | dct | scr (ns:List Int) | tup (ds:List D) | lst (ds:List D)
 deriving Inhabited
inductive W where
 | d (x:D) | h (n:Nat)
 deriving Inhabited
inductive C where
 | l (ds:List D) | n (ws:List W) | m (kvs:List (List Int×D)) | k (kvs:List (Int×D))
 deriving Inhabited
abbrev Sto:=List C
noncomputable def lg (st:Sto) (n:Nat):Option (List D):=match st[n]? with
 | some (.l ds)=>some ds
 | _=>none
noncomputable def d6 (l:List Int):List Key:=l.map Sum.inl
abbrev Ev:=List (Option W)
noncomputable def KLs (K:PySem.W.Frag) (a:Addr) (xs:List V):Prop:=
 ∃ (o:Obj) (its:Array Value) (n:Nat),K.lookup a=some o/\o.cls=.type "list"/\o.dict=none/\o.data=.seq its n/\its.size<=sizeLine/\aA xs its.toList
section
variable (K:PySem.W.Frag) (H:Hp) (φ:List Addr)
mutual
noncomputable def Rl:D->V->Prop
 | .non,v=>v=.non
 | .bl b,v=>v=.bl b
 | .int i,v=>v=.int i
 | .str x,v=>v=.str x
 | .ty n,v=>v=.ty n
 | .dct,v=>∃ a,v=.ref a/\a ∉ φ/\((∃ d,H a=some (.dK d))\/∃ d,H a=some (.dT d))
 | .scr ns,v=>∃ a,v=.ref a/\((∃ o,H a=some (.frz o (.lst (ns.map V.int))))\/KLs K a (ns.map V.int))
 | .tup ds,v=>∃ a vs,v=.ref a/\H a=some (.tup vs)/\Rls ds vs
 | .lst ds,v=>∃ a vs,v=.ref a/\a ∉ φ/\Rd H a (.lst vs)/\Rls ds vs
noncomputable def Rls:List D->List V->Prop
 | [],vs=>vs=[]
 | d::ds,vs=>∃ v r,vs=v::r/\Rl d v/\Rls ds r
end
noncomputable def Rw:W->V->Prop
 | .d x,v=>Rl K H φ x v
 | .h n,v=>∃ a,φ[n]?=some a/\v=.ref a
noncomputable def Rws:List W->List V->Prop
 | [],vs=>vs=[]
 | d::ds,vs=>∃ v r,vs=v::r/\Rw K H φ d v/\Rws ds r
noncomputable def Rkv:List (List Int×D)->List (List Key×V)->Prop
 | [],vs=>vs=[]
 | (k,d)::ds,vs=>∃ v r,vs=(d6 k,v)::r/\Rl K H φ d v/\Rkv ds r
noncomputable def Rkk:List (Int×D)->List (Key×V)->Prop
 | [],vs=>vs=[]
 | (k,d)::ds,vs=>∃ v r,vs=(Sum.inl k,v)::r/\Rl K H φ d v/\Rkk ds r
noncomputable def Rc (k:Nat) (a:Addr):C->Prop
 | .l ds=>∃ vs,H a=some (.lst vs)/\Rls K H φ ds vs
 | .n ws=>∃ vs,H a=some (.lst vs)/\Rws K H φ ws vs/\∀ m,W.h m ∈ ws->m < k
 | .m kvs=>∃ vs,H a=some (.dT vs)/\Rkv K H φ kvs vs
 | .k kvs=>∃ vs,H a=some (.dK vs)/\Rkk K H φ kvs vs
structure Sr (st:Sto):Prop where
 nd:φ.Nodup
 len:φ.length=st.length
 at_:∀ (n:Nat) a c,φ[n]?=some a->st[n]?=some c->Rc K H φ n a c
structure Er (env:Ev) (σ:St):Prop where
 len:env.length=σ.length
 at_:∀ (i:Nat) w,env[i]?=some (some w)->∃ v,σ[i]?=some (some v)/\Rw K H φ w v
end
structure Fw (φ φ':List Addr) (H H':Hp):Prop where
 ext:∃ ψ,φ'=φ++ψ/\∀ a ∈ ψ,H a=none
 keep:∀ b o,b ∉ φ->H b=some o->H' b=some o
 there:∀ b o,H b=some o->∃ o',H' b=some o'
section
variable {K:PySem.W.Frag}{H H1 H2 H':Hp}{φ φ1 φ2 φ':List Addr}{st st':Sto}
theorem Fw.refl (φ:List Addr) (H:Hp):Fw φ φ H H:=⟨⟨[],by simp,by simp⟩,λ_ _ _ h=>h,λ_ o h=>⟨o,h⟩⟩
theorem Fw.trans (a:Fw φ φ1 H H1) (b:Fw φ1 φ2 H1 H2):Fw φ φ2 H H2:=by
 obtain⟨ψ,rfl,e1⟩:=a.ext
 obtain⟨ψ2,rfl,e2⟩:=b.ext
 refine⟨⟨ψ++ψ2,by rw [List.append_assoc],λc hc=>?_⟩,λc o hc h=>?_,λc o h=>?_⟩
 ·rcases List.mem_append.mp hc with z | z
  ·exact e1 c z
  ·cases q:H c with
   | none=>rfl
   | some o=>
    obtain⟨o',q'⟩:=a.there c o q
    rw [e2 c z] at q';cases q'
 ·refine b.keep c o (λz=>?_) (a.keep c o hc h)
  rcases List.mem_append.mp z with z | z
  ·exact hc z
  ·rw [e1 c z] at h;cases h
 ·obtain⟨o',q⟩:=a.there c o h
  exact b.there c o' q
theorem Fw.same (s:aY H H'):Fw φ φ H H':=⟨⟨[],by simp,by simp⟩,λb o _ h=>s b o h,λb o h=>⟨o,s b o h⟩⟩
theorem Fw.new {p:Addr}{o:HO} (hp:H p=none):Fw φ φ H (upd H p o):=.same (aY.new hp o)
theorem Fw.get (f:Fw φ φ' H H') {n:Nat}{a:Addr} (h:φ[n]?=some a):φ'[n]?=some a:=by
 obtain⟨ψ,rfl,_⟩:=f.ext
 rw [List.getElem?_append_left (List.getElem?_eq_some_iff.mp h).1];exact h
theorem Fw.nin (f:Fw φ φ' H H') {a:Addr}{o:HO} (h:a ∉ φ) (q:H a=some o):a ∉ φ':=by
 obtain⟨ψ,rfl,e⟩:=f.ext
 intro z
 rcases List.mem_append.mp z with z | z
 ·exact h z
 ·rw [e a z] at q;cases q
noncomputable def zq:HO->Bool
 | .lst _=>true
 | .dT _=>true
 | .dK _=>true
 | _=>false
theorem Rc.ob {k:Nat}{a:Addr}{c:C} (h:Rc K H φ k a c):∃ o,H a=some o/\zq o=true:=by
 cases c with
 | l ds=>obtain⟨vs,q,_⟩:=h;exact⟨_,q,rfl⟩
 | n ds=>obtain⟨vs,q,_⟩:=h;exact⟨_,q,rfl⟩
 | m ds=>obtain⟨vs,q,_⟩:=h;exact⟨_,q,rfl⟩
 | k ds=>obtain⟨vs,q,_⟩:=h;exact⟨_,q,rfl⟩
theorem Sr.lst (S:Sr K H φ st) {a:Addr} (h:a ∈ φ):∃ o,H a=some o/\zq o=true:=by
 obtain⟨n,hn,e⟩:=List.mem_iff_getElem.mp h
 have hs:n < st.length:=by rw [<-S.len];exact hn
 exact (S.at_ n a st[n] (by rw [List.getElem?_eq_getElem hn,e]) (by rw [List.getElem?_eq_getElem hs])).ob
theorem t0 {st:Sto}{n:Nat}{ds:List D} (h:lg st n=some ds):st[n]?=some (.l ds):=by
 unfold lg at h
 split at h
 ·rename_i q;cases h;exact q
 ·cases h
theorem Sr.atl (S:Sr K H φ st) (n:Nat) (a:Addr) (ds:List D) (e1:φ[n]?=some a) (e2:lg st n=some ds):∃ vs,H a=some (.lst vs)/\Rls K H φ ds vs:=S.at_ n a _ e1 (t0 e2)
theorem Sr.nin (S:Sr K H φ st) {a:Addr} (h:H a=none):a ∉ φ:=λz=>by
 obtain⟨vs,q,_⟩:=S.lst z
 rw [q] at h;cases h
theorem Rd.nin (S:Sr K H φ st) {a:Addr}{vs:List V} (h:Rd H a (.tup vs)):a ∉ φ:=λz=>by
 obtain⟨ws,q,qm⟩:=S.lst z
 rcases h with h | ⟨o,h⟩<;>(rw [q] at h;cases h;cases qm)
theorem Rd.fw (f:Fw φ φ' H H') {a:Addr}{u:HO} (hn:a ∉ φ) (h:Rd H a u):Rd H' a u:=by
 rcases h with h | ⟨o,h⟩
 ·exact .inl (f.keep _ _ hn h)
 ·exact .inr ⟨o,f.keep _ _ hn h⟩
theorem SqT.fw (S:Sr K H φ st) (f:Fw φ φ' H H') {a:Addr}{vs:List V} (h:SqT K H a vs):SqT K H' a vs:=by
 rcases h with h | h
 ·exact .inl (f.keep _ _ (Rd.nin S (.inl h)) h)
 ·exact .inr h
theorem Rd.some {a:Addr}{u:HO} (h:Rd H a u):∃ o,H a=some o:=by
 rcases h with h | ⟨o,h⟩
 ·exact⟨_,h⟩
 ·exact⟨_,h⟩
mutual
theorem Rl.fw (S:Sr K H φ st) (f:Fw φ φ' H H'):∀ {d:D}{v:V},Rl K H φ d v->Rl K H' φ' d v
 | .non,_,h=>h
 | .bl _,_,h=>h
 | .int _,_,h=>h
 | .str _,_,h=>h
 | .ty _,_,h=>h
 | .dct,_,h=>by
  obtain⟨a,rfl,hn,h⟩:=h
  rcases h with⟨d,h⟩ | ⟨d,h⟩
  ·exact⟨a,rfl,f.nin hn h,.inl ⟨d,f.keep _ _ hn h⟩⟩
  ·exact⟨a,rfl,f.nin hn h,.inr ⟨d,f.keep _ _ hn h⟩⟩
 | .scr ns,_,h=>by
  obtain⟨a,rfl,h⟩:=h
  refine⟨a,rfl,?_⟩
  rcases h with⟨o,h⟩ | h
  ·refine .inl ⟨o,f.keep _ _ (λz=>?_) h⟩
   obtain⟨ws,q,qm⟩:=S.lst z
   rw [q] at h;cases h;cases qm
  ·exact .inr h
 | .tup ds,_,h=>by
  obtain⟨a,vs,rfl,h1,h2⟩:=h
  exact⟨a,vs,rfl,f.keep _ _ (Rd.nin S (.inl h1)) h1,Rls.fw S f h2⟩
 | .lst ds,_,h=>by
  obtain⟨a,vs,rfl,h0,h1,h2⟩:=h
  obtain⟨o,e⟩:=h1.some
  exact⟨a,vs,rfl,f.nin h0 e,h1.fw f h0,Rls.fw S f h2⟩
theorem Rls.fw (S:Sr K H φ st) (f:Fw φ φ' H H'):∀ {ds:List D}{vs:List V},Rls K H φ ds vs->Rls K H' φ' ds vs
 | [],_,h=>h
 | d::ds,_,h=>by
  obtain⟨v,r,rfl,h1,h2⟩:=h
  exact⟨v,r,rfl,Rl.fw S f h1,Rls.fw S f h2⟩
end
theorem Rw.fw (S:Sr K H φ st) (f:Fw φ φ' H H') {w:W}{v:V} (h:Rw K H φ w v):Rw K H' φ' w v:=by
 cases w with
 | d x=>exact Rl.fw S f h
 | h n=>obtain⟨a,e,rfl⟩:=h;exact⟨a,f.get e,rfl⟩
theorem Rws.fw (S:Sr K H φ st) (f:Fw φ φ' H H'):∀ {ws:List W}{vs:List V},Rws K H φ ws vs->Rws K H' φ' ws vs
 | [],_,h=>h
 | d::ds,_,h=>by
  obtain⟨v,r,rfl,h1,h2⟩:=h
  exact⟨v,r,rfl,h1.fw S f,Rws.fw S f h2⟩
theorem Er.fw (S:Sr K H φ st) (f:Fw φ φ' H H') {env:Ev}{σ:St} (h:Er K H φ env σ):Er K H' φ' env σ:=
 ⟨h.len,λi w e=>let ⟨v,e1,r⟩:=h.at_ i w e;⟨v,e1,r.fw S f⟩⟩
theorem Rkv.fw (S:Sr K H φ st) (f:Fw φ φ' H H'):∀ {ds:List (List Int×D)}{vs:List (List Key×V)},Rkv K H φ ds vs->Rkv K H' φ' ds vs
 | [],_,h=>h
 | (k,d)::ds,_,h=>by
  obtain⟨v,r,rfl,h1,h2⟩:=h
  exact⟨v,r,rfl,Rl.fw S f h1,Rkv.fw S f h2⟩
theorem Rkk.fw (S:Sr K H φ st) (f:Fw φ φ' H H'):∀ {ds:List (Int×D)}{vs:List (Key×V)},Rkk K H φ ds vs->Rkk K H' φ' ds vs
 | [],_,h=>h
 | (k,d)::ds,_,h=>by
  obtain⟨v,r,rfl,h1,h2⟩:=h
  exact⟨v,r,rfl,Rl.fw S f h1,Rkk.fw S f h2⟩
theorem Rc.fw (S:Sr K H φ st) (f:Fw φ φ' H H') {k:Nat}{a:Addr}{c:C} (e:∀ o,H a=some o->H' a=some o) (h:Rc K H φ k a c):Rc K H' φ' k a c:=by
 cases c with
 | l ds=>obtain⟨vs,q,r⟩:=h;exact⟨vs,e _ q,r.fw S f⟩
 | n ds=>obtain⟨vs,q,r,b⟩:=h;exact⟨vs,e _ q,r.fw S f,b⟩
 | m ds=>obtain⟨vs,q,r⟩:=h;exact⟨vs,e _ q,r.fw S f⟩
 | k ds=>obtain⟨vs,q,r⟩:=h;exact⟨vs,e _ q,r.fw S f⟩
theorem Sr.same (S:Sr K H φ st) (s:aY H H'):Sr K H' φ st:=
 ⟨S.nd,S.len,λn a c e1 e2=>(S.at_ n a c e1 e2).fw S (Fw.same s) λo h=>s _ _ h⟩
theorem Sr.new (S:Sr K H φ st) {p:Addr}{o:HO} (hp:H p=none):Sr K (upd H p o) φ st:=S.same (aY.new hp o)
theorem Rls.length:∀ {ds:List D}{vs:List V},Rls K H φ ds vs->ds.length=vs.length
 | [],_,h=>by cases h;rfl
 | d::ds,_,h=>by
  obtain⟨v,r,rfl,h1,h2⟩:=h
  rw [List.length_cons,List.length_cons,Rls.length h2]
theorem Rws.length:∀ {ds:List W}{vs:List V},Rws K H φ ds vs->ds.length=vs.length
 | [],_,h=>by cases h;rfl
 | d::ds,_,h=>by
  obtain⟨v,r,rfl,h1,h2⟩:=h
  rw [List.length_cons,List.length_cons,Rws.length h2]
theorem Rls.append:∀ {ds es:List D}{vs us:List V},Rls K H φ ds vs->Rls K H φ es us->Rls K H φ (ds++es) (vs++us)
 | [],_,_,_,h,h'=>by cases h;exact h'
 | d::ds,_,_,_,h,h'=>by
  obtain⟨v,r,rfl,h1,h2⟩:=h
  exact⟨v,r++_,rfl,h1,Rls.append h2 h'⟩
theorem Rls.get:∀ {ds:List D}{vs:List V},Rls K H φ ds vs->∀ {i:Nat}{d:D},ds[i]?=some d->∃ v,vs[i]?=some v/\Rl K H φ d v
 | [],_,h,i,d,e=>by simp at e
 | d::ds,_,h,i,e,q=>by
  obtain⟨v,r,rfl,h1,h2⟩:=h
  cases i with
  | zero=>simp at q;subst q;exact⟨v,rfl,h1⟩
  | succ i=>simpa using Rls.get h2 (i:=i) (d:=e) (by simpa using q)
theorem Rls.take:∀ {ds:List D}{vs:List V} (n:Nat),Rls K H φ ds vs->Rls K H φ (ds.take n) (vs.take n)
 | _,_,0,_=>by rw [List.take_zero,List.take_zero];exact rfl
 | [],_,n+1,h=>by cases h;exact rfl
 | d::ds,_,n+1,h=>by
  obtain⟨v,r,rfl,h1,h2⟩:=h
  exact⟨v,_,rfl,h1,Rls.take n h2⟩
theorem Rls.drop:∀ {ds:List D}{vs:List V} (n:Nat),Rls K H φ ds vs->Rls K H φ (ds.drop n) (vs.drop n)
 | _,_,0,h=>h
 | [],_,n+1,h=>by cases h;exact rfl
 | d::ds,_,n+1,h=>by
  obtain⟨v,r,rfl,h1,h2⟩:=h
  exact Rls.drop n h2
theorem Rls.set:∀ {ds:List D}{vs:List V} (n:Nat) {d:D}{v:V},Rls K H φ ds vs->Rl K H φ d v->Rls K H φ (ds.set n d) (vs.set n v)
 | [],_,_,_,_,h,_=>by cases h;exact rfl
 | e::ds,_,0,d,v,h,hd=>by
  obtain⟨u,r,rfl,h1,h2⟩:=h
  exact⟨v,r,rfl,hd,h2⟩
 | e::ds,_,n+1,d,v,h,hd=>by
  obtain⟨u,r,rfl,h1,h2⟩:=h
  exact⟨u,_,rfl,h1,Rls.set n h2 hd⟩
theorem Rls.rep {ds:List D}{vs:List V} (h:Rls K H φ ds vs):∀ k:Nat,Rls K H φ (List.replicate k ds).flatten (List.replicate k vs).flatten
 | 0=>rfl
 | k+1=>by rw [List.replicate_succ,List.replicate_succ,List.flatten_cons,List.flatten_cons];exact h.append (Rls.rep h k)
theorem Rls.ints:∀ {ns:List Int}{vs:List V},Rls K H φ (ns.map D.int) vs->vs=ns.map V.int
 | [],_,h=>h
 | n::ns,_,h=>by
  obtain⟨v,r,rfl,h1,h2⟩:=h
  rw [show v=.int n from h1,Rls.ints h2];rfl
theorem Rls.bools:∀ {ns:List Bool}{vs:List V},Rls K H φ (ns.map D.bl) vs->vs=ns.map V.bl
 | [],_,h=>h
 | n::ns,_,h=>by
  obtain⟨v,r,rfl,h1,h2⟩:=h
  rw [show v=.bl n from h1,Rls.bools h2];rfl
theorem Rls.of_ints:∀ (ns:List Int),Rls K H φ (ns.map D.int) (ns.map V.int)
 | []=>rfl
 | n::ns=>⟨_,_,rfl,rfl,Rls.of_ints ns⟩
theorem Rl.less {ψ:List Addr}:∀ {d:D}{v:V},Rl K H (φ++ψ) d v->Rl K H φ d v:=by
 intro d v
 refine (?_:∀ v,Rl K H (φ++ψ) d v->Rl K H φ d v) v
 refine D.rec (motive_1:=λd=>∀ v,Rl K H (φ++ψ) d v->Rl K H φ d v) (motive_2:=λds=>∀ vs,Rls K H (φ++ψ) ds vs->Rls K H φ ds vs) ?_ ?_ ?_ ?_ ?_ ?_ ?_ ?_ ?_ ?_ ?_ d
 ·exact λv h=>h
 ·exact λb v h=>h
 ·exact λb v h=>h
 ·exact λb v h=>h
 ·exact λb v h=>h
 ·rintro v ⟨a,e,hn,h⟩;exact⟨a,e,λz=>hn (List.mem_append_left _ z),h⟩
 ·exact λns v h=>h
 ·rintro ds ih v ⟨a,vs,rfl,h1,h2⟩;exact⟨a,vs,rfl,h1,ih vs h2⟩
 ·rintro ds ih v ⟨a,vs,rfl,h0,h1,h2⟩;exact⟨a,vs,rfl,λz=>h0 (List.mem_append_left _ z),h1,ih vs h2⟩
 ·exact λvs h=>h
 ·rintro d ds ih1 ih2 vs ⟨v,r,rfl,h1,h2⟩;exact⟨v,r,rfl,ih1 v h1,ih2 r h2⟩
theorem Rls.less {ψ:List Addr}:∀ {ds:List D}{vs:List V},Rls K H (φ++ψ) ds vs->Rls K H φ ds vs
 | [],_,h=>h
 | d::ds,_,h=>by
  obtain⟨v,r,rfl,h1,h2⟩:=h
  exact⟨v,r,rfl,Rl.less h1,Rls.less h2⟩
theorem Rkv.less {ψ:List Addr}:∀ {ds:List (List Int×D)}{vs:List (List Key×V)},Rkv K H (φ++ψ) ds vs->Rkv K H φ ds vs
 | [],_,h=>h
 | (k,d)::ds,_,h=>by
  obtain⟨v,r,rfl,h1,h2⟩:=h
  exact⟨v,r,rfl,Rl.less h1,Rkv.less h2⟩
theorem Rkk.less {ψ:List Addr}:∀ {ds:List (Int×D)}{vs:List (Key×V)},Rkk K H (φ++ψ) ds vs->Rkk K H φ ds vs
 | [],_,h=>h
 | (k,d)::ds,_,h=>by
  obtain⟨v,r,rfl,h1,h2⟩:=h
  exact⟨v,r,rfl,Rl.less h1,Rkk.less h2⟩
theorem Rws.less {ψ:List Addr}:∀ {ds:List W}{vs:List V},(∀ m,W.h m ∈ ds->m < φ.length)->Rws K H (φ++ψ) ds vs->Rws K H φ ds vs
 | [],_,_,h=>h
 | d::ds,_,hm,h=>by
  obtain⟨v,r,rfl,h1,h2⟩:=h
  refine⟨v,r,rfl,?_,Rws.less (λm z=>hm m (List.mem_cons_of_mem _ z)) h2⟩
  cases d with
  | d x=>exact Rl.less h1
  | h m=>
   obtain⟨a,e,rfl⟩:=h1
   rw [List.getElem?_append_left (hm m List.mem_cons_self)] at e
   exact⟨a,e,rfl⟩
theorem Rc.less {ψ:List Addr}{k:Nat}{a:Addr}{c:C} (hk:k < φ.length) (h:Rc K H (φ++ψ) k a c):Rc K H φ k a c:=by
 cases c with
 | l ds=>obtain⟨vs,q,r⟩:=h;exact⟨vs,q,r.less⟩
 | n ds=>obtain⟨vs,q,r,b⟩:=h;exact⟨vs,q,r.less λm z=>Nat.lt_trans (b m z) hk,b⟩
 | m ds=>obtain⟨vs,q,r⟩:=h;exact⟨vs,q,r.less⟩
 | k ds=>obtain⟨vs,q,r⟩:=h;exact⟨vs,q,r.less⟩
theorem Sr.less {ψ:List Addr} (S:Sr K H (φ++ψ) st):Sr K H φ (st.take φ.length):=by
 have hl:=S.len
 rw [List.length_append] at hl
 refine⟨(List.nodup_append.mp S.nd).1,by rw [List.length_take];lia,λn a ds e1 e2=>?_⟩
 have hn:=(List.getElem?_eq_some_iff.mp e1).1
 rw [List.getElem?_take_of_lt hn] at e2
 exact (S.at_ n a ds (by rw [List.getElem?_append_left hn];exact e1) e2).less hn
end
end L2
namespace L2
open PySem PySem.Spec PyProof.Rows
abbrev Ef:=Ev->Sto->Option (W×Sto)
abbrev Af:=Ev->Sto->Option (List W×Sto)
abbrev Tf:=Ev->Sto->Option (Bool×Sto)
abbrev Lf:=Ev->Sto->Option (List D×Sto)
abbrev Fn:=List W->Sto->Option (W×Sto)
section
variable (K:PySem.W.Frag)
noncomputable def tI (env:Ev) (st:Sto) (r:W×Sto):TE:=λσ H Q=>∃ φ,Er K H φ env σ/\Sr K H φ st/\∀ v H' φ',Fw φ φ' H H'->Sr K H' φ' r.2->Rw K H' φ' r.1 v->Q v H'
noncomputable def tIA (env:Ev) (st:Sto) (r:List W×Sto):TA:=λσ H Q=>∃ φ,Er K H φ env σ/\Sr K H φ st/\∀ vs H' φ',Fw φ φ' H H'->Sr K H' φ' r.2->Rws K H' φ' r.1 vs->Q vs H'
noncomputable def tIT (env:Ev) (st:Sto) (r:Bool×Sto):TT:=λσ H Q=>∃ φ,Er K H φ env σ/\Sr K H φ st/\∀ H' φ',Fw φ φ' H H'->Sr K H' φ' r.2->Q r.1 H'
noncomputable def tIL (env:Ev) (st:Sto) (r:List D×Sto):TE:=λσ H Q=>∃ φ,Er K H φ env σ/\Sr K H φ st/\∀ a vs H1 φ',Fw φ φ' H H1->Sr K H1 φ' r.2->H1 a=none->Rls K H1 φ' r.1 vs->Q (.ref a) (upd H1 a (.lst vs))
structure IE (X:Cx) (e:Expr) (f:Ef):Prop where
 run:∀ env st r,f env st=some r->PE X e (tI K env st r)
structure IA (X:Cx) (es:List Expr) (f:Af):Prop where
 run:∀ env st r,f env st=some r->PA X es (tIA K env st r)
structure IT (X:Cx) (e:Expr) (f:Tf):Prop where
 run:∀ env st r,f env st=some r->PT X e (tIT K env st r)
structure ITW (X:Cx) (e:Expr) (f:Tf):Prop where
 run:∀ env st r,f env st=some r->PW X e (tIT K env st r)
structure IL (X:Cx) (e:Expr) (f:Lf):Prop where
 run:∀ env st r,f env st=some r->PE X e (tIL K env st r)
noncomputable def rD (st:Sto) (x y:W) (d:D):R2:=λvx vy H Q=>∃ φ,Sr K H φ st/\Rw K H φ x vx/\Rw K H φ y vy/\∀ v H',aY H H'->Rl K H' φ d v->Q v H'
structure OpD (X:Cx) (f:Value->Value->Sem Value) (g:Sto->W->W->Option D):Prop where
 run:∀ st x y d,g st x y=some d->OpR X f (rD K st x y d)
noncomputable def rCD (st:Sto) (ws:List W) (d:D):List V->Hp->VK->Prop:=λvs H Q=>∃ φ,Sr K H φ st/\Rws K H φ ws vs/\∀ v H',aY H H'->Rl K H' φ d v->Q v H'
structure eF (X:Cx) (f:Value) (g:Sto->List W->Option D):Prop where
 run:∀ st ws d,g st ws=some d->cz X f (rCD K st ws d)
end
noncomputable def iV (i:Nat):Ef
 | env,st=>(env.getD i none).map λw=>(w,st)
noncomputable def iC (d:D):Ef
 | _,st=>some (.d d,st)
noncomputable def iOp (g:Sto->W->W->Option D) (a b:Ef):Ef
 | env,st=>(a env st).bind λx=>(b env x.2).bind λy=>(g y.2 x.1 y.1).map λd=>(.d d,y.2)
noncomputable def mm:D->Option Bool
 | .bl b=>some b
 | _=>none
noncomputable def blW:W->Option Bool
 | .d (.bl b)=>some b
 | _=>none
noncomputable def aP (g:Sto->W->W->Option D) (a b:Ef):Tf
 | env,st=>(a env st).bind λx=>(b env x.2).bind λy=>(g y.2 x.1 y.1).bind λd=>(mm d).map λk=>(k,y.2)
noncomputable def jK (g g':Sto->W->W->Option D) (a b c:Ef):Ef
 | env,st=>(a env st).bind λx=>(b env x.2).bind λy=>(g y.2 x.1 y.1).bind λd=>(mm d).bind λk=>
 if k=true then (c env y.2).bind λz=>(g' z.2 y.1 z.1).map λd=>(.d d,z.2) else some (.d (.bl false),y.2)
noncomputable def iUn (g:W->Option D) (a:Ef):Ef
 | env,st=>(a env st).bind λx=>(g x.1).map λd=>(.d d,x.2)
noncomputable def qY (a:Ef):Ef
 | env,st=>(a env st).bind λx=>(blW x.1).map λk=>(.d (.bl (!k)),x.2)
noncomputable def fk (a b:Ef):Ef
 | env,st=>(a env st).bind λx=>(blW x.1).bind λk=>if k=true then b env x.2 else some (.d (.bl false),x.2)
noncomputable def fA (c:Tf) (a b:Ef):Ef
 | env,st=>(c env st).bind λr=>if r.1=true then a env r.2 else b env r.2
noncomputable def bJ (c:Tf):Tf
 | env,st=>(c env st).map λr=>(!r.1,r.2)
noncomputable def cY (a b:Tf):Tf
 | env,st=>(a env st).bind λr=>if r.1=true then b env r.2 else some (false,r.2)
noncomputable def fJ (a b:Tf):Tf
 | env,st=>(a env st).bind λr=>if r.1=true then some (true,r.2) else b env r.2
noncomputable def dk (g:Sto->W->Option Bool) (a:Ef):Tf
 | env,st=>(a env st).bind λx=>(g x.2 x.1).map λk=>(k,x.2)
noncomputable def ai:Af
 | _,st=>some ([],st)
noncomputable def aa (a:Ef) (r:Af):Af
 | env,st=>(a env st).bind λx=>(r env x.2).map λy=>(x.1::y.1,y.2)
noncomputable def iCB (g:Sto->List W->Option D) (a:Af):Ef
 | env,st=>(a env st).bind λr=>(g r.2 r.1).map λd=>(.d d,r.2)
noncomputable def ay (m:Fn) (a:Af):Ef
 | env,st=>(a env st).bind λr=>m r.1 r.2
noncomputable def kt:List W->Option (List D)
 | []=>some []
 | .d x::ws=>(kt ws).map λr=>x::r
 | .h _::_=>none
noncomputable def aI (a:Af):Ef
 | env,st=>(a env st).bind λr=>(kt r.1).bind λds=>if ds.length<=1000 then some (.d (.tup ds),r.2) else none
noncomputable def gP (a:Af):Lf
 | env,st=>(a env st).bind λr=>(kt r.1).bind λds=>if ds.length<=1000 then some (ds,r.2) else none
noncomputable def bo (a:Lf):Ef
 | env,st=>(a env st).map λr=>(.d (.lst r.1),r.2)
noncomputable def sX (a:Lf):Ef
 | env,st=>(a env st).map λr=>(.h r.2.length,r.2++[.l r.1])
section
variable {K:PySem.W.Frag}{X:Cx}{e a b c:Expr}{es:List Expr}{pos:Pos}{f fa fb fc:Ef}
theorem PE.imp {t t':TE} (h:PE X e t) (m:∀ σ H Q,t' σ H Q->t σ H Q):PE X e t':=λpins s σ H Q I q=>h pins s σ H Q I (m σ H Q q)
theorem PT.imp {t t':TT} (h:PT X e t) (m:∀ σ H Q,t' σ H Q->t σ H Q):PT X e t':=λpins s σ H Q I q=>h pins s σ H Q I (m σ H Q q)
theorem PW.imp {t t':TT} (h:PW X e t) (m:∀ σ H Q,t' σ H Q->t σ H Q):PW X e t':=λwh pins s σ H Q I q=>h wh pins s σ H Q I (m σ H Q q)
theorem PA.imp {t t':TA} (h:PA X es t) (m:∀ σ H Q,t' σ H Q->t σ H Q):PA X es t':=λpos pins s σ H Q I q=>h pos pins s σ H Q I (m σ H Q q)
theorem OpR.imp {g:Value->Value->Sem Value}{r r':R2} (h:OpR X g r) (m:∀ x y H Q,r' x y H Q->r x y H Q):OpR X g r':=λpins s σ H x y v u Q I rx ry q=>h pins s σ H x y v u Q I rx ry (m _ _ _ _ q)
theorem cz.imp {g:Value}{r r':List V->Hp->VK->Prop} (h:cz X g r) (m:∀ xs H Q,r' xs H Q->r xs H Q):cz X g r':=λpins s σ H xs us Q I rx q=>h pins s σ H xs us Q I rx (m _ _ _ q)
theorem gE:PE X e (λ_ _ _=>False):=λ_ _ _ _ _ _ q=>q.elim
theorem nv:PW X e (λ_ _ _=>False):=λ_ _ _ _ _ _ _ q=>q.elim
theorem vZ {i:Nat}{x:Str}{t:TE} (h:PE X (.Name x pos) (xb i)):IE K X (.Name x pos) (iV i):=by
 refine⟨λenv st r hr=>?_⟩
 unfold iV at hr
 obtain⟨w,hw,rfl⟩:=Option.map_eq_some_iff.mp hr
 refine h.imp ?_
 rintro σ H Q ⟨φ,hE,hS,q⟩
 have hi:env[i]?=some (some w):=by
  rw [List.getD] at hw
  cases q:env[i]? with
  | none=>rw [q] at hw;cases hw
  | some o=>rw [q] at hw;rw [show o=some w from hw]
 obtain⟨v,e1,r⟩:=hE.at_ i w hi
 exact⟨v,e1,q v H φ (Fw.refl φ H) hS r⟩
theorem iv (i:Nat) {x:Str} (hN:X.N[i]?=some x:=by rfl) (hv:Vis X.env.scope x:=by first | exact Or.inl rfl | exact Or.inr (Or.inl rfl) | exact Or.inr (Or.inr rfl)) (hd:(x==("__debug__" : Str))=false:=by decide)
  (hcd:(x==("__classdict__" : Str))=false:=by decide):IE K X (.Name x pos) (iV i):=vZ (t:=xb i) (xV hN hv hd hcd)
theorem p9 {d:D}{v:V} (h:PE X e (tC v)) (r:∀ H φ,Rl K H φ d v):IE K X e (iC d):=by
 refine⟨λenv st r hr=>?_⟩
 cases hr
 refine h.imp ?_
 rintro σ H Q ⟨φ,hE,hS,q⟩
 exact q v H φ (Fw.refl φ H) hS (r H φ)
theorem ah {i j}:IE K X (.Constant (.int i) j pos) (iC (.int i)):=p9 wg λ_ _=>rfl
theorem fB {i j}:IE K X (.Constant (.bool i) j pos) (iC (.bl i)):=p9 yH λ_ _=>rfl
theorem sU {j}:IE K X (.Constant .none j pos) (iC .non):=p9 wW λ_ _=>rfl
theorem aB {x j}:IE K X (.Constant (.str x) j pos) (iC (.str x)):=p9 xW λ_ _=>rfl
theorem mn {env:Ev}{st:Sto}{x y:W×Sto}{d:D}{σ:St}{H:Hp}{Q:VK} (h:tI K env st (.d d,y.2) σ H Q):tOp (rD K y.2 x.1 y.1 d) (tI K env st x) (tI K env x.2 y) σ H Q:=by
 obtain⟨φ,hE,hS,q⟩:=h
 refine⟨φ,hE,hS,λv H1 φ1 f1 s1 w1=>⟨φ1,hE.fw hS f1,s1,λu H2 φ2 f2 s2 w2=>⟨φ2,s2,w1.fw s1 f2,w2,λv3 H3 f3 w3=>?_⟩⟩⟩
 exact q v3 H3 φ2 ((f1.trans f2).trans (Fw.same f3)) (s2.same f3) w3
theorem ar {op:Operator}{g:Sto->W->W->Option D} (ho:OpD K X (binaryOp op) g) (ha:IE K X a fa) (hb:IE K X b fb):IE K X (.BinOp a op b pos) (iOp g fa fb):=by
 refine⟨λenv st r hr=>?_⟩
 simp only [iOp,Option.bind_eq_some_iff,Option.map_eq_some_iff] at hr
 obtain⟨x,hx,y,hy,d,hd,rfl⟩:=hr
 exact (y9 (ho.run _ _ _ _ hd) (ha.run _ _ _ hx) (hb.run _ _ _ hy)).imp λσ H Q h=>mn h
theorem jB {op:CmpOp}{g:Sto->W->W->Option D} (ho:OpD K X (compareOp op) g) (ha:IE K X a fa) (hb:IE K X b fb) (hm:behindInMarks op b=false):IE K X (.Compare a [op] [b] pos) (iOp g fa fb):=by
 refine⟨λenv st r hr=>?_⟩
 simp only [iOp,Option.bind_eq_some_iff,Option.map_eq_some_iff] at hr
 obtain⟨x,hx,y,hy,d,hd,rfl⟩:=hr
 exact (pc (ho.run _ _ _ _ hd) (ha.run _ _ _ hx) (hb.run _ _ _ hy) hm).imp λσ H Q h=>mn h
theorem lb {d:D}{k:Bool} (h:mm d=some k):d=.bl k:=by
 cases d<;>first | (cases h;done) | (injection h with h;subst h;rfl)
theorem ny {d:W}{k:Bool} (h:blW d=some k):d=.d (.bl k):=by
 cases d with
 | h n=>cases h
 | d x=>cases x<;>first | (cases h;done) | (injection h with h;subst h;rfl)
theorem bd {op:CmpOp}{g:Sto->W->W->Option D} (ho:OpD K X (compareOp op) g) (ha:IE K X a fa) (hb:IE K X b fb) (hm:behindInMarks op b=false):IT K X (.Compare a [op] [b] pos) (aP g fa fb):=by
 refine⟨λenv st r hr=>?_⟩
 simp only [aP,Option.bind_eq_some_iff,Option.map_eq_some_iff] at hr
 obtain⟨x,hx,y,hy,d,hd,k,hk,rfl⟩:=hr
 cases lb hk
 refine (vk (ho.run _ _ _ _ hd) (ha.run _ _ _ hx) (hb.run _ _ _ hy) hm).imp λσ H Q h=>?_
 obtain⟨φ,hE,hS,q⟩:=h
 refine mn ⟨φ,hE,hS,λv H1 φ1 f1 s1 w1=>⟨k,w1,q H1 φ1 f1 s1⟩⟩
theorem rF {op op':CmpOp}{g g':Sto->W->W->Option D} (ho:OpD K X (compareOp op) g) (ho':OpD K X (compareOp op') g') (ha:IE K X a fa) (hb:IE K X b fb) (hc:IE K X c fc)
  (hm:lastMarks [op,op'] [b,c]=false:=by with_unfolding_all rfl):IE K X (.Compare a [op,op'] [b,c] pos) (jK g g' fa fb fc):=by
 refine⟨λenv st r hr=>?_⟩
 simp only [jK,Option.bind_eq_some_iff] at hr
 obtain⟨x,hx,y,hy,d,hd,k,hk,hr⟩:=hr
 cases lb hk
 cases k with
 | false=>
  rw [if_neg Bool.false_ne_true] at hr
  cases hr
  refine (nu (r':=λ_ _ _ _=>False) (ho.run _ _ _ _ hd) (λ_ _ _ _ _ _ _ _ _ _ _ _ q=>q.elim) (ha.run _ _ _ hx) (hb.run _ _ _ hy) gE hm).imp ?_
  rintro σ H Q ⟨φ,hE,hS,q⟩
  refine⟨φ,hE,hS,λv H1 φ1 f1 s1 w1=>⟨φ1,hE.fw hS f1,s1,λu H2 φ2 f2 s2 w2=>⟨φ2,s2,w1.fw s1 f2,w2,λv3 H3 f3 w3=>⟨false,w3,?_⟩⟩⟩⟩
  rw [if_neg Bool.false_ne_true]
  exact q _ H3 φ2 ((f1.trans f2).trans (Fw.same f3)) (s2.same f3) rfl
 | true=>
  simp only [if_true,Option.bind_eq_some_iff,Option.map_eq_some_iff] at hr
  obtain⟨z,hz,d',hd',rfl⟩:=hr
  refine (nu (ho.run _ _ _ _ hd) (ho'.run _ _ _ _ hd') (ha.run _ _ _ hx) (hb.run _ _ _ hy) (hc.run _ _ _ hz) hm).imp ?_
  rintro σ H Q ⟨φ,hE,hS,q⟩
  refine⟨φ,hE,hS,λv H1 φ1 f1 s1 w1=>⟨φ1,hE.fw hS f1,s1,λu H2 φ2 f2 s2 w2=>⟨φ2,s2,w1.fw s1 f2,w2,λv3 H3 f3 w3=>⟨true,w3,?_⟩⟩⟩⟩
  rw [if_pos rfl]
  have f13:=(f1.trans f2).trans (Fw.same (φ:=φ2) f3)
  refine⟨φ2,hE.fw hS f13,s2.same f3,λu4 H4 φ4 f4 s4 w4=>⟨φ4,s4,(w2.fw s2 (Fw.same f3)).fw (s2.same f3) f4,w4,λv5 H5 f5 w5=>?_⟩⟩
  exact q v5 H5 φ4 (f13.trans (f4.trans (Fw.same f5))) (s4.same f5) w5
noncomputable def hV:W->Option D
 | .d (.int i)=>some (.int (-i))
 | _=>none
theorem fN (ha:IE K X a fa):IE K X (.UnaryOp .USub a pos) (iUn hV fa):=by
 refine⟨λenv st r hr=>?_⟩
 simp only [iUn,Option.bind_eq_some_iff,Option.map_eq_some_iff] at hr
 obtain⟨⟨x,s1⟩,hx,d,hd,rfl⟩:=hr
 cases x with
 | h n=>cases hd
 | d x=>
  cases x with
  | int i=>
   cases hd
   refine (yn wM (ha.run _ _ _ hx)).imp ?_
   rintro σ H Q ⟨φ,hE,hS,q⟩
   exact⟨φ,hE,hS,λv H1 φ1 f1 s1 w1=>⟨i,w1,q _ H1 φ1 f1 s1 rfl⟩⟩
  | _=>cases hd
theorem wR (ha:IE K X a fa):IE K X (.UnaryOp .Not a pos) (qY fa):=by
 refine⟨λenv st r hr=>?_⟩
 simp only [qY,Option.bind_eq_some_iff,Option.map_eq_some_iff] at hr
 obtain⟨x,hx,k,hk,rfl⟩:=hr
 have e:=ny hk
 refine (xA (ha.run _ _ _ hx)).imp ?_
 rintro σ H Q ⟨φ,hE,hS,q⟩
 exact⟨φ,hE,hS,λv H1 φ1 f1 s1 w1=>⟨k,by rw [e] at w1;exact w1,q _ H1 φ1 f1 s1 rfl⟩⟩
theorem lB {op} (h:IE K X a fa):IE K X (.BoolOp op [a] pos) fa:=⟨λenv st r hr=>wJ (h.run env st r hr)⟩
theorem gW {rest:List Expr} (ha:IE K X a fa) (hb:IE K X (.BoolOp .And (b::rest) pos) fb):IE K X (.BoolOp .And (a::b::rest) pos) (fk fa fb):=by
 refine⟨λenv st r hr=>?_⟩
 simp only [fk,Option.bind_eq_some_iff] at hr
 obtain⟨x,hx,k,hk,hr⟩:=hr
 have e:=ny hk
 cases k with
 | false=>
  rw [if_neg Bool.false_ne_true] at hr
  cases hr
  refine (sD (ha.run _ _ _ hx) gE).imp ?_
  rintro σ H Q ⟨φ,hE,hS,q⟩
  refine⟨φ,hE,hS,λv H1 φ1 f1 s1 w1=>⟨false,by rw [e] at w1;exact w1,?_⟩⟩
  rw [if_neg Bool.false_ne_true]
  exact q _ H1 φ1 f1 s1 rfl
 | true=>
  rw [if_pos rfl] at hr
  refine (sD (ha.run _ _ _ hx) (hb.run _ _ _ hr)).imp ?_
  rintro σ H Q ⟨φ,hE,hS,q⟩
  refine⟨φ,hE,hS,λv H1 φ1 f1 s1 w1=>⟨true,by rw [e] at w1;exact w1,?_⟩⟩
  rw [if_pos rfl]
  exact⟨φ1,hE.fw hS f1,s1,λu H2 φ2 f2 s2 w2=>q u H2 φ2 (f1.trans f2) s2 w2⟩
variable {ta tb:Tf}
theorem cK (ha:IT K X a ta):IT K X (.UnaryOp .Not a pos) (bJ ta):=by
 refine⟨λenv st r hr=>?_⟩
 simp only [bJ,Option.map_eq_some_iff] at hr
 obtain⟨x,hx,rfl⟩:=hr
 refine (wu (ha.run _ _ _ hx)).imp ?_
 rintro σ H Q ⟨φ,hE,hS,q⟩
 exact⟨φ,hE,hS,λH1 φ1 f1 s1=>q H1 φ1 f1 s1⟩
theorem eg (h:ITW K X a ta):IT K X a ta:=⟨λenv st r hr=>(h.run env st r hr).pt⟩
theorem jS (h:IT K X a ta):ITW K X (.BoolOp .And [a] pos) ta:=⟨λenv st r hr=>uK (h.run env st r hr)⟩
theorem eP (h:IT K X a ta):ITW K X (.BoolOp .Or [a] pos) ta:=⟨λenv st r hr=>v0 (h.run env st r hr)⟩
theorem lR {rest:List Expr} (ha:IT K X a ta) (hb:ITW K X (.BoolOp .And (b::rest) pos) tb):ITW K X (.BoolOp .And (a::b::rest) pos) (cY ta tb):=by
 refine⟨λenv st r hr=>?_⟩
 simp only [cY,Option.bind_eq_some_iff] at hr
 obtain⟨⟨k,s1⟩,hx,hr⟩:=hr
 cases k with
 | false=>
  rw [if_neg Bool.false_ne_true] at hr
  cases hr
  refine (rC (ha.run _ _ _ hx) nv).imp ?_
  rintro σ H Q ⟨φ,hE,hS,q⟩
  refine⟨φ,hE,hS,λH1 φ1 f1 s1=>?_⟩
  refine pY ?_
  exact q H1 φ1 f1 s1
 | true=>
  rw [if_pos rfl] at hr
  refine (rC (ha.run _ _ _ hx) (hb.run _ _ _ hr)).imp ?_
  rintro σ H Q ⟨φ,hE,hS,q⟩
  refine⟨φ,hE,hS,λH1 φ1 f1 s1=>?_⟩
  refine pW ?_
  exact⟨φ1,hE.fw hS f1,s1,λH2 φ2 f2 s2=>q H2 φ2 (f1.trans f2) s2⟩
theorem gm {rest:List Expr} (ha:IT K X a ta) (hb:ITW K X (.BoolOp .Or (b::rest) pos) tb):ITW K X (.BoolOp .Or (a::b::rest) pos) (fJ ta tb):=by
 refine⟨λenv st r hr=>?_⟩
 simp only [fJ,Option.bind_eq_some_iff] at hr
 obtain⟨⟨k,s1⟩,hx,hr⟩:=hr
 cases k with
 | true=>
  rw [if_pos rfl] at hr
  cases hr
  refine (vF (ha.run _ _ _ hx) nv).imp ?_
  rintro σ H Q ⟨φ,hE,hS,q⟩
  refine⟨φ,hE,hS,λH1 φ1 f1 s1=>?_⟩
  refine pW ?_
  exact q H1 φ1 f1 s1
 | false=>
  rw [if_neg Bool.false_ne_true] at hr
  refine (vF (ha.run _ _ _ hx) (hb.run _ _ _ hr)).imp ?_
  rintro σ H Q ⟨φ,hE,hS,q⟩
  refine⟨φ,hE,hS,λH1 φ1 f1 s1=>?_⟩
  refine pY ?_
  exact⟨φ1,hE.fw hS f1,s1,λH2 φ2 f2 s2=>q H2 φ2 (f1.trans f2) s2⟩
theorem jW {tc:Tf} (hc:IT K X c tc) (ha:IE K X a fa) (hb:IE K X b fb):IE K X (.IfExp c a b pos) (fA tc fa fb):=by
 refine⟨λenv st r hr=>?_⟩
 simp only [fA,Option.bind_eq_some_iff] at hr
 obtain⟨⟨k,s1⟩,hx,hr⟩:=hr
 cases k with
 | true=>
  rw [if_pos rfl] at hr
  refine (n4 (hc.run _ _ _ hx) (ha.run _ _ _ hr) gE).imp ?_
  rintro σ H Q ⟨φ,hE,hS,q⟩
  refine⟨φ,hE,hS,λH1 φ1 f1 s1=>?_⟩
  refine pW ?_
  exact⟨φ1,hE.fw hS f1,s1,λu H2 φ2 f2 s2 w2=>q u H2 φ2 (f1.trans f2) s2 w2⟩
 | false=>
  rw [if_neg Bool.false_ne_true] at hr
  refine (n4 (hc.run _ _ _ hx) gE (hb.run _ _ _ hr)).imp ?_
  rintro σ H Q ⟨φ,hE,hS,q⟩
  refine⟨φ,hE,hS,λH1 φ1 f1 s1=>?_⟩
  refine pY ?_
  exact⟨φ1,hE.fw hS f1,s1,λu H2 φ2 f2 s2 w2=>q u H2 φ2 (f1.trans f2) s2 w2⟩
noncomputable def fO (st:Sto):W->Option (List D)
 | .d (.tup ds)=>some ds
 | .d (.lst ds)=>some ds
 | .d (.scr ns)=>some (ns.map D.int)
 | .h n=>lg st n
 | _=>none
theorem nO {st:Sto}{H:Hp}{φ:List Addr}{w:W}{v:V}{ds:List D} (S:Sr K H φ st) (r:Rw K H φ w v) (e:fO st w=some ds):∃ a vs,v=.ref a/\(SqL K H a vs\/H a=some (.tup vs))/\Rls K H φ ds vs:=by
 cases w with
 | h n=>
  obtain⟨a,ea,rfl⟩:=r
  obtain⟨vs,q,rl⟩:=S.atl n a ds ea e
  exact⟨a,vs,rfl,.inl (SqL.of q),rl⟩
 | d x=>
  cases x with
  | tup es=>cases e;obtain⟨a,vs,rfl,h1,h2⟩:=r;exact⟨a,vs,rfl,.inr h1,h2⟩
  | lst es=>cases e;obtain⟨a,vs,rfl,h0,h1,h2⟩:=r;exact⟨a,vs,rfl,.inl (.inl h1),h2⟩
  | scr ns=>
   cases e
   obtain⟨a,rfl,h⟩:=r
   refine⟨a,_,rfl,.inl ?_,Rls.of_ints ns⟩
   rcases h with⟨o,h⟩ | h
   ·exact .inl (.inr ⟨o,h⟩)
   ·exact .inr h
  | _=>cases e
theorem iW {st:Sto}{H:Hp}{φ:List Addr}{w:W}{v:V}{ds:List D} (S:Sr K H φ st) (r:Rw K H φ w v) (e:fO st w=some ds):∃ a vs,v=.ref a/\(SqL K H a vs\/SqT K H a vs)/\Rls K H φ ds vs:=by
 obtain⟨a,vs,h0,h1,h2⟩:=nO S r e
 exact⟨a,vs,h0,h1.imp id SqT.of,h2⟩
noncomputable def dm (st:Sto):W->Option Bool
 | .d .non=>some false
 | .d (.bl b)=>some b
 | .d (.int i)=>some (i != 0)
 | w=>(fO st w).map λds=>!ds.isEmpty
theorem tT {st:Sto}{H:Hp}{φ:List Addr}{w:W}{v:V}{k:Bool} (S:Sr K H φ st) (r:Rw K H φ w v) (e:dm st w=some k):u0 K v H k:=by
 have seq:∀ ds,fO st w=some ds->k=!ds.isEmpty->u0 K v H k:=λds h hk=>by
  obtain⟨a,vs,rfl,h1,h2⟩:=iW S r h
  have hl:=h2.length
  have e':k=!vs.isEmpty:=by
   rw [hk]
   cases ds<;>cases vs<;>first | rfl | cases hl
  rcases h1 with h1 | h1
  ·exact .inl ⟨vs,h1,e'⟩
  ·exact .inr (.inl ⟨vs,h1,e'⟩)
 cases w with
 | h n=>
  obtain⟨ds,h1,h2⟩:=Option.map_eq_some_iff.mp e
  exact seq ds h1 h2.symm
 | d x=>
  cases x with
  | non=>have r':v=.non:=r;subst r';cases e;exact rfl
  | bl b=>have r':v=.bl b:=r;subst r';cases e;exact rfl
  | int i=>have r':v=.int i:=r;subst r';cases e;exact rfl
  | tup ds=>exact seq ds rfl (Option.some.inj e).symm
  | lst ds=>exact seq ds rfl (Option.some.inj e).symm
  | scr ds=>exact seq _ rfl (Option.some.inj e).symm
  | _=>cases e
theorem cJ (ha:IE K X a fa) (he:rW a=true:=by rfl) (hK:X.K=K:=by rfl):IT K X a (dk dm fa):=by
 subst hK
 refine⟨λenv st r hr=>?_⟩
 simp only [dk,Option.bind_eq_some_iff,Option.map_eq_some_iff] at hr
 obtain⟨x,hx,k,hk,rfl⟩:=hr
 refine (sP (ha.run _ _ _ hx) (qt he)).imp ?_
 rintro σ H Q ⟨φ,hE,hS,q⟩
 exact⟨φ,hE,hS,λv H1 φ1 f1 s1 w1=>⟨k,tT s1 w1 hk,q H1 φ1 f1 s1⟩⟩
variable {af:Af}
theorem ag:IA K X [] ai:=by
 refine⟨λenv st r hr=>?_⟩
 cases hr
 refine wd.imp ?_
 rintro σ H Q ⟨φ,hE,hS,q⟩
 exact q [] H φ (Fw.refl φ H) hS rfl
theorem ab (ha:IE K X e fa) (hr:IA K X es af) (hs:aE e=true:=by rfl):IA K X (e::es) (aa fa af):=by
 refine⟨λenv st r h=>?_⟩
 simp only [aa,Option.bind_eq_some_iff,Option.map_eq_some_iff] at h
 obtain⟨x,hx,y,hy,rfl⟩:=h
 refine (ve (ha.run _ _ _ hx) (hr.run _ _ _ hy) (bz hs)).imp ?_
 rintro σ H Q ⟨φ,hE,hS,q⟩
 refine⟨φ,hE,hS,λv H1 φ1 f1 s1 w1=>⟨φ1,hE.fw hS f1,s1,λu H2 φ2 f2 s2 w2=>?_⟩⟩
 exact q _ H2 φ2 (f1.trans f2) s2 ⟨v,u,rfl,w1.fw s1 f2,w2⟩
theorem bP {x:Str}{id:String}{p:Pos}{g:Sto->List W->Option D} (hc:eF K X (.builtin id) g) (hg:Gl X x) (hm:X.mg x=none) (hv:bootBuiltins x=some (.builtin id)) (ha:IA K X (e::es) af)
  (hn:x≠"__name__":=by decide) (hdb:(x==("__debug__" : Str))=false:=by decide) (hs:aE e=true:=by rfl) (hp:es.all aE=true:=by rfl) :
  IE K X (.Call (.Name x p) (e::es) [] pos) (iCB g af):=by
 refine⟨λenv st r hr=>?_⟩
 simp only [iCB,Option.bind_eq_some_iff,Option.map_eq_some_iff] at hr
 obtain⟨y,hy,d,hd,rfl⟩:=hr
 refine (nV (hc.run _ _ _ hd) hg hm hv (ha.run _ _ _ hy) hn hdb (bz hs) (cp hp)).imp ?_
 rintro σ H Q ⟨φ,hE,hS,q⟩
 exact⟨φ,hE,hS,λv H1 φ1 f1 s1 w1=>⟨φ1,s1,w1,λu H2 f2 w2=>q u H2 φ1 (f1.trans (Fw.same f2)) (s1.same f2) w2⟩⟩
theorem em {x:Str}{T:String}{p:Pos}{g:Sto->List W->Option D} (hc:eF K X (.type T) g) (hg:Gl X x) (hm:X.mg x=none) (hv:bootBuiltins x=some (.type T)) (ha:IA K X (e::es) af)
  (hn:x≠"__name__":=by decide) (hdb:(x==("__debug__" : Str))=false:=by decide) (hs:aE e=true:=by rfl) (hp:es.all aE=true:=by rfl) :
  IE K X (.Call (.Name x p) (e::es) [] pos) (iCB g af):=by
 refine⟨λenv st r hr=>?_⟩
 simp only [iCB,Option.bind_eq_some_iff,Option.map_eq_some_iff] at hr
 obtain⟨y,hy,d,hd,rfl⟩:=hr
 refine (ql (hc.run _ _ _ hd) hg hm hv (ha.run _ _ _ hy) hn hdb (bz hs) (cp hp)).imp ?_
 rintro σ H Q ⟨φ,hE,hS,q⟩
 exact⟨φ,hE,hS,λv H1 φ1 f1 s1 w1=>⟨φ1,s1,w1,λu H2 f2 w2=>q u H2 φ1 (f1.trans (Fw.same f2)) (s1.same f2) w2⟩⟩
theorem jM {H:Hp}{φ:List Addr}:∀ {ws:List W}{vs:List V}{ds:List D},kt ws=some ds->Rws K H φ ws vs->Rls K H φ ds vs
 | [],_,_,e,h=>by cases e;exact h
 | .d x::ws,_,_,e,h=>by
  obtain⟨v,r,rfl,h1,h2⟩:=h
  obtain⟨es,e1,rfl⟩:=Option.map_eq_some_iff.mp e
  exact⟨v,r,rfl,h1,jM e1 h2⟩
 | .h n::ws,_,_,e,h=>by cases e
theorem bY {x1} (h:IA K X es af):IE K X (.Tuple es x1 pos) (aI af):=by
 refine⟨λenv st r hr=>?_⟩
 simp only [aI,Option.bind_eq_some_iff] at hr
 obtain⟨y,hy,ds,hd,hr⟩:=hr
 split at hr
 ·cases hr
  rename_i hl
  refine (xY (h.run _ _ _ hy)).imp ?_
  rintro σ H Q ⟨φ,hE,hS,q⟩
  refine⟨φ,hE,hS,λvs H1 φ1 f1 s1 w1=>?_⟩
  have w:=jM hd w1
  refine⟨by rw [<-w.length];exact i3 hl,λp hp=>?_⟩
  exact q _ _ φ1 (f1.trans (Fw.new hp)) (s1.new hp) ⟨p,vs,rfl,aW,w.fw s1 (Fw.new hp)⟩
 ·cases hr
theorem il (h:IA K X es af):IL K X (.List es pos) (gP af):=by
 refine⟨λenv st r hr=>?_⟩
 simp only [gP,Option.bind_eq_some_iff] at hr
 obtain⟨y,hy,ds,hd,hr⟩:=hr
 split at hr
 ·cases hr
  rename_i hl
  refine (vX (h.run _ _ _ hy)).imp ?_
  rintro σ H Q ⟨φ,hE,hS,q⟩
  refine⟨φ,hE,hS,λvs H1 φ1 f1 s1 w1=>?_⟩
  have w:=jM hd w1
  exact⟨by rw [<-w.length];exact i3 hl,λp hp=>q p vs H1 φ1 f1 s1 hp w⟩
 ·cases hr
theorem bF {lf:Lf} (h:IL K X e lf):IE K X e (bo lf):=by
 refine⟨λenv st r hr=>?_⟩
 simp only [bo,Option.map_eq_some_iff] at hr
 obtain⟨y,hy,rfl⟩:=hr
 refine (h.run _ _ _ hy).imp ?_
 rintro σ H Q ⟨φ,hE,hS,q⟩
 refine⟨φ,hE,hS,λa vs H1 φ1 f1 s1 n1 w1=>?_⟩
 exact q _ _ φ1 (f1.trans (Fw.new n1)) (s1.new n1) ⟨a,vs,rfl,s1.nin n1,.inl aW,w1.fw s1 (Fw.new n1)⟩
theorem Sr.moreC {H:Hp}{φ:List Addr}{st:Sto}{a:Addr}{o:HO}{c:C} (S:Sr K H φ st) (n:H a=none) (w:Rc K (upd H a o) (φ++[a]) φ.length a c):Sr K (upd H a o) (φ++[a]) (st++[c]):=by
 have f:Fw φ (φ++[a]) H (upd H a o):=⟨⟨[a],rfl,λb hb=>by rw [List.mem_singleton.mp hb];exact n⟩,λb o _ h=>aY.new n _ b o h,λb o h=>⟨o,aY.new n _ b o h⟩⟩
 refine⟨?_,by rw [List.length_append,List.length_append,S.len];rfl,λi b es e1 e2=>?_⟩
 ·rw [List.nodup_append]
  refine⟨S.nd,by simp,λx hx y hy e=>?_⟩
  rw [List.mem_singleton.mp hy] at e
  rw [e] at hx
  exact S.nin n hx
 ·by_cases hi:i < φ.length
  ·rw [List.getElem?_append_left hi] at e1
   rw [List.getElem?_append_left (by rw [<-S.len];exact hi)] at e2
   exact (S.at_ i b es e1 e2).fw S f λo h=>aY.new n _ _ _ h
  ·have e:i=φ.length:=by
    have:=(List.getElem?_eq_some_iff.mp e1).1
    rw [List.length_append] at this
    simp at this
    lia
   subst e
   rw [List.getElem?_append_right (Nat.le_refl _)] at e1
   rw [S.len,List.getElem?_append_right (Nat.le_refl _)] at e2
   simp at e1 e2
   subst e1 e2
   exact w
theorem Fw.moreO {H:Hp}{φ:List Addr}{a:Addr}{o:HO} (n:H a=none):Fw φ (φ++[a]) H (upd H a o):=
 ⟨⟨[a],rfl,λb hb=>by rw [List.mem_singleton.mp hb];exact n⟩,λb o _ h=>aY.new n _ b o h,λb o h=>⟨o,aY.new n _ b o h⟩⟩
theorem Fw.more {H:Hp}{φ:List Addr}{a:Addr}{vs:List V} (n:H a=none):Fw φ (φ++[a]) H (upd H a (.lst vs)):=Fw.moreO n
theorem Sr.more {H:Hp}{φ:List Addr}{st:Sto}{a:Addr}{vs:List V}{ds:List D} (S:Sr K H φ st) (n:H a=none) (w:Rls K H φ ds vs):Sr K (upd H a (.lst vs)) (φ++[a]) (st++[.l ds]):=
 S.moreC n ⟨vs,aW,w.fw S (Fw.moreO n)⟩
theorem xa {lf:Lf} (h:IL K X e lf):IE K X e (sX lf):=by
 refine⟨λenv st r hr=>?_⟩
 simp only [sX,Option.map_eq_some_iff] at hr
 obtain⟨y,hy,rfl⟩:=hr
 refine (h.run _ _ _ hy).imp ?_
 rintro σ H Q ⟨φ,hE,hS,q⟩
 refine⟨φ,hE,hS,λa vs H1 φ1 f1 s1 n1 w1=>?_⟩
 exact q _ _ (φ1++[a]) (f1.trans (Fw.more n1)) (s1.more n1 w1) ⟨a,by rw [<-s1.len];simp,rfl⟩
noncomputable def spI (K:PySem.W.Frag) (m:Fn):Sp:=λvs H Q _=>∃ φ st ws r,m ws st=some r/\Rws K H φ ws vs/\Sr K H φ st/\∀ v H' φ',Fw φ φ' H H'->Sr K H' φ' r.2->Rw K H' φ' r.1 v->Q v H'
theorem av {x:Str}{k j:Nat}{ff:Addr}{fd:FuncData}{ps:List Str}{m:Fn}{p:Pos} (F:ck X.prog X.w X.K X.mg X.base CX0 j ff fd ps (spI K m)) (hjk:j<=k) (hr:cg k X.A) (hg:Gl X x) (hm:X.mg x=some (.ref ff)) (hk:PySem.W.keepIn X.K (.ref ff)=true) (hb:bK X.K fd ps [])
  (ha:IA K X (e::es) af) (hdb:(x==("__debug__" : Str))=false:=by decide) (hs:aE e=true:=by rfl) (hp:es.all aE=true:=by rfl) :
  IE K X (.Call (.Name x p) (e::es) [] pos) (ay m af):=by
 refine⟨λenv st r h=>?_⟩
 simp only [ay,Option.bind_eq_some_iff] at h
 obtain⟨y,hy,h⟩:=h
 refine (vh (F.mono hjk) hr hg hm hk hb .nil zi (ha.run _ _ _ hy) hdb (bz hs) (cp hp)).imp ?_
 rintro σ H Q ⟨φ,hE,hS,q⟩
 refine⟨φ,hE,hS,λvs H1 φ1 f1 s1 w1=>?_⟩
 show spI K m (vs++[]) H1 Q E0
 rw [List.append_nil]
 exact⟨φ1,y.2,y.1,r,h,w1,s1,λv H2 φ2 f2 s2 w2=>q v H2 φ2 (f1.trans f2) s2 w2⟩
end
end L2
namespace L2
open PySem PySem.Spec PyProof.Rows
inductive Fl where
 | nx (env:Ev) (st:Sto) | rt (w:W) (st:Sto) | bk (env:Ev) (st:Sto) | ct (env:Ev) (st:Sto)
abbrev Sf:=Ev->Sto->Option Fl
noncomputable def vp (K:PySem.W.Frag) (φ:List Addr) (H:Hp) (D:oJ):Fl->Prop
 | .nx e s=>∀ σ' H' φ',Fw φ φ' H H'->Er K H' φ' e σ'->Sr K H' φ' s->D.nx σ' H'
 | .rt w s=>∀ v H' φ',Fw φ φ' H H'->Sr K H' φ' s->Rw K H' φ' w v->D.rt v H'
 | .bk e s=>∀ σ' H' φ',Fw φ φ' H H'->Er K H' φ' e σ'->Sr K H' φ' s->D.bk σ' H'
 | .ct e s=>∀ σ' H' φ',Fw φ φ' H H'->Er K H' φ' e σ'->Sr K H' φ' s->D.ct σ' H'
theorem vp.fw {K:PySem.W.Frag}{φ φ1:List Addr}{H H1:Hp}{D:oJ}{r:Fl} (h:vp K φ H D r) (f:Fw φ φ1 H H1):vp K φ1 H1 D r:=by
 cases r with
 | nx e s=>exact λσ' H' φ' f'=>h σ' H' φ' (f.trans f')
 | rt w s=>exact λv H' φ' f'=>h v H' φ' (f.trans f')
 | bk e s=>exact λσ' H' φ' f'=>h σ' H' φ' (f.trans f')
 | ct e s=>exact λσ' H' φ' f'=>h σ' H' φ' (f.trans f')
noncomputable def tS (K:PySem.W.Frag) (env:Ev) (st:Sto) (r:Fl):TS:=λD σ H=>∃ φ,Er K H φ env σ/\Sr K H φ st/\vp K φ H D r
structure IS (K:PySem.W.Frag) (X:Cx) (s:Stmt) (g:Sf):Prop where
 run:∀ env st r,g env st=some r->PS X s (tS K env st r)
structure ISs (K:PySem.W.Frag) (X:Cx) (s:List Stmt) (g:Sf):Prop where
 run:∀ env st r,g env st=some r->PSs X s (tS K env st r)
inductive Tg where
 | nm (i:Nat) | tp (is:List Nat)
noncomputable def wI:Tg->List Nat
 | .nm i=>[i]
 | .tp is=>is
noncomputable def lc:List Nat->List D->Ev->Ev
 | i::is,d::ds,env=>lc is ds (env.set i (some (.d d)))
 | _,_,env=>env
noncomputable def dr:Tg->W->Ev->Option Ev
 | .nm i,w,env=>some (env.set i (some w))
 | .tp is,.d (.tup ds),env=>if is.length=ds.length then some (lc is ds env) else none
 | .tp is,.d (.lst ds),env=>if is.length=ds.length then some (lc is ds env) else none
 | _,_,_=>none
noncomputable def uX (is:List Nat) (σ σ':St):Prop:=σ'.length=σ.length/\∀ j,j ∉ is->σ'[j]?=σ[j]?
noncomputable def tG (K:PySem.W.Frag) (g:Tg):TG:=λv σ H Q=>∃ φ st env w env',Er K H φ env σ/\Sr K H φ st/\Rw K H φ w v/\dr g w env=some env'/\∀ σ',Er K H φ env' σ'->uX (wI g) σ σ'->Q σ' H
noncomputable def tGs (K:PySem.W.Frag) (is:List Nat):TGs:=λvs σ H Q=>∃ φ st env ds,Er K H φ env σ/\Sr K H φ st/\Rls K H φ ds vs/\is.length=ds.length/\∀ σ',Er K H φ (lc is ds env) σ'->uX is σ σ'->Q σ' H
noncomputable def bx:Sf
 | env,st=>some (.nx env st)
noncomputable def aq (a b:Sf):Sf
 | env,st=>(a env st).bind λr=>match r with
 | .nx e s=>b e s
 | r=>some r
noncomputable def bh (g:Tg) (f:Ef):Sf
 | env,st=>(f env st).bind λr=>(dr g r.1 env).map λe=>.nx e r.2
noncomputable def nM (st:Sto) (o i v:W):Option Sto:=match o,i,v with
 | .h n,.d (.int k),.d x=>(lg st n).bind λds=>(ixN ds.length k).map λj=>st.set n (.l (ds.set j x))
 | _,_,_=>none
noncomputable def gt (o i v:Ef):Sf
 | env,st=>(v env st).bind λrv=>(o env rv.2).bind λro=>(i env ro.2).bind λri=>(nM ri.2 ro.1 ri.1 rv.1).map λs=>.nx env s
noncomputable def bv (f:Ef):Sf
 | env,st=>(f env st).map λr=>.rt r.1 r.2
noncomputable def cm (c:Tf) (a b:Sf):Sf
 | env,st=>(c env st).bind λr=>if r.1=true then a env r.2 else b env r.2
noncomputable def dz (g:Tg) (body:Sf):List D->Ev->Sto->Option Fl
 | [],env,st=>some (.nx env st)
 | d::ds,env,st=>(dr g (.d d) env).bind λe=>(body e st).bind λr=>match r with
  | .nx e s=>dz g body ds e s
  | .ct e s=>dz g body ds e s
  | .bk e s=>some (.nx e s)
  | .rt w s=>some (.rt w s)
noncomputable def i8 (fi:Lf) (g:Tg) (body:Sf):Sf
 | env,st=>(fi env st).bind λr=>dz g body r.1 env r.2
noncomputable def dl (c:Tf) (body:Sf):Nat->Ev->Sto->Option Fl
 | 0,_,_=>none
 | n+1,env,st=>(c env st).bind λk=>if k.1=true then (body env k.2).bind λr=>match r with
   | .nx e s=>dl c body n e s
   | .ct e s=>dl c body n e s
   | .bk e s=>some (.nx e s)
   | .rt w s=>some (.rt w s)
  else some (.nx env k.2)
noncomputable def lcI (g:Tg) (tt:Tf) (te:Ef) (env:Ev):List D->Sto->Option (List D×Sto)
 | [],st=>some ([],st)
 | d::ds,st=>(dr g (.d d) env).bind λe=>(tt e st).bind λb=>if b.1=true then (te e b.2).bind λx=>(kt [x.1]).bind λys=>(lcI g tt te env ds x.2).map λr=>(ys++r.1,r.2)
   else lcI g tt te env ds b.2
noncomputable def ku (k:Nat) (js:List Nat) (env:Ev):Ev:=List.replicate k none++js.map λj=>env.getD j none
noncomputable def iLc (k:Nat) (js:List Nat) (fi:Lf) (g:Tg) (tt:Tf) (te:Ef):Lf
 | env,st=>(fi env st).bind λr=>if r.1.length<=1000000 then lcI g tt te (ku k js env) r.1 r.2 else none
noncomputable def cC:Tf
 | _,st=>some (true,st)
noncomputable def bG (f:Ef):Lf
 | env,st=>(f env st).bind λr=>match r.1 with
 | .d (.tup ds)=>some (ds,r.2)
 | .d (.lst ds)=>some (ds,r.2)
 | _=>none
noncomputable def ft (lo:Int) (n:Nat):List D:=(List.range n).map λk:Nat=>D.int (lo+k)
noncomputable def cP (a:Af):Lf
 | env,st=>(a env st).bind λr=>match r.1 with
 | [.d (.int j)]=>if -(2 ^ 62)<=j/\j < 2 ^ 62 then some (ft 0 j.toNat,r.2) else none
 | _=>none
section
variable {K:PySem.W.Frag}{X:Cx}{pos:Pos}
theorem PS.imp {s:Stmt}{t t':TS} (h:PS X s t) (m:∀ D σ H,t' D σ H->t D σ H):PS X s t':=λpins s σ H D I q=>h pins s σ H D I (m D σ H q)
theorem PSs.imp {s:List Stmt}{t t':TS} (h:PSs X s t) (m:∀ D σ H,t' D σ H->t D σ H):PSs X s t':=λpins s σ H D I q=>h pins s σ H D I (m D σ H q)
theorem Er.set {H:Hp}{φ:List Addr}{env:Ev}{σ:St} (h:Er K H φ env σ) (i:Nat) {w:W}{v:V} (r:Rw K H φ w v):Er K H φ (env.set i (some w)) (σ.set i (some v)):=by
 refine⟨by rw [List.length_set,List.length_set,h.len],λj w' e=>?_⟩
 by_cases hj:i=j
 ·subst hj
  have hi:i < env.length:=by
   have:=(List.getElem?_eq_some_iff.mp e).1
   rwa [List.length_set] at this
  rw [List.getElem?_set_self hi] at e
  cases e
  exact⟨v,by rw [List.getElem?_set_self (by rw [<-h.len];exact hi)],r⟩
 ·rw [List.getElem?_set_ne hj] at e
  obtain⟨v',e1,r1⟩:=h.at_ j w' e
  exact⟨v',by rw [List.getElem?_set_ne hj];exact e1,r1⟩
theorem q9 (i:Nat) (σ:St) (v:Option V):uX [i] σ (σ.set i v):=⟨by rw [List.length_set],λj hj=>by rw [List.getElem?_set_ne (by rintro rfl;simp at hj)]⟩
theorem bQ {i:Nat}{x:Str} (h:PG X (.Name x pos) (pC i)):PG X (.Name x pos) (tG K (.nm i)):=by
 intro pins s σ H v u Q I rv q
 obtain⟨φ,st,env,w,env',hE,hS,r,e,q⟩:=q
 cases e
 exact h pins s σ H v u Q I rv (q _ (hE.set i r) (q9 i σ _))
theorem oT:PGs X [] (tGs K []):=by
 intro pins s σ H vs us Q I rv q
 obtain⟨φ,st,env,ds,hE,hS,r,e,q⟩:=q
 cases ds with
 | nil=>cases r;exact uT pins s σ H [] us Q I rv ⟨rfl,q σ hE ⟨rfl,λ_ _=>rfl⟩⟩
 | cons _ _=>cases e
theorem gC {i:Nat}{is:List Nat}{x:Str}{es:List Expr} (h1:PG X (.Name x pos) (pC i)) (h2:PGs X es (tGs K is)):PGs X (.Name x pos::es) (tGs K (i::is)):=by
 intro pins s σ H vs us Q I rv q
 obtain⟨φ,st,env,ds,hE,hS,r,e,q⟩:=q
 cases ds with
 | nil=>cases e
 | cons d ds=>
  obtain⟨v,vr,rfl,r1,r2⟩:=r
  refine rS h1 h2 (pP rfl) pins s σ H _ us Q I rv ⟨v,vr,rfl,φ,st,_,ds,hE.set i (w:=.d d) r1,hS,r2,by simpa using e,λσ' e' s'=>q σ' e' ?_⟩
  refine⟨by rw [s'.1,List.length_set],λj hj=>?_⟩
  rw [s'.2 j (λz=>hj (List.mem_cons_of_mem _ z)),List.getElem?_set_ne (by rintro rfl;exact hj List.mem_cons_self)]
noncomputable def zH (K:PySem.W.Frag) (n:Nat) (t:TGs):TG:=λv σ H Q=>∃ a xs,v=.ref a/\SqL K H a xs/\xs.length=n/\t xs σ H Q
theorem wv {es:List Expr}{k:Nat}{t:TGs}{n:Nat} (hc:X.calm=true) (h:PGs X es t) (hn:(assignEach es X.env).length=n) (hst:(assignEach es X.env).findIdx? (·.1)=none):PG X (.Tuple es k pos) (zH X.K n t):=by
 intro pins s σ H v u Q I r hw
 obtain⟨a,xs,e1,hq,hl,hw⟩:=hw
 subst e1
 cases r
 obtain⟨its,rv,p,hz⟩:=I.list hq
 rw [assign_Tuple]
 refine wpAny_bind (wpAny_standAt ?_)
 unfold unpack
 rw [show (assignEach es X.env).length=its.toArray.size by simp [hn,<-hl,rv.length],hst]
 refine wpAny_bind (wpAny_holding (PySem.W.kun_itemsOf (I.ok.hd hc) p.isList λh' hx=>?_))
 have I1:Inv X pins σ H { s with heap:=h' }:=I.kept (t':=s.toks) λb o e=>hx b o (Nat.ne_of_lt (Heap.lt_size e)) e
 exact h pins _ σ H xs _ Q I1 (by simpa using rv) hw
theorem rh {es:List Expr}{k n:Nat}{is:List Nat} (h:PGs X es (tGs K is)) (hes:es.all aE=true:=by rfl) (hn:es.length=n:=by rfl) (hi:is.length=n:=by rfl) (hc:X.calm=true:=by rfl) (hK:X.K=K:=by rfl):PG X (.Tuple es k pos) (tG K (.tp is)):=by
 subst hK
 intro pins s σ H v u Q I rv q
 obtain⟨φ,st,env,w,env',hE,hS,r,e,q⟩:=q
 cases w with
 | h n=>cases e
 | d x=>
  cases x with
  | tup ds=>
   have e':(if is.length=ds.length then some (lc is ds env) else none)=some env':=e
   by_cases hl:is.length=ds.length
   ·rw [if_pos hl] at e'
    cases e'
    obtain⟨a,vs,rfl,hq,hr⟩:=r
    exact wQ hc h ((lV hes).trans hn) (jD hes) pins s σ H _ u Q I rv ⟨a,vs,rfl,(SqT.of hq),by rw [<-hr.length,<-hl,hi],φ,st,env,ds,hE,hS,hr,hl,q⟩
   ·rw [if_neg hl] at e'
    cases e'
  | lst ds=>
   have e':(if is.length=ds.length then some (lc is ds env) else none)=some env':=e
   by_cases hl:is.length=ds.length
   ·rw [if_pos hl] at e'
    cases e'
    obtain⟨a,vs,rfl,_,hq,hr⟩:=r
    exact wv hc h ((lV hes).trans hn) (jD hes) pins s σ H _ u Q I rv ⟨a,vs,rfl,.inl hq,by rw [<-hr.length,<-hl,hi],φ,st,env,ds,hE,hS,hr,hl,q⟩
   ·rw [if_neg hl] at e'
    cases e'
  | _=>cases e
variable {s:Stmt}{ss rest:List Stmt}{e a b c:Expr}{ga gb:Sf}{f fa fb fc:Ef}
theorem bf:ISs K X [] bx:=by
 refine⟨λenv st r hr=>?_⟩
 cases hr
 exact uS.imp λD σ H ⟨φ,hE,hS,q⟩=>q σ H φ (Fw.refl φ H) hE hS
theorem am (h:IS K X s ga):ISs K X [s] ga:=⟨λenv st r hr=>vq (h.run env st r hr)⟩
theorem ak (h1:IS K X s ga) (h2:ISs K X rest gb):ISs K X (s::rest) (aq ga gb):=by
 refine⟨λenv st r hr=>?_⟩
 simp only [aq,Option.bind_eq_some_iff] at hr
 obtain⟨r1,e1,hr⟩:=hr
 cases r1 with
 | nx e s1=>
  refine (gz (h1.run _ _ _ e1) (h2.run _ _ _ hr)).imp ?_
  rintro D σ H ⟨φ,hE,hS,q⟩
  exact⟨φ,hE,hS,λσ' H' φ' f' e' s'=>⟨φ',e',s',q.fw f'⟩⟩
 | rt w s1=>
  cases hr
  exact (gz (h1.run _ _ _ e1) er).imp λD σ H ⟨φ,hE,hS,q⟩=>⟨φ,hE,hS,q⟩
 | bk w s1=>
  cases hr
  exact (gz (h1.run _ _ _ e1) er).imp λD σ H ⟨φ,hE,hS,q⟩=>⟨φ,hE,hS,q⟩
 | ct w s1=>
  cases hr
  exact (gz (h1.run _ _ _ e1) er).imp λD σ H ⟨φ,hE,hS,q⟩=>⟨φ,hE,hS,q⟩
theorem aD {i:Nat}{x:Str}{pos':Pos} (hN:X.N.Nodup) (hi:X.N[i]?=some x) (hx:Loc X.env.scope x) (he:IE K X e f) (hs:swapsWith e (some (.Name x pos')) pos.line X.env=pure false:=by rfl) (hf:X.fn x=true\/X.env.scope.names.lookup x=some .local:=by first | exact .inl rfl | exact .inr rfl | assumption) :
  IS K X (.Assign [.Name x pos'] e pos) (bh (.nm i) f):=by
 refine⟨λenv st r hr=>?_⟩
 simp only [bh,dr,Option.bind_eq_some_iff,Option.map_eq_some_iff] at hr
 obtain⟨y,hy,e',ee,rfl⟩:=hr
 cases ee
 refine (v4 hN hi hx (he.run _ _ _ hy) hs hf).imp ?_
 rintro D σ H ⟨φ,hE,hS,q⟩
 exact⟨φ,hE,hS,λv H1 φ1 f1 s1 w1=>q _ H1 φ1 f1 ((hE.fw hS f1).set i w1) s1⟩
theorem Sr.putC {H:Hp}{φ:List Addr}{st:Sto}{n:Nat}{a:Addr}{o:HO}{c:C} (S:Sr K H φ st) (hn:φ[n]?=some a) (w:Fw φ φ H (upd H a o)->Rc K (upd H a o) φ n a c) :
  Fw φ φ H (upd H a o)/\Sr K (upd H a o) φ (st.set n c):=by
 have ha:a ∈ φ:=List.mem_of_getElem? hn
 have f:Fw φ φ H (upd H a o):=⟨⟨[],by simp,by simp⟩,λb o hb h=>by rw [bb (λz=>hb (by rw [z];exact ha))];exact h,λb o h=>by
  by_cases z:b=a
  ·subst z;exact⟨_,aW⟩
  ·exact⟨o,by rw [bb z];exact h⟩⟩
 refine⟨f,S.nd,by rw [List.length_set];exact S.len,λm b es e1 e2=>?_⟩
 by_cases hm:n=m
 ·subst hm
  rw [e1] at hn;cases hn
  have hl:n < st.length:=by rw [<-S.len];exact (List.getElem?_eq_some_iff.mp e1).1
  rw [List.getElem?_set_self hl] at e2
  cases e2
  exact w f
 ·rw [List.getElem?_set_ne hm] at e2
  have q:=S.at_ m b es e1 e2
  have hne:b≠a:=by
   rintro rfl
   obtain⟨h1,h1'⟩:=List.getElem?_eq_some_iff.mp hn
   obtain⟨h2,h2'⟩:=List.getElem?_eq_some_iff.mp e1
   exact hm ((List.getElem_inj S.nd).mp (h1'.trans h2'.symm))
  exact q.fw S f λo h=>by rw [bb hne];exact h
theorem Sr.put {H:Hp}{φ:List Addr}{st:Sto}{n:Nat}{a:Addr}{vs:List V}{ds:List D} (S:Sr K H φ st) (hn:φ[n]?=some a) (w:Rls K H φ ds vs) :
  Fw φ φ H (upd H a (.lst vs))/\Sr K (upd H a (.lst vs)) φ (st.set n (.l ds)):=S.putC hn λf=>⟨vs,aW,w.fw S f⟩
theorem oS {st s':Sto}{o i v:W} (h:nM st o i v=some s'):∃ n k x ds j,o=.h n/\i=.d (.int k)/\v=.d x/\lg st n=some ds/\ixN ds.length k=some j/\s'=st.set n (.l (ds.set j x)):=by
 unfold nM at h
 split at h
 ·obtain⟨ds,e1,h⟩:=Option.bind_eq_some_iff.mp h
  obtain⟨j,e2,h⟩:=Option.map_eq_some_iff.mp h
  exact⟨_,_,_,ds,j,rfl,rfl,rfl,e1,e2,h.symm⟩
 ·cases h
theorem jP {tpos:Pos} (ho:IE K X a fa) (hi:IE K X b fb) (hv:IE K X e f) (hb:me b=true:=by rfl) (hs:swapsWithSole [.Subscript a b tpos] e pos.line X.env=pure false:=by rfl) (hw:swappedStores [.Subscript a b tpos] e X.env=pure none:=by rfl) :
  IS K X (.Assign [.Subscript a b tpos] e pos) (gt fa fb f):=by
 refine⟨λenv st r hr=>?_⟩
 simp only [gt,Option.bind_eq_some_iff,Option.map_eq_some_iff] at hr
 obtain⟨rv,ev,ro,eo,ri,ei,s',es,rfl⟩:=hr
 refine (xf (hv.run _ _ _ ev) (xi (ho.run _ _ _ eo) (hi.run _ _ _ ei) sQ (va hb)) hs hw (um rfl)).imp ?_
 rintro D σ H ⟨φ,hE,hS,q⟩
 refine⟨φ,hE,hS,λv H1 φ1 f1 s1 w1=>⟨φ1,hE.fw hS f1,s1,λo H2 φ2 f2 s2 w2=>⟨φ2,(hE.fw hS f1).fw s1 f2,s2,λi H3 φ3 f3 s3 w3=>?_⟩⟩⟩
 have e3:=((hE.fw hS f1).fw s1 f2).fw s2 f3
 have w1':=(w1.fw s1 f2).fw s2 f3
 have w2':=w2.fw s2 f3
 obtain⟨ro1,ro2⟩:=ro
 obtain⟨rv1,rv2⟩:=rv
 obtain⟨ri1,ri2⟩:=ri
 obtain⟨n,k,x,ds,j,rfl,rfl,rfl,eds,ej,rfl⟩:=oS es
 obtain⟨p,ep,rfl⟩:=w2'
 obtain⟨vs,hp,rl⟩:=s3.atl n p ds ep eds
 have w3':i=.int k:=w3
 subst w3'
 obtain⟨f4,s4⟩:=s3.put ep (Rls.set j rl w1')
 refine⟨p,vs,k,j,rfl,rfl,hp,by rw [<-rl.length];exact ej,?_⟩
 exact q _ _ φ3 (((f1.trans f2).trans f3).trans f4) (e3.fw s3 f4) s4
theorem aN (h:IE K X e f):IS K X (.Return (some e) pos) (bv f):=by
 refine⟨λenv st r hr=>?_⟩
 simp only [bv,Option.map_eq_some_iff] at hr
 obtain⟨y,hy,rfl⟩:=hr
 exact (xq (h.run _ _ _ hy)).imp λD σ H ⟨φ,hE,hS,q⟩=>⟨φ,hE,hS,q⟩
theorem cE {tc:Tf}{sa sb:List Stmt} (hc:IT K X c tc) (ha:ISs K X sa ga) (hb:ISs K X sb gb):IS K X (.If c sa sb pos) (cm tc ga gb):=by
 refine⟨λenv st r hr=>?_⟩
 simp only [cm,Option.bind_eq_some_iff] at hr
 obtain⟨⟨k,s1⟩,hx,hr⟩:=hr
 cases k with
 | true=>
  rw [if_pos rfl] at hr
  refine (vA (hc.run _ _ _ hx) (ha.run _ _ _ hr) er).imp ?_
  rintro D σ H ⟨φ,hE,hS,q⟩
  refine⟨φ,hE,hS,λH1 φ1 f1 s1=>pW ?_⟩
  exact⟨φ1,hE.fw hS f1,s1,q.fw f1⟩
 | false=>
  rw [if_neg Bool.false_ne_true] at hr
  refine (vA (hc.run _ _ _ hx) er (hb.run _ _ _ hr)).imp ?_
  rintro D σ H ⟨φ,hE,hS,q⟩
  refine⟨φ,hE,hS,λH1 φ1 f1 s1=>pY ?_⟩
  exact⟨φ1,hE.fw hS f1,s1,q.fw f1⟩
noncomputable def zb (K:PySem.W.Frag) (g:Sf):TS:=λD σ H=>∃ env st r,g env st=some r/\tS K env st r D σ H
noncomputable def vP (K:PySem.W.Frag) (f:Ef):TE:=λσ H Q=>∃ env st r,f env st=some r/\tI K env st r σ H Q
noncomputable def so (K:PySem.W.Frag) (f:Tf):TT:=λσ H Q=>∃ env st r,f env st=some r/\tIT K env st r σ H Q
theorem ISs.any (h:ISs K X ss ga):PSs X ss (zb K ga):=λpins s σ H D I ⟨env,st,r,e,q⟩=>h.run env st r e pins s σ H D I q
theorem IE.any (h:IE K X e f):PE X e (vP K f):=λpins s σ H D I ⟨env,st,r,e,q⟩=>h.run env st r e pins s σ H D I q
theorem IT.any {tf:Tf} (h:IT K X e tf):PT X e (so K tf):=λpins s σ H D I ⟨env,st,r,e,q⟩=>h.run env st r e pins s σ H D I q
noncomputable def Yl (K:PySem.W.Frag) (φ0:List Addr) (H0:Hp) (J:It) (ds:List D):Prop:=∀ (H:Hp) (φ:List Addr) (st:Sto) (i:Nat),Fw φ0 φ H0 H->Sr K H φ st->
 (∀ d,ds[i]?=some d->J.go i H/\∀ x H',J.yld i H x H'->aY H H'/\Rl K H' φ d x)/\(ds.length=i->J.stop i H)
noncomputable def tII (K:PySem.W.Frag) (env:Ev) (st:Sto) (r:List D×Sto):TI:=λσ H R=>∃ φ,Er K H φ env σ/\Sr K H φ st/\∀ J H' φ',Fw φ φ' H H'->Sr K H' φ' r.2->Yl K φ' H' J r.1->R J H'
structure II (K:PySem.W.Frag) (X:Cx) (tg iter:Expr) (f:Lf):Prop where
 run:∀ env st r,f env st=some r->PI X tg iter (tII K env st r)
theorem PI.imp {tg iter:Expr}{t t':TI} (h:PI X tg iter t) (m:∀ σ H R,t' σ H R->t σ H R):PI X tg iter t':=λpins s σ H R I q=>h pins s σ H R I (m σ H R q)
variable {tg:Expr}
end
end L2
namespace L2
open PySem PySem.Spec PyProof.Rows
section
variable {K:PySem.W.Frag}{X:Cx}{pos:Pos}{tg e a b:Expr}{f:Ef}{af:Af}
theorem eR (h:IE K X e f) (hK:X.K=K:=by rfl):II K X tg e (bG f):=by
 subst hK
 refine⟨λenv st r hr=>?_⟩
 simp only [bG,Option.bind_eq_some_iff] at hr
 obtain⟨⟨w,s1⟩,hy,hr⟩:=hr
 match w,hr with
 | .d (.tup ds),hr=>
  cases hr
  refine (wG (h.run _ _ _ hy)).imp ?_
  rintro σ H R ⟨φ,hE,hS,q⟩
  refine⟨φ,hE,hS,λv H1 φ1 f1 s1 w1=>?_⟩
  obtain⟨a,vs,rfl,hq,hr⟩:=w1
  refine⟨a,rfl,⟨vs,(SqT.of hq)⟩,q _ H1 φ1 f1 s1 λH2 φ2 st2 i f2 s2=>?_⟩
  have hq2:=(SqT.of hq).fw s1 f2
  have hr2:=hr.fw s1 f2
  refine⟨λd hd=>?_,λhi=>⟨vs,hq2,by rw [<-hr2.length];exact Nat.le_of_eq hi⟩⟩
  obtain⟨v,ev,rv⟩:=hr2.get hd
  refine⟨⟨vs,v,hq2,ev⟩,λx H' y=>?_⟩
  obtain⟨rfl,y⟩:=y
  have:=y vs hq2
  rw [ev] at this
  cases this
  exact⟨aY.refl _,rv⟩
 | .d (.lst ds),hr=>
  cases hr
  refine (uQ (h.run _ _ _ hy)).imp ?_
  rintro σ H R ⟨φ,hE,hS,q⟩
  refine⟨φ,hE,hS,λv H1 φ1 f1 s1 w1=>?_⟩
  obtain⟨a,vs,rfl,h0,hq,hr⟩:=w1
  refine⟨a,rfl,⟨vs,.inl hq⟩,q _ H1 φ1 f1 s1 λH2 φ2 st2 i f2 s2=>?_⟩
  have hq2:SqL X.K H2 a vs:=.inl (hq.fw f2 h0)
  have hr2:=hr.fw s1 f2
  refine⟨λd hd=>?_,λhi=>⟨vs,hq2,by rw [<-hr2.length];exact Nat.le_of_eq hi⟩⟩
  obtain⟨v,ev,rv⟩:=hr2.get hd
  refine⟨⟨vs,v,hq2,ev⟩,λx H' y=>?_⟩
  obtain⟨rfl,y⟩:=y
  have:=y vs hq2
  rw [ev] at this
  cases this
  exact⟨aY.refl _,rv⟩
theorem mV (lo:Int) (n i:Nat):(ft lo n)[i]?=if i < n then some (.int (lo+i)) else none:=by
 unfold ft
 rw [List.getElem?_map]
 by_cases h:i < n
 ·rw [List.getElem?_range h,if_pos h];rfl
 ·rw [List.getElem?_eq_none (by simpa using h),if_neg h];rfl
theorem ng (lo:Int) (n:Nat):(ft lo n).length=n:=by unfold ft;rw [List.length_map,List.length_range]
theorem xt (lo:Int) (n:Nat) {φ:List Addr}{H:Hp}:Yl K φ H (Itr lo n) (ft lo n):=by
 intro H2 φ2 st2 i f2 s2
 refine⟨λd hd=>?_,λhi=>by rw [ng] at hi;exact Nat.le_of_eq hi⟩
 rw [mV] at hd
 by_cases h:i < n
 ·rw [if_pos h] at hd
  cases hd
  refine⟨h,λx H' y=>?_⟩
  obtain⟨rfl,rfl⟩:=y
  exact⟨aY.refl _,rfl⟩
 ·rw [if_neg h] at hd;cases hd
theorem gL {p:Pos} (hg:Gl X "range") (hm:X.mg "range" = none) (ha:IA K X [a] af) (hs:aE a=true:=by rfl):II K X tg (.Call (.Name "range" p) [a] [] pos) (cP af):=by
 refine⟨λenv st r hr=>?_⟩
 simp only [cP,Option.bind_eq_some_iff] at hr
 obtain⟨⟨ws,s1⟩,hy,hr⟩:=hr
 match ws,hr with
 | [.d (.int j)],hr=>
  have hr':(if -(2 ^ 62)<=j/\j < 2 ^ 62 then some (ft 0 j.toNat,s1) else none)=some r:=hr
  by_cases hj:-(2 ^ 62)<=j/\j < 2 ^ 62
  ·rw [if_pos hj] at hr'
   cases hr'
   refine (qA hg hm (ha.run _ _ _ hy) (sn hs)).imp ?_
   rintro σ H R ⟨φ,hE,hS,q⟩
   refine⟨φ,hE,hS,λvs H1 φ1 f1 s1 w1=>?_⟩
   obtain⟨v,r,rfl,r1,rfl⟩:=w1
   exact⟨j,by rw [show v=.int j from r1],hj.1,hj.2,q _ H1 φ1 f1 s1 (xt 0 _)⟩
  ·rw [if_neg hj] at hr';cases hr'
theorem gq {iter:Expr}{body:List Stmt}{fi:Lf}{g:Tg}{gb:Sf} (hi:II K X tg iter fi) (hg:PG X tg (tG K g)) (hb:ISs K X body gb) (hp:PassesOwn (model X.prog X.w) X.A X.env X.xe) (hc:X.calm=true:=by rfl)
  (hs:∀ x,foldedSetIterable iter X.env x=pure x:=by intro _;rfl):IS K X (.For tg iter body [] pos) (i8 fi g gb):=by
 refine⟨λenv st r hr=>?_⟩
 simp only [i8,Option.bind_eq_some_iff] at hr
 obtain⟨⟨ds,s1⟩,hy,hr⟩:=hr
 refine (xJ hp hc (hi.run _ _ _ hy) hg hb.any hs).imp ?_
 rintro D σ H ⟨φ,hE,hS,q⟩
 refine⟨φ,hE,hS,λJ H1 φ1 f1 S1 yl=>?_⟩
 refine⟨λi m σ H=>m=ds.length - i/\i<=ds.length/\∃ env st φ2,Fw φ1 φ2 H1 H/\Er K H φ2 env σ/\Sr K H φ2 st/\dz g gb (ds.drop i) env st=some r,⟨ds.length,by simp,Nat.zero_le _,env,s1,φ1,Fw.refl _ _,hE.fw hS f1,S1,hr⟩,?_⟩
 rintro i m σ H2 ⟨rfl,hi,env2,st2,φ2,f2,e2,S2,h2⟩
 obtain⟨y1,y2⟩:=yl H2 φ2 st2 i f2 S2
 by_cases hlt:i < ds.length
 ·obtain⟨go,yld⟩:=y1 ds[i] (List.getElem?_eq_getElem hlt)
  rw [List.drop_eq_getElem_cons hlt] at h2
  simp only [dz,Option.bind_eq_some_iff] at h2
  obtain⟨e3,he3,r3,hr3,h3⟩:=h2
  refine .inr ⟨go,λσ' H'=>i+1<=ds.length/\∃ env st φ2,Fw φ1 φ2 H1 H'/\Er K H' φ2 env σ'/\Sr K H' φ2 st/\dz g gb (ds.drop (i+1)) env st=some r,λσ' H' ⟨hn,p'⟩=>⟨ds.length - (i+1),by lia,rfl,hn,p'⟩,λx H' y=>?_⟩
  obtain⟨sm,rx⟩:=yld x H' y
  have S3:=S2.same sm
  have f3:=f2.trans (Fw.same (φ:=φ2) sm)
  refine⟨φ2,st2,env2,.d ds[i],e3,e2.fw S2 (Fw.same sm),S3,rx,he3,λσ' e' _=>?_⟩
  refine⟨e3,st2,r3,hr3,φ2,e',S3,?_⟩
  cases r3 with
  | nx e4 s4=>exact λσ4 H4 φ4 f4 e4' s4'=>⟨hlt,e4,s4,φ4,f3.trans f4,e4',s4',h3⟩
  | ct e4 s4=>exact λσ4 H4 φ4 f4 e4' s4'=>⟨hlt,e4,s4,φ4,f3.trans f4,e4',s4',h3⟩
  | bk e4 s4=>
   cases h3
   exact λσ4 H4 φ4 f4 e4' s4'=>q σ4 H4 φ4 (f1.trans (f3.trans f4)) e4' s4'
  | rt w s4=>
   cases h3
   exact λv H4 φ4 f4 s4' w4=>q v H4 φ4 (f1.trans (f3.trans f4)) s4' w4
 ·have hi':i=ds.length:=by lia
  subst hi'
  rw [List.drop_length] at h2
  cases h2
  exact .inl ⟨y2 rfl,q σ H2 φ2 (f1.trans f2) e2 S2⟩
noncomputable def sE (n:Nat) (c:Tf) (b:Sf):Sf
 | env,st=>dl c b n env st
theorem qX {c:Expr}{body:List Stmt}{tc:Tf}{gb:Sf} (n:Nat) (hc:IT K X c tc) (hb:ISs K X body gb) (hp:PassesOwn (model X.prog X.w) X.A X.env X.xe):IS K X (.While c body [] pos) (sE n tc gb):=by
 refine⟨λenv st r hr=>?_⟩
 refine (sf hp hc.any hb.any).imp ?_
 rintro D σ H ⟨φ,hE,hS,q⟩
 refine⟨λm σ H'=>∃ env st φ2,Fw φ φ2 H H'/\Er K H' φ2 env σ/\Sr K H' φ2 st/\dl tc gb m env st=some r,⟨n,env,st,φ,Fw.refl _ _,hE,hS,hr⟩,?_⟩
 rintro m σ H2 ⟨env2,st2,φ2,f2,e2,S2,h2⟩
 cases m with
 | zero=>cases h2
 | succ m=>
  simp only [dl,Option.bind_eq_some_iff] at h2
  obtain⟨⟨k,s3⟩,hk,h2⟩:=h2
  refine⟨env2,st2,_,hk,φ2,e2,S2,λH3 φ3 f3 S3=>?_⟩
  cases k with
  | false=>
   rw [if_neg Bool.false_ne_true] at h2
   cases h2
   exact pY (q σ H3 φ3 (f2.trans f3) (e2.fw S2 f3) S3)
  | true=>
   simp only [if_true,Option.bind_eq_some_iff] at h2
   obtain⟨r3,hr3,h3⟩:=h2
   refine pW ⟨λσ' H'=>∃ env st φ2,Fw φ φ2 H H'/\Er K H' φ2 env σ'/\Sr K H' φ2 st/\dl tc gb m env st=some r,λσ' H' p'=>⟨m,Nat.lt_succ_self _,p'⟩,?_⟩
   refine⟨env2,s3,r3,hr3,φ3,e2.fw S2 f3,S3,?_⟩
   have f3':=f2.trans f3
   cases r3 with
   | nx e4 s4=>exact λσ4 H4 φ4 f4 e4' s4'=>⟨e4,s4,φ4,f3'.trans f4,e4',s4',h3⟩
   | ct e4 s4=>exact λσ4 H4 φ4 f4 e4' s4'=>⟨e4,s4,φ4,f3'.trans f4,e4',s4',h3⟩
   | bk e4 s4=>
    cases h3
    exact λσ4 H4 φ4 f4 e4' s4'=>q σ4 H4 φ4 (f3'.trans f4) e4' s4'
   | rt w s4=>
    cases h3
    exact λv H4 φ4 f4 s4' w4=>q v H4 φ4 (f3'.trans f4) s4' w4
structure ITs (K:PySem.W.Frag) (X:Cx) (ifs:List Expr) (t:Tf):Prop where
 run:PTs X ifs (so K t)
theorem dZ:ITs K X [] cC:=by
 refine⟨λpins s σ H Q I ⟨env,st,r,e,φ,hE,hS,q⟩=>?_⟩
 cases e
 exact uH pins s σ H Q I (q H φ (Fw.refl φ H) hS)
theorem vc {c:Expr}{t:Tf} (h:IT K X c t):ITs K X [c] t:=⟨vi h.any⟩
theorem Er.emb {H:Hp}{φ:List Addr}{env:Ev}{σ:St} (h:Er K H φ env σ) (k:Nat) (js:List Nat):Er K H φ (ku k js env) (fM k js σ):=by
 refine⟨by unfold ku fM;simp,λi w e=>?_⟩
 unfold ku at e
 unfold fM
 by_cases hi:i < k
 ·rw [List.getElem?_append_left (by simpa using hi),List.getElem?_replicate,if_pos hi] at e
  cases e
 ·rw [List.getElem?_append_right (by simpa using hi),List.length_replicate,List.getElem?_map,Option.map_eq_some_iff] at e
  obtain⟨j,ej,e⟩:=e
  have ej2:env[j]?=some (some w):=by
   rw [List.getD] at e
   cases q:env[j]? with
   | none=>rw [q] at e;cases e
   | some o=>rw [q] at e;rw [show o=some w from e]
  obtain⟨v,ev,rv⟩:=h.at_ j w ej2
  refine⟨v,?_,rv⟩
  rw [List.getElem?_append_right (by simpa using hi),List.length_replicate,List.getElem?_map,ej]
  show some ((σ[j]?).getD none)=_
  rw [ev];rfl
theorem Sub.stay {k:Nat}{js is:List Nat}{σ σ':St} (h:uX is (fM k js σ) σ') (hi:∀ j ∈ is,j < k):Sub (fM k js σ) σ':=by
 refine⟨h.1.symm,λj v e=>?_⟩
 by_cases hj:j ∈ is
 ·have:=hi j hj
  unfold fM at e
  rw [List.getElem?_append_left (by simpa using this),List.getElem?_replicate,if_pos this] at e
  cases e
 ·rw [h.2 j hj];exact e
theorem xr {k:Nat}{js:List Nat}{g:Tg}{tt:Tf}{te:Ef}{env:Ev}{st s1:Sto}{ds:List D}{r:List D×Sto} (hgi:∀ j ∈ wI g,j < k) (hdl:ds.length<=1000000) (hr':lcI g tt te (ku k js env) ds s1=some r) :
  ∀ σ H Q,tIL K env st r σ H Q->tLc (fM k js) (tII K env st (ds,s1)) (tG K g) (so K tt) (vP K te) σ H Q:=by
 rintro σ H Q ⟨φ,hE,hS,q⟩
 refine⟨φ,hE,hS,λJ H1 φ1 f1 S1 yl=>?_⟩
 have hE1:=(hE.fw hS f1).emb k js
 refine⟨λi m ys H2=>m=ds.length - i/\i<=ds.length/\∃ st φ2 es r2,Fw φ1 φ2 H1 H2/\Sr K H2 φ2 st/\Rls K H2 φ2 es ys/\es.length<=i/\lcI g tt te (ku k js env) (ds.drop i) st=some r2/\r=(es++r2.1,r2.2),⟨ds.length,by simp,Nat.zero_le _,s1,φ1,[],r,Fw.refl _ _,S1,rfl,Nat.le_refl _,hr',rfl⟩,?_⟩
 rintro i m ys H2 ⟨rfl,hi,st2,φ2,es,r2,f2,S2,rl2,hle,h2,rfl⟩
 obtain⟨y1,y2⟩:=yl H2 φ2 st2 i f2 S2
 by_cases hlt:i < ds.length
 ·obtain⟨go,yld⟩:=y1 ds[i] (List.getElem?_eq_getElem hlt)
  rw [List.drop_eq_getElem_cons hlt] at h2
  simp only [lcI,Option.bind_eq_some_iff] at h2
  obtain⟨e3,he3,⟨kb,s3⟩,hb3,h3⟩:=h2
  have hz:ys.length < sizeLine:=by
   rw [<-rl2.length]
   have:sizeLine=16777216:=sizeLine_eq
   lia
  refine .inr ⟨go,hz,λys' H'=>i+1<=ds.length/\∃ st φ2 es' r2',Fw φ1 φ2 H1 H'/\Sr K H' φ2 st/\Rls K H' φ2 es' ys'/\es'.length<=i+1/\lcI g tt te (ku k js env) (ds.drop (i+1)) st=some r2'/\(es++r2.1,r2.2)=(es'++r2'.1,r2'.2),λys' H' ⟨hn,p'⟩=>⟨ds.length - (i+1),by lia,rfl,hn,p'⟩,λx H' y=>?_⟩
  obtain⟨sm,rx⟩:=yld x H' y
  have S3:=S2.same sm
  have f3:=f2.trans (Fw.same (φ:=φ2) sm)
  refine⟨φ2,st2,ku k js env,.d ds[i],e3,hE1.fw S1 f3,S3,rx,he3,λσ' e' stay=>⟨Sub.stay stay hgi,?_⟩⟩
  refine⟨e3,st2,_,hb3,φ2,e',S3,λH4 φ4 f4 S4=>?_⟩
  cases kb with
  | false=>
   rw [if_neg Bool.false_ne_true] at h3
   exact pY ⟨hlt,s3,φ4,es,r2,f3.trans f4,S4,(rl2.fw S2 (Fw.same sm)).fw S3 f4,by lia,h3,rfl⟩
  | true=>
   simp only [if_true,Option.bind_eq_some_iff,Option.map_eq_some_iff] at h3
   obtain⟨x5,hx5,zs,hzs,r5,hr5,rfl⟩:=h3
   refine pW ⟨e3,s3,x5,hx5,φ4,e'.fw S3 f4,S4,λv H5 φ5 f5 S5 w5=>?_⟩
   obtain⟨x5,s5⟩:=x5
   cases x5 with
   | h n=>cases hzs
   | d z=>
    cases hzs
    refine⟨hlt,s5,φ5,es++[z],r5,(f3.trans f4).trans f5,S5,(((rl2.fw S2 (Fw.same sm)).fw S3 f4).fw S4 f5).append ⟨v,[],rfl,w5,rfl⟩,by rw [List.length_append];simp;lia,hr5,?_⟩
    simp
 ·have hi':i=ds.length:=by lia
  subst hi'
  rw [List.drop_length] at h2
  cases h2
  refine .inl ⟨y2 rfl,λDn hD=>?_⟩
  have:=q Dn ys H2 φ2 (f1.trans f2) S2 hD
  exact this (by simpa using rl2)
theorem gG {scope:Scope}{Nc:List Str}{k:Nat}{js:List Nat}{elt iter:Expr}{ifs:List Expr}{fi:Lf}{g:Tg}{tt:Tf}{te:Ef}
  (S:fV X scope Nc (fM k js)) (hc:X.calm=true) (hgi:∀ j ∈ wI g,j < k) (hi:II K X tg iter fi)
  (hg:∀ cells s H C fp,PG (lcX X scope cells Nc s H C fp) tg (tG K g)) (ht:∀ cells s H C fp,ITs K (lcX X scope cells Nc s H C fp) ifs tt) (he:∀ cells s H C fp,IE K (lcX X scope cells Nc s H C fp) elt te)
  (hs:∀ x,foldedSetIterable iter X.env x=pure x:=by intro _;rfl):IL K X (.ListComp elt [⟨tg,iter,ifs,0⟩] scope pos) (iLc k js fi g tt te):=by
 refine⟨λenv st r hr=>?_⟩
 simp only [iLc,Option.bind_eq_some_iff] at hr
 obtain⟨⟨ds,s1⟩,hy,hr⟩:=hr
 have hr':(if ds.length<=1000000 then lcI g tt te (ku k js env) ds s1 else none)=some r:=hr
 by_cases hdn:¬ ds.length<=1000000
 ·rw [if_neg hdn] at hr';cases hr'
 have hdl:ds.length<=1000000:=by lia
 rw [if_pos hdl] at hr'
 refine (zc S hc (hi.run _ _ _ hy) hg (λcells s H C fp=>(ht cells s H C fp).run) (λcells s H C fp=>(he cells s H C fp).any) hs).imp (xr hgi hdl hr')
end
end L2
namespace L2
open PySem PySem.Spec PyProof.Rows
noncomputable def cL (n k:Nat) (b:Sf):Fn
 | ws,st=>if ws.length=k then (b (ws.map some++List.replicate (n - k) none) st).bind λr=>match r with
 | .nx _ s=>some (.d .non,s)
 | .rt w s=>some (w,s)
 | _=>none
 else none
noncomputable def uM (n:Nat) (w:W) (s:Sto):Option (W×Sto):=match w with
 | .d x=>some (.d x,s.take n)
 | .h m=>if m < n then some (.h m,s.take n) else (lg s m).map λds=>(.d (.lst ds),s.take n)
noncomputable def oo (n k:Nat) (b:Sf):Fn
 | ws,st=>if ws.length=k then (b (ws.map some++List.replicate (n - k) none) st).bind λr=>match r with
 | .nx _ s=>some (.d .non,s.take st.length)
 | .rt w s=>uM st.length w s
 | _=>none
 else none
section
variable {P:Program}{w:World}{K:PySem.W.Frag}{mg:Str->Option Value}{base:Heap}
theorem nP {H:Hp}{φ:List Addr}{N:List Str}{k:Nat}:∀ {ws:List W}{vs:List V},Rws K H φ ws vs->ws.length=k->Er K H φ (ws.map some++List.replicate (N.length - k) none) (start N vs):=by
 intro ws vs r hk
 have hl:=r.length
 refine⟨by unfold start;simp;lia,λi x e=>?_⟩
 unfold start
 by_cases hi:i < ws.length
 ·rw [List.getElem?_append_left (by simpa using hi),List.getElem?_map,Option.map_eq_some_iff] at e
  obtain⟨y,ey,e⟩:=e
  have:∃ v,vs[i]?=some v/\Rw K H φ y v:=by
   clear hk hl hi e
   induction ws generalizing vs i with
   | nil=>simp at ey
   | cons w ws ih=>
    obtain⟨v,r',rfl,r1,r2⟩:=r
    cases i with
    | zero=>simp at ey;subst ey;exact⟨v,rfl,r1⟩
    | succ i=>simpa using ih r2 i (by simpa using ey)
  obtain⟨v,ev,rv⟩:=this
  cases e
  refine⟨v,?_,rv⟩
  rw [List.getElem?_append_left (by rw [List.length_map,<-hl];exact hi),List.getElem?_map,ev];rfl
 ·rw [List.getElem?_append_right (by simpa using hi)] at e
  have:=List.mem_of_getElem? e
  have:=(List.mem_replicate.mp this).2
  cases this
theorem fE {x qual:Str}{st:Stmt}{f:Addr}{fd:FuncData}{N ps:List Str}{k:Nat}{b:Sf} (F:Fun K x qual st f fd) (S:aQ N ps (aj st))
  (hb:∀ (cdv:Value) (A:Around) (outer:List Env) (s:Shared) (H:Hp) (E:XK),cg k (A.deeper (envOfC qual (aj st) s.heap.objs.size f cdv))->ISs K (lA CX0 P w K mg base N qual (aj st) f cdv A outer s H E).nox (aF st) b) :
  ck P w K mg base CX0 (k+1) f fd ps (spI K (cL N.length ps.length b)):=by
 refine F.ok S (λvs H Q E h=>?_) λcdv A outer s H vs Q E hr h=>?_
 ·obtain⟨φ,st,ws,r,e,rw,_⟩:=h
  rw [cL] at e
  by_cases hl:ws.length=ps.length
  ·rw [<-rw.length,hl]
  ·rw [if_neg hl] at e;cases e
 ·obtain⟨φ,st',ws,r,e,rw,S',q⟩:=h
  rw [cL] at e
  by_cases hl:ws.length=ps.length
  ·rw [if_pos hl] at e
   obtain⟨fl,e1,e2⟩:=Option.bind_eq_some_iff.mp e
   refine⟨_,(hb cdv A outer s H E hr).run _ _ _ e1,φ,nP rw hl,S',?_⟩
   cases fl with
   | nx e s=>cases e2;exact λσ' H' φ' f' e' s'=>q .non H' φ' f' s' rfl
   | rt w s=>cases e2;exact λv H' φ' f' s' w'=>q v H' φ' f' s' w'
   | bk e s=>cases e2
   | ct e s=>cases e2
  ·rw [if_neg hl] at e;cases e
theorem Fw.less {φ φ':List Addr}{H H':Hp} (f:Fw φ φ' H H'):Fw φ φ H H':=⟨⟨[],by simp,by simp⟩,f.keep,f.there⟩
theorem yR {x qual:Str}{st:Stmt}{f:Addr}{fd:FuncData}{N ps:List Str}{k:Nat}{b:Sf} (F:Fun K x qual st f fd) (S:aQ N ps (aj st))
  (hb:∀ (cdv:Value) (A:Around) (outer:List Env) (s:Shared) (H:Hp) (E:XK),cg k (A.deeper (envOfC qual (aj st) s.heap.objs.size f cdv))->ISs K (lA CX0 P w K mg base N qual (aj st) f cdv A outer s H E).nox (aF st) b) :
  ck P w K mg base CX0 (k+1) f fd ps (spI K (oo N.length ps.length b)):=by
 refine F.ok S (λvs H Q E h=>?_) λcdv A outer s H vs Q E hr h=>?_
 ·obtain⟨φ,st,ws,r,e,rw,_⟩:=h
  rw [oo] at e
  by_cases hl:ws.length=ps.length
  ·rw [<-rw.length,hl]
  ·rw [if_neg hl] at e;cases e
 ·obtain⟨φ,st',ws,r,e,rw,S',q⟩:=h
  rw [oo] at e
  by_cases hl:ws.length=ps.length
  ·rw [if_pos hl] at e
   obtain⟨fl,e1,e2⟩:=Option.bind_eq_some_iff.mp e
   refine⟨_,(hb cdv A outer s H E hr).run _ _ _ e1,φ,nP rw hl,S',?_⟩
   have less:∀ {H':Hp}{φ':List Addr}{s':Sto},Fw φ φ' H H'->Sr K H' φ' s'->Sr K H' φ (s'.take st'.length):=λ{H' φ' s'} f' S2=>by
    obtain⟨ψ,rfl,_⟩:=f'.ext
    rw [<-S'.len]
    exact S2.less
   cases fl with
   | nx e s=>cases e2;exact λσ' H' φ' f' e' s'=>q .non H' φ f'.less (less f' s') rfl
   | rt w s=>
    intro v H' φ' f' s' w'
    have e3:uM st'.length w s=some r:=e2
    obtain⟨ψ,eψ,_⟩:=f'.ext
    cases w with
    | d x=>
     cases e3
     subst eψ
     exact q v H' φ f'.less (less f' s') (Rl.less w')
    | h m=>
     obtain⟨a,ea,rfl⟩:=w'
     unfold uM at e3
     by_cases hm:m < st'.length
     ·have e4:some (W.h m,s.take st'.length)=some r:=by
       have:=e3
       simp only [hm,if_true] at this
       exact this
      cases e4
      subst eψ
      rw [List.getElem?_append_left (by rw [S'.len];exact hm)] at ea
      exact q _ H' φ f'.less (less f' s') ⟨a,ea,rfl⟩
     ·simp only [hm,if_false] at e3
      obtain⟨ds,eds,rfl⟩:=Option.map_eq_some_iff.mp e3
      obtain⟨vs,hv,rl⟩:=s'.atl m a ds ea eds
      have hn:a ∉ φ:=λz=>by
       obtain⟨i,hi,ei⟩:=List.mem_iff_getElem.mp z
       have h1:φ'[i]?=some a:=by subst eψ;rw [List.getElem?_append_left hi,List.getElem?_eq_getElem hi,ei]
       obtain⟨h2,h2'⟩:=List.getElem?_eq_some_iff.mp h1
       obtain⟨h3,h3'⟩:=List.getElem?_eq_some_iff.mp ea
       have:=(List.getElem_inj s'.nd).mp (h2'.trans h3'.symm)
       rw [S'.len] at hi
       lia
      subst eψ
      exact q _ H' φ f'.less (less f' s') ⟨a,vs,rfl,hn,.inl hv,rl.less⟩
   | bk e s=>cases e2
   | ct e s=>cases e2
  ·rw [if_neg hl] at e;cases e
end
noncomputable def cx:D->Bool
 | .non=>true
 | .bl _=>true
 | .int _=>true
 | .str _=>true
 | _=>false
noncomputable def vOf:D->V
 | .bl b=>.bl b
 | .int i=>.int i
 | .str x=>.str x
 | _=>.non
mutual
noncomputable def eqD:D->D->Bool
 | .non,.non=>true
 | .bl a,.bl b=>a==b
 | .bl a,.int b=>(if a then 1 else 0)==b
 | .int a,.bl b=>a==(if b then 1 else 0)
 | .int a,.int b=>a==b
 | .str a,.str b=>a==b
 | .tup as,.tup bs=>fD as bs
 | .lst as,.lst bs=>fD as bs
 | _,_=>false
noncomputable def fD:List D->List D->Bool
 | [],[]=>true
 | a::as,b::bs=>eqD a b && fD as bs
 | _,_=>false
end
noncomputable def okD:Nat->D->Bool
 | _,.non=>true
 | _,.bl _=>true
 | _,.int _=>true
 | _,.str _=>true
 | n+1,.tup ds=>ds.all (okD n)
 | n+1,.lst ds=>ds.all (okD n)
 | _,_=>false
noncomputable def lsD (st:Sto):W->Option (List D)
 | .d (.lst ds)=>some ds
 | .h n=>lg st n
 | _=>none
noncomputable def aK (st:Sto) (x y:W):Option D:=match x,y with
 | .d (.int i),.d (.int j)=>some (.int (i+j))
 | .d (.tup a),.d (.tup b)=>if a.length+b.length<=1000000 then some (.tup (a++b)) else none
 | .d (.str a),.d (.str b)=>if a.length+b.length<=1000000 then some (.str (a++b)) else none
 | x,y=>(lsD st x).bind λa=>(lsD st y).bind λb=>if a.length+b.length<=1000000 then some (.lst (a++b)) else none
instance (a b:Int):Decidable (IntMulOk a b):=by unfold IntMulOk;infer_instance
noncomputable def d9 (_:Sto):W->W->Option D
 | .d (.int i),.d (.int j)=>if IntMulOk i j then some (.int (i*j)) else none
 | .d (.tup a),.d (.int k)=>if a≠[]/\a.length<=1000/\1<=k/\k < 1000 then some (.tup (List.replicate k.toNat a).flatten) else none
 | .d (.lst a),.d (.int k)=>if a.length<=1000/\-1000<=k/\k < 1000 then some (.lst (List.replicate k.toNat a).flatten) else none
 | _,_=>none
noncomputable def gi (_:Sto):W->W->Option D
 | .d (.int i),.d (.int j)=>if 0 < j/\j < 1073741824 then some (.int (i / j)) else none
 | _,_=>none
noncomputable def eE (_:Sto):W->W->Option D
 | .d (.int i),.d (.int j)=>if 0 < j then some (.int (i % j)) else none
 | _,_=>none
instance (i j:Int):Decidable (kz i j):=by unfold kz;infer_instance
noncomputable def lG (_:Sto):W->W->Option D
 | .d (.int i),.d (.int j)=>if kz i j then some (.int (i ^ j.toNat)) else none
 | _,_=>none
noncomputable def tN (_:Sto):W->W->Option D
 | .d (.int i),.d (.int j)=>if kz i j then some (.int (i*2 ^ j.toNat)) else none
 | _,_=>none
noncomputable def dLt (_:Sto):W->W->Option D
 | .d (.int i),.d (.int j)=>some (.bl (decide (i < j)))
 | _,_=>none
noncomputable def dLe (_:Sto):W->W->Option D
 | .d (.int i),.d (.int j)=>some (.bl (decide (i<=j)))
 | _,_=>none
noncomputable def dGt (_:Sto):W->W->Option D
 | .d (.int i),.d (.int j)=>some (.bl (decide (j < i)))
 | _,_=>none
noncomputable def dGe (_:Sto):W->W->Option D
 | .d (.int i),.d (.int j)=>some (.bl (decide (j<=i)))
 | _,_=>none
noncomputable def vU:D->Bool
 | .non=>true
 | _=>false
noncomputable def pO (_:Sto):W->W->Option D
 | .d x,.d .non=>some (.bl (!vU x))
 | _,_=>none
noncomputable def inD (x:D) (ds:List D):Bool:=ds.any λy=>eqD y x
noncomputable def dIn (st:Sto) (x y:W):Option D:=match x with
 | .d x=>(fO st y).bind λds=>if cx x=true/\ds.all cx=true then some (.bl (inD x ds)) else none
 | _=>none
section
variable {K:PySem.W.Frag}{X:Cx}
theorem eW {H:Hp}{φ:List Addr}{d:D}{v:V} (h:cx d=true) (r:Rl K H φ d v):v=vOf d/\dF v=true:=by
 cases d with
 | non=>cases (show v=.non from r);exact⟨rfl,rfl⟩
 | bl b=>cases (show v=.bl b from r);exact⟨rfl,rfl⟩
 | int b=>cases (show v=.int b from r);exact⟨rfl,rfl⟩
 | str b=>cases (show v=.str b from r);exact⟨rfl,rfl⟩
 | _=>cases h
theorem mS {a b:D} (ha:cx a=true) (hb:cx b=true):eqV (vOf a) (vOf b)=eqD a b:=by
 cases a<;>cases b<;>first | rfl | (cases ha;done) | (cases hb;done) | (simp [eqV,vOf,eqD];done)
theorem jE {H:Hp}{φ:List Addr}:∀ {ds:List D}{vs:List V},ds.all cx=true->Rls K H φ ds vs->vs=ds.map vOf/\vs.all dF=true
 | [],_,_,h=>by cases h;exact⟨rfl,rfl⟩
 | d::ds,_,h,r=>by
  rw [List.all_cons,Bool.and_eq_true] at h
  obtain⟨v,vr,rfl,r1,r2⟩:=r
  obtain⟨e1,e2⟩:=eW h.1 r1
  obtain⟨e3,e4⟩:=jE h.2 r2
  exact⟨by rw [e1,e3];rfl,by rw [List.all_cons,e2,e4];rfl⟩
theorem ml {x:D} (hx:cx x=true):∀ {ds:List D},ds.all cx=true->inV (vOf x) (ds.map vOf)=inD x ds
 | [],_=>rfl
 | d::ds,h=>by
  rw [List.all_cons,Bool.and_eq_true] at h
  have ih:=ml hx h.2
  unfold inV inD at ih ⊢
  rw [List.map_cons,List.any_cons,List.any_cons,ih,mS h.1 hx]
theorem eU {f:Value->Value->Sem Value}{g:Sto->W->W->Option D} (h:∀ st x y d,g st x y=some d->∃ i j,x=.d (.int i)/\y=.d (.int j)/\OpR X f (λvx vy H Q=>vx=.int i/\vy=.int j/\Q (vOf d) H)/\cx d=true):OpD K X f g:=by
 refine⟨λst x y d hd=>?_⟩
 obtain⟨i,j,rfl,rfl,ho,hf⟩:=h st x y d hd
 refine ho.imp ?_
 rintro vx vy H Q ⟨φ,S,r1,r2,q⟩
 refine⟨r1,r2,q _ H (aY.refl H) ?_⟩
 cases d<;>first | rfl | cases hf
theorem tz:OpD K X (compareOp .Lt) dLt:=eU λst x y d h=>by
 match x,y,h with
 | .d (.int i),.d (.int j),h=>cases h;exact⟨i,j,rfl,rfl,yZ.imp λvx vy H Q ⟨a,b,q⟩=>⟨i,j,a,b,q⟩,rfl⟩
theorem rc:OpD K X (compareOp .LtE) dLe:=eU λst x y d h=>by
 match x,y,h with
 | .d (.int i),.d (.int j),h=>cases h;exact⟨i,j,rfl,rfl,yc.imp λvx vy H Q ⟨a,b,q⟩=>⟨i,j,a,b,q⟩,rfl⟩
theorem vS:OpD K X (compareOp .Gt) dGt:=eU λst x y d h=>by
 match x,y,h with
 | .d (.int i),.d (.int j),h=>cases h;exact⟨i,j,rfl,rfl,yE.imp λvx vy H Q ⟨a,b,q⟩=>⟨i,j,a,b,q⟩,rfl⟩
theorem vE:OpD K X (compareOp .GtE) dGe:=eU λst x y d h=>by
 match x,y,h with
 | .d (.int i),.d (.int j),h=>cases h;exact⟨i,j,rfl,rfl,yr.imp λvx vy H Q ⟨a,b,q⟩=>⟨i,j,a,b,q⟩,rfl⟩
theorem i5:OpD K X (binaryOp .FloorDiv) gi:=eU λst x y d h=>by
 match x,y,h with
 | .d (.int i),.d (.int j),h=>
  simp only [gi] at h
  split at h
  ·rename_i hc
   cases h;exact⟨i,j,rfl,rfl,tZ.imp λvx vy H Q ⟨a,b,q⟩=>⟨i,j,a,b,hc,q⟩,rfl⟩
  ·cases h
theorem ef:OpD K X (binaryOp .Mod) eE:=eU λst x y d h=>by
 match x,y,h with
 | .d (.int i),.d (.int j),h=>
  simp only [eE] at h
  split at h
  ·rename_i hc
   cases h;exact⟨i,j,rfl,rfl,xH.imp λvx vy H Q ⟨a,b,q⟩=>⟨i,j,a,b,hc,q⟩,rfl⟩
  ·cases h
theorem kj:OpD K X (binaryOp .Pow) lG:=eU λst x y d h=>by
 match x,y,h with
 | .d (.int i),.d (.int j),h=>
  simp only [lG] at h
  split at h
  ·rename_i hc
   cases h;exact⟨i,j,rfl,rfl,v8.imp λvx vy H Q ⟨a,b,q⟩=>⟨i,j,a,b,hc,q⟩,rfl⟩
  ·cases h
theorem wk:OpD K X (binaryOp .LShift) tN:=eU λst x y d h=>by
 match x,y,h with
 | .d (.int i),.d (.int j),h=>
  simp only [tN] at h
  split at h
  ·rename_i hc
   cases h;exact⟨i,j,rfl,rfl,vY.imp λvx vy H Q ⟨a,b,q⟩=>⟨i,j,a,b,hc,q⟩,rfl⟩
  ·cases h
theorem xT {H:Hp}{φ:List Addr}{d:D}{v:V} (r:Rl K H φ d v):decide (v=.non)=vU d:=by
 cases d with
 | non=>cases (show v=.non from r);rfl
 | bl b=>cases (show v=.bl b from r);rfl
 | int b=>cases (show v=.int b from r);rfl
 | str b=>cases (show v=.str b from r);rfl
 | ty b=>cases (show v=.ty b from r);rfl
 | dct=>obtain⟨a,rfl,_⟩:=r;rfl
 | scr ns=>obtain⟨a,rfl,_⟩:=r;rfl
 | tup ds=>obtain⟨a,vs,rfl,_⟩:=r;rfl
 | lst ds=>obtain⟨a,vs,rfl,_⟩:=r;rfl
theorem uI:OpD K X (compareOp .IsNot) pO:=by
 refine⟨λst x y d h=>?_⟩
 match x,y,h with
 | .d x,.d .non,h=>
  cases h
  refine t6.imp ?_
  rintro vx vy H Q ⟨φ,S,r1,r2,q⟩
  refine⟨r2,q _ H (aY.refl H) ?_⟩
  rw [xT r1];rfl
theorem sI (hK:X.K=K:=by rfl):OpD K X (compareOp .In) dIn:=by
 subst hK
 refine⟨λst x y d h=>?_⟩
 match x,h with
 | .d x,h=>
  simp only [dIn,Option.bind_eq_some_iff] at h
  obtain⟨ds,hs,h⟩:=h
  split at h
  ·rename_i hc
   cases h
   refine kY.imp ?_
   rintro vx vy H Q ⟨φ,S,r1,r2,q⟩
   obtain⟨a,vs,rfl,h1,h2⟩:=iW S r2 hs
   obtain⟨e1,e2⟩:=eW hc.1 r1
   obtain⟨e3,e4⟩:=jE hc.2 h2
   refine⟨a,vs,rfl,h1,e2,e4,q _ H (aY.refl H) ?_⟩
   rw [e1,e3,ml hc.1 hc.2];rfl
  ·cases h
end
end L2
namespace L2
open PySem PySem.Spec PyProof.Rows
section
variable {K:PySem.W.Frag}{X:Cx}
theorem uw:OpR X (binaryOp .Add) (λx y H Q=>∃ l b xs zs,x=.ref l/\y=.ref b/\Rd H l (.lst xs)/\Rd H b (.lst zs)/\xs.length+zs.length<=sizeLine/\∀ p,H p=none->Q (.ref p) (upd H p (.lst (xs++zs)))):=by
 intro pins s σ H x y v u Q I rx ry h
 obtain⟨l,b,xs,zs,rfl,rfl,hH,hB,hz,q⟩:=h
 cases rx
 cases ry
 obtain⟨z,its,n,r,e⟩:=hH.ok I.hok
 obtain⟨z2,its2,n2,r2,e2⟩:=hB.ok I.hok
 have hl:=r.length
 have hl2:=r2.length
 refine PySem.P.add_list e e2 ?_ (by rw [List.size_toArray,List.size_toArray];lia)
 have ea:its.toArray++its2.toArray=(its++its2).toArray:=by simp
 rw [ea]
 exact⟨.ref _,_,I.lnew (t':=s.toks) (r.append r2) (by rw [List.length_append];lia),rfl,q _ I.fresh⟩
theorem rB:OpR X (binaryOp .Add) (λx y H Q=>∃ a b xs ys,x=.ref a/\y=.ref b/\SqT X.K H a xs/\SqT X.K H b ys/\xs.length+ys.length<=sizeLine/\
  (xs=[]->Q (.ref b) H)/\(ys=[]->Q (.ref a) H)/\∀ p,H p=none->Q (.ref p) (upd H p (.tup (xs++ys)))):=by
 intro pins s σ H x y v u Q I rx ry h
 obtain⟨a,b,xs,ys,rfl,rfl,ha,hb,hz,q0,q1,q2⟩:=h
 by_cases hx:xs=[]
 ·cases rx
  cases ry
  obtain⟨its,r1,p1,_⟩:=I.tuple ha
  obtain⟨its2,r2,p2,_⟩:=I.tuple hb
  obtain⟨⟨cls,dd,data,sl⟩,ho,hc,n,hd⟩:=id p1
  obtain⟨⟨cls2,dd2,data2,sl2⟩,ho2,hc2,n2,hd2⟩:=id p2
  simp only at hc hd hc2 hd2
  subst hc hd hc2 hd2
  exact concat_meets ⟨_,ho,rfl⟩ ⟨_,ho2,rfl⟩ noFill_tuple_add seq_tuple_add PySem.F.slot_tuple_add PySem.F.entry_tuple_add (PySem.F.args_tuple_add_2 _ _)
   (tuple_addW0 a b its.toArray its2.toArray n n2 dd dd2 sl sl2 (by simp [r1.nil_iff.mpr hx])) ⟨ho,ho2,.ref b,H,I,rfl,q0 hx⟩
 ·exact uf pins s σ H _ _ v u Q I rx ry ⟨a,b,xs,ys,rfl,rfl,ha,hb,hx,hz,q1,λ_ p hp=>q2 p hp⟩
theorem tq {st:Sto}{H:Hp}{φ:List Addr}{w:W}{v:V}{ds:List D} (S:Sr K H φ st) (r:Rw K H φ w v) (e:lsD st w=some ds):∃ a vs,v=.ref a/\Rd H a (.lst vs)/\Rls K H φ ds vs:=by
 cases w with
 | h n=>
  obtain⟨a,ea,rfl⟩:=r
  obtain⟨vs,q,rl⟩:=S.atl n a ds ea e
  exact⟨a,vs,rfl,.inl q,rl⟩
 | d x=>
  cases x with
  | lst es=>cases e;obtain⟨a,vs,rfl,h0,h1,h2⟩:=r;exact⟨a,vs,rfl,h1,h2⟩
  | _=>cases e
theorem mil:(1000000:Nat)<=sizeLine:=by rw [sizeLine_eq];decide
theorem aV (hK:X.K=K:=by rfl):OpD K X (binaryOp .Add) aK:=by
 subst hK
 refine⟨λst x y d h=>?_⟩
 have lists:(lsD st x).bind (λa=>(lsD st y).bind λb=>if a.length+b.length<=1000000 then some (.lst (a++b)) else none)=some d->OpR X (binaryOp .Add) (rD X.K st x y d):=λh=>by
  simp only [Option.bind_eq_some_iff] at h
  obtain⟨as,ha,bs,hb,h⟩:=h
  split at h
  ·rename_i hl
   cases h
   refine uw.imp ?_
   rintro vx vy H Q ⟨φ,S,r1,r2,q⟩
   obtain⟨a,us,rfl,h1,h2⟩:=tq S r1 ha
   obtain⟨b,vs,rfl,h3,h4⟩:=tq S r2 hb
   refine⟨a,b,us,vs,rfl,rfl,h1,h3,by rw [<-h2.length,<-h4.length];exact Nat.le_trans hl mil,λp hp=>q _ _ (aY.new hp _) ?_⟩
   exact⟨p,_,rfl,S.nin hp,.inl aW,(h2.append h4).fw S (Fw.new hp)⟩
  ·cases h
 match x,y,h with
 | .d (.int i),.d (.int j),h=>
  cases h
  refine wN.imp ?_
  rintro vx vy H Q ⟨φ,S,r1,r2,q⟩
  exact⟨i,j,r1,r2,q _ H (aY.refl H) rfl⟩
 | .d (.tup as),.d (.tup bs),h=>
  simp only [aK] at h
  split at h
  ·rename_i hl
   cases h
   refine rB.imp ?_
   rintro vx vy H Q ⟨φ,S,⟨a,us,rfl,h1,h2⟩,⟨b,vs,rfl,h3,h4⟩,q⟩
   refine⟨a,b,us,vs,rfl,rfl,(SqT.of h1),(SqT.of h3),by rw [<-h2.length,<-h4.length];exact Nat.le_trans hl mil,λe=>?_,λe=>?_,λp hp=>?_⟩
   ·subst e
    have:as=[]:=by cases as with | nil=>rfl | cons _ _=>cases h2.length
    subst this
    exact q _ H (aY.refl H) ⟨b,vs,rfl,h3,h4⟩
   ·subst e
    have:bs=[]:=by cases bs with | nil=>rfl | cons _ _=>cases h4.length
    subst this
    exact q _ H (aY.refl H) ⟨a,us,rfl,h1,by rw [List.append_nil];exact h2⟩
   ·exact q _ _ (aY.new hp _) ⟨p,_,rfl,aW,(h2.append h4).fw S (Fw.new hp)⟩
  ·cases h
 | .d (.str as),.d (.str bs),h=>
  simp only [aK] at h
  split at h
  ·rename_i hl
   cases h
   refine oA.imp ?_
   rintro vx vy H Q ⟨φ,S,r1,r2,q⟩
   exact⟨as,bs,r1,r2,Nat.le_trans hl mil,q _ H (aY.refl H) rfl⟩
  ·cases h
 | .d (.lst as),y,h=>exact lists (by cases y with | h n=>exact h | d y=>cases y<;>exact h)
 | .h n,y,h=>exact lists (by cases y with | h n=>exact h | d y=>cases y<;>exact h)
theorem ux:OpR X (binaryOp .Mult) (λx y H Q=>∃ l k xs,x=.ref l/\y=.int k/\Rd H l (.lst xs)/\-(2 ^ 63)<=k/\k < 2 ^ 63/\xs.length*k.toNat<=sizeLine/\
 ∀ p,H p=none->Q (.ref p) (upd H p (.lst (List.replicate k.toNat xs).flatten))):=by
 intro pins s σ H x y v u Q I rx ry h
 obtain⟨l,k,xs,rfl,rfl,hH,h1,h2,hz,q⟩:=h
 cases rx
 obtain⟨t,rfl⟩:=ry
 obtain⟨z,its,n,r,e⟩:=hH.ok I.hok
 have hl:=r.length
 have hlen:its.toArray.size*k.toNat<=sizeLine:=by rw [List.size_toArray,<-hl];exact hz
 have hcap:¬ its.toArray.size*k.toNat > (2 ^ 63 - 1) / 8:=by
  have:(sizeLine:Nat)<=(2 ^ 63 - 1) / 8:=by decide
  lia
 have hfit:¬ (!Builtin.List.listFitsIndex k)=true:=by
  rw [fitsIndex_both h1 h2]
  exact Bool.false_ne_true
 have hlong:¬ Builtin.List.listTooLong (its.toArray.size*k.toNat)=true:=by
  rw [sr hlen]
  exact Bool.false_ne_true
 have hnew:List.foldl (λx1 x2=>x1++x2) #[] (List.replicate (if its.toArray.isEmpty=true then 0 else k.toNat) its.toArray)=(List.replicate k.toNat its).flatten.toArray:=by
  have f0:∀ m:Nat,List.foldl (λx1 x2=>x1++x2) #[] (List.replicate m its.toArray)=(List.replicate m its).flatten.toArray:=λm=>by
   have:=ik its m []
   rw [List.nil_append] at this
   exact this
  rw [f0]
  cases its with
  | nil=>simp
  | cons a r'=>rw [if_neg (by simp)]
 refine wpAny_binaryOp_repeat_ref (T:="list") (U:="int") (by decide) ⟨_,e,rfl⟩ (λs'=>typeIs_int s' k t) noFill_list_mul F.fills_int_mul F.slot_int_rmul repeat_list F.slot_int_index.lookup
  (call_meets F.slot_int_rmul (typeIs_int s k t) F.entry_int_rmul (F.args_int_rmul_2 _ _) (int___rmul___int_list k t l its.toArray n)
    ⟨e,rfl,⟨_,e,rfl⟩,call_meets F.slot_list_mul ⟨_,e,rfl⟩ F.entry_list_mul (F.args_list_mul_2 _ _) (AutoListH.list___mul___list_int_3 l its.toArray n k t hfit hcap hlong) ⟨e,?_⟩⟩)
 rw [hnew]
 exact⟨.ref _,_,I.lnew (t':=s.toks) (r.rep k.toNat) (by rw [my,Nat.mul_comm];exact hz),rfl,q _ I.fresh⟩
theorem dJ (hK:X.K=K:=by rfl):OpD K X (binaryOp .Mult) d9:=by
 subst hK
 refine⟨λst x y d h=>?_⟩
 match x,y,h with
 | .d (.int i),.d (.int j),h=>
  simp only [d9] at h
  split at h
  ·rename_i hl
   cases h
   refine tM.imp ?_
   rintro vx vy H Q ⟨φ,S,r1,r2,q⟩
   exact⟨i,j,r1,r2,hl,q _ H (aY.refl H) rfl⟩
  ·cases h
 | .d (.tup as),.d (.int k),h=>
  simp only [d9] at h
  split at h
  ·rename_i hl
   cases h
   refine uC.imp ?_
   rintro vx vy H Q ⟨φ,S,⟨a,us,rfl,h1,h2⟩,r2,q⟩
   have hne:us≠[]:=by rintro rfl;cases as with | nil=>exact hl.1 rfl | cons _ _=>cases h2.length
   refine⟨a,k,us,rfl,r2,(SqT.of h1),hne,by rw [<-h2.length];exact hl.2.1,hl.2.2.1,hl.2.2.2,λe=>?_,λ_ p hp=>?_⟩
   ·subst e
    exact q _ H (aY.refl H) ⟨a,us,rfl,h1,by simpa using h2⟩
   ·exact q _ _ (aY.new hp _) ⟨p,_,rfl,aW,(h2.rep _).fw S (Fw.new hp)⟩
  ·cases h
 | .d (.lst as),.d (.int k),h=>
  simp only [d9] at h
  split at h
  ·rename_i hl
   cases h
   refine ux.imp ?_
   rintro vx vy H Q ⟨φ,S,⟨a,us,rfl,h0,h1,h2⟩,r2,q⟩
   refine⟨a,k,us,rfl,r2,h1,by lia,by lia,?_,λp hp=>?_⟩
   ·rw [<-h2.length]
    have:as.length*k.toNat<=1000*1000:=Nat.mul_le_mul hl.1 (by lia)
    exact Nat.le_trans this mil
   ·exact q _ _ (aY.new hp _) ⟨p,_,rfl,S.nin hp,.inl aW,(h2.rep _).fw S (Fw.new hp)⟩
  ·cases h
noncomputable def dIx (st:Sto) (x y:W):Option D:=match x,y with
 | .d (.str z),.d (.int i)=>if z.length<=1000000 then (atI z.cps.toList i).map λc=>.str ⟨#[c]⟩ else none
 | x,.d (.int i)=>(fO st x).bind λds=>atI ds i
 | _,_=>none
theorem xP {H:Hp}{φ:List Addr}{ds:List D}{vs:List V}{i:Int}{d:D} (r:Rls K H φ ds vs) (e:atI ds i=some d):∃ v,atI vs i=some v/\Rl K H φ d v:=by
 unfold atI at e ⊢
 rw [<-r.length]
 obtain⟨j,e1,e2⟩:=Option.bind_eq_some_iff.mp e
 obtain⟨v,ev,rv⟩:=r.get e2
 exact⟨v,by rw [e1];exact ev,rv⟩
theorem IxR.imp {r r':R2} (h:IxR X r) (m:∀ x y H Q,r' x y H Q->r x y H Q):IxR X r':=λvalue slice pins s σ H x y v u Q I rx ry q hs=>h value slice pins s σ H x y v u Q I rx ry (m _ _ _ _ q) hs
theorem zn (st:Sto) (x y:W) (d:D) (h:dIx st x y=some d) (hK:X.K=K):IxR X (rD K st x y d):=by
 subst hK
 match y,h with
 | .d (.int i),h=>
  have seq:(fO st x).bind (λds=>atI ds i)=some d->IxR X (rD X.K st x (.d (.int i)) d):=λh=>by
   obtain⟨ds,e1,e2⟩:=Option.bind_eq_some_iff.mp h
   refine sK.imp ?_
   rintro vx vy H Q ⟨φ,S,r1,r2,q⟩
   obtain⟨a,vs,rfl,h1,h2⟩:=iW S r1 e1
   obtain⟨v,ev,rv⟩:=xP h2 e2
   rcases h1 with h1 | h1
   ·exact .inl ⟨a,vs,i,v,rfl,r2,h1,ev,q _ H (aY.refl H) rv⟩
   ·exact .inr (.inl ⟨a,vs,i,v,rfl,r2,h1,ev,q _ H (aY.refl H) rv⟩)
  match x,h with
  | .d (.str z),h=>
   simp only [dIx] at h
   split at h
   ·rename_i hl
    obtain⟨c,e1,rfl⟩:=Option.map_eq_some_iff.mp h
    refine sK.imp ?_
    rintro vx vy H Q ⟨φ,S,r1,r2,q⟩
    exact .inr (.inr ⟨z,i,c,r1,r2,Nat.le_trans hl mil,e1,q _ H (aY.refl H) rfl⟩)
   ·cases h
  | .d (.tup z),h=>exact seq h
  | .d (.lst z),h=>exact seq h
  | .d (.scr z),h=>exact seq h
  | .h z,h=>exact seq h
 | .d .non,h=>cases x with | h n=>cases h | d x=>cases x<;>cases h
 | .d (.bl _),h=>cases x with | h n=>cases h | d x=>cases x<;>cases h
 | .d (.str _),h=>cases x with | h n=>cases h | d x=>cases x<;>cases h
 | .d (.ty _),h=>cases x with | h n=>cases h | d x=>cases x<;>cases h
 | .d (.scr _),h=>cases x with | h n=>cases h | d x=>cases x<;>cases h
 | .d .dct,h=>cases x with | h n=>cases h | d x=>cases x<;>cases h
 | .d (.tup _),h=>cases x with | h n=>cases h | d x=>cases x<;>cases h
 | .d (.lst _),h=>cases x with | h n=>cases h | d x=>cases x<;>cases h
 | .h _,h=>cases x with | h n=>cases h | d x=>cases x<;>cases h
variable {e a b:Expr}{pos p2:Pos}{f fa fb:Ef}
theorem bm (ha:IE K X a fa) (hb:IE K X b fb) (hs:me b=true:=by rfl) (hK:X.K=K:=by rfl):IE K X (.Subscript a b pos) (iOp dIx fa fb):=by
 refine⟨λenv st r hr=>?_⟩
 simp only [iOp,Option.bind_eq_some_iff,Option.map_eq_some_iff] at hr
 obtain⟨x,hx,y,hy,d,hd,rfl⟩:=hr
 exact (yX (zn _ _ _ _ hd hK) (ha.run _ _ _ hx) (hb.run _ _ _ hy) (qO hs)).imp λσ H Q h=>mn h
abbrev Pf:=Ev->Sto->Option (Option Int×Sto)
noncomputable def iPn:Pf
 | _,st=>some (none,st)
noncomputable def wm:W->Option Int
 | .d (.int i)=>some i
 | _=>none
theorem qp {w:W}{i:Int} (h:wm w=some i):w=.d (.int i):=by
 cases w with
 | h n=>cases h
 | d x=>cases x<;>first | (cases h;done) | (injection h with h;subst h;rfl)
noncomputable def iPs (f:Ef):Pf
 | env,st=>(f env st).bind λr=>(wm r.1).map λi=>(some i,r.2)
noncomputable def tIO (K:PySem.W.Frag) (env:Ev) (st:Sto) (r:Option Int×Sto):TO:=λσ H Q=>∃ φ,Er K H φ env σ/\Sr K H φ st/\∀ H' φ',Fw φ φ' H H'->Sr K H' φ' r.2->Q r.1 H'
structure IO (K:PySem.W.Frag) (X:Cx) (e:Option Expr) (f:Pf):Prop where
 run:∀ env st r,f env st=some r->PO X e (tIO K env st r)
theorem PO.imp {e:Option Expr}{t t':TO} (h:PO X e t) (m:∀ σ H Q,t' σ H Q->t σ H Q):PO X e t':=λpins s σ H Q I q=>h pins s σ H Q I (m σ H Q q)
theorem gQ:IO K X none iPn:=by
 refine⟨λenv st r hr=>?_⟩
 cases hr
 exact t8.imp λσ H Q ⟨φ,hE,hS,q⟩=>q H φ (Fw.refl φ H) hS
theorem gM (h:IE K X e f):IO K X (some e) (iPs f):=by
 refine⟨λenv st r hr=>?_⟩
 simp only [iPs,Option.bind_eq_some_iff,Option.map_eq_some_iff] at hr
 obtain⟨⟨x,s1⟩,hx,i,hi,rfl⟩:=hr
 cases qp hi
 refine (u6 (h.run _ _ _ hx)).imp ?_
 rintro σ H Q ⟨φ,hE,hS,q⟩
 exact⟨φ,hE,hS,λv H1 φ1 f1 s1 w1=>⟨i,w1,q H1 φ1 f1 s1⟩⟩
noncomputable def iN (xs:List D) (lo hi:Option Int):List D:=(xs.drop (HT.sIx xs.length 0 lo)).take (HT.sIx xs.length xs.length hi - HT.sIx xs.length 0 lo)
theorem ph {H:Hp}{φ:List Addr}{ds:List D}{vs:List V} (r:Rls K H φ ds vs) (lo hi:Option Int):Rls K H φ (iN ds lo hi) (mC vs lo hi):=by
 unfold iN mC
 rw [r.length]
 exact (r.drop _).take _
noncomputable def dSl (st:Sto) (x:W) (lo hi:Option Int):Option D:=match x with
 | .d (.tup ds)=>some (.tup (iN ds lo hi))
 | .d (.lst ds)=>some (.lst (iN ds lo hi))
 | .h n=>(lg st n).map λds=>.lst (iN ds lo hi)
 | .d (.scr ns)=>some (.lst (iN (ns.map D.int) lo hi))
 | _=>none
noncomputable def iSl (f:Ef) (lo hi:Pf):Ef
 | env,st=>(f env st).bind λx=>(lo env x.2).bind λl=>(hi env l.2).bind λu=>(dSl u.2 x.1 l.1 u.1).map λd=>(.d d,u.2)
theorem yW {lo hi:Option Expr}{fl fh:Pf} (h:IE K X e f) (hl:IO K X lo fl) (hh:IO K X hi fh) (hK:X.K=K:=by rfl):IE K X (.Subscript e (.Slice lo hi none p2) pos) (iSl f fl fh):=by
 subst hK
 refine⟨λenv st r hr=>?_⟩
 simp only [iSl,Option.bind_eq_some_iff,Option.map_eq_some_iff] at hr
 obtain⟨⟨x,s1⟩,hx,l,hl',u,hu',d,hd,rfl⟩:=hr
 have list:(∀ {H:Hp}{φ:List Addr}{v:V},Sr X.K H φ u.2->Rw X.K H φ x v->∃ a vs ds,v=.ref a/\SqL X.K H a vs/\Rls X.K H φ ds vs/\d=.lst (iN ds l.1 u.1))->PE X (.Subscript e (.Slice lo hi none p2) pos) (tI X.K env st (.d d,u.2)):=λhq=>by
  refine (jL ut (h.run _ _ _ hx) (hl.run _ _ _ hl') (hh.run _ _ _ hu')).imp ?_
  rintro σ H Q ⟨φ,hE,hS,q⟩
  refine⟨φ,hE,hS,λv H1 φ1 f1 s1 w1=>⟨φ1,hE.fw hS f1,s1,λH2 φ2 f2 s2=>⟨φ2,(hE.fw hS f1).fw s1 f2,s2,λH3 φ3 f3 s3=>?_⟩⟩⟩
  obtain⟨a,vs,ds,rfl,h1,h2,rfl⟩:=hq s3 ((w1.fw s1 f2).fw s2 f3)
  refine⟨a,vs,rfl,h1,λp hp=>q _ _ φ3 (((f1.trans f2).trans f3).trans (Fw.new hp)) (s3.new hp) ?_⟩
  exact⟨p,_,rfl,s3.nin hp,.inl aW,(ph h2 _ _).fw s3 (Fw.new hp)⟩
 match x,hd with
 | .d (.tup ds),hd=>
  cases hd
  refine (jL (wY (K:=X.K) rfl) (h.run _ _ _ hx) (hl.run _ _ _ hl') (hh.run _ _ _ hu')).imp ?_
  rintro σ H Q ⟨φ,hE,hS,q⟩
  refine⟨φ,hE,hS,λv H1 φ1 f1 s1 w1=>⟨φ1,hE.fw hS f1,s1,λH2 φ2 f2 s2=>⟨φ2,(hE.fw hS f1).fw s1 f2,s2,λH3 φ3 f3 s3=>?_⟩⟩⟩
  obtain⟨a,vs,rfl,h1,h2⟩:=(w1.fw s1 f2).fw s2 f3
  refine⟨a,vs,rfl,(SqT.of h1),?_⟩
  by_cases hc:HT.sIx vs.length 0 l.1=0/\HT.sIx vs.length vs.length u.1=vs.length
  ·refine .inr ⟨hc,q _ _ φ3 ((f1.trans f2).trans f3) s3 ⟨a,vs,rfl,h1,?_⟩⟩
   have e:iN ds l.1 u.1=ds:=by
    unfold iN
    rw [h2.length,hc.1,hc.2,List.drop_zero,Nat.sub_zero,<-h2.length,List.take_length]
   rw [e]
   exact h2
  ·exact .inl ⟨hc,λp hp=>q _ _ φ3 (((f1.trans f2).trans f3).trans (Fw.new hp)) (s3.new hp) ⟨p,_,rfl,aW,(ph h2 _ _).fw s3 (Fw.new hp)⟩⟩
 | .d (.lst ds),hd=>
  cases hd
  refine list λ{H φ v} S w=>?_
  obtain⟨a,vs,rfl,h0,h1,h2⟩:=w
  exact⟨a,vs,ds,rfl,.inl h1,h2,rfl⟩
 | .d (.scr ns),hd=>
  cases hd
  refine list λ{H φ v} S w=>?_
  obtain⟨a,rfl,h⟩:=w
  refine⟨a,_,_,rfl,?_,Rls.of_ints ns,rfl⟩
  rcases h with⟨o,h⟩ | h
  ·exact .inl (.inr ⟨o,h⟩)
  ·exact .inr h
 | .h n,hd=>
  obtain⟨ds,e1,rfl⟩:=Option.map_eq_some_iff.mp hd
  refine list λ{H φ v} S w=>?_
  obtain⟨a,ea,rfl⟩:=w
  obtain⟨vs,q,rl⟩:=S.atl n a ds ea e1
  exact⟨a,vs,ds,rfl,SqL.of q,rl,rfl⟩
end
end L2
namespace L2
open PySem PySem.Spec PyProof.Rows
section
variable {K:PySem.W.Frag}{X:Cx}{pins:List (Addr×Obj)}{σ:St}{H:Hp}{s:Shared}{φ:List Addr}{st:Sto}
theorem dE:∀ (xs ys:List D),((List.range (min xs.length ys.length)).all (λj=>eqD (xs.getD j .non) (ys.getD j .non)) && xs.length==ys.length)=fD xs ys
 | [],[]=>rfl
 | [],y::ys=>by simp [fD]
 | x::xs,[]=>by simp [fD]
 | x::xs,y::ys=>by
  show ((List.range (min (xs.length+1) (ys.length+1))).all (λj=>eqD ((x::xs).getD j .non) ((y::ys).getD j .non)) && (xs.length+1==ys.length+1))=(eqD x y && fD xs ys)
  rw [show min (xs.length+1) (ys.length+1)=min xs.length ys.length+1 by lia,jU,<-dE xs ys]
  have e:(xs.length+1==ys.length+1)=(xs.length==ys.length):=by rw [Bool.eq_iff_iff];simp
  rw [e,Bool.and_assoc]
  rfl
theorem gg {xs ys:List D} (h:xs.length=ys.length):(List.range xs.length).all (λj=>eqD (xs.getD j .non) (ys.getD j .non))=fD xs ys:=by
 rw [<-dE xs ys,<-h,Nat.min_self];simp
theorem nL:∀ {xs ys:List D},xs.length≠ys.length->fD xs ys=false
 | [],[],h=>absurd rfl h
 | [],_::_,_=>rfl
 | _::_,[],_=>rfl
 | x::xs,y::ys,h=>by
  show (eqD x y && fD xs ys)=false
  rw [nL (by intro e;apply h;rw [List.length_cons,List.length_cons,e]),Bool.and_false]
theorem uW (I:Inv X pins σ H s) {a:Addr}{vs ws:List V} (h:Rd H a (.lst vs)) (h':Rd H a (.lst ws)):vs=ws:=I.list_inj (.inl h) (.inl h')
theorem o7 (I:Inv X pins σ H s):∀ (n:Nat) {d e:D}{v:V},Rl X.K H φ d v->Rl X.K H φ e v->okD n d=true->okD n e=true->eqD d e=true:=by
 intro n
 induction n with
 | zero=>
  intro d e v r1 r2 o1 o2
  cases d<;>first | (cases o1;done) | skip
  all_goals (cases e<;>first | (cases o2;done) | skip)
  all_goals (first | rfl | (cases r1.symm.trans r2;done) | (cases r1.symm.trans r2;simp [eqD]))
 | succ n ih=>
  have lists:∀ {ds es:List D}{vs:List V},Rls X.K H φ ds vs->Rls X.K H φ es vs->(∀ d ∈ ds,okD n d=true)->(∀ d ∈ es,okD n d=true)->fD ds es=true:=by
   intro ds
   induction ds with
   | nil=>
    intro es vs r1 r2 _ _
    cases r1
    cases es with
    | nil=>rfl
    | cons e es=>obtain⟨_,_,q,_⟩:=r2;cases q
   | cons d ds ihd=>
    intro es vs r1 r2 o1 o2
    obtain⟨v,r,rfl,a1,a2⟩:=r1
    cases es with
    | nil=>cases r2
    | cons e es=>
     obtain⟨v',r',q,b1,b2⟩:=r2
     cases q
     show (eqD d e && fD ds es)=true
     rw [ih a1 b1 (o1 d List.mem_cons_self) (o2 e List.mem_cons_self),ihd a2 b2 (λx hx=>o1 x (List.mem_cons_of_mem _ hx)) (λx hx=>o2 x (List.mem_cons_of_mem _ hx))]
     rfl
  intro d e v r1 r2 o1 o2
  cases d with
  | tup ds=>
   obtain⟨a,vs,rfl,h1,h2⟩:=r1
   cases e with
   | tup es=>
    obtain⟨b,us,q,h3,h4⟩:=r2
    cases q
    rw [I.tuple_inj (SqT.of h3) (SqT.of h1)] at h4
    exact lists h2 h4 (List.all_eq_true.mp o1) (List.all_eq_true.mp o2)
   | lst es=>
    obtain⟨b,us,q,_,h3,h4⟩:=r2
    cases q
    obtain⟨_,_,p1,_⟩:=I.tuple (SqT.of h1)
    obtain⟨_,_,p2,_⟩:=I.list (.inl h3)
    exact absurd rfl (SeqAt.ne_of_list_tuple p2.isList p1)
   | _=>first | (cases o2;done) | (cases r2;done)
  | lst ds=>
   obtain⟨a,vs,rfl,h0,h1,h2⟩:=r1
   cases e with
   | lst es=>
    obtain⟨b,us,q,_,h3,h4⟩:=r2
    cases q
    rw [uW I h3 h1] at h4
    exact lists h2 h4 (List.all_eq_true.mp o1) (List.all_eq_true.mp o2)
   | tup es=>
    obtain⟨b,us,q,h3,h4⟩:=r2
    cases q
    obtain⟨_,_,p1,_⟩:=I.tuple (SqT.of h3)
    obtain⟨_,_,p2,_⟩:=I.list (.inl h1)
    exact absurd rfl (SeqAt.ne_of_list_tuple p2.isList p1)
   | _=>first | (cases o2;done) | (cases r2;done)
  | non=>cases e<;>first | rfl | (cases o2;done) | (cases r1.symm.trans r2;done) | (cases r1;obtain⟨_,_,q,_⟩:=r2;cases q)
  | bl b=>cases e<;>first | (cases o2;done) | (cases r1.symm.trans r2;simp [eqD];done) | (cases r1.symm.trans r2;done) | (cases r1;obtain⟨_,_,q,_⟩:=r2;cases q)
  | int b=>cases e<;>first | (cases o2;done) | (cases r1.symm.trans r2;simp [eqD];done) | (cases r1.symm.trans r2;done) | (cases r1;obtain⟨_,_,q,_⟩:=r2;cases q)
  | str b=>cases e<;>first | (cases o2;done) | (cases r1.symm.trans r2;simp [eqD];done) | (cases r1.symm.trans r2;done) | (cases r1;obtain⟨_,_,q,_⟩:=r2;cases q)
  | ty b=>cases o1
  | scr b=>cases o1
  | dct=>cases o1
theorem dC {ds:List D}{vs:List V}{us:List Value} (r:Rls K H φ ds vs) (rv:aA vs us):∀ (j:Nat) (h:j < us.length),∃ v,Rl K H φ (ds.getD j .non) v/\az v us[j]/\ds.getD j .non ∈ ds:=by
 intro j h
 obtain⟨h',q⟩:=rv.at j h
 have hd:j < ds.length:=by rw [r.length];exact h'
 have e:ds[j]?=some ds[j]:=List.getElem?_eq_getElem hd
 obtain⟨v,ev,rl⟩:=r.get e
 rw [List.getElem?_eq_getElem h'] at ev
 cases ev
 refine⟨_,?_,q,?_⟩
 ·rw [List.getD,e];exact rl
 ·rw [List.getD,e];exact List.getElem_mem hd
theorem wX (I:Inv X pins σ H s):∀ (n:Nat) {A:Around}{d e:D}{v u:V}{vv uu:Value},Rl X.K H φ d v->Rl X.K H φ e u->az v vv->az u uu->okD n d=true->okD n e=true->A.units+n < cLine->SeqAt.EqAt A s vv uu (eqD d e):=by
 have flat:∀ {A:Around}{d e:D}{v u:V}{vv uu:Value},cx d=true->cx e=true->Rl X.K H φ d v->Rl X.K H φ e u->az v vv->az u uu->SeqAt.EqAt A s vv uu (eqD d e):=by
  intro A d e v u vv uu f1 f2 r1 r2 q1 q2
  obtain⟨e1,g1⟩:=eW f1 r1
  obtain⟨e2,g2⟩:=eW f2 r2
  rw [<-mS f1 f2,<-e1,<-e2]
  exact oK q1 q2 g1 g2
 intro n
 induction n with
 | zero=>
  intro A d e v u vv uu r1 r2 q1 q2 o1 o2 hu
  refine flat ?_ ?_ r1 r2 q1 q2
  ·cases d<;>first | rfl | cases o1
  ·cases e<;>first | rfl | cases o2
 | succ n ih=>
  intro A d e v u vv uu r1 r2 q1 q2 o1 o2 hu
  have hu0:A.units < cLine:=by lia
  have hu1:A.in1.units+n < cLine:=by show A.units+1+n < cLine;lia
  cases d with
  | tup ds=>
   obtain⟨a,vs,rfl,h1,h2⟩:=r1
   cases q1
   obtain⟨its,rv,p1,_⟩:=I.tuple (SqT.of h1)
   cases e with
   | tup es=>
    obtain⟨b,us,rfl,h3,h4⟩:=id r2
    cases q2
    by_cases hab:a=b
    ·subst hab
     rw [o7 I (n+1) (d:=.tup ds) ⟨a,vs,rfl,h1,h2⟩ r2 o1 o2]
     exact SeqAt.EqAt.same _
    ·obtain⟨its2,rv2,p2,_⟩:=I.tuple (SqT.of h3)
     have z:=SeqAt.RcAt.tuples (A:=A) (e:=λj=>eqD (ds.getD j .non) (es.getD j .non)) p1 p2 hu0 λj g1 g2=>by
      obtain⟨v1,k1,k2,k3⟩:=dC h2 rv j (by simpa using g1)
      obtain⟨v2,k4,k5,k6⟩:=dC h4 rv2 j (by simpa using g2)
      exact ih k1 k4 (by simpa using k2) (by simpa using k5) (List.all_eq_true.mp o1 _ k3) (List.all_eq_true.mp o2 _ k6) hu1
     have e1:its.toArray.size=ds.length:=by simp [<-rv.length,h2.length]
     have e2:its2.toArray.size=es.length:=by simp [<-rv2.length,h4.length]
     rw [e1,e2,dE] at z
     exact SeqAt.EqAt.of_refs hab z
   | lst es=>
    obtain⟨b,us,rfl,_,h3,h4⟩:=id r2
    cases q2
    obtain⟨its2,rv2,p2,_⟩:=I.list (.inl h3)
    exact SeqAt.EqAt.tuple_list p1 p2.isList hu0
   | non=>cases r2;cases q2;exact SeqAt.EqAt.tuple_none p1 hu0
   | bl x=>cases r2;cases q2;exact SeqAt.EqAt.tuple_bool x p1 hu0
   | int x=>cases r2;obtain⟨t,rfl⟩:=q2;exact SeqAt.EqAt.tuple_int x t p1 hu0
   | str x=>cases r2;obtain⟨t,rfl⟩:=q2;exact SeqAt.EqAt.tuple_str x t p1 hu0
   | ty _=>cases o2
   | scr _=>cases o2
   | dct=>cases o2
  | lst ds=>
   obtain⟨a,vs,rfl,h0,h1,h2⟩:=r1
   cases q1
   obtain⟨its,rv,p1,_⟩:=I.list (.inl h1)
   cases e with
   | lst es=>
    obtain⟨b,us,rfl,_,h3,h4⟩:=id r2
    cases q2
    by_cases hab:a=b
    ·subst hab
     rw [o7 I (n+1) (d:=.lst ds) ⟨a,vs,rfl,h0,h1,h2⟩ r2 o1 o2]
     exact SeqAt.EqAt.same _
    ·obtain⟨its2,rv2,p2,_⟩:=I.list (.inl h3)
     have e1:its.toArray.size=ds.length:=by simp [<-rv.length,h2.length]
     have e2:its2.toArray.size=es.length:=by simp [<-rv2.length,h4.length]
     by_cases hl:ds.length=es.length
     ·have z:=SeqAt.RcAt.lists (A:=A) (e:=λj=>eqD (ds.getD j .non) (es.getD j .non)) p1.isList p2.isList (by rw [e1,e2,hl]) hu0 λj g1 g2=>by
       obtain⟨v1,k1,k2,k3⟩:=dC h2 rv j (by simpa using g1)
       obtain⟨v2,k4,k5,k6⟩:=dC h4 rv2 j (by simpa using g2)
       exact ih k1 k4 (by simpa using k2) (by simpa using k5) (List.all_eq_true.mp o1 _ k3) (List.all_eq_true.mp o2 _ k6) hu1
      rw [e1,gg hl] at z
      exact SeqAt.EqAt.of_refs hab z
     ·have z:=SeqAt.RcAt.lists_lengths (A:=A) p1.isList p2.isList (by rw [e1,e2];simpa using hl) hu0
      show SeqAt.EqAt A s _ _ (fD ds es)
      rw [nL hl]
      exact SeqAt.EqAt.of_refs hab z
   | tup es=>
    obtain⟨b,us,rfl,h3,h4⟩:=id r2
    cases q2
    obtain⟨its2,rv2,p2,_⟩:=I.tuple (SqT.of h3)
    exact SeqAt.EqAt.list_tuple p1.isList p2 hu0
   | non=>cases r2;cases q2;exact SeqAt.EqAt.list_none p1.isList hu0
   | bl x=>cases r2;cases q2;exact SeqAt.EqAt.list_bool x p1.isList hu0
   | int x=>cases r2;obtain⟨t,rfl⟩:=q2;exact SeqAt.EqAt.list_int x t p1.isList hu0
   | str x=>cases r2;obtain⟨t,rfl⟩:=q2;exact SeqAt.EqAt.list_str x t p1.isList hu0
   | ty _=>cases o2
   | scr _=>cases o2
   | dct=>cases o2
  | non=>
   cases r1;cases q1
   cases e with
   | tup es=>obtain⟨b,us,rfl,h3,h4⟩:=r2;cases q2;obtain⟨_,_,p2,_⟩:=I.tuple (SqT.of h3);exact SeqAt.EqAt.none_tuple p2 hu0
   | lst es=>obtain⟨b,us,rfl,_,h3,h4⟩:=r2;cases q2;obtain⟨_,_,p2,_⟩:=I.list (.inl h3);exact SeqAt.EqAt.none_list p2.isList hu0
   | _=>first | (cases o2;done) | exact flat rfl rfl (d:=.non) rfl r2 (v:=.non) rfl q2
  | bl x=>
   cases r1;cases q1
   cases e with
   | tup es=>obtain⟨b,us,rfl,h3,h4⟩:=r2;cases q2;obtain⟨_,_,p2,_⟩:=I.tuple (SqT.of h3);exact SeqAt.EqAt.bool_tuple x p2 hu0
   | lst es=>obtain⟨b,us,rfl,_,h3,h4⟩:=r2;cases q2;obtain⟨_,_,p2,_⟩:=I.list (.inl h3);exact SeqAt.EqAt.bool_list x p2.isList hu0
   | _=>first | (cases o2;done) | exact flat rfl rfl (d:=.bl x) rfl r2 (v:=.bl x) rfl q2
  | int x=>
   cases r1;obtain⟨t1,rfl⟩:=q1
   cases e with
   | tup es=>obtain⟨b,us,rfl,h3,h4⟩:=r2;cases q2;obtain⟨_,_,p2,_⟩:=I.tuple (SqT.of h3);exact SeqAt.EqAt.int_tuple x t1 p2 hu0
   | lst es=>obtain⟨b,us,rfl,_,h3,h4⟩:=r2;cases q2;obtain⟨_,_,p2,_⟩:=I.list (.inl h3);exact SeqAt.EqAt.int_list x t1 p2.isList hu0
   | _=>first | (cases o2;done) | exact flat rfl rfl (d:=.int x) rfl r2 (v:=.int x) ⟨t1,rfl⟩ q2
  | str x=>
   cases r1;obtain⟨t1,rfl⟩:=q1
   cases e with
   | tup es=>obtain⟨b,us,rfl,h3,h4⟩:=r2;cases q2;obtain⟨_,_,p2,_⟩:=I.tuple (SqT.of h3);exact SeqAt.EqAt.str_tuple x t1 p2 hu0
   | lst es=>obtain⟨b,us,rfl,_,h3,h4⟩:=r2;cases q2;obtain⟨_,_,p2,_⟩:=I.list (.inl h3);exact SeqAt.EqAt.str_list x t1 p2.isList hu0
   | _=>first | (cases o2;done) | exact flat rfl rfl (d:=.str x) rfl r2 (v:=.str x) ⟨t1,rfl⟩ q2
  | ty _=>cases o1
  | scr _=>cases o1
  | dct=>cases o1
theorem wo {A:Around}{y x:V}{u v:Value} (ry:az y u) (rx:az x v) (fy:dF y=true) (fx:dF x=true):SeqAt.RcAt A s u v (eqV y x):=by
 cases y with
 | non=>
  cases ry
  cases x with
  | non=>cases rx;exact SeqAt.RcAt.none_none
  | bl b=>cases rx;exact SeqAt.RcAt.none_bool b
  | int b=>obtain⟨t,rfl⟩:=rx;exact SeqAt.RcAt.none_int b t
  | str b=>obtain⟨t,rfl⟩:=rx;exact SeqAt.RcAt.none_str b t
  | _=>cases fx
 | bl a=>
  cases ry
  cases x with
  | non=>cases rx;exact SeqAt.RcAt.bool_none a
  | bl b=>cases rx;exact SeqAt.RcAt.bool_bool a b
  | int b=>obtain⟨t,rfl⟩:=rx;exact SeqAt.RcAt.bool_int a b t
  | str b=>obtain⟨t,rfl⟩:=rx;exact SeqAt.RcAt.bool_str a b t
  | _=>cases fx
 | int a=>
  obtain⟨t',rfl⟩:=ry
  cases x with
  | non=>cases rx;exact SeqAt.RcAt.int_none a t'
  | bl b=>cases rx;exact SeqAt.RcAt.int_bool a t' b
  | int b=>obtain⟨t,rfl⟩:=rx;exact SeqAt.RcAt.int_int a t' b t
  | str b=>obtain⟨t,rfl⟩:=rx;exact SeqAt.RcAt.int_str a t' b t
  | _=>cases fx
 | str a=>
  obtain⟨t',rfl⟩:=ry
  cases x with
  | non=>cases rx;exact SeqAt.RcAt.str_none a t'
  | bl b=>cases rx;exact SeqAt.RcAt.str_bool a t' b
  | int b=>obtain⟨t,rfl⟩:=rx;exact SeqAt.RcAt.str_int a t' b t
  | str b=>obtain⟨t,rfl⟩:=rx;exact SeqAt.RcAt.str_str a t' b t
  | _=>cases fx
 | _=>cases fy
theorem qR {A:Around}{y x:V}{u v:Value} (ry:az y u) (rx:az x v) (fy:dF y=true) (fx:dF x=true):SeqAt.RcNeAt A s u v (!eqV y x):=by
 cases y with
 | non=>
  cases ry
  cases x with
  | non=>cases rx;exact SeqAt.RcNeAt.none_none
  | bl b=>cases rx;exact SeqAt.RcNeAt.none_bool b
  | int b=>obtain⟨t,rfl⟩:=rx;exact SeqAt.RcNeAt.none_int b t
  | str b=>obtain⟨t,rfl⟩:=rx;exact SeqAt.RcNeAt.none_str b t
  | _=>cases fx
 | bl a=>
  cases ry
  cases x with
  | non=>cases rx;exact SeqAt.RcNeAt.bool_none a
  | bl b=>cases rx;exact SeqAt.RcNeAt.bool_bool a b
  | int b=>obtain⟨t,rfl⟩:=rx;exact SeqAt.RcNeAt.bool_int a b t
  | str b=>obtain⟨t,rfl⟩:=rx;exact SeqAt.RcNeAt.bool_str a b t
  | _=>cases fx
 | int a=>
  obtain⟨t',rfl⟩:=ry
  cases x with
  | non=>cases rx;exact SeqAt.RcNeAt.int_none a t'
  | bl b=>cases rx;exact SeqAt.RcNeAt.int_bool a t' b
  | int b=>obtain⟨t,rfl⟩:=rx;exact SeqAt.RcNeAt.int_int a t' b t
  | str b=>obtain⟨t,rfl⟩:=rx;exact SeqAt.RcNeAt.int_str a t' b t
  | _=>cases fx
 | str a=>
  obtain⟨t',rfl⟩:=ry
  cases x with
  | non=>cases rx;exact SeqAt.RcNeAt.str_none a t'
  | bl b=>cases rx;exact SeqAt.RcNeAt.str_bool a t' b
  | int b=>obtain⟨t,rfl⟩:=rx;exact SeqAt.RcNeAt.str_int a t' b t
  | str b=>obtain⟨t,rfl⟩:=rx;exact SeqAt.RcNeAt.str_str a t' b t
  | _=>cases fx
 | _=>cases fy
inductive Kin where
 | fl (d:D) | tp (ds:List D) | ls (ds:List D)
noncomputable def n6 (st:Sto):W->Option Kin
 | .d (.tup ds)=>some (.tp ds)
 | .d (.lst ds)=>some (.ls ds)
 | .h n=>(lg st n).map .ls
 | .d .non=>some (.fl .non)
 | .d (.bl b)=>some (.fl (.bl b))
 | .d (.int i)=>some (.fl (.int i))
 | .d (.str x)=>some (.fl (.str x))
 | _=>none
noncomputable def eqK:Kin->Kin->Option Bool
 | .fl a,.fl b=>some (eqD a b)
 | .tp as,.tp bs=>if (as.isEmpty || bs.isEmpty)=true then some (as.isEmpty && bs.isEmpty) else if as.all (okD 60)=true/\bs.all (okD 60)=true then some (fD as bs) else none
 | .ls as,.ls bs=>if as.length=bs.length then (if as.all (okD 60)=true/\bs.all (okD 60)=true then some (fD as bs) else none) else some false
 | .fl _,.tp _=>some false
 | .tp _,.fl _=>some false
 | .fl _,.ls _=>some false
 | .ls _,.fl _=>some false
 | .tp _,.ls _=>some false
 | .ls _,.tp _=>some false
noncomputable def dEq (st:Sto) (x y:W):Option D:=(n6 st x).bind λa=>(n6 st y).bind λb=>(eqK a b).map λk=>.bl k
noncomputable def dNe (st:Sto) (x y:W):Option D:=(n6 st x).bind λa=>(n6 st y).bind λb=>(eqK a b).map λk=>.bl (!k)
noncomputable def wt (K:PySem.W.Frag) (H:Hp) (φ:List Addr):Kin->V->Prop
 | .fl d,v=>cx d=true/\Rl K H φ d v
 | .tp ds,v=>∃ a vs,v=.ref a/\SqT K H a vs/\Rls K H φ ds vs
 | .ls ds,v=>∃ a vs,v=.ref a/\Rd H a (.lst vs)/\Rls K H φ ds vs
theorem iX {w:W}{v:V}{k:Kin} (S:Sr K H φ st) (r:Rw K H φ w v) (e:n6 st w=some k):wt K H φ k v:=by
 cases w with
 | h n=>
  obtain⟨a,ea,rfl⟩:=r
  obtain⟨ds,e1,rfl⟩:=Option.map_eq_some_iff.mp e
  obtain⟨vs,q,rl⟩:=S.atl n a ds ea e1
  exact⟨a,vs,rfl,.inl q,rl⟩
 | d x=>
  cases x with
  | tup es=>cases e;obtain⟨a,vs,rfl,h1,h2⟩:=r;exact⟨a,vs,rfl,SqT.of h1,h2⟩
  | lst es=>cases e;obtain⟨a,vs,rfl,h0,h1,h2⟩:=r;exact⟨a,vs,rfl,h1,h2⟩
  | non=>cases e;exact⟨rfl,r⟩
  | bl b=>cases e;exact⟨rfl,r⟩
  | int b=>cases e;exact⟨rfl,r⟩
  | str b=>cases e;exact⟨rfl,r⟩
  | _=>cases e
theorem wz {A:Around}{k:Nat} (hr:cg k A):A.in1.units+60 < cLine:=by
 have:=hr.un
 show A.units+1+60 < cLine
 lia
theorem qM {k:Nat} (hr:cg k X.A) (I:Inv X pins σ H s) {a b:Kin}{v u:V}{vv uu:Value}{r:Bool} (ra:wt X.K H φ a v) (rb:wt X.K H φ b u) (qa:az v vv) (qb:az u uu) (e:eqK a b=some r) :
  SeqAt.RcAt X.A s vv uu r/\SeqAt.RcNeAt X.A s vv uu (!r):=by
 have hu0:=hr.units0
 have items:∀ {ds es:List D}{vs us:List V}{its its2:List Value},Rls X.K H φ ds vs->Rls X.K H φ es us->aA vs its->aA us its2->ds.all (okD 60)=true->es.all (okD 60)=true->
   ∀ j (g1:j < its.toArray.size) (g2:j < its2.toArray.size),SeqAt.EqAt X.A.in1 s its.toArray[j] its2.toArray[j] (eqD (ds.getD j .non) (es.getD j .non)):=by
  intro ds es vs us its its2 h2 h4 rv rv2 o1 o2 j g1 g2
  obtain⟨v1,k1,k2,k3⟩:=dC h2 rv j (by simpa using g1)
  obtain⟨v2,k4,k5,k6⟩:=dC h4 rv2 j (by simpa using g2)
  exact wX I 60 k1 k4 (by simpa using k2) (by simpa using k5) (List.all_eq_true.mp o1 _ k3) (List.all_eq_true.mp o2 _ k6) (wz hr)
 match a,b,e with
 | .fl d,.fl d',e=>
  cases e
  obtain⟨f1,r1⟩:=ra
  obtain⟨f2,r2⟩:=rb
  obtain⟨e1,g1⟩:=eW f1 r1
  obtain⟨e2,g2⟩:=eW f2 r2
  rw [<-mS f1 f2,<-e1,<-e2]
  exact⟨wo qa qb g1 g2,qR qa qb g1 g2⟩
 | .tp ds,.tp es,e=>
  simp only [eqK] at e
  obtain⟨a,vs,rfl,h1,h2⟩:=ra
  obtain⟨b,us,rfl,h3,h4⟩:=rb
  cases qa;cases qb
  obtain⟨its,rv,p1,_⟩:=I.tuple h1
  obtain⟨its2,rv2,p2,_⟩:=I.tuple h3
  have e1:its.toArray.size=ds.length:=by simp [<-rv.length,h2.length]
  have e2:its2.toArray.size=es.length:=by simp [<-rv2.length,h4.length]
  split at e
  ·rename_i hc
   cases e
   have hv:∀ j (g1:j < its.toArray.size) (g2:j < its2.toArray.size),SeqAt.EqAt X.A.in1 s its.toArray[j] its2.toArray[j] (eqD (ds.getD j .non) (es.getD j .non)):=λj g1 g2=>by
    rw [e1] at g1
    rw [e2] at g2
    rw [Bool.or_eq_true] at hc
    rcases hc with hc | hc
    ·rw [List.isEmpty_iff.mp hc] at g1;exact absurd g1 (Nat.not_lt_zero _)
    ·rw [List.isEmpty_iff.mp hc] at g2;exact absurd g2 (Nat.not_lt_zero _)
   have z:=SeqAt.RcAt.tuples (A:=X.A) p1 p2 hu0 hv
   have z':=SeqAt.RcNeAt.tuples (A:=X.A) p1 p2 hu0 hv
   rw [e1,e2,dE] at z z'
   have e3:fD ds es=(ds.isEmpty && es.isEmpty):=by
    cases ds with
    | nil=>cases es<;>rfl
    | cons _ _=>cases es with
     | nil=>rfl
     | cons _ _=>cases hc
   rw [e3] at z z'
   exact⟨z,z'⟩
  ·split at e
   ·rename_i hc
    cases e
    have z:=SeqAt.RcAt.tuples (A:=X.A) p1 p2 hu0 (items h2 h4 rv rv2 hc.1 hc.2)
    have z':=SeqAt.RcNeAt.tuples (A:=X.A) p1 p2 hu0 (items h2 h4 rv rv2 hc.1 hc.2)
    rw [e1,e2,dE] at z z'
    exact⟨z,z'⟩
   ·cases e
 | .ls ds,.ls es,e=>
  simp only [eqK] at e
  obtain⟨a,vs,rfl,h1,h2⟩:=ra
  obtain⟨b,us,rfl,h3,h4⟩:=rb
  cases qa;cases qb
  obtain⟨its,rv,p1,_⟩:=I.list (.inl h1)
  obtain⟨its2,rv2,p2,_⟩:=I.list (.inl h3)
  have e1:its.toArray.size=ds.length:=by simp [<-rv.length,h2.length]
  have e2:its2.toArray.size=es.length:=by simp [<-rv2.length,h4.length]
  split at e
  ·rename_i hl
   split at e
   ·rename_i hc
    cases e
    have z:=SeqAt.RcAt.lists (A:=X.A) p1.isList p2.isList (by rw [e1,e2,hl]) hu0 (items h2 h4 rv rv2 hc.1 hc.2)
    have z':=SeqAt.RcNeAt.lists (A:=X.A) p1.isList p2.isList (by rw [e1,e2,hl]) hu0 (items h2 h4 rv rv2 hc.1 hc.2)
    rw [e1,gg hl] at z z'
    exact⟨z,z'⟩
   ·cases e
  ·rename_i hl
   cases e
   have z:=SeqAt.RcAt.lists_lengths (A:=X.A) p1.isList p2.isList (by rw [e1,e2];simpa using hl) hu0
   have z':=SeqAt.RcNeAt.lists_lengths (A:=X.A) p1.isList p2.isList (by rw [e1,e2];simpa using hl) hu0
   exact⟨z,z'⟩
 | .fl d,.tp es,e=>
  cases e
  obtain⟨f1,r1⟩:=ra
  obtain⟨b,us,rfl,h3,h4⟩:=rb
  cases qb
  obtain⟨its2,rv2,p2,_⟩:=I.tuple h3
  cases d with
  | non=>cases r1;cases qa;exact⟨SeqAt.RcAt.none_tuple p2 hu0,SeqAt.RcNeAt.none_tuple p2 hu0⟩
  | bl x=>cases r1;cases qa;exact⟨SeqAt.RcAt.bool_tuple x p2 hu0,SeqAt.RcNeAt.bool_tuple x p2 hu0⟩
  | int x=>cases r1;obtain⟨t,rfl⟩:=qa;exact⟨SeqAt.RcAt.int_tuple x t p2 hu0,SeqAt.RcNeAt.int_tuple x t p2 hu0⟩
  | str x=>cases r1;obtain⟨t,rfl⟩:=qa;exact⟨SeqAt.RcAt.str_tuple x t p2 hu0,SeqAt.RcNeAt.str_tuple x t p2 hu0⟩
  | _=>cases f1
 | .tp es,.fl d,e=>
  cases e
  obtain⟨f1,r1⟩:=rb
  obtain⟨b,us,rfl,h3,h4⟩:=ra
  cases qa
  obtain⟨its2,rv2,p2,_⟩:=I.tuple h3
  cases d with
  | non=>cases r1;cases qb;exact⟨SeqAt.RcAt.tuple_none p2 hu0,SeqAt.RcNeAt.tuple_none p2 hu0⟩
  | bl x=>cases r1;cases qb;exact⟨SeqAt.RcAt.tuple_bool x p2 hu0,SeqAt.RcNeAt.tuple_bool x p2 hu0⟩
  | int x=>cases r1;obtain⟨t,rfl⟩:=qb;exact⟨SeqAt.RcAt.tuple_int x t p2 hu0,SeqAt.RcNeAt.tuple_int x t p2 hu0⟩
  | str x=>cases r1;obtain⟨t,rfl⟩:=qb;exact⟨SeqAt.RcAt.tuple_str x t p2 hu0,SeqAt.RcNeAt.tuple_str x t p2 hu0⟩
  | _=>cases f1
 | .fl d,.ls es,e=>
  cases e
  obtain⟨f1,r1⟩:=ra
  obtain⟨b,us,rfl,h3,h4⟩:=rb
  cases qb
  obtain⟨its2,rv2,p2,_⟩:=I.list (.inl h3)
  replace p2:=p2.isList
  cases d with
  | non=>cases r1;cases qa;exact⟨SeqAt.RcAt.none_list p2 hu0,SeqAt.RcNeAt.none_list p2 hu0⟩
  | bl x=>cases r1;cases qa;exact⟨SeqAt.RcAt.bool_list x p2 hu0,SeqAt.RcNeAt.bool_list x p2 hu0⟩
  | int x=>cases r1;obtain⟨t,rfl⟩:=qa;exact⟨SeqAt.RcAt.int_list x t p2 hu0,SeqAt.RcNeAt.int_list x t p2 hu0⟩
  | str x=>cases r1;obtain⟨t,rfl⟩:=qa;exact⟨SeqAt.RcAt.str_list x t p2 hu0,SeqAt.RcNeAt.str_list x t p2 hu0⟩
  | _=>cases f1
 | .ls es,.fl d,e=>
  cases e
  obtain⟨f1,r1⟩:=rb
  obtain⟨b,us,rfl,h3,h4⟩:=ra
  cases qa
  obtain⟨its2,rv2,p2,_⟩:=I.list (.inl h3)
  replace p2:=p2.isList
  cases d with
  | non=>cases r1;cases qb;exact⟨SeqAt.RcAt.list_none p2 hu0,SeqAt.RcNeAt.list_none p2 hu0⟩
  | bl x=>cases r1;cases qb;exact⟨SeqAt.RcAt.list_bool x p2 hu0,SeqAt.RcNeAt.list_bool x p2 hu0⟩
  | int x=>cases r1;obtain⟨t,rfl⟩:=qb;exact⟨SeqAt.RcAt.list_int x t p2 hu0,SeqAt.RcNeAt.list_int x t p2 hu0⟩
  | str x=>cases r1;obtain⟨t,rfl⟩:=qb;exact⟨SeqAt.RcAt.list_str x t p2 hu0,SeqAt.RcNeAt.list_str x t p2 hu0⟩
  | _=>cases f1
 | .tp ds,.ls es,e=>
  cases e
  obtain⟨a,vs,rfl,h1,h2⟩:=ra
  obtain⟨b,us,rfl,h3,h4⟩:=rb
  cases qa;cases qb
  obtain⟨its,rv,p1,_⟩:=I.tuple h1
  obtain⟨its2,rv2,p2,_⟩:=I.list (.inl h3)
  exact⟨SeqAt.RcAt.tuple_list p1 p2.isList hu0,SeqAt.RcNeAt.tuple_list p1 p2.isList hu0⟩
 | .ls ds,.tp es,e=>
  cases e
  obtain⟨a,vs,rfl,h1,h2⟩:=ra
  obtain⟨b,us,rfl,h3,h4⟩:=rb
  cases qa;cases qb
  obtain⟨its,rv,p1,_⟩:=I.list (.inl h1)
  obtain⟨its2,rv2,p2,_⟩:=I.tuple h3
  exact⟨SeqAt.RcAt.list_tuple p1.isList p2 hu0,SeqAt.RcNeAt.list_tuple p1.isList p2 hu0⟩
theorem gh {k:Nat} (hr:cg k X.A) (hK:X.K=K:=by rfl):OpD K X (compareOp .Eq) dEq:=by
 subst hK
 refine⟨λst x y d h=>?_⟩
 simp only [dEq,Option.bind_eq_some_iff,Option.map_eq_some_iff] at h
 obtain⟨a,ha,b,hb,r,e,rfl⟩:=h
 intro pins s σ H vx vy v u Q I rx ry q
 obtain⟨φ,S,r1,r2,q⟩:=q
 exact (qM hr I (iX S r1 ha) (iX S r2 hb) rx ry e).1 _ _ _ _ ⟨.bl r,H,I,rfl,q _ H (aY.refl H) rfl⟩
theorem iD {k:Nat} (hr:cg k X.A) (hK:X.K=K:=by rfl):OpD K X (compareOp .NotEq) dNe:=by
 subst hK
 refine⟨λst x y d h=>?_⟩
 simp only [dNe,Option.bind_eq_some_iff,Option.map_eq_some_iff] at h
 obtain⟨a,ha,b,hb,r,e,rfl⟩:=h
 intro pins s σ H vx vy v u Q I rx ry q
 obtain⟨φ,S,r1,r2,q⟩:=q
 exact (qM hr I (iX S r1 ha) (iX S r2 hb) rx ry e).2 _ _ _ _ ⟨.bl (!r),H,I,rfl,q _ H (aY.refl H) rfl⟩
end
end L2
namespace L2
open PySem PySem.Spec PyProof.Rows
section
variable {K:PySem.W.Frag}{X:Cx}
noncomputable def dG:List D->Option (List Int)
 | []=>some []
 | .int i::ds=>(dG ds).map λr=>i::r
 | _=>none
theorem dP:∀ {ds:List D}{ns:List Int},dG ds=some ns->ds=ns.map D.int
 | [],_,h=>by cases h;rfl
 | .int i::ds,_,h=>by
  obtain⟨r,e,rfl⟩:=Option.map_eq_some_iff.mp h
  rw [dP e];rfl
 | .non::_,_,h=>by cases h
 | .bl _::_,_,h=>by cases h
 | .str _::_,_,h=>by cases h
 | .ty _::_,_,h=>by cases h
 | .dct::_,_,h=>by cases h
 | .scr _::_,_,h=>by cases h
 | .tup _::_,_,h=>by cases h
 | .lst _::_,_,h=>by cases h
theorem dI:∀ (ns:List Int),dG (ns.map D.int)=some ns
 | []=>rfl
 | n::ns=>by rw [List.map_cons,dG,dI ns];rfl
noncomputable def io:List D->Option (List Bool)
 | []=>some []
 | .bl i::ds=>(io ds).map λr=>i::r
 | _=>none
theorem iI:∀ {ds:List D}{ns:List Bool},io ds=some ns->ds=ns.map D.bl
 | [],_,h=>by cases h;rfl
 | .bl i::ds,_,h=>by
  obtain⟨r,e,rfl⟩:=Option.map_eq_some_iff.mp h
  rw [iI e];rfl
 | .non::_,_,h=>by cases h
 | .int _::_,_,h=>by cases h
 | .str _::_,_,h=>by cases h
 | .ty _::_,_,h=>by cases h
 | .dct::_,_,h=>by cases h
 | .scr _::_,_,h=>by cases h
 | .tup _::_,_,h=>by cases h
 | .lst _::_,_,h=>by cases h
theorem jX:∀ (ns:List Bool),io (ns.map D.bl)=some ns
 | []=>rfl
 | n::ns=>by rw [List.map_cons,io,jX ns];rfl
noncomputable def dq (st:Sto):List W->Option D
 | [.d (.str x)]=>if x.length<=1000000 then some (.int x.length) else none
 | [w]=>(fO st w).map λds=>.int ds.length
 | _=>none
noncomputable def i9 (_:Sto):List W->Option D
 | [.d (.int i)]=>some (.int (if i < 0 then -i else i))
 | _=>none
noncomputable def xB (_:Sto):List W->Option D
 | [.d (.int i),.d (.int j)]=>some (.int (if j < i then j else i))
 | _=>none
noncomputable def tV (_:Sto):List W->Option D
 | [.d (.int i)]=>some (.int i)
 | [.d (.bl k)]=>some (.int (if k then 1 else 0))
 | _=>none
noncomputable def wO (_:Sto):List W->Option D
 | [.d (.lst ds)]=>(io ds).map λns=>.bl (ns.all id)
 | _=>none
noncomputable def nG (st:Sto):List W->Option D
 | [w]=>(fO st w).map λds=>.tup ds
 | _=>none
noncomputable def xF (st:Sto):W->Option String
 | .d .non=>some "NoneType"
 | .d (.bl _)=>some "bool"
 | .d (.int _)=>some "int"
 | .d (.str _)=>some "str"
 | .d (.tup _)=>some "tuple"
 | .d (.lst _)=>some "list"
 | .d .dct=>some "dict"
 | .h n=>(lg st n).map λ_=>"list"
 | _=>none
noncomputable def wK (t c:String):Option Bool:=
 if c = "int" then some (t=="int" || t=="bool")
 else if c = "bool"\/c = "str"\/c = "tuple"\/c = "list" then some (t==c)
 else none
noncomputable def eA (st:Sto):List W->Option D
 | [w,.d (.ty c)]=>(xF st w).bind λt=>(wK t c).map λb=>.bl b
 | _=>none
theorem fu (hK:X.K=K:=by rfl):eF K X (.builtin "len") dq:=by
 subst hK
 refine⟨λst ws d h=>?_⟩
 have seq:∀ w,(fO st w).map (λds=>D.int ds.length)=some d->cz X (.builtin "len") (rCD X.K st [w] d):=λw h=>by
  obtain⟨ds,e,rfl⟩:=Option.map_eq_some_iff.mp h
  refine mh.imp ?_
  rintro vs H Q ⟨φ,S,⟨v,r,rfl,r1,rfl⟩,q⟩
  obtain⟨a,us,rfl,h1,h2⟩:=iW S r1 e
  exact⟨a,us,rfl,h1,q _ H (aY.refl H) (by rw [<-h2.length];rfl)⟩
 cases ws with
 | nil=>cases h
 | cons w tl=>
  cases tl with
  | cons _ _=>
   cases w with
   | h n=>cases h
   | d x=>cases x<;>cases h
  | nil=>
   cases w with
   | h n=>exact seq _ h
   | d x=>
    cases x with
    | str x=>
     simp only [dq] at h
     split at h
     ·rename_i hl
      cases h
      refine mt.imp ?_
      rintro vs H Q ⟨φ,S,⟨v,r,rfl,r1,rfl⟩,q⟩
      exact⟨x,by rw [show v=.str x from r1],Nat.le_trans hl mil,q _ H (aY.refl H) rfl⟩
     ·cases h
    | tup ds=>exact seq _ h
    | lst ds=>exact seq _ h
    | scr ds=>exact seq _ h
    | _=>cases h
theorem lQ:eF K X (.builtin "abs") i9:=by
 refine⟨λst ws d h=>?_⟩
 match ws,h with
 | [.d (.int i)],h=>
  cases h
  refine rK.imp ?_
  rintro vs H Q ⟨φ,S,⟨v,r,rfl,r1,rfl⟩,q⟩
  exact⟨i,by rw [show v=.int i from r1],q _ H (aY.refl H) rfl⟩
theorem wn (hc:X.calm=true:=by rfl):eF K X (.builtin "min") xB:=by
 refine⟨λst ws d h=>?_⟩
 match ws,h with
 | [.d (.int i),.d (.int j)],h=>
  cases h
  refine (pZ hc).imp ?_
  rintro vs H Q ⟨φ,S,⟨v,r,rfl,r1,u,r',rfl,r2,rfl⟩,q⟩
  exact⟨i,j,by rw [show v=.int i from r1,show u=.int j from r2],q _ H (aY.refl H) rfl⟩
theorem wx:eF K X (.type "int") tV:=by
 refine⟨λst ws d h=>?_⟩
 match ws,h with
 | [.d (.int i)],h=>
  cases h
  refine kI.imp ?_
  rintro vs H Q ⟨φ,S,⟨v,r,rfl,r1,rfl⟩,q⟩
  exact .inl ⟨i,by rw [show v=.int i from r1],q _ H (aY.refl H) rfl⟩
 | [.d (.bl i)],h=>
  cases h
  refine kI.imp ?_
  rintro vs H Q ⟨φ,S,⟨v,r,rfl,r1,rfl⟩,q⟩
  exact .inr ⟨i,by rw [show v=.bl i from r1],q _ H (aY.refl H) rfl⟩
theorem xR (hc:X.calm=true:=by rfl) (hK:X.K=K:=by rfl):eF K X (.builtin "all") wO:=by
 subst hK
 refine⟨λst ws d h=>?_⟩
 match ws,h with
 | [.d (.lst ds)],h=>
  obtain⟨ns,e,rfl⟩:=Option.map_eq_some_iff.mp h
  cases iI e
  refine (ya (K:=X.K) hc rfl).imp ?_
  rintro vs H Q ⟨φ,S,⟨v,r,rfl,⟨a,us,rfl,h0,h1,h2⟩,rfl⟩,q⟩
  cases h2.bools
  exact⟨a,ns,rfl,.inl h1,q _ H (aY.refl H) rfl⟩
theorem lw (hK:X.K=K:=by rfl):eF K X (.type "tuple") nG:=by
 subst hK
 refine⟨λst ws d h=>?_⟩
 match ws,h with
 | [w],h=>
  obtain⟨ds,e,rfl⟩:=Option.map_eq_some_iff.mp h
  refine kC.imp ?_
  rintro vs H Q ⟨φ,S,⟨v,r,rfl,r1,rfl⟩,q⟩
  obtain⟨a,us,rfl,h1,h2⟩:=nO S r1 e
  refine⟨a,us,rfl,?_⟩
  rcases h1 with h1 | h1
  ·exact .inl ⟨h1,λl hl=>q _ _ (aY.new hl _) ⟨l,us,rfl,aW,h2.fw S (Fw.new hl)⟩⟩
  ·exact .inr ⟨SqT.of h1,q _ H (aY.refl H) ⟨a,us,rfl,h1,h2⟩⟩
theorem d8 {t c:String}{b:Bool} (ht:t = "NoneType"\/t = "bool"\/t = "int"\/t = "str"\/t = "tuple"\/t = "list"\/t = "dict") (h:wK t c=some b):PySem.W.kitOne K (.type t) (.type c)=some b:=by
 unfold wK at h
 split at h
 ·rename_i hc
  subst hc
  rcases ht with rfl | rfl | rfl | rfl | rfl | rfl | rfl<;>(cases h;rfl)
 ·split at h
  ·rename_i _ hc
   rcases hc with rfl | rfl | rfl | rfl<;>rcases ht with rfl | rfl | rfl | rfl | rfl | rfl | rfl<;>(cases h;rfl)
  ·cases h
theorem fQ (hK:X.K=K:=by rfl):eF K X (.builtin "isinstance") eA:=by
 subst hK
 refine⟨λst ws d h=>?_⟩
 match ws,h with
 | [w,.d (.ty c)],h=>
  simp only [eA,Option.bind_eq_some_iff,Option.map_eq_some_iff] at h
  obtain⟨t,ht,b,hb,rfl⟩:=h
  intro pins s σ H xs us Q I rv q
  obtain⟨φ,S,⟨v,r,rfl,r1,u,r',rfl,r2,rfl⟩,q⟩:=q
  cases (show u=.ty c from r2)
  obtain⟨vv,uu,rfl,rv1,rv2⟩:=rv.two
  cases rv2
  have fin:∀ tk,EP X pins σ Q (.bool b) { s with toks:=tk }:=λtk=>⟨.bl b,H,I.tok tk,rfl,q _ H (aY.refl H) rfl⟩
  cases w with
  | h n=>
   obtain⟨a,ea,rfl⟩:=r1
   obtain⟨ds,eds,rfl⟩:=Option.map_eq_some_iff.mp ht
   obtain⟨vs,hv,_⟩:=S.atl n a ds ea eds
   exact ci I rv1 (.lst hv) (d8 (by simp) hb) fin
  | d x=>
   cases x with
   | non=>cases ht;cases r1;exact ci I rv1 .non (d8 (by simp) hb) fin
   | bl x=>cases ht;cases r1;exact ci I rv1 (.bl x) (d8 (by simp) hb) fin
   | int x=>cases ht;cases r1;exact ci I rv1 (.int x) (d8 (by simp) hb) fin
   | str x=>cases ht;cases r1;exact ci I rv1 (.str x) (d8 (by simp) hb) fin
   | lst ds=>
    cases ht
    obtain⟨a,vs,rfl,h0,h1,h2⟩:=r1
    rcases h1 with h1 | ⟨o,h1⟩
    ·exact ci I rv1 (.lst h1) (d8 (by simp) hb) fin
    ·exact ci I rv1 (.frz h1) (d8 (by simp) hb) fin
   | tup ds=>
    cases ht
    obtain⟨a,vs,rfl,h1,h2⟩:=r1
    cases rv1
    obtain⟨its,_,p,_⟩:=I.tuple (SqT.of h1)
    obtain⟨o,e1,e2,_⟩:=p
    exact PySem.W.kia_one PySem.W.kitx_tuple I.kIn ⟨o,e1,e2⟩ (d8 (by simp) hb) (λz=>nomatch z) fin
   | dct=>
    cases ht
    obtain⟨a,rfl,_,h1⟩:=r1
    rcases h1 with⟨d,h1⟩ | ⟨d,h1⟩
    ·exact ci I rv1 (.dK h1) (d8 (by simp) hb) fin
    ·exact ci I rv1 (.dT h1) (d8 (by simp) hb) fin
   | ty x=>cases ht
   | scr x=>cases ht
variable {e a b:Expr}{es:List Expr}{pos:Pos}{f fa fb:Ef}{af:Af}
theorem iA {x:Str}{c:String} (hg:Gl X x) (hm:X.mg x=none) (hv:bootBuiltins x=some (.type c)) (hn:x≠"__name__":=by decide) (hd:(x==("__debug__" : Str))=false:=by decide):IE K X (.Name x pos) (iC (.ty c)):=
 p9 (v:=.ty c) (uP hg hm hv rfl hn hd) λ_ _=>rfl
theorem gx {x:Str}{d:D}{v:V}{u:Value} (hg:Gl X x) (hm:X.mg x=some u) (r:az v u) (h:∀ H φ,Rl K H φ d v) (hd:(x==("__debug__" : Str))=false:=by decide):IE K X (.Name x pos) (iC d):=
 p9 (pK hg hm r hd) h
end
end L2
namespace L2
open PySem PySem.Spec PyProof.Rows
section
variable {K:PySem.W.Frag}{X:Cx}{e a b:Expr}{es:List Expr}{pos:Pos}{f fa fb:Ef}{af:Af}
noncomputable def lv (ds:List D) (o:Obj):Bool:=(o.cls==.type "tuple" && o.dict.isNone) && (ds.all cx && match o.data with
 | .seq its _=>decide (its.size<=1000) && its.toList.map sZ==(ds.map vOf).map some
 | _=>false)
theorem qJ {v:Value}{x:V} (h:sZ v=some x):az x v:=by
 cases v<;>first | (cases h;exact rfl) | (cases h;exact⟨_,rfl⟩) | cases h
theorem nT:∀ {xs:List V}{us:List Value},us.map sZ=xs.map some->aA xs us
 | [],[],_=>.nil
 | [],_::_,h=>nomatch h
 | _::_,[],h=>nomatch h
 | n::ns,u::us,h=>by
  rw [List.map_cons,List.map_cons] at h
  injection h with h1 h2
  exact .cons (qJ h1) (nT h2)
theorem iG {H:Hp}{φ:List Addr}:∀ {ds:List D},ds.all cx=true->Rls K H φ ds (ds.map vOf)
 | [],_=>rfl
 | d::ds,h=>by
  rw [List.all_cons,Bool.and_eq_true] at h
  refine⟨_,_,rfl,?_,iG h.2⟩
  cases d<;>first | exact rfl | cases h.1
theorem u9 {H:Hp}{ad:Addr}{ns:List Int}{m:Fn} (hO:tF H) (hS:SqL K H ad (ns.map V.int)) (h:∃ st,m [.d (.scr ns)] []=some (.d (.bl true),st)):spI K m [.ref ad] H (λv _=>v=.bl true) λ_ _ _=>False:=by
 obtain⟨st,h⟩:=h
 refine⟨[],[],[.d (.scr ns)],_,h,⟨_,[],rfl,⟨ad,rfl,?_⟩,rfl⟩,⟨List.nodup_nil,rfl,λn a ds e=>by simp at e⟩,λv H' φ' _ _ r=>r⟩
 rcases hS with (h | h) | h
 ·rcases hO ad with z | ⟨o,xs,z⟩
  ·rw [h] at z;cases z
  ·rw [h] at z;cases z
 ·exact .inl h
 ·exact .inr h
end
end L2
namespace L2
open PySem
theorem gN {g:Tg}{body:Sf}:∀ {ds:List D} (Pv:Nat->Ev->Sto->Prop) {env:Ev}{st:Sto},Pv 0 env st->
  (∀ i d env st,ds[i]?=some d->Pv i env st->∃ e1 e2 s2,dr g (.d d) env=some e1/\(body e1 st=some (.nx e2 s2)\/body e1 st=some (.ct e2 s2))/\Pv (i+1) e2 s2)->
  ∃ env' st',dz g body ds env st=some (.nx env' st')/\Pv ds.length env' st'
 | [],Pv,env,st,h0,_=>⟨env,st,rfl,h0⟩
 | d::ds,Pv,env,st,h0,hs=>by
  obtain⟨e1,e2,s2,h1,h2,h3⟩:=hs 0 d env st rfl h0
  obtain⟨e',s',h4,h5⟩:=gN (g:=g) (body:=body) (ds:=ds) (λi=>Pv (i+1)) h3 λi d' env' st' hd p=>hs (i+1) d' env' st' (by simpa using hd) p
  refine⟨e',s',?_,h5⟩
  unfold dz
  rw [h1,Option.bind_some]
  rcases h2 with h2 | h2<;>(rw [h2,Option.bind_some];exact h4)
theorem mx {g:Tg}{tt:Tf}{te:Ef}{env:Ev}:∀ {ds:List D} (Pv:Nat->List D->Sto->Prop) {st:Sto}{ys0:List D},Pv 0 ys0 st->
  (∀ i d ys st,ds[i]?=some d->Pv i ys st->∃ e1,dr g (.d d) env=some e1/\((∃ s1 x s2,tt e1 st=some (true,s1)/\te e1 s1=some (.d x,s2)/\Pv (i+1) (ys++[x]) s2)\/∃ s1,tt e1 st=some (false,s1)/\Pv (i+1) ys s1))->
  ∃ ys st',lcI g tt te env ds st=some (ys,st')/\Pv ds.length (ys0++ys) st'
 | [],Pv,st,ys0,h0,_=>⟨[],st,rfl,by rw [List.append_nil];exact h0⟩
 | d::ds,Pv,st,ys0,h0,hs=>by
  obtain⟨e1,h1,h2⟩:=hs 0 d ys0 st rfl h0
  rcases h2 with⟨s1,x,s2,h2,h3,h4⟩ | ⟨s1,h2,h4⟩
  ·obtain⟨ys,s',h5,h6⟩:=mx (g:=g) (tt:=tt) (te:=te) (env:=env) (ds:=ds) (λi=>Pv (i+1)) h4 λi d' ys' st' hd p=>hs (i+1) d' ys' st' (by simpa using hd) p
   refine⟨x::ys,s',?_,by simpa using h6⟩
   unfold lcI
   rw [h1,Option.bind_some,h2,Option.bind_some,if_pos rfl,h3,Option.bind_some,h5]
   rfl
  ·obtain⟨ys,s',h5,h6⟩:=mx (g:=g) (tt:=tt) (te:=te) (env:=env) (ds:=ds) (λi=>Pv (i+1)) h4 λi d' ys' st' hd p=>hs (i+1) d' ys' st' (by simpa using hd) p
   refine⟨ys,s',?_,by simpa using h6⟩
   unfold lcI
   rw [h1,Option.bind_some,h2,Option.bind_some,if_neg Bool.false_ne_true,h5]
theorem jx {g:Tg}{tt:Tf}{te:Ef}{env:Ev}{st:Sto} (p:D->Bool) (F:D->D):∀ {ds:List D},(∀ d ∈ ds,∃ e1,dr g (.d d) env=some e1/\tt e1 st=some (p d,st)/\(p d=true->te e1 st=some (.d (F d),st)))->
  lcI g tt te env ds st=some ((ds.filter p).map F,st)
 | [],_=>rfl
 | d::ds,h=>by
  obtain⟨e1,h1,h2,h3⟩:=h d List.mem_cons_self
  have ih:=jx (g:=g) (tt:=tt) (te:=te) (env:=env) (st:=st) p F (ds:=ds) λx hx=>h x (List.mem_cons_of_mem _ hx)
  unfold lcI
  rw [h1,Option.bind_some,h2,Option.bind_some]
  cases hp:p d with
  | true=>rw [if_pos rfl,h3 hp,Option.bind_some,ih,List.filter_cons,hp];rfl
  | false=>rw [if_neg Bool.false_ne_true,ih,List.filter_cons,hp];rfl
theorem mO {g:Tg}{te:Ef}{env:Ev}{st:Sto} (F:D->D) {ds:List D} (h:∀ d ∈ ds,∃ e1,dr g (.d d) env=some e1/\te e1 st=some (.d (F d),st)):lcI g cC te env ds st=some (ds.map F,st):=by
 have:=jx (g:=g) (tt:=cC) (te:=te) (env:=env) (st:=st) (λ_=>true) F (ds:=ds) λd hd=>by
  obtain⟨e1,h1,h2⟩:=h d hd
  exact⟨e1,h1,rfl,λ_=>h2⟩
 rw [this,List.filter_eq_self.mpr λ_ _=>rfl]
noncomputable def cj (st:Sto) (n:Nat):Prop:=∃ x y z:Int,0<=x/\st[n]?=some (.l [.int x,.int y,.int z])
noncomputable def Stp (n:Nat) (st st':Sto):Prop:=(∃ v,st'=st.set n v)/\cj st' n
theorem cj.lt {st:Sto}{n:Nat} (h:cj st n):n < st.length:=by
 obtain⟨x,y,z,_,e⟩:=h
 exact (List.getElem?_eq_some_iff.mp e).1
theorem Stp.refl {st:Sto}{n:Nat} (h:cj st n):Stp n st st:=by
 obtain⟨x,y,z,h0,e⟩:=id h
 exact⟨⟨_,(List.set_getElem_self (h.lt)).symm⟩,h⟩
theorem Stp.trans {n:Nat}{a b c:Sto} (h:Stp n a b) (h':Stp n b c):Stp n a c:=by
 obtain⟨⟨v,rfl⟩,_⟩:=h
 obtain⟨⟨u,rfl⟩,q⟩:=h'
 exact⟨⟨u,by rw [List.set_set]⟩,q⟩
theorem Stp.hand {n:Nat}{a b:Sto} (h:Stp n a b):cj b n:=h.2
theorem Stp.len {n:Nat}{a b:Sto} (h:Stp n a b):b.length=a.length:=by obtain⟨⟨v,rfl⟩,_⟩:=h;rw [List.length_set]
theorem mI {a b:Int} (h:-(2 ^ 64) < a/\a < 2 ^ 64):PySem.IntMulOk a b:=rY.ok (.inl h)
theorem mR {a b:Int} (h:-(2 ^ 64) < b/\b < 2 ^ 64):PySem.IntMulOk a b:=rY.ok (.inr h)
theorem lC {st:Sto}{n:Nat}{v:C} (h:n < st.length):(st.set n v)[n]?=some v:=List.getElem?_set_self h
theorem uz {α:Type} (a:α) (l:List α):atI (a::l) 0=some a:=gU (j:=0) rfl
theorem zp {α:Type} (a b:α) (l:List α):atI (a::b::l) 1=some b:=gU (j:=1) rfl
theorem zK {α:Type} (a b c:α) (l:List α):atI (a::b::c::l) 2=some c:=gU (j:=2) rfl
theorem yI (n:Nat):ixN (n+1) 0=some 0:=lu (j:=0) (by lia)
theorem zG (n:Nat):ixN (n+2) 1=some 1:=lu (j:=1) (by lia)
theorem zw (n:Nat):ixN (n+3) 2=some 2:=lu (j:=2) (by lia)
end L2
namespace L2
open PySem
theorem cj.app {st:Sto}{n:Nat} (h:cj st n) (u:Sto):cj (st++u) n:=by
 obtain⟨x,y,z,h0,e⟩:=id h
 exact⟨x,y,z,h0,by rw [List.getElem?_append_left h.lt];exact e⟩
theorem Stp.unapp {n:Nat}{a s:Sto}{u:Sto} (hn:n < a.length) (h:Stp n (a++u) s):∃ b,s=b++u/\Stp n a b:=by
 obtain⟨⟨v,rfl⟩,x,y,z,h0,e⟩:=h
 rw [List.set_append_left _ _ hn] at e ⊢
 exact⟨_,rfl,⟨v,rfl⟩,x,y,z,h0,by rw [List.getElem?_append_left (by rw [List.length_set];exact hn)] at e;exact e⟩
theorem i4 {n i:Nat}{d:D} (h:(ft 0 n)[i]?=some d):d=.int (i:Int)/\i < n:=by
 rw [mV] at h
 by_cases hi:i < n
 ·rw [if_pos hi] at h
  cases h
  exact⟨by rw [Int.zero_add],hi⟩
 ·rw [if_neg hi] at h;cases h
end L2
namespace L2
open PySem PySem.Spec PyProof.Rows
noncomputable def ym:Nat->Nat->StateT SortSt Sem (Option Nat):=sortPriv% PySem.Builtin.countRun
noncomputable def xv:Nat->Nat->Nat->StateT SortSt Sem Bool:=sortPriv% PySem.Builtin.binarySort
noncomputable def mP:Bool->Keyed->Array Keyed->Nat->Nat->Nat->StateT SortSt Sem (Option Nat):=sortPriv% PySem.Builtin.gallop
noncomputable def y7:Array Keyed->Array Keyed->StateT SortSt Sem (Array Keyed):=sortPriv% PySem.Builtin.mergeLo
noncomputable def yQ:Array Keyed->Array Keyed->StateT SortSt Sem (Array Keyed):=sortPriv% PySem.Builtin.mergeHi
noncomputable def vz:Nat->StateT SortSt Sem Bool:=sortPriv% PySem.Builtin.mergeAt
abbrev wV (st:SortSt) (g:Nat):SortSt:=SortSt.mk' (kindOf st) (arrOf st) (pendingOf st) g (failedOf st)
noncomputable def Cm (prog:Program) (w:World) (A:Around) (s:Shared) (κ:SortKind) (O:KeyOrd) (rk:Keyed->O.α) (S:Keyed->Prop):Prop:=
 ∀ x y,S x->S y->∀ (Q:Bool->Shared->Prop) (E:Value->Shared->Prop),Q (O.blt (rk x) (rk y)) s->wpAny (model prog w) A (keyLt' κ x.1 y.1) Q E s
section
variable {prog:Program}{w:World}{A:Around}{E:Value->Shared->Prop}{s:Shared}{κ:SortKind}{O:KeyOrd}{rk:Keyed->O.α}{S:Keyed->Prop}
theorem no (hC:Cm prog w A s κ O rk S) {x y:Keyed}{st:SortSt}{Q:Option Bool->SortSt->Prop} (hk:kindOf st=κ) (hx:S x) (hy:S y) (h:Q (some (O.blt (rk x) (rk y))) st) :
  wpS (model prog w) A E s (lt' x y) Q st:=by
 rw [lt'_eq]
 refine wpS_bind (wpS_get ?_)
 rw [hk]
 exact wpS_bind (wpS_lift (wpAny_attempt (hC x y hx hy _ _ ⟨rfl,wpS_pure h⟩)))
theorem aT {c:Prop} [Decidable c] {M:Model}{A':Around}{E':Value->Shared->Prop}{s':Shared}{α:Type}{a b:StateT SortSt Sem α}{Q:α->SortSt->Prop}{st:SortSt} (h:c) (k:wpS M A' E' s' a Q st):wpS M A' E' s' (if c then a else b) Q st:=by rw [if_pos h];exact k
theorem aH {c:Prop} [Decidable c] {M:Model}{A':Around}{E':Value->Shared->Prop}{s':Shared}{α:Type}{a b:StateT SortSt Sem α}{Q:α->SortSt->Prop}{st:SortSt} (h:¬ c) (k:wpS M A' E' s' b Q st):wpS M A' E' s' (if c then a else b) Q st:=by rw [if_neg h];exact k
theorem aS {arr:Array Keyed}{i:Nat}{x:Keyed}{st:SortSt}{Q:Keyed->SortSt->Prop} (hi:arr[i]?=some x) (h:Q x st):wpS (model prog w) A E s (elem' arr i) Q st:=by
 rw [elem'_eq,hi];exact wpS_pure h
theorem eV {t:String}{st:SortSt}{Q:Unit->SortSt->Prop} (h:Q () st):wpS (model prog w) A E s (liftM (rule t):StateT SortSt Sem Unit) Q st:=wpS_lift (wpAny_rule ⟨rfl,h⟩)
noncomputable def kyd (arr:Array Keyed) (i:Nat):Keyed:=(arr[i]?).getD (.none,.none)
theorem aG {arr:Array Keyed}{i:Nat} (h:i < arr.size):arr[i]?=some (kyd arr i):=by
 unfold kyd;simp [h]
theorem cr {a b:Array Keyed}{i j:Nat} (h:a[i]?=b[j]?):kyd a i=kyd b j:=by
 unfold kyd;rw [h]
theorem vm (hC:Cm prog w A s κ O rk S) {i j:Nat}{st:SortSt}{Q:Option Bool->SortSt->Prop} (hk:kindOf st=κ) (hi:i < (arrOf st).size) (hj:j < (arrOf st).size) (hx:S (kyd (arrOf st) i)) (hy:S (kyd (arrOf st) j))
  (h:Q (some (O.blt (rk (kyd (arrOf st) i)) (rk (kyd (arrOf st) j)))) st):wpS (model prog w) A E s (ltAt' i j) Q st:=by
 rw [ltAt'_eq]
 refine wpS_bind (wpS_get ?_)
 exact wpS_bind (aS (aG hi) (wpS_bind (aS (aG hj) (no hC hk hx hy h))))
structure SB (κ:SortKind) (a0:Array Keyed) (lo:Nat) (p0:Array (Nat×Nat×Nat)) (g0:Nat) (st:SortSt):Prop where
 perm:(arrOf st).Perm a0
 pre:∀ k,k < lo->(arrOf st)[k]?=a0[k]?
 kind:kindOf st=κ
 fail:failedOf st=none
 pend:pendingOf st=p0
 gal:gallopOf st=g0
variable {a0:Array Keyed}{lo:Nat}{p0:Array (Nat×Nat×Nat)}{g0:Nat}{st:SortSt}
theorem SB.size (h:SB κ a0 lo p0 g0 st):(arrOf st).size=a0.size:=h.perm.size_eq
theorem SB.mem (h:SB κ a0 lo p0 g0 st) (hS:∀ x ∈ a0.toList,S x) {i:Nat} (hi:i < a0.size):S (kyd (arrOf st) i):=by
 have hi':i < (arrOf st).size:=by rw [h.size];exact hi
 refine hS _ ((Array.perm_iff_toList_perm.mp h.perm).mem_iff.mp ?_)
 have e:=aG hi'
 rw [Array.getElem?_eq_getElem hi'] at e
 rw [<-Option.some.inj e]
 exact Array.getElem_mem_toList hi'
theorem SB.set (h:SB κ a0 lo p0 g0 st) {xs:Array Keyed} (hp:xs.Perm (arrOf st)) (hl:∀ k,k < lo->xs[k]?=(arrOf st)[k]?):SB κ a0 lo p0 g0 (setArr st xs):=
 ⟨hp.trans h.perm,λk hk=>(hl k hk).trans (h.pre k hk),h.kind,h.fail,h.pend,h.gal⟩
theorem pz (hC:Cm prog w A s κ O rk S) (hS:∀ x ∈ a0.toList,S x) (hB:SB κ a0 lo p0 g0 st) {i j:Nat}{Q:Option Bool->SortSt->Prop} (hi:i < a0.size) (hj:j < a0.size)
  (h:Q (some (O.blt (rk (kyd (arrOf st) i)) (rk (kyd (arrOf st) j)))) st):wpS (model prog w) A E s (ltAt' i j) Q st:=
 vm hC hB.kind (by rw [hB.size];exact hi) (by rw [hB.size];exact hj) (hB.mem hS hi) (hB.mem hS hj) h
noncomputable def Up (rk:Keyed->O.α) (arr:Array Keyed) (lo n:Nat):Prop:=∀ i j,lo<=i->i<=j->j < lo+n->O.kle (rk (kyd arr i)) (rk (kyd arr j))
noncomputable def fm (rk:Keyed->O.α) (arr:Array Keyed) (lo n:Nat):Prop:=∀ i j,lo<=i->i<=j->j < lo+n->O.kle (rk (kyd arr j)) (rk (kyd arr i))
theorem gp {xs:Array Keyed}{i j:Nat} (hj:j<=xs.size) (k:Nat):kyd (mirror xs i j ((j - i) / 2)) k=if i<=k/\k < j then kyd xs (i+j - 1 - k) else kyd xs k:=by
 have e:=getElem?_mirror_all (i:=i) hj k
 by_cases h1:i<=k/\k < j
 ·rw [if_pos h1] at e ⊢;exact cr e
 ·rw [if_neg h1] at e ⊢;exact cr e
theorem je {xs:Array Keyed}{src d:Nat} (hs:src < xs.size) (hd:d<=src) (k:Nat) :
  kyd (bubble xs src d) k=if k=src - d then kyd xs src else if src - d < k/\k<=src then kyd xs (k - 1) else kyd xs k:=by
 have e:=getElem?_bubble hs d hd k
 by_cases h1:k=src - d
 ·rw [if_pos h1] at e ⊢;exact cr e
 ·rw [if_neg h1] at e ⊢
  by_cases h2:src - d < k/\k<=src
  ·rw [if_pos h2] at e ⊢;exact cr e
  ·rw [if_neg h2] at e ⊢;exact cr e
theorem SB.rev (hB:SB κ a0 lo p0 g0 st) {i j:Nat} (hi:lo<=i) (hj:j<=a0.size):SB κ a0 lo p0 g0 (setArr st (mirror (arrOf st) i j ((j - i) / 2))):=
 hB.set (mirror_perm _ _ _ _) λk hk=>by
  rw [getElem?_mirror_all (by rw [hB.size];exact hj),if_neg (by lia)]
theorem fv {xs:Array Keyed}{i j:Nat} (hj:j<=xs.size) (he:∀ k,i<=k->k < j->rk (kyd xs k)=rk (kyd xs (j - 1))) (k:Nat):rk (kyd (mirror xs i j ((j - i) / 2)) k)=rk (kyd xs k):=by
 rw [gp hj]
 split
 ·rw [he (i+j - 1 - k) (by lia) (by lia),he k (by lia) (by lia)]
 ·rfl
theorem mN {i j:Nat}{Q:Unit->SortSt->Prop} (h:Q () (setArr st (mirror (arrOf st) i j ((j - i) / 2)))):wpS (model prog w) A E s (reverseSlice' i j) Q st:=by
 rw [reverseSlice'_eq];exact wpS_modify h
theorem Up.more {arr:Array Keyed}{n:Nat} (h:Up rk arr lo n) (h1:1<=n) (hl:O.kle (rk (kyd arr (lo+n - 1))) (rk (kyd arr (lo+n)))):Up rk arr lo (n+1):=by
 intro i j hi hij hj
 by_cases hjx:j < lo+n
 ·exact h i j hi hij hjx
 ·have hj':j=lo+n:=by lia
  subst hj'
  by_cases hi':i=lo+n
  ·subst hi';exact KeyOrd.kle_refl _
  ·exact KeyOrd.kle_trans (h i (lo+n - 1) hi (by lia) (by lia)) hl
theorem fm.more {arr:Array Keyed}{n:Nat} (h:fm rk arr lo n) (h1:1<=n) (hl:O.kle (rk (kyd arr (lo+n))) (rk (kyd arr (lo+n - 1)))):fm rk arr lo (n+1):=by
 intro i j hi hij hj
 by_cases hjx:j < lo+n
 ·exact h i j hi hij hjx
 ·have hj':j=lo+n:=by lia
  subst hj'
  by_cases hi':i=lo+n
  ·subst hi';exact KeyOrd.kle_refl _
  ·exact KeyOrd.kle_trans hl (h i (lo+n - 1) hi (by lia) (by lia))
theorem Up.one {arr:Array Keyed}:Up rk arr lo 1:=λi j hi hij hj=>by
 have:i=j:=by lia
 subst this;exact KeyOrd.kle_refl _
theorem fm.congr {xs ys:Array Keyed}{n:Nat} (h:fm rk xs lo n) (e:∀ k,rk (kyd ys k)=rk (kyd xs k)):fm rk ys lo n:=λi j hi hij hj=>by
 rw [e,e];exact h i j hi hij hj
end
end L2
namespace L2
open PySem PySem.Spec PyProof.Rows
section
variable {prog:Program}{w:World}{A:Around}{E:Value->Shared->Prop}{s:Shared}{κ:SortKind}{O:KeyOrd}{rk:Keyed->O.α}{S:Keyed->Prop}
variable {a0:Array Keyed}{lo:Nat}{p0:Array (Nat×Nat×Nat)}{g0:Nat}{st:SortSt}
theorem rO {n0 nrem:Nat}{f:Nat->Option (Option Nat)×Nat->StateT SortSt Sem (ForInStep (Option (Option Nat)×Nat))}{Q:Option (Option Nat)×Nat->SortSt->Prop}
  (hf:∀ x n (Q':ForInStep (Option (Option Nat)×Nat)->SortSt->Prop),1<=n->n < nrem->(O.blt (rk (kyd (arrOf st) (lo+n))) (rk (kyd (arrOf st) (lo+n - 1)))=true->Q' (.done (none,n)) st)->
    (O.blt (rk (kyd (arrOf st) (lo+n))) (rk (kyd (arrOf st) (lo+n - 1)))=false->Q' (.yield (none,n+1)) st)->wpS (model prog w) A E s (f x (none,n)) Q' st)
  (h1:1<=n0) (hn:n0<=nrem) (hu:Up rk (arrOf st) lo n0)
  (h:∀ n,n0<=n->n<=nrem->Up rk (arrOf st) lo n->(n=nrem\/O.klt (rk (kyd (arrOf st) (lo+n))) (rk (kyd (arrOf st) (lo+n - 1))))->Q (none,n) st):wpS (model prog w) A E s (forIn [n0:nrem] (none,n0) f) Q st:=by
 refine wpS_forRange (I:=λx c st'=>st'=st/\c=(none,x)/\Up rk (arrOf st) lo x) ?_ ?_ ⟨rfl,rfl,hu⟩
 ·rintro x c st' hx hxn ⟨rfl,rfl,hs⟩
  exact hf x x _ (by lia) hxn (λhl=>h x hx (by lia) hs (.inr hl)) λhl=>⟨rfl,rfl,hs.more (by lia) hl⟩
 ·rintro c st' ⟨rfl,rfl,hs⟩
  rw [show max n0 nrem=nrem by lia] at hs ⊢
  exact h nrem hn (Nat.le_refl _) hs (.inl rfl)
noncomputable def Eqs (rk:Keyed->O.α) (arr:Array Keyed) (lo m q:Nat):Prop:=q+1<=m/\∀ i,lo+m - (q+1)<=i->i < lo+m->rk (kyd arr i)=rk (kyd arr (lo+m - 1))
theorem tX {n0 nrem:Nat}{f:Nat->Option (Option Nat)×Nat×Nat->StateT SortSt Sem (ForInStep (Option (Option Nat)×Nat×Nat))}{Q:Option (Option Nat)×Nat×Nat->SortSt->Prop}
  (hf:∀ x n q st' (Q':ForInStep (Option (Option Nat)×Nat×Nat)->SortSt->Prop),1<=n->n < nrem->SB κ a0 lo p0 g0 st'->
    (O.blt (rk (kyd (arrOf st') (lo+n))) (rk (kyd (arrOf st') (lo+n - 1)))=true->0 < q->Q' (.yield (none,n+1,0)) (setArr st' (mirror (arrOf st') (lo+n - (q+1)) (lo+n) ((lo+n - (lo+n - (q+1))) / 2))))->
    (O.blt (rk (kyd (arrOf st') (lo+n))) (rk (kyd (arrOf st') (lo+n - 1)))=true->q=0->Q' (.yield (none,n+1,0)) st')->
    (O.blt (rk (kyd (arrOf st') (lo+n - 1))) (rk (kyd (arrOf st') (lo+n)))=true->Q' (.done (none,n,q)) st')->
    (O.blt (rk (kyd (arrOf st') (lo+n))) (rk (kyd (arrOf st') (lo+n - 1)))=false->O.blt (rk (kyd (arrOf st') (lo+n - 1))) (rk (kyd (arrOf st') (lo+n)))=false->Q' (.yield (none,n+1,q+1)) st')->
    wpS (model prog w) A E s (f x (none,n,q)) Q' st')
  (h1:1<=n0) (hn:n0<=nrem) (hz:lo+nrem<=a0.size) (hB:SB κ a0 lo p0 g0 st) (hd:fm rk (arrOf st) lo n0)
  (h:∀ n q st',n0<=n->n<=nrem->SB κ a0 lo p0 g0 st'->fm rk (arrOf st') lo n->Eqs rk (arrOf st') lo n q->Q (none,n,q) st'):wpS (model prog w) A E s (forIn [n0:nrem] (none,n0,0) f) Q st:=by
 have one:∀ (arr:Array Keyed) m,1<=m->Eqs rk arr lo m 0:=λarr m hm=>⟨by lia,λi h1 h2=>by rw [show i=lo+m - 1 by lia]⟩
 refine wpS_forRange (I:=λx c st'=>∃ q,c=(none,x,q)/\SB κ a0 lo p0 g0 st'/\fm rk (arrOf st') lo x/\Eqs rk (arrOf st') lo x q) ?_ ?_ ⟨0,rfl,hB,hd,one _ _ h1⟩
 ·rintro x c st' hx hxn ⟨q,rfl,hB',hs,he⟩
  have hsz:lo+x<=(arrOf st').size:=by rw [hB'.size];lia
  refine hf x x q st' _ (by lia) hxn hB' (λhl hq=>?_) (λhl hq=>?_) (λhl=>h x q st' hx (by lia) hB' hs he) λhl hl2=>?_
  ·have e:=fv (rk:=rk) (xs:=arrOf st') (i:=lo+x - (q+1)) (j:=lo+x) hsz he.2
   exact⟨0,rfl,hB'.rev (by have:=he.1;lia) (by lia),fm.congr (hs.more (by lia) (KeyOrd.kle_of_klt hl)) e,one _ _ (by lia)⟩
  ·exact⟨0,rfl,hB',hs.more (by lia) (KeyOrd.kle_of_klt hl),one _ _ (by lia)⟩
  ·have eq:rk (kyd (arrOf st') (lo+x))=rk (kyd (arrOf st') (lo+x - 1)):=KeyOrd.kle_antisymm hl2 hl
   refine⟨q+1,rfl,hB',hs.more (by lia) (by rw [eq];exact KeyOrd.kle_refl _),by have:=he.1;lia,λi h1 h2=>?_⟩
   rw [show lo+(x+1) - 1=lo+x by lia,eq]
   by_cases hi:i=lo+x
   ·rw [hi,eq]
   ·exact he.2 i (by lia) (by lia)
 ·rintro c st' ⟨q,rfl,hB',hs,he⟩
  rw [show max n0 nrem=nrem by lia] at hs he ⊢
  exact h nrem q st' hn (Nat.le_refl _) hB' hs he
theorem wT {m nrem:Nat}{f:Nat->Option (Option Nat)×Nat->StateT SortSt Sem (ForInStep (Option (Option Nat)×Nat))}{k:Option (Option Nat)×Nat->StateT SortSt Sem (Option Nat)}{Q:Option Nat->SortSt->Prop}
  (hB:SB κ a0 lo p0 g0 st) (hd:fm rk (arrOf st) lo m) (h1:1<=m) (hm:m<=nrem) (hz:lo+nrem<=a0.size)
  (hf:∀ x n (Q':ForInStep (Option (Option Nat)×Nat)->SortSt->Prop) st4,SB κ a0 lo p0 g0 st4->1<=n->n < nrem->(O.blt (rk (kyd (arrOf st4) (lo+n))) (rk (kyd (arrOf st4) (lo+n - 1)))=true->Q' (.done (none,n)) st4)->
    (O.blt (rk (kyd (arrOf st4) (lo+n))) (rk (kyd (arrOf st4) (lo+n - 1)))=false->Q' (.yield (none,n+1)) st4)->wpS (model prog w) A E s (f x (none,n)) Q' st4)
  (hk:∀ n st4,SB κ a0 lo p0 g0 st4->1<=n->n<=nrem->Up rk (arrOf st4) lo n->wpS (model prog w) A E s (k (none,n)) Q st4) :
  wpS (model prog w) A E s (do reverseSlice' lo (lo+m);let r <-forIn [m:nrem] (none,m) f;k r) Q st:=by
 refine wpS_bind (mN ?_)
 have hB4:=hB.rev (i:=lo) (j:=lo+m) (Nat.le_refl _) (by lia)
 refine wpS_bind (rO (rk:=rk) (lo:=lo) (λx n Q' hn1 hn2 hy hno=>hf x n Q' _ hB4 hn1 hn2 hy hno) h1 hm ?_ λn' hn1' hn2' hu' _=>hk n' _ hB4 (by lia) hn2' hu')
 intro i j hi hij hj
 have hs3:lo+m<=(arrOf st).size:=by rw [hB.size];lia
 show O.kle (rk (kyd (mirror (arrOf st) lo (lo+m) ((lo+m - lo) / 2)) i)) (rk (kyd (mirror (arrOf st) lo (lo+m) ((lo+m - lo) / 2)) j))
 rw [gp hs3,gp hs3,if_pos (by lia),if_pos (by lia)]
 exact hd _ _ (by lia) (by lia) (by lia)
set_option maxHeartbeats 1000000 in
theorem pQ (hC:Cm prog w A s κ O rk S) (hS:∀ x ∈ a0.toList,S x) {nrem:Nat}{Q:Option Nat->SortSt->Prop} (hB:SB κ a0 lo p0 g0 st) (h1:1<=nrem) (hz:lo+nrem<=a0.size)
  (h:∀ m st',SB κ a0 lo p0 g0 st'->1<=m->m<=nrem->Up rk (arrOf st') lo m->Q (some m) st'):wpS (model prog w) A E s (ym lo nrem) Q st:=by
 have asc:∀ st' (_:SB κ a0 lo p0 g0 st') n (Q':Option Bool->SortSt->Prop),1<=n->n < nrem->Q' (some (O.blt (rk (kyd (arrOf st') (lo+n))) (rk (kyd (arrOf st') (lo+n - 1))))) st'->
   wpS (model prog w) A E s (ltAt' (lo+n) (lo+n - 1)) Q' st':=λst' hB' n Q' h1 h2 hq=>pz hC hS hB' (by lia) (by lia) hq
 refine wpS_bind (rO (rk:=rk) (lo:=lo) (λx n Q' hn1 hn2 hy hno=>?_) (Nat.le_refl 1) h1 Up.one λn hn1 hn2 hu hor=>?_)
 ·refine wpS_bind (asc st hB n _ hn1 hn2 ?_)
  cases hl:O.blt (rk (kyd (arrOf st) (lo+n))) (rk (kyd (arrOf st) (lo+n - 1))) with
  | true=>exact wpS_pure (hy hl)
  | false=>exact wpS_pure (hno hl)
 dsimp only
 by_cases hnn:n=nrem
 ·refine aT (by simpa using hnn) ?_
  exact wpS_pure (h n st hB hn1 hn2 hu)
 refine aH (by simpa using hnn) ?_
 have hlt:=hor.resolve_left hnn
 have hn3:n+1<=nrem:=by lia
 have hsz:lo+n<=(arrOf st).size:=by rw [hB.size];lia
 by_cases hgt:n > 1
 case' pos=>
  refine aT hgt ?_
  refine wpS_bind (pz hC hS hB (by lia) (by lia) ?_)
  by_cases hrose:O.blt (rk (kyd (arrOf st) lo)) (rk (kyd (arrOf st) (lo+n - 1)))=true
  ·rw [hrose];exact wpS_pure (h n st hB hn1 hn2 hu)
  rw [Bool.not_eq_true] at hrose
  rw [hrose]
  have hall:∀ k,lo<=k->k < lo+n->rk (kyd (arrOf st) k)=rk (kyd (arrOf st) (lo+n - 1)):=λk hk1 hk2=>
   KeyOrd.kle_antisymm (hu k (lo+n - 1) hk1 (by lia) (by lia)) (KeyOrd.kle_trans hrose (hu lo k (by lia) hk1 hk2))
  refine wpS_bind (mN ?_)
  have hB2:=hB.rev (i:=lo) (j:=lo+n) (Nat.le_refl _) (by lia)
  have hd:fm rk (arrOf (setArr st (mirror (arrOf st) lo (lo+n) ((lo+n - lo) / 2)))) lo (n+1):=by
   refine fm.congr (xs:=arrOf st) (fm.more (λi j hi hij hj=>?_) (by lia) (KeyOrd.kle_of_klt hlt)) (fv hsz hall)
   rw [hall i hi (by lia),hall j (by lia) hj];exact KeyOrd.kle_refl _
  generalize setArr st (mirror (arrOf st) lo (lo+n) ((lo+n - lo) / 2))=st2 at hB2 hd ⊢
  clear hu hlt hrose hall hB hsz hor
 case' neg=>
  refine aH hgt ?_
  have hB2:=hB
  have hd:fm rk (arrOf st) lo (n+1):=by
   refine fm.more (λi j hi hij hj=>?_) (by lia) (KeyOrd.kle_of_klt hlt)
   rw [show i=j by lia];exact KeyOrd.kle_refl _
  clear hu hlt hB hsz hor
  revert hB2 hd
  generalize st=st2
  intro hB2 hd
 all_goals
  refine wpS_bind (eV ?_)
  refine wpS_bind (tX (λx m q st' Q' hm1 hm2 hB' c1 c2 c3 c4=>?_) (by lia) hn3 hz hB2 hd λm q st' hm1 hm2 hB' hd' he=>?_)
  ·refine wpS_bind (asc st' hB' m _ hm1 hm2 ?_)
   cases hl:O.blt (rk (kyd (arrOf st') (lo+m))) (rk (kyd (arrOf st') (lo+m - 1))) with
   | true=>
    dsimp only
    refine aT rfl ?_
    by_cases hq:q > 0
    ·rw [if_pos hq];exact wpS_bind (mN (wpS_pure (c1 hl hq)))
    ·rw [if_neg hq];exact wpS_pure (c2 hl (by lia))
   | false=>
    dsimp only
    refine aH (by simp) ?_
    refine wpS_bind (pz hC hS hB' (by lia) (by lia) ?_)
    cases hl2:O.blt (rk (kyd (arrOf st') (lo+m - 1))) (rk (kyd (arrOf st') (lo+m))) with
    | true=>exact wpS_pure (c3 hl2)
    | false=>exact wpS_pure (c4 hl hl2)
  have hsz':lo+m<=(arrOf st').size:=by rw [hB'.size];lia
  dsimp only
  by_cases hq:q > 0
  case' pos=>
   refine aT hq ?_
   refine wpS_bind (mN ?_)
   have hB3:=hB'.rev (i:=lo+m - (q+1)) (j:=lo+m) (by have:=he.1;lia) (by lia)
   have hd3:fm rk (arrOf (setArr st' (mirror (arrOf st') (lo+m - (q+1)) (lo+m) ((lo+m - (lo+m - (q+1))) / 2)))) lo m:=fm.congr hd' (fv hsz' he.2)
   generalize setArr st' (mirror (arrOf st') (lo+m - (q+1)) (lo+m) ((lo+m - (lo+m - (q+1))) / 2))=st3 at hB3 hd3 ⊢
  case' neg=>
   refine aH hq ?_
   have hB3:=hB'
   have hd3:=hd'
  all_goals
   refine wT hB3 hd3 (by lia) hm2 hz (λx n' Q' st4 hB4 hn1' hn2' hy hno=>?_) λn' st4 hB4 a1 a2 a3=>wpS_pure (h n' st4 hB4 a1 a2 a3)
   refine wpS_bind (asc st4 hB4 n' _ hn1' hn2' ?_)
   cases hl:O.blt (rk (kyd (arrOf st4) (lo+n'))) (rk (kyd (arrOf st4) (lo+n' - 1))) with
   | true=>exact wpS_pure (hy hl)
   | false=>exact wpS_pure (hno hl)
end
end L2
namespace L2
open PySem PySem.Spec PyProof.Rows
section
variable {prog:Program}{w:World}{A:Around}{E:Value->Shared->Prop}{s:Shared}{κ:SortKind}{O:KeyOrd}{rk:Keyed->O.α}{S:Keyed->Prop}
variable {a0:Array Keyed}{lo:Nat}{p0:Array (Nat×Nat×Nat)}{g0:Nat}{st:SortSt}
set_option maxHeartbeats 1000000 in
theorem nD (hC:Cm prog w A s κ O rk S) (hS:∀ x ∈ a0.toList,S x) {n ok:Nat}{Q:Bool->SortSt->Prop} (hB:SB κ a0 lo p0 g0 st) (h1:1<=ok) (hok:ok<=n) (hz:lo+n<=a0.size) (hu:Up rk (arrOf st) lo ok)
  (h:∀ st',SB κ a0 lo p0 g0 st'->Up rk (arrOf st') lo n->Q true st'):wpS (model prog w) A E s (xv lo n ok) Q st:=by
 refine wpS_bind (wpS_mono (wpS_forRange (I:=λk c st'=>c=(none,())/\SB κ a0 lo p0 g0 st'/\Up rk (arrOf st') lo (min k n)) (Q:=λc st'=>c=(none,())/\SB κ a0 lo p0 g0 st'/\Up rk (arrOf st') lo n) ?_ ?_ ?_) ?_)
 ·rintro k c st' hk hkn ⟨rfl,hB',hs⟩
  rw [show min k n=k by lia] at hs
  dsimp only
  refine wpS_bind (wpS_mono (wpS_forRange (I:=λx c st2=>st2=st'/\∃ l r,c=(none,l,r)/\l<=r/\r<=k/\r - l<=k - x/\(∀ i,i < l->O.kle (rk (kyd (arrOf st') (lo+i))) (rk (kyd (arrOf st') (lo+k))))/\
    ∀ i,r<=i->i < k->O.klt (rk (kyd (arrOf st') (lo+k))) (rk (kyd (arrOf st') (lo+i))))
   (Q:=λc st2=>st2=st'/\∃ l r,c=(none,l,r)/\l<=k/\(∀ i,i < l->O.kle (rk (kyd (arrOf st') (lo+i))) (rk (kyd (arrOf st') (lo+k))))/\∀ i,l<=i->i < k->O.klt (rk (kyd (arrOf st') (lo+k))) (rk (kyd (arrOf st') (lo+i)))) ?_ ?_ ?_) ?_)
  ·rintro x c st2 _ hxk ⟨rfl,l,r,rfl,hlr,hrk,hm,hlo,hhi⟩
   dsimp only
   by_cases hge:l>=r
   ·refine aT hge ?_
    have e:l=r:=by lia
    subst e
    exact wpS_pure ⟨rfl,l,l,rfl,hrk,hlo,hhi⟩
   ·refine aH hge ?_
    refine wpS_bind (pz hC hS hB' (by lia) (by lia) ?_)
    cases hl:O.blt (rk (kyd (arrOf st2) (lo+k))) (rk (kyd (arrOf st2) (lo+(l+r) / 2))) with
    | true=>exact wpS_pure ⟨rfl,l,(l+r) / 2,rfl,by lia,by lia,by lia,hlo,λi h1 h2=>KeyOrd.klt_of_klt_of_kle hl (hs _ _ (by lia) (by lia) (by lia))⟩
    | false=>exact wpS_pure ⟨rfl,(l+r) / 2+1,r,rfl,by lia,by lia,by lia,λi h1=>KeyOrd.kle_trans (hs (lo+i) (lo+(l+r) / 2) (by lia) (by lia) (by lia)) hl,hhi⟩
  ·rintro c st2 ⟨rfl,l,r,rfl,hlr,hrk,hm,hlo,hhi⟩
   have e:l=r:=by lia
   subst e
   exact⟨rfl,l,l,rfl,hrk,hlo,hhi⟩
  ·exact⟨rfl,0,k,rfl,by lia,by lia,by lia,λi hi=>by lia,λi h1 h2=>by lia⟩
  ·rintro c st2 ⟨rfl,l,r,rfl,hlk,hlo,hhi⟩
   dsimp only
   refine wpS_bind (m:=moveDown' (lo+k) (lo+l)) ?_
   rw [moveDown'_eq]
   have hks:lo+k < (arrOf st2).size:=by rw [hB'.size];lia
   refine wpS_modify (wpS_pure ⟨rfl,hB'.set (bubble_perm _ _ _) λi hi=>?_,?_⟩)
   ·rw [getElem?_bubble hks _ (by lia),if_neg (by lia),if_neg (by lia)]
   ·rw [show min (k+1) n=k+1 by lia]
    intro i j hi hij hj
    show O.kle (rk (kyd (bubble (arrOf st2) (lo+k) (lo+k - (lo+l))) i)) (rk (kyd (bubble (arrOf st2) (lo+k) (lo+k - (lo+l))) j))
    rw [je hks (by lia),je hks (by lia),show lo+k - (lo+k - (lo+l))=lo+l by lia]
    have hlo':∀ i,lo<=i->i < lo+l->O.kle (rk (kyd (arrOf st2) i)) (rk (kyd (arrOf st2) (lo+k))):=λi h1 h2=>by
     have:=hlo (i - lo) (by lia);rwa [show lo+(i - lo)=i by lia] at this
    have hhi':∀ i,lo+l<=i->i < lo+k->O.klt (rk (kyd (arrOf st2) (lo+k))) (rk (kyd (arrOf st2) i)):=λi h1 h2=>by
     have:=hhi (i - lo) (by lia) (by lia);rwa [show lo+(i - lo)=i by lia] at this
    repeat' split
    all_goals first
     | (exfalso;lia)
     | exact KeyOrd.kle_refl _
     | exact hlo' _ (by lia) (by lia)
     | exact KeyOrd.kle_of_klt (hhi' _ (by lia) (by lia))
     | exact hs _ _ (by lia) (by lia) (by lia)
 ·rintro c st' ⟨rfl,hB',hs⟩
  rw [show min (max (max ok 1) n) n=n by lia] at hs
  exact⟨rfl,hB',hs⟩
 ·rw [show max ok 1=ok by lia,show min ok n=ok by lia]
  exact⟨rfl,hB,hu⟩
 ·rintro c st' ⟨rfl,hB',hs⟩
  exact wpS_pure (h st' hB' hs)
noncomputable def bey (O:KeyOrd) (rk:Keyed->O.α) (left:Bool) (key x:Keyed):Bool:=if left=true then O.blt (rk x) (rk key) else !O.blt (rk key) (rk x)
set_option maxHeartbeats 1000000 in
theorem dB (hC:Cm prog w A s κ O rk S) {left:Bool}{key:Keyed}{arr:Array Keyed}{base n hint:Nat}{Q:Option Nat->SortSt->Prop} (hk:kindOf st=κ) (hkey:S key) (hz:base+n<=arr.size) (hS:∀ i,i < n->S (kyd arr (base+i)))
  (hh:hint < n) (anti:∀ i j,i<=j->j < n->bey O rk left key (kyd arr (base+j))=true->bey O rk left key (kyd arr (base+i))=true)
  (h:∀ k,k<=n->(∀ i,i < k->bey O rk left key (kyd arr (base+i))=true)->(∀ i,k<=i->i < n->bey O rk left key (kyd arr (base+i))=false)->Q (some k) st) :
  wpS (model prog w) A E s (mP left key arr base n hint) Q st:=by
 have bey1:∀ i (Q':Option Bool->SortSt->Prop),i < n->Q' (some (bey O rk left key (kyd arr (base+i)))) st->wpS (model prog w) A E s (elem' arr (base+i) >>= λx=>if left=true then lt' x key else lt' key x >>= λb=>pure (b.map (!·))) Q' st:=λi Q' hi hq=>by
  refine wpS_bind (aS (aG (by lia)) ?_)
  cases left with
  | true=>exact no hC hk (hS i hi) hkey hq
  | false=>exact wpS_bind (no hC hk hkey (hS i hi) (wpS_pure hq))
 have bin:∀ l0 h0,l0<=h0->h0<=n->(∀ i,i < l0->bey O rk left key (kyd arr (base+i))=true)->(∀ i,h0<=i->i < n->bey O rk left key (kyd arr (base+i))=false)->
   ∀ (f:Nat->Option (Option Nat)×Nat×Nat->StateT SortSt Sem (ForInStep (Option (Option Nat)×Nat×Nat))) (k:Option (Option Nat)×Nat×Nat->StateT SortSt Sem (Option Nat)),
   (∀ x l r (Q':ForInStep (Option (Option Nat)×Nat×Nat)->SortSt->Prop),l<=r->r<=n->(r<=l->Q' (.done (none,l,r)) st)->(l < r->bey O rk left key (kyd arr (base+(l+(r - l) / 2)))=true->Q' (.yield (none,l+(r - l) / 2+1,r)) st)->
     (l < r->bey O rk left key (kyd arr (base+(l+(r - l) / 2)))=false->Q' (.yield (none,l,l+(r - l) / 2)) st)->wpS (model prog w) A E s (f x (none,l,r)) Q' st)->
   (∀ l r,k (none,l,r)=pure (some r))->wpS (model prog w) A E s (forIn [0:n] (none,l0,h0) f >>= k) Q st:=λl0 h0 e1 e2 e3 e4 f k hf hkk=>by
  refine wpS_bind (wpS_mono (wpS_forRange (I:=λx c st2=>st2=st/\∃ l r,c=(none,l,r)/\l<=r/\r<=n/\r - l<=n - x/\(∀ i,i < l->bey O rk left key (kyd arr (base+i))=true)/\∀ i,r<=i->i < n->bey O rk left key (kyd arr (base+i))=false)
   (Q:=λc st2=>st2=st/\∃ r,c=(none,r,r)/\r<=n/\(∀ i,i < r->bey O rk left key (kyd arr (base+i))=true)/\∀ i,r<=i->i < n->bey O rk left key (kyd arr (base+i))=false) ?_ ?_ ?_) ?_)
  ·rintro x c st2 _ hx ⟨rfl,l,r,rfl,a1,a2,a3,a4,a5⟩
   refine hf x l r _ a1 a2 (λhrl=>?_) (λhlr ht=>?_) λhlr ht=>?_
   ·have e:l=r:=by lia
    subst e
    exact⟨rfl,l,rfl,a2,a4,a5⟩
   ·refine⟨rfl,_,_,rfl,by lia,a2,by lia,λi hi=>?_,a5⟩
    exact anti i (l+(r - l) / 2) (by lia) (by lia) ht
   ·refine⟨rfl,_,_,rfl,by lia,by lia,by lia,a4,λi h1 h2=>?_⟩
    cases q:bey O rk left key (kyd arr (base+i)) with
    | false=>rfl
    | true=>rw [anti (l+(r - l) / 2) i h1 h2 q] at ht;cases ht
  ·rintro c st2 ⟨rfl,l,r,rfl,a1,a2,a3,a4,a5⟩
   have e:l=r:=by lia
   subst e
   exact⟨rfl,l,rfl,a2,a4,a5⟩
  ·exact⟨rfl,l0,h0,rfl,e1,e2,by lia,e3,e4⟩
  ·rintro c st2 ⟨rfl,r,rfl,a2,a4,a5⟩
   rw [hkk]
   exact wpS_pure (h r a2 a4 a5)
 refine wpS_bind (bey1 hint _ hh ?_)
 dsimp only
 cases hb:bey O rk left key (kyd arr (base+hint)) with
 | true=>
  refine aT rfl ?_
  refine wpS_bind (wpS_mono (wpS_forRange (I:=λx c st2=>st2=st/\∃ l o,c=(none,l,o)/\l < o/\x+1<=o/\hint+l < n/\bey O rk left key (kyd arr (base+(hint+l)))=true)
   (Q:=λc st2=>st2=st/\∃ l o,c=(none,l,o)/\l < o/\hint+l < n/\bey O rk left key (kyd arr (base+(hint+l)))=true/\(n - hint<=o\/hint+o < n/\bey O rk left key (kyd arr (base+(hint+o)))=false)) ?_ ?_ ?_) ?_)
  ·rintro x c st2 _ hx ⟨rfl,l,o,rfl,a1,a2,a3,a4⟩
   dsimp only
   by_cases ho:o>=n - hint
   ·rw [if_pos ho];exact wpS_pure ⟨rfl,l,o,rfl,a1,a3,a4,.inl ho⟩
   ·refine aH ho ?_
    refine wpS_bind (bey1 (hint+o) _ (by lia) ?_)
    cases hb2:bey O rk left key (kyd arr (base+(hint+o))) with
    | true=>exact wpS_pure ⟨rfl,o,2*o+1,rfl,by lia,by lia,by lia,hb2⟩
    | false=>exact wpS_pure ⟨rfl,l,o,rfl,a1,a3,a4,.inr ⟨by lia,hb2⟩⟩
  ·rintro c st2 ⟨rfl,l,o,rfl,a1,a2,a3,a4⟩
   exact⟨rfl,l,o,rfl,a1,a3,a4,.inl (by lia)⟩
  ·exact⟨rfl,0,1,rfl,by lia,by lia,by lia,hb⟩
  ·rintro c st2 ⟨rfl,l,o,rfl,a1,a3,a4,a5⟩
   dsimp only
   refine bin _ _ (by lia) (by lia) (λi hi=>anti i (hint+l) (by lia) a3 a4) (λi h1 h2=>?_) _ _ (λx l r Q' b1 b2 c1 c2 c3=>?_) λl r=>rfl
   ·rcases a5 with a5 | a5
    ·lia
    ·cases q:bey O rk left key (kyd arr (base+i)) with
     | false=>rfl
     | true=>rw [anti (hint+o) i (by lia) h2 q] at a5;exact absurd a5.2 (by simp)
   ·dsimp only
    by_cases hge:l>=r
    ·rw [if_pos hge];exact wpS_pure (c1 hge)
    ·refine aH hge ?_
     refine wpS_bind (bey1 (l+(r - l) / 2) _ (by lia) ?_)
     cases hb3:bey O rk left key (kyd arr (base+(l+(r - l) / 2))) with
     | true=>exact wpS_pure (c2 (by lia) hb3)
     | false=>exact wpS_pure (c3 (by lia) hb3)
 | false=>
  refine aH (by simp) ?_
  refine wpS_bind (wpS_mono (wpS_forRange (I:=λx c st2=>st2=st/\∃ l o,c=(none,l,o)/\l < o/\x+1<=o/\l<=hint/\bey O rk left key (kyd arr (base+(hint - l)))=false)
   (Q:=λc st2=>st2=st/\∃ l o,c=(none,l,o)/\l < o/\l<=hint/\bey O rk left key (kyd arr (base+(hint - l)))=false/\(hint+1<=o\/o<=hint/\bey O rk left key (kyd arr (base+(hint - o)))=true)) ?_ ?_ ?_) ?_)
  ·rintro x c st2 _ hx ⟨rfl,l,o,rfl,a1,a2,a3,a4⟩
   dsimp only
   by_cases ho:o>=hint+1
   ·rw [if_pos ho];exact wpS_pure ⟨rfl,l,o,rfl,a1,a3,a4,.inl ho⟩
   ·refine aH ho ?_
    refine wpS_bind (bey1 (hint - o) _ (by lia) ?_)
    cases hb2:bey O rk left key (kyd arr (base+(hint - o))) with
    | false=>exact wpS_pure ⟨rfl,o,2*o+1,rfl,by lia,by lia,by lia,hb2⟩
    | true=>exact wpS_pure ⟨rfl,l,o,rfl,a1,a3,a4,.inr ⟨by lia,hb2⟩⟩
  ·rintro c st2 ⟨rfl,l,o,rfl,a1,a2,a3,a4⟩
   exact⟨rfl,l,o,rfl,a1,a3,a4,.inl (by lia)⟩
  ·exact⟨rfl,0,1,rfl,by lia,by lia,by lia,hb⟩
  ·rintro c st2 ⟨rfl,l,o,rfl,a1,a3,a4,a5⟩
   dsimp only
   refine bin _ _ (by lia) (by lia) (λi hi=>?_) (λi h1 h2=>?_) _ _ (λx l r Q' b1 b2 c1 c2 c3=>?_) λl r=>rfl
   ·rcases a5 with a5 | a5
    ·lia
    ·exact anti i (hint - o) (by lia) (by lia) a5.2
   ·cases q:bey O rk left key (kyd arr (base+i)) with
    | false=>rfl
    | true=>rw [anti (hint - l) i (by lia) h2 q] at a4;cases a4
   ·dsimp only
    by_cases hge:l>=r
    ·rw [if_pos hge];exact wpS_pure (c1 hge)
    ·refine aH hge ?_
     refine wpS_bind (bey1 (l+(r - l) / 2) _ (by lia) ?_)
     cases hb3:bey O rk left key (kyd arr (base+(l+(r - l) / 2))) with
     | true=>exact wpS_pure (c2 (by lia) hb3)
     | false=>exact wpS_pure (c3 (by lia) hb3)
end
end L2
namespace L2
open PySem PySem.Spec PyProof.Rows
section
variable {O:KeyOrd}{rk:Keyed->O.α}
noncomputable def mrg (O:KeyOrd) (rk:Keyed->O.α) (xs ys:List Keyed):List Keyed:=List.merge xs ys λx y=>!O.blt (rk y) (rk x)
theorem eK (xs:List Keyed):mrg O rk xs []=xs:=by unfold mrg;simp
theorem fY (ys:List Keyed):mrg O rk [] ys=ys:=by unfold mrg;simp
theorem kX {x y:Keyed}{xs ys:List Keyed} (h:O.blt (rk y) (rk x)=false):mrg O rk (x::xs) (y::ys)=x::mrg O rk xs (y::ys):=by
 unfold mrg;rw [List.cons_merge_cons,h];rfl
theorem kg {x y:Keyed}{xs ys:List Keyed} (h:O.blt (rk y) (rk x)=true):mrg O rk (x::xs) (y::ys)=y::mrg O rk (x::xs) ys:=by
 unfold mrg;rw [List.cons_merge_cons,h];rfl
theorem lJ {x:Keyed}:∀ {ys:List Keyed},(∀ y ∈ ys,O.blt (rk y) (rk x)=true)->mrg O rk [x] ys=ys++[x]
 | [],_=>eK _
 | y::ys,h=>by rw [kg (h y List.mem_cons_self),lJ λz hz=>h z (List.mem_cons_of_mem _ hz)];rfl
theorem ie {x:Keyed}:∀ (xs ys:List Keyed),(∀ y ∈ ys,O.blt (rk y) (rk x)=true)->mrg O rk (xs++[x]) ys=mrg O rk xs ys++[x]
 | [],ys,h=>by rw [List.nil_append,lJ h,fY]
 | a::xs,[],h=>by rw [eK,eK]
 | a::xs,y::ys,h=>by
  rw [List.cons_append]
  cases hb:O.blt (rk y) (rk a) with
  | true=>rw [kg hb,kg hb,<-List.cons_append,ie (a::xs) ys λz hz=>h z (List.mem_cons_of_mem _ hz)];rfl
  | false=>rw [kX hb,kX hb,ie xs (y::ys) h];rfl
termination_by xs ys=>xs.length+ys.length
theorem pB {y:Keyed}:∀ {xs:List Keyed},(∀ x ∈ xs,O.blt (rk y) (rk x)=false)->mrg O rk xs [y]=xs++[y]
 | [],_=>fY _
 | x::xs,h=>by rw [kX (h x List.mem_cons_self),pB λz hz=>h z (List.mem_cons_of_mem _ hz)];rfl
theorem ii {y:Keyed}:∀ (xs ys:List Keyed),(∀ x ∈ xs,O.blt (rk y) (rk x)=false)->mrg O rk xs (ys++[y])=mrg O rk xs ys++[y]
 | xs,[],h=>by rw [List.nil_append,pB h,eK]
 | [],b::ys,h=>by rw [fY,fY]
 | a::xs,b::ys,h=>by
  rw [List.cons_append]
  cases hb:O.blt (rk b) (rk a) with
  | true=>rw [kg hb,kg hb,ii (a::xs) ys h];rfl
  | false=>rw [kX hb,kX hb,<-List.cons_append,ii xs (b::ys) λz hz=>h z (List.mem_cons_of_mem _ hz)];rfl
termination_by xs ys=>xs.length+ys.length
theorem jG (xs ys:List Keyed):(mrg O rk xs ys).Perm (xs++ys):=List.merge_perm_append _
theorem xw {xs ys:List Keyed} (hx:xs.Pairwise λa b=>O.kle (rk a) (rk b)) (hy:ys.Pairwise λa b=>O.kle (rk a) (rk b)):(mrg O rk xs ys).Pairwise λa b=>O.kle (rk a) (rk b):=by
 have:=List.pairwise_merge (le:=λx y=>!O.blt (rk y) (rk x)) (λa b c h1 h2=>by
   simp only [Bool.not_eq_true'] at *;exact KeyOrd.kle_trans (O:=O) h1 h2) (λa b=>by
   simp only [Bool.or_eq_true,Bool.not_eq_true']
   cases h:O.blt (rk b) (rk a) with
   | false=>exact .inl rfl
   | true=>exact .inr (KeyOrd.klt_asymm (O:=O) h)) xs ys (hx.imp λh=>by rw [Bool.not_eq_true'];exact h) (hy.imp λh=>by rw [Bool.not_eq_true'];exact h)
 exact this.imp λh=>by rw [Bool.not_eq_true'] at h;exact h
theorem cV {a:Array Keyed}{i:Nat} (h:i < a.size):a.toList.drop i=kyd a i::a.toList.drop (i+1):=by
 have e:=aG h
 rw [Array.getElem?_eq_getElem h] at e
 rw [List.drop_eq_getElem_cons (by simpa using h)]
 rw [<-Option.some.inj e];simp
theorem jk {a:Array Keyed}{i:Nat} (h:i < a.size):a.toList.take (i+1)=a.toList.take i++[kyd a i]:=by
 have e:=aG h
 rw [Array.getElem?_eq_getElem h] at e
 rw [List.take_succ_eq_append_getElem (by simpa using h)]
 rw [<-Option.some.inj e];simp
theorem oV {a:Array Keyed}{x:Keyed} (h:x ∈ a.toList):∃ i,i < a.size/\x=kyd a i:=by
 obtain⟨i,hi,e⟩:=List.mem_iff_getElem.mp h
 have hi':i < a.size:=by simpa using hi
 refine⟨i,hi',?_⟩
 have q:=aG hi'
 rw [Array.getElem?_eq_getElem hi'] at q
 rw [<-Option.some.inj q,<-e];simp
noncomputable def MI (O:KeyOrd) (rk:Keyed->O.α) (a b out:Array Keyed) (ia ib:Nat):Prop:=out.toList++mrg O rk (a.toList.drop ia) (b.toList.drop ib)=mrg O rk a.toList b.toList
variable {a b out:Array Keyed}{ia ib:Nat}
theorem MI.start:MI O rk a b #[] 0 0:=by unfold MI;simp
theorem MI.b1 (h:MI O rk a b out ia ib) (hb:ib < b.size) (ha:ia < a.size) (hl:O.blt (rk (kyd b ib)) (rk (kyd a ia))=true):MI O rk a b (out.push (kyd b ib)) ia (ib+1):=by
 unfold MI at *
 rw [cV ha,cV hb,kg hl] at h
 rw [<-h,cV ha];simp
theorem MI.a1 (h:MI O rk a b out ia ib) (hb:ib < b.size) (ha:ia < a.size) (hl:O.blt (rk (kyd b ib)) (rk (kyd a ia))=false):MI O rk a b (out.push (kyd a ia)) (ia+1) ib:=by
 unfold MI at *
 rw [cV ha,cV hb,kX hl] at h
 rw [<-h,cV hb];simp
theorem ki {a:Array Keyed}{i k:Nat} (h:i+k < a.size):(out++a.extract i (i+(k+1)))=(out++a.extract i (i+k)).push (kyd a (i+k)):=by
 apply Array.toList_inj.mp
 rw [Array.toList_push,Array.toList_append,Array.toList_append,Array.toList_extract,Array.toList_extract]
 simp only [List.extract_eq_take_drop,Nat.add_sub_cancel_left]
 have e:(a.toList.drop i).take (k+1)=(a.toList.drop i).take k++[kyd a (i+k)]:=by
  rw [List.take_succ_eq_append_getElem (by simp;lia)]
  have q:=aG h
  rw [Array.getElem?_eq_getElem h] at q
  rw [<-Option.some.inj q];simp
 rw [e,List.append_assoc]
theorem nl {a:Array Keyed}{i:Nat}:out++a.extract i (i+0)=out:=by
 apply Array.toList_inj.mp
 simp
theorem MI.as (h:MI O rk a b out ia ib) (hb:ib < b.size):∀ k,ia+k<=a.size->(∀ i,i < k->bey O rk false (kyd b ib) (kyd a (ia+i))=true)->MI O rk a b (out++a.extract ia (ia+k)) (ia+k) ib
 | 0,_,_=>by rw [nl];exact h
 | k+1,hk,hq=>by
  rw [ki (by lia)]
  have:=MI.a1 (MI.as h hb k (by lia) λi hi=>hq i (by lia)) hb (by lia) (by simpa [bey] using hq k (by lia))
  exact this
theorem MI.bs (h:MI O rk a b out ia ib) (ha:ia < a.size):∀ k,ib+k<=b.size->(∀ i,i < k->bey O rk true (kyd a ia) (kyd b (ib+i))=true)->MI O rk a b (out++b.extract ib (ib+k)) ia (ib+k)
 | 0,_,_=>by rw [nl];exact h
 | k+1,hk,hq=>by
  rw [ki (by lia)]
  exact MI.b1 (MI.bs h ha k (by lia) λi hi=>hq i (by lia)) (by lia) ha (by simpa [bey] using hq k (by lia))
theorem dN {a:Array Keyed}{i:Nat}:(a.extract i a.size).toList=a.toList.drop i:=by
 rw [Array.toList_extract,List.extract_eq_take_drop,List.take_of_length_le (by simp)]
theorem MI.doneB (h:MI O rk a b out ia ib) (hb:ib=b.size):(out++a.extract ia a.size++b.extract ib b.size).toList=mrg O rk a.toList b.toList:=by
 unfold MI at h
 subst hb
 rw [Array.toList_append,Array.toList_append,dN,dN,<-h]
 rw [show b.toList.drop b.size=[] by simp,eK,List.append_nil]
theorem MI.doneA (h:MI O rk a b out ia ib) (ha:ia=a.size):(out++a.extract ia a.size++b.extract ib b.size).toList=mrg O rk a.toList b.toList:=by
 unfold MI at h
 subst ha
 rw [Array.toList_append,Array.toList_append,dN,dN,<-h]
 rw [show a.toList.drop a.size=[] by simp,fY,List.append_nil]
theorem MI.lastA (h:MI O rk a b out ia ib) (ha:ia+1=a.size) (hl:∀ i,i < b.size->O.blt (rk (kyd b i)) (rk (kyd a (a.size - 1)))=true):(out++b.extract ib b.size++a.extract ia a.size).toList=mrg O rk a.toList b.toList:=by
 unfold MI at h
 rw [Array.toList_append,Array.toList_append,dN,dN,<-h,cV (by lia:ia < a.size),show a.toList.drop (ia+1)=[] by simp;lia,lJ,List.append_assoc]
 intro y hy
 obtain⟨i,hi,rfl⟩:=oV (List.mem_of_mem_drop hy)
 rw [show ia=a.size - 1 by lia]
 exact hl i hi
noncomputable def MH (O:KeyOrd) (rk:Keyed->O.α) (a b out:Array Keyed) (na nb:Nat):Prop:=mrg O rk (a.toList.take na) (b.toList.take nb)++out.toList.reverse=mrg O rk a.toList b.toList
variable {na nb:Nat}
theorem MH.start:MH O rk a b #[] a.size b.size:=by
 unfold MH
 rw [List.take_of_length_le (by simp),List.take_of_length_le (by simp)];simp
theorem MH.a1 (h:MH O rk a b out (na+1) nb) (ha:na < a.size) (hl:∀ i,i < nb->i < b.size->O.blt (rk (kyd b i)) (rk (kyd a na))=true):MH O rk a b (out.push (kyd a na)) na nb:=by
 unfold MH at *
 rw [jk ha,ie _ _ λy hy=>?_] at h
 ·rw [<-h];simp
 ·obtain⟨i,hi,e⟩:=List.mem_iff_getElem.mp hy
  have hi':i < nb/\i < b.size:=by simp at hi;lia
  have q:=aG hi'.2
  rw [Array.getElem?_eq_getElem hi'.2] at q
  have:y=kyd b i:=by rw [<-e,<-Option.some.inj q];simp
  rw [this];exact hl i hi'.1 hi'.2
theorem MH.b1 (h:MH O rk a b out na (nb+1)) (hb:nb < b.size) (hl:∀ i,i < na->i < a.size->O.blt (rk (kyd b nb)) (rk (kyd a i))=false):MH O rk a b (out.push (kyd b nb)) na nb:=by
 unfold MH at *
 rw [jk hb,ii _ _ λy hy=>?_] at h
 ·rw [<-h];simp
 ·obtain⟨i,hi,e⟩:=List.mem_iff_getElem.mp hy
  have hi':i < na/\i < a.size:=by simp at hi;lia
  have q:=aG hi'.2
  rw [Array.getElem?_eq_getElem hi'.2] at q
  have:y=kyd a i:=by rw [<-e,<-Option.some.inj q];simp
  rw [this];exact hl i hi'.1 hi'.2
end
end L2
namespace L2
open PySem PySem.Spec PyProof.Rows
section
variable {prog:Program}{w:World}{A:Around}{E:Value->Shared->Prop}{s:Shared}{κ:SortKind}{O:KeyOrd}{rk:Keyed->O.α}{S:Keyed->Prop}{st:SortSt}{a b:Array Keyed}
noncomputable def Gs (st st':SortSt):Prop:=∃ g,st'=wV st g
theorem Gs.refl:Gs st st:=⟨gallopOf st,rfl⟩
theorem Gs.kind {st':SortSt} (h:Gs st st'):kindOf st'=kindOf st:=by obtain⟨g,rfl⟩:=h;rfl
theorem Gs.set {st':SortSt} (h:Gs st st') (g:Nat):Gs st (SortSt.mk' (kindOf st') (arrOf st') (pendingOf st') g (failedOf st')):=by obtain⟨g',rfl⟩:=h;exact⟨g,rfl⟩
structure Two (O:KeyOrd) (rk:Keyed->O.α) (S:Keyed->Prop) (a b:Array Keyed):Prop where
 sa:∀ i,i < a.size->S (kyd a i)
 sb:∀ i,i < b.size->S (kyd b i)
 ua:Up rk a 0 a.size
 ub:Up rk b 0 b.size
 pa:0 < a.size
 pb:0 < b.size
 first:O.blt (rk (kyd b 0)) (rk (kyd a 0))=true
 last:∀ i,i < b.size->O.blt (rk (kyd b i)) (rk (kyd a (a.size - 1)))=true
theorem Two.galA (T:Two O rk S a b) {ia na:Nat}{key:Keyed} (hn:ia+na<=a.size):∀ i j,i<=j->j < na->bey O rk false key (kyd a (ia+j))=true->bey O rk false key (kyd a (ia+i))=true:=λi j hij hj h=>by
 simp only [bey,Bool.false_eq_true,if_false,Bool.not_eq_true'] at h ⊢
 exact KeyOrd.kle_trans (O:=O) (T.ua (ia+i) (ia+j) (Nat.zero_le _) (by lia) (by lia)) h
theorem Two.galB (T:Two O rk S a b) {ib nb:Nat}{key:Keyed} (hn:ib+nb<=b.size):∀ i j,i<=j->j < nb->bey O rk true key (kyd b (ib+j))=true->bey O rk true key (kyd b (ib+i))=true:=λi j hij hj h=>by
 simp only [bey,if_true] at h ⊢
 exact KeyOrd.klt_of_kle_of_klt (O:=O) (T.ub (ib+i) (ib+j) (Nat.zero_le _) (by lia) (by lia)) h
set_option maxHeartbeats 4000000 in
theorem tL (hC:Cm prog w A s κ O rk S) {Q:Array Keyed->SortSt->Prop} (hk:kindOf st=κ) (T:Two O rk S a b)
  (h:∀ r st',Gs st st'->r.toList=mrg O rk a.toList b.toList->Q r st'):wpS (model prog w) A E s (y7 a b) Q st:=by
 refine wpS_bind (eV ?_)
 refine wpS_bind (aS (aG T.pb) ?_)
 have I0:MI O rk a b #[kyd b 0] 0 1:=MI.start.b1 T.pb T.pa T.first
 dsimp -zeta only
 by_cases e1:1=b.size
 ·refine aT (by simpa using e1) ?_
  exact wpS_pure (h _ _ .refl (I0.doneB e1))
 refine aH (by simpa using e1) ?_
 by_cases e2:0+1=a.size
 ·refine aT (by simpa using e2) ?_
  exact wpS_pure (h _ _ .refl (I0.lastA e2 T.last))
 refine aH (by simpa using e2) ?_
 have pa:=T.pa
 have pb:=T.pb
 refine wpS_bind (wpS_get ?_)
 refine wpS_bind (wpS_mono (wpS_forRange (I:=λx c st'=>∃ out ia ib g,c=(none,out,ia,ib,g)/\MI O rk a b out ia ib/\ia+1 < a.size/\ib < b.size/\x+1<=ia+ib/\Gs st st')
  (Q:=λc st'=>∃ r c',c=(some r,c')/\r.toList=mrg O rk a.toList b.toList/\Gs st st') ?_ ?_ ?_) ?_)
 ·rintro x c st' _ hx ⟨out,ia,ib,g,rfl,I,ha,hb,hp,hG⟩
  have hk':kindOf st'=κ:=hG.kind.trans hk
  refine wpS_bind (wpS_mono (wpS_forRange (I:=λy c st2=>st2=st'/\∃ out ja jb ac bc,c=(none,out,ja,jb,ac,bc)/\MI O rk a b out ja jb/\ja+1 < a.size/\jb < b.size/\ia+ib+y<=ja+jb)
   (Q:=λc st2=>st2=st'/\((∃ r c',c=(some r,c')/\r.toList=mrg O rk a.toList b.toList)\/∃ out ja jb ac bc,c=(none,out,ja,jb,ac,bc)/\MI O rk a b out ja jb/\ja+1 < a.size/\jb < b.size/\ia+ib+1<=ja+jb)) ?_ ?_ ?_) ?_)
  ·rintro y c st2 _ hy ⟨rfl,out2,ja,jb,ac,bc,rfl,I2,ha2,hb2,hp2⟩
   dsimp only
   refine wpS_bind (aS (aG hb2) (wpS_bind (aS (aG (by lia)) (wpS_bind (no hC hk' (T.sb _ hb2) (T.sa _ (by lia)) ?_)))))
   cases hl:O.blt (rk (kyd b jb)) (rk (kyd a ja)) with
   | true=>
    dsimp only
    refine aT rfl ?_
    refine wpS_bind (aS (aG hb2) ?_)
    have I3:=I2.b1 hb2 (by lia) hl
    by_cases e3:jb+1=b.size
    ·refine aT (by simpa using e3) ?_
     exact wpS_pure ⟨rfl,.inl ⟨_,_,rfl,I3.doneB e3⟩⟩
    ·refine aH (by simpa using e3) ?_
     split
     ·exact wpS_pure ⟨rfl,.inr ⟨_,_,_,_,_,rfl,I3,ha2,by lia,by lia⟩⟩
     ·exact wpS_pure ⟨rfl,_,_,_,_,_,rfl,I3,ha2,by lia,by lia⟩
   | false=>
    dsimp only
    refine aH (by simp) ?_
    refine wpS_bind (aS (aG (by lia)) ?_)
    have I3:=I2.a1 hb2 (by lia) hl
    by_cases e3:ja+1+1=a.size
    ·refine aT (by simpa using e3) ?_
     exact wpS_pure ⟨rfl,.inl ⟨_,_,rfl,I3.lastA e3 T.last⟩⟩
    ·refine aH (by simpa using e3) ?_
     split
     ·exact wpS_pure ⟨rfl,.inr ⟨_,_,_,_,_,rfl,I3,by lia,hb2,by lia⟩⟩
     ·exact wpS_pure ⟨rfl,_,_,_,_,_,rfl,I3,by lia,hb2,by lia⟩
  ·rintro c st2 ⟨rfl,out2,ja,jb,ac,bc,rfl,I2,ha2,hb2,hp2⟩
   exact⟨rfl,.inr ⟨_,_,_,_,_,rfl,I2,ha2,hb2,by lia⟩⟩
  ·exact⟨rfl,out,ia,ib,0,0,rfl,I,ha,hb,by lia⟩
  ·rintro c st2 ⟨rfl,⟨r,c',rfl,hr⟩ | ⟨out2,ja,jb,ac,bc,rfl,I2,ha2,hb2,hp2⟩⟩
   ·exact wpS_pure ⟨_,_,rfl,hr,hG⟩
   refine wpS_bind (eV ?_)
   refine wpS_bind (wpS_mono (wpS_forRange (I:=λy c st3=>Gs st st3/\∃ out ja jb g ac bc,c=(none,out,ja,jb,g,ac,bc)/\MI O rk a b out ja jb/\ja+1 < a.size/\jb < b.size/\ia+ib+1<=ja+jb)
    (Q:=λc st3=>Gs st st3/\((∃ r c',c=(some r,c')/\r.toList=mrg O rk a.toList b.toList)\/∃ out ja jb g ac bc,c=(none,out,ja,jb,g,ac,bc)/\MI O rk a b out ja jb/\ja+1 < a.size/\jb < b.size/\ia+ib+1<=ja+jb)) ?_ ?_ ?_) ?_)
   ·rintro y c st3 _ hy ⟨hG3,out3,ja,jb,g3,ac,bc,rfl,I3,ha3,hb3,hp3⟩
    dsimp -zeta only
    have gal1:∀ (g4:Nat) (Q':Option Nat->SortSt->Prop),(∀ k,k<=a.size - ja->(∀ i,i < k->bey O rk false (kyd b jb) (kyd a (ja+i))=true)->(∀ i,k<=i->i < a.size - ja->bey O rk false (kyd b jb) (kyd a (ja+i))=false)->Q' (some k) (SortSt.mk' (kindOf st3) (arrOf st3) (pendingOf st3) g4 (failedOf st3)))->
      wpS (model prog w) A E s (mP false (kyd b jb) a ja (a.size - ja) 0) Q' (SortSt.mk' (kindOf st3) (arrOf st3) (pendingOf st3) g4 (failedOf st3)):=λg4 Q' hq=>
     dB hC (hG3.kind.trans hk) (T.sb _ hb3) (by lia) (λi hi=>T.sa _ (by lia)) (by lia) (T.galA (by lia)) hq
    dsimp only
    by_cases hg1:g3 > 1
    case' pos=>rw [if_pos hg1]
    case' neg=>rw [if_neg hg1]
    all_goals
     refine wpS_bind (wpS_modify ?_)
     refine wpS_bind (aS (aG hb3) (wpS_bind (gal1 _ _ λk hk1 hk2 hk3=>?_)))
     have I4:=I3.as hb3 k (by lia) hk2
     dsimp only
     by_cases hk0:k > 0
     case' pos=>
      refine aT hk0 ?_
      by_cases e3:ja+k+1=a.size
      ·refine aT (by simpa using e3) ?_
       exact wpS_pure ⟨hG3.set _,.inl ⟨_,_,rfl,I4.lastA e3 T.last⟩⟩
      refine aH (by simpa using e3) ?_
      by_cases e4:ja+k=a.size
      ·refine aT (by simpa using e4) ?_
       exact wpS_pure ⟨hG3.set _,.inl ⟨_,_,rfl,I4.doneA e4⟩⟩
      refine aH (by simpa using e4) ?_
      have hb5:O.blt (rk (kyd b jb)) (rk (kyd a (ja+k)))=true:=by simpa [bey] using hk3 k (Nat.le_refl _) (by lia)
      have ha5:ja+k+1 < a.size:=by lia
      have hp5:ia+ib+1<=ja+k+jb:=by lia
      generalize out3++a.extract ja (ja+k)=out5 at I4 ⊢
      generalize ja+k=ja5 at I4 hb5 ha5 hp5 ⊢
      clear gal1 hk1 hk2 hk3
     case' neg=>
      refine aH hk0 ?_
      have hb5:O.blt (rk (kyd b jb)) (rk (kyd a ja))=true:=by simpa [bey] using hk3 0 (by lia) (by lia)
      have ha5:ja+1 < a.size:=ha3
      have hp5:ia+ib+1<=ja+jb:=hp3
      clear I4
      have I4:=I3
      revert I4
      generalize out3=out5
      intro I4
      clear gal1 hk1 hk2 hk3
      revert I4 hb5 ha5 hp5
      generalize ja=ja5
      intro hb5 ha5 hp5 I4
     all_goals
      refine wpS_bind (aS (aG hb3) ?_)
      have I5:=I4.b1 hb3 (by lia) hb5
      by_cases e5:jb+1=b.size
      ·refine aT (by simpa using e5) ?_
       exact wpS_pure ⟨hG3.set _,.inl ⟨_,_,rfl,I5.doneB e5⟩⟩
      refine aH (by simpa using e5) ?_
      refine wpS_bind (aS (aG (by lia)) (wpS_bind (dB hC (hG3.kind.trans hk) (T.sa _ (by lia)) (by lia) (λi hi=>T.sb _ (by lia)) (by lia) (T.galB (by lia)) λk2 hk1 hk2 hk3=>?_)))
      have I6:=I5.bs (by lia) k2 (by lia) hk2
      dsimp only
      by_cases hk20:k2 > 0
      case' pos=>
       refine aT hk20 ?_
       by_cases e6:jb+1+k2=b.size
       ·refine aT (by simpa using e6) ?_
        exact wpS_pure ⟨hG3.set _,.inl ⟨_,_,rfl,I6.doneB e6⟩⟩
       refine aH (by simpa using e6) ?_
       have hb7:O.blt (rk (kyd b (jb+1+k2))) (rk (kyd a ja5))=false:=by simpa [bey] using hk3 k2 (Nat.le_refl _) (by lia)
       have hj7:jb+1+k2 < b.size:=by lia
       have hp7:ia+ib+1<=ja5+1+(jb+1+k2):=by lia
       generalize out5.push (kyd b jb)++b.extract (jb+1) (jb+1+k2)=out7 at I6 ⊢
       generalize jb+1+k2=jb7 at I6 hb7 hj7 hp7 ⊢
      case' neg=>
       refine aH hk20 ?_
       have hb7:O.blt (rk (kyd b (jb+1))) (rk (kyd a ja5))=false:=by simpa [bey] using hk3 0 (by lia) (by lia)
       have hj7:jb+1 < b.size:=by lia
       have hp7:ia+ib+1<=ja5+1+(jb+1):=by lia
       clear I6
       have I6:=I5
       clear I5 I4 hk1 hk2 hk3 e5
       revert I6 hb7 hj7 hp7
       generalize out5.push (kyd b jb)=out7
       generalize jb+1=jb7
       intro hb7 hj7 hp7 I6
      all_goals
       refine wpS_bind (aS (aG (by lia)) ?_)
       have I7:=I6.a1 hj7 (by lia) hb7
       by_cases e7:ja5+1+1=a.size
       ·refine aT (by simpa using e7) ?_
        exact wpS_pure ⟨hG3.set _,.inl ⟨_,_,rfl,I7.lastA e7 T.last⟩⟩
       refine aH (by simpa using e7) ?_
       split
       ·exact wpS_pure ⟨hG3.set _,.inr ⟨_,_,_,_,_,_,rfl,I7,by lia,hj7,hp7⟩⟩
       ·exact wpS_pure ⟨hG3.set _,_,_,_,_,_,_,rfl,I7,by lia,hj7,hp7⟩
   ·rintro c st3 ⟨hG3,out3,ja,jb,g3,ac,bc,rfl,I3,ha3,hb3,hp3⟩
    exact⟨hG3,.inr ⟨_,_,_,_,_,_,rfl,I3,ha3,hb3,hp3⟩⟩
   ·exact⟨hG,_,_,_,_,_,_,rfl,I2,ha2,hb2,hp2⟩
   ·rintro c st3 ⟨hG3,⟨r,c',rfl,hr⟩ | ⟨out3,ja,jb,g3,ac,bc,rfl,I3,ha3,hb3,hp3⟩⟩
    ·exact wpS_pure ⟨_,_,rfl,hr,hG3⟩
    ·refine wpS_bind (wpS_modify (wpS_pure ⟨out3,ja,jb,_,rfl,I3,ha3,hb3,by lia,hG3.set _⟩))
 ·rintro c st' ⟨out,ia,ib,g,rfl,I,ha,hb,hp,hG⟩
  exfalso;lia
 ·exact⟨_,_,_,_,rfl,I0,by lia,by lia,by lia,.refl⟩
 ·rintro c st' ⟨r,c',rfl,hr,hG⟩
  exact wpS_pure (h r st' hG hr)
end
end L2
namespace L2
open PySem PySem.Spec PyProof.Rows
section
variable {prog:Program}{w:World}{A:Around}{E:Value->Shared->Prop}{s:Shared}{κ:SortKind}{O:KeyOrd}{rk:Keyed->O.α}{S:Keyed->Prop}{st:SortSt}{a b out:Array Keyed}{na nb:Nat}
structure Hid (G:Prop):Prop where
 out:G
theorem shr {C:Prop} [Decidable C] {G P:Prop} (hp:C->Hid G->P) (hn:¬ C->Hid G->P) (g:G):P:=if h:C then hp h ⟨g⟩ else hn h ⟨g⟩
theorem fL {a:Array Keyed}{n:Nat}:(a.extract 0 n).toList=a.toList.take n:=by
 rw [Array.toList_extract,List.extract_eq_take_drop];simp
theorem MH.doneA (h:MH O rk a b out na nb) (e:na=0):(a.extract 0 na++b.extract 0 nb++out.reverse).toList=mrg O rk a.toList b.toList:=by
 unfold MH at h
 subst e
 rw [Array.toList_append,Array.toList_append,fL,fL,Array.toList_reverse,<-h,List.take_zero,fY,List.nil_append]
theorem MH.doneB (h:MH O rk a b out na nb) (e:nb=0):(a.extract 0 na++b.extract 0 nb++out.reverse).toList=mrg O rk a.toList b.toList:=by
 unfold MH at h
 subst e
 rw [Array.toList_append,Array.toList_append,fL,fL,Array.toList_reverse,<-h,List.take_zero,eK,List.append_nil]
theorem MH.firstB (T:Two O rk S a b) (h:MH O rk a b out na nb) (ha:0 < na) (e:nb=1):(b.extract 0 nb++a.extract 0 na++out.reverse).toList=mrg O rk a.toList b.toList:=by
 unfold MH at h
 subst e
 have e1:b.toList.take 1=[kyd b 0]:=by rw [jk T.pb];simp
 have e2:a.toList.take na=kyd a 0::(a.toList.drop 1).take (na - 1):=by
  obtain⟨m,rfl⟩:∃ m,na=m+1:=⟨na - 1,by lia⟩
  have:=cV T.pa
  rw [List.drop_zero] at this
  rw [this];simp
 rw [Array.toList_append,Array.toList_append,fL,fL,Array.toList_reverse,<-h,e1,e2,kg T.first,eK]
 rfl
theorem Two.belowB (T:Two O rk S a b) {i j:Nat}{x:Keyed} (hij:i<=j) (hj:j < b.size) (h:O.blt (rk (kyd b j)) (rk x)=true):O.blt (rk (kyd b i)) (rk x)=true:=
 KeyOrd.klt_of_kle_of_klt (O:=O) (T.ub i j (Nat.zero_le _) hij (by lia)) h
theorem Two.belowA (T:Two O rk S a b) {i j:Nat}{x:Keyed} (hij:i<=j) (hj:j < a.size) (h:O.blt (rk x) (rk (kyd a j))=false):O.blt (rk x) (rk (kyd a i))=false:=
 KeyOrd.kle_trans (O:=O) (T.ua i j (Nat.zero_le _) hij (by lia)) h
theorem nk {a:Array Keyed}{t k:Nat} (h:t+k < a.size):out++(a.extract t (t+(k+1))).reverse=(out.push (kyd a (t+k)))++(a.extract t (t+k)).reverse:=by
 apply Array.toList_inj.mp
 have e:=ki (out:=#[]) (a:=a) (i:=t) (k:=k) h
 have e':a.extract t (t+(k+1))=(a.extract t (t+k)).push (kyd a (t+k)):=by
  have z:∀ x:Array Keyed,#[]++x=x:=λx=>by simp
  rw [z,z] at e;exact e
 rw [e'];simp
theorem MH.as (T:Two O rk S a b) {t:Nat} (hb:∀ i,i < nb->i < b.size->∀ j,t<=j->j < a.size->O.blt (rk (kyd b i)) (rk (kyd a j))=true):∀ (k:Nat) {out:Array Keyed},MH O rk a b out (t+k) nb->t+k<=a.size->MH O rk a b (out++(a.extract t (t+k)).reverse) t nb
 | 0,out,h,_=>by
  have:out++(a.extract t (t+0)).reverse=out:=by apply Array.toList_inj.mp;simp
  rw [this];exact h
 | k+1,out,h,hz=>by
  rw [nk (by lia)]
  exact MH.as T hb k (MH.a1 (na:=t+k) h (by lia) λi h1 h2=>hb i h1 h2 (t+k) (by lia) (by lia)) (by lia)
theorem MH.bs (T:Two O rk S a b) {t:Nat} (hb:∀ i,i < na->i < a.size->∀ j,t<=j->j < b.size->O.blt (rk (kyd b j)) (rk (kyd a i))=false):∀ (k:Nat) {out:Array Keyed},MH O rk a b out na (t+k)->t+k<=b.size->MH O rk a b (out++(b.extract t (t+k)).reverse) na t
 | 0,out,h,_=>by
  have:out++(b.extract t (t+0)).reverse=out:=by apply Array.toList_inj.mp;simp
  rw [this];exact h
 | k+1,out,h,hz=>by
  rw [nk (by lia)]
  exact MH.bs T hb k (MH.b1 (nb:=t+k) h (by lia) λi h1 h2=>hb i h1 h2 (t+k) (by lia) (by lia)) (by lia)
theorem MH.a1' (T:Two O rk S a b) (h:MH O rk a b out na nb) (ha:0 < na) (hz:na<=a.size) (hb:0 < nb) (hz2:nb<=b.size) (hl:O.blt (rk (kyd b (nb - 1))) (rk (kyd a (na - 1)))=true):MH O rk a b (out.push (kyd a (na - 1))) (na - 1) nb:=
 MH.a1 (by rw [show na - 1+1=na by lia];exact h) (by lia) λi h1 h2=>T.belowB (by lia) (by lia) hl
theorem MH.b1' (T:Two O rk S a b) (h:MH O rk a b out na nb) (ha:0 < na) (hz:na<=a.size) (hb:0 < nb) (hz2:nb<=b.size) (hl:O.blt (rk (kyd b (nb - 1))) (rk (kyd a (na - 1)))=false):MH O rk a b (out.push (kyd b (nb - 1))) na (nb - 1):=
 MH.b1 (by rw [show nb - 1+1=nb by lia];exact h) (by lia) λi h1 h2=>T.belowA (by lia) (by lia) hl
theorem MH.as' (T:Two O rk S a b) {t:Nat} (h:MH O rk a b out na nb) (ht:t<=na) (hz:na<=a.size) (hb:0 < nb) (hz2:nb<=b.size) (hq:∀ i,t<=i->i < na->bey O rk false (kyd b (nb - 1)) (kyd a (0+i))=false):MH O rk a b (out++(a.extract t na).reverse) t nb:=by
 by_cases e:t=na
 ·subst e
  have:out++(a.extract t t).reverse=out:=by apply Array.toList_inj.mp;simp
  rw [this];exact h
 have e2:t+(na - t)=na:=by lia
 have:=MH.as T (t:=t) (nb:=nb) (a:=a) (b:=b) (λi h1 h2 j h3 h4=>?_) (na - t) (out:=out) (by rw [e2];exact h) (by lia)
 ·rw [e2] at this;exact this
 ·have q:=hq t (Nat.le_refl _) (by lia)
  simp only [bey,Bool.false_eq_true,if_false,Bool.not_eq_false',Nat.zero_add] at q
  exact T.belowB (j:=nb - 1) (by lia) (by lia) (KeyOrd.klt_of_klt_of_kle (O:=O) q (T.ua t j (Nat.zero_le _) h3 (by lia)))
theorem MH.bs' (T:Two O rk S a b) {t:Nat} (h:MH O rk a b out na nb) (ht:t<=nb) (hz:nb<=b.size) (ha:0 < na) (hz2:na<=a.size) (hq:∀ i,t<=i->i < nb->bey O rk true (kyd a (na - 1)) (kyd b (0+i))=false):MH O rk a b (out++(b.extract t nb).reverse) na t:=by
 by_cases e:t=nb
 ·subst e
  have:out++(b.extract t t).reverse=out:=by apply Array.toList_inj.mp;simp
  rw [this];exact h
 have e2:t+(nb - t)=nb:=by lia
 have:=MH.bs T (t:=t) (na:=na) (a:=a) (b:=b) (λi h1 h2 j h3 h4=>?_) (nb - t) (out:=out) (by rw [e2];exact h) (by lia)
 ·rw [e2] at this;exact this
 ·have q:=hq t (Nat.le_refl _) (by lia)
  simp only [bey,if_true,Nat.zero_add] at q
  exact T.belowA (j:=na - 1) (by lia) (by lia) (KeyOrd.kle_trans (O:=O) q (T.ub t j (Nat.zero_le _) h3 (by lia)))
set_option maxHeartbeats 4000000 in
theorem ug (hC:Cm prog w A s κ O rk S) {Q:Array Keyed->SortSt->Prop} (hk:kindOf st=κ) (T:Two O rk S a b)
  (h:∀ r st',Gs st st'->r.toList=mrg O rk a.toList b.toList->Q r st'):wpS (model prog w) A E s (yQ a b) Q st:=by
 have pa:=T.pa
 have pb:=T.pb
 refine wpS_bind (eV ?_)
 refine wpS_bind (aS (aG (by lia)) ?_)
 have I0:MH O rk a b #[kyd a (a.size - 1)] (a.size - 1) b.size:=by
  have e:a.size - 1+1=a.size:=by lia
  exact MH.a1 (out:=#[]) (by rw [e];exact MH.start) (by lia) λi h1 h2=>T.last i h2
 dsimp -zeta only
 by_cases e1:a.size - 1=0
 ·refine aT (by simpa using e1) ?_
  exact wpS_pure (h _ _ .refl (I0.doneA e1))
 refine aH (by simpa using e1) ?_
 by_cases e2:b.size=1
 ·refine aT (by simpa using e2) ?_
  exact wpS_pure (h _ _ .refl (I0.firstB T (by lia) e2))
 refine aH (by simpa using e2) ?_
 refine wpS_bind (wpS_get ?_)
 refine wpS_bind (wpS_mono (wpS_forRange (I:=λx c st'=>∃ out na nb g,c=(none,na,nb,out,g)/\MH O rk a b out na nb/\0 < na/\1 < nb/\na<=a.size/\nb<=b.size/\na+nb+x+1<=a.size+b.size/\Gs st st')
  (Q:=λc st'=>∃ r c',c=(some r,c')/\r.toList=mrg O rk a.toList b.toList/\Gs st st') ?_ ?_ ?_) ?_)
 ·rintro x c st' _ hx ⟨out,na,nb,g,rfl,I,ha,hb,hza,hzb,hp,hG⟩
  have hk':kindOf st'=κ:=hG.kind.trans hk
  refine wpS_bind (wpS_mono (wpS_forRange (I:=λy c st2=>st2=st'/\∃ out ma mb ac bc,c=(none,ma,mb,out,ac,bc)/\MH O rk a b out ma mb/\0 < ma/\1 < mb/\ma<=a.size/\mb<=b.size/\ma+mb+y<=na+nb)
   (Q:=λc st2=>st2=st'/\((∃ r c',c=(some r,c')/\r.toList=mrg O rk a.toList b.toList)\/∃ out ma mb ac bc,c=(none,ma,mb,out,ac,bc)/\MH O rk a b out ma mb/\0 < ma/\1 < mb/\ma<=a.size/\mb<=b.size/\ma+mb+1<=na+nb)) ?_ ?_ ?_) ?_)
  ·rintro y c st2 _ hy ⟨rfl,out2,ma,mb,ac,bc,rfl,I2,ha2,hb2,za2,zb2,hp2⟩
   dsimp only
   refine wpS_bind (aS (aG (by lia)) (wpS_bind (aS (aG (by lia)) (wpS_bind (no hC hk' (T.sb _ (by lia)) (T.sa _ (by lia)) ?_)))))
   cases hl:O.blt (rk (kyd b (mb - 1))) (rk (kyd a (ma - 1))) with
   | true=>
    dsimp only
    refine aT rfl ?_
    refine wpS_bind (aS (aG (by lia)) ?_)
    have I3:=I2.a1' T ha2 za2 (by lia) zb2 hl
    by_cases e3:ma - 1=0
    ·refine aT (by simpa using e3) ?_
     exact wpS_pure ⟨rfl,.inl ⟨_,_,rfl,I3.doneA e3⟩⟩
    ·refine aH (by simpa using e3) ?_
     split
     ·exact wpS_pure ⟨rfl,.inr ⟨_,_,_,_,_,rfl,I3,by lia,hb2,by lia,zb2,by lia⟩⟩
     ·exact wpS_pure ⟨rfl,_,_,_,_,_,rfl,I3,by lia,hb2,by lia,zb2,by lia⟩
   | false=>
    dsimp only
    refine aH (by simp) ?_
    refine wpS_bind (aS (aG (by lia)) ?_)
    have I3:=I2.b1' T ha2 za2 (by lia) zb2 hl
    by_cases e3:mb - 1=1
    ·refine aT (by simpa using e3) ?_
     exact wpS_pure ⟨rfl,.inl ⟨_,_,rfl,I3.firstB T ha2 e3⟩⟩
    ·refine aH (by simpa using e3) ?_
     split
     ·exact wpS_pure ⟨rfl,.inr ⟨_,_,_,_,_,rfl,I3,ha2,by lia,za2,by lia,by lia⟩⟩
     ·exact wpS_pure ⟨rfl,_,_,_,_,_,rfl,I3,ha2,by lia,za2,by lia,by lia⟩
  ·rintro c st2 ⟨rfl,out2,ma,mb,ac,bc,rfl,I2,ha2,hb2,za2,zb2,hp2⟩
   exact⟨rfl,.inr ⟨_,_,_,_,_,rfl,I2,ha2,hb2,za2,zb2,by lia⟩⟩
  ·exact⟨rfl,out,na,nb,0,0,rfl,I,ha,hb,hza,hzb,by lia⟩
  ·rintro c st2 ⟨rfl,⟨r,c',rfl,hr⟩ | ⟨out2,ma,mb,ac,bc,rfl,I2,ha2,hb2,za2,zb2,hp2⟩⟩
   ·exact wpS_pure ⟨_,_,rfl,hr,hG⟩
   refine wpS_bind (eV ?_)
   refine wpS_bind (wpS_mono (wpS_forRange (I:=λy c st3=>Gs st st3/\∃ out ma mb g ac bc,c=(none,ma,mb,out,g,ac,bc)/\MH O rk a b out ma mb/\0 < ma/\1 < mb/\ma<=a.size/\mb<=b.size/\ma+mb+1<=na+nb)
    (Q:=λc st3=>Gs st st3/\((∃ r c',c=(some r,c')/\r.toList=mrg O rk a.toList b.toList)\/∃ out ma mb g ac bc,c=(none,ma,mb,out,g,ac,bc)/\MH O rk a b out ma mb/\0 < ma/\1 < mb/\ma<=a.size/\mb<=b.size/\ma+mb+1<=na+nb)) ?_ ?_ ?_) ?_)
   ·rintro y c st3 _ hy ⟨hG3,out3,ma,mb,g3,ac,bc,rfl,I3,ha3,hb3,za3,zb3,hp3⟩
    have gal1:∀ (g4:Nat) (Q':Option Nat->SortSt->Prop),(∀ k,k<=ma->(∀ i,i < k->bey O rk false (kyd b (mb - 1)) (kyd a (0+i))=true)->(∀ i,k<=i->i < ma->bey O rk false (kyd b (mb - 1)) (kyd a (0+i))=false)->Q' (some k) (SortSt.mk' (kindOf st3) (arrOf st3) (pendingOf st3) g4 (failedOf st3)))->
      wpS (model prog w) A E s (mP false (kyd b (mb - 1)) a 0 ma (ma - 1)) Q' (SortSt.mk' (kindOf st3) (arrOf st3) (pendingOf st3) g4 (failedOf st3)):=λg4 Q' hq=>
     dB hC (hG3.kind.trans hk) (T.sb _ (by lia)) (by lia) (λi hi=>T.sa _ (by lia)) (by lia) (T.galA (by lia)) hq
    dsimp only
    apply shr (C:=g3 > 1)
    case hp=>
     intro hg1 tail
     refine aT hg1 ?_
     generalize g3 - 1=g4
     revert g4
     exact tail.out
    case hn=>
     intro hg1 tail
     refine aH hg1 ?_
     exact tail.out g3
    case g=>
     intro g4
     refine wpS_bind (wpS_modify ?_)
     refine wpS_bind (aS (aG (by lia)) (wpS_bind (gal1 _ _ λt hk1 hk2 hk3=>?_)))
     have I4:=I3.as' T hk1 za3 (by lia) zb3 hk3
     have hb5:∀ i,i < t->O.blt (rk (kyd b (mb - 1))) (rk (kyd a i))=false:=λi hi=>by simpa [bey] using hk2 i hi
     clear hk2 hk3 gal1
     dsimp only
     apply shr (C:=ma - t > 0)
     case hp=>
      intro hk0 tail
      refine aT hk0 ?_
      by_cases e3:t=0
      ·refine aT (by simpa using e3) ?_
       exact wpS_pure ⟨hG3.set _,.inl ⟨_,_,rfl,I4.doneA e3⟩⟩
      refine aH (by simpa using e3) ?_
      have ha5:0 < t:=by lia
      have za5:t<=a.size:=by lia
      have hp5:t+mb+1<=na+nb:=by lia
      have J4:=I4
      have jb5:=hb5
      generalize out3++(a.extract t ma).reverse=out5 at J4 ⊢
      generalize ma - t=ac5
      generalize t=t5 at jb5 J4 ha5 za5 hp5 ⊢
      revert jb5 J4 ha5 za5 hp5
      revert ac5 out5 t5
      exact tail.out
     case hn=>
      intro hk0 tail
      refine aH hk0 ?_
      have e0:t=ma:=by lia
      subst e0
      have e9:out3++(a.extract t t).reverse=out3:=by apply Array.toList_inj.mp;simp
      rw [e9] at I4
      exact tail.out _ _ t hb5 I4 ha3 za3 hp3
     case g=>
      clear I4 hb5 hk1
      intro out5 ac5 t hb5 I4 ha5 za5 hp5
      refine wpS_bind (aS (aG (by lia)) ?_)
      have I5:=I4.b1' T ha5 za5 (by lia) zb3 (hb5 _ (by lia))
      by_cases e5:mb - 1=1
      ·refine aT (by simpa using e5) ?_
       exact wpS_pure ⟨hG3.set _,.inl ⟨_,_,rfl,I5.firstB T ha5 e5⟩⟩
      refine aH (by simpa using e5) ?_
      refine wpS_bind (aS (aG (by lia)) (wpS_bind (dB hC (hG3.kind.trans hk) (T.sa _ (by lia)) (by lia) (λi hi=>T.sb _ (by lia)) (by lia) (T.galB (by lia)) λu hk1 hk2 hk3=>?_)))
      have I6:=I5.bs' T hk1 (by lia) ha5 za5 hk3
      have hb7:∀ i,i < u->O.blt (rk (kyd b i)) (rk (kyd a (t - 1)))=true:=λi hi=>by simpa [bey] using hk2 i hi
      clear hk2 hk3
      dsimp only
      apply shr (C:=mb - 1 - u > 0)
      case hp=>
       intro hk20 tail
       refine aT hk20 ?_
       by_cases e6:u=1
       ·refine aT (by simpa using e6) ?_
        exact wpS_pure ⟨hG3.set _,.inl ⟨_,_,rfl,I6.firstB T ha5 e6⟩⟩
       refine aH (by simpa using e6) ?_
       by_cases e7:u=0
       ·refine aT (by simpa using e7) ?_
        exact wpS_pure ⟨hG3.set _,.inl ⟨_,_,rfl,I6.doneB e7⟩⟩
       refine aH (by simpa using e7) ?_
       have hj7:1 < u:=by lia
       have zj7:u<=b.size:=by lia
       have hp7:t+u+1<=na+nb:=by lia
       have J6:=I6
       have jb7:=hb7
       generalize out5.push (kyd b (mb - 1))++(b.extract u (mb - 1)).reverse=out7 at J6 ⊢
       generalize mb - 1 - u=bc7
       generalize u=u7 at jb7 J6 hj7 zj7 hp7 ⊢
       revert jb7 J6 hj7 zj7 hp7
       revert bc7 out7 u7
       exact tail.out
      case hn=>
       intro hk20 tail
       refine aH hk20 ?_
       have e0:u=mb - 1:=by lia
       subst e0
       have e9:out5.push (kyd b (mb - 1))++(b.extract (mb - 1) (mb - 1)).reverse=out5.push (kyd b (mb - 1)):=by apply Array.toList_inj.mp;simp
       rw [e9] at I6
       exact tail.out _ _ (mb - 1) hb7 I6 (by lia) (by lia) (by lia)
      case g=>
       clear I6 hb7 hk1
       intro out7 bc7 u hb7 I6 hj7 zj7 hp7
       refine wpS_bind (aS (aG (by lia)) ?_)
       have I7:=I6.a1' T ha5 za5 (by lia) zj7 (hb7 _ (by lia))
       by_cases e7:t - 1=0
       ·refine aT (by simpa using e7) ?_
        exact wpS_pure ⟨hG3.set _,.inl ⟨_,_,rfl,I7.doneA e7⟩⟩
       refine aH (by simpa using e7) ?_
       split
       ·exact wpS_pure ⟨hG3.set _,.inr ⟨_,_,_,_,_,_,rfl,I7,by lia,hj7,by lia,zj7,by lia⟩⟩
       ·exact wpS_pure ⟨hG3.set _,_,_,_,_,_,_,rfl,I7,by lia,hj7,by lia,zj7,by lia⟩
   ·rintro c st3 ⟨hG3,out3,ja,jb,g3,ac,bc,rfl,I3,ha3,hb3,za3,zb3,hp3⟩
    exact⟨hG3,.inr ⟨_,_,_,_,_,_,rfl,I3,ha3,hb3,za3,zb3,hp3⟩⟩
   ·exact⟨hG,_,_,_,_,_,_,rfl,I2,ha2,hb2,za2,zb2,hp2⟩
   ·rintro c st3 ⟨hG3,⟨r,c',rfl,hr⟩ | ⟨out3,ja,jb,g3,ac,bc,rfl,I3,ha3,hb3,za3,zb3,hp3⟩⟩
    ·exact wpS_pure ⟨_,_,rfl,hr,hG3⟩
    ·refine wpS_bind (wpS_modify (wpS_pure ⟨out3,ja,jb,_,rfl,I3,ha3,hb3,za3,zb3,by lia,hG3.set _⟩))
 ·rintro c st' ⟨out,ia,ib,g,rfl,I,ha,hb,hza,hzb,hp,hG⟩
  exfalso;lia
 ·exact⟨_,_,_,_,rfl,I0,by lia,by lia,by lia,by lia,by lia,.refl⟩
 ·rintro c st' ⟨r,c',rfl,hr,hG⟩
  exact wpS_pure (h r st' hG hr)
end
end L2
namespace L2
open PySem PySem.Spec PyProof.Rows
section
variable {prog:Program}{w:World}{A:Around}{E:Value->Shared->Prop}{s:Shared}{κ:SortKind}{O:KeyOrd}{rk:Keyed->O.α}{S:Keyed->Prop}{st:SortSt}{arr:Array Keyed}{n1 n2:Nat}
theorem oY (sa:Nat):∀ (l:List Keyed) (n:Nat) (arr:Array Keyed),sa+n+l.length<=arr.size->
  ((l.zipIdx n).foldl (λ(a:Array Keyed) x=>match x with | (p,j)=>a.setIfInBounds (sa+j) p) arr).toList=arr.toList.take (sa+n)++l++arr.toList.drop (sa+n+l.length)
 | [],n,arr,h=>by simp
 | p::l,n,arr,h=>by
  rw [List.zipIdx_cons,List.foldl_cons,oY sa l (n+1) _ (by simp only [List.length_cons] at h;simp;lia)]
  have hn:sa+n < arr.toList.length:=by simp only [List.length_cons] at h;simp;lia
  rw [Array.toList_setIfInBounds,<-Nat.add_assoc,List.take_succ_eq_append_getElem (by rw [List.length_set];exact hn),List.getElem_set_self,List.take_set_of_le (Nat.le_refl _),List.drop_set_of_lt (by lia),List.length_cons]
  simp [Nat.add_assoc,Nat.add_comm 1]
theorem dn {a:Array Keyed}{i j k:Nat} (h:k < j - i) (hj:j<=a.size):kyd (a.extract i j) k=kyd a (i+k):=by
 apply cr
 rw [Array.getElem?_extract_of_lt (by lia),Array.getElem?_eq_getElem (by lia)]
theorem kM {a:Array Keyed} (h:Up rk a 0 a.size):a.toList.Pairwise λx y=>O.kle (rk x) (rk y):=by
 rw [List.pairwise_iff_getElem]
 intro i j hi hj hij
 have hi':i < a.size:=by simpa using hi
 have hj':j < a.size:=by simpa using hj
 have q:=h i j (Nat.zero_le _) (by lia) (by lia)
 have e1:=aG hi'
 have e2:=aG hj'
 rw [Array.getElem?_eq_getElem hi'] at e1
 rw [Array.getElem?_eq_getElem hj'] at e2
 rw [<-Option.some.inj e1,<-Option.some.inj e2] at q
 simpa using q
theorem mH {a:Array Keyed}{i j:Nat} (h:Up rk a i (j - i)) (hj:j<=a.size):Up rk (a.extract i j) 0 (a.extract i j).size:=by
 intro x y _ hxy hy
 have hs:(a.extract i j).size=j - i:=by simp;lia
 rw [dn (by lia) hj,dn (by lia) hj]
 exact h _ _ (by lia) (by lia) (by lia)
theorem iQ {a:Array Keyed}{i j:Nat}{x:Keyed} (h:x ∈ (a.extract i j).toList) (hj:j<=a.size):∃ k,i<=k/\k < j/\x=kyd a k:=by
 obtain⟨k,hk,rfl⟩:=oV h
 have hs:(a.extract i j).size=j - i:=by simp;lia
 exact⟨i+k,by lia,by lia,by rw [dn (by lia) hj]⟩
theorem xh {a:Array Keyed}{i j k:Nat} (h1:i<=j) (h2:j<=k) (h3:k<=a.size):a.toList=a.toList.take i++(a.extract i j).toList++(a.extract j k).toList++a.toList.drop k:=by
 have e1:(a.extract i j).toList=(a.toList.drop i).take (j - i):=by rw [Array.toList_extract,List.extract_eq_take_drop]
 have e2:(a.extract j k).toList=(a.toList.drop j).take (k - j):=by rw [Array.toList_extract,List.extract_eq_take_drop]
 rw [e1,e2]
 have c1:a.toList.take i++(a.toList.drop i).take (j - i)=a.toList.take j:=by
  rw [<-List.take_add,show i+(j - i)=j by lia]
 have c2:a.toList.take j++(a.toList.drop j).take (k - j)=a.toList.take k:=by
  rw [<-List.take_add,show j+(k - j)=k by lia]
 rw [c1,c2,List.take_append_drop]
set_option maxHeartbeats 2000000 in
theorem uO (hC:Cm prog w A s κ O rk S) {Q:Bool->SortSt->Prop}{p q:Nat} (hk:kindOf st=κ) (hf:failedOf st=none) (hp:pendingOf st=#[(0,n1,p),(n1,n2,q)]) (hS:∀ x ∈ (arrOf st).toList,S x) (hz:(arrOf st).size=n1+n2) (h1:0 < n1) (h2:0 < n2)
  (u1:Up rk (arrOf st) 0 n1) (u2:Up rk (arrOf st) n1 n2)
  (h:∀ st',(arrOf st').toList.Perm (arrOf st).toList->(arrOf st').toList.Pairwise (λx y=>O.kle (rk x) (rk y))->failedOf st'=none->pendingOf st'=#[(0,n1+n2,p)]->Q true st'):wpS (model prog w) A E s (vz 0) Q st:=by
 have hSi:∀ i,i < n1+n2->S (kyd (arrOf st) i):=λi hi=>by
  have hi':i < (arrOf st).size:=by lia
  refine hS _ ?_
  have e:=aG hi'
  rw [Array.getElem?_eq_getElem hi'] at e
  rw [<-Option.some.inj e];exact Array.getElem_mem_toList hi'
 refine wpS_bind (wpS_get ?_)
 have e1:(pendingOf st)[0]?=some (0,n1,p):=by rw [hp];rfl
 have e2:(pendingOf st)[0+1]?=some (n1,n2,q):=by rw [hp];rfl
 rw [e1,e2]
 refine wpS_bind ?_
 have hset:∀ (x:SortSt) (Q':PUnit->SortSt->Prop) (st0:SortSt),Q' ⟨⟩ x->wpS (model prog w) A E s (set x:StateT SortSt Sem PUnit) Q' st0:=λx Q' st0 hq=>by
  unfold wpS;exact wpAny_pure ⟨rfl,hq⟩
 refine hset _ _ _ ?_
 have e3:((pendingOf st).setIfInBounds 0 (0,n1+n2,p)).eraseIdxIfInBounds (0+1)=#[(0,n1+n2,p)]:=by
  rw [hp];apply Array.toList_inj.mp;simp [Array.eraseIdxIfInBounds]
 rw [e3]
 clear e1 e2 e3 hp
 delta arrOf kindOf failedOf gallopOf at *
 obtain⟨kd,arr,pn,gl,fl⟩:=st
 dsimp only at hk hf hS hz u1 u2 h hSi
 dsimp -zeta only
 have h:∀ st',(arrOf st').toList.Perm arr.toList->(arrOf st').toList.Pairwise (λx y=>O.kle (rk x) (rk y))->failedOf st'=none->pendingOf st'=#[(0,n1+n2,p)]->Q true st':=h
 have k2:kindOf (SortSt.mk' kd arr #[(0,n1+n2,p)] gl fl)=κ:=hk
 have a2:arrOf (SortSt.mk' kd arr #[(0,n1+n2,p)] gl fl)=arr:=rfl
 have f2:failedOf (SortSt.mk' kd arr #[(0,n1+n2,p)] gl fl)=none:=hf
 have p2:pendingOf (SortSt.mk' kd arr #[(0,n1+n2,p)] gl fl)=#[(0,n1+n2,p)]:=rfl
 have whole:O.kle (rk (kyd arr (n1 - 1))) (rk (kyd arr n1))->arr.toList.Pairwise λx y=>O.kle (rk x) (rk y):=λhm=>kM λi j _ hij hj=>by
  by_cases c1:j < n1
  ·exact u1 i j (Nat.zero_le _) hij (by lia)
  ·by_cases c2:n1<=i
   ·exact u2 i j c2 hij (by lia)
   ·exact KeyOrd.kle_trans (KeyOrd.kle_trans (u1 i (n1 - 1) (Nat.zero_le _) (by lia) (by lia)) hm) (u2 n1 j (Nat.le_refl _) (by lia) (by lia))
 have ok:arr.toList.Pairwise (λx y=>O.kle (rk x) (rk y))->Q true (SortSt.mk' kd arr #[(0,n1+n2,p)] gl fl):=λhw=>h (SortSt.mk' kd arr #[(0,n1+n2,p)] gl fl) (by rw [a2]) (by rw [a2];exact hw) f2 p2
 refine wpS_bind (aS (aG (by lia)) (wpS_bind (dB hC k2 (hSi _ (by lia)) (by lia) (λi hi=>hSi _ (by lia)) (by lia) (λi j hij hj hb=>?_) λk hk1 hk2 hk3=>?_)))
 ·simp only [bey,Bool.false_eq_true,if_false,Bool.not_eq_true'] at hb ⊢
  exact KeyOrd.kle_trans (O:=O) (u1 (0+i) (0+j) (Nat.zero_le _) (by lia) (by lia)) hb
 simp only [bey,Bool.false_eq_true,if_false,Bool.not_eq_true',Bool.not_eq_false',Nat.zero_add] at hk2 hk3
 dsimp only
 by_cases c1:n1 - k=0
 ·refine aT (by simpa using c1) ?_
  exact wpS_pure (ok (whole (hk2 (n1 - 1) (by lia))))
 refine aH (by simpa using c1) ?_
 rw [show 0+k+(n1 - k) - 1=n1 - 1 by lia,Nat.zero_add]
 refine wpS_bind (aS (aG (by lia)) (wpS_bind (dB hC k2 (hSi _ (by lia)) (by lia) (λi hi=>hSi _ (by lia)) (by lia) (λi j hij hj hb=>?_) λnb hb1 hb2 hb3=>?_)))
 ·simp only [bey,if_true] at hb ⊢
  exact KeyOrd.klt_of_kle_of_klt (O:=O) (u2 (n1+i) (n1+j) (by lia) (by lia) (by lia)) hb
 simp only [bey,if_true] at hb2 hb3
 dsimp only
 by_cases c2:nb=0
 ·refine aT (by simpa using c2) ?_
  exact wpS_pure (ok (whole (hb3 0 (by lia) (by lia))))
 refine aH (by simpa using c2) ?_
 have sx:(arr.extract k n1).size=n1 - k:=by simp;lia
 have sy:(arr.extract n1 (n1+nb)).size=nb:=by simp;lia
 have T:Two O rk S (arr.extract k n1) (arr.extract n1 (n1+nb)):=by
  refine⟨λi hi=>?_,λi hi=>?_,mH (λi j a b c=>u1 i j (Nat.zero_le _) b (by lia)) (by lia),mH (λi j a b c=>u2 i j a b (by lia)) (by lia),by lia,by lia,?_,λi hi=>?_⟩
  ·rw [dn (by lia) (by lia)];exact hSi _ (by lia)
  ·rw [dn (by lia) (by lia)];exact hSi _ (by lia)
  ·rw [dn (by lia) (by lia),dn (by lia) (by lia)];exact hk3 _ (by lia) (by lia)
  ·rw [dn (by lia) (by lia),dn (by lia) (by lia),sx,show k+(n1 - k - 1)=n1 - 1 by lia];exact hb2 i (by lia)
 have fin:∀ (r:Array Keyed) st',Gs (SortSt.mk' kd arr #[(0,n1+n2,p)] gl fl) st'->r.toList=mrg O rk (arr.extract k n1).toList (arr.extract n1 (n1+nb)).toList->
   Q true (SortSt.mk' (kindOf st') ((r.toList.zipIdx).foldl (λ(a:Array Keyed) x=>match x with | (p,j)=>a.setIfInBounds (k+j) p) (arrOf st')) (pendingOf st') (gallopOf st') (failedOf st')):=by
  rintro r st' ⟨g,rfl⟩ hr
  have hl:r.toList.length=n1 - k+nb:=by rw [hr,(jG _ _).length_eq,List.length_append,Array.length_toList,Array.length_toList,sx,sy]
  have e5:=oY k r.toList 0 arr (by lia)
  rw [Nat.add_zero,hl,show k+(n1 - k+nb)=n1+nb by lia,hr] at e5
  have e6:=xh (a:=arr) (i:=k) (j:=n1) (k:=n1+nb) (by lia) (by lia) (by lia)
  refine h _ ?_ ?_ f2 p2
  ·show (List.foldl _ (arrOf (SortSt.mk' kd arr #[(0,n1+n2,p)] gl fl)) _).toList.Perm _
   rw [a2,hr,e5]
   conv=>rhs;rw [e6]
   exact ((jG _ _).append_left _ |>.append_right _).trans (by rw [List.append_assoc,List.append_assoc,List.append_assoc,List.append_assoc])
  ·show (List.foldl _ (arrOf (SortSt.mk' kd arr #[(0,n1+n2,p)] gl fl)) _).toList.Pairwise _
   rw [a2,hr,e5]
   have m1:∀ x ∈ arr.toList.take k,∃ i,i < k/\x=kyd arr i:=λx hx=>by
    rw [<-fL] at hx
    obtain⟨i,_,hi,e⟩:=iQ hx (by lia)
    exact⟨i,hi,e⟩
   have m2:∀ x ∈ arr.toList.drop (n1+nb),∃ i,n1+nb<=i/\i < arr.size/\x=kyd arr i:=λx hx=>by
    rw [<-dN] at hx
    obtain⟨i,h1,h2,e⟩:=iQ hx (Nat.le_refl _)
    exact⟨i,h1,h2,e⟩
   have m3:∀ x ∈ mrg O rk (arr.extract k n1).toList (arr.extract n1 (n1+nb)).toList,∃ i,k<=i/\i < n1+nb/\x=kyd arr i:=λx hx=>by
    rcases List.mem_append.mp ((jG _ _).mem_iff.mp hx) with hx | hx
    ·obtain⟨i,h1,h2,e⟩:=iQ hx (by lia);exact⟨i,h1,by lia,e⟩
    ·obtain⟨i,h1,h2,e⟩:=iQ hx (by lia);exact⟨i,by lia,h2,e⟩
   have lowHi:∀ i j,i < k->n1<=j->j < n1+n2->O.kle (rk (kyd arr i)) (rk (kyd arr j)):=λi j hi h3 h4=>KeyOrd.kle_trans (hk2 i hi) (u2 n1 j (Nat.le_refl _) h3 h4)
   have hiHi:∀ i j,i < n1->n1+nb<=j->j < n1+n2->O.kle (rk (kyd arr i)) (rk (kyd arr j)):=λi j hi h3 h4=>by
    have:=hb3 (j - n1) (by lia) (by lia)
    rw [show n1+(j - n1)=j by lia] at this
    exact KeyOrd.kle_trans (u1 i (n1 - 1) (Nat.zero_le _) (by lia) (by lia)) this
   refine List.pairwise_append.mpr ⟨List.pairwise_append.mpr ⟨?_,xw (kM T.ua) (kM T.ub),?_⟩,?_,?_⟩
   ·rw [<-fL]
    exact kM (mH (λi j a b c=>u1 i j (Nat.zero_le _) b (by lia)) (by lia))
   ·intro x hx y hy
    obtain⟨i,hi,rfl⟩:=m1 x hx
    obtain⟨j,j1,j2,rfl⟩:=m3 y hy
    by_cases c:j < n1
    ·exact u1 i j (Nat.zero_le _) (by lia) (by lia)
    ·exact lowHi i j hi (by lia) (by lia)
   ·rw [<-dN]
    exact kM (mH (λi j a b c=>u2 i j (by lia) b (by lia)) (Nat.le_refl _))
   ·intro x hx y hy
    obtain⟨j,j1,j2,rfl⟩:=m2 y hy
    have hx':∃ i,i < n1+nb/\x=kyd arr i:=by
     rcases List.mem_append.mp hx with hx | hx
     ·obtain⟨i,hi,e⟩:=m1 x hx;exact⟨i,by lia,e⟩
     ·obtain⟨i,_,hi,e⟩:=m3 x hx;exact⟨i,hi,e⟩
    obtain⟨i,hi,rfl⟩:=hx'
    by_cases c:i < n1
    ·exact hiHi i j c j1 (by lia)
    ·exact u2 i j (by lia) (by lia) (by lia)
 have isn:∀ st',Gs (SortSt.mk' kd arr #[(0,n1+n2,p)] gl fl) st'->failedOf st'=none:=by rintro st' ⟨g,rfl⟩;exact f2
 split
 ·refine wpS_bind (tL hC k2 T λr st' hG hr=>?_)
  refine wpS_bind (wpS_modify (wpS_bind (wpS_get (wpS_pure ?_))))
  have:=fin r st' hG hr
  have e:=isn st' hG
  have e':(failedOf st').isNone=true:=by rw [e];rfl
  rw [<-e'] at this
  exact this
 ·refine wpS_bind (ug hC k2 T λr st' hG hr=>?_)
  refine wpS_bind (wpS_modify (wpS_bind (wpS_get (wpS_pure ?_))))
  have:=fin r st' hG hr
  have e:=isn st' hG
  have e':(failedOf st').isNone=true:=by rw [e];rfl
  rw [<-e'] at this
  exact this
end
end L2
namespace L2
open PySem PySem.Spec PyProof.Rows
section
variable {prog:Program}{w:World}{A:Around}{E:Value->Shared->Prop}{s:Shared}{κ:SortKind}{O:KeyOrd}{rk:Keyed->O.α}{S:Keyed->Prop}{st:SortSt}{a0:Array Keyed}
structure xz (κ:SortKind) (O:KeyOrd) (rk:Keyed->O.α) (a0:Array Keyed) (n1:Nat) (st:SortSt):Prop where
 perm:(arrOf st).Perm a0
 kind:kindOf st=κ
 fail:failedOf st=none
 pend:pendingOf st=#[(0,n1,0)]
 up:Up rk (arrOf st) 0 n1
structure uN (κ:SortKind) (O:KeyOrd) (rk:Keyed->O.α) (a0:Array Keyed) (st:SortSt):Prop where
 perm:(arrOf st).Perm a0
 kind:kindOf st=κ
 fail:failedOf st=none
 ex:∃ n1 n2 p,0 < n1/\0 < n2/\n1+n2=a0.size/\pendingOf st=#[(0,n1,p),(n1,n2,0)]/\Up rk (arrOf st) 0 n1/\Up rk (arrOf st) n1 n2
theorem yh {n:Nat} (h2:2<=n) (h64:n<=64):(n < 64/\minRun' n n 0=n)\/n=64/\minRun' n n 0=32:=by
 by_cases h:n=64
 ·subst h;exact .inr ⟨rfl,rfl⟩
 ·obtain⟨f,rfl⟩:∃ f,n=f+1:=⟨n - 1,by lia⟩
  exact .inl ⟨by lia,by rw [minRun'_succ,if_pos (by lia)]⟩
set_option maxHeartbeats 2000000 in
theorem tP (hC:Cm prog w A s κ O rk S) {Q:Unit->SortSt->Prop} (hk:kindOf st=κ) (hf:failedOf st=none) (hp:pendingOf st=#[]) (ha:arrOf st=a0) (hS:∀ x ∈ a0.toList,S x) (h2:2<=a0.size) (h64:a0.size<=64)
  (h:∀ st',(arrOf st').toList.Perm a0.toList->(arrOf st').toList.Pairwise (λx y=>O.kle (rk x) (rk y))->failedOf st'=none->Q () st'):wpS (model prog w) A E s sortRuns' Q st:=by
 obtain⟨mr,hm0,hmr⟩:∃ mr,(sortPriv% PySem.Builtin.minRun) a0.size a0.size 0=mr/\((a0.size < 64/\mr=a0.size)\/a0.size=64/\mr=32):=⟨_,rfl,yh h2 h64⟩
 refine wpS_bind (wpS_get ?_)
 have hz:(arrOf st).size=a0.size:=by rw [ha]
 dsimp only
 rw [hz,hm0]
 refine wpS_bind (wpS_mono (wpS_forRange (I:=λx c st'=>(x=0/\c=(none,0)/\SB κ a0 0 #[] (gallopOf st) st')\/(∃ n1,c=(none,n1)/\xz κ O rk a0 n1 st'/\1<=x/\(n1=a0.size\/x=1/\32<=n1/\n1 < 64/\a0.size=64))\/(c=(none,a0.size)/\uN κ O rk a0 st'/\1<=x))
  (Q:=λc st'=>c.1=none/\(xz κ O rk a0 a0.size st'\/uN κ O rk a0 st')) ?_ ?_ ?_) ?_)
 ·rintro x c st' _ hx H
  rcases H with⟨rfl,rfl,hB⟩ | ⟨n1,rfl,hR,hx1,hor⟩ | ⟨rfl,hR,hx1⟩
  ·dsimp only
   refine aH (by lia) ?_
   refine wpS_bind (pQ hC hS hB (by lia) (by lia) λm st2 hB2 m1 m2 u=>?_)
   have put:∀ n st3,SB κ a0 0 #[] (gallopOf st) st3->Up rk (arrOf st3) 0 n->mr<=n->n<=a0.size->
     xz κ O rk a0 n (SortSt.mk' (kindOf st3) (arrOf st3) ((pendingOf st3).push (0,n,0)) (gallopOf st3) (failedOf st3))/\(n=a0.size\/0+1=1/\32<=n/\n < 64/\a0.size=64):=λn st3 hB3 u3 h1 h2=>
    ⟨⟨hB3.perm,hB3.kind,hB3.fail,by show (pendingOf st3).push _=_;rw [hB3.pend];rfl,u3⟩,by lia⟩
   dsimp only
   by_cases hlt:m < mr
   ·refine aT hlt ?_
    refine wpS_bind (eV (wpS_bind (nD hC hS hB2 m1 (by lia) (by lia) u λst3 hB3 u3=>?_)))
    refine aH (by simp) ?_
    have hP:=put _ st3 hB3 u3 (by lia) (by lia)
    refine wpS_bind (wpS_get ?_)
    have hb:(pendingOf st3).back?=none:=by rw [hB3.pend];rfl
    rw [hb]
    exact wpS_bind (wpS_modify (wpS_pure (.inr (.inl ⟨_,by rw [Nat.zero_add],hP.1,by lia,hP.2⟩))))
   ·refine aH hlt ?_
    have hP:=put m st2 hB2 u (by lia) (by lia)
    refine wpS_bind (wpS_get ?_)
    have hb:(pendingOf st2).back?=none:=by rw [hB2.pend];rfl
    rw [hb]
    exact wpS_bind (wpS_modify (wpS_pure (.inr (.inl ⟨_,by rw [Nat.zero_add],hP.1,by lia,hP.2⟩))))
  ·dsimp only
   by_cases hge:n1>=a0.size
   ·refine aT hge ?_
    have e:n1=a0.size:=by lia
    subst e
    exact wpS_pure ⟨rfl,.inl hR⟩
   refine aH hge ?_
   have hsz:(arrOf st').size=a0.size:=hR.perm.size_eq
   have hS':∀ x ∈ (arrOf st').toList,S x:=λx hx=>hS x ((Array.perm_iff_toList_perm.mp hR.perm).mem_iff.mp hx)
   have hB:SB κ (arrOf st') n1 #[(0,n1,0)] (gallopOf st') st':=⟨Array.Perm.refl _,λ_ _=>rfl,hR.kind,hR.fail,hR.pend,rfl⟩
   have hn:32<=n1/\n1 < 64/\a0.size=64/\mr=32:=by lia
   refine wpS_bind (pQ hC hS' hB (by lia) (by lia) λm st2 hB2 m1 m2 u=>?_)
   have put:∀ n pw st3,n=a0.size - n1->SB κ (arrOf st') n1 #[(0,n1,0)] (gallopOf st') st3->Up rk (arrOf st3) n1 n->
     uN κ O rk a0 (SortSt.mk' (kindOf st3) (arrOf st3) (((pendingOf st3).modify ((pendingOf st3).size - 1) λx=>(x.1,x.2.1,pw)).push (n1,n,0)) (gallopOf st3) (failedOf st3)):=λn pw st3 hn3 hB3 u3=>
    ⟨hB3.perm.trans hR.perm,hB3.kind,hB3.fail,n1,n,pw,by lia,by lia,by lia,by show (Array.modify (pendingOf st3) _ _).push _=_;rw [hB3.pend];simp,λi j a b c=>by
     show O.kle (rk (kyd (arrOf st3) i)) (rk (kyd (arrOf st3) j))
     rw [cr (hB3.pre i (by lia)),cr (hB3.pre j (by lia))]
     exact hR.up i j a b c,u3⟩
   have inner:∀ st3,SB κ (arrOf st') n1 #[(0,n1,0)] (gallopOf st') st3->∀ (f:Nat->Option Unit×Unit->StateT SortSt Sem (ForInStep (Option Unit×Unit))) (Q':Option Unit×Unit->SortSt->Prop),
     (∀ x,∀ Q'':ForInStep (Option Unit×Unit)->SortSt->Prop,Q'' (.done (none,())) st3->wpS (model prog w) A E s (f x (none,())) Q'' st3)->Q' (none,()) st3->wpS (model prog w) A E s (forIn [0:a0.size] (none,()) f) Q' st3:=λst3 hB3 f Q' hf hq=>
    wpS_forRange (I:=λ_ c st4=>c=(none,())/\st4=st3) (λi c st4 _ _ hI=>by
     obtain⟨rfl,rfl⟩:=hI
     exact hf i _ hq) (λc st4 hI=>by obtain⟨rfl,rfl⟩:=hI;exact hq) ⟨rfl,rfl⟩
   dsimp only
   by_cases hlt:m < mr
   case' pos=>
    refine aT hlt ?_
    refine wpS_bind (eV (wpS_bind (nD hC hS' hB2 m1 (by lia) (by lia) u λst3 hB3 u3=>?_)))
    refine aH (by simp) ?_
    have e9:min (a0.size - n1) mr=a0.size - n1:=by lia
    rw [e9] at u3 ⊢
   case' neg=>
    refine aH hlt ?_
    have e9:m=a0.size - n1:=by lia
    subst e9
    have hB3:=hB2
    have u3:=u
    revert hB3 u3
    clear u hB2
    generalize st2=st3
    intro hB3 u3
   all_goals
    refine wpS_bind (wpS_get ?_)
    have hb:(pendingOf st3).back?=some (0,n1,0):=by rw [hB3.pend];rfl
    rw [hb]
    refine wpS_bind (inner st3 hB3 _ _ (λx Q'' hq=>?_) ?_)
    ·refine wpS_bind (wpS_get ?_)
     have hb2:(if (pendingOf st3).size > 1 then (pendingOf st3)[(pendingOf st3).size - 2]? else none)=none:=by rw [hB3.pend];rfl
     rw [hb2]
     exact wpS_pure hq
    ·refine wpS_bind (wpS_modify (wpS_bind (wpS_modify (wpS_pure (.inr (.inr ⟨?_,put _ _ st3 rfl hB3 u3,by lia⟩))))))
     rw [show n1+(a0.size - n1)=a0.size by lia]
  ·dsimp only
   refine aT (Nat.le_refl _) ?_
   exact wpS_pure ⟨rfl,.inr hR⟩
 ·rintro c st' (⟨hx,_⟩ | ⟨n1,rfl,hR,hx1,hor⟩ | ⟨rfl,hR,hx1⟩)
  ·lia
  ·have e:n1=a0.size:=by lia
   subst e
   exact⟨rfl,.inl hR⟩
  ·exact⟨rfl,.inr hR⟩
 ·exact .inl ⟨rfl,rfl,by rw [ha],λ_ _=>by rw [ha],hk,hf,hp,rfl⟩
 ·rintro⟨c1,c2⟩ st' ⟨rfl,hR⟩
  dsimp only
  refine wpS_bind (wpS_mono (wpS_forRange (I:=λy c st2=>c=(none,())/\((y=0/\uN κ O rk a0 st2)\/((pendingOf st2).size=1/\(arrOf st2).toList.Perm a0.toList/\(arrOf st2).toList.Pairwise (λx y=>O.kle (rk x) (rk y))/\failedOf st2=none)))
   (Q:=λc st2=>c=(none,())/\(arrOf st2).toList.Perm a0.toList/\(arrOf st2).toList.Pairwise (λx y=>O.kle (rk x) (rk y))/\failedOf st2=none) ?_ ?_ ?_) ?_)
  ·rintro y c st2 _ hy ⟨rfl,⟨rfl,hR2⟩ | ⟨h1,h2',h3,h4⟩⟩
   ·refine wpS_bind (wpS_get ?_)
    obtain⟨n1,n2,p,z1,z2,z3,z4,u1,u2⟩:=hR2.ex
    have hsz:(arrOf st2).size=a0.size:=hR2.perm.size_eq
    have z5:(sortPriv% PySem.Builtin.SortState.pending) st2=#[(0,n1,p),(n1,n2,0)]:=z4
    rw [z5]
    refine wpS_bind (m:=vz 0) (uO hC hR2.kind hR2.fail z4 (λx hx=>hS x ((Array.perm_iff_toList_perm.mp hR2.perm).mem_iff.mp hx)) (by lia) z1 z2 u1 u2 λst3 a1 a2 a3 a4=>?_)
    refine aH (by simp) ?_
    exact wpS_pure ⟨rfl,.inr ⟨by rw [a4];rfl,a1.trans (Array.perm_iff_toList_perm.mp hR2.perm),a2,a3⟩⟩
   ·refine wpS_bind (wpS_get ?_)
    have h1':(pendingOf st2).size<=1:=by lia
    refine aT h1' ?_
    exact wpS_pure ⟨rfl,h2',h3,h4⟩
  ·rintro c st2 ⟨rfl,⟨hy,_⟩ | ⟨h1,h2',h3,h4⟩⟩
   ·lia
   ·exact⟨rfl,h2',h3,h4⟩
  ·refine⟨rfl,?_⟩
   rcases hR with hR | hR
   ·have hsz:(arrOf st').size=a0.size:=hR.perm.size_eq
    exact .inr ⟨by rw [hR.pend];rfl,Array.perm_iff_toList_perm.mp hR.perm,kM (by rw [hsz];exact hR.up),hR.fail⟩
   ·exact .inl ⟨rfl,hR⟩
  ·rintro c st2 ⟨rfl,h2',h3,h4⟩
   exact wpS_pure (h st2 h2' h3 h4)
end
end L2
namespace L2
open PySem PySem.Spec PyProof.Rows PySem.SeqAt
open MeetsSeq MeetsSeq2 MeetsSeq3 SeqRoads2
open AutoSeq1 (wpAny_loadPart')
noncomputable def kH (A:Around) (s:Shared) (y x:Value) (b:Bool):Prop:=∀ (prog:Program) (w:World) (E:Value->Shared->Prop) (Q:Value->Shared->Prop),Q (.bool b) s->wpAny (model prog w) A (richCompare .Lt y x) Q E s
noncomputable def jl (e l:Nat->Bool) (fin:Bool):Nat->Nat->Bool
 | 0,_=>fin
 | k+1,i=>if e i=true then jl e l fin k (i+1) else l i
theorem jF (p q:Addr) (us vs:Array Value) (n n2:Nat) (dd dd2:Option Addr) (sl sl2:Array (Option Value)) (e l:Nat->Bool) :
  Meets (Builtin.«tuple.__lt__» ⟨[.ref p,.ref q],[]⟩)
   (λA R s=>(s.heap.get? p=some ⟨.type "tuple",dd,.seq us n,sl⟩/\s.heap.get? q=some ⟨.type "tuple",dd2,.seq vs n2,sl2⟩)/\
     (∀ j (h1:j < us.size) (h2:j < vs.size),EqAt A.in1 s us[j] vs[j] (e j)/\(e j=false->kH A.in1 s us[j] vs[j] (l j)))/\
     R (.ok (.ret (.bool (jl e l (decide (us.size < vs.size)) (min us.size vs.size) 0)))) s):=
 .of_wp λprog w A R s h=>by
  obtain⟨hp,g,d,tk,os⟩:=s
  obtain⟨⟨h1,h2⟩,he,h⟩:=h
  have f2:=AutoSeq1.sub_tuple_tuple
  have hZ:(us.toList.zip vs.toList).length=min us.size vs.size:=by simp
  wp_walk using wpAny_loadPart' h1,wpAny_loadPart' h2,wpAny_forIn_list _ (λrest b s'=>b.1=none/\s'=⟨hp,g,d,tk,os⟩/\∃ i,i<=min us.size vs.size/\rest=(us.toList.zip vs.toList).drop i/\
   R (.ok (.ret (.bool (jl e l (decide (us.size < vs.size)) (min us.size vs.size - i) i)))) ⟨hp,g,d,tk,os⟩) _
  case turn=>
   rintro⟨y,x⟩ rest b s' ⟨hb',rfl,i,hi,hz,hR⟩
   have hlt:i < (us.toList.zip vs.toList).length:=by
    rcases Nat.lt_or_ge i (us.toList.zip vs.toList).length with h' | h'
    ·exact h'
    ·rw [List.drop_of_length_le h'] at hz;cases hz
   rw [hZ] at hlt
   have g1:i < us.size:=by lia
   have g2:i < vs.size:=by lia
   rw [List.drop_eq_getElem_cons (by rw [hZ];exact hlt)] at hz
   injection hz with hyx hrest
   have hy:y=us[i]:=by have:=congrArg Prod.fst hyx;simpa using this
   have hx:x=vs[i]:=by have:=congrArg Prod.snd hyx;simpa using this
   subst hy hx
   obtain⟨k,hk⟩:∃ k,min us.size vs.size - i=k+1:=⟨min us.size vs.size - i - 1,by lia⟩
   rw [hk] at hR
   have hR':R (.ok (.ret (.bool (if e i=true then jl e l (decide (us.size < vs.size)) k (i+1) else l i)))) ⟨hp,g,d,tk,os⟩:=hR
   refine wpAny_bind ((he i g1 g2).1 prog w _ _ ?_)
   cases hy:e i with
   | true=>
    rw [hy,if_pos rfl] at hR'
    wp_walk
    exact⟨rfl,rfl,i+1,by lia,hrest,by rw [show min us.size vs.size - (i+1)=k by lia];exact hR'⟩
   | false=>
    rw [hy,if_neg (by simp)] at hR'
    simp only [Bool.not_false,if_true]
    refine wpAny_bind (wpAny_rule ?_)
    refine wpAny_bind ((he i g1 g2).2 hy prog w _ _ ?_)
    wp_walk
    exact⟨_,rfl,hR'⟩
  case fin=>
   rintro⟨b1,b2⟩ s' ⟨hb',rfl,i,hi,hz,hR⟩
   simp only at hb'
   subst hb'
   have hge:min us.size vs.size<=i:=by
    rcases Nat.lt_or_ge i (us.toList.zip vs.toList).length with h' | h'
    ·rw [List.drop_eq_getElem_cons h'] at hz;cases hz
    ·rw [hZ] at h';exact h'
   rw [show min us.size vs.size - i=0 by lia] at hR
   wp_walk
   exact⟨_,rfl,by simpa [Builtin.Tuple.tupleCompareSizes,jl] using hR⟩
  case h=>exact⟨rfl,rfl,0,Nat.zero_le _,rfl,h⟩
section
variable {A:Around}{s:Shared}{p q:Addr}{us vs:Array Value}{e l:Nat->Bool}
theorem kH.tuples (hl:s.heap.IsTuple p us) (hb:s.heap.IsTuple q vs) (hu:A.units < cLine) (he:∀ j (h1:j < us.size) (h2:j < vs.size),EqAt A.in1 s us[j] vs[j] (e j)/\(e j=false->kH A.in1 s us[j] vs[j] (l j))) :
  kH A s (.ref p) (.ref q) (jl e l (decide (us.size < vs.size)) (min us.size vs.size) 0):=λprog w E Q h=>by
 obtain⟨⟨cls,dd,data,sl⟩,ho,hc,n,hd⟩:=id hl
 obtain⟨⟨cls2,dd2,data2,sl2⟩,ho2,hc2,n2,hd2⟩:=id hb
 simp only at hc hd hc2 hd2
 subst hc hd hc2 hd2
 exact richCompare_meets_room (op:=.Lt) ⟨_,ho,rfl⟩ ⟨_,ho2,rfl⟩ PySem.F.slot_tuple_lt PySem.F.entry_tuple_lt (PySem.F.args_tuple_lt_2 _ _) (jF p q us vs n n2 dd dd2 sl sl2 e l)
  ⟨⟨ho,ho2⟩,he,(λx=>nomatch x),h⟩ hu
end
end L2
namespace L2
open PySem PySem.Spec PyProof.Rows PySem.SeqAt PySem.W
noncomputable def bu:List Int->List Int->Bool
 | [],[]=>false
 | [],_::_=>true
 | _::_,[]=>false
 | a::as,b::bs=>if a=b then bu as bs else decide (a < b)
theorem nZ:∀ a,bu a a=false
 | []=>rfl
 | a::as=>by unfold bu;rw [if_pos rfl];exact nZ as
theorem fP:∀ a b,bu a b=false->bu b a=false->a=b
 | [],[],_,_=>rfl
 | [],_::_,h,_=>by cases h
 | _::_,[],_,h=>by cases h
 | a::as,b::bs,h,h'=>by
  unfold bu at h h'
  by_cases e:a=b
  ·subst e
   rw [if_pos rfl] at h h'
   rw [fP as bs h h']
  ·rw [if_neg e] at h
   rw [if_neg (Ne.symm e)] at h'
   rw [decide_eq_false_iff_not] at h h'
   lia
theorem lP:∀ a b c,bu a b=true->bu b c=true->bu a c=true
 | [],[],_,h,_=>by cases h
 | [],_::_,[],_,h=>by cases h
 | [],_::_,_::_,_,_=>rfl
 | _::_,[],_,h,_=>by cases h
 | _::_,_::_,[],_,h=>by cases h
 | a::as,b::bs,c::cs,h,h'=>by
  unfold bu at h h' ⊢
  by_cases e:a=b
  ·subst e
   rw [if_pos rfl] at h
   by_cases e2:a=c
   ·subst e2;rw [if_pos rfl] at h' ⊢;exact lP as bs cs h h'
   ·rw [if_neg e2] at h' ⊢;exact h'
  ·rw [if_neg e,decide_eq_true_iff] at h
   by_cases e2:b=c
   ·subst e2;rw [if_neg e,decide_eq_true_iff];exact h
   ·rw [if_neg e2,decide_eq_true_iff] at h'
    rw [if_neg (by lia),decide_eq_true_iff];lia
theorem sv:∀ a b c,bu a c=true->bu a b=true\/bu b c=true
 | a,b,c,h=>by
  by_cases h1:bu a b=true
  ·exact .inl h1
  ·rw [Bool.not_eq_true] at h1
   by_cases h2:bu b a=true
   ·exact .inr (lP b a c h2 h)
   ·rw [Bool.not_eq_true] at h2
    rw [fP a b h1 h2] at h;exact .inr h
noncomputable def OI:KeyOrd:=⟨List Int,bu,nZ,lP,sv,fP⟩
noncomputable def TuI (h:Heap) (v:Value) (l:List Int):Prop:=∃ a its,v=.ref a/\h.IsTuple a its/\IntsAre its.toList l
noncomputable def sh:Value->Int
 | .int n _=>n
 | _=>0
noncomputable def tuI (h:Heap):Value->List Int
 | .ref a=>match h.get? a with
  | some o=>match o.data with
   | .seq its _=>its.toList.map sh
   | _=>[]
  | none=>[]
 | _=>[]
theorem mY:∀ {us:List Value}{l:List Int},IntsAre us l->us.map sh=l
 | _,_,.nil=>rfl
 | _,_,.cons n t h=>by rw [List.map_cons,mY h];rfl
theorem dH:∀ {us:List Value}{l:List Int},IntsAre us l->us.length=l.length
 | _,_,.nil=>rfl
 | _,_,.cons n t h=>by rw [List.length_cons,List.length_cons,dH h]
theorem fW:∀ {us:List Value}{l:List Int},IntsAre us l->∀ (j:Nat) (h:j < us.length),∃ t,us[j]=.int (l.getD j 0) t
 | _,_,.nil,j,h=>absurd h (Nat.not_lt_zero j)
 | _,_,.cons n t hh,0,h=>⟨t,rfl⟩
 | _,_,.cons n t hh,j+1,h=>by
  obtain⟨t',e⟩:=fW hh j (Nat.lt_of_succ_lt_succ h)
  exact⟨t',by simpa using e⟩
theorem TuI.is {h:Heap}{v:Value}{l:List Int} (t:TuI h v l):tuI h v=l:=by
 obtain⟨a,its,rfl,⟨o,ho,hc,n,hd⟩,hi⟩:=t
 simp only [tuI,ho,hd]
 exact mY hi
theorem TuI.fit {h h':Heap}{v:Value}{l:List Int} (t:TuI h v l) (hk:∀ b o,h.get? b=some o->h'.get? b=some o):TuI h' v l:=by
 obtain⟨a,its,rfl,⟨o,ho,r⟩,hi⟩:=t
 exact⟨a,its,rfl,⟨o,hk _ _ ho,r⟩,hi⟩
theorem jQ:∀ (l m:List Int) (i:Nat) (e f:Nat->Bool),(∀ j,j < l.length->j < m.length->e (i+j)=decide (l.getD j 0=m.getD j 0)/\f (i+j)=decide (l.getD j 0 < m.getD j 0))->
  jl e f (decide (l.length < m.length)) (min l.length m.length) i=bu l m
 | [],[],i,e,f,_=>by simp [jl,bu]
 | [],b::m,i,e,f,_=>by simp [jl,bu]
 | a::l,[],i,e,f,_=>by simp [jl,bu]
 | a::l,b::m,i,e,f,h=>by
  have h0:=h 0 (by simp) (by simp)
  rw [List.length_cons,List.length_cons,show min (l.length+1) (m.length+1)=min l.length m.length+1 by lia]
  have e1:decide (l.length+1 < m.length+1)=decide (l.length < m.length):=by rw [Bool.eq_iff_iff];simp
  rw [e1]
  show (if e i=true then jl e f (decide (l.length < m.length)) (min l.length m.length) (i+1) else f i)=if a=b then bu l m else decide (a < b)
  rw [Nat.add_zero] at h0
  rw [h0.1,h0.2]
  by_cases q:a=b
  ·subst q
   simp only [List.getD_cons_zero,decide_true,if_true]
   exact jQ l m (i+1) e f λj h1 h2=>by
    have:=h (j+1) (by simpa using h1) (by simpa using h2)
    rw [show i+1+j=i+(j+1) by lia]
    simpa using this
  ·simp [q]
section
variable {prog:Program}{w:World}{A:Around}{E:Value->Shared->Prop}{s:Shared}{x y:Value}{l m:List Int}
theorem kH.ints {a b:Int}{t u:Tok}:kH A s (.int a t) (.int b u) (decide (a < b)):=λprog w E Q h=>PyProof.Rows.lt_int h
theorem EqAt.ints {a b:Int}{t u:Tok}:EqAt A s (.int a t) (.int b u) (decide (a=b)):=by
 have:=oK (A:=A) (s:=s) (y:=.int a) (x:=.int b) (u:=.int a t) (v:=.int b u) ⟨t,rfl⟩ ⟨u,rfl⟩ rfl rfl
 have e:eqV (.int a) (.int b)=decide (a=b):=by simp [eqV,Bool.beq_eq_decide_eq]
 rw [e] at this;exact this
theorem TuI.lt (tx:TuI s.heap x l) (ty:TuI s.heap y m) (hu:A.units < cLine):kH A s x y (bu l m):=by
 obtain⟨a,us,rfl,h1,i1⟩:=tx
 obtain⟨b,vs,rfl,h2,i2⟩:=ty
 have e1:us.size=l.length:=by rw [<-Array.length_toList];exact dH i1
 have e2:vs.size=m.length:=by rw [<-Array.length_toList];exact dH i2
 have z:=kH.tuples (A:=A) (e:=λj=>decide (l.getD j 0=m.getD j 0)) (l:=λj=>decide (l.getD j 0 < m.getD j 0)) h1 h2 hu λj g1 g2=>by
  obtain⟨t,q1⟩:=fW i1 j (by simpa using g1)
  obtain⟨t',q2⟩:=fW i2 j (by simpa using g2)
  rw [Array.getElem_toList] at q1 q2
  rw [q1,q2]
  exact⟨EqAt.ints,λ_=>kH.ints⟩
 rw [e1,e2,jQ l m 0 _ _ λj h1 h2=>by rw [Nat.zero_add];exact⟨rfl,rfl⟩] at z
 exact z
theorem TuI.one (tx:TuI s.heap x l) (ty:TuI s.heap y m) (hu:A.units < cLine) {Q:Bool->Shared->Prop} (h:Q (bu l m) s) (b:Bool):wpAny (model prog w) A (oneLt' b x y) Q E s:=by
 cases b with
 | false=>exact kat_one _ _ (tx.lt ty hu _ _ _ _ h)
 | true=>
  rw [oneLt'_eq]
  simp only [if_true]
  refine wpAny_bind (wpAny_cRoomFor hu ?_)
  obtain⟨a,us,rfl,h1,i1⟩:=id tx
  obtain⟨c,vs,rfl,h2,i2⟩:=id ty
  obtain⟨⟨cls,dd,data,sl⟩,ho,hc,n,hd⟩:=id h1
  obtain⟨⟨cls2,dd2,data2,sl2⟩,ho2,hc2,n2,hd2⟩:=id h2
  simp only at hc hd hc2 hd2
  subst hc hd hc2 hd2
  have e1:us.size=l.length:=by rw [<-Array.length_toList];exact dH i1
  have e2:vs.size=m.length:=by rw [<-Array.length_toList];exact dH i2
  refine wpAny_bind (wpAny_callSpecialIfBound?_slot (T:="tuple") ⟨_,ho,rfl⟩ PySem.F.slot_tuple_lt (call_meets PySem.F.slot_tuple_lt ⟨_,ho,rfl⟩ PySem.F.entry_tuple_lt (PySem.F.args_tuple_lt_2 _ _)
   (jF a c us vs n n2 dd dd2 sl sl2 (λj=>decide (l.getD j 0=m.getD j 0)) λj=>decide (l.getD j 0 < m.getD j 0)) ⟨⟨ho,ho2⟩,λj g1 g2=>?_,?_⟩))
  ·obtain⟨t,q1⟩:=fW i1 j (by simpa using g1)
   obtain⟨t',q2⟩:=fW i2 j (by simpa using g2)
   rw [Array.getElem_toList] at q1 q2
   rw [q1,q2]
   exact⟨EqAt.ints,λ_=>kH.ints⟩
  ·rw [e1,e2,jQ l m 0 _ _ λj h1 h2=>by rw [Nat.zero_add];exact⟨rfl,rfl⟩]
   exact wpAny_truthy_bool h
theorem sO {Q:Bool->Shared->Prop}{fin:Bool}:∀ {us vs:List Value}{l m:List Int} (i:Nat),IntsAre us l->IntsAre vs m->(fin=decide (l.length < m.length))->Q (bu l m) s->KatLex prog w A true fin Q (us.zip vs) i s
 | _,_,_,_,i,.nil,.nil,hf,h=>kat_nil (by rw [hf];exact h)
 | _,_,_,_,i,.nil,.cons n t r,hf,h=>kat_nil (by rw [hf];simpa [bu] using h)
 | _,_,_,_,i,.cons n t r,.nil,hf,h=>kat_nil (by rw [hf];simpa [bu] using h)
 | _,_,_,_,i,.cons (vs:=us) (ns:=l) a t r,.cons (vs:=vs) (ns:=m) b u r',hf,h=>by
  rw [List.zip_cons_cons]
  refine kat_cons (EqAt.ints prog w _ _ ?_)
  unfold bu at h
  by_cases e:a=b
  ·subst e
   rw [if_pos rfl] at h
   rw [decide_eq_true rfl]
   exact kat_yes (sO (i+1) r r' (by rw [hf,Bool.eq_iff_iff];simp) h)
  ·rw [if_neg e] at h
   rw [decide_eq_false e]
   refine kat_no ?_
   cases (true && i==0) with
   | true=>exact oneLt_int h
   | false=>exact kat_one _ _ (PyProof.Rows.lt_int h)
theorem TuI.tups (tx:TuI s.heap x l) (ty:TuI s.heap y m) {Q:Bool->Shared->Prop} (h:Q (bu l m) s):wpAny (model prog w) A (keyLt' (tuples' true) x y) Q E s:=by
 obtain⟨a,us,rfl,⟨o,ho,hc,n,hd⟩,i1⟩:=tx
 obtain⟨c,vs,rfl,⟨o2,ho2,hc2,n2,hd2⟩,i2⟩:=ty
 have e1:us.size=l.length:=by rw [<-Array.length_toList];exact dH i1
 have e2:vs.size=m.length:=by rw [<-Array.length_toList];exact dH i2
 exact kat_lt ho hd ho2 hd2 (sO 0 i1 i2 (by rw [e1,e2]) h)
end
end L2
namespace L2
open PySem PySem.Spec PyProof.Rows PySem.SeqAt PySem.W
section
variable {prog:Program}{w:World}{A:Around}{E:Value->Shared->Prop}{s:Shared}{O:KeyOrd}{rk:Keyed->O.α}{S:Keyed->Prop}{vs:List Value}
theorem nh:∀ (vs:List Value),vs.zip vs=vs.map λv=>(v,v)
 | []=>rfl
 | v::vs=>by rw [List.zip_cons_cons,nh vs];rfl
theorem v6 {α β:Type}{f:α->β}{R:β->β->Prop}:∀ {vs:List α},vs.toArray.size < 2->(vs.map f).Pairwise R
 | [],_=>List.Pairwise.nil
 | [v],_=>List.pairwise_singleton _ _
 | _::_::_,h=>absurd h (by simp)
set_option maxHeartbeats 1000000 in
theorem p8 {a:Addr}{n:Nat}{P:PySem.Fin->Shared->Prop} (ho:s.heap.get? a=some (seqObj "list" vs.toArray n)) (h64:vs.length<=64)
  (hyp:∀ h',(∀ b o,b≠a->s.heap.get? b=some o->h'.get? b=some o)->∃ κ,(2<=vs.length->∀ (Q':SortKind->Shared->Prop) E',Q' κ { s with heap:=h' }->wpAny (model prog w) A (keyKind' vs.toArray) Q' E' { s with heap:=h' })/\Cm prog w A { s with heap:=h' } κ O rk S)
  (hS:∀ v ∈ vs,S (v,v))
  (h:∀ out:List Value,out.Perm vs->out.Pairwise (λx y=>O.kle (rk (x,x)) (rk (y,y)))->P (.done (.ret .none)) { s with heap:=sortedHeap s.heap a vs out.toArray }) :
  wpAny (model prog w) A (Builtin.«list.sort» ⟨[.ref a],[]⟩) P E s:=by
 rw [list_sort_plain]
 have hlt:a < s.heap.objs.size:=Heap.lt_size ho
 have hsz:vs.toArray.size=vs.length:=by simp
 refine wpAny_bind (listItems_at ho rfl ?_)
 refine wpAny_bind (listUpdate_at ho rfl ?_ (by rw [hsz,sizeLine_eq];lia))
 obtain⟨e1,ho1⟩:∃ e1,(s.heap.update a (Obj.mapSeq λ_=>#[])).get? a=some (seqObj "list" #[] e1):=⟨_,get?_update_seq ho (λ_=>#[])⟩
 refine wpAny_bind (seqEpoch_at ho1 rfl ?_)
 refine wpAny_bind (wpAny_newTuple ?_ (by rw [sizeLine_eq];show vs.toArray.toList.length<=_;simp;lia))
 refine wpAny_bind (wpAny_newList ?_)
 refine wpAny_holding ?_
 have z1:(s.heap.update a (Obj.mapSeq λ_=>(#[]:Array Value))).objs.size=s.heap.objs.size:=Heap.size_update ..
 have keepN:∀ b o,b < s.heap.objs.size->(s.heap.update a (Obj.mapSeq λ_=>(#[]:Array Value))).get? b=some o->
   (((s.heap.update a (Obj.mapSeq λ_=>#[])).push (seqObj "tuple" vs.toArray 0)).push (seqObj "list" #[] 0)).get? b=some o:=λb o hb q=>by
  rw [Heap.get?_push_ne _ _ _ (Nat.ne_of_lt (by rw [size_push',z1];exact Nat.lt_succ_of_lt hb)),Heap.get?_push_ne _ _ _ (Nat.ne_of_lt (by rw [z1];exact hb))]
  exact q
 have ho6:=keepN a _ hlt ho1
 obtain⟨κ,hkk,hC⟩:=hyp (((s.heap.update a (Obj.mapSeq λ_=>#[])).push (seqObj "tuple" vs.toArray 0)).push (seqObj "list" #[] 0)) λb o hb q=>
  keepN b o (Heap.lt_size q) (by rw [Heap.get?_update_ne _ _ _ _ hb];exact q)
 show wpAny (model prog w) A _ P E { s with heap:=((s.heap.update a (Obj.mapSeq λ_=>#[])).push (seqObj "tuple" vs.toArray 0)).push (seqObj "list" #[] 0) }
 have pt:(vs.toArray.zip vs.toArray).toList=vs.map λv=>(v,v):=by rw [<-nh];simp
 have fin:∀ st':SortSt,(arrOf st').toList.Perm (vs.map λv=>(v,v))->(arrOf st').toList.Pairwise (λx y=>O.kle (rk x) (rk y))->∃ out:List Value,out.length=vs.length/\(arrOf st').map (·.2)=out.toArray/\P (.done (.ret .none)) { s with heap:=sortedHeap s.heap a vs out.toArray }:=λst' h1 h2=>by
  refine⟨(arrOf st').toList.map (·.2),by rw [List.length_map,h1.length_eq,List.length_map],by apply Array.toList_inj.mp;simp,h _ ?_ ?_⟩
  ·have:=h1.map (·.2)
   rw [List.map_map] at this
   have e:(vs.map ((λx=>x.2) ∘ λv=>((v,v):Keyed)))=vs:=by rw [show ((λx:Keyed=>x.2) ∘ λv=>((v,v):Keyed))=id from rfl,List.map_id]
   rw [e] at this;exact this
  ·rw [List.pairwise_map]
   refine h2.imp_of_mem λ{x y} hx hy q=>?_
   have dx:x=(x.2,x.2):=by obtain⟨v,_,rfl⟩:=List.mem_map.mp (h1.mem_iff.mp hx);rfl
   have dy:y=(y.2,y.2):=by obtain⟨v,_,rfl⟩:=List.mem_map.mp (h1.mem_iff.mp hy);rfl
   rw [<-dx,<-dy];exact q
 dsimp only
 by_cases h2:vs.toArray.size < 2
 ·rw [if_pos h2,if_pos h2]
  refine wpAny_bind (wpAny_pure ?_)
  rw [StateT.run_pure]
  refine wpAny_bind (wpAny_pure ?_)
  dsimp only
  obtain⟨out,q0,q1,q2⟩:=fin (SortSt.mk' general' (vs.toArray.zip vs.toArray) #[] 7 none) (by rw [pt]) (by rw [pt];exact v6 h2)
  refine wpAny_bind (seqEpoch_at ho6 rfl ?_)
  rw [q1]
  refine wpAny_bind (listUpdate_at ho6 rfl ?_ (hsz2:=by show out.length<=_;rw [q0,sizeLine_eq];lia))
  simp only [bne_self_eq_false,Bool.false_eq_true,if_false]
  exact wpAny_pure q2
 ·rw [if_neg h2,if_neg h2]
  refine wpAny_bind (hkk (by lia) _ _ ?_)
  refine wpAny_bind (wpAny_mono (tP hC (st:=SortSt.mk' κ (vs.toArray.zip vs.toArray) #[] 7 none) (a0:=vs.toArray.zip vs.toArray) (Q:=λ_ st'=>(arrOf st').toList.Perm (vs.map λv=>(v,v))/\(arrOf st').toList.Pairwise (λx y=>O.kle (rk x) (rk y))/\failedOf st'=none)
   rfl rfl rfl rfl (λx hx=>?_) (by simp;lia) (by simp;lia) λst' a1 a2 a3=>⟨by rw [<-pt];exact a1,a2,a3⟩) ?_ λ_ _ e=>e)
  ·rw [pt] at hx
   obtain⟨v,hv,rfl⟩:=List.mem_map.mp hx
   exact hS v hv
  rintro⟨⟨⟩,st'⟩ s' ⟨rfl,a1,a2,a3⟩
  dsimp only
  obtain⟨out,q0,q1,q2⟩:=fin st' a1 a2
  refine wpAny_bind (seqEpoch_at ho6 rfl ?_)
  rw [q1]
  refine wpAny_bind (listUpdate_at ho6 rfl ?_ (hsz2:=by show out.length<=_;rw [q0,sizeLine_eq];lia))
  rw [a3]
  simp only [bne_self_eq_false,Bool.false_eq_true,if_false]
  exact wpAny_pure q2
end
end L2
namespace L2
open PySem PySem.Spec PyProof.Rows PySem.SeqAt PySem.W
noncomputable def im (h:Heap):Value->Option Value
 | .ref a=>match h.get? a with
  | some o=>match o.data with
   | .seq its _=>its[0]?
   | _=>none
  | none=>none
 | _=>none
theorem TuI.fst {h:Heap}{v:Value}{l:List Int} (t:TuI h v l):im h v=none\/∃ n t,im h v=some (.int n t):=by
 obtain⟨a,its,rfl,⟨o,ho,hc,n,hd⟩,hi⟩:=t
 simp only [im,ho,hd]
 by_cases hz:0 < its.size
 ·obtain⟨t,e⟩:=fW hi 0 (by simpa using hz)
  exact .inr ⟨_,t,by rw [Array.getElem?_eq_getElem hz];rw [Array.getElem_toList] at e;rw [e]⟩
 ·exact .inl (Array.getElem?_eq_none (by lia))
section
variable {prog:Program}{w:World}{A:Around}{E:Value->Shared->Prop}{s:Shared}
theorem pi {v:Value}{l:List Int} (t:TuI s.heap v l) {Q:Value->Shared->Prop} (h:Q (.type "tuple") s):wpAny (model prog w) A (typeOf v) Q E s:=by
 obtain⟨a,its,rfl,⟨o,ho,hc,n,hd⟩,hi⟩:=t
 refine Looks.here (show Looks (model prog w) s.heap (typeOf (.ref a)) o.cls from (Looks.ld ho).andThen .now) ?_
 rw [hc];exact h
theorem pT {v:Value}{l:List Int} (t:TuI s.heap v l) {Q:Option Value->Shared->Prop} (h:Q (im s.heap v) s):wpAny (model prog w) A (firstOfTuple' v) Q E s:=by
 rw [kas_first_eq]
 refine wpAny_bind (pi t ?_)
 obtain⟨a,its,rfl,⟨o,ho,hc,n,hd⟩,hi⟩:=t
 rw [if_neg (by simp)]
 simp only [im,ho,hd] at h
 exact wpAny_bind (listItems_at ho hd (wpAny_pure h))
theorem eN:∀ {vs:List Value}{Q:List (Option Value)->Shared->Prop},(∀ v ∈ vs,∃ l,TuI s.heap v l)->Q (vs.map (im s.heap)) s->wpAny (model prog w) A (vs.mapM firstOfTuple') Q E s
 | [],_,_,h=>by rw [List.mapM_nil];exact wpAny_pure h
 | v::vs,Q,t,h=>by
  rw [List.mapM_cons]
  obtain⟨l,tv⟩:=t v List.mem_cons_self
  refine wpAny_bind (pT tv (wpAny_bind (eN (Q:=λbs s'=>wpAny (model prog w) A (pure (im s.heap v::bs)) Q E s') (λu hu=>t u (List.mem_cons_of_mem _ hu)) (wpAny_pure h))))
theorem oP {x y:Value}{l m:List Int} (hx:TuI s.heap x l) (hy:TuI s.heap y m) {Q:Bool->Shared->Prop} (h:Q (OI.blt (tuI s.heap x) (tuI s.heap y)) s):Q (bu l m) s:=by
 have h':Q (bu (tuI s.heap x) (tuI s.heap y)) s:=h
 rw [hx.is,hy.is] at h';exact h'
theorem qU {vs:List Value} (t:∀ v ∈ vs,∃ l,TuI s.heap v l) (hu:A.units < cLine):∃ κ,(2<=vs.length->∀ (Q':SortKind->Shared->Prop) E',Q' κ s->wpAny (model prog w) A (keyKind' vs.toArray) Q' E' s)/\
  Cm prog w A s κ OI (λp=>tuI s.heap p.1) (λp=>∃ l,TuI s.heap p.1 l):=by
 by_cases c1:(vs.map (im s.heap)).toArray.all (·.isSome)=true
 ·refine⟨tuples' true,λh2 Q' E' hq=>?_,λx y ⟨l,hx⟩ ⟨m,hy⟩ Q E h=>hx.tups hy (oP hx hy h)⟩
  rw [keyKind'_eq,List.mapM_toArray,map_eq_pure_bind]
  refine wpAny_bind (wpAny_bind (eN t (wpAny_pure ?_)))
  rw [if_pos c1]
  refine wpAny_bind (wpAny_rule ?_)
  have hf:∀ v ∈ (vs.map (im s.heap)).filterMap id,∃ n t,v=.int n t:=λv hv=>by
   obtain⟨o,ho,e⟩:=List.mem_filterMap.mp hv
   obtain⟨u,hu,rfl⟩:=List.mem_map.mp ho
   obtain⟨l,tu⟩:=t u hu
   rcases tu.fst with q | ⟨n,t',q⟩
   ·rw [q] at e;cases e
   ·rw [q] at e;exact⟨n,t',(Option.some.inj e).symm⟩
  have hl:∃ f fr,(vs.map (im s.heap)).filterMap id=f::fr:=by
   match vs,h2,c1 with
   | v::vs,_,c1=>
    simp only [List.map_cons,List.all_toArray,List.all_cons,Bool.and_eq_true] at c1
    obtain⟨u,hu⟩:=Option.isSome_iff_exists.mp c1.1
    exact⟨u,(vs.map (im s.heap)).filterMap id,by rw [List.map_cons,List.filterMap_cons,hu];rfl⟩
  obtain⟨f,fr,e⟩:=hl
  have e2:(vs.map (im s.heap)).toArray.filterMap id=(f::fr).toArray:=by rw [<-e];simp
  rw [e2,oneTypeOnly'_eq,List.mapM_toArray,map_eq_pure_bind]
  refine wpAny_bind (wpAny_bind (wpAny_bind (kas_mapM (r:=.type "int") _ (λv hv Q'' hq'=>?_) (wpAny_pure ?_))))
  ·rw [<-e] at hv
   obtain⟨n,t',rfl⟩:=hf v hv
   exact wpAny_pure hq'
  ·have h0:(List.map (λ_=>Value.type "int") (f::fr)).toArray[0]?=some (.type "int"):=by simp
   rw [h0]
   have hall:((List.map (λ_=>Value.type "int") (f::fr)).toArray.all λx=>x==.type "int")=true:=by
    simp only [List.all_toArray,List.all_map,List.all_eq_true];intro _ _;rfl
   simp only [hall,if_true]
   exact wpAny_pure (wpAny_pure hq)
 ·by_cases c2:((vs.map (im s.heap)).toArray[0]?.bind id).isSome=true
  ·refine⟨general',λh2 Q' E' hq=>?_,λx y ⟨l,hx⟩ ⟨m,hy⟩ Q E h=>hx.one hy hu (oP hx hy h) false⟩
   rw [keyKind'_eq,List.mapM_toArray,map_eq_pure_bind]
   refine wpAny_bind (wpAny_bind (eN t (wpAny_pure ?_)))
   rw [if_neg c1,if_pos c2]
   exact wpAny_pure hq
  ·refine⟨oneType',λh2 Q' E' hq=>?_,λx y ⟨l,hx⟩ ⟨m,hy⟩ Q E h=>hx.one hy hu (oP hx hy h) true⟩
   rw [keyKind'_eq,List.mapM_toArray,map_eq_pure_bind]
   refine wpAny_bind (wpAny_bind (eN t (wpAny_pure ?_)))
   rw [if_neg c1,if_neg c2,oneTypeOnly'_eq,List.mapM_toArray,map_eq_pure_bind]
   refine wpAny_bind (wpAny_bind (wpAny_bind (kas_mapM (r:=.type "tuple") _ (λv hv Q'' hq'=>?_) (wpAny_pure ?_))))
   ·obtain⟨l,tv⟩:=t v hv
    exact pi tv hq'
   ·obtain⟨v,vs,rfl⟩:∃ v r,vs=v::r:=by
     match vs,h2 with
     | v::r,_=>exact⟨v,r,rfl⟩
    have h0:(List.map (λ_=>Value.type "tuple") (v::vs)).toArray[0]?=some (.type "tuple"):=by simp
    rw [h0]
    have hall:((List.map (λ_=>Value.type "tuple") (v::vs)).toArray.all λx=>x==.type "tuple")=true:=by
     simp only [List.all_toArray,List.all_map,List.all_eq_true];intro _ _;rfl
    simp only [hall,if_true]
    exact wpAny_pure (wpAny_pure hq)
end
noncomputable def oh (x:List Int):List (List Int)->List (List Int)
 | []=>[x]
 | y::ys=>if bu y x=true then y::oh x ys else x::y::ys
noncomputable def cB:List (List Int)->List (List Int)
 | []=>[]
 | x::xs=>oh x (cB xs)
theorem hU (x:List Int):∀ ys,(oh x ys).Perm (x::ys)
 | []=>List.Perm.refl _
 | y::ys=>by
  unfold oh
  split
  ·exact (List.Perm.cons y (hU x ys)).trans (List.Perm.swap x y ys)
  ·exact List.Perm.refl _
theorem dS:∀ xs,(cB xs).Perm xs
 | []=>List.Perm.refl _
 | x::xs=>(hU x _).trans (List.Perm.cons x (dS xs))
noncomputable def leL (a b:List Int):Prop:=bu b a=false
theorem pV {a b c:List Int} (h:leL a b) (h':leL b c):leL a c:=KeyOrd.kle_trans (O:=OI) h h'
theorem sB {a b:List Int} (h:leL a b) (h':leL b a):a=b:=fP a b h' h
theorem iB (x:List Int):∀ {ys:List (List Int)},ys.Pairwise leL->(oh x ys).Pairwise leL
 | [],_=>by simp [oh]
 | y::ys,h=>by
  unfold oh
  split
  ·rename_i hxy
   refine List.pairwise_cons.mpr ⟨λz hz=>?_,iB x (List.pairwise_cons.mp h).2⟩
   rcases List.mem_cons.mp ((hU x ys).mem_iff.mp hz) with rfl | hz
   ·exact KeyOrd.klt_asymm (O:=OI) hxy
   ·exact (List.pairwise_cons.mp h).1 z hz
  ·rename_i hxy
   rw [Bool.not_eq_true] at hxy
   refine List.pairwise_cons.mpr ⟨λz hz=>?_,h⟩
   rcases List.mem_cons.mp hz with rfl | hz
   ·exact hxy
   ·exact pV hxy ((List.pairwise_cons.mp h).1 z hz)
theorem d7:∀ xs,(cB xs).Pairwise leL
 | []=>List.Pairwise.nil
 | x::xs=>iB x (d7 xs)
theorem lL {xs ys:List (List Int)} (p:xs.Perm ys) (h1:xs.Pairwise leL) (h2:ys.Pairwise leL):xs=ys:=
 List.Perm.eq_of_pairwise (λa b _ _ h1 h2=>sB h1 h2) h1 h2 p
end L2
namespace L2
open PySem PySem.Spec PyProof.Rows PySem.SeqAt PySem.W
noncomputable def ax (l:List Int):D:=.tup (l.map D.int)
section
variable {K:PySem.W.Frag}{X:Cx}{pins:List (Addr×Obj)}{σ:St}{H:Hp}{s:Shared}{φ:List Addr}
noncomputable def toV:Value->V
 | .ref a=>.ref a
 | _=>.non
theorem uE {l:List Int}{v:V}{u:Value} (I:Inv X pins σ H s) (r:Rl X.K H φ (ax l) v) (q:az v u):TuI s.heap u l/\v=toV u/\az (toV u) u:=by
 obtain⟨a,vs,rfl,h1,h2⟩:=r
 obtain⟨its,rv,p,_⟩:=I.tuple (SqT.of h1)
 have e:=h2.ints
 subst e
 have e:u=.ref a:=q
 subst e
 exact⟨⟨a,its.toArray,rfl,p,by simpa using gs rv⟩,rfl,rfl⟩
theorem mW (I:Inv X pins σ H s):∀ {ls:List (List Int)}{vs:List V}{us:List Value},Rls X.K H φ (ls.map ax) vs->aA vs us->
  us.map (tuI s.heap)=ls/\∀ u ∈ us,TuI s.heap u (tuI s.heap u)/\Rl X.K H φ (ax (tuI s.heap u)) (toV u)/\az (toV u) u
 | [],_,us,h,q=>by cases h;cases q;exact⟨rfl,λu hu=>by cases hu⟩
 | l::ls,_,us,h,q=>by
  obtain⟨v,r,rfl,h1,h2⟩:=h
  cases q with
  | cons q1 q2=>
   rename_i u us
   obtain⟨t,e,e'⟩:=uE I h1 q1
   obtain⟨i1,i2⟩:=mW I h2 q2
   refine⟨by rw [List.map_cons,i1,t.is],λx hx=>?_⟩
   rcases List.mem_cons.mp hx with rfl | hx
   ·rw [t.is,<-e];exact⟨t,h1,q1⟩
   ·exact i2 x hx
theorem nj:∀ {us:List Value},(∀ u ∈ us,TuI s.heap u (tuI s.heap u)/\Rl K H φ (ax (tuI s.heap u)) (toV u)/\az (toV u) u)->Rls K H φ (us.map λu=>ax (tuI s.heap u)) (us.map toV)/\aA (us.map toV) us
 | [],_=>⟨rfl,.nil⟩
 | u::us,h=>by
  have h1:=h u List.mem_cons_self
  have h2:=nj λx hx=>h x (List.mem_cons_of_mem _ hx)
  exact⟨⟨_,_,rfl,h1.2.1,h2.1⟩,.cons h1.2.2 h2.2⟩
end
end L2
namespace L2
open PySem PySem.Spec PyProof.Rows
open PySem.AutoSeq1 (wpAny_loadPart')
section
variable {prog:Program}{w:World}{A:Around}{E:Value->Shared->Prop}{s:Shared}{k k2:Bool}
variable {z TI TO i1 i2 l1 l2:Addr}{n:Nat}{xs ys:Array Value}{a b:Value}
end
end L2
namespace L2
open PySem PySem.Spec PyProof.Rows
open PySem.AutoSeq1 (wpAny_loadPart')
section
variable {prog:Program}{w:World}{A:Around}{E:Value->Shared->Prop}{s:Shared}{k k2:Bool}
end
section
variable {K:PySem.W.Frag}{X:Cx}{a b:Expr}{pos:Pos}{af:Af}
end
end L2
namespace L2
open PySem PySem.Spec PyProof.Rows
section
variable {prog:Program}{w:World}{A:Around}{s:Shared}{I l S:Addr}{items:Array Value}{ns:List Int}{kw:List (Str×Value)}{R:Result->Shared->Prop}
variable {E:Value->Shared->Prop}
end
end L2
namespace L2
open PySem PySem.Spec PyProof.Rows
section
variable {K:PySem.W.Frag}{X:Cx}{e a b:Expr}{es:List Expr}{pos:Pos}{f fa fb:Ef}{af:Af}
end
end L2
namespace L2
open PySem PySem.Spec PyProof.Rows
section
variable {K:PySem.W.Frag}{X:Cx}
noncomputable def zd (_ j:Int):Prop:=0 < j/\j < 1000000000000000000000000000000000000000000000000000000000000
theorem vj {j:Int} (h0:0 < j) (h:j < 1000000000000000000000000000000000000000000000000000000000000):j.natAbs.log2 < 9000:=by
 have h1:j.natAbs≠0:=by lia
 have h2:j.natAbs < 2 ^ 200:=by
  have:(1000000000000000000000000000000000000000000000000000000000000:Nat) < 2 ^ 200:=by decide
  lia
 have:=(Nat.log2_lt h1).mpr h2
 lia
theorem rG:OpR X (binaryOp .FloorDiv) (rI zd λi j=>.int (i / j)):=opI λi j _ _ _ _ _ hc q=>by
 obtain⟨h0,h1⟩:=hc
 exact floordiv_int (by lia) (by rw [Int.fdiv_eq_ediv_of_nonneg i (by lia)];exact q) (.inl (PyProof.noPylong_of_log2 (vj h0 h1)))
noncomputable def rL (_:Sto):W->W->Option D
 | .d (.int i),.d (.int j)=>if 0 < j/\j < 1000000000000000000000000000000000000000000000000000000000000 then some (.int (i / j)) else none
 | _,_=>none
theorem xD:OpD K X (binaryOp .FloorDiv) rL:=eU λst x y d h=>by
 match x,y,h with
 | .d (.int i),.d (.int j),h=>
  simp only [rL] at h
  split at h
  ·rename_i hc
   cases h;exact⟨i,j,rfl,rfl,rG.imp λvx vy H Q ⟨a,b,q⟩=>⟨i,j,a,b,hc,q⟩,rfl⟩
  ·cases h
end
end L2
namespace L2
open PySem PySem.Spec PyProof.Rows
section
variable {K:PySem.W.Frag}{X:Cx}{pos:Pos}{a b:Expr}{af:Af}
end
end L2
namespace L2
open PySem PySem.Spec PyProof.Rows
section
variable {K:PySem.W.Frag}{X:Cx}{pos:Pos}{e a b c:Expr}{es:List Expr}{f fa fb:Ef}{af:Af}
end
end L2
namespace L2
open PySem PySem.Spec PyProof.Rows
open Classical in
noncomputable def lcH (n:Nat) (all:List D) (g:Tg) (tt:Tf) (te:Ef) (env:Ev):List D->Sto->Option (List D×Sto)
 | [],st=>if lg st n=some all then some ([],st) else none
 | d::ds,st=>if lg st n=some all then ((dr g (.d d) env).bind λe=>(tt e st).bind λb=>if b.1=true then (te e b.2).bind λx=>(kt [x.1]).bind λys=>(lcH n all g tt te env ds x.2).map λr=>(ys++r.1,r.2)
   else lcH n all g tt te env ds b.2) else none
section
variable {K:PySem.W.Frag}{X:Cx}{pos:Pos}{tg:Expr}
end
end L2
namespace L2
open PySem PySem.Spec PyProof.Rows
noncomputable def xC (c:Nat):Str:=⟨#[c]⟩
noncomputable def xE (x:Str):List D:=x.cps.toList.map λc=>D.str (xC c)
noncomputable def asc (x:Str):Bool:=x.cps.all λc=>decide (c < 128)
noncomputable def Its (x:Str):It where
 go i _:=i < x.cps.size
 yld i H v H':=H'=H/\∃ c,x.cps[i]?=some c/\v=.str (xC c)
 stop i _:=x.cps.size<=i
theorem qH {P:Program}{w:World}{K:PySem.W.Frag}{tg:Expr} (x:Str) (t:Tok) (it:Addr):rm P w K tg (Its x) [it] it (λi h=>h.IsStrIter it "str_ascii_iterator" x t i) where
 mem:=by simp
 obj:=λi h st b hb=>by
  have e:b=it:=by simpa using hb
  subst e
  obtain⟨o,e,c,d⟩:=st
  exact⟨o,e,λv z=>by rw [d] at z;cases z⟩
 keep:=λi h h' st k=>by
  obtain⟨o,e,c,d⟩:=st
  exact⟨o,k it (by simp) o e,c,d⟩
 item:=by
  intro X hP hw hK hc i pins s σ H E I hf st hg
  subst hP hw hK
  obtain⟨f0,f1,f2,f3,f4,f5⟩:=hf it (by simp)
  have hx:x.cps[i]?=some x.cps[i]:=Array.getElem?_eq_getElem hg
  refine wpAny_pyNext_ascii_item st hx λh' st' sb=>?_
  have I1:Inv X pins σ H { s with heap:=h',toks:=s.toks+1 }:=I.turned (λb o hb e=>(sb.2 b hb).trans e) f0 f1 f3 f4 f5
  obtain⟨o,e,c,d⟩:=id st'
  exact⟨_,rfl,pv (s:={ s with heap:=h',toks:=s.toks+1 }) e c d (by decide) ⟨.str (xC x.cps[i]),H,I1,⟨_,rfl⟩,⟨rfl,_,hx,rfl⟩,st',λb hb=>(hf b hb).1⟩⟩
 done:=by
  intro X hP hw hK hc i pins s σ H E I hf st hg
  subst hP hw hK
  obtain⟨f0,f1,f2,f3,f4,f5⟩:=hf it (by simp)
  exact wpAny_pyNext_ascii_end (I.ok.hd hc) st (Array.getElem?_eq_none hg) λh' eb=>⟨rfl,I.turned (t':=s.toks) (λb o hb e=>eb b o hb e) f0 f1 f3 f4 f5⟩
 self:=λ_ _ _ _ _ st h=>wpAny_pyIter_striter_ascii st h
section
variable {K:PySem.W.Frag}{X:Cx}{pos:Pos}{tg e:Expr}{f:Ef}
noncomputable def zU (tl:TE):TI:=λσ H R=>tl σ H λv H1=>∃ x,v=.str x/\asc x=true/\R (Its x) H1
theorem xy {l:Expr}{tl:TE} (hl:PE X l tl):PI X tg l (zU tl):=by
 intro pins s σ H R I h
 refine thn (hl pins s σ H _ I h) λv s1 ⟨x,H1,I1,r1,q1⟩=>?_
 obtain⟨x,rfl,ha,q⟩:=q1
 obtain⟨t,rfl⟩:=r1
 refine wpAny_pyIter_ascii ha ?_
 refine⟨s1.heap.objs.size,[s1.heap.objs.size],_,_,H1,rfl,I1.kept (t':=s1.toks) λb o e=>Heap.get?_push_of_some _ e,qH x t _,⟨_,Heap.get?_push_size _ rfl,rfl,rfl⟩,λb hb=>?_,q⟩
 have e:b=s1.heap.objs.size:=by simpa using hb
 subst e
 exact I1.fpOk (Nat.le_refl _) (I1.hok.fresh (Nat.le_refl _))
noncomputable def hW (f:Ef):Lf
 | env,st=>(f env st).bind λr=>match r.1 with
 | .d (.str x)=>if asc x then some (xE x,r.2) else none
 | _=>none
theorem rP (h:IE K X e f):II K X tg e (hW f):=by
 refine⟨λenv st r hr=>?_⟩
 simp only [hW,Option.bind_eq_some_iff] at hr
 obtain⟨⟨w,s1⟩,hy,hr⟩:=hr
 match w,hr with
 | .d (.str x),hr=>
  dsimp only at hr
  by_cases ha:asc x=true
  case neg=>rw [if_neg ha] at hr;cases hr
  rw [if_pos ha] at hr
  cases hr
  refine (xy (h.run _ _ _ hy)).imp ?_
  rintro σ H R ⟨φ,hE,hS,q⟩
  refine⟨φ,hE,hS,λv H1 φ1 f1 s1 w1=>?_⟩
  have w1:v=.str x:=w1
  subst w1
  refine⟨x,rfl,ha,q _ H1 φ1 f1 s1 λH2 φ2 st2 i f2 s2=>?_⟩
  refine⟨λd hd=>?_,λhi=>?_⟩
  ·unfold xE at hd
   rw [List.getElem?_map,Option.map_eq_some_iff] at hd
   obtain⟨c,hc,rfl⟩:=hd
   have hc':x.cps[i]?=some c:=by simpa using hc
   refine⟨(Array.getElem?_eq_some_iff.mp hc').1,λy H' ⟨e,c2,h2,e2⟩=>?_⟩
   subst e
   rw [hc'] at h2
   cases h2
   subst e2
   exact⟨aY.refl _,rfl⟩
  ·unfold xE at hi
   rw [List.length_map,Array.length_toList] at hi
   exact Nat.le_of_eq hi
end
end L2
namespace L2
open PySem PySem.Spec PyProof.Rows
section
variable {K:PySem.W.Frag}{X:Cx}{pos:Pos}{a e:Expr}{fa:Ef}{af:Af}
noncomputable def ig:List D->Option (List Str)
 | []=>some []
 | .str x::ds=>(ig ds).map (x::·)
 | _::_=>none
noncomputable def fR (o:Ef) (a:Af):Ef
 | env,st=>(o env st).bind λx=>(a env x.2).bind λr=>match x.1,r.1 with
 | .d (.str s),[.d (.lst ds)]=>(ig ds).bind λxs=>if JoinOk s xs=true then some (.d (.str (PySem.Txt.join s xs)),r.2) else none
 | _,_=>none
theorem ir:∀ {ds:List D}{xs:List Str}{vs:List V}{φ:List Addr}{H:Hp},ig ds=some xs->Rls K H φ ds vs->vs=xs.map V.str
 | [],xs,vs,φ,H,h,r=>by
  cases h
  exact r
 | d::ds,xs,vs,φ,H,h,r=>by
  obtain⟨v,vr,rfl,r1,r2⟩:=r
  cases d with
  | str x=>
   obtain⟨ys,hy,rfl⟩:=Option.map_eq_some_iff.mp h
   have:=ir hy r2
   subst this
   have r1:v=.str x:=r1
   subst r1
   rfl
  | _=>cases h
theorem kZ:∀ {xs:List Str}{its:List Value},aA (xs.map V.str) its->∃ l:List (Str×Tok),its=strValues l/\l.map (·.1)=xs
 | [],its,r=>by
  cases r
  exact⟨[],rfl,rfl⟩
 | x::xs,its,r=>by
  cases r with
  | cons r1 r2=>
   obtain⟨t,rfl⟩:=r1
   obtain⟨l,rfl,rfl⟩:=kZ r2
   exact⟨(x,t)::l,rfl,rfl⟩
noncomputable def yf (X:Cx):V->List V->Hp->VK->Prop:=λx xs H Q=>∃ s p ts,x=.str s/\xs=[.ref p]/\SqL X.K H p (ts.map V.str)/\JoinOk s ts=true/\Q (.str (PySem.Txt.join s ts)) H
theorem tQ:MtR X "str.join" (yf X):=by
 intro pins s σ H x xs v us Q I rx rv h
 obtain⟨z,p,ts,rfl,rfl,hq,hj,q⟩:=h
 obtain⟨t,rfl⟩:=rx
 obtain⟨u,rfl,ru⟩:=rv.one
 cases ru
 obtain⟨its,r,pl,hz⟩:=I.list hq
 obtain⟨l,rfl,rfl⟩:=kZ r
 exact SC.join pl.isList rfl hj λt' k=>⟨.str _,H,I.tok k,⟨_,rfl⟩,q⟩
theorem iY {apos:Pos} (ho:IE K X a fa) (ha:IA K X [e] af) (hbase:attributeBase a "join" X.env (eval a X.env)=eval a X.env:=by rfl)
  (hall:[e].all aE=true:=by rfl) (hline:(apos.endLine==pos.line)=true:=by rfl) (hK:X.K=K:=by rfl) :
  IE K X (.Call (.Attribute a "join" apos) [e] [] pos) (fR fa af):=by
 subst hK
 have hall2:aE e=true:=by rw [List.all_cons,Bool.and_eq_true] at hall;exact hall.1
 refine⟨λenv st r hr'=>?_⟩
 simp only [fR,Option.bind_eq_some_iff] at hr'
 obtain⟨⟨x,s1⟩,hx,⟨ws,s2⟩,hw,hr'⟩:=hr'
 match x,ws,hr' with
 | .d (.str z),[.d (.lst ds)],hr'=>
  simp only [Option.bind_eq_some_iff] at hr'
  obtain⟨ts,hts,hr'⟩:=hr'
  by_cases hj:JoinOk z ts=true
  case neg=>rw [if_neg hj] at hr';cases hr'
  rw [if_pos hj] at hr'
  cases hr'
  refine (pE PySem.F.plainAttrs_str PySem.F.slot_str_join PySem.F.type_str_join tQ (ho.run _ _ _ hx) (ha.run _ _ _ hw) hbase (gK hall (by show 1 < 30;decide)) hline (bz hall2) (cp rfl)).imp ?_
  rintro σ H Q ⟨φ,hE,hS,q⟩
  refine⟨φ,hE,hS,λv H1 φ1 f1 S1 w1=>?_⟩
  have w1:v=.str z:=w1
  subst w1
  refine⟨rfl,φ1,hE.fw hS f1,S1,λus H2 φ2 f2 S2 w2=>?_⟩
  obtain⟨y,us',rfl,ry,rfl⟩:=w2
  obtain⟨p,vs,rfl,h0,hq,hrl⟩:=ry
  have:=ir hts hrl
  subst this
  exact⟨z,p,ts,rfl,rfl,.inl hq,hj,q _ H2 φ2 (f1.trans f2) S2 rfl⟩
end
end L2
namespace L2
open PySem PySem.Spec PyProof.Rows
section
variable {κ:Type} [DecidableEq κ]
noncomputable def fq (kvs:List (κ×V)) (k:κ):Option V:=(kvs.find? λkv=>decide (kv.1=k)).map (·.2)
noncomputable def gD (kvs:List (κ×V)) (k:κ) (v:V):List (κ×V):=
 if (kvs.any λkv=>decide (kv.1=k))=true then kvs.map (λkv=>if kv.1=k then (kv.1,v) else kv) else kvs++[(k,v)]
theorem jz {p:κ×V}{r:List (κ×V)}{k:κ} (e:p.1=k):fq (p::r) k=some p.2:=by simp [fq,List.find?_cons,e]
theorem j9 {p:κ×V}{r:List (κ×V)}{k:κ} (e:¬ p.1=k):fq (p::r) k=fq r k:=by simp [fq,List.find?_cons,e]
theorem ni (k:κ):∀ kvs:List (κ×V),(kvs.any λkv=>decide (kv.1=k))=(fq kvs k).isSome
 | []=>rfl
 | p::r=>by
  rw [List.any_cons]
  by_cases e:p.1=k
  ·simp only [jz e,decide_eq_true e,Bool.true_or,Option.isSome_some]
  ·rw [j9 e,decide_eq_false e,Bool.false_or];exact ni k r
theorem iq (kvs:List (κ×V)) (k:κ) (v:V):(gD kvs k v).length<=kvs.length+1:=by
 unfold gD
 split
 ·rw [List.length_map];lia
 ·rw [List.length_append,List.length_cons,List.length_nil];lia
theorem jJ.isSome_eq {o:Option V}{u:Option Value} (r:jJ o u):o.isSome=u.isSome:=by
 cases o with
 | none=>cases u with
  | none=>rfl
  | some _=>exact (show False from r).elim
 | some _=>cases u with
  | none=>exact (show False from r).elim
  | some _=>rfl
theorem KV.val {kvs:List (κ×V)}{vs:List (κ×Value)} (r:KV kvs vs) (k:κ):jJ (fq kvs k) (valueAt vs k):=by
 unfold KV at r
 induction r with
 | nil=>exact True.intro
 | @cons p q ps qs h t ih=>
  obtain⟨h1,h2⟩:=h
  by_cases e:p.1=k
  ·have e':q.1=k:=h1.symm.trans e
   have b:valueAt (q::qs) k=some q.2:=by simp [valueAt,List.find?_cons,e']
   rw [jz e,b];exact h2
  ·have e':¬ q.1=k:=λz=>e (h1.trans z)
   have b:valueAt (q::qs) k=valueAt qs k:=by simp [valueAt,List.find?_cons,e']
   rw [j9 e,b];exact ih
theorem KV.any {kvs:List (κ×V)}{vs:List (κ×Value)} (r:KV kvs vs) (k:κ):(kvs.any λkv=>decide (kv.1=k))=vs.any λkv=>decide (kv.1=k):=by
 unfold KV at r
 induction r with
 | nil=>rfl
 | cons h t ih=>rw [List.any_cons,List.any_cons,ih,h.1]
theorem KV.repl {kvs:List (κ×V)}{vs:List (κ×Value)} (r:KV kvs vs) (k:κ) {y:V}{u:Value} (ry:az y u) :
  KV (kvs.map λkv=>if kv.1=k then (kv.1,y) else kv) (vs.map λkv=>if kv.1=k then (kv.1,u) else kv):=by
 unfold KV at r ⊢
 induction r with
 | nil=>exact .nil
 | @cons p q ps qs h t ih=>
  rw [List.map_cons,List.map_cons]
  refine .cons ?_ ih
  obtain⟨h1,h2⟩:=h
  by_cases e:p.1=k
  ·rw [if_pos e,if_pos (h1.symm.trans e)];exact⟨h1,ry⟩
  ·rw [if_neg e,if_neg (λz=>e (h1.trans z))];exact⟨h1,h2⟩
theorem KV.put {kvs:List (κ×V)}{vs:List (κ×Value)} (r:KV kvs vs) (k:κ) {y:V}{u:Value} (ry:az y u):KV (gD kvs k y) (stored vs k u):=by
 unfold gD stored
 rw [r.any k]
 by_cases e:(vs.any λkv=>decide (kv.1=k))=true
 ·rw [if_pos e,if_pos e];exact r.repl k ry
 ·rw [if_neg e,if_neg e];exact Paired.snoc r ⟨rfl,ry⟩
theorem KV.length {kvs:List (κ×V)}{vs:List (κ×Value)} (r:KV kvs vs):kvs.length=vs.length:=Paired.length r
end
theorem sk {P:Program}{w:World}{k:Key}{u:Value} (r:az (kV k) u):(bR P w).is k u=true:=by
 cases k with
 | inl i=>obtain⟨t,e⟩:=(show ∃ t,u=Value.int i t from r);subst e;exact mU P w i t
 | inr x=>obtain⟨t,e⟩:=(show ∃ t,u=Value.str x t from r);subst e;exact nq P w x t
theorem kR {P:Program}{w:World}:∀ {ks:List Key}{us:List Value},aA (ks.map kV) us->ItemsAre (bR P w) ks us
 | [],_,r=>by rw [List.map_nil] at r;cases r;exact .nil
 | k::ks,_,r=>by
  rw [List.map_cons] at r
  cases r with
  | cons h t=>exact .cons (sk h) (kR t)
abbrev KT (H:Hp):List (List Key×V)->List (List Key×Addr×Value)->Prop:=Paired λp q=>p.1=q.1/\H q.2.1=some (.tup (p.1.map kV))/\az p.2 q.2.2
theorem KT.val {H:Hp}{kvs:List (List Key×V)}{xs:List (List Key×Addr×Value)} (r:KT H kvs xs) (k:List Key):jJ (fq kvs k) ((atKey xs k).map (·.2)):=by
 induction r with
 | nil=>exact True.intro
 | @cons p q ps qs h t ih=>
  obtain⟨h1,_,h2⟩:=h
  by_cases e:p.1=k
  ·have e':q.1=k:=h1.symm.trans e
   have b:atKey (q::qs) k=some q.2:=by simp [atKey,List.find?_cons,e']
   rw [jz e,b];exact h2
  ·have e':¬ q.1=k:=λz=>e (h1.trans z)
   have b:atKey (q::qs) k=atKey qs k:=by simp [atKey,List.find?_cons,e']
   rw [j9 e,b];exact ih
theorem KT.repl {H:Hp}{kvs:List (List Key×V)}{xs:List (List Key×Addr×Value)} (r:KT H kvs xs) (k:List Key) {y:V}{u:Value} (ry:az y u) :
  KT H (kvs.map λkv=>if kv.1=k then (kv.1,y) else kv) (xs.map (putAt k u)):=by
 induction r with
 | nil=>exact .nil
 | @cons p q ps qs h t ih=>
  rw [List.map_cons,List.map_cons]
  refine .cons ?_ ih
  obtain⟨h1,h2,h3⟩:=h
  unfold putAt
  by_cases e:p.1=k
  ·rw [if_pos e,if_pos (h1.symm.trans e)];exact⟨h1,h2,ry⟩
  ·rw [if_neg e,if_neg (λz=>e (h1.trans z))];exact⟨h1,h2,h3⟩
theorem KT.put {H:Hp}{kvs:List (List Key×V)}{xs:List (List Key×Addr×Value)} (r:KT H kvs xs) (k:List Key) {b:Addr}{y:V}{u:Value} (hb:H b=some (.tup (k.map kV))) (ry:az y u) :
  KT H (gD kvs k y) (storedH xs k b u):=by
 have e:(kvs.any λkv=>decide (kv.1=k))=(atKey xs k).isSome:=by
  rw [ni,(r.val k).isSome_eq,Option.isSome_map]
 unfold gD storedH
 rw [e]
 by_cases q:(atKey xs k).isSome=true
 ·rw [if_pos q,if_pos q];exact r.repl k ry
 ·rw [if_neg q,if_neg q];exact Paired.snoc r ⟨rfl,hb,ry⟩
theorem KT.keeps {H H':Hp}{kvs:List (List Key×V)}{xs:List (List Key×Addr×Value)} (r:KT H kvs xs) (ht:∀ b ys,H b=some (.tup ys)->H' b=some (.tup ys)):KT H' kvs xs:=
 Paired.mapP r λ_ _ z=>⟨z.1,ht _ _ z.2.1,z.2.2⟩
section
variable {P:Program}{w:World}{H:Hp}{h:Heap}{a:Addr}
theorem vT {u:HO} (ok:HOk P w H h) (e:Rd H a u):bw P w H h a u:=e.ok ok
theorem rp {kvs:List (Key×V)} (ok:HOk P w H h) (e:Rd H a (.dK kvs)):kvs.length<=sizeLine/\(a==sysModules)=false/\∃ vs,KV kvs vs/\h.DictOf (bR P w) a vs:=
 show bw P w H h a (.dK kvs) from vT ok e
theorem yd {kvs:List (Key×V)} (ok:HOk P w H h) (e:H a=some (.dK kvs)):kvs.length<=sizeLine/\(a==sysModules)=false/\∃ vs,KV kvs vs/\h.DictOf (bR P w) a vs:=rp ok (.inl e)
theorem og {ks:List Key} (ok:HOk P w H h) (e:H a=some (.tup (ks.map kV))):(tupleKind (bR P w)).is h ks a:=by
 obtain⟨_,its,r,o,h1,h2,⟨n,h3⟩,_⟩:=(show bw P w H h a (.tup (ks.map kV)) from ok a _ e)
 exact⟨o,its.toArray,n,h1,h2,h3,by simpa using kR r⟩
theorem qQ {kvs:List (List Key×V)} (ok:HOk P w H h) (e:Rd H a (.dT kvs)):kvs.length<=sizeLine/\(a==sysModules)=false/\
  ∃ xs,KT H kvs xs/\h.DictOfH (tupleKind (bR P w)) a xs:=by
 obtain⟨z,y,xs,r,o,es,ep,h1,h2,h3,h4,h5⟩:=(show bw P w H h a (.dT kvs) from vT ok e)
 refine⟨z,y,xs,r,o,es,ep,h1,h2,h3,h4,λx hx=>?_,h5⟩
 have all:∀ {l:List (List Key×V)}{m:List (List Key×Addr×Value)},KT H l m->∀ x ∈ m,(tupleKind (bR P w)).is h x.1 x.2.1:=by
  intro l m q
  induction q with
  | nil=>intro x hx;exact nomatch hx
  | @cons p q ps qs hq t ih=>
   intro x hx
   rcases List.mem_cons.mp hx with e | hx
   ·subst e
    exact og ok (by rw [<-hq.1];exact hq.2.1)
   ·exact ih x hx
 exact all r x hx
theorem vO {kvs:List (List Key×V)} (ok:HOk P w H h) (e:H a=some (.dT kvs)):kvs.length<=sizeLine/\(a==sysModules)=false/\
  ∃ xs,KT H kvs xs/\h.DictOfH (tupleKind (bR P w)) a xs:=qQ ok (.inl e)
end
noncomputable def qu (H:Hp) (a:Addr) (y:V) (r:Option V):Prop:=
 (∃ kvs k,Rd H a (.dK kvs)/\y=kV k/\r=fq kvs k)\/∃ kvs k b,Rd H a (.dT kvs)/\y=.ref b/\H b=some (.tup (k.map kV))/\r=fq kvs k
noncomputable def qL (H:Hp) (a:Addr) (y v:V) (H':Hp):Prop:=
 (∃ kvs k,H a=some (.dK kvs)/\y=kV k/\kvs.length < sizeLine/\H'=upd H a (.dK (gD kvs k v)))\/
 ∃ kvs k b,H a=some (.dT kvs)/\y=.ref b/\H b=some (.tup (k.map kV))/\kvs.length < sizeLine/\H'=upd H a (.dT (gD kvs k v))
theorem qu.t {H:Hp}{a b:Addr}{kvs:List (List Key×V)}{k:List Key} (e:H a=some (.dT kvs)) (eb:H b=some (.tup (k.map kV))):qu H a (.ref b) (fq kvs k):=.inr ⟨kvs,k,b,.inl e,rfl,eb,rfl⟩
theorem qL.t {H:Hp}{a b:Addr}{kvs:List (List Key×V)}{k:List Key}{v:V} (e:H a=some (.dT kvs)) (eb:H b=some (.tup (k.map kV))) (hl:kvs.length < sizeLine) :
  qL H a (.ref b) v (upd H a (.dT (gD kvs k v))):=.inr ⟨kvs,k,b,e,rfl,eb,hl,rfl⟩
section
variable {X:Cx}{pins:List (Addr×Obj)}{σ:St}{H:Hp}{s:Shared}{a:Addr}{y v:V}{u r:Value}{o:Option V}{A:Around}{E:Value->Shared->Prop}
theorem Inv.big (I:Inv X pins σ H s):sysModules < s.heap.objs.size:=by
 have h:mainGlobals < s.heap.objs.size:=(I.mod.glob.keeps I.bk).lt
 exact Nat.lt_trans (by decide) h
theorem qo {Q:Value->Shared->Prop} (hu:A.units+1 < cLine) (I:Inv X pins σ H s) (g:qu H a y (some v)) (ry:az y u) (h:∀ w' s',Inv X pins σ H s'->az v w'->Q w' s') :
  wpAny (model X.prog X.w) A (getItem (.ref a) u) Q E s:=by
 rcases g with⟨kvs,k,e,ey,l⟩ | ⟨kvs,k,b,e,ey,eb,l⟩
 ·subst ey
  obtain⟨z,hd,vs,rel,dd⟩:=rp I.hok e
  obtain⟨w',hw,rw'⟩:=jJ.some_of (v:=v) (o:=valueAt vs k) (by rw [l];exact rel.val k)
  exact wpAny_getItem_of (sk ry) dd.mapOf hw (h w' _ (I.tok _) rw')
 ·subst ey
  cases (show u=Value.ref b from ry)
  obtain⟨z,hd,xs,rel,dd⟩:=qQ I.hok e
  obtain⟨w',hw,rw'⟩:=jJ.some_of (v:=v) (o:=(atKey xs k).map (·.2)) (by rw [l];exact rel.val k)
  obtain⟨p,hp,hp2⟩:=Option.map_eq_some_iff.mp hw
  refine wpAny_getItem_heap (tupleKind_room_in1 hu) (og I.hok eb) dd hp ?_
  rw [hp2]
  exact h w' _ (I.tok _) rw'
theorem oW {h':Heap}{t':Nat}{ob:HO} (I:Inv X pins σ H s) (mu:Mut (H a)) (hs:Heap.SameBut a s.heap h') (he:∃ q,h'.get? a=some q) (new:bw X.prog X.w (upd H a ob) h' a ob) :
  Inv X pins σ (upd H a ob) { s with heap:=h',toks:=t' }:=
 I.write (x:=a) (e:=a) mu (.inl rfl) (λb q hb z=>(hs.2 b hb).trans z) he new
theorem xQ {P:Program}{w:World}{H':Hp}{h':Heap}{kvs:List (Key×V)}{vs:List (Key×Value)} (z:kvs.length<=sizeLine) (hd:(a==sysModules)=false) (rel:KV kvs vs) (dd:h'.DictOf (bR P w) a vs) :
  bw P w H' h' a (.dK kvs):=⟨z,hd,vs,rel,dd⟩
theorem qv {H':Hp}{Q:Unit->Shared->Prop} (hu:A.units+1 < cLine) (I:Inv X pins σ H s) (g:qL H a y v H') (ry:az y u) (rv:az v r) (h:∀ s',Inv X pins σ H' s'->Q () s') :
  wpAny (model X.prog X.w) A (setItem (.ref a) u r) Q E s:=by
 rcases g with⟨kvs,k,e,ey,l,eH⟩ | ⟨kvs,k,b,e,ey,eb,l,eH⟩
 ·subst ey eH
  obtain⟨z,hd,vs,rel,dd⟩:=yd I.hok e
  have hz:vs.length<=sizeLine:=by rw [<-rel.length];exact z
  have hl:(gD kvs k v).length<=sizeLine:=by have:=iq kvs k v;lia
  refine wpAny_setItem_pairs (hsz:=hz) (sk ry) dd λh' dd' hs=>h _ ?_
  have he:∃ q,h'.get? a=some q:=let ⟨q,_,_,hq,_⟩:=dd';⟨q,hq⟩
  exact oW I (by rw [e];exact True.intro) hs he (xQ hl hd (rel.put k rv) dd')
 ·subst ey eH
  cases (show u=Value.ref b from ry)
  obtain⟨z,hd,xs,rel,dd⟩:=vO I.hok e
  have hz:xs.length<=sizeLine:=by rw [<-Paired.length rel];exact z
  have hl:(gD kvs k v).length<=sizeLine:=by have:=iq kvs k v;lia
  refine wpAny_setItem_heap (hsz:=hz) (tupleKind_room_in1 hu) (og I.hok eb) dd λh' dd' hs=>h _ ?_
  obtain⟨q,es,ep,hq,h2,h3,h4,_,h5⟩:=dd'
  refine oW I (by rw [e];exact True.intro) hs ⟨q,hq⟩ ⟨hl,hd,_,(rel.put k eb rv).keeps λc ys ec=>?_,q,es,ep,hq,h2,h3,h4,h5⟩
  rw [bb (yt ec e (λz=>nomatch z))]
  exact ec
end
section
variable {X:Cx}{pins:List (Addr×Obj)}{σ:St}{H:Hp}{s:Shared}{a:Addr}{kvs:List (Key×V)}{k:Key}{u:Value}{A:Around}{E:Value->Shared->Prop}
end
noncomputable def xM (i:Expr):Prop:=∀ ov iv,subscripted i false ov iv=operate [ov,iv] (getItem ov iv)
theorem vo {prog:Program}{w:World}{A:Around}{E:Value->Shared->Prop}{s:Shared}{env:Env}{value slice:Expr}{pos:Pos}{T id:String}{Q:Value->Shared->Prop}
  (hl:typeLookup (.type T) "__getitem__" = pure (some (.builtin id))) (hs:xM slice)
  (h:wpAny (model prog w) A (eval value env) (λo s₁=>wpAny (model prog w) A (eval slice env) (λi s₂=>s₂.TypeIs o T/\wpAny (model prog w) A (getItem o i) Q E s₂) E s₁) E s) :
  wpAny (model prog w) A (eval (.Subscript value slice pos) env) Q E s:=by
 refine Subscript_ (wpAny_mono h (λo s₁ h₁=>wpAny_mono h₁ (λi s₂ h₂=>?_) λ_ _ x=>x) λ_ _ x=>x)
 obtain⟨hT,h₂⟩:=h₂
 unfold subscriptTail
 refine wpAny_bind ?_
 rw [getitemInPython_of_ne hT.not_modules]
 refine wpAny_bind (wpAny_specialOf hT hl ?_)
 have fin:wpAny (model prog w) A (subscripted slice false o i) (λr s₃=>wpAny (model prog w) A (letTemporaryGo value o r >>= λ_=>pure r) Q E s₃) E s₂:=by
  rw [hs o i]
  exact wpAny_operating (wpAny_mono h₂ (λr s₃ h₃=>wpAny_bind (wpAny_letTemporaryGo (wpAny_pure h₃))) λ_ _ x=>x)
 first
  | exact wpAny_pure (wpAny_bind fin)
  | exact wpAny_bind (wpAny_pure (wpAny_bind fin))
  | exact wpAny_bind fin
theorem nY {X:Cx}{pins:List (Addr×Obj)}{σ:St}{H:Hp}{s:Shared}{a:Addr}{y:V}{o:Option V} (I:Inv X pins σ H s) (g:qu H a y o):s.TypeIs (.ref a) "dict":=by
 rcases g with⟨kvs,k,e,_,_⟩ | ⟨kvs,k,b,e,_,_,_⟩
 ·obtain⟨_,_,vs,_,dd⟩:=rp I.hok e
  exact dd.typeIs
 ·obtain⟨_,_,xs,_,dd⟩:=qQ I.hok e
  exact dd.typeIs
noncomputable def yA (td ty:TE):TE:=λσ H Q=>td σ H λx H1=>ty σ H1 λy H2=>∃ a v,x=.ref a/\qu H2 a y (some v)/\Q v H2
noncomputable def yV (td ty tv:TE):TS:=λD σ H=>tv σ H λv H1=>td σ H1 λx H2=>ty σ H2 λy H3=>∃ a H4,x=.ref a/\qL H3 a y v H4/\D.nx σ H4
section
variable {X:Cx}{o i e value:Expr}{pos pos' tpos:Pos}{td ty tv:TE}
theorem u8 (hu:X.A.units+1 < cLine) (ho:PE X o td) (hi:PE X i ty) (hs:xM i):PE X (.Subscript o i pos) (yA td ty):=by
 intro pins s σ H Q I h
 refine vo PySem.F.slot_dict_getitem.lookup hs (thn (ho pins s σ H _ I h) λu s1 ⟨x,H1,I1,rx,q1⟩=>thn (hi pins s1 σ H1 _ I1 q1) λiv s2 ⟨y,H2,I2,ry,a,v,ex,g,q2⟩=>?_)
 subst ex
 obtain rfl:u=Value.ref a:=rx
 exact⟨nY I2 g,qo hu I2 g ry λw' s3 I3 rw'=>⟨v,H2,I3,rw',q2⟩⟩
theorem uq (hu:X.A.units+1 < cLine) (ho:PE X o td) (hi:PE X i ty) (hv:PE X value tv) (hs:swapsWith value (some (.Subscript o i pos')) pos.line X.env=pure false) :
  PS X (.Assign [.Subscript o i pos'] value pos) (yV td ty tv):=by
 intro pins s σ H D I h
 refine wpAny_Assign_Subscript (thn (hv pins s σ H _ I h) λr s1 ⟨v,H1,I1,rv,q1⟩=>thn (ho pins s1 σ H1 _ I1 q1) λu s2 ⟨x,H2,I2,rx,q2⟩=>thn (hi pins s2 σ H2 _ I2 q2) λiv s3 ⟨y,H3,I3,ry,a,H4,ex,g,q3⟩=>?_) hs
 subst ex
 obtain rfl:u=Value.ref a:=rx
 exact qv hu I3 g ry rv λs4 I4=>⟨σ,H4,I4,q3⟩
end
theorem si {P:Program}{w:World}{H:Hp} (h:Heap) (hb:sysModules < h.objs.size):bw P w H (h.push { cls:=.type "dict",data:=.dict #[] }) h.objs.size (.dT []):=
 ⟨Nat.zero_le _,beq_eq_false_iff_ne.mpr (Ne.symm (Nat.ne_of_lt hb)),[],.nil,_,#[],0,Heap.get?_push_size _ rfl,⟨rfl,rfl,rfl⟩,rfl,rfl,List.nodup_nil⟩
noncomputable def xL:TE:=λ_ H Q=>∀ p,H p=none->Q (.ref p) (upd H p (.dT []))
section
variable {X:Cx}{pos:Pos}
theorem sF:PE X (.Dict [] [] pos) xL:=λpins s σ H Q I h=>
 wpAny_Dict_empty ⟨.ref s.heap.objs.size,_,I.laid (a:=s.heap.objs.size) (o:=.dT []) (t':=s.toks) (λ_ _ q=>Heap.get?_push_of_some _ q) (Nat.le_refl _) (si s.heap I.big),rfl,h _ (I.hok.fresh (Nat.le_refl _))⟩
end
section
variable {X:Cx}{pins:List (Addr×Obj)}{σ:St}{H:Hp}{s:Shared}{a:Addr}{y d:V}{u r:Value}{o:Option V}{A:Around}{E:Value->Shared->Prop}
end
section
variable {X:Cx}{o e f:Expr}{apos cpos:Pos}{td ty tx:TE}
end
section
variable {X:Cx}{pins:List (Addr×Obj)}{σ:St}{H:Hp}{s:Shared}{a:Addr}{kvs:List (Key×V)}{A:Around}{E:Value->Shared->Prop}
end
section
variable {X:Cx}{pins:List (Addr×Obj)}{σ:St}{H:Hp}{s:Shared}{a:Addr}{y:V}{u:Value}{A:Around}{E:Value->Shared->Prop}
end
end L2
namespace L2
open PySem PySem.Spec PyProof.Rows
section
variable {prog:Program}{w:World}{A:Around}{E:Value->Shared->Prop}{s:Shared}{κ:Type} [DecidableEq κ] {knd:KeyKind prog w κ}{a:Addr}{kvs:List (κ×Value)}
end
section
variable {X:Cx}{pins:List (Addr×Obj)}{σ:St}{H:Hp}{s:Shared}{a:Addr}{kvs:List (Key×V)}{k:Key}{u r:Value}{A:Around}{E:Value->Shared->Prop}{z:V}
end
section
variable {K:PySem.W.Frag}{X:Cx}{pos:Pos}{e a b o f:Expr}{fe fa fb fo ff:Ef}
end
section
variable {K:PySem.W.Frag}{X:Cx}
end
end L2
namespace L2
open PySem PySem.Spec PyProof.Rows
section
variable {K:PySem.W.Frag}{X:Cx}
noncomputable def jc (_:Sto):List W->Option D
 | [.d (.int i)]=>if i.natAbs.log2 < 1920 then some (.str (toString i)) else none
 | _=>none
theorem n8:eF K X (.type "str") jc:=by
 refine⟨λst ws d h=>?_⟩
 match ws,h with
 | [.d (.int i)],h=>
  dsimp only [jc] at h
  by_cases hl:i.natAbs.log2 < 1920
  case neg=>rw [if_neg hl] at h;cases h
  rw [if_pos hl] at h
  cases h
  refine mw.imp ?_
  rintro vs H Q ⟨φ,S,⟨v,r,rfl,r1,rfl⟩,q⟩
  exact⟨i,by rw [show v=.int i from r1],hl,q _ H (aY.refl H) rfl⟩
theorem oj:cz X (.builtin "repr") (λxs H Q=>∃ x,xs=[.str x]/\(reprText x).length<=sizeLine/\Q (.str (reprText x)) H):=by
 intro pins s σ H xs us Q I rv h
 obtain⟨x,rfl,hz,q⟩:=h
 obtain⟨u,rfl,t,rfl⟩:=fT rv
 exact call_repr_gives (typeIs_str s x t) PySem.F.slot_str_repr PySem.F.entry_str_repr (PySem.F.args_str_repr_1 _) (gives_str_repr x t) ⟨.str _,H,I.tok _,⟨_,rfl⟩,q⟩ rfl hz
end
end L2
namespace L2
open PySem PySem.Spec PyProof.Rows
noncomputable def sj:D->Option V
 | .non=>some .non
 | .bl b=>some (.bl b)
 | .int i=>some (.int i)
 | .str x=>some (.str x)
 | _=>none
theorem uR {K:PySem.W.Frag}{H:Hp}{φ:List Addr}:∀ {d:D}{v:V},sj d=some v->Rl K H φ d v
 | .non,_,h=>by cases h;rfl
 | .bl _,_,h=>by cases h;rfl
 | .int _,_,h=>by cases h;rfl
 | .str _,_,h=>by cases h;rfl
 | .ty _,_,h=>nomatch h
 | .dct,_,h=>nomatch h
 | .scr _,_,h=>nomatch h
 | .tup _,_,h=>nomatch h
 | .lst _,_,h=>nomatch h
section
variable {K:PySem.W.Frag}{X:Cx}{pins:List (Addr×Obj)}{σ:St}{H:Hp}{s:Shared}{p:Addr}{kvs:List (Str×D)}
variable {pos p1:Pos}{a:Expr}{fa:Ef}{x:Str}
end
end L2
namespace L2
open PySem PySem.Spec PyProof.Rows
section
variable {X:Cx}{e:Expr}{ty:TE}{p1 p2 p3 p4 p5 dpos apos cpos:Pos}{j1 j2 j3 j4 j5:Nat}
end
section
variable {K:PySem.W.Frag}{X:Cx}{e:Expr}{f:Ef}{pos p1:Pos}{x:Str}{p:Addr}{ds:List D}{s:Stmt}
noncomputable def KTp (K:PySem.W.Frag) (p:Addr) (ds:List D):Prop:=ds.all cx=true/\∀ H,SqT K H p (ds.map vOf)
theorem vV {o:Obj} (l:K.lookup p=some o) (h:lv ds o=true):KTp K p ds:=by
 unfold lv at h
 rw [Bool.and_eq_true,Bool.and_eq_true,Bool.and_eq_true] at h
 obtain⟨⟨h1,h0⟩,h2,h3⟩:=h
 refine⟨h2,λH=>?_⟩
 cases e:o.data with
 | seq its n=>
  rw [e] at h3
  have h3':(decide (its.size<=1000) && its.toList.map sZ==(ds.map vOf).map some)=true:=h3
  rw [Bool.and_eq_true] at h3'
  exact .inr ⟨o,its,n,l,eq_of_beq h1,e,i3 (of_decide_eq_true h3'.1),nT (eq_of_beq h3'.2),Option.isNone_iff_eq_none.mp h0⟩
 | _=>rw [e] at h3;cases h3
noncomputable def uv:Sf
 | _,_=>none
theorem lx:IS K X s uv:=⟨λenv st r hr=>by cases hr⟩
end
end L2
namespace L2
open PySem PySem.Spec PyProof.Rows
end L2
namespace L2
open PySem PySem.Spec PyProof.Rows
noncomputable def vw (m:Nat):List Nat:=(List.range 6).filter λk=>m.testBit k
theorem oe {m k:Nat}:k ∈ vw m↔k < 6/\m.testBit k=true:=by
 unfold vw;rw [List.mem_filter,List.mem_range]
theorem xc {k j:Nat}:(1 <<< k).testBit j=decide (k=j):=by rw [Nat.one_shiftLeft,Nat.testBit_two_pow]
section
variable {b:Bool}{t:SetTable}{m d k:Nat}
end
end L2
namespace L2
open PySem PySem.Spec PyProof.Rows
section
variable {prog:Program}{w:World}{A:Around}{E:Value->Shared->Prop}{s:Shared}{a:Addr}{m d k:Nat}
end
end L2
namespace L2
open PySem PySem.Spec PyProof.Rows
section
variable {prog:Program}{w:World}{A:Around}{E:Value->Shared->Prop}{s:Shared}{a it:Addr}{m d ep i:Nat}{f:Nat->Tok}
end
end L2
namespace L2
open PySem PySem.Spec PyProof.Rows
section
variable {prog:Program}{w:World}{A:Around}{E:Value->Shared->Prop}{s:Shared}{a it:Addr}{m d ep i:Nat}{f:Nat->Tok}
end
end L2
namespace L2
open PySem PySem.Spec PyProof.Rows
noncomputable def gk (l:List Int):Nat:=l.foldl (λm k=>m ||| 1 <<< k.toNat) 0
section
variable {prog:Program}{w:World}{A:Around}{E:Value->Shared->Prop}{s:Shared}
end
section
variable {prog:Program}{w:World}{A:Around}{R:Result->Shared->Prop}{I:Addr}{fp wr:List Addr}{G:Array GenState->Array GenState->Prop}{P:Nat->Value->Prop}{St:Nat->Shared->Prop}
end
section
variable {prog:Program}{w:World}{A:Around}{E:Value->Shared->Prop}{s:Shared}
end
end L2
namespace L2
open PySem PySem.Spec PyProof.Rows
section
variable {prog:Program}{w:World}{A:Around}{E:Value->Shared->Prop}{s:Shared}{a r o:Addr}{m m1 m2 d k ep:Nat}{f:Nat->Tok}
noncomputable def iz (l:List Nat):Nat:=l.foldl (λm k=>m ||| 1 <<< k) 0
theorem lF:∀ (l:List Nat) (m:Nat),l.foldl (λm k=>m ||| 1 <<< k) m=m ||| iz l
 | [],m=>(Nat.or_zero m).symm
 | k::l,m=>by
  unfold iz
  rw [List.foldl_cons,List.foldl_cons,lF l,lF l (0 ||| 1 <<< k),Nat.zero_or,Nat.or_assoc]
theorem oa (k:Nat) (l:List Nat):iz (k::l)=1 <<< k ||| iz l:=by
 show (k::l).foldl (λm k=>m ||| 1 <<< k) 0=_
 rw [List.foldl_cons,lF,Nat.zero_or]
theorem ji (j:Nat):∀ l:List Nat,(iz l).testBit j=decide (j ∈ l)
 | []=>by simp [iz]
 | k::l=>by
  rw [oa,Nat.testBit_or,xc,ji j l]
  by_cases e:k=j
  ·subst e;simp
  ·rw [decide_eq_false e,Bool.false_or]
   simp [show ¬ j=k from λz=>e z.symm]
end
end L2
namespace L2
open PySem PySem.Spec PyProof.Rows
section
variable {prog:Program}{w:World}{A:Around}{E:Value->Shared->Prop}{s:Shared}{a b r o:Addr}{m m1 m2 d k ep:Nat}{f:Nat->Tok}
end
end L2
namespace L2
open PySem PySem.Spec PyProof.Rows
section
variable {prog:Program}{w:World}{A:Around}{E:Value->Shared->Prop}{s:Shared}{a b r o:Addr}{m m1 m2 d k ep:Nat}{f:Nat->Tok}
end
end L2
namespace L2
open PySem PySem.Spec PyProof.Rows
section
variable {prog:Program}{w:World}{A:Around}{E:Value->Shared->Prop}{s:Shared}{a:Addr}{m d ep:Nat}{f:Nat->Tok}
end
section
variable {K:PySem.W.Frag}{X:Cx}{pos p:Pos}{e a b:Expr}{fe:Ef}{fa fb:Xf}
end
end L2
namespace L2
open PySem PySem.Spec PyProof.Rows
noncomputable def gA (h:Heap) (d:Addr) (es:Array DictEntry) (ep:Nat):Prop:=∃ o,h.get? d=some o/\o.ExactDict/\o.data=.dict es ep
theorem gA.at' {h h':Heap}{d:Addr}{es:Array DictEntry}{ep:Nat} (x:gA h d es ep) (e:∀ o,h.get? d=some o->h'.get? d=some o):gA h' d es ep:=let ⟨o,ho,r⟩:=x;⟨o,e o ho,r⟩
theorem gA.type {s:Shared}{d:Addr}{es:Array DictEntry}{ep:Nat} (x:gA s.heap d es ep):s.TypeIs (.ref d) "dict":=let ⟨o,ho,hc,_⟩:=x;⟨o,ho,hc.1⟩
theorem gA.lt {h:Heap}{d:Addr}{es:Array DictEntry}{ep:Nat} (x:gA h d es ep):d < h.objs.size:=let ⟨o,ho,_⟩:=x;Heap.lt_size ho
section
variable {prog:Program}{w:World}{A:Around}{E:Value->Shared->Prop}{s:Shared}{d it:Addr}{es:Array DictEntry}{i ep:Nat}
theorem qG {Q:Value->Shared->Prop} (hd:(d==sysModules)=false) (hm:gA s.heap d es ep)
  (hQ:Q (.ref s.heap.objs.size) { s with heap:=s.heap.push { cls:=.type "dict_keyiterator",data:=.fields #[.ref d,.int 0 0,.int es.size 0,.int ep 0] } }) :
  wpAny (model prog w) A (pyIter (.ref d)) Q E s:=by
 have hT:=hm.type
 obtain⟨o,ho,hc,hdat⟩:=id hm
 refine wpAny_pyIter_slot hT PySem.F.slot_dict_iter (wpAny_call_entry PySem.F.slot_dict_iter hT PySem.F.entry_dict_iter ?_ (PySem.F.args_dict_iter_1 _))
 unfold Builtin.«dict.__iter__»
 refine wpAny_bind ?_
 unfold Builtin.Dict.dictSlotNone
 refine wpAny_bind (wpAny_notOrdered_dict hT ?_)
 show wpAny _ _ (pure (Value.ref d)) _ _ s
 refine wpAny_pure ?_
 show wpAny _ _ (Builtin.Dict.showsAll d >>= _) _ _ s
 unfold Builtin.Dict.showsAll
 rw [if_neg (by rw [hd];exact Bool.false_ne_true)]
 refine wpAny_bind (wpAny_pure ?_)
 refine wpAny_bind (wpAny_dictEntries ho hdat ?_)
 refine wpAny_bind (wpAny_dictEpoch ho hdat ?_)
 refine wpAny_bind (wpAny_newObj_type (wpAny_pure ⟨_,rfl,"dict_keyiterator",_,⟨_,Heap.get?_push_size _ rfl,rfl⟩,PySem.F.slot_dict_keyiterator_next.lookup,?_⟩))
 simpa [rawInt] using hQ
theorem sG {Q:Option Value->Shared->Prop} (hit:s.heap.IsKeyIter it d i es.size ep) (hm:gA s.heap d es ep) (hlt':i < es.size)
  (hQ:∀ h',h'.IsKeyIter it d (i+1) es.size ep->Heap.SameBut it s.heap h'->Q (some es[i].key) { s with heap:=h' }) :
  wpAny (model prog w) A (pyNext (.ref it)) Q E s:=by
 obtain⟨o,ho,hc,hd⟩:=id hit
 obtain⟨od,hod,hcd,hdd⟩:=id hm
 unfold pyNext
 refine wpAny_bind (wpAny_attempt (wpAny_callSpecial?_slot (name:=Str.ofString "__next__") hit.typeIs PySem.F.slot_dict_keyiterator_next
  (wpAny_call_entry PySem.F.slot_dict_keyiterator_next hit.typeIs PySem.F.entry_dict_keyiterator_next ?_ (PySem.F.args_dict_keyiterator_next_1 _))))
 refine wpAny_bind (wpAny_pure ?_)
 refine wpAny_bind ?_
 refine wpAny_bind ?_
 first | refine wpAny_bind (wpAny_typeNameOfWhole_keyiter hit.typeIs (wpAny_pure ?_)) | refine wpAny_bind (wpAny_typeNameOf_keyiter hit.typeIs (wpAny_pure ?_))
 refine wpAny_bind (wpAny_fieldsOf ho hd ?_)
 have hown:Builtin.Dict_items.ownsTuple "dict_keyiterator" = false:=by decide
 simp only [hown,Bool.false_eq_true,if_false]
 show wpAny _ _ (if (Value.ref d==Value.none)=true then _ else _) _ _ s
 rw [if_neg (show ¬ ((Value.ref d==Value.none)=true) from Bool.false_ne_true)]
 refine wpAny_bind (wpAny_pure ?_)
 refine wpAny_bind (wpAny_dictEntries hod hdd ?_)
 rw [if_neg (by simp)]
 refine wpAny_bind (wpAny_pure ?_)
 refine wpAny_bind (wpAny_dictEpoch hod hdd ?_)
 rw [if_neg (by simp)]
 refine wpAny_pure ?_
 simp only [show ¬ ((i:Int) < 0) from by lia,if_false,Int.toNat_natCast,Array.getElem?_eq_getElem hlt']
 refine wpAny_bind ?_
 first | refine wpAny_bind (wpAny_typeNameOfWhole_keyiter hit.typeIs (wpAny_pure ?_)) | refine wpAny_bind (wpAny_typeNameOf_keyiter hit.typeIs (wpAny_pure ?_))
 refine wpAny_bind (wpAny_isOneOf_keyiter hit.typeIs ?_)
 show wpAny _ _ (setField (.ref it) 1 (rawInt ((i:Int)+1)) >>= _) _ _ s
 refine wpAny_bind (wpAny_setField ho hd (by simp) ?_)
 have hit':(s.heap.update it (Obj.mapFields (·.setIfInBounds 1 (rawInt ((i:Int)+1))))).IsKeyIter it d (i+1) es.size ep:=
  ⟨_,Heap.get?_update_self _ ho (Obj.isFreed_of_fields (Obj.data_mapFields hd _)),(Obj.cls_mapFields ..).trans hc,by rw [Obj.data_mapFields hd];simp [rawInt]⟩
 refine wpAny_bind (wpAny_holding ?_)
 refine wpAny_bind (wpAny_isOneOf_keyiter (s:={ s with heap:=s.heap.update it (Obj.mapFields (·.setIfInBounds 1 (rawInt ((i:Int)+1)))) }) hit'.typeIs ?_)
 show wpAny _ _ (pure es[i].key) _ _ _
 exact wpAny_pure (wpAny_pure ⟨_,rfl,wpAny_pure (hQ _ hit' (Heap.SameBut.update ..))⟩)
theorem uy {Q:Option Value->Shared->Prop} (hh:A.handled=none) (hit:s.heap.IsKeyIter it d es.size es.size ep) (hm:gA s.heap d es ep)
  (hQ:∀ h',Heap.ExtBut it s.heap h'->Q none { s with heap:=h' }):wpAny (model prog w) A (pyNext (.ref it)) Q E s:=by
 obtain⟨o,ho,hc,hd⟩:=id hit
 obtain⟨od,hod,hcd,hdd⟩:=id hm
 unfold pyNext
 refine wpAny_bind (wpAny_attempt (wpAny_callSpecial?_slot (name:=Str.ofString "__next__") hit.typeIs PySem.F.slot_dict_keyiterator_next
  (wpAny_call_entry PySem.F.slot_dict_keyiterator_next hit.typeIs PySem.F.entry_dict_keyiterator_next ?_ (PySem.F.args_dict_keyiterator_next_1 _))))
 refine wpAny_bind (wpAny_pure ?_)
 refine wpAny_bind ?_
 refine wpAny_bind ?_
 first | refine wpAny_bind (wpAny_typeNameOfWhole_keyiter hit.typeIs (wpAny_pure ?_)) | refine wpAny_bind (wpAny_typeNameOf_keyiter hit.typeIs (wpAny_pure ?_))
 refine wpAny_bind (wpAny_fieldsOf ho hd ?_)
 have hown:Builtin.Dict_items.ownsTuple "dict_keyiterator" = false:=by decide
 simp only [hown,Bool.false_eq_true,if_false]
 show wpAny _ _ (if (Value.ref d==Value.none)=true then _ else _) _ _ s
 rw [if_neg (show ¬ ((Value.ref d==Value.none)=true) from Bool.false_ne_true)]
 refine wpAny_bind (wpAny_pure ?_)
 refine wpAny_bind (wpAny_dictEntries hod hdd ?_)
 rw [if_neg (by simp)]
 refine wpAny_bind (wpAny_pure ?_)
 refine wpAny_bind (wpAny_dictEpoch hod hdd ?_)
 rw [if_neg (by simp)]
 refine wpAny_pure ?_
 have hge:es.size<=es.size:=Nat.le_refl _
 simp only [show ¬ ((es.size:Int) < 0) from by lia,if_false,Int.toNat_natCast,Array.getElem?_eq_none hge]
 refine wpAny_bind ?_
 first | refine wpAny_bind (wpAny_typeNameOfWhole_keyiter hit.typeIs (wpAny_pure ?_)) | refine wpAny_bind (wpAny_typeNameOf_keyiter hit.typeIs (wpAny_pure ?_))
 show wpAny _ _ (setField (.ref it) 0 .none >>= _) _ _ s
 refine wpAny_bind (wpAny_setField ho hd (by simp) ?_)
 show wpAny _ _ (newExc (.type "StopIteration") [] >>= _) _ _ _
 refine wpAny_bind ?_
 simp only [newExc,newTuple]
 refine wpAny_bind (wpAny_newObj_type ?_ (by size_fits))
 refine wpAny_bind (m:=firstArgMember _ _) (wpAny_of_eq (a:=Value.none) (by first | rfl | (simp only [firstArgMember];rfl)) ?_)
 refine wpAny_newObj_type ?_ (by size_fits)
 simp only [raiseNew]
 refine wpAny_bind (wpAny_handled ?_)
 rw [show A.in1.handled=none from hh]
 refine wpAny_bind (wpAny_pure (wpAny_throw ?_))
 refine wpAny_bind (wpAny_isInstance (T:="StopIteration") (b:=true) ⟨_,Heap.get?_push_size _ rfl,rfl⟩ isSubtype_stop ?_)
 exact wpAny_pure (hQ _ (((Heap.SameBut.update ..).extBut.push _).push _))
theorem qe (hh:A.handled=none) (I d:Addr) (hne:d≠I) (es:Array DictEntry) (ep:Nat) :
  Walks prog w A I [I,d] [I] es.size (λi v=>∃ e,es[i]?=some e/\v=e.key) (λi h=>h.IsKeyIter I d i es.size ep/\gA h d es ep) where
 sub:=λb hb=>by simp at hb;simp [hb]
 frame:=λ_ _ _ st hk=>⟨st.1.at λo e=>hk I (by simp) o e,st.2.at' λo e=>hk d (by simp) o e⟩
 item:=λi s Q E hi st hQ=>by
  refine sG st.1 st.2 hi λh' hit' hs'=>?_
  exact hQ _ h' s.toks ⟨es[i],by simp [hi],rfl⟩ ⟨hit',st.2.at' λo q=>hs'.extBut d o hne q⟩ λb o hb q=>hs'.extBut b o (λh=>hb (by simp [h])) q
 done:=λs Q E st hQ=>uy hh st.1 st.2 λh' he'=>hQ h' s.toks λb o hb e=>he' b o (λh=>hb (by simp [h])) e
 self:=λ_ _ _ _ st hQ=>wpAny_pyIter_keyiter st.1 hQ
theorem uF (prog:Program) (w:World) (d:Addr) (es:Array DictEntry) (ep:Nat) (lo:(d==sysModules)=false):PySem.W.KdlSrc prog w "dict" d d es.size (λi v=>∃ e,es[i]?=some e/\v=e.key) (λh=>gA h d es ep) where
 type:=λs S=>S.type
 there:=λh S=>⟨S.lt,S.lt⟩
 keep:=λh h' S hk=>S.at' λo e=>hk d (.inl rfl) o e
 notList:=by decide
 notTuple:=by decide
 hint:=λA E s Q S h=>PySem.W.kdl_hint_dict S.type h
 iter:=λA s hh S=>⟨_,_,λE Q h=>qG lo S h,qe hh s.heap.objs.size d (Nat.ne_of_lt S.lt) es ep,
  ⟨⟨_,Heap.get?_push_size _ rfl,rfl,rfl⟩,S.at' λo e=>Heap.get?_push_of_some _ e⟩⟩
end
end L2
namespace L2
open PySem PySem.Spec PyProof.Rows
section
variable {prog:Program}{w:World}{A:Around}{E:Value->Shared->Prop}{s:Shared}{d:Addr}{es:Array DictEntry}{ep:Nat}
theorem nt {Q:List Value->Shared->Prop} (lo:(d==sysModules)=false) (S:gA s.heap d es ep) (hh:A.handled=none) (hn:es.size<=sizeLine)
  (h:∀ h' tk,(∀ b o,s.heap.get? b=some o->h'.get? b=some o)->s.heap.objs.size < h'.objs.size->Q (es.toList.map (·.key)) { s with heap:=h',toks:=tk }) :
  wpAny (model prog w) A (collect (.ref d)) Q E s:=by
 have hlt:d < s.heap.objs.size:=S.lt
 unfold collect
 refine wpAny_bind (wpAny_runValue (codeAny_builtin entry_proto_collect' ?_))
 show wpAny _ _ (do again (.builtin "list.__iadd__" ⟨[<-newList [],.ref d],[]⟩)) _ _ s
 refine wpAny_bind (wpAny_newList (wpAny_pure ⟨Code.quiet_builtin _ (by decide +kernel),codeAny_builtin entry_list_iadd' ?_⟩))
 show wpAny _ _ (Builtin.List.listExtendWith (.ref s.heap.objs.size) (.ref d) (.ref s.heap.objs.size)) _ _ { s with heap:=s.heap.push (seqObj "list" #[] 0) }
 refine PySem.W.kdl_extend (A:=A) (R:=λr s'=>match r with
   | .ok (.ret v)=>wpAny (model prog w) A (match v with
     | .ref a=>do
      let o <-load a
      match o.data with
      | .seq xs _=>pure xs.toList
      | _=>unsupported "internal:collect"
     | _=>unsupported "internal:collect") Q E s'
   | .ok _=>False
   | .error e=>E e s') (s:={ s with heap:=s.heap.push (seqObj "list" #[] 0) }) (uF prog w d es ep lo) hh (S.at' λo e=>Heap.get?_push_of_some _ e) s.heap.objs.size (Nat.ne_of_gt hlt) (Nat.ne_of_gt hlt) (.ref s.heap.objs.size) 0 (Heap.get?_push_size _ rfl) (λh' tk acc c hk hS hI=>?_) hn
 show wpAny (model prog w) A (do
   let o <-load s.heap.objs.size
   match o.data with
   | .seq xs _=>pure xs.toList
   | _=>unsupported "internal:collect") Q E { s with heap:=h',toks:=tk }
 refine wpAny_bind (wpAny_load hS ?_)
 show wpAny _ _ (pure acc.toList) Q E _
 have e:acc.toList=es.toList.map (·.key):=by
  apply List.ext_getElem?
  intro i
  rw [List.getElem?_map,Array.getElem?_toList,Array.getElem?_toList]
  by_cases hi:i < acc.size
  ·obtain⟨e,he,hv⟩:=hI.2 i acc[i] (Array.getElem?_eq_getElem hi)
   rw [he,Array.getElem?_eq_getElem hi,hv];rfl
  ·rw [Array.getElem?_eq_none (by lia),Array.getElem?_eq_none (by rw [<-hI.1];lia)];rfl
 rw [e]
 refine wpAny_pure (h h' tk (λb o q=>?_) (Heap.lt_size hS))
 exact hk b o (Nat.ne_of_lt (Heap.lt_size q)) (Heap.get?_push_of_some _ q)
theorem ow {Q:Value->Shared->Prop}{vs:List Value} (lo:(d==sysModules)=false) (S:gA s.heap d es ep) (hh:A.in1.handled=none) (hvs:es.toList.map (·.key)=vs) (h64:vs.length<=64) (hu:A.in1.in1.units < cLine)
  (t:∀ v ∈ vs,∃ l,TuI s.heap v l)
  (h:∀ (h':Heap) (tk:Nat) (p:Addr) (ep:Nat) (out:List Value),(∀ b o,s.heap.get? b=some o->h'.get? b=some o)->s.heap.objs.size<=p->h'.get? p=some (seqObj "list" out.toArray ep)->out.Perm vs->out.Pairwise (λx y=>OI.kle (tuI s.heap x) (tuI s.heap y))->Q (.ref p) { s with heap:=h',toks:=tk }) :
  wpAny (model prog w) A (call (.builtin "sorted") [.ref d]) Q E s:=by
 refine Calls.call_function_entry kind_sorted plain_sorted entry_sorted (args_sorted1 _) ?_
 unfold Builtin.«sorted»
 refine wpAny_bind (m:=checkCount "sorted" 1 1 _) (wpAny_pure ?_)
 have hsz:es.size<=sizeLine:=by
  have:=congrArg List.length hvs
  rw [List.length_map,Array.length_toList] at this
  rw [sizeLine_eq];lia
 refine wpAny_bind (nt lo S hh hsz λh1 tk hk hlt=>?_)
 rw [hvs]
 refine wpAny_bind (wpAny_newList ?_ (by rw [sizeLine_eq];lia))
 have hoL:(h1.push (seqObj "list" vs.toArray 0)).get? h1.objs.size=some (seqObj "list" vs.toArray 0):=Heap.get?_push_size _ rfl
 show wpAny _ _ _ _ _ { s with heap:=h1.push (seqObj "list" vs.toArray 0),toks:=tk }
 refine wpAny_bind (wpAny_holding (wpAny_call_entry slot_list_sort ⟨_,hoL,rfl⟩ entry_list_sort (p8 (O:=OI) (rk:=λp=>tuI s.heap p.1) (S:=λp=>∃ l,TuI s.heap p.1 l) (s:={ s with heap:=h1.push (seqObj "list" vs.toArray 0),toks:=tk }) hoL h64 (λh' hk'=>?_) (λv hv=>t v hv) λout a1 a2=>⟨_,rfl,?_⟩) (args_list_sort _)))
 ·have hk2:∀ b o,s.heap.get? b=some o->h'.get? b=some o:=λb o q=>hk' b o (Nat.ne_of_lt (Heap.lt_size (hk b o q))) (Heap.get?_push_of_some _ (hk b o q))
  obtain⟨κ,k1,k2⟩:=qU (prog:=prog) (w:=w) (s:={ s with heap:=h',toks:=tk }) (vs:=vs) (λv hv=>let ⟨l,tl⟩:=t v hv;⟨l,tl.fit hk2⟩) hu
  refine⟨κ,k1,λx y ⟨l,hx⟩ ⟨m,hy⟩ Q E hq=>k2 x y ⟨l,hx.fit hk2⟩ ⟨m,hy.fit hk2⟩ Q E ?_⟩
  have hx':=hx.fit hk2
  have hy':=hy.fit hk2
  have hq':Q (bu (tuI s.heap x.1) (tuI s.heap y.1)) { s with heap:=h',toks:=tk }:=hq
  show Q (bu (tuI h' x.1) (tuI h' y.1)) { s with heap:=h',toks:=tk }
  rw [hx'.is,hy'.is]
  rw [hx.is,hy.is] at hq'
  exact hq'
 ·refine wpAny_pure ⟨_,rfl,?_⟩
  obtain⟨ep',he⟩:=sortedHeap_at (out:=out.toArray) hoL
  refine h _ tk h1.objs.size ep' out (λb o q=>?_) (Nat.le_of_lt hlt) he a1 (a2.imp λ{x y} q=>q)
  have q1:=hk b o q
  have hb:b < h1.objs.size:=Heap.lt_size q1
  show (sortedHeap (h1.push (seqObj "list" vs.toArray 0)) h1.objs.size vs out.toArray).get? b=some o
  rw [sortedHeap_old (Nat.ne_of_lt hb) (by rw [size_push'];exact Nat.lt_succ_of_lt hb),Heap.get?_push_ne _ _ _ (Nat.ne_of_lt hb)]
  exact q1
end
noncomputable def mgt (st:Sto) (n:Nat):Option (List (List Int×D)):=match st[n]? with
 | some (.m kvs)=>some kvs
 | _=>none
noncomputable def vM (kvs:List (List Int×D)) (k:List Int):Option D:=(kvs.find? λp=>decide (p.1=k)).map (·.2)
noncomputable def iM (kvs:List (List Int×D)) (k:List Int) (d:D):List (List Int×D):=if (kvs.any λp=>decide (p.1=k))=true then kvs.map λp=>if p.1=k then (p.1,d) else p else kvs++[(k,d)]
noncomputable def vJ:Ef
 | _,st=>some (.h st.length,st++[.m []])
noncomputable def tw (o k:Ef):Ef
 | env,st=>(o env st).bind λx=>(k env x.2).bind λy=>match x.1,y.1 with
 | .h n,.d (.tup ds)=>(mgt y.2 n).bind λkvs=>(dG ds).bind λl=>(vM kvs l).map λd=>(.d d,y.2)
 | _,_=>none
noncomputable def nA (o k v:Ef):Sf
 | env,st=>(v env st).bind λz=>(o env z.2).bind λx=>(k env x.2).bind λy=>match x.1,y.1,z.1 with
 | .h n,.d (.tup ds),.d d=>(mgt y.2 n).bind λkvs=>(dG ds).bind λl=>if kvs.length < 1000 then some (.nx env (y.2.set n (.m (iM kvs l d)))) else none
 | _,_,_=>none
noncomputable def ko (a:Ef):Lf
 | env,st=>(a env st).bind λx=>match x.1 with
 | .h n=>(mgt x.2 n).bind λkvs=>if kvs.length<=64 then some ((cB (kvs.map (·.1))).map ax,x.2) else none
 | _=>none
section
variable {K:PySem.W.Frag}{X:Cx}{pos:Pos}{e a b o f:Expr}{fe fa fb fo ff:Ef}
theorem qK {st:Sto}{n:Nat}{kvs:List (List Int×D)} (h:mgt st n=some kvs):st[n]?=some (.m kvs):=by
 unfold mgt at h
 split at h
 ·rename_i q;cases h;exact q
 ·cases h
theorem Sr.atm {H:Hp}{φ:List Addr}{st:Sto} (S:Sr K H φ st) {n:Nat}{p:Addr}{kvs:List (List Int×D)} (e1:φ[n]?=some p) (e2:mgt st n=some kvs):∃ vs,H p=some (.dT vs)/\Rkv K H φ kvs vs:=S.at_ n p _ e1 (qK e2)
theorem Rkv.length {H:Hp}{φ:List Addr}:∀ {ds:List (List Int×D)}{vs:List (List Key×V)},Rkv K H φ ds vs->ds.length=vs.length
 | [],_,h=>by cases h;rfl
 | (k,d)::ds,_,h=>by
  obtain⟨v,r,rfl,h1,h2⟩:=h
  rw [List.length_cons,List.length_cons,Rkv.length h2]
theorem gB:∀ {a b:List Int},d6 a=d6 b->a=b
 | [],[],_=>rfl
 | [],_::_,h=>by cases h
 | _::_,[],h=>by cases h
 | x::a,y::b,h=>by
  have h':(Sum.inl x:Key)::d6 a=Sum.inl y::d6 b:=h
  injection h' with h1 h2
  injection h1 with h1
  rw [h1,gB h2]
theorem pN (l:List Int):(d6 l).map kV=l.map V.int:=by
 unfold d6
 rw [List.map_map];rfl
theorem Rkv.val {H:Hp}{φ:List Addr}{i:List Int}:∀ {ds:List (List Int×D)}{vs:List (List Key×V)},Rkv K H φ ds vs->(∀ d,vM ds i=some d->∃ v,fq vs (d6 i)=some v/\Rl K H φ d v)/\(vM ds i=none->fq vs (d6 i)=none)
 | [],_,h=>by cases h;exact⟨(λd e=>nomatch e),λ_=>rfl⟩
 | (k,d)::ds,_,h=>by
  obtain⟨v,r,rfl,h1,h2⟩:=h
  have ih:=Rkv.val (i:=i) h2
  by_cases e:k=i
  ·subst e
   have e1:vM ((k,d)::ds) k=some d:=by unfold vM;rw [List.find?_cons_of_pos (by simp)];rfl
   have e2:fq ((d6 k,v)::r) (d6 k)=some v:=by unfold fq;rw [List.find?_cons_of_pos (by simp)];rfl
   rw [e1,e2]
   exact⟨λd' q=>⟨v,rfl,by cases q;exact h1⟩,λq=>nomatch q⟩
  ·have e1:vM ((k,d)::ds) i=vM ds i:=by unfold vM;rw [List.find?_cons_of_neg (by simpa using e)]
   have e2:fq ((d6 k,v)::r) (d6 i)=fq r (d6 i):=by unfold fq;rw [List.find?_cons_of_neg (by simpa using λz=>e (gB z))]
   rw [e1,e2]
   exact ih
theorem Rkv.any {H:Hp}{φ:List Addr}{i:List Int}:∀ {ds:List (List Int×D)}{vs:List (List Key×V)},Rkv K H φ ds vs->(vs.any λp=>decide (p.1=d6 i))=ds.any λp=>decide (p.1=i)
 | [],_,h=>by cases h;rfl
 | (k,d)::ds,_,h=>by
  obtain⟨v,r,rfl,h1,h2⟩:=h
  rw [List.any_cons,List.any_cons,Rkv.any h2]
  congr 1
  exact decide_eq_decide.mpr ⟨λz=>gB z,λz=>congrArg d6 z⟩
theorem Rkv.repl {H:Hp}{φ:List Addr}{i:List Int}{x:D}{y:V} (hx:Rl K H φ x y):∀ {ds:List (List Int×D)}{vs:List (List Key×V)},Rkv K H φ ds vs->Rkv K H φ (ds.map λp=>if p.1=i then (p.1,x) else p) (vs.map λp=>if p.1=d6 i then (p.1,y) else p)
 | [],_,h=>by cases h;exact rfl
 | (k,d)::ds,_,h=>by
  obtain⟨v,r,rfl,h1,h2⟩:=h
  rw [List.map_cons,List.map_cons]
  by_cases e:k=i
  ·rw [if_pos e,if_pos (by rw [e])]
   exact⟨y,_,rfl,hx,Rkv.repl hx h2⟩
  ·rw [if_neg e,if_neg (λz=>e (gB z))]
   exact⟨v,_,rfl,h1,Rkv.repl hx h2⟩
theorem Rkv.snoc {H:Hp}{φ:List Addr}:∀ {ds:List (List Int×D)}{vs:List (List Key×V)}{k:List Int}{d:D}{v:V},Rkv K H φ ds vs->Rl K H φ d v->Rkv K H φ (ds++[(k,d)]) (vs++[(d6 k,v)])
 | [],_,_,_,_,h,hd=>by cases h;exact⟨_,[],rfl,hd,rfl⟩
 | (k,d)::ds,_,_,_,_,h,hd=>by
  obtain⟨v,r,rfl,h1,h2⟩:=h
  exact⟨v,_,rfl,h1,Rkv.snoc h2 hd⟩
theorem Rkv.put {H:Hp}{φ:List Addr}{ds:List (List Int×D)}{vs:List (List Key×V)}{k:List Int}{d:D}{v:V} (h:Rkv K H φ ds vs) (hd:Rl K H φ d v):Rkv K H φ (iM ds k d) (gD vs (d6 k) v):=by
 unfold iM gD
 rw [h.any]
 split
 ·exact h.repl hd
 ·exact h.snoc hd
theorem pM {H:Hp}{φ:List Addr}{ds:List D}{l:List Int}{v:V} (hl:dG ds=some l) (r:Rl K H φ (.tup ds) v):∃ p,v=.ref p/\H p=some (.tup ((d6 l).map kV)):=by
 obtain⟨p,vs,rfl,h1,h2⟩:=r
 cases dP hl
 cases h2.ints
 rw [pN]
 exact⟨p,rfl,h1⟩
theorem vf:IE K X (.Dict [] [] pos) vJ:=by
 refine⟨λenv st r hr=>?_⟩
 cases hr
 refine sF.imp ?_
 rintro σ H Q ⟨φ,hE,hS,q⟩
 exact λp hp=>q _ _ (φ++[p]) (Fw.moreO hp) (hS.moreC hp ⟨[],aW,rfl⟩) ⟨p,by rw [<-hS.len];simp,rfl⟩
theorem xn {k:Nat} (hr0:cg k X.A) (ha:IE K X a fa) (hb:IE K X b fb) (hs:xM b):IE K X (.Subscript a b pos) (tw fa fb):=by
 refine⟨λenv st r hr=>?_⟩
 simp only [tw,Option.bind_eq_some_iff] at hr
 obtain⟨⟨x,s1⟩,hx,⟨y,s2⟩,hy,hr⟩:=hr
 dsimp only at hr
 split at hr
 next n ds=>
  simp only [Option.bind_eq_some_iff,Option.map_eq_some_iff] at hr
  obtain⟨kvs,hk,l,hl,d,hd,rfl⟩:=hr
  refine (u8 (vG hr0) (ha.run _ _ _ hx) (hb.run _ _ _ hy) hs).imp ?_
  rintro σ H Q ⟨φ,hE,hS,q⟩
  refine⟨φ,hE,hS,λv H1 φ1 f1 S1 w1=>⟨φ1,hE.fw hS f1,S1,λu H2 φ2 f2 S2 w2=>?_⟩⟩
  obtain⟨p,ep,rfl⟩:=w1.fw S1 f2
  obtain⟨vs,hv,rl⟩:=S2.atm ep hk
  obtain⟨v2,e2,r2⟩:=rl.val.1 d hd
  obtain⟨b',rfl,hb'⟩:=pM hl w2
  refine⟨p,v2,rfl,?_,q _ H2 φ2 (f1.trans f2) S2 r2⟩
  rw [<-e2]
  exact qu.t hv hb'
 ·cases hr
theorem ud {k:Nat}{tpos:Pos} (hr0:cg k X.A) (ho:IE K X a fa) (hi:IE K X b fb) (hv:IE K X e fe) (hs:swapsWith e (some (.Subscript a b tpos)) pos.line X.env=pure false:=by rfl) :
  IS K X (.Assign [.Subscript a b tpos] e pos) (nA fa fb fe):=by
 refine⟨λenv st r hr=>?_⟩
 simp only [nA,Option.bind_eq_some_iff] at hr
 obtain⟨⟨z,s1⟩,hz,⟨x,s2⟩,hx,⟨y,s3⟩,hy,hr⟩:=hr
 dsimp only at hr
 split at hr
 next n ds d=>
  simp only [Option.bind_eq_some_iff] at hr
  obtain⟨kvs,hk,l,hl,hr⟩:=hr
  split at hr
  ·rename_i hlen
   cases hr
   refine (uq (vG hr0) (ho.run _ _ _ hx) (hi.run _ _ _ hy) (hv.run _ _ _ hz) hs).imp ?_
   rintro D σ H ⟨φ,hE,hS,q⟩
   refine⟨φ,hE,hS,λv H1 φ1 f1 S1 w1=>⟨φ1,hE.fw hS f1,S1,λu H2 φ2 f2 S2 w2=>⟨φ2,(hE.fw hS f1).fw S1 f2,S2,λt H3 φ3 f3 S3 w3=>?_⟩⟩⟩
   obtain⟨p,ep,rfl⟩:=w2.fw S2 f3
   obtain⟨vs,hp,rl⟩:=S3.atm ep hk
   obtain⟨b',rfl,hb'⟩:=pM hl w3
   have w1':=Rl.fw S2 f3 (Rl.fw S1 f2 w1)
   obtain⟨f4,S4⟩:=S3.putC (o:=.dT (gD vs (d6 l) v)) (c:=.m (iM kvs l d)) ep λf=>⟨_,aW,(rl.put w1').fw S3 f⟩
   refine⟨p,_,rfl,qL.t hp hb' (by rw [<-rl.length];exact Nat.lt_of_lt_of_le hlen (by rw [sizeLine_eq];decide)),?_⟩
   exact q _ _ φ3 (((f1.trans f2).trans f3).trans f4) (((((hE.fw hS f1).fw S1 f2).fw S2 f3)).fw S3 f4) S4
  ·cases hr
 ·cases hr
theorem pJ {H:Hp}{φ:List Addr}:∀ {kvs:List (List Int×D)}{vs:List (List Key×V)}{xs:List (List Key×Addr×Value)},Rkv K H φ kvs vs->KT H vs xs->
  Rls K H φ ((kvs.map (·.1)).map ax) (xs.map λx=>V.ref x.2.1)/\aA (xs.map λx=>V.ref x.2.1) (xs.map λx=>Value.ref x.2.1)
 | [],_,_,h,t=>by cases h;cases t;exact⟨rfl,.nil⟩
 | (k,d)::kvs,_,_,h,t=>by
  obtain⟨v,r,rfl,h1,h2⟩:=h
  cases t with
  | cons q t=>
   rename_i x xs
   obtain⟨i1,i2⟩:=pJ h2 t
   have e:H x.2.1=some (.tup (k.map V.int)):=by rw [<-pN];exact q.2.1
   exact⟨⟨_,_,rfl,⟨x.2.1,k.map V.int,rfl,e,Rls.of_ints k⟩,i1⟩,.cons rfl i2⟩
theorem qE {k:Nat}{p:Pos} (hr0:cg k X.A) (hg:Gl X "sorted") (hm:X.mg "sorted" = none) (ha:IE K X a fa) (hc:X.calm=true:=by rfl) (hs:aE a=true:=by rfl) (hK:X.K=K:=by rfl):IL K X (.Call (.Name "sorted" p) [a] [] pos) (ko fa):=by
 subst hK
 refine⟨λenv st r hr=>?_⟩
 simp only [ko,Option.bind_eq_some_iff] at hr
 obtain⟨⟨x,s1⟩,hx,hr⟩:=hr
 match x,hr with
 | .h n,hr=>
  simp only [Option.bind_eq_some_iff] at hr
  obtain⟨kvs,hk,hr⟩:=hr
  split at hr
  ·rename_i hl
   cases hr
   have hA:=(ab (K:=X.K) (X:=X) ha ag hs).run env st ([.h n],s1) (by simp only [aa,ai,hx,Option.bind_some,Option.map_some])
   have hC:cz X (.builtin "sorted") (λxs H Q=>∃ φ q,Sr X.K H φ s1/\φ[n]?=some q/\xs=[.ref q]/\∀ l us,H l=none->Rls X.K H φ ((cB (kvs.map (·.1))).map ax) us->Q (.ref l) (upd H l (.lst us))):=by
    intro pins s σ H xs us Q I rv q
    obtain⟨φ,ad,S,ead,rfl,q⟩:=q
    obtain⟨u,rfl,ru⟩:=fT rv
    cases ru
    obtain⟨vs,hv,rl⟩:=S.atm ead hk
    obtain⟨z',hd,xs,rel,o,es,ep,g1,g2,g3,g4,g5,g6⟩:=vO I.hok hv
    obtain⟨b1,b2⟩:=pJ rl rel
    have hlen:xs.length<=64:=by
     have e1:=rel.length
     have e2:=rl.length
     lia
    have hkeys:es.toList.map (·.key)=xs.map λx=>Value.ref x.2.1:=by rw [g4,List.map_map];rfl
    obtain⟨m1,m2⟩:=mW I b1 b2
    have hun:X.A.in1.in1.units < cLine:=by
     have:=hr0.un
     show X.A.units+1+1 < cLine
     lia
    refine ow hd ⟨o,g1,g2,g3⟩ (I.ok.hd hc) hkeys (by rw [List.length_map];exact hlen) hun (λv hv=>⟨_,(m2 v hv).1⟩) λh' tk p ep' out hkeep hp he a1 a2=>?_
    have hn:H p=none:=I.hok.fresh hp
    have ho:=λu hu=>m2 u (a1.mem_iff.mp hu)
    obtain⟨c1,c2⟩:=nj (K:=X.K) (H:=H) (φ:=φ) ho
    have hpm:(out.map (tuI s.heap)).Perm (kvs.map (·.1)):=by
     have:=a1.map (tuI s.heap)
     rw [m1] at this;exact this
    have hsrt:(out.map (tuI s.heap)).Pairwise leL:=by
     rw [List.pairwise_map]
     exact a2.imp λ{x y} q=>q
    have e:out.map (tuI s.heap)=cB (kvs.map (·.1)):=lL (hpm.trans (dS _).symm) hsrt (d7 _)
    have e2:(out.map λu=>ax (tuI s.heap u))=(cB (kvs.map (·.1))).map ax:=by rw [<-e,List.map_map];rfl
    rw [e2] at c1
    have hlay:Inv X pins σ (upd H p (.lst (out.map toV))) { s with heap:=h',toks:=tk }:=by
     refine I.laid (t':=tk) (a:=p) (o:=.lst (out.map toV)) hkeep hp ⟨?_,out,ep',c2,by simpa [seqObj] using he⟩
     rw [List.length_map,a1.length_eq,List.length_map];exact i3 (by lia)
    exact⟨.ref p,_,hlay,rfl,q p _ hn c1⟩
   refine (nV hC hg hm PyProof.Rows.boot_sorted hA (by decide) (by decide) (bz hs) (cp (es:=[]) rfl)).imp ?_
   rintro σ H Q ⟨φ,hE,hS,q⟩
   refine⟨φ,hE,hS,λvs H1 φ1 f1 S1 w1=>?_⟩
   obtain⟨v,r,rfl,⟨ad,ead,rfl⟩,rfl⟩:=w1
   exact⟨φ1,ad,S1,ead,rfl,λl us hl' hr'=>q l _ H1 φ1 f1 S1 hl' hr'⟩
  ·cases hr
end
end L2
namespace L2
open PySem PySem.Spec PyProof.Rows
mutual
noncomputable def toP:D->PyData
 | .non=>.none
 | .bl b=>.bool b
 | .int i=>.int i
 | .str x=>.str x
 | .tup ds=>.tuple (ge ds)
 | .lst ds=>.list (ge ds)
 | _=>.none
noncomputable def ge:List D->List PyData
 | []=>[]
 | d::ds=>toP d::ge ds
end
mutual
noncomputable def rpD:D->Bool
 | .non=>true
 | .bl _=>true
 | .int i=>decide (i.natAbs.log2 < 1920)
 | .str _=>true
 | .tup ds=>gI ds
 | .lst ds=>gI ds
 | _=>false
noncomputable def gI:List D->Bool
 | []=>true
 | d::ds=>rpD d && gI ds
end
mutual
noncomputable def wtD:D->Nat
 | .non=>10
 | .bl _=>10
 | .int _=>2000
 | .str x=>(reprText x).length
 | .tup ds=>jw ds+5
 | .lst ds=>jw ds+5
 | _=>0
noncomputable def jw:List D->Nat
 | []=>0
 | d::ds=>wtD d+2+jw ds
end
mutual
noncomputable def dpD:D->Nat
 | .tup ds=>jH ds+1
 | .lst ds=>jH ds+1
 | _=>1
noncomputable def jH:List D->Nat
 | []=>0
 | d::ds=>max (dpD d) (jH ds)
end
noncomputable def ip (st:Sto):List W->Option D
 | [w]=>match w with
  | .d d=>if rpD d=true/\wtD d<=16000000/\dpD d<=50 then some (.str (toP d).shown) else none
  | .h _=>none
 | _=>none
theorem iE:∀ (ts:List Str) (k:Nat) (acc:Str),(textFrom k acc ts).length<=acc.length+piled ts
 | [],k,acc=>by show acc.length<=_;lia
 | t::r,k,acc=>by
  have h:=iE r (k+1) (acc++(if k > 0 then ", " else "" : String)++t)
  have e:(acc++(if k > 0 then ", " else "" : String)++t).length<=acc.length+2+t.length:=by
   rw [strLen_append,strLen_append]
   have:((if k > 0 then ", " else "" : String):Str).length<=2:=by split<;>decide
   lia
  rw [piled_cons]
  show (textFrom (k+1) _ r).length<=_
  lia
theorem tB (ts:List Str):(tupleText ts).length<=piled ts+3:=by
 have hz:(Str.join ", " ts).length<=piled ts:=by
  cases ts with
  | nil=>exact Nat.zero_le _
  | cons x r=>
   have:=join_length_add (x::r) (by simp)
   lia
 unfold tupleText
 rw [strLen_append,strLen_append]
 have h2:((if ts.length==1 then ",)" else ")" : String):Str).length<=2:=by split<;>decide
 have h1:((("(" : String):Str)).length=1:=rfl
 lia
theorem tU (ts:List Str):(listText ts).length<=piled ts+2:=by
 have h:=iE ts 0 "["
 unfold listText
 rw [strLen_append]
 have h1:((("[" : String):Str)).length=1:=rfl
 have h2:((("]" : String):Str)).length=1:=rfl
 lia
mutual
theorem nU:∀ d:D,rpD d=true->(toP d).shown.length<=wtD d
 | .non,_=>by rw [toP,wtD];decide
 | .bl b,_=>by rw [toP,wtD];cases b<;>decide
 | .int i,h=>by
  rw [rpD,decide_eq_true_eq] at h
  rw [toP,wtD,PyData.shown]
  have:=int_text_length_le (k:=1920) (by decide) h
  rw [PySem.ofString_length]
  lia
 | .str x,_=>by rw [toP,wtD,PyData.shown];exact Nat.le_refl _
 | .tup ds,h=>by
  rw [rpD] at h
  rw [toP,wtD,PyData.shown]
  have:=gX ds h
  have:=tB (PyData.shownAll (ge ds))
  lia
 | .lst ds,h=>by
  rw [rpD] at h
  rw [toP,wtD,PyData.shown]
  have:=gX ds h
  have:=tU (PyData.shownAll (ge ds))
  lia
 | .ty _,h=>by simp [rpD] at h
 | .dct,h=>by simp [rpD] at h
 | .scr _,h=>by simp [rpD] at h
theorem gX:∀ ds:List D,gI ds=true->piled (PyData.shownAll (ge ds))<=jw ds
 | [],_=>by rw [ge,jw,PyData.shownAll];exact Nat.le_refl _
 | d::ds,h=>by
  rw [gI,Bool.and_eq_true] at h
  rw [ge,jw,PyData.shownAll,piled_cons]
  have:=nU d h.1
  have:=gX ds h.2
  lia
end
mutual
theorem pG:∀ d:D,rpD d=true->(toP d).showable=true/\(toP d).hasDict=false/\(toP d).depth<=dpD d
 | .non,_=>⟨rfl,rfl,by decide⟩
 | .bl b,_=>⟨rfl,rfl,by rw [toP,PyData.depth];exact Nat.zero_le _⟩
 | .int i,h=>by
  rw [rpD] at h
  rw [toP]
  exact⟨h,rfl,by rw [PyData.depth];exact Nat.zero_le _⟩
 | .str x,_=>⟨rfl,rfl,by rw [toP,PyData.depth];exact Nat.zero_le _⟩
 | .tup ds,h=>by
  rw [rpD] at h
  rw [toP,dpD,PyData.showable,PyData.hasDict,PyData.depth]
  obtain⟨a,b,c⟩:=jr ds h
  exact⟨a,b,by lia⟩
 | .lst ds,h=>by
  rw [rpD] at h
  rw [toP,dpD,PyData.showable,PyData.hasDict,PyData.depth]
  obtain⟨a,b,c⟩:=jr ds h
  exact⟨a,b,by lia⟩
 | .ty _,h=>by simp [rpD] at h
 | .dct,h=>by simp [rpD] at h
 | .scr _,h=>by simp [rpD] at h
theorem jr:∀ ds:List D,gI ds=true->PyData.showableAll (ge ds)=true/\PyData.hasDictAll (ge ds)=false/\PyData.depthAll (ge ds)<=jH ds
 | [],_=>by rw [ge,jH];exact⟨rfl,rfl,by simp [PyData.depthAll]⟩
 | d::ds,h=>by
  rw [gI,Bool.and_eq_true] at h
  obtain⟨a,b,c⟩:=pG d h.1
  obtain⟨a',b',c'⟩:=jr ds h.2
  rw [ge,jH,PyData.showableAll,PyData.hasDictAll,PyData.depthAll,a,b,a',b']
  exact⟨rfl,rfl,by lia⟩
end
section
variable {K:PySem.W.Frag}{X:Cx}{pins:List (Addr×Obj)}{σ:St}{H:Hp}{s:Shared}{φ:List Addr}
mutual
theorem nQ (I:Inv X pins σ H s):∀ (d:D) (v:V) (u:Value),rpD d=true->Rl X.K H φ d v->az v u->∃ as,Reads s.heap u (toP d) as
 | .non,v,u,_,r,q=>by cases (show v=.non from r);cases q;exact⟨_,by rw [toP];exact .none⟩
 | .bl b,v,u,_,r,q=>by cases (show v=.bl b from r);cases q;exact⟨_,by rw [toP];exact .bool b⟩
 | .int i,v,u,_,r,q=>by cases (show v=.int i from r);obtain⟨t,rfl⟩:=q;exact⟨_,by rw [toP];exact .int i t⟩
 | .str x,v,u,_,r,q=>by cases (show v=.str x from r);obtain⟨t,rfl⟩:=q;exact⟨_,by rw [toP];exact .str x t⟩
 | .tup ds,v,u,h,r,q=>by
  rw [rpD] at h
  obtain⟨a,vs,rfl,h1,h2⟩:=r
  cases q
  obtain⟨its,rv,⟨o,ho,hc,n,hd⟩,_⟩:=I.tuple (SqT.of h1)
  obtain⟨as,ra⟩:=ic I ds vs its h h2 rv
  exact⟨as,by rw [toP];exact .tuple ho hc hd (by simpa using ra)⟩
 | .lst ds,v,u,h,r,q=>by
  rw [rpD] at h
  obtain⟨a,vs,rfl,_,h1,h2⟩:=r
  cases q
  obtain⟨its,rv,⟨o,n,ho,hc,hdd,hd⟩,_⟩:=I.list (.inl h1)
  obtain⟨as,ra⟩:=ic I ds vs its h h2 rv
  exact⟨a::as,by rw [toP];exact .list ho hc hd (by simpa using ra)⟩
 | .ty _,_,_,h,_,_=>by simp [rpD] at h
 | .dct,_,_,h,_,_=>by simp [rpD] at h
 | .scr _,_,_,h,_,_=>by simp [rpD] at h
theorem ic (I:Inv X pins σ H s):∀ (ds:List D) (vs:List V) (us:List Value),gI ds=true->Rls X.K H φ ds vs->aA vs us->∃ as,ReadsAll s.heap us (ge ds) as
 | [],vs,us,_,r,q=>by cases r;cases q;exact⟨[],by rw [ge];exact .nil⟩
 | d::ds,vs,us,h,r,q=>by
  rw [gI,Bool.and_eq_true] at h
  obtain⟨v,r',rfl,h1,h2⟩:=r
  cases q with
  | cons q1 q2=>
   obtain⟨as,a1⟩:=nQ I d v _ h.1 h1 q1
   obtain⟨bs,a2⟩:=ic I ds r' _ h.2 h2 q2
   exact⟨as++bs,by rw [ge];exact .cons a1 a2⟩
end
end
noncomputable def rX (st:Sto):List W->Option D
 | [.d (.tup ds)]=>ip st [.d (.tup ds)]
 | [.d (.lst ds)]=>ip st [.d (.lst ds)]
 | _=>none
theorem sR {K:PySem.W.Frag}{X:Cx}{k:Nat} (hr:cg k X.A) (hK:X.K=K:=by rfl):eF K X (.builtin "repr") rX:=by
 subst hK
 refine⟨λst ws d h=>?_⟩
 have key:∀ x:D,(∀ (H:Hp) (φ:List Addr) v,Rl X.K H φ x v->∃ a,v=.ref a)->ip st [.d x]=some d->cz X (.builtin "repr") (rCD X.K st [.d x] d):=by
  intro x hx h
  simp only [ip] at h
  split at h
  ·rename_i hc
   cases h
   intro pins s σ H xs us Q I rv q
   obtain⟨φ,S,⟨v,r,rfl,r1,rfl⟩,q⟩:=q
   obtain⟨u,rfl,ru⟩:=fT rv
   obtain⟨as,rd⟩:=nQ I x v u hc.1 r1 ru
   obtain⟨a,rfl⟩:=hx H φ v r1
   cases ru
   obtain⟨b1,b2,b3⟩:=pG x hc.1
   have hl:=nU x hc.1
   have hun:=hr.units
   refine repr_of_reads' rd b1 (PyData.noDict_hsm b2) hr.gd (by lia) (λ_ _ e=>e) (λh' u tk hk=>⟨.str _,H,I.kept (t':=tk) hk,⟨u,rfl⟩,q _ H (aY.refl H) rfl⟩) ?_
   rw [sizeLine_eq];lia
  ·cases h
 match ws,h with
 | [.d (.tup ds)],h=>exact key (.tup ds) (λH φ v ⟨a,vs,e,_⟩=>⟨a,e⟩) h
 | [.d (.lst ds)],h=>exact key (.lst ds) (λH φ v ⟨a,vs,e,_⟩=>⟨a,e⟩) h
end L2
namespace L2
open PySem PySem.Spec PyProof.Rows
section
variable {K:PySem.W.Frag}{X:Cx}
end
end L2
namespace L2
open PySem PySem.Spec PyProof.Rows
theorem mi (n:Nat) (d:Nat) (hd:d<=n) (o:Option Int):HT.sIx n d o<=n:=by
 cases o with
 | none=>exact hd
 | some i=>unfold HT.sIx;split<;>lia
noncomputable def iP (z:Str) (lo hi:Option Int):Str:=⟨((z.cps.toList.drop (HT.sIx z.length 0 lo)).take (HT.sIx z.length z.length hi - HT.sIx z.length 0 lo)).toArray⟩
theorem sY (lo hi:Option Int) (n:Nat):Builtin.Str.strSliceIndices lo hi 1 n=sliceRange ((HT.sIx n 0 lo:Nat):Int) ((HT.sIx n n hi:Nat):Int) 1:=by
 unfold Builtin.Str.strSliceIndices
 dsimp only
 simp only [show (1:Int) > 0 by decide,if_true]
 congr 1
 ·cases lo with
  | none=>simp [HT.sIx]
  | some i=>
   simp only [HT.sIx]
   by_cases h:i < 0
   ·simp only [h,if_true]<;>lia
   ·simp only [h,if_false]<;>lia
 ·cases hi with
  | none=>simp [HT.sIx]
  | some i=>
   simp only [HT.sIx]
   by_cases h:i < 0
   ·simp only [h,if_true]<;>lia
   ·simp only [h,if_false]<;>lia
theorem pR (z:Str) (lo hi:Option Int):Txt.slice z lo hi=iP z lo hi:=by
 have h1:=mi z.length 0 (Nat.zero_le _) lo
 have h2:=mi z.length z.length (Nat.le_refl _) hi
 unfold Txt.slice iP
 rw [sY,sliceRange_one]
 generalize HT.sIx z.length 0 lo=a at *
 generalize HT.sIx z.length z.length hi=b at *
 split
 ·rename_i hc
  have hl:b - a=z.length:=by simpa using hc
  have ha:a=0:=by lia
  subst ha
  have hz:z.length=z.cps.toList.length:=by simp [Str.length]
  rw [hl,hz,List.drop_zero,List.take_length]
 ·rw [pick_run]
noncomputable def zM:V->Option Int->Option Int->Hp->VK->Prop:=λx lo hi H Q=>∃ z,x=.str z/\z.length<=sizeLine/\Q (.str (iP z lo hi)) H
section
variable {K:PySem.W.Frag}{X:Cx}{pos p2:Pos}{a e:Expr}{f fa:Ef}{af:Af}
theorem wF:SlR X zM:=by
 intro pins s σ H x v vl vu lo hi sl Q I rx hs pl pu h
 obtain⟨z,rfl,hz,q⟩:=h
 obtain⟨t,rfl⟩:=rx
 refine⟨"str",_,PySem.F.slot_str_getitem.lookup,typeIs_str _ _ _,?_⟩
 have key:∀ (l u:Option (Int×Tok)),vl=partValue l->vu=partValue u->lo=l.map (·.1)->hi=u.map (·.1)->wpAny (model X.prog X.w) X.A (getItem (.str z t) (.ref sl)) (EP X pins σ Q) X.xe s:=by
  rintro l u rfl rfl rfl rfl
  rw [<-pR] at q
  exact wpAny_getItem_str_slice (l:=l) (u:=u) (st:=none) hs rfl (post_val_or_str ⟨Nat.le_trans (Txt.slice_le z _ _) hz,λt' k=>⟨.str _,H,I.tok k,⟨_,rfl⟩,q⟩⟩)
 cases pl with
 | none=>cases pu with
  | none=>exact key none none rfl rfl rfl rfl
  | int j u=>exact key none (some (j,u)) rfl rfl rfl rfl
 | int i t=>cases pu with
  | none=>exact key (some (i,t)) none rfl rfl rfl rfl
  | int j u=>exact key (some (i,t)) (some (j,u)) rfl rfl rfl rfl
noncomputable def gZ (f:Ef) (lo hi:Pf):Ef
 | env,st=>(f env st).bind λx=>(lo env x.2).bind λl=>(hi env l.2).bind λu=>match x.1 with
 | .d (.str z)=>if z.length<=1000000 then some (.d (.str (iP z l.1 u.1)),u.2) else none
 | _=>none
theorem mz {lo hi:Option Expr}{fl fh:Pf} (h:IE K X e f) (hl:IO K X lo fl) (hh:IO K X hi fh) (hK:X.K=K:=by rfl):IE K X (.Subscript e (.Slice lo hi none p2) pos) (gZ f fl fh):=by
 subst hK
 refine⟨λenv st r hr=>?_⟩
 simp only [gZ,Option.bind_eq_some_iff] at hr
 obtain⟨⟨x,s1⟩,hx,l,hl',u,hu',hr⟩:=hr
 match x,hr with
 | .d (.str z),hr=>
  dsimp only at hr
  by_cases hz:z.length<=1000000
  case neg=>rw [if_neg hz] at hr;cases hr
  rw [if_pos hz] at hr
  cases hr
  refine (jL wF (h.run _ _ _ hx) (hl.run _ _ _ hl') (hh.run _ _ _ hu')).imp ?_
  rintro σ H Q ⟨φ,hE,hS,q⟩
  refine⟨φ,hE,hS,λv H1 φ1 f1 s1 w1=>⟨φ1,hE.fw hS f1,s1,λH2 φ2 f2 s2=>⟨φ2,(hE.fw hS f1).fw s1 f2,s2,λH3 φ3 f3 s3=>?_⟩⟩⟩
  exact⟨z,w1,by rw [sizeLine_eq];lia,q _ _ φ3 ((f1.trans f2).trans f3) s3 rfl⟩
noncomputable def iTm (g:Str->Str->Option D) (o:Ef) (a:Af):Ef
 | env,st=>(o env st).bind λx=>(a env x.2).bind λr=>match x.1,r.1 with
 | .d (.str s),[.d (.str t)]=>(g s t).map λd=>(.d d,r.2)
 | _,_=>none
noncomputable def rTm (g:Str->Str->Option D):V->List V->Hp->VK->Prop:=λx xs H Q=>∃ z y d v,x=.str z/\xs=[.str y]/\g z y=some d/\sj d=some v/\Q v H
theorem vI {apos:Pos}{name:Str}{id:String}{g:Str->Str->Option D} (slot:Slot "str" name id) (hty:typeOf (.builtin id)=pure (.type "method_descriptor")) (hm:MtR X id (rTm g)) (hf:∀ x y d,g x y=some d->∃ v,sj d=some v)
  (ho:IE K X a fa) (ha:IA K X [e] af) (hbase:attributeBase a name X.env (eval a X.env)=eval a X.env:=by rfl)
  (hall:[e].all aE=true:=by rfl) (hline:(apos.endLine==pos.line)=true:=by rfl) (hK:X.K=K:=by rfl) :
  IE K X (.Call (.Attribute a name apos) [e] [] pos) (iTm g fa af):=by
 subst hK
 have hall2:aE e=true:=by rw [List.all_cons,Bool.and_eq_true] at hall;exact hall.1
 refine⟨λenv st r hr'=>?_⟩
 simp only [iTm,Option.bind_eq_some_iff] at hr'
 obtain⟨⟨x,s1⟩,hx,⟨ws,s2⟩,hw,hr'⟩:=hr'
 match x,ws,hr' with
 | .d (.str z),[.d (.str y)],hr'=>
  obtain⟨d,hd,rfl⟩:=Option.map_eq_some_iff.mp hr'
  obtain⟨v,hv⟩:=hf _ _ _ hd
  refine (pE PySem.F.plainAttrs_str slot hty hm (ho.run _ _ _ hx) (ha.run _ _ _ hw) hbase (gK hall (by show 1 < 30;decide)) hline (bz hall2) (cp rfl)).imp ?_
  rintro σ H Q ⟨φ,hE,hS,q⟩
  refine⟨φ,hE,hS,λv' H1 φ1 f1 S1 w1=>?_⟩
  have w1:v'=.str z:=w1
  subst w1
  refine⟨rfl,φ1,hE.fw hS f1,S1,λus H2 φ2 f2 S2 w2=>?_⟩
  obtain⟨y',us',rfl,ry,rfl⟩:=w2
  have ry:y'=.str y:=ry
  subst ry
  exact⟨z,y,d,v,rfl,rfl,hd,hv,q _ H2 φ2 (f1.trans f2) S2 (uR hv)⟩
noncomputable def nF (x y:Str):Option D:=some (.int (Txt.find x y))
theorem uc:MtR X "str.find" (rTm nF):=by
 intro pins s σ H x xs v us Q I rx rv h
 obtain⟨z,y,d,v',rfl,rfl,hd,hv,q⟩:=h
 cases hd
 cases hv
 obtain⟨t,rfl⟩:=rx
 obtain⟨u,rfl,ru⟩:=rv.one
 obtain⟨t2,rfl⟩:=ru
 exact call_gives PySem.F.slot_str_find (typeIs_str _ _ _) PySem.F.entry_str_find (PySem.F.args_str_find_2 _ _) (gives_str_find z y t t2) ⟨.int _,H,I.tok _,⟨_,rfl⟩,q⟩
theorem qz:∀ x y d,nF x y=some d->∃ v,sj d=some v:=λx y d h=>by cases h;exact⟨_,rfl⟩
noncomputable def dQ (x y:Str):Option D:=if x.length<=1000000 then some (.str (Txt.rstripChars x y)) else none
theorem qi:MtR X "str.rstrip" (rTm dQ):=by
 intro pins s σ H x xs v us Q I rx rv h
 obtain⟨z,y,d,v',rfl,rfl,hd,hv,q⟩:=h
 unfold dQ at hd
 split at hd
 ·rename_i hz
  cases hd
  cases hv
  obtain⟨t,rfl⟩:=rx
  obtain⟨u,rfl,ru⟩:=rv.one
  obtain⟨t2,rfl⟩:=ru
  exact SC.rstripChars (λt' k=>⟨.str _,H,I.tok k,⟨_,rfl⟩,q⟩) (by rw [sizeLine_eq];lia)
 ·cases hd
theorem n5:∀ x y d,dQ x y=some d->∃ v,sj d=some v:=λx y d h=>by
 unfold dQ at h
 split at h
 ·cases h;exact⟨_,rfl⟩
 ·cases h
noncomputable def iZf (o:Ef) (a:Af):Ef
 | env,st=>(o env st).bind λx=>(a env x.2).bind λr=>match x.1,r.1 with
 | .d (.str s),[.d (.int i)]=>if PadOk i=true then some (.d (.str (Txt.zfill s i)),r.2) else none
 | _,_=>none
noncomputable def rZf:V->List V->Hp->VK->Prop:=λx xs H Q=>∃ z i,x=.str z/\xs=[.int i]/\PadOk i=true/\Q (.str (Txt.zfill z i)) H
theorem yY:MtR X "str.zfill" rZf:=by
 intro pins s σ H x xs v us Q I rx rv h
 obtain⟨z,i,rfl,rfl,hp,q⟩:=h
 obtain⟨t,rfl⟩:=rx
 obtain⟨u,rfl,ru⟩:=rv.one
 obtain⟨t2,rfl⟩:=ru
 exact SC.zfill hp λt' k=>⟨.str _,H,I.tok k,⟨_,rfl⟩,q⟩
theorem yx {apos:Pos} (ho:IE K X a fa) (ha:IA K X [e] af) (hbase:attributeBase a "zfill" X.env (eval a X.env)=eval a X.env:=by rfl)
  (hall:[e].all aE=true:=by rfl) (hline:(apos.endLine==pos.line)=true:=by rfl) (hK:X.K=K:=by rfl) :
  IE K X (.Call (.Attribute a "zfill" apos) [e] [] pos) (iZf fa af):=by
 subst hK
 have hall2:aE e=true:=by rw [List.all_cons,Bool.and_eq_true] at hall;exact hall.1
 refine⟨λenv st r hr'=>?_⟩
 simp only [iZf,Option.bind_eq_some_iff] at hr'
 obtain⟨⟨x,s1⟩,hx,⟨ws,s2⟩,hw,hr'⟩:=hr'
 match x,ws,hr' with
 | .d (.str z),[.d (.int i)],hr'=>
  dsimp only at hr'
  by_cases hp:PadOk i=true
  case neg=>rw [if_neg hp] at hr';cases hr'
  rw [if_pos hp] at hr'
  cases hr'
  refine (pE PySem.F.plainAttrs_str PySem.F.slot_str_zfill PySem.F.type_str_zfill yY (ho.run _ _ _ hx) (ha.run _ _ _ hw) hbase (gK hall (by show 1 < 30;decide)) hline (bz hall2) (cp rfl)).imp ?_
  rintro σ H Q ⟨φ,hE,hS,q⟩
  refine⟨φ,hE,hS,λv' H1 φ1 f1 S1 w1=>?_⟩
  have w1:v'=.str z:=w1
  subst w1
  refine⟨rfl,φ1,hE.fw hS f1,S1,λus H2 φ2 f2 S2 w2=>?_⟩
  obtain⟨y',us',rfl,ry,rfl⟩:=w2
  have ry:y'=.int i:=ry
  subst ry
  exact⟨z,i,rfl,rfl,hp,q _ H2 φ2 (f1.trans f2) S2 rfl⟩
noncomputable def rq (o:Ef) (a:Af):Ef
 | env,st=>(o env st).bind λx=>(a env x.2).bind λr=>match x.1,r.1 with
 | .d (.str s),[.d (.str c)]=>if s.length<=100000/\c.length=1/\(Txt.split s c).length<=100000/\(Builtin.Str.partsBetween s (Builtin.Str.occurrences s c 0 s.length (s.length+1)) c.length).length<=100000 then some (.d (.lst ((Txt.split s c).map D.str)),r.2) else none
 | _,_=>none
noncomputable def zV (X:Cx):V->List V->Hp->VK->Prop:=λx xs H Q=>∃ s c,x=.str s/\xs=[.str c]/\s.length<=100000/\c.length=1/\(Txt.split s c).length<=100000/\(Builtin.Str.partsBetween s (Builtin.Str.occurrences s c 0 s.length (s.length+1)) c.length).length<=100000/\∀ l,H l=none->Q (.ref l) (upd H l (.lst ((Txt.split s c).map V.str)))
theorem iu:∀ (l:List (Str×Tok)),aA ((l.map (·.1)).map V.str) (strValues l)
 | []=>.nil
 | (x,t)::l=>.cons ⟨t,rfl⟩ (iu l)
theorem oG {prog:Program}{w:World}{A:Around}{E:Value->Shared->Prop}{s:Shared}{x y:Str}{t u:Tok}{Q:Value->Shared->Prop} (hy:(y.length==0)=false)
  (hq:∀ l k,l.map (·.1)=Txt.split x y->Q (.ref s.heap.objs.size) { s with heap:=s.heap.push { cls:=.type "list",data:=.seq (strValues l).toArray },toks:=k })
  (hsz:x.length<=sizeLine) (hsz2:(Builtin.Str.partsBetween x (Builtin.Str.occurrences x y 0 x.length (x.length+1)) y.length).length<=sizeLine) :
  wpAny (model prog w) A (call (.builtin "str.split") [.str x t,.str y u]) Q E s:=by
 cases h1:(decide (x.length < y.length) || decide (Builtin.Str.strKind x < Builtin.Str.strKind y))
 ·cases hf:(Builtin.Str.occurrences x y 0 x.length (x.length+1)).isEmpty
  ·refine call_meets PySem.F.slot_str_split (typeIs_str _ _ _) PySem.F.entry_str_split (PySem.F.args_str_split_2 _ _) (meets_str_split_sep x y t u h1 hy hf hsz hsz2) ?_
   show wants Q E _ { s with toks:=_,heap:=s.heap.push { cls:=.type "list",data:=.seq (strsFrom s.toks (Builtin.Str.partsBetween x (Builtin.Str.occurrences x y 0 x.length (x.length+1)) y.length)).toArray } }
   rw [strsFrom_eq]
   exact hq (numbered s.toks _) _ ((numbered_texts _ _).trans ((if_neg (ne_true_of_eq_false h1)).trans (if_neg (ne_true_of_eq_false hf))).symm)
  ·exact call_meets PySem.F.slot_str_split (typeIs_str _ _ _) PySem.F.entry_str_split (PySem.F.args_str_split_2 _ _) (meets_str_split_not_found x y t u h1 hy hf)
    (hq [(x,t)] s.toks ((if_neg (ne_true_of_eq_false h1)).trans (if_pos hf)).symm)
 ·exact call_meets PySem.F.slot_str_split (typeIs_str _ _ _) PySem.F.entry_str_split (PySem.F.args_str_split_2 _ _) (meets_str_split_cannot_occur x y t u h1)
   (hq [(x,t)] s.toks (if_pos h1).symm)
theorem xp:MtR X "str.split" (zV X):=by
 intro pins s σ H x xs v us Q I rx rv h
 obtain⟨z,c,rfl,rfl,h1,h2,h3,h4,q⟩:=h
 obtain⟨t,rfl⟩:=rx
 obtain⟨u,rfl,ru⟩:=rv.one
 obtain⟨t2,rfl⟩:=ru
 refine oG (by rw [h2];rfl) (λl k hl=>?_) (by rw [sizeLine_eq];lia) (by rw [sizeLine_eq];lia)
 refine⟨.ref s.heap.objs.size,_,I.laid (t':=k) (o:=.lst ((Txt.split z c).map V.str)) (λb ob q=>Heap.get?_push_of_some _ q) (Nat.le_refl _) ⟨by rw [List.length_map,sizeLine_eq];lia,strValues l,0,?_,Heap.get?_push_size _ rfl⟩,rfl,q _ (I.hok.fresh (Nat.le_refl _))⟩
 rw [<-hl]
 exact iu l
theorem nH {H:Hp}{φ:List Addr}:∀ (xs:List Str),Rls K H φ (xs.map D.str) (xs.map V.str)
 | []=>rfl
 | x::xs=>⟨_,_,rfl,rfl,nH xs⟩
theorem xu {apos:Pos} (ho:IE K X a fa) (ha:IA K X [e] af) (hbase:attributeBase a "split" X.env (eval a X.env)=eval a X.env:=by rfl)
  (hall:[e].all aE=true:=by rfl) (hline:(apos.endLine==pos.line)=true:=by rfl) (hK:X.K=K:=by rfl) :
  IE K X (.Call (.Attribute a "split" apos) [e] [] pos) (rq fa af):=by
 subst hK
 have hall2:aE e=true:=by rw [List.all_cons,Bool.and_eq_true] at hall;exact hall.1
 refine⟨λenv st r hr'=>?_⟩
 simp only [rq,Option.bind_eq_some_iff] at hr'
 obtain⟨⟨x,s1⟩,hx,⟨ws,s2⟩,hw,hr'⟩:=hr'
 match x,ws,hr' with
 | .d (.str z),[.d (.str c)],hr'=>
  dsimp only at hr'
  split at hr'
  ·rename_i hp
   cases hr'
   refine (pE PySem.F.plainAttrs_str PySem.F.slot_str_split PySem.F.type_str_split xp (ho.run _ _ _ hx) (ha.run _ _ _ hw) hbase (gK hall (by show 1 < 30;decide)) hline (bz hall2) (cp rfl)).imp ?_
   rintro σ H Q ⟨φ,hE,hS,q⟩
   refine⟨φ,hE,hS,λv' H1 φ1 f1 S1 w1=>?_⟩
   have w1:v'=.str z:=w1
   subst w1
   refine⟨rfl,φ1,hE.fw hS f1,S1,λus H2 φ2 f2 S2 w2=>?_⟩
   obtain⟨y',us',rfl,ry,rfl⟩:=w2
   have ry:y'=.str c:=ry
   subst ry
   refine⟨z,c,rfl,rfl,hp.1,hp.2.1,hp.2.2.1,hp.2.2.2,λl hl=>q _ _ φ2 ((f1.trans f2).trans (Fw.new hl)) (S2.new hl) ?_⟩
   exact⟨l,_,rfl,S2.nin hl,.inl aW,nH _⟩
  ·cases hr'
noncomputable def mL (x:Str) (n:Int):Str:=if n < 1 then Str.empty else if (n==1 || x.length==0)=true then x else ⟨(List.replicate n.toNat x.cps).foldl (·++·) #[]⟩
noncomputable def kQ (st:Sto) (x y:W):Option D:=match x,y with
 | .d (.str x),.d (.int n)=>if x.length=1/\0<=n/\n<=1000/\(mL x n).length<=1000 then some (.str (mL x n)) else none
 | x,y=>d9 st x y
noncomputable def yo:R2:=λx y H Q=>∃ z n,x=.str z/\y=.int n/\z.length=1/\0<=n/\n<=1000/\(mL z n).length<=1000/\Q (.str (mL z n)) H
theorem tH:OpR X (binaryOp .Mult) yo:=by
 intro pins s σ H x y v u Q I rx ry h
 obtain⟨z,n,rfl,rfl,hz,h0,h1,h2,q⟩:=h
 obtain⟨t,rfl⟩:=rx
 obtain⟨t',rfl⟩:=ry
 have hline:=sizeLine_eq
 refine PySem.P.mul_str (by rw [decide_eq_false (by lia),decide_eq_false (by lia)];rfl) (λa b c=>?_) (λa b=>?_) ?_
 ·have h3:(z.length:Int)<=(2 ^ 63 - 1) / n:=by
   rw [Int.le_ediv_iff_mul_le (by lia)]
   rw [hz]
   lia
  lia
 ·unfold Builtin.Str.tooLong
  refine decide_eq_false ?_
  rw [hz];lia
 ·unfold mL at q h2
  by_cases c1:n < 1
  ·rw [if_pos c1] at q ⊢
   exact⟨by show Str.empty.length<=sizeLine;decide,.str _,H,I.tok _,⟨_,rfl⟩,q⟩
  ·rw [if_neg c1] at q h2 ⊢
   by_cases c2:(n==1 || z.length==0)=true
   ·rw [if_pos c2] at q ⊢
    exact⟨.str _,H,I.tok _,⟨_,rfl⟩,q⟩
   ·rw [if_neg c2] at q h2 ⊢
    exact⟨by lia,.str _,H,I.tok _,⟨_,rfl⟩,q⟩
theorem uJ (hK:X.K=K:=by rfl):OpD K X (binaryOp .Mult) kQ:=by
 refine⟨λst x y d h=>?_⟩
 unfold kQ at h
 split at h
 ·rename_i z n
  split at h
  ·rename_i hc
   cases h
   refine tH.imp ?_
   rintro vx vy H Q ⟨φ,S,r1,r2,q⟩
   exact⟨z,n,r1,r2,hc.1,hc.2.1,hc.2.2.1,hc.2.2.2,q _ H (aY.refl H) rfl⟩
  ·cases h
 ·exact (dJ hK).run st x y d h
noncomputable def wf (st:Sto) (x y:W):Option D:=match x,y with
 | .d (.str a),.d (.str b)=>some (.bl (Txt.contains b a))
 | x,y=>dIn st x y
theorem wP:OpR X (compareOp .In) (λx y H Q=>∃ a b,x=.str a/\y=.str b/\Q (.bl (Txt.contains b a)) H):=by
 intro pins s σ H x y v u Q I rx ry h
 obtain⟨a,b,rfl,rfl,q⟩:=h
 obtain⟨t,rfl⟩:=rx
 obtain⟨t',rfl⟩:=ry
 exact PyProof.Rows.in_str ⟨.bl _,H,I,rfl,q⟩
theorem v7 (hK:X.K=K:=by rfl):OpD K X (compareOp .In) wf:=by
 refine⟨λst x y d h=>?_⟩
 unfold wf at h
 split at h
 ·rename_i a b
  cases h
  refine wP.imp ?_
  rintro vx vy H Q ⟨φ,S,r1,r2,q⟩
  exact⟨a,b,r1,r2,q _ H (aY.refl H) rfl⟩
 ·exact (sI hK).run st x y d h
noncomputable def bS (st:Sto):List W->Option D
 | [.d (.str x)]=>if x.length<=640 then (intText? x).map D.int else none
 | ws=>tV st ws
theorem gc:eF K X (.type "int") bS:=by
 refine⟨λst ws d h=>?_⟩
 unfold bS at h
 split at h
 ·rename_i x
  split at h
  ·rename_i hl
   obtain⟨n,hn,rfl⟩:=Option.map_eq_some_iff.mp h
   intro pins s σ H xs us Q I rv q
   obtain⟨φ,S,⟨v,r,rfl,r1,rfl⟩,q⟩:=q
   have r1:v=.str x:=r1
   subst r1
   obtain⟨u,rfl,t,rfl⟩:=fT rv
   exact PySem.W.KIN.call_text hn hl ⟨.int n,H,I.tok _,⟨_,rfl⟩,q _ H (aY.refl H) rfl⟩
  ·cases h
 ·exact wx.run st _ d h
noncomputable def h9 (st:Sto) (ws:List W):Option D:=match ws with
 | [.d (.str x)]=>if (reprText x).length<=sizeLine then some (.str (reprText x)) else none
 | ws=>rX st ws
theorem nB {k:Nat} (hr:cg k X.A) (hK:X.K=K:=by rfl):eF K X (.builtin "repr") h9:=by
 refine⟨λst ws d h=>?_⟩
 unfold h9 at h
 split at h
 ·rename_i x
  by_cases hl:(reprText x).length<=sizeLine
  case neg=>rw [if_neg hl] at h;cases h
  rw [if_pos hl] at h
  cases h
  refine oj.imp ?_
  rintro vs H Q ⟨φ,S,⟨v,r,rfl,r1,rfl⟩,q⟩
  exact⟨x,by rw [show v=.str x from r1],hl,q _ H (aY.refl H) rfl⟩
 ·exact (sR hr hK).run st ws d h
end
end L2
namespace HT
open PySem PyProof.Rows
noncomputable def lexLe:List Int->List Int->Bool
 | [],[]=>true
 | [],_::_=>true
 | _::_,[]=>false
 | x::xs,y::ys=>if x=y then lexLe xs ys else decide (x<=y)
theorem lexLe_cons (x y:Int) (xs ys:List Int):lexLe (x::xs) (y::ys)=if x=y then lexLe xs ys else decide (x<=y):=rfl
theorem ky:lexLe [] []=true:=rfl
theorem jt (y:Int) (ys:List Int):lexLe [] (y::ys)=true:=rfl
theorem kl (x:Int) (xs:List Int):lexLe (x::xs) []=false:=rfl
theorem rn (A:Around) (s:Shared) (a:Int) (t:Tok) (c:Int) (u:Tok) (prog:Program) (w:World) (E:Value->Shared->Prop) (Q:Value->Shared->Prop) (h:Q (.bool (decide (a<=c))) s) :
  wpAny (model prog w) A (richCompare .LtE (.int a t) (.int c u)) Q E s:=
 (PyProof.Rows.le_int h:wpAny (model prog w) A (compareOp .LtE (.int a t) (.int c u)) Q E s)
section
open PySem.SeqAt
open PySem.AutoSeq1 (wpAny_loadPart')
open PySem.MeetsSeq PySem.MeetsSeq2 PySem.MeetsSeq3
theorem kE (l b:Addr) (items items2:Array Value) (n n2:Nat) (dd dd2:Option Addr) (sl sl2:Array (Option Value)) (ns ms:List Int) (hi:IntsAre items.toList ns) (hj:IntsAre items2.toList ms) :
  Meets (Builtin.«tuple.__le__» ⟨[.ref l,.ref b],[]⟩)
   (λ_ R s=>s.heap.get? l=some { cls:=.type "tuple",dict:=dd,data:=.seq items n,slots:=sl }/\s.heap.get? b=some { cls:=.type "tuple",dict:=dd2,data:=.seq items2 n2,slots:=sl2 }/\
     R (.ok (.ret (.bool (lexLe ns ms)))) s):=
 .of_wp λprog w A R s h=>by
  obtain⟨hp,g,d,tk,os⟩:=s;obtain⟨hl,hb,h⟩:=h
  have f2:=AutoSeq1.sub_tuple_tuple
  have z1:items.size=ns.length:=by rw [<-hi.length];simp
  have z2:items2.size=ms.length:=by rw [<-hj.length];simp
  wp_walk using wpAny_loadPart' hl,wpAny_loadPart' hb,wpAny_forIn_list _ (λrest b s'=>b.1=none/\s'=⟨hp,g,d,tk,os⟩/\∃ (vs ws:List Value) (ns' ms':List Int),rest=vs.zip ws/\
   IntsAre vs ns'/\IntsAre ws ms'/\ns'.length+items2.size=ms'.length+items.size/\R (.ok (.ret (.bool (lexLe ns' ms')))) ⟨hp,g,d,tk,os⟩) _
  case turn=>
   rintro⟨y,x⟩ rest b s' ⟨hb',rfl,vs,ws,ns',ms',hz,hvi,hwi,hlen,hR⟩
   cases hvi with
   | nil=>rw [List.zip_nil_left] at hz;cases hz
   | cons a t hvi'=>
    cases hwi with
    | nil=>rw [List.zip_nil_right] at hz;cases hz
    | cons c u hwi'=>
     rw [List.zip_cons_cons] at hz
     injection hz with hyx hrest
     injection hyx with hy hx
     subst hy hx
     rw [lexLe_cons] at hR
     simp only [List.length_cons] at hlen
     obtain⟨e,he,hiff⟩:=sq A.in1 ⟨hp,g,d,tk,os⟩ a t c u
     refine wpAny_bind (he prog w _ _ ?_)
     cases e with
     | true=>
      rw [if_pos (hiff.mp rfl)] at hR
      wp_walk
      exact⟨rfl,rfl,_,_,_,_,hrest,hvi',hwi',by lia,hR⟩
     | false=>
      rw [if_neg (λq=>absurd (hiff.mpr q) Bool.false_ne_true)] at hR
      have hri:=rn A.in1 ⟨hp,g,d,tk,os⟩ a t c u prog w
      wp_walk using hri
      exact⟨_,rfl,by simpa using hR⟩
  case fin=>
   rintro⟨b1,b2⟩ s' ⟨hb',rfl,vs,ws,ns',ms',hz,hvi,hwi,hlen,hR⟩
   simp only at hb'
   subst hb'
   have hv:lexLe ns' ms'=decide (items.size<=items2.size):=by
    cases hvi with
    | nil=>
     cases hwi with
     | nil=>
      simp only [List.length_nil] at hlen
      rw [ky]
      exact (decide_eq_true (by lia)).symm
     | cons c u hw=>
      simp only [List.length_nil,List.length_cons] at hlen
      rw [jt]
      exact (decide_eq_true (by lia)).symm
    | cons a t hv=>
     cases hwi with
     | nil=>
      simp only [List.length_nil,List.length_cons] at hlen
      rw [kl]
      exact (decide_eq_false (by lia)).symm
     | cons c u hw=>
      rw [List.zip_cons_cons] at hz
      cases hz
   rw [hv] at hR
   wp_walk
   exact⟨_,rfl,by simpa [Builtin.Tuple.tupleCompareSizes] using hR⟩
  case h=>
   exact⟨rfl,rfl,items.toList,items2.toList,ns,ms,rfl,hi,hj,by lia,h⟩
end
section
variable {prog:Program}{w:World}{A:Around}{E:Value->Shared->Prop}{s:Shared}
theorem le_tupInts {l b:Addr}{items items2:Array Value}{ns ms:List Int}{Q:Value->Shared->Prop} (hl:IsTup s.heap l items) (hb:IsTup s.heap b items2) (hi:IntsAre items.toList ns) (hj:IntsAre items2.toList ms)
  (hu:A.units < cLine) (h:Q (.bool (lexLe ns ms)) s):wpAny (model prog w) A (compareOp .LtE (.ref l) (.ref b)) Q E s:=by
 obtain⟨⟨cls,dd,data,sl⟩,ho,hc,n,hd⟩:=id hl
 obtain⟨⟨cls2,dd2,data2,sl2⟩,ho2,hc2,n2,hd2⟩:=id hb
 simp only at hc hd hc2 hd2
 subst hc hd hc2 hd2
 exact richCompare_meets_room (op:=.LtE) ⟨_,ho,rfl⟩ ⟨_,ho2,rfl⟩ PySem.F.slot_tuple_le PySem.F.entry_tuple_le (PySem.F.args_tuple_le_2 _ _) (kE l b items items2 n n2 dd dd2 sl sl2 ns ms hi hj)
  ⟨ho,ho2,show Value.bool (lexLe ns ms)≠Value.notImplemented/\Q (.bool (lexLe ns ms)) s from ⟨(λx=>nomatch x),h⟩⟩ hu
end
end HT
namespace PySem
open Sem (wp)
namespace F
end F
end PySem
namespace PySem
open Sem (wp)
namespace F
end F
end PySem
namespace L2
open PySem PySem.Spec PyProof.Rows
section
variable {X:Cx}{pins:List (Addr×Obj)}{σ:St}{H:Hp}{s:Shared}{A:Around}{E:Value->Shared->Prop}
end
section
variable {K:PySem.W.Frag}{X:Cx}{pos:Pos}{e a b o f:Expr}{fe fa fb fo ff:Ef}
end
end L2
namespace L2
open PySem PySem.Spec PyProof.Rows
section
variable {K:PySem.W.Frag}{X:Cx}{pos:Pos}{e a b:Expr}{fe fa:Ef}
noncomputable def zL (K:PySem.W.Frag):R2:=λx y H Q=>∃ a b ns ms,x=.ref a/\y=.ref b/\SqT K H a (ns.map V.int)/\SqT K H b (ms.map V.int)/\Q (.bl (HT.lexLe ns ms)) H
theorem xS (hu:X.A.units < cLine):OpR X (compareOp .LtE) (zL X.K):=by
 intro pins s σ H x y v u Q I rx ry h
 obtain⟨a,b,ns,ms,rfl,rfl,ha,hb,q⟩:=h
 cases rx
 cases ry
 obtain⟨its,r1,p1,_⟩:=I.tuple ha
 obtain⟨its2,r2,p2,_⟩:=I.tuple hb
 have i1:IntsAre its.toArray.toList ns:=gs r1
 have i2:IntsAre its2.toArray.toList ms:=gs r2
 exact HT.le_tupInts p1 p2 i1 i2 hu ⟨.bl (HT.lexLe ns ms),H,I,rfl,q⟩
noncomputable def oR (st:Sto):W->W->Option D
 | .d (.tup a),.d (.tup b)=>(dG a).bind λns=>(dG b).map λms=>.bl (HT.lexLe ns ms)
 | x,y=>dLe st x y
theorem xm {k:Nat} (hr:cg k X.A) (hK:X.K=K:=by rfl):OpD K X (compareOp .LtE) oR:=by
 subst hK
 refine⟨λst x y d h=>?_⟩
 by_cases ht:∃ a b,x=.d (.tup a)/\y=.d (.tup b)
 ·obtain⟨a,b,rfl,rfl⟩:=ht
  simp only [oR,Option.bind_eq_some_iff,Option.map_eq_some_iff] at h
  obtain⟨ns,h1,ms,h2,rfl⟩:=h
  have hu:X.A.units < cLine:=by have:=hr.un;lia
  refine (xS hu).imp ?_
  rintro vx vy H Q ⟨φ,S,⟨p,vs,rfl,g1,g2⟩,⟨p2,vs2,rfl,g3,g4⟩,q⟩
  cases dP h1
  cases dP h2
  cases g2.ints
  cases g4.ints
  exact⟨p,p2,ns,ms,rfl,rfl,SqT.of g1,SqT.of g3,q _ H (aY.refl H) rfl⟩
 ·have e:oR st x y=dLe st x y:=by
   unfold oR
   split
   ·rename_i a b
    exact absurd ⟨a,b,rfl,rfl⟩ ht
   ·rfl
  rw [e] at h
  exact rc.run st x y d h
noncomputable def nc (k:Bool) (ds:List D) (f:Ef):Ef
 | env,st=>(f env st).bind λr=>match r.1 with
 | .d x=>if cx x=true then some (.d (.bl (k != inD x ds)),r.2) else none
 | _=>none
theorem wa {k:Bool}{op:CmpOp}{x:Str}{p:Addr}{p1:Pos}{ds:List D} (ho:OpR X (compareOp op) (rIn X.K k)) (hg:Gl X x) (hm:X.mg x=some (.ref p)) (g:KTp K p ds) (ha:IE K X e fe) (hd:(x==("__debug__" : Str))=false:=by decide) (hb:behindInMarks op (.Name x p1)=false:=by rfl) (hK:X.K=K:=by rfl) :
  IE K X (.Compare e [op] [.Name x p1] pos) (nc k ds fe):=by
 subst hK
 refine⟨λenv st r hr=>?_⟩
 simp only [nc,Option.bind_eq_some_iff] at hr
 obtain⟨⟨w,s1⟩,hx,hr⟩:=hr
 match w,hr with
 | .d z,hr=>
  dsimp only at hr
  by_cases hz:cx z=true
  case neg=>rw [if_neg hz] at hr;cases hr
  rw [if_pos hz] at hr
  cases hr
  refine (pc ho (ha.run _ _ _ hx) (pK (v:=.ref p) hg hm rfl hd) hb).imp ?_
  rintro σ H Q ⟨φ,hE,hS,q⟩
  refine⟨φ,hE,hS,λy H1 φ1 f1 S1 w1=>?_⟩
  obtain⟨e1,e2⟩:=eW hz w1
  have e4:(ds.map vOf).all dF=true:=(jE (K:=X.K) (H:=H1) (φ:=φ1) g.1 (iG g.1)).2
  refine⟨p,ds.map vOf,rfl,.inr (g.2 H1),e2,e4,?_⟩
  rw [e1,ml hz g.1]
  have hb2:(if k=true then !inD z ds else inD z ds)=(k != inD z ds):=by cases k<;>cases inD z ds<;>rfl
  rw [hb2]
  exact q _ H1 φ1 f1 S1 rfl
end
end L2
namespace Own
open PySem L2
noncomputable def cN:Tf:=(aP dGe (iV 2) (iC (.int 1000000000000000000)))
noncomputable def fg:Sf:=(aq (bh (.nm 1) (iOp aK (iZf (iCB jc (aa (iOp eE (iV 2) (iC (.int 1000000000000000000))) ai)) (aa (iC (.int 18)) ai)) (iV 1))) (bh (.nm 2) (iOp rL (iV 2) (iC (.int 1000000000000000000)))))
noncomputable def cR:Sf:=(aq (bh (.nm 1) (iC (.str ""))) (aq (bh (.nm 2) (iCB i9 (aa (iV 0) ai))) (aq (sE 9 cN fg) (bv (iOp aK (iOp aK (fA (aP dLt (iV 0) (iC (.int 0))) (iC (.str "-")) (iC (.str ""))) (iCB jc (aa (iV 2) ai))) (iV 1))))))
noncomputable def d4:Fn:=cL 3 1 cR
noncomputable def gf:Ef:=(iOp dIx (iC (.str "abcdef")) (iV 0))
noncomputable def cW:Sf:=(aq (bh (.nm 2) (fR (iC (.str "")) (aa (bo (iLc 1 [] (bG (iV 0)) (.nm 0) cC gf)) ai))) (aq (cm (cY (aP dNe (iV 2) (iC (.str ""))) (aP dEq (iCB i9 (aa (iV 1) ai)) (iC (.int 1)))) (bv (iOp aK (fA (aP dLt (iV 1) (iC (.int 0))) (iC (.str "-")) (iC (.str ""))) (iV 2))) bx) (bv (iOp aK (ay d4 (aa (iV 1) ai)) (iV 2)))))
noncomputable def fI:Fn:=cL 3 2 cW
noncomputable def cT:Ef:=(ay fI (aa (iV 0) (aa (iV 1) ai)))
noncomputable def db:Sf:=(aq (cm (aP dEq (iCB dq (aa (iOp dIx (iV 0) (iC (.int 1))) ai)) (iC (.int 0))) (bv (iOp aK (iOp dIx (iV 0) (iC (.int 0))) (iC (.str " 0")))) bx) (bv (fR (iC (.str " ")) (aa (iOp aK (bo (gP (aa (iOp dIx (iV 0) (iC (.int 0))) ai))) (bo (iLc 2 [] (bG (iOp dIx (iV 0) (iC (.int 1)))) (.tp [0,1]) cC cT))) ai))))
noncomputable def bT:Fn:=cL 1 1 db
noncomputable def gr:Sf:=(bv (fk (iCB eA (aa (iV 0) (aa (iC (.ty "int")) ai))) (qY (iCB eA (aa (iV 0) (aa (iC (.ty "bool")) ai))))))
noncomputable def eT:Fn:=cL 1 1 gr
noncomputable def dX:Sf:=(bv (fk (ay eT (aa (iV 0) ai)) (jK dLe dLe (iV 1) (iV 0) (iV 2))))
noncomputable def d0:Fn:=cL 3 3 dX
noncomputable def dh:Sf:=(aq (cm (bJ (dk dm (ay d0 (aa (iV 2) (aa (iOp aK (iV 1) (iC (.int 1))) (aa (iC (.int 5)) ai)))))) (bv (iC (.bl false))) bx) (bh (.nm 1) (iV 2)))
noncomputable def ez:Sf:=(aq (cm (bJ (dk dm (iCB eA (aa (iV 0) (aa (iC (.ty "tuple")) ai))))) (bv (iC (.bl false))) bx) (aq (bh (.nm 1) (iUn hV (iC (.int 1)))) (aq (i8 (bG (iV 0)) (.nm 2) dh) (bv (iC (.bl true))))))
noncomputable def ij:Fn:=cL 3 1 ez
noncomputable def eJ:Sf:=(aq (cm (fJ (bJ (dk dm (iCB eA (aa (iV 0) (aa (iC (.ty "tuple")) ai))))) (aP dNe (iCB dq (aa (iV 0) ai)) (iC (.int 2)))) (bv (iC (.bl false))) bx) (bv (fk (ay ij (aa (iOp dIx (iV 0) (iC (.int 0))) ai)) (fk (ay eT (aa (iOp dIx (iV 0) (iC (.int 1))) ai)) (iOp dNe (iOp dIx (iV 0) (iC (.int 1))) (iC (.int 0)))))))
noncomputable def fZ:Fn:=cL 1 1 eJ
noncomputable def bM:Sf:=(aq (cm (fJ (bJ (dk dm (ay fZ (aa (iV 2) ai)))) (cY (aP pO (iV 1) (iC .non)) (aP oR (iOp dIx (iV 2) (iC (.int 0))) (iV 1)))) (bv (iC (.bl false))) bx) (bh (.nm 1) (iOp dIx (iV 2) (iC (.int 0)))))
noncomputable def cZ:Sf:=(aq (cm (bJ (dk dm (iCB eA (aa (iV 0) (aa (iC (.ty "tuple")) ai))))) (bv (iC (.bl false))) bx) (aq (bh (.nm 1) (iC .non)) (aq (i8 (bG (iV 0)) (.nm 2) bM) (bv (iC (.bl true))))))
noncomputable def fK:Fn:=cL 3 1 cZ
noncomputable def eu:Sf:=(aq (cm (fJ (bJ (dk dm (iCB eA (aa (iV 0) (aa (iC (.ty "tuple")) ai))))) (aP dNe (iCB dq (aa (iV 0) ai)) (iC (.int 2)))) (bv (iC (.bl false))) bx) (bv (fk (iCB eA (aa (iOp dIx (iV 0) (iC (.int 0))) (aa (iC (.ty "str")) ai))) (fk (nc false [(.str "both"),(.str "odd")] (iOp dIx (iV 0) (iC (.int 0)))) (ay fK (aa (iOp dIx (iV 0) (iC (.int 1))) ai))))))
noncomputable def fX:Fn:=cL 1 1 eu
noncomputable def gj:Ef:=(iOp wf (iV 0) (iC (.str "0123456789")))
noncomputable def cu:Sf:=(aq (cm (aP dIn (iV 0) (aI (aa (iC (.str "")) (aa (iC (.str "-")) ai)))) (bv (fA (aP dEq (iV 0) (iC (.str "-"))) (iUn hV (iC (.int 1))) (iC (.int 1)))) bx) (aq (bh (.nm 1) (fA (aP dEq (gZ (iV 0) iPn (iPs (iC (.int 1)))) (iC (.str "-"))) (gZ (iV 0) (iPs (iC (.int 1))) iPn) (iV 0))) (aq (cm (fJ (aP dGt (iCB dq (aa (iV 1) ai)) (iC (.int 60))) (bJ (dk dm (iCB wO (aa (bo (iLc 1 [] (hW (iV 1)) (.nm 0) cC gj)) ai))))) uv bx) (bv (iCB bS (aa (iV 0) ai))))))
noncomputable def dO:Fn:=cL 2 1 cu
noncomputable def dR:Ef:=(iTm nF (iC (.str "abcdef")) (aa (iV 0) ai))
noncomputable def eI:Sf:=(aq (bh (.nm 1) (iTm dQ (iV 0) (aa (iC (.str "abcdef")) ai))) (bv (aI (aa (iCB nG (aa (bo (iLc 1 [] (hW (gZ (iV 0) (iPs (iCB dq (aa (iV 1) ai))) iPn)) (.nm 0) cC dR)) ai)) (aa (ay dO (aa (iV 1) ai)) ai)))))
noncomputable def gY:Fn:=cL 2 1 eI
noncomputable def cn:Ef:=(ay gY (aa (iV 0) ai))
noncomputable def di:Sf:=(aq (cm (bJ (dk dm (iCB eA (aa (iV 0) (aa (iC (.ty "str")) ai))))) uv bx) (aq (bh (.nm 1) (rq (iV 0) (aa (iC (.str " ")) ai))) (aq (bh (.nm 2) (iSl (iV 1) (iPs (iC (.int 1))) iPn)) (aq (bh (.nm 3) (aI (aa (iOp dIx (iV 1) (iC (.int 0))) (aa (fA (aP dEq (iV 2) (bo (gP (aa (iC (.str "0")) ai)))) (aI ai) (iCB nG (aa (bo (iLc 1 [] (bG (iV 2)) (.nm 0) cC cn)) ai))) ai)))) (aq (cm (fJ (bJ (dk dm (ay fX (aa (iV 3) ai)))) (aP dNe (ay bT (aa (iV 3) ai)) (iV 0))) uv bx) (bv (iV 3)))))))
noncomputable def ce:Fn:=cL 4 1 di
noncomputable def df:Sf:=(aq (bh (.nm 2) (iC (.int 0))) (aq (cm (aP dLt (iV 1) (iCB dq (aa (iV 0) ai))) (bh (.nm 2) (iOp dIx (iV 0) (iV 1))) bx) (aq (bh (.nm 3) (iOp d9 (iOp d9 (iOp d9 (iOp lG (iC (.int 10)) (iC (.int 60))) (iOp lG (iC (.int 10)) (iC (.int 60)))) (iOp lG (iC (.int 10)) (iC (.int 60)))) (iOp lG (iC (.int 10)) (iC (.int 60))))) (aq (bh (.nm 4) (iOp eE (iOp d9 (iOp aK (iOp aK (iOp eE (iV 2) (iC (.int 2147483629))) (iOp d9 (iC (.int 7919)) (iV 1))) (iC (.int 11))) (iC (.int 48271))) (iC (.int 2147483647)))) (bv (sX (gP (aa (iOp d9 (iOp eE (iCB i9 (aa (iV 2) ai)) (iV 3)) (iCB bS (aa (iOp dGe (iCB i9 (aa (iV 2) ai)) (iOp lG (iC (.int 10)) (iC (.int 18)))) ai))) (aa (iV 4) (aa (iC (.int 0)) ai))))))))))
noncomputable def da:Fn:=cL 5 2 df
noncomputable def cX:Sf:=(aq (cm (aP dGt (iOp dIx (iV 0) (iC (.int 0))) (iC (.int 0))) (aq (bh (.nm 2) (iOp eE (iOp dIx (iV 0) (iC (.int 0))) (iV 1))) (aq (gt (iV 0) (iC (.int 0)) (iOp gi (iOp dIx (iV 0) (iC (.int 0))) (iV 1))) (bv (iV 2)))) bx) (aq (gt (iV 0) (iC (.int 2)) (iOp aK (iOp dIx (iV 0) (iC (.int 2))) (iC (.int 1)))) (aq (gt (iV 0) (iC (.int 1)) (iOp eE (iOp aK (iOp aK (iOp d9 (iOp dIx (iV 0) (iC (.int 1))) (iC (.int 39373))) (iC (.int 12345))) (iOp d9 (iC (.int 31)) (iOp dIx (iV 0) (iC (.int 2))))) (iC (.int 2147483647)))) (bv (iOp eE (iOp gi (iOp eE (iOp d9 (iOp dIx (iV 0) (iC (.int 1))) (iOp aK (iOp eE (iOp dIx (iV 0) (iC (.int 1))) (iC (.int 40009))) (iC (.int 3)))) (iC (.int 2147483629))) (iC (.int 64))) (iV 1))))))
noncomputable def aw:Fn:=cL 3 2 cX
noncomputable def dU:Sf:=(bv (iOp dIx (iV 1) (ay aw (aa (iV 0) (aa (iCB dq (aa (iV 1) ai)) ai)))))
noncomputable def dW:Fn:=cL 2 2 dU
noncomputable def ek:Ef:=(aI (aa (iV 0) (aa (tw (iV 1) (iV 0)) ai)))
noncomputable def bL:Ef:=(iV 0)
noncomputable def bN:Tf:=(aP dEq (iOp eE (iOp gi (iV 1) (iOp tN (iC (.int 1)) (iV 0))) (iC (.int 2))) (iC (.int 1)))
noncomputable def cU:Sf:=(aq (bh (.nm 5) (fA (aP dEq (iV 2) (iC (.int 64))) (iV 4) (ay aw (aa (iV 0) (aa (iC (.int 64)) ai))))) (aq (bh (.nm 6) (iOp dIx (bo (gP (aa (iUn hV (iC (.int 3))) (aa (iUn hV (iC (.int 2))) (aa (iUn hV (iC (.int 1))) (aa (iC (.int 1)) (aa (iC (.int 2)) (aa (iC (.int 3)) (aa (iC (.int 1)) (aa (iUn hV (iC (.int 1))) ai)))))))))) (ay aw (aa (iV 0) (aa (iC (.int 8)) ai))))) (aq (cm (aP dEq (ay aw (aa (iV 0) (aa (iC (.int 6)) ai))) (iC (.int 5))) (bh (.nm 6) (iOp aK (iOp d9 (iV 6) (iCB bS (aa (iOp aK (iC (.str "1")) (iOp kQ (iC (.str "0")) (ay aw (aa (iV 0) (aa (iC (.int 19)) ai))))) ai))) (ay aw (aa (iV 0) (aa (iC (.int 2)) ai))))) bx) (cm (aP dNe (iV 6) (iC (.int 0))) (nA (iV 3) (iCB nG (aa (bo (iLc 1 [5] (cP (aa (iC (.int 6)) ai)) (.nm 0) bN bL)) ai)) (iV 6)) bx))))
noncomputable def dM:Sf:=(aq (bh (.nm 2) (iOp dIx (bo (gP (aa (ay aw (aa (iV 0) (aa (iC (.int 4)) ai))) (aa (ay aw (aa (iV 0) (aa (iC (.int 10)) ai))) (aa (iC (.int 64)) ai))))) (iOp aK (iOp gi (ay aw (aa (iV 0) (aa (iC (.int 10)) ai))) (iC (.int 5))) (iCB bS (aa (iOp dEq (ay aw (aa (iV 0) (aa (iC (.int 12)) ai))) (iC (.int 11))) ai))))) (aq (bh (.nm 3) vJ) (aq (i8 (cP (aa (iV 2) ai)) (.nm 4) cU) (bv (aI (aa (iV 1) (aa (iCB nG (aa (bo (iLc 1 [3] (bG (bo (ko (iV 3)))) (.nm 0) cC ek)) ai)) ai)))))))
noncomputable def fG:Fn:=oo 7 2 dM
noncomputable def eD:Ef:=(iOp dIx (iC (.str "abcdef")) (iV 0))
noncomputable def cM:Sf:=(aq (bh (.nm 4) (fR (iC (.str "")) (aa (bo (iLc 1 [] (bG (iV 2)) (.nm 0) cC eD)) ai))) (aq (bh (.nm 5) (iCB jc (aa (iV 3) ai))) (aq (cm (cY (aP dNe (iV 4) (iC (.str ""))) (aP dIn (iV 5) (aI (aa (iC (.str "1")) (aa (iC (.str "-1")) ai))))) (bh (.nm 5) (gZ (iV 5) iPn (iPs (iUn hV (iC (.int 1)))))) bx) (bh (.nm 1) (iOp aK (iOp aK (iOp aK (iV 1) (iC (.str " "))) (iV 5)) (iV 4))))))
noncomputable def bV:Sf:=(aq (bh (.nm 1) (iOp dIx (iV 0) (iC (.int 0)))) (aq (i8 (bG (iOp dIx (iV 0) (iC (.int 1)))) (.tp [2,3]) cM) (bv (fA (aP dNe (iOp dIx (iV 0) (iC (.int 1))) (aI ai)) (iV 1) (iOp aK (iV 1) (iC (.str " 0")))))))
noncomputable def dL:Fn:=cL 6 1 bV
noncomputable def dc:Sf:=(bv (iOp dEq (iCB h9 (aa (iV 0) ai)) (iCB h9 (aa (iV 1) ai))))
noncomputable def bg:Fn:=cL 2 2 dc
noncomputable def iR:Ef:=(ay dW (aa (iV 1) (aa (bo (gP (aa (iC (.str "0")) (aa (iC (.str "7")) (aa (iC (.str "9")) ai))))) ai)))
noncomputable def lT:Sf:=(cm (fJ (bJ (dk dm (ay bg (aa (ay bT (aa (iV 4) ai)) (aa (iV 5) ai))))) (bJ (dk dm (ay bg (aa (ay ce (aa (iV 5) ai)) (aa (iV 4) ai)))))) (bv (iC (.bl false))) bx)
noncomputable def i6:Sf:=(aq (bh (.nm 4) (ay fG (aa (iV 2) (aa (iV 3) ai)))) (aq (bh (.nm 5) (ay dL (aa (iV 4) ai))) (i8 (cP (aa (iC (.int 2)) ai)) (.nm 6) lT)))
noncomputable def lz:Sf:=(aq (bh (.nm 2) (ay da (aa (iV 0) (aa (iV 1) ai)))) (aq (i8 (bG (aI (aa (iC (.str "both")) (aa (iC (.str "odd")) ai)))) (.nm 3) i6) (aq (bh (.nm 7) (fR (iC (.str "")) (aa (bo (iLc 1 [2] (cP (aa (iC (.int 59)) ai)) (.nm 0) cC iR)) ai))) (aq (bh (.nm 8) (aI (aa (iC (.str "odd")) (aa (aI (aa (aI (aa (aI ai) (aa (iCB bS (aa (iOp aK (iC (.str "1")) (iV 7)) ai)) ai))) (aa (aI (aa (aI (aa (iC (.int 1)) (aa (iC (.int 5)) ai))) (aa (iUn hV (iCB bS (aa (iOp aK (iC (.str "8")) (iV 7)) ai))) ai))) (aa (aI (aa (aI (aa (iC (.int 2)) ai)) (aa (iC (.int 1)) ai))) ai)))) ai)))) (aq (bh (.nm 5) (iOp aK (iOp aK (iOp aK (iOp aK (iC (.str "odd 1")) (iV 7)) (iC (.str " -8"))) (iV 7)) (iC (.str "bf c")))) (cm (fJ (bJ (dk dm (ay bg (aa (ay ce (aa (iV 5) ai)) (aa (iV 8) ai))))) (bJ (dk dm (ay bg (aa (ay bT (aa (ay ce (aa (iV 5) ai)) ai)) (aa (iV 5) ai)))))) (bv (iC (.bl false))) bx))))))
noncomputable def oU:Sf:=(aq (i8 (cP (aa (iOp aK (iC (.int 1)) (iCB xB (aa (iC (.int 10)) (aa (iCB dq (aa (iV 0) ai)) ai)))) ai)) (.nm 1) lz) (bv (iC (.bl true))))
noncomputable def nC:Fn:=oo 9 1 oU
end Own
section
set_option maxHeartbeats 2000000
namespace Own
open PySem L2
noncomputable def top (i:Nat):Stmt:=PySem.Challenge.pw_signpoly_k79_polynomials_written.main.body.getD i (.Pass ⟨0,0,0,0⟩)
abbrev bt:Stmt:=top 3
abbrev bD:Stmt:=top 4
abbrev bE:Stmt:=top 5
abbrev cq:Stmt:=top 11
abbrev cf:Stmt:=top 12
abbrev cH:Stmt:=top 15
abbrev cI:Stmt:=top 16
abbrev bX:Stmt:=top 17
abbrev cQ:Stmt:=top 18
abbrev bC:Stmt:=top 22
abbrev cv:Stmt:=top 23
abbrev bA:Stmt:=top 24
abbrev cc:Stmt:=top 26
abbrev bU:Stmt:=top 27
abbrev ca:Stmt:=top 28
abbrev bp:Stmt:=top 29
abbrev ba:Stmt:=top 30
abbrev bZ:Stmt:=top 31
abbrev iH:Stmt:=top 32
theorem bW:aQ ["number","figures","rest"] ["number"] (aj bt):=⟨rfl,rfl,rfl,by decide +kernel,rfl,by decide +kernel,by decide +kernel⟩
theorem gR:aQ ["term","number","letters"] ["term","number"] (aj bD):=⟨rfl,rfl,rfl,by decide +kernel,rfl,by decide +kernel,by decide +kernel⟩
theorem lX:aQ ["poly"] ["poly"] (aj bE):=⟨rfl,rfl,rfl,by decide +kernel,rfl,by decide +kernel,by decide +kernel⟩
theorem mZ:aQ ["thing"] ["thing"] (aj cq):=⟨rfl,rfl,rfl,by decide +kernel,rfl,by decide +kernel,by decide +kernel⟩
theorem lW:aQ ["thing","low","high"] ["thing","low","high"] (aj cf):=⟨rfl,rfl,rfl,by decide +kernel,rfl,by decide +kernel,by decide +kernel⟩
theorem eZ:aQ ["thing","ahead","k"] ["thing"] (aj cH):=⟨rfl,rfl,rfl,by decide +kernel,rfl,by decide +kernel,by decide +kernel⟩
theorem oz:aQ ["thing"] ["thing"] (aj cI):=⟨rfl,rfl,rfl,by decide +kernel,rfl,by decide +kernel,by decide +kernel⟩
theorem du:aQ ["thing","ahead","part"] ["thing"] (aj bX):=⟨rfl,rfl,rfl,by decide +kernel,rfl,by decide +kernel,by decide +kernel⟩
theorem oq:aQ ["thing"] ["thing"] (aj cQ):=⟨rfl,rfl,rfl,by decide +kernel,rfl,by decide +kernel,by decide +kernel⟩
theorem gF:aQ ["text","figures"] ["text"] (aj bC):=⟨rfl,rfl,rfl,by decide +kernel,rfl,by decide +kernel,by decide +kernel⟩
theorem jy:aQ ["word","ahead"] ["word"] (aj cv):=⟨rfl,rfl,rfl,by decide +kernel,rfl,by decide +kernel,by decide +kernel⟩
theorem dA:aQ ["thing","words","parts","poly"] ["thing"] (aj bA):=⟨rfl,rfl,rfl,by decide +kernel,rfl,by decide +kernel,by decide +kernel⟩
theorem cG:aQ ["_law_script","_law_k","_law_cell","_law_far","_law_seed"] ["_law_script","_law_k"] (aj cc):=⟨rfl,rfl,rfl,by decide +kernel,rfl,by decide +kernel,by decide +kernel⟩
theorem gJ:aQ ["_law_hand_here","_law_many","_law_digit"] ["_law_hand_here","_law_many"] (aj bU):=⟨rfl,rfl,rfl,by decide +kernel,rfl,by decide +kernel,by decide +kernel⟩
theorem lO:aQ ["_law_hand_here","_law_some"] ["_law_hand_here","_law_some"] (aj ca):=⟨rfl,rfl,rfl,by decide +kernel,rfl,by decide +kernel,by decide +kernel⟩
theorem bH:aQ ["_law_hand_here","_law_kind","_law_many","_law_some","_law_turn","_law_mask","_law_number"] ["_law_hand_here","_law_kind"] (aj bp):=⟨rfl,rfl,rfl,by decide +kernel,rfl,by decide +kernel,by decide +kernel⟩
theorem aU:aQ ["_law_poly_here","_law_text","_law_term","_law_number","_law_letters","_law_figures"] ["_law_poly_here"] (aj ba):=⟨rfl,rfl,rfl,by decide +kernel,rfl,by decide +kernel,by decide +kernel⟩
theorem lH:aQ ["_law_found","_law_due"] ["_law_found","_law_due"] (aj bZ):=⟨rfl,rfl,rfl,by decide +kernel,rfl,by decide +kernel,by decide +kernel⟩
theorem d3:aQ ["_law_script","_law_k","_law_hand_here","_law_kind","_law_poly_here","_law_text","_law_again","_law_figures","_law_great"] ["_law_script"] (aj iH):=⟨rfl,rfl,rfl,by decide +kernel,rfl,by decide +kernel,by decide +kernel⟩
set_option genSizeOf false in
set_option genInjectivity false in
structure Adr where
 f0:Addr
 g0:FuncData
 f1:Addr
 g1:FuncData
 f2:Addr
 g2:FuncData
 f3:Addr
 g3:FuncData
 f4:Addr
 g4:FuncData
 f5:Addr
 g5:FuncData
 f6:Addr
 g6:FuncData
 f7:Addr
 g7:FuncData
 f8:Addr
 g8:FuncData
 f9:Addr
 g9:FuncData
 f10:Addr
 g10:FuncData
 f11:Addr
 g11:FuncData
 f12:Addr
 g12:FuncData
 f13:Addr
 g13:FuncData
 f14:Addr
 g14:FuncData
 f15:Addr
 g15:FuncData
 f16:Addr
 g16:FuncData
 f17:Addr
 g17:FuncData
 f18:Addr
 g18:FuncData
 ga_BLOCK:Tok
 ga_FIGURES:Tok
 ga_LAST_SWITCH:Tok
 ga_LETTERS:Tok
 ga_MOST_FIGURES:Tok
 ga_KINDS:Addr
structure Txt (K:PySem.W.Frag) (mg:Str->Option Value) (t:Adr):Prop where
 F0:Fun K "show_number" "show_number" bt t.f0 t.g0
 m0:mg "show_number" = some (.ref t.f0)
 b0:bK K t.g0 ["number"] []
 F1:Fun K "show_part" "show_part" bD t.f1 t.g1
 m1:mg "show_part" = some (.ref t.f1)
 b1:bK K t.g1 ["term","number"] []
 F2:Fun K "show_poly" "show_poly" bE t.f2 t.g2
 m2:mg "show_poly" = some (.ref t.f2)
 b2:bK K t.g2 ["poly"] []
 F3:Fun K "is_whole" "is_whole" cq t.f3 t.g3
 m3:mg "is_whole" = some (.ref t.f3)
 b3:bK K t.g3 ["thing"] []
 F4:Fun K "is_within" "is_within" cf t.f4 t.g4
 m4:mg "is_within" = some (.ref t.f4)
 b4:bK K t.g4 ["thing","low","high"] []
 F5:Fun K "is_term" "is_term" cH t.f5 t.g5
 m5:mg "is_term" = some (.ref t.f5)
 b5:bK K t.g5 ["thing"] []
 F6:Fun K "is_part" "is_part" cI t.f6 t.g6
 m6:mg "is_part" = some (.ref t.f6)
 b6:bK K t.g6 ["thing"] []
 F7:Fun K "are_parts" "are_parts" bX t.f7 t.g7
 m7:mg "are_parts" = some (.ref t.f7)
 b7:bK K t.g7 ["thing"] []
 F8:Fun K "is_poly" "is_poly" cQ t.f8 t.g8
 m8:mg "is_poly" = some (.ref t.f8)
 b8:bK K t.g8 ["thing"] []
 F9:Fun K "number_by" "number_by" bC t.f9 t.g9
 m9:mg "number_by" = some (.ref t.f9)
 b9:bK K t.g9 ["text"] []
 F10:Fun K "part_by" "part_by" cv t.f10 t.g10
 m10:mg "part_by" = some (.ref t.f10)
 b10:bK K t.g10 ["word"] []
 F11:Fun K "read_poly" "read_poly" bA t.f11 t.g11
 m11:mg "read_poly" = some (.ref t.f11)
 b11:bK K t.g11 ["thing"] []
 F12:Fun K "_law_hand" "_law_hand" cc t.f12 t.g12
 m12:mg "_law_hand" = some (.ref t.f12)
 b12:bK K t.g12 ["_law_script","_law_k"] []
 F13:Fun K "_law_take" "_law_take" bU t.f13 t.g13
 m13:mg "_law_take" = some (.ref t.f13)
 b13:bK K t.g13 ["_law_hand_here","_law_many"] []
 F14:Fun K "_law_pick" "_law_pick" ca t.f14 t.g14
 m14:mg "_law_pick" = some (.ref t.f14)
 b14:bK K t.g14 ["_law_hand_here","_law_some"] []
 F15:Fun K "_law_poly" "_law_poly" bp t.f15 t.g15
 m15:mg "_law_poly" = some (.ref t.f15)
 b15:bK K t.g15 ["_law_hand_here","_law_kind"] []
 F16:Fun K "_law_written" "_law_written" ba t.f16 t.g16
 m16:mg "_law_written" = some (.ref t.f16)
 b16:bK K t.g16 ["_law_poly_here"] []
 F17:Fun K "_law_same" "_law_same" bZ t.f17 t.g17
 m17:mg "_law_same" = some (.ref t.f17)
 b17:bK K t.g17 ["_law_found","_law_due"] []
 F18:Fun K "law" "law" iH t.f18 t.g18
 m18:mg "law" = some (.ref t.f18)
 b18:bK K t.g18 ["_law_script"] []
 z_abs:mg "abs" = none
 z_all:mg "all" = none
 z_bool:mg "bool" = none
 z_int:mg "int" = none
 z_isinstance:mg "isinstance" = none
 z_len:mg "len" = none
 z_min:mg "min" = none
 z_range:mg "range" = none
 z_repr:mg "repr" = none
 z_sorted:mg "sorted" = none
 z_str:mg "str" = none
 z_tuple:mg "tuple" = none
 g_BLOCK:mg "BLOCK" = some (.int 1000000000000000000 t.ga_BLOCK)
 gq_BLOCK:∀ H φ,Rl K H φ (.int 1000000000000000000) (.int 1000000000000000000)
 g_FIGURES:mg "FIGURES" = some (.str "0123456789" t.ga_FIGURES)
 gq_FIGURES:∀ H φ,Rl K H φ (.str "0123456789") (.str "0123456789")
 g_LAST_SWITCH:mg "LAST_SWITCH" = some (.int 5 t.ga_LAST_SWITCH)
 gq_LAST_SWITCH:∀ H φ,Rl K H φ (.int 5) (.int 5)
 g_LETTERS:mg "LETTERS" = some (.str "abcdef" t.ga_LETTERS)
 gq_LETTERS:∀ H φ,Rl K H φ (.str "abcdef") (.str "abcdef")
 g_MOST_FIGURES:mg "MOST_FIGURES" = some (.int 60 t.ga_MOST_FIGURES)
 gq_MOST_FIGURES:∀ H φ,Rl K H φ (.int 60) (.int 60)
 g_KINDS:mg "KINDS" = some (.ref t.ga_KINDS)
 gk_KINDS:KTp K t.ga_KINDS [(.str "both"),(.str "odd")]
abbrev Bdy (P:Program) (w:World) (K:PySem.W.Frag) (mg:Str->Option Value) (base:Heap) (k:Nat) (N:List Str) (x:Str) (sd:Stmt) (f:Addr) (b:Sf):Prop:=∀ (cdv:Value) (A:Around) (outer:List Env) (s:Shared) (H:Hp) (E:XK),cg k (A.deeper (PyProof.Rows.envOfC x (aj sd) s.heap.objs.size f cdv))->ISs K (lA CX0 P w K mg base N x (aj sd) f cdv A outer s H E).nox (aF sd) b
section
variable {P:Program}{w:World}{K:PySem.W.Frag}{mg:Str->Option Value}{base:Heap}{t:Adr}
theorem hX (T:Txt K mg t):Bdy P w K mg base 0 ["number","figures","rest"] "show_number" bt t.f0 cR:=
 λ_ _ _ _ _ _ hr=>(ak (aD (i:=1) bW.nd rfl (.inl rfl) aB rfl (.inl rfl)) (ak (aD (i:=2) bW.nd rfl (.inl rfl) (bP lQ rfl T.z_abs PyProof.Rows.boot_abs (ab (iv 0) ag rfl) (by decide) (by decide) rfl rfl) rfl (.inl rfl)) (ak (qX 9 (bd vE (iv 2) (gx (v:=.int 1000000000000000000) rfl T.g_BLOCK ⟨_,rfl⟩ T.gq_BLOCK (by decide)) (aX _)) (ak (aD (i:=1) bW.nd rfl (.inl rfl) (ar (aV rfl) (yx (em n8 rfl T.z_str PyProof.Rows.boot_str (ab (ar ef (iv 2) (gx (v:=.int 1000000000000000000) rfl T.g_BLOCK ⟨_,rfl⟩ T.gq_BLOCK (by decide))) ag rfl) (by decide) (by decide) rfl rfl) (ab ah ag rfl) rfl rfl rfl rfl) (iv 1)) rfl (.inl rfl)) (am (aD (i:=2) bW.nd rfl (.inl rfl) (ar xD (iv 2) (gx (v:=.int 1000000000000000000) rfl T.g_BLOCK ⟨_,rfl⟩ T.gq_BLOCK (by decide))) rfl (.inl rfl)))) PassesOwn.never) (am (aN (ar (aV rfl) (ar (aV rfl) (jW (bd tz (iv 0) ah (aX _)) aB aB) (em n8 rfl T.z_str PyProof.Rows.boot_str (ab (iv 2) ag rfl) (by decide) (by decide) rfl rfl)) (iv 1)))))))
theorem jN (T:Txt K mg t):ck P w K mg base CX0 1 t.f0 t.g0 ["number"] (spI K d4):=
 fE (N:=["number","figures","rest"]) (b:=cR) T.F0 bW (hX T)
theorem ka (T:Txt K mg t):Bdy P w K mg base 1 ["term","number","letters"] "show_part" bD t.f1 cW:=
 λ_ _ _ _ _ _ hr=>(ak (aD (i:=2) gR.nd rfl (.inl rfl) (iY aB (ab (bF (gG (gT (aj bD).names ["term","number","letters"] ["k"] 1 [] rfl rfl rfl (by decide +kernel)) rfl (by decide) (eR (iv 0) rfl) (λ_ _ _ _ _=>(bQ (bj (i:=0) (show List.Nodup (α:=Str) ["k"] by decide +kernel) rfl (.inl rfl)))) (λ_ _ _ _ _=>dZ) (λ_ _ _ _ _=>(bm (gx (v:=.str "abcdef") rfl T.g_LETTERS ⟨_,rfl⟩ T.gq_LETTERS (by decide)) (iv 0) rfl rfl)) (λ_=>rfl))) ag rfl) rfl rfl rfl rfl) rfl (.inl rfl)) (ak (cE (eg (lR (bd (iD hr rfl) (iv 2) aB (aX _)) (jS (bd (gh hr rfl) (bP lQ rfl T.z_abs PyProof.Rows.boot_abs (ab (iv 1) ag rfl) (by decide) (by decide) rfl rfl) ah (aX _))))) (am (aN (ar (aV rfl) (jW (bd tz (iv 1) ah (aX _)) aB aB) (iv 2)))) bf) (am (aN (ar (aV rfl) (av (jN T) (by decide) hr rfl T.m0 T.F0.kp T.b0 (ab (iv 1) ag rfl) (by decide) rfl rfl) (iv 2))))))
theorem lq (T:Txt K mg t):ck P w K mg base CX0 2 t.f1 t.g1 ["term","number"] (spI K fI):=
 fE (N:=["term","number","letters"]) (b:=cW) T.F1 gR (ka T)
theorem jf (T:Txt K mg t):Bdy P w K mg base 2 ["poly"] "show_poly" bE t.f2 db:=
 λ_ _ _ _ _ _ hr=>(ak (cE (bd (gh hr rfl) (bP (fu rfl) rfl T.z_len PySem.boot_len (ab (bm (iv 0) ah rfl rfl) ag rfl) (by decide) (by decide) rfl rfl) ah (aX _)) (am (aN (ar (aV rfl) (bm (iv 0) ah rfl rfl) aB))) bf) (am (aN (iY aB (ab (ar (aV rfl) (bF (il (ab (bm (iv 0) ah rfl rfl) ag rfl))) (bF (gG (gT (aj bE).names ["poly"] ["term","number"] 2 [] rfl rfl rfl (by decide +kernel)) rfl (by decide) (eR (bm (iv 0) ah rfl rfl) rfl) (λ_ _ _ _ _=>(rh (gC (bj (i:=0) (show List.Nodup (α:=Str) ["term","number"] by decide +kernel) rfl (.inl rfl)) (gC (bj (i:=1) (show List.Nodup (α:=Str) ["term","number"] by decide +kernel) rfl (.inl rfl)) oT)) rfl rfl rfl rfl rfl)) (λ_ _ _ _ _=>dZ) (λ_ _ _ _ _=>(av (lq T) (by decide) hr rfl T.m1 T.F1.kp T.b1 (ab (iv 0) (ab (iv 1) ag rfl) rfl) (by decide) rfl rfl)) (λ_=>rfl)))) ag rfl) rfl rfl rfl rfl))))
theorem eS (T:Txt K mg t):ck P w K mg base CX0 3 t.f2 t.g2 ["poly"] (spI K bT):=
 fE (N:=["poly"]) (b:=db) T.F2 lX (jf T)
theorem kF (T:Txt K mg t):Bdy P w K mg base 0 ["thing"] "is_whole" cq t.f3 gr:=
 λ_ _ _ _ _ _ hr=>(am (aN (gW (bP (fQ rfl) rfl T.z_isinstance PyProof.Rows.boot_isinstance (ab (iv 0) (ab (iA rfl T.z_int PyProof.Rows.boot_int (by decide) (by decide)) ag rfl) rfl) (by decide) (by decide) rfl rfl) (lB (wR (bP (fQ rfl) rfl T.z_isinstance PyProof.Rows.boot_isinstance (ab (iv 0) (ab (iA rfl T.z_bool PyProof.Rows.boot_bool (by decide) (by decide)) ag rfl) rfl) (by decide) (by decide) rfl rfl))))))
theorem iF (T:Txt K mg t):ck P w K mg base CX0 1 t.f3 t.g3 ["thing"] (spI K eT):=
 fE (N:=["thing"]) (b:=gr) T.F3 mZ (kF T)
theorem jq (T:Txt K mg t):Bdy P w K mg base 1 ["thing","low","high"] "is_within" cf t.f4 dX:=
 λ_ _ _ _ _ _ hr=>(am (aN (gW (av (iF T) (by decide) hr rfl T.m3 T.F3.kp T.b3 (ab (iv 0) ag rfl) (by decide) rfl rfl) (lB (rF rc rc (iv 1) (iv 0) (iv 2) (by with_unfolding_all rfl))))))
theorem mo (T:Txt K mg t):ck P w K mg base CX0 2 t.f4 t.g4 ["thing","low","high"] (spI K d0):=
 fE (N:=["thing","low","high"]) (b:=dX) T.F4 lW (jq T)
theorem lY (T:Txt K mg t):Bdy P w K mg base 2 ["thing","ahead","k"] "is_term" cH t.f5 ez:=
 λ_ _ _ _ _ _ hr=>(ak (cE (cK (cJ (bP (fQ rfl) rfl T.z_isinstance PyProof.Rows.boot_isinstance (ab (iv 0) (ab (iA rfl T.z_tuple PyProof.Rows.boot_tuple (by decide) (by decide)) ag rfl) rfl) (by decide) (by decide) rfl rfl) rfl rfl)) (am (aN fB)) bf) (ak (aD (i:=1) eZ.nd rfl (.inl rfl) (fN ah) rfl (.inl rfl)) (ak (gq (eR (iv 0) rfl) (bQ (bj (i:=2) eZ.nd rfl (.inl rfl))) (ak (cE (cK (cJ (av (mo T) (by decide) hr rfl T.m4 T.F4.kp T.b4 (ab (iv 2) (ab (ar (aV rfl) (iv 1) ah) (ab (gx (v:=.int 5) rfl T.g_LAST_SWITCH ⟨_,rfl⟩ T.gq_LAST_SWITCH (by decide)) ag rfl) rfl) rfl) (by decide) rfl rfl) rfl rfl)) (am (aN fB)) bf) (am (aD (i:=1) eZ.nd rfl (.inl rfl) (iv 2) rfl (.inl rfl)))) PassesOwn.never rfl (λ_=>rfl)) (am (aN fB)))))
theorem oO (T:Txt K mg t):ck P w K mg base CX0 3 t.f5 t.g5 ["thing"] (spI K ij):=
 fE (N:=["thing","ahead","k"]) (b:=ez) T.F5 eZ (lY T)
theorem mG (T:Txt K mg t):Bdy P w K mg base 3 ["thing"] "is_part" cI t.f6 eJ:=
 λ_ _ _ _ _ _ hr=>(ak (cE (eg (gm (cK (cJ (bP (fQ rfl) rfl T.z_isinstance PyProof.Rows.boot_isinstance (ab (iv 0) (ab (iA rfl T.z_tuple PyProof.Rows.boot_tuple (by decide) (by decide)) ag rfl) rfl) (by decide) (by decide) rfl rfl) rfl rfl)) (eP (bd (iD hr rfl) (bP (fu rfl) rfl T.z_len PySem.boot_len (ab (iv 0) ag rfl) (by decide) (by decide) rfl rfl) ah (aX _))))) (am (aN fB)) bf) (am (aN (gW (av (oO T) (by decide) hr rfl T.m5 T.F5.kp T.b5 (ab (bm (iv 0) ah rfl rfl) ag rfl) (by decide) rfl rfl) (gW (av (iF T) (by decide) hr rfl T.m3 T.F3.kp T.b3 (ab (bm (iv 0) ah rfl rfl) ag rfl) (by decide) rfl rfl) (lB (jB (iD hr rfl) (bm (iv 0) ah rfl rfl) ah (aX _))))))))
theorem oF (T:Txt K mg t):ck P w K mg base CX0 4 t.f6 t.g6 ["thing"] (spI K fZ):=
 fE (N:=["thing"]) (b:=eJ) T.F6 oz (mG T)
theorem jC (T:Txt K mg t):Bdy P w K mg base 4 ["thing","ahead","part"] "are_parts" bX t.f7 cZ:=
 λ_ _ _ _ _ _ hr=>(ak (cE (cK (cJ (bP (fQ rfl) rfl T.z_isinstance PyProof.Rows.boot_isinstance (ab (iv 0) (ab (iA rfl T.z_tuple PyProof.Rows.boot_tuple (by decide) (by decide)) ag rfl) rfl) (by decide) (by decide) rfl rfl) rfl rfl)) (am (aN fB)) bf) (ak (aD (i:=1) du.nd rfl (.inl rfl) sU rfl (.inl rfl)) (ak (gq (eR (iv 0) rfl) (bQ (bj (i:=2) du.nd rfl (.inl rfl))) (ak (cE (eg (gm (cK (cJ (av (oF T) (by decide) hr rfl T.m6 T.F6.kp T.b6 (ab (iv 2) ag rfl) (by decide) rfl rfl) rfl rfl)) (eP (eg (lR (bd uI (iv 1) sU (aX _)) (jS (bd (xm hr rfl) (bm (iv 2) ah rfl rfl) (iv 1) (aX _)))))))) (am (aN fB)) bf) (am (aD (i:=1) du.nd rfl (.inl rfl) (bm (iv 2) ah rfl rfl) rfl (.inl rfl)))) PassesOwn.never rfl (λ_=>rfl)) (am (aN fB)))))
theorem lM (T:Txt K mg t):ck P w K mg base CX0 5 t.f7 t.g7 ["thing"] (spI K fK):=
 fE (N:=["thing","ahead","part"]) (b:=cZ) T.F7 du (jC T)
theorem lS (T:Txt K mg t):Bdy P w K mg base 5 ["thing"] "is_poly" cQ t.f8 eu:=
 λ_ _ _ _ _ _ hr=>(ak (cE (eg (gm (cK (cJ (bP (fQ rfl) rfl T.z_isinstance PyProof.Rows.boot_isinstance (ab (iv 0) (ab (iA rfl T.z_tuple PyProof.Rows.boot_tuple (by decide) (by decide)) ag rfl) rfl) (by decide) (by decide) rfl rfl) rfl rfl)) (eP (bd (iD hr rfl) (bP (fu rfl) rfl T.z_len PySem.boot_len (ab (iv 0) ag rfl) (by decide) (by decide) rfl rfl) ah (aX _))))) (am (aN fB)) bf) (am (aN (gW (bP (fQ rfl) rfl T.z_isinstance PyProof.Rows.boot_isinstance (ab (bm (iv 0) ah rfl rfl) (ab (iA rfl T.z_str PyProof.Rows.boot_str (by decide) (by decide)) ag rfl) rfl) (by decide) (by decide) rfl rfl) (gW (wa kY rfl T.g_KINDS T.gk_KINDS (bm (iv 0) ah rfl rfl) (by decide) rfl rfl) (lB (av (lM T) (by decide) hr rfl T.m7 T.F7.kp T.b7 (ab (bm (iv 0) ah rfl rfl) ag rfl) (by decide) rfl rfl)))))))
theorem oN (T:Txt K mg t):ck P w K mg base CX0 6 t.f8 t.g8 ["thing"] (spI K fX):=
 fE (N:=["thing"]) (b:=eu) T.F8 oq (lS T)
theorem jp (T:Txt K mg t):Bdy P w K mg base 0 ["text","figures"] "number_by" bC t.f9 cu:=
 λ_ _ _ _ _ _ hr=>(ak (cE (bd (sI rfl) (iv 0) (bY (ab aB (ab aB ag rfl) rfl)) rfl) (am (aN (jW (bd (gh hr rfl) (iv 0) aB (aX _)) (fN ah) ah))) bf) (ak (aD (i:=1) gF.nd rfl (.inl rfl) (jW (bd (gh hr rfl) (mz (iv 0) gQ (gM ah) rfl) aB (aX _)) (mz (iv 0) (gM ah) gQ rfl) (iv 0)) rfl (.inl rfl)) (ak (cE (eg (gm (bd vS (bP (fu rfl) rfl T.z_len PySem.boot_len (ab (iv 1) ag rfl) (by decide) (by decide) rfl rfl) (gx (v:=.int 60) rfl T.g_MOST_FIGURES ⟨_,rfl⟩ T.gq_MOST_FIGURES (by decide)) (aX _)) (eP (cK (cJ (bP (xR rfl rfl) rfl T.z_all PyProof.Rows.boot_all (ab (bF (gG (gT (aj bC).names ["text","figures"] ["sign"] 1 [] rfl rfl rfl (by decide +kernel)) rfl (by decide) (rP (iv 1)) (λ_ _ _ _ _=>(bQ (bj (i:=0) (show List.Nodup (α:=Str) ["sign"] by decide +kernel) rfl (.inl rfl)))) (λ_ _ _ _ _=>dZ) (λ_ _ _ _ _=>(jB (v7 rfl) (iv 0) (gx (v:=.str "0123456789") rfl T.g_FIGURES ⟨_,rfl⟩ T.gq_FIGURES (by decide)) rfl)) (λ_=>rfl))) ag rfl) (by decide) (by decide) rfl rfl) rfl rfl))))) (am lx) bf) (am (aN (em gc rfl T.z_int PyProof.Rows.boot_int (ab (iv 0) ag rfl) (by decide) (by decide) rfl rfl))))))
theorem mB (T:Txt K mg t):ck P w K mg base CX0 1 t.f9 t.g9 ["text"] (spI K dO):=
 fE (N:=["text","figures"]) (b:=cu) T.F9 gF (jp T)
theorem lN (T:Txt K mg t):Bdy P w K mg base 1 ["word","ahead"] "part_by" cv t.f10 eI:=
 λ_ _ _ _ _ _ hr=>(ak (aD (i:=1) jy.nd rfl (.inl rfl) (vI PySem.F.slot_str_rstrip PySem.F.type_str_rstrip qi n5 (iv 0) (ab (gx (v:=.str "abcdef") rfl T.g_LETTERS ⟨_,rfl⟩ T.gq_LETTERS (by decide)) ag rfl) rfl rfl rfl rfl) rfl (.inl rfl)) (am (aN (bY (ab (em (lw rfl) rfl T.z_tuple PyProof.Rows.boot_tuple (ab (bF (gG (gT (aj cv).names ["word","ahead"] ["letter"] 1 [] rfl rfl rfl (by decide +kernel)) rfl (by decide) (rP (mz (iv 0) (gM (bP (fu rfl) rfl T.z_len PySem.boot_len (ab (iv 1) ag rfl) (by decide) (by decide) rfl rfl)) gQ rfl)) (λ_ _ _ _ _=>(bQ (bj (i:=0) (show List.Nodup (α:=Str) ["letter"] by decide +kernel) rfl (.inl rfl)))) (λ_ _ _ _ _=>dZ) (λ_ _ _ _ _=>(vI PySem.F.slot_str_find PySem.F.type_str_find uc qz (gx (v:=.str "abcdef") rfl T.g_LETTERS ⟨_,rfl⟩ T.gq_LETTERS (by decide)) (ab (iv 0) ag rfl) rfl rfl rfl rfl)) (λ_=>rfl))) ag rfl) (by decide) (by decide) rfl rfl) (ab (av (mB T) (by decide) hr rfl T.m9 T.F9.kp T.b9 (ab (iv 1) ag rfl) (by decide) rfl rfl) ag rfl) rfl)))))
theorem oQ (T:Txt K mg t):ck P w K mg base CX0 2 t.f10 t.g10 ["word"] (spI K gY):=
 fE (N:=["word","ahead"]) (b:=eI) T.F10 jy (lN T)
theorem ke (T:Txt K mg t):Bdy P w K mg base 6 ["thing","words","parts","poly"] "read_poly" bA t.f11 di:=
 λ_ _ _ _ _ _ hr=>(ak (cE (cK (cJ (bP (fQ rfl) rfl T.z_isinstance PyProof.Rows.boot_isinstance (ab (iv 0) (ab (iA rfl T.z_str PyProof.Rows.boot_str (by decide) (by decide)) ag rfl) rfl) (by decide) (by decide) rfl rfl) rfl rfl)) (am lx) bf) (ak (aD (i:=1) dA.nd rfl (.inl rfl) (xu (iv 0) (ab aB ag rfl) rfl rfl rfl rfl) rfl (.inl rfl)) (ak (aD (i:=2) dA.nd rfl (.inl rfl) (yW (iv 1) (gM ah) gQ rfl) rfl (.inl rfl)) (ak (aD (i:=3) dA.nd rfl (.inl rfl) (bY (ab (bm (iv 1) ah rfl rfl) (ab (jW (bd (gh hr rfl) (iv 2) (bF (il (ab aB ag rfl))) (aX _)) (bY ag) (em (lw rfl) rfl T.z_tuple PyProof.Rows.boot_tuple (ab (bF (gG (gT (aj bA).names ["thing","words","parts","poly"] ["word"] 1 [] rfl rfl rfl (by decide +kernel)) rfl (by decide) (eR (iv 2) rfl) (λ_ _ _ _ _=>(bQ (bj (i:=0) (show List.Nodup (α:=Str) ["word"] by decide +kernel) rfl (.inl rfl)))) (λ_ _ _ _ _=>dZ) (λ_ _ _ _ _=>(av (oQ T) (by decide) hr rfl T.m10 T.F10.kp T.b10 (ab (iv 0) ag rfl) (by decide) rfl rfl)) (λ_=>rfl))) ag rfl) (by decide) (by decide) rfl rfl)) ag rfl) rfl)) rfl (.inl rfl)) (ak (cE (eg (gm (cK (cJ (av (oN T) (by decide) hr rfl T.m8 T.F8.kp T.b8 (ab (iv 3) ag rfl) (by decide) rfl rfl) rfl rfl)) (eP (bd (iD hr rfl) (av (eS T) (by decide) hr rfl T.m2 T.F2.kp T.b2 (ab (iv 3) ag rfl) (by decide) rfl rfl) (iv 0) (aX _))))) (am lx) bf) (am (aN (iv 3))))))))
theorem eL (T:Txt K mg t):ck P w K mg base CX0 7 t.f11 t.g11 ["thing"] (spI K ce):=
 fE (N:=["thing","words","parts","poly"]) (b:=di) T.F11 dA (ke T)
theorem kh (T:Txt K mg t):Bdy P w K mg base 0 ["_law_script","_law_k","_law_cell","_law_far","_law_seed"] "_law_hand" cc t.f12 df:=
 λ_ _ _ _ _ _ hr=>(ak (aD (i:=2) cG.nd rfl (.inl rfl) ah rfl (.inl rfl)) (ak (cE (bd tz (iv 1) (bP (fu rfl) rfl T.z_len PySem.boot_len (ab (iv 0) ag rfl) (by decide) (by decide) rfl rfl) (aX _)) (am (aD (i:=2) cG.nd rfl (.inl rfl) (bm (iv 0) (iv 1) rfl rfl) rfl (.inl rfl))) bf) (ak (aD (i:=3) cG.nd rfl (.inl rfl) (ar (dJ rfl) (ar (dJ rfl) (ar (dJ rfl) (ar kj ah ah) (ar kj ah ah)) (ar kj ah ah)) (ar kj ah ah)) rfl (.inl rfl)) (ak (aD (i:=4) cG.nd rfl (.inl rfl) (ar ef (ar (dJ rfl) (ar (aV rfl) (ar (aV rfl) (ar ef (iv 2) ah) (ar (dJ rfl) ah (iv 1))) ah) ah) ah) rfl (.inl rfl)) (am (aN (xa (il (ab (ar (dJ rfl) (ar ef (bP lQ rfl T.z_abs PyProof.Rows.boot_abs (ab (iv 2) ag rfl) (by decide) (by decide) rfl rfl) (iv 3)) (em gc rfl T.z_int PyProof.Rows.boot_int (ab (jB vE (bP lQ rfl T.z_abs PyProof.Rows.boot_abs (ab (iv 2) ag rfl) (by decide) (by decide) rfl rfl) (ar kj ah ah) (aX _)) ag rfl) (by decide) (by decide) rfl rfl)) (ab (iv 4) (ab ah ag rfl) rfl) rfl)))))))))
theorem mj (T:Txt K mg t):ck P w K mg base CX0 1 t.f12 t.g12 ["_law_script","_law_k"] (spI K da):=
 fE (N:=["_law_script","_law_k","_law_cell","_law_far","_law_seed"]) (b:=df) T.F12 cG (kh T)
theorem jd (T:Txt K mg t):Bdy P w K mg base 0 ["_law_hand_here","_law_many","_law_digit"] "_law_take" bU t.f13 cX:=
 λ_ _ _ _ _ _ hr=>(ak (cE (bd vS (bm (iv 0) ah rfl rfl) ah (aX _)) (ak (aD (i:=2) gJ.nd rfl (.inl rfl) (ar ef (bm (iv 0) ah rfl rfl) (iv 1)) rfl (.inl rfl)) (ak (jP (iv 0) ah (ar i5 (bm (iv 0) ah rfl rfl) (iv 1)) rfl rfl rfl) (am (aN (iv 2))))) bf) (ak (jP (iv 0) ah (ar (aV rfl) (bm (iv 0) ah rfl rfl) ah) rfl rfl rfl) (ak (jP (iv 0) ah (ar ef (ar (aV rfl) (ar (aV rfl) (ar (dJ rfl) (bm (iv 0) ah rfl rfl) ah) ah) (ar (dJ rfl) ah (bm (iv 0) ah rfl rfl))) ah) rfl rfl rfl) (am (aN (ar ef (ar i5 (ar ef (ar (dJ rfl) (bm (iv 0) ah rfl rfl) (ar (aV rfl) (ar ef (bm (iv 0) ah rfl rfl) ah) ah)) ah) ah) (iv 1)))))))
theorem aZ (T:Txt K mg t):ck P w K mg base CX0 1 t.f13 t.g13 ["_law_hand_here","_law_many"] (spI K aw):=
 fE (N:=["_law_hand_here","_law_many","_law_digit"]) (b:=cX) T.F13 gJ (jd T)
theorem jY (T:Txt K mg t):Bdy P w K mg base 1 ["_law_hand_here","_law_some"] "_law_pick" ca t.f14 dU:=
 λ_ _ _ _ _ _ hr=>(am (aN (bm (iv 1) (av (aZ T) (by decide) hr rfl T.m13 T.F13.kp T.b13 (ab (iv 0) (ab (bP (fu rfl) rfl T.z_len PySem.boot_len (ab (iv 1) ag rfl) (by decide) (by decide) rfl rfl) ag rfl) rfl) (by decide) rfl rfl) rfl rfl)))
theorem lr (T:Txt K mg t):ck P w K mg base CX0 2 t.f14 t.g14 ["_law_hand_here","_law_some"] (spI K dW):=
 fE (N:=["_law_hand_here","_law_some"]) (b:=dU) T.F14 lO (jY T)
theorem kn (T:Txt K mg t):Bdy P w K mg base 1 ["_law_hand_here","_law_kind","_law_many","_law_some","_law_turn","_law_mask","_law_number"] "_law_poly" bp t.f15 dM:=
 λ_ _ _ _ _ _ hr=>(ak (aD (i:=2) bH.nd rfl (.inl rfl) (bm (bF (il (ab (av (aZ T) (by decide) hr rfl T.m13 T.F13.kp T.b13 (ab (iv 0) (ab ah ag rfl) rfl) (by decide) rfl rfl) (ab (av (aZ T) (by decide) hr rfl T.m13 T.F13.kp T.b13 (ab (iv 0) (ab ah ag rfl) rfl) (by decide) rfl rfl) (ab ah ag rfl) rfl) rfl))) (ar (aV rfl) (ar i5 (av (aZ T) (by decide) hr rfl T.m13 T.F13.kp T.b13 (ab (iv 0) (ab ah ag rfl) rfl) (by decide) rfl rfl) ah) (em gc rfl T.z_int PyProof.Rows.boot_int (ab (jB (gh hr rfl) (av (aZ T) (by decide) hr rfl T.m13 T.F13.kp T.b13 (ab (iv 0) (ab ah ag rfl) rfl) (by decide) rfl rfl) ah (aX _)) ag rfl) (by decide) (by decide) rfl rfl)) rfl rfl) rfl (.inl rfl)) (ak (aD (i:=3) bH.nd rfl (.inr rfl) vf rfl (.inl rfl)) (ak (gq (gL rfl T.z_range (ab (iv 2) ag rfl) rfl) (bQ (bj (i:=4) bH.nd rfl (.inl rfl))) (ak (aD (i:=5) bH.nd rfl (.inr rfl) (jW (bd (gh hr rfl) (iv 2) ah (aX _)) (iv 4) (av (aZ T) (by decide) hr rfl T.m13 T.F13.kp T.b13 (ab (iv 0) (ab ah ag rfl) rfl) (by decide) rfl rfl)) rfl (.inl rfl)) (ak (aD (i:=6) bH.nd rfl (.inl rfl) (bm (bF (il (ab (fN ah) (ab (fN ah) (ab (fN ah) (ab ah (ab ah (ab ah (ab ah (ab (fN ah) ag rfl) rfl) rfl) rfl) rfl) rfl) rfl) rfl))) (av (aZ T) (by decide) hr rfl T.m13 T.F13.kp T.b13 (ab (iv 0) (ab ah ag rfl) rfl) (by decide) rfl rfl) rfl rfl) rfl (.inl rfl)) (ak (cE (bd (gh hr rfl) (av (aZ T) (by decide) hr rfl T.m13 T.F13.kp T.b13 (ab (iv 0) (ab ah ag rfl) rfl) (by decide) rfl rfl) ah (aX _)) (am (aD (i:=6) bH.nd rfl (.inl rfl) (ar (aV rfl) (ar (dJ rfl) (iv 6) (em gc rfl T.z_int PyProof.Rows.boot_int (ab (ar (aV rfl) aB (ar (uJ rfl) aB (av (aZ T) (by decide) hr rfl T.m13 T.F13.kp T.b13 (ab (iv 0) (ab ah ag rfl) rfl) (by decide) rfl rfl))) ag rfl) (by decide) (by decide) rfl rfl)) (av (aZ T) (by decide) hr rfl T.m13 T.F13.kp T.b13 (ab (iv 0) (ab ah ag rfl) rfl) (by decide) rfl rfl)) rfl (.inl rfl))) bf) (am (cE (bd (iD hr rfl) (iv 6) ah (aX _)) (am (ud hr (iv 3) (em (lw rfl) rfl T.z_tuple PyProof.Rows.boot_tuple (ab (bF (gG (gT (aj bp).names ["_law_hand_here","_law_kind","_law_many","_law_some","_law_turn","_law_mask","_law_number"] ["_law_k","_law_mask"] 1 [5] rfl rfl rfl (by decide +kernel)) rfl (by decide) (gL rfl T.z_range (ab ah ag rfl) rfl) (λ_ _ _ _ _=>(bQ (bj (i:=0) (show List.Nodup (α:=Str) ["_law_k","_law_mask"] by decide +kernel) rfl (.inl rfl)))) (λ_ _ _ _ _=>(vc (bd (gh hr rfl) (ar ef (ar i5 (iv 1) (ar wk ah (iv 0))) ah) ah (aX _)))) (λ_ _ _ _ _=>(iv 0)) (λ_=>rfl))) ag rfl) (by decide) (by decide) rfl rfl) (iv 6) rfl)) bf))))) PassesOwn.never rfl (λ_=>rfl)) (am (aN (bY (ab (iv 1) (ab (em (lw rfl) rfl T.z_tuple PyProof.Rows.boot_tuple (ab (bF (gG (gT (aj bp).names ["_law_hand_here","_law_kind","_law_many","_law_some","_law_turn","_law_mask","_law_number"] ["_law_term","_law_some"] 1 [3] rfl rfl rfl (by decide +kernel)) rfl (by decide) (eR (bF (qE hr rfl T.z_sorted (iv 3) rfl rfl rfl)) rfl) (λ_ _ _ _ _=>(bQ (bj (i:=0) (show List.Nodup (α:=Str) ["_law_term","_law_some"] by decide +kernel) rfl (.inl rfl)))) (λ_ _ _ _ _=>dZ) (λ_ _ _ _ _=>(bY (ab (iv 0) (ab (xn hr (iv 1) (iv 0) (λ_ _=>rfl)) ag rfl) rfl))) (λ_=>rfl))) ag rfl) (by decide) (by decide) rfl rfl) ag rfl) rfl)))))))
theorem lZ (T:Txt K mg t):ck P w K mg base CX0 2 t.f15 t.g15 ["_law_hand_here","_law_kind"] (spI K fG):=
 yR (N:=["_law_hand_here","_law_kind","_law_many","_law_some","_law_turn","_law_mask","_law_number"]) (b:=dM) T.F15 bH (kn T)
theorem gw (T:Txt K mg t):Bdy P w K mg base 0 ["_law_poly_here","_law_text","_law_term","_law_number","_law_letters","_law_figures"] "_law_written" ba t.f16 bV:=
 λ_ _ _ _ _ _ hr=>(ak (aD (i:=1) aU.nd rfl (.inl rfl) (bm (iv 0) ah rfl rfl) rfl (.inl rfl)) (ak (gq (eR (bm (iv 0) ah rfl rfl) rfl) (rh (gC (bj (i:=2) aU.nd rfl (.inl rfl)) (gC (bj (i:=3) aU.nd rfl (.inl rfl)) oT)) rfl rfl rfl rfl rfl) (ak (aD (i:=4) aU.nd rfl (.inl rfl) (iY aB (ab (bF (gG (gT (aj ba).names ["_law_poly_here","_law_text","_law_term","_law_number","_law_letters","_law_figures"] ["_law_k"] 1 [] rfl rfl rfl (by decide +kernel)) rfl (by decide) (eR (iv 2) rfl) (λ_ _ _ _ _=>(bQ (bj (i:=0) (show List.Nodup (α:=Str) ["_law_k"] by decide +kernel) rfl (.inl rfl)))) (λ_ _ _ _ _=>dZ) (λ_ _ _ _ _=>(bm aB (iv 0) rfl rfl)) (λ_=>rfl))) ag rfl) rfl rfl rfl rfl) rfl (.inl rfl)) (ak (aD (i:=5) aU.nd rfl (.inl rfl) (em n8 rfl T.z_str PyProof.Rows.boot_str (ab (iv 3) ag rfl) (by decide) (by decide) rfl rfl) rfl (.inl rfl)) (ak (cE (eg (lR (bd (iD hr rfl) (iv 4) aB (aX _)) (jS (bd (sI rfl) (iv 5) (bY (ab aB (ab aB ag rfl) rfl)) rfl)))) (am (aD (i:=5) aU.nd rfl (.inl rfl) (mz (iv 5) gQ (gM (fN ah)) rfl) rfl (.inl rfl))) bf) (am (aD (i:=1) aU.nd rfl (.inl rfl) (ar (aV rfl) (ar (aV rfl) (ar (aV rfl) (iv 1) aB) (iv 5)) (iv 4)) rfl (.inl rfl)))))) PassesOwn.never rfl (λ_=>rfl)) (am (aN (jW (bd (iD hr rfl) (bm (iv 0) ah rfl rfl) (bY ag) (aX _)) (iv 1) (ar (aV rfl) (iv 1) aB))))))
theorem iL (T:Txt K mg t):ck P w K mg base CX0 1 t.f16 t.g16 ["_law_poly_here"] (spI K dL):=
 fE (N:=["_law_poly_here","_law_text","_law_term","_law_number","_law_letters","_law_figures"]) (b:=bV) T.F16 aU (gw T)
theorem j6 (T:Txt K mg t):Bdy P w K mg base 0 ["_law_found","_law_due"] "_law_same" bZ t.f17 dc:=
 λ_ _ _ _ _ _ hr=>(am (aN (jB (gh hr rfl) (bP (nB hr rfl) rfl T.z_repr PyProof.Rows.boot_repr (ab (iv 0) ag rfl) (by decide) (by decide) rfl rfl) (bP (nB hr rfl) rfl T.z_repr PyProof.Rows.boot_repr (ab (iv 1) ag rfl) (by decide) (by decide) rfl rfl) (aX _))))
theorem dv (T:Txt K mg t):ck P w K mg base CX0 1 t.f17 t.g17 ["_law_found","_law_due"] (spI K bg):=
 fE (N:=["_law_found","_law_due"]) (b:=dc) T.F17 lH (j6 T)
theorem sS (T:Txt K mg t):Bdy P w K mg base 7 ["_law_script","_law_k","_law_hand_here","_law_kind","_law_poly_here","_law_text","_law_again","_law_figures","_law_great"] "law" iH t.f18 oU:=
 λ_ _ _ _ _ _ hr=>(ak (gq (gL rfl T.z_range (ab (ar (aV rfl) ah (bP (wn rfl) rfl T.z_min PyProof.Rows.boot_min (ab ah (ab (bP (fu rfl) rfl T.z_len PySem.boot_len (ab (iv 0) ag rfl) (by decide) (by decide) rfl rfl) ag rfl) rfl) (by decide) (by decide) rfl rfl)) ag rfl) rfl) (bQ (bj (i:=1) d3.nd rfl (.inl rfl))) (ak (aD (i:=2) d3.nd rfl (.inr rfl) (av (mj T) (by decide) hr rfl T.m12 T.F12.kp T.b12 (ab (iv 0) (ab (iv 1) ag rfl) rfl) (by decide) rfl rfl) rfl (.inl rfl)) (ak (gq (eR (bY (ab aB (ab aB ag rfl) rfl)) rfl) (bQ (bj (i:=3) d3.nd rfl (.inl rfl))) (ak (aD (i:=4) d3.nd rfl (.inl rfl) (av (lZ T) (by decide) hr rfl T.m15 T.F15.kp T.b15 (ab (iv 2) (ab (iv 3) ag rfl) rfl) (by decide) rfl rfl) rfl (.inl rfl)) (ak (aD (i:=5) d3.nd rfl (.inl rfl) (av (iL T) (by decide) hr rfl T.m16 T.F16.kp T.b16 (ab (iv 4) ag rfl) (by decide) rfl rfl) rfl (.inl rfl)) (am (gq (gL rfl T.z_range (ab ah ag rfl) rfl) (bQ (bj (i:=6) d3.nd rfl (.inl rfl))) (am (cE (eg (gm (cK (cJ (av (dv T) (by decide) hr rfl T.m17 T.F17.kp T.b17 (ab (av (eS T) (by decide) hr rfl T.m2 T.F2.kp T.b2 (ab (iv 4) ag rfl) (by decide) rfl rfl) (ab (iv 5) ag rfl) rfl) (by decide) rfl rfl) rfl rfl)) (eP (cK (cJ (av (dv T) (by decide) hr rfl T.m17 T.F17.kp T.b17 (ab (av (eL T) (by decide) hr rfl T.m11 T.F11.kp T.b11 (ab (iv 5) ag rfl) (by decide) rfl rfl) (ab (iv 4) ag rfl) rfl) (by decide) rfl rfl) rfl rfl))))) (am (aN fB)) bf)) PassesOwn.never rfl (λ_=>rfl))))) PassesOwn.never rfl (λ_=>rfl)) (ak (aD (i:=7) d3.nd rfl (.inl rfl) (iY aB (ab (bF (gG (gT (aj iH).names ["_law_script","_law_k","_law_hand_here","_law_kind","_law_poly_here","_law_text","_law_again","_law_figures","_law_great"] ["_law_turn","_law_hand_here"] 1 [2] rfl rfl rfl (by decide +kernel)) rfl (by decide) (gL rfl T.z_range (ab ah ag rfl) rfl) (λ_ _ _ _ _=>(bQ (bj (i:=0) (show List.Nodup (α:=Str) ["_law_turn","_law_hand_here"] by decide +kernel) rfl (.inl rfl)))) (λ_ _ _ _ _=>dZ) (λ_ _ _ _ _=>(av (lr T) (by decide) hr rfl T.m14 T.F14.kp T.b14 (ab (iv 1) (ab (bF (il (ab aB (ab aB (ab aB ag rfl) rfl) rfl))) ag rfl) rfl) (by decide) rfl rfl)) (λ_=>rfl))) ag rfl) rfl rfl rfl rfl) rfl (.inl rfl)) (ak (aD (i:=8) d3.nd rfl (.inl rfl) (bY (ab aB (ab (bY (ab (bY (ab (bY ag) (ab (em gc rfl T.z_int PyProof.Rows.boot_int (ab (ar (aV rfl) aB (iv 7)) ag rfl) (by decide) (by decide) rfl rfl) ag rfl) rfl)) (ab (bY (ab (bY (ab ah (ab ah ag rfl) rfl)) (ab (fN (em gc rfl T.z_int PyProof.Rows.boot_int (ab (ar (aV rfl) aB (iv 7)) ag rfl) (by decide) (by decide) rfl rfl)) ag rfl) rfl)) (ab (bY (ab (bY (ab ah ag rfl)) (ab ah ag rfl) rfl)) ag rfl) rfl) rfl)) ag rfl) rfl)) rfl (.inl rfl)) (ak (aD (i:=5) d3.nd rfl (.inl rfl) (ar (aV rfl) (ar (aV rfl) (ar (aV rfl) (ar (aV rfl) aB (iv 7)) aB) (iv 7)) aB) rfl (.inl rfl)) (am (cE (eg (gm (cK (cJ (av (dv T) (by decide) hr rfl T.m17 T.F17.kp T.b17 (ab (av (eL T) (by decide) hr rfl T.m11 T.F11.kp T.b11 (ab (iv 5) ag rfl) (by decide) rfl rfl) (ab (iv 8) ag rfl) rfl) (by decide) rfl rfl) rfl rfl)) (eP (cK (cJ (av (dv T) (by decide) hr rfl T.m17 T.F17.kp T.b17 (ab (av (eS T) (by decide) hr rfl T.m2 T.F2.kp T.b2 (ab (av (eL T) (by decide) hr rfl T.m11 T.F11.kp T.b11 (ab (iv 5) ag rfl) (by decide) rfl rfl) ag rfl) (by decide) rfl rfl) (ab (iv 5) ag rfl) rfl) (by decide) rfl rfl) rfl rfl))))) (am (aN fB)) bf))))))) PassesOwn.never rfl (λ_=>rfl)) (am (aN fB)))
theorem xZ (T:Txt K mg t):ck P w K mg base CX0 8 t.f18 t.g18 ["_law_script"] (spI K nC):=
 yR (N:=["_law_script","_law_k","_law_hand_here","_law_kind","_law_poly_here","_law_text","_law_again","_law_figures","_law_great"]) (b:=oU) T.F18 d3 (sS T)
end
end Own
end
namespace L2
open PySem
end L2
namespace L2
noncomputable def Trm (n:Nat) (t:List Int):Prop:=t.Pairwise (· < ·)/\∀ k ∈ t,0<=k/\k < n
theorem iU {n:Nat}{t:List Int} (h:Trm n t):t.length<=n:=by
 have key:∀ (t:List Int) (a:Int),t.Pairwise (· < ·)->(∀ k ∈ t,a<=k/\k < n)->(t.length:Int)<=max 0 ((n:Int) - a):=by
  intro t
  induction t with
  | nil=>intro a _ _;simp;lia
  | cons x t ih=>
   intro a hp hm
   have h1:=hm x List.mem_cons_self
   have:=ih (x+1) (List.pairwise_cons.mp hp).2 λk hk=>⟨(List.pairwise_cons.mp hp).1 k hk,(hm k (List.mem_cons_of_mem _ hk)).2⟩
   rw [List.length_cons];push_cast;lia
 have:=key t 0 h.1 h.2
 lia
end L2
namespace L2
end L2
namespace L2
open PySem
abbrev Prt:=List Int×Int
noncomputable def aC (p:Prt):D:=.tup [ax p.1,.int p.2]
noncomputable def bB (kd:Str) (ps:List Prt):D:=.tup [.str kd,.tup (ps.map aC)]
end L2
namespace L2
open PySem
end L2
namespace L2
open PySem
theorem ap {g:Sto->W->W->Option D}{a b:Ef}{env:Ev}{st s1 s2:Sto}{x y:W}{d:D} (ha:a env st=some (x,s1)) (hb:b env s1=some (y,s2)) (hg:g s2 x y=some d):iOp g a b env st=some (.d d,s2):=by
 simp only [iOp,ha,hb,hg,Option.bind_some,Option.map_some]
theorem aL {g:Sto->W->W->Option D}{a b:Ef}{env:Ev}{st s1 s2:Sto}{x y:W}{k:Bool} (ha:a env st=some (x,s1)) (hb:b env s1=some (y,s2)) (hg:g s2 x y=some (.bl k)):aP g a b env st=some (k,s2):=by
 simp only [aP,ha,hb,hg,Option.bind_some,mm,Option.map_some]
theorem al {a b:Sf}{env e:Ev}{st s:Sto}{r:Fl} (ha:a env st=some (.nx e s)) (hb:b e s=some r):aq a b env st=some r:=by
 simp only [aq,ha,hb,Option.bind_some]
theorem cy {a b:Sf}{env:Ev}{st s:Sto}{w:W} (ha:a env st=some (.rt w s)):aq a b env st=some (.rt w s):=by
 simp only [aq,ha,Option.bind_some]
theorem au {i:Nat}{f:Ef}{env:Ev}{st s:Sto}{w:W} (h:f env st=some (w,s)):bh (.nm i) f env st=some (.nx (env.set i (some w)) s):=by
 simp only [bh,h,Option.bind_some,dr,Option.map_some]
theorem ao {m:Fn}{a:Af}{env:Ev}{st s:Sto}{ws:List W}{r:W×Sto} (ha:a env st=some (ws,s)) (hm:m ws s=some r):ay m a env st=some r:=by
 simp only [ay,ha,hm,Option.bind_some]
theorem aO {g:Sto->List W->Option D}{a:Af}{env:Ev}{st s:Sto}{ws:List W}{d:D} (ha:a env st=some (ws,s)) (hm:g s ws=some d):iCB g a env st=some (.d d,s):=by
 simp only [iCB,ha,hm,Option.bind_some,Option.map_some]
theorem ae {a:Ef}{b:Af}{env:Ev}{st s1 s2:Sto}{x:W}{y:List W} (ha:a env st=some (x,s1)) (hb:b env s1=some (y,s2)):aa a b env st=some (x::y,s2):=by
 simp only [aa,ha,hb,Option.bind_some,Option.map_some]
theorem dw {fi:Lf}{g:Tg}{b:Sf}{env:Ev}{st s:Sto}{ds:List D}{r:Fl} (h:fi env st=some (ds,s)) (hf:dz g b ds env s=some r):i8 fi g b env st=some r:=by
 simp only [i8,h,hf,Option.bind_some]
theorem aM {f:Ef}{env:Ev}{st s:Sto}{w:W} (h:f env st=some (w,s)):bv f env st=some (.rt w s):=by
 simp only [bv,h,Option.map_some]
theorem fj {c:Tf}{a b:Sf}{env:Ev}{st s:Sto}{r:Option Fl} (h:c env st=some (true,s)) (ha:a env s=r):cm c a b env st=r:=by
 simp only [cm,h,Option.bind_some,if_true,ha]
theorem cF {c:Tf}{a b:Sf}{env:Ev}{st s:Sto}{r:Option Fl} (h:c env st=some (false,s)) (hb:b env s=r):cm c a b env st=r:=by
 simp only [cm,h,Option.bind_some,Bool.false_eq_true,if_false,hb]
theorem fF {k:Nat}{js:List Nat}{fi:Lf}{g:Tg}{tt:Tf}{te:Ef}{env:Ev}{st s s2:Sto}{ds ys:List D} (h:fi env st=some (ds,s)) (hl:ds.length<=1000000) (hc:lcI g tt te (ku k js env) ds s=some (ys,s2)):iLc k js fi g tt te env st=some (ys,s2):=by
 simp only [iLc,h,hc,hl,Option.bind_some,if_true]
theorem cb {a:Lf}{env:Ev}{st s:Sto}{ds:List D} (h:a env st=some (ds,s)):bo a env st=some (.d (.lst ds),s):=by
 simp only [bo,h,Option.map_some]
theorem bq {n k:Nat}{b:Sf}{ws:List W}{st s:Sto}{w:W} (hl:ws.length=k) (h:b (ws.map some++List.replicate (n - k) none) st=some (.rt w s)):cL n k b ws st=some (w,s):=by
 simp only [cL,hl,if_true,h,Option.bind_some]
theorem nR {n k:Nat}{b:Sf}{ws:List W}{st s:Sto}{x:D} (hl:ws.length=k) (h:b (ws.map some++List.replicate (n - k) none) st=some (.rt (.d x) s)):oo n k b ws st=some (.d x,s.take st.length):=by
 simp only [oo,hl,if_true,h,Option.bind_some,uM]
theorem vt (st:Sto) (c c':C):(st++[c]).set st.length c'=st++[c']:=by
 rw [List.set_append_right _ _ (Nat.le_refl _),Nat.sub_self]
 rfl
theorem sH (st u:Sto):(st++u).take st.length=st:=List.take_left
end L2
section
set_option maxHeartbeats 1000000
namespace Own
open PySem L2
noncomputable def S (l:List Nat):Str:=⟨l.toArray⟩
theorem iw (a b:List Nat):S a++S b=S (a++b):=by
 show (⟨a.toArray++b.toArray⟩:Str)=⟨(a++b).toArray⟩
 congr 1
 simp
theorem bO (a:List Nat):(S a).length=a.length:=by show a.toArray.size=_;simp
theorem rA (a:List Nat):(S a).cps.toList=a:=rfl
theorem vN {a b:List Nat} (h:S a=S b):a=b:=by
 have:(S a).cps.toList=(S b).cps.toList:=by rw [h]
 exact this
theorem jR (a b:List Nat):(S a==S b)=decide (a=b):=by
 by_cases h:a=b
 ·subst h;simp
 ·have:¬ S a=S b:=λq=>h (vN q)
  simp [h,this]
open PySem.NumText in
noncomputable def dg (m:Nat):List Nat:=(Nat.toDigits 10 m).map Char.toNat
theorem o9 (m:Nat):(toString ((m:Nat):Int):Str)=S (dg m):=by
 have h:=PySem.W.KIN.signs_num m
 show (PySem.Str.ofString (toString ((m:Nat):Int)))=S (dg m)
 generalize PySem.Str.ofString (toString ((m:Nat):Int))=x at h
 obtain⟨a⟩:=x
 show (⟨a⟩:Str)=⟨(dg m).toArray⟩
 congr 1
 have h:a.toList=dg m:=h
 rw [<-h]
theorem j0 {m:Nat} (h:m < 10):dg m=[48+m]:=by
 unfold dg
 rw [Nat.toDigits_of_lt_base h]
 have:m=0\/m=1\/m=2\/m=3\/m=4\/m=5\/m=6\/m=7\/m=8\/m=9:=by lia
 rcases this with rfl | rfl | rfl | rfl | rfl | rfl | rfl | rfl | rfl | rfl<;>rfl
theorem i7 {m d:Nat} (h0:0 < m) (hd:d < 10):dg (10*m+d)=dg m++[48+d]:=by
 have t:=Nat.toDigits_append_toDigits (b:=10) (n:=m) (d:=d) (by decide) h0 hd
 rw [<-j0 hd]
 unfold dg
 rw [<-t,List.map_append]
noncomputable def gn:Nat->Nat->List Nat
 | 0,_=>[]
 | k+1,s=>gn k (s / 10)++[48+s % 10]
theorem gO:∀ (k s:Nat),(gn k s).length=k
 | 0,_=>rfl
 | k+1,s=>by rw [gn,List.length_append,gO k];rfl
theorem kU:∀ k:Nat,gn k 0=List.replicate k 48
 | 0=>rfl
 | k+1=>by
  rw [gn,Nat.zero_div,kU k,Nat.zero_mod,List.replicate_succ']
theorem rV:∀ (k q s:Nat),0 < q->s < 10 ^ k->dg (q*10 ^ k+s)=dg q++gn k s
 | 0,q,s,_,hs=>by
  have:s=0:=by rw [Nat.pow_zero] at hs;lia
  subst this
  rw [gn,List.append_nil,Nat.pow_zero,Nat.mul_one,Nat.add_zero]
 | k+1,q,s,hq,hs=>by
  rw [Nat.pow_succ] at hs
  have e:q*10 ^ (k+1)+s=10*(q*10 ^ k+s / 10)+s % 10:=by
   rw [Nat.pow_succ]
   have h1:q*(10 ^ k*10)=10*(q*10 ^ k):=by rw [<-Nat.mul_assoc,Nat.mul_comm]
   rw [h1]
   have:=Nat.div_add_mod s 10
   lia
  have hpos:0 < q*10 ^ k:=Nat.mul_pos hq (Nat.pow_pos (by decide))
  rw [e,i7 (by lia) (Nat.mod_lt _ (by decide)),rV k q (s / 10) hq (by lia),gn,List.append_assoc]
theorem lK:∀ {k m:Nat},1<=k->m < 10 ^ k->(dg m).length<=k:=λ{k m} hk hm=>by
 unfold dg
 rw [List.length_map]
 exact PyProof.Rows.digits10_le hk hm
theorem lm:∀ (k s:Nat),1<=k->s < 10 ^ k->List.replicate (k - (dg s).length) 48++dg s=gn k s
 | 0,_,h,_=>by lia
 | k+1,s,_,hs=>by
  by_cases h:s < 10
  ·rw [j0 h,gn,Nat.div_eq_of_lt h,kU,Nat.mod_eq_of_lt h];rfl
  ·have hk:1<=k:=by
    rcases Nat.eq_zero_or_pos k with rfl | h'
    ·rw [Nat.zero_add,Nat.pow_one] at hs;lia
    ·exact h'
   have e:s=10*(s / 10)+s % 10:=(Nat.div_add_mod s 10).symm
   have ed:dg s=dg (s / 10)++[48+s % 10]:=by
    conv=>lhs;rw [e]
    exact i7 (by lia) (Nat.mod_lt _ (by decide))
   rw [Nat.pow_succ] at hs
   have ih:=lm k (s / 10) hk (by lia)
   rw [ed,gn,<-ih,List.length_append,List.length_singleton,Nat.add_sub_add_right,List.append_assoc]
theorem nX (m:Nat):dg m≠[]:=λe=>by
 by_cases hm:m < 10
 ·rw [j0 hm] at e;cases e
 ·have ed:dg m=dg (m / 10)++[48+m % 10]:=by
   conv=>lhs;rw [<-Nat.div_add_mod m 10]
   exact i7 (by lia) (Nat.mod_lt _ (by decide))
  rw [ed] at e
  simp at e
theorem eh {m c:Nat} (h:c ∈ dg m):48<=c/\c<=57:=by
 induction m using Nat.strongRecOn with
 | _ m ih=>
  by_cases hm:m < 10
  ·rw [j0 hm] at h
   have:=List.mem_singleton.mp h
   lia
  ·have ed:dg m=dg (m / 10)++[48+m % 10]:=by
    conv=>lhs;rw [<-Nat.div_add_mod m 10]
    exact i7 (by lia) (Nat.mod_lt _ (by decide))
   rw [ed] at h
   rcases List.mem_append.mp h with h | h
   ·exact ih (m / 10) (by lia) h
   ·have:=List.mem_singleton.mp h
    have:=Nat.mod_lt m (show 10 > 0 by decide)
    lia
theorem lD (m:Nat):PySem.NumText.digitsVal (dg m)=m:=PySem.W.KIN.val_back m
theorem oi {m n:Nat} (h:dg m=dg n):m=n:=by rw [<-lD m,h,lD]
theorem ou (a b:String):PySem.Str.ofString (a++b)=PySem.Str.ofString a++PySem.Str.ofString b:=by
 have h1:=PyProof.Rows.signs_ofString (a++b)
 have h2:=PyProof.Rows.signs_ofString a
 have h3:=PyProof.Rows.signs_ofString b
 rw [String.toList_append,List.map_append,<-h2,<-h3] at h1
 generalize PySem.Str.ofString (a++b)=x at *
 generalize PySem.Str.ofString a=y at *
 generalize PySem.Str.ofString b=z at *
 obtain⟨x⟩:=x
 obtain⟨y⟩:=y
 obtain⟨z⟩:=z
 show (⟨x⟩:Str)=⟨y++z⟩
 congr 1
 apply Array.toList_inj.mp
 rw [Array.toList_append]
 exact h1
noncomputable def aJ (n:Int):List Nat:=if n < 0 then 45::dg n.natAbs else dg n.natAbs
theorem uY (n:Int):(toString n:Str)=S (aJ n):=by
 unfold aJ
 by_cases h:n < 0
 ·rw [if_pos h]
  obtain⟨m,rfl⟩:∃ m:Nat,n=-((m+1:Nat):Int):=⟨n.natAbs - 1,by lia⟩
  have e:(-((m+1:Nat):Int)).natAbs=m+1:=by lia
  rw [e]
  have h1:=o9 (m+1)
  have h2:(toString (-((m+1:Nat):Int)):String) = "-"++toString (((m+1:Nat):Nat):Int):=rfl
  rw [h2]
  show PySem.Str.ofString ("-"++toString ((m+1:Nat):Int))=_
  rw [ou]
  show S [45]++PySem.Str.ofString (toString ((m+1:Nat):Int))=_
  rw [show PySem.Str.ofString (toString ((m+1:Nat):Int))=S (dg (m+1)) from h1,iw];rfl
 ·rw [if_neg h]
  obtain⟨m,rfl⟩:=Int.eq_ofNat_of_zero_le (by lia:0<=n)
  exact o9 m
theorem gH {n:Int} (h:n.natAbs < 10 ^ 60):(aJ n).length<=61:=by
 unfold aJ
 have:=lK (k:=60) (by decide) h
 split
 ·rw [List.length_cons];lia
 ·lia
theorem rZ (n:Int):aJ n≠[]:=by
 unfold aJ
 split
 ·simp
 ·exact nX _
theorem mE {n:Int}:aJ n=[49]↔n=1:=by
 refine⟨λh=>?_,λh=>by subst h;rfl⟩
 unfold aJ at h
 split at h
 ·cases h
 ·have:=oi (h.trans (show [49]=dg 1 from rfl));lia
theorem jA {n:Int}:aJ n=[45,49]↔n=-1:=by
 refine⟨λh=>?_,λh=>by subst h;rfl⟩
 unfold aJ at h
 split at h
 ·injection h with _ h
  have:=oi (h.trans (show [49]=dg 1 from rfl));lia
 ·have:=eh (m:=n.natAbs) (c:=45) (by rw [h];simp)
  lia
theorem rN {n:Int}:aJ n=[48]↔n=0:=by
 refine⟨λh=>?_,λh=>by subst h;rfl⟩
 unfold aJ at h
 split at h
 ·cases h
 ·have:=oi (h.trans (show [48]=dg 0 from rfl));lia
theorem np {n:Int}{c:Nat} (h:c ∈ aJ n):c=45\/(48<=c/\c<=57):=by
 unfold aJ at h
 split at h
 ·rcases List.mem_cons.mp h with h | h
  ·exact .inl h
  ·exact .inr (eh h)
 ·exact .inr (eh h)
theorem py {n:Int} (h:n.natAbs < 10 ^ 60):PySem.intText? (S (aJ n))=some n:=by
 have hl:=gH h
 by_cases h0:n < 0
 ·have e:aJ n=45::dg n.natAbs:=by unfold aJ;rw [if_pos h0]
  rw [e] at hl ⊢
  have:=PySem.intText_neg (x:=S (45::dg n.natAbs)) (cs:=dg n.natAbs) rfl (λc hc=>eh hc) (nX _) (by rw [bO];lia)
  rw [this,lD]
  congr 1
  lia
 ·have e:aJ n=dg n.natAbs:=by unfold aJ;rw [if_neg h0]
  rw [e] at hl ⊢
  have:=PySem.intText_digits (x:=S (dg n.natAbs)) (λc hc=>eh hc) (nX _) (by rw [bO];lia)
  rw [this]
  show some ((PySem.NumText.digitsVal (dg n.natAbs):Nat):Int)=_
  rw [lD]
  congr 1
  lia
end Own
end
section
set_option maxHeartbeats 1000000
namespace Own
open PySem L2
theorem cS {st:Sto}{n:Nat}{m:Int} (h:cj st n) (m0:0 < m) (m1:m < 1073741824):∃ r st',0<=r/\r < m/\Stp n st st'/\aw [.h n,.d (.int m)] st=some (.d (.int r),st'):=by
 have hn:=h.lt
 obtain⟨x,y,z,h0,h⟩:=h
 by_cases hx:0 < x
 ·refine⟨x % m,st.set n (.l [.int (x / m),.int y,.int z]),Int.emod_nonneg _ (by lia),Int.emod_lt_of_pos _ m0,⟨⟨_,rfl⟩,_,_,_,Int.ediv_nonneg h0 (by lia),lC hn⟩,?_⟩
  simp only [aw,cX,iV,iC,iOp,aP,bx,aq,bh,nM,gt,bv,cm,cL,dr,mm,fO,lsD,dIx,aK,d9,gi,eE,dGt,Option.bind_some,Option.map_some,List.getD_cons_zero,List.getD_cons_succ,List.set_cons_zero,List.set_cons_succ,List.map_cons,List.map_nil,List.length_cons,List.length_nil,List.replicate_succ,List.replicate_zero,List.cons_append,List.nil_append,Nat.reduceAdd,Nat.reduceSub,if_true,uz,yI,Nat.zero_add,and_self,decide_true,lg,Int.reduceNeg,h,hx,m0,m1,decide_true,and_self]
 ·have hy0:0<=(y*39373+12345+31*(z+1)) % 2147483647:=Int.emod_nonneg _ (by decide)
  have hy1:(y*39373+12345+31*(z+1)) % 2147483647 < 2147483647:=Int.emod_lt_of_pos _ (by decide)
  have k1:PySem.IntMulOk y 39373:=mR (by decide)
  have k2:PySem.IntMulOk 31 (z+1):=mI (by decide)
  have k3:∀ q,PySem.IntMulOk ((y*39373+12345+31*(z+1)) % 2147483647) q:=λq=>mI (by lia)
  refine⟨(y*39373+12345+31*(z+1)) % 2147483647*((y*39373+12345+31*(z+1)) % 2147483647 % 40009+3) % 2147483629 / 64 % m,st.set n (.l [.int x,.int ((y*39373+12345+31*(z+1)) % 2147483647),.int (z+1)]),Int.emod_nonneg _ (by lia),Int.emod_lt_of_pos _ m0,⟨⟨_,rfl⟩,_,_,_,h0,lC hn⟩,?_⟩
  simp only [aw,cX,iV,iC,iOp,aP,bx,aq,bh,nM,gt,bv,cm,cL,dr,mm,fO,lsD,dIx,aK,d9,gi,eE,dGt,Option.bind_some,Option.map_some,List.getD_cons_zero,List.getD_cons_succ,List.set_cons_zero,List.set_cons_succ,List.map_cons,List.map_nil,List.length_cons,List.length_nil,List.replicate_succ,List.replicate_zero,List.cons_append,List.nil_append,Nat.reduceAdd,Nat.reduceSub,if_true,if_false,Bool.false_eq_true,uz,zp,zK,yI,zG,zw,Nat.zero_add,and_self,decide_false,lg,Int.reduceNeg,h,hx,m0,m1,decide_false,and_self,lC hn,List.set_set,k1,k2,k3,show (0:Int) < 2147483647 by decide,show (0:Int) < 40009 by decide,show (0:Int) < 2147483629 by decide,show (0:Int) < 64 by decide,show (64:Int) < 1073741824 by decide]
theorem tY {st:Sto}{ns:List Int}{k:Nat}:∃ x y:Int,0<=x/\da [.d (.scr ns),.d (.int k)] st=some (.h st.length,st++[.l [.int x,.int y,.int 0]]):=by
 have p60':kz 10 60:=p60
 have p18':kz 10 18:=p18
 have k1:∀ q,PySem.IntMulOk 7919 q:=λq=>mI (by decide)
 have k2:∀ q,PySem.IntMulOk q 48271:=λq=>mR (by decide)
 have k3:∀ (q:Int) (b:Bool),PySem.IntMulOk q (if b=true then 1 else 0):=λq b=>mR ⟨yP b,yN b⟩
 have hf:=mk
 by_cases hk:(k:Int) < ((ns.map D.int).length:Nat)
 ·have hk':k < ns.length:=by rw [List.length_map] at hk;lia
  have e:atI (ns.map D.int) (k:Int)=some (.int ns[k]):=gU (by rw [List.getElem?_map,List.getElem?_eq_getElem hk'];rfl)
  refine⟨(if ns[k] < 0 then -ns[k] else ns[k]) % (10 ^ Int.toNat 60*10 ^ Int.toNat 60*10 ^ Int.toNat 60*10 ^ Int.toNat 60)*(if decide (10 ^ Int.toNat 18<=(if ns[k] < 0 then -ns[k] else ns[k]))=true then 1 else 0),(ns[k] % 2147483629+7919*(k:Int)+11)*48271 % 2147483647,Int.mul_nonneg (Int.emod_nonneg _ (Int.ne_of_gt mk)) (vB _),?_⟩
  ·simp only [da,df,iV,iC,iOp,aP,ai,aa,iCB,gP,sX,bx,aq,bh,bv,cm,cL,dr,kt,mm,fO,lsD,dIx,aK,d9,eE,lG,dLt,dGe,dq,i9,tV,Option.bind_some,Option.map_some,List.getD_cons_zero,List.getD_cons_succ,List.set_cons_zero,List.set_cons_succ,List.map_cons,List.map_nil,List.length_cons,List.length_nil,List.replicate_succ,List.replicate_zero,List.cons_append,List.nil_append,Nat.reduceAdd,Nat.reduceSub,if_true,Nat.zero_add,decide_true,lg,Int.reduceNeg,bS,hk,e,decide_true,p60',p18',k1,k2,k3,yk,yi,ze,hf,show (0:Int) < 2147483647 by decide,show (0:Int) < 2147483629 by decide,show (3:Nat)<=1000 by decide]
 ·refine⟨(if (0:Int) < 0 then -0 else 0) % (10 ^ Int.toNat 60*10 ^ Int.toNat 60*10 ^ Int.toNat 60*10 ^ Int.toNat 60)*(if decide (10 ^ Int.toNat 18<=(if (0:Int) < 0 then -0 else (0:Int)))=true then 1 else 0),(0 % 2147483629+7919*(k:Int)+11)*48271 % 2147483647,Int.mul_nonneg (Int.emod_nonneg _ (Int.ne_of_gt mk)) (vB _),?_⟩
  ·simp only [da,df,iV,iC,iOp,aP,ai,aa,iCB,gP,sX,bx,aq,bh,bv,cm,cL,dr,kt,mm,fO,lsD,dIx,aK,d9,eE,lG,dLt,dGe,dq,i9,tV,Option.bind_some,Option.map_some,List.getD_cons_zero,List.getD_cons_succ,List.set_cons_zero,List.set_cons_succ,List.map_cons,List.map_nil,List.length_cons,List.length_nil,List.replicate_succ,List.replicate_zero,List.cons_append,List.nil_append,Nat.reduceAdd,Nat.reduceSub,if_true,if_false,Bool.false_eq_true,Nat.zero_add,decide_false,lg,Int.reduceLT,Int.reduceNeg,bS,hk,decide_false,p60',p18',k1,k2,k3,yk,yi,ze,hf,show (0:Int) < 2147483647 by decide,show (0:Int) < 2147483629 by decide,show (3:Nat)<=1000 by decide]
theorem tR {st:Sto}{n:Nat}{ds:List D} (h:cj st n) (h0:ds≠[]) (h1:ds.length < 1000000):∃ d st',d ∈ ds/\Stp n st st'/\dW [.h n,.d (.lst ds)] st=some (.d d,st'):=by
 have hp:0 < ds.length:=List.length_pos_iff.mpr h0
 obtain⟨r,s1,r0,r1,t1,e1⟩:=cS h (m:=(ds.length:Int)) (by lia) (by lia)
 obtain⟨j,rfl⟩:=Int.eq_ofNat_of_zero_le r0
 have hj:j < ds.length:=by lia
 have e2:atI ds (j:Int)=some ds[j]:=gU (List.getElem?_eq_getElem hj)
 refine⟨ds[j],s1,List.getElem_mem hj,t1,?_⟩
 simp only [dW,dU,iV,iOp,ai,aa,iCB,ay,bv,cL,fO,dIx,dq,Option.bind_some,Option.map_some,List.getD_cons_zero,List.getD_cons_succ,List.map_cons,List.map_nil,List.length_cons,List.length_nil,List.replicate_zero,List.cons_append,List.nil_append,Nat.reduceAdd,Nat.reduceSub,if_true,Nat.zero_add,lg,e1,e2]
theorem cD {a:Af}{env:Ev}{st s:Sto}{ws:List W}{ds:List D} (h:a env st=some (ws,s)) (hd:kt ws=some ds) (hl:ds.length<=1000:=by decide):aI a env st=some (.d (.tup ds),s):=by
 simp only [aI,h,hd,hl,Option.bind_some,if_true]
theorem oX {a:Af}{env:Ev}{st s:Sto}{ws:List W}{ds:List D} (h:a env st=some (ws,s)) (hd:kt ws=some ds) (hl:ds.length<=1000:=by decide):gP a env st=some (ds,s):=by
 simp only [gP,h,hd,hl,Option.bind_some,if_true]
theorem ju {e:Ef}{z:Int}{m:Nat}{env:Ev}{st s:Sto} (he:e env st=some (.d (.int z),s)) (h0:0<=z) (h1:z<=1000) (hm:z.toNat=m):cP (aa e ai) env st=some (ft 0 m,s):=by
 have hb:-(2 ^ 62)<=z/\z < 2 ^ 62:=⟨Int.le_trans (by decide) h0,Int.lt_of_le_of_lt h1 (by decide)⟩
 have h2:=ae (b:=ai) he rfl
 simp only [cP,h2,Option.bind_some,hb,and_self,if_true,hm]
theorem lj {f:Ef}{env:Ev}{st s:Sto}{ds:List D} (h:f env st=some (.d (.lst ds),s)):bG f env st=some (ds,s):=by
 simp only [bG,h,Option.bind_some]
theorem cw {f:Ef}{env:Ev}{st s:Sto}{ds:List D} (h:f env st=some (.d (.tup ds),s)):bG f env st=some (ds,s):=by
 simp only [bG,h,Option.bind_some]
theorem kr {c:Tf}{a b:Ef}{env:Ev}{st s:Sto}{r:Option (W×Sto)} (h:c env st=some (true,s)) (ha:a env s=r):fA c a b env st=r:=by
 simp only [fA,h,Option.bind_some,if_true,ha]
theorem jg {c:Tf}{a b:Ef}{env:Ev}{st s:Sto}{r:Option (W×Sto)} (h:c env st=some (false,s)) (hb:b env s=r):fA c a b env st=r:=by
 simp only [fA,h,Option.bind_some,Bool.false_eq_true,if_false,hb]
theorem kL (s:Sto) (a b:Int):dEq s (.d (.int a)) (.d (.int b))=some (.bl (a==b)):=by
 show ((eqK (.fl (.int a)) (.fl (.int b))).map λk=>D.bl k)=_
 rfl
theorem zj (s:Sto) (a b:Str):dEq s (.d (.str a)) (.d (.str b))=some (.bl (a==b)):=by
 show ((eqK (.fl (.str a)) (.fl (.str b))).map λk=>D.bl k)=_
 rfl
theorem wH (s:Sto) {a b:List D} (h:a.length+b.length<=1000000):aK s (.d (.lst a)) (.d (.lst b))=some (.lst (a++b)):=if_pos h
theorem yF (s:Sto) {a b:Int} (h:PySem.IntMulOk a b):d9 s (.d (.int a)) (.d (.int b))=some (.int (a*b)):=if_pos h
theorem vC (s:Sto) {a b:Int} (h:0 < b):eE s (.d (.int a)) (.d (.int b))=some (.int (a % b)):=if_pos h
theorem qV (s:Sto) {a b:Int} (h:0 < b/\b < 1073741824):gi s (.d (.int a)) (.d (.int b))=some (.int (a / b)):=if_pos h
theorem zz (s:Sto) {a b:Int}{k:Bool} (h:decide (a > b)=k):dGt s (.d (.int a)) (.d (.int b))=some (.bl k):=by rw [<-h];rfl
theorem yC (s:Sto) {a b:Int}{k:Bool} (h:decide (a < b)=k):dLt s (.d (.int a)) (.d (.int b))=some (.bl k):=by rw [<-h];rfl
theorem x9 {c:Tf}{b:Sf}{m:Nat}{env:Ev}{st s:Sto} (h:c env st=some (false,s)):dl c b (m+1) env st=some (.nx env s):=by
 simp only [dl,h,Option.bind_some,Bool.false_eq_true,if_false]
theorem yb {c:Tf}{b:Sf}{m:Nat}{env e:Ev}{st s s2:Sto}{r:Option Fl} (h:c env st=some (true,s)) (hb:b env s=some (.nx e s2)) (hr:dl c b m e s2=r):dl c b (m+1) env st=r:=by
 simp only [dl,h,Option.bind_some,if_true,hb,hr]
theorem eqS (s:Sto) (a b:Str):dEq s (.d (.str a)) (.d (.str b))=some (.bl (a==b)):=zj s a b
theorem neS (s:Sto) (a b:Str):dNe s (.d (.str a)) (.d (.str b))=some (.bl (!(a==b))):=by
 show ((eqK (.fl (.str a)) (.fl (.str b))).map λk=>D.bl (!k))=_
 rfl
theorem fS {s:Sto}{a b:List Nat} (h:a.length+b.length<=1000000):aK s (.d (.str (S a))) (.d (.str (S b)))=some (.str (S (a++b))):=by
 show (if (S a).length+(S b).length<=1000000 then some (D.str (S a++S b)) else none)=_
 rw [bO,bO,if_pos h,iw]
theorem vL {n:Nat} (h:n < 10 ^ 120):n.log2 < 1920:=by
 by_cases hz:n=0
 ·rw [hz];decide
 ·rw [Nat.log2_lt hz]
  have h1:(10:Nat) ^ 120<=16 ^ 120:=Nat.pow_le_pow_left (by decide) _
  have h2:(16:Nat) ^ 120=2 ^ 480:=by rw [show (16:Nat)=2 ^ 4 from rfl,<-Nat.pow_mul]
  have h3:(2:Nat) ^ 480<=2 ^ 1920:=Nat.pow_le_pow_right (by decide) (by decide)
  rw [h2] at h1
  exact Nat.lt_of_lt_of_le h (Nat.le_trans h1 h3)
theorem wU {s:Sto}{n:Int} (h:n.natAbs < 10 ^ 120):jc s [.d (.int n)]=some (.str (S (aJ n))):=by
 show (if n.natAbs.log2 < 1920 then some (D.str (toString n)) else none)=_
 rw [if_pos (vL h),uY]
theorem iT (m:Nat):aJ (m:Int)=dg m:=by
 unfold aJ
 rw [if_neg (by lia)]
 congr 1
theorem qy {s:Nat} (h:s < 10 ^ 18):PySem.Txt.zfill (S (dg s)) 18=S (gn 18 s):=by
 have hl:=lK (k:=18) (by decide) h
 have hf:=lm 18 s (by decide) h
 unfold PySem.Txt.zfill
 rw [bO]
 by_cases h8:(18:Int)<=((dg s).length:Nat)
 ·rw [if_pos h8]
  have e:18 - (dg s).length=0:=by lia
  rw [e,List.replicate_zero,List.nil_append] at hf
  rw [hf]
 ·rw [if_neg h8]
  have hz:PySem.zfilled (S (dg s)) ((18:Int).toNat - (dg s).length)=PySem.Builtin.Str.padded (S (dg s)) ((18:Int).toNat - (dg s).length) 0 48:=by
   unfold PySem.zfilled
   cases hd:dg s with
   | nil=>exact absurd hd (nX s)
   | cons c r=>
    have hc:=eh (m:=s) (c:=c) (by rw [hd];simp)
    have e:(S (c::r)).cps[0]?=some c:=rfl
    rw [e]
    split
    ·rename_i h;injection h with h;lia
    ·rename_i h;injection h with h;lia
    ·rfl
  rw [hz,<-hf]
  show (⟨Array.replicate ((18:Int).toNat - (dg s).length) 48++(dg s).toArray++Array.replicate 0 48⟩:Str)=⟨(List.replicate (18 - (dg s).length) 48++dg s).toArray⟩
  congr 1
  apply Array.toList_inj.mp
  simp
noncomputable def B18:Nat:=1000000000000000000
theorem mf:B18=10 ^ 18:=by decide
theorem nn {st:Sto}{x:Option W}:∀ (k fuel r:Nat) (F:List Nat),r < B18 ^ (k+1)->k < fuel->F.length+18*k<=1000->
  ∃ (F':List Nat) (r':Nat),r' < B18/\dg r++F=dg r'++F'/\F'.length<=F.length+18*k/\dl cN fg fuel [x,some (.d (.str (S F))),some (.d (.int (r:Int)))] st=some (.nx [x,some (.d (.str (S F'))),some (.d (.int (r':Int)))] st)
 | k,fuel,r,F,hr,hf,hl=>by
  obtain⟨fuel,rfl⟩:∃ m,fuel=m+1:=⟨fuel - 1,by lia⟩
  have c0:cN [x,some (.d (.str (S F))),some (.d (.int (r:Int)))] st=some (decide ((r:Int)>=1000000000000000000),st):=rfl
  by_cases hb:r < B18
  ·rw [decide_eq_false (by have:B18=1000000000000000000:=rfl;lia)] at c0
   exact⟨F,r,hb,rfl,by lia,x9 c0⟩
  ·rw [decide_eq_true (by have:B18=1000000000000000000:=rfl;lia)] at c0
   obtain⟨k,rfl⟩:∃ j,k=j+1:=⟨k - 1,by
    rcases Nat.eq_zero_or_pos k with rfl | h
    ·rw [Nat.zero_add,Nat.pow_one] at hr;lia
    ·lia⟩
   have hBp:0 < B18:=by decide
   have hs:r % B18 < 10 ^ 18:=by rw [<-mf];exact Nat.mod_lt _ hBp
   have hq:r / B18 < B18 ^ (k+1):=by
    rw [Nat.div_lt_iff_lt_mul hBp,<-Nat.pow_succ];exact hr
   have hq0:0 < r / B18:=Nat.div_pos (by lia) hBp
   obtain⟨F',r',h1,h2,h3,h4⟩:=nn (st:=st) (x:=x) k fuel (r / B18) (gn 18 (r % B18)++F) hq (by lia) (by rw [List.length_append,gO];lia)
   rw [List.length_append,gO] at h3
   refine⟨F',r',h1,?_,by lia,yb (e:=[x,some (.d (.str (S (gn 18 (r % B18)++F)))),some (.d (.int ((r / B18:Nat):Int)))]) (s2:=st) c0 ?_ h4⟩
   ·rw [<-h2,<-List.append_assoc,<-rV 18 (r / B18) (r % B18) hq0 hs,<-mf]
    congr 2
    rw [Nat.mul_comm];exact (Nat.div_add_mod r B18).symm
   ·have e1:eE st (.d (.int (r:Int))) (.d (.int 1000000000000000000))=some (.int ((r % B18:Nat):Int)):=by
     rw [vC st (by decide)]
     show some (D.int ((r:Int) % ((B18:Nat):Int)))=_
     rw [<-Int.natCast_emod]
    have e2:jc st [.d (.int ((r % B18:Nat):Int))]=some (.str (S (dg (r % B18)))):=by
     rw [wU (by
      have:(((r % B18:Nat):Int)).natAbs=r % B18:=by lia
      rw [this]
      exact Nat.lt_of_lt_of_le hs (Nat.pow_le_pow_right (by decide) (by decide))),iT]
    have e3:iZf (iCB jc (aa (iOp eE (iV 2) (iC (.int 1000000000000000000))) ai)) (aa (iC (.int 18)) ai) [x,some (.d (.str (S F))),some (.d (.int (r:Int)))] st=some (.d (.str (S (gn 18 (r % B18)))),st):=by
     have g1:iCB jc (aa (iOp eE (iV 2) (iC (.int 1000000000000000000))) ai) [x,some (.d (.str (S F))),some (.d (.int (r:Int)))] st=some (.d (.str (S (dg (r % B18)))),st):=aO (ae (ap rfl rfl e1) rfl) e2
     have g2:aa (iC (.int 18)) ai [x,some (.d (.str (S F))),some (.d (.int (r:Int)))] st=some ([.d (.int 18)],st):=rfl
     have g3:PySem.PadOk 18=true:=by decide
     simp only [iZf,g1,g2,Option.bind_some,g3,if_true,qy hs]
    have e4:rL st (.d (.int (r:Int))) (.d (.int 1000000000000000000))=some (.int ((r / B18:Nat):Int)):=by
     have:rL st (.d (.int (r:Int))) (.d (.int 1000000000000000000))=some (.int ((r:Int) / 1000000000000000000)):=by
      show (if (0:Int) < 1000000000000000000/\(1000000000000000000:Int) < 1000000000000000000000000000000000000000000000000000000000000 then some (D.int ((r:Int) / 1000000000000000000)) else none)=_
      rw [if_pos (by decide)]
     rw [this]
     show some (D.int ((r:Int) / ((B18:Nat):Int)))=_
     rw [<-Int.natCast_ediv]
    exact al (au (ap e3 rfl (fS (by rw [gO];lia)))) (au (ap rfl rfl e4))
theorem y0 {s:Sto} (n:Int):i9 s [.d (.int n)]=some (.int ((n.natAbs:Nat):Int)):=by
 show some (D.int (if n < 0 then -n else n))=_
 congr 2
 split<;>lia
theorem vK {st:Sto}{n:Int}{env:Ev} (i:Nat) (hv:iV i env st=some (.d (.int n),st)):fA (aP dLt (iV i) (iC (.int 0))) (iC (.str "-")) (iC (.str "")) env st=some (.d (.str (S (if n < 0 then [45] else []))),st):=by
 by_cases h:n < 0
 ·rw [if_pos h]
  exact kr (aL hv rfl (yC _ (decide_eq_true h))) rfl
 ·rw [if_neg h]
  exact jg (aL hv rfl (yC _ (decide_eq_false h))) rfl
theorem rf {st:Sto}{n:Int} (h:n.natAbs < 10 ^ 60):d4 [.d (.int n)] st=some (.d (.str (S (aJ n))),st):=by
 have hb:n.natAbs < B18 ^ (3+1):=by
  rw [mf,<-Nat.pow_mul]
  exact Nat.lt_of_lt_of_le h (Nat.pow_le_pow_right (by decide) (by decide))
 obtain⟨F',r',h1,h2,h3,h4⟩:=nn (st:=st) (x:=some (.d (.int n))) 3 9 n.natAbs [] hb (by decide) (by decide)
 rw [List.append_nil] at h2
 rw [List.length_nil] at h3
 have hr:r' < 10 ^ 18:=by rw [<-mf];exact h1
 have hl:=lK (k:=18) (by decide) hr
 have e2:jc st [.d (.int (r':Int))]=some (.str (S (dg r'))):=by
  rw [wU (by
   have:((r':Int)).natAbs=r':=by lia
   rw [this]
   exact Nat.lt_of_lt_of_le hr (Nat.pow_le_pow_right (by decide) (by decide))),iT]
 have hsg:(if n < 0 then [45] else ([]:List Nat)).length<=1:=by split<;>simp
 have en:aJ n=(if n < 0 then [45] else [])++dg r'++F':=by
  rw [List.append_assoc,<-h2]
  unfold aJ
  split<;>rfl
 rw [en]
 refine bq (n:=3) (k:=1) (b:=cR) rfl (al (au rfl) (al (au (aO (ae rfl rfl) (y0 n))) (al h4 (aM (ap (ap (vK 0 rfl) (aO (ae rfl rfl) e2) (fS (by lia))) rfl (fS (by rw [List.length_append];lia)))))))
end Own
end
section
set_option maxHeartbeats 1000000
namespace Own
open PySem L2
theorem se (ds:List D) (j:Nat):iN ds (some (j:Int)) none=ds.drop j:=by
 unfold iN
 rw [HT.sIx_nat,HT.sIx_none]
 by_cases h:j<=ds.length
 ·rw [Nat.min_eq_left h,List.take_of_length_le (by rw [List.length_drop];exact Nat.le_refl _)]
 ·rw [Nat.min_eq_right (by lia),List.drop_eq_nil_of_le (Nat.le_refl _),List.drop_eq_nil_of_le (by lia),List.take_nil]
theorem ix0 (s:Sto) (a:D) (l:List D):dIx s (.d (.tup (a::l))) (.d (.int 0))=some a:=by simp only [dIx,fO,Option.bind_some,uz]
theorem ix1 (s:Sto) (a b:D) (l:List D):dIx s (.d (.tup (a::b::l))) (.d (.int 1))=some b:=by simp only [dIx,fO,Option.bind_some,zp]
theorem fU {f:Ef}{env:Ev}{st s:Sto}{k:Bool} (h:f env st=some (.d (.bl k),s)):dk dm f env st=some (k,s):=by
 simp only [dk,h,Option.bind_some,dm,Option.map_some]
theorem de {f:Tf}{env:Ev}{st s:Sto}{k:Bool} (h:f env st=some (k,s)):bJ f env st=some (!k,s):=by
 simp only [bJ,h,Option.map_some]
theorem ix {a b:Tf}{env:Ev}{st s s':Sto}{k:Bool} (ha:a env st=some (false,s)) (hb:b env s=some (k,s')):fJ a b env st=some (k,s'):=by
 simp only [fJ,ha,hb,Option.bind_some,Bool.false_eq_true,if_false]
theorem zQ {a:Af}{env:Ev}{st s:Sto}{bs:List Bool} (h:a env st=some ([.d (.lst (bs.map D.bl))],s)):iCB wO a env st=some (.d (.bl (bs.all id)),s):=by
 refine aO h ?_
 show (io (bs.map D.bl)).map (λns=>D.bl (ns.all id))=_
 rw [jX];rfl
noncomputable def ups {α:Type} (R:α->α->Bool):List α->Bool
 | x::y::r=>R x y && ups R (y::r)
 | _=>true
theorem oD {α:Type}{R:α->α->Bool}:∀ {l:List α},l.Pairwise (λa b=>R a b=true)->ups R l=true
 | [],_=>rfl
 | [x],_=>rfl
 | x::y::r,h=>by
  have h':=List.pairwise_cons.mp h
  rw [ups,h'.1 y List.mem_cons_self,Bool.true_and]
  exact oD h'.2
mutual
noncomputable def smD:D->Bool
 | .tup ds=>decide (ds.length<=1000) && sA ds
 | .ty _=>false
 | .scr _=>false
 | _=>true
noncomputable def sA:List D->Bool
 | []=>true
 | d::ds=>smD d && sA ds
end
theorem nJ:∀ ds:List D,sA ds=ds.all smD
 | []=>by rw [sA];rfl
 | d::ds=>by rw [sA,nJ ds];rfl
theorem fz {ds:List D}:smD (.tup ds)=true↔ds.length<=1000/\∀ d ∈ ds,smD d=true:=by
 rw [smD,nJ,Bool.and_eq_true,decide_eq_true_eq,List.all_eq_true]
noncomputable def wh:D->Bool
 | .int _=>true
 | _=>false
noncomputable def on:D->Bool
 | .tup _=>true
 | _=>false
noncomputable def wC:D->Bool
 | .str _=>true
 | _=>false
theorem iZ {st:Sto}{d:D} (h:smD d=true):eA st [.d d,.d (.ty "tuple")]=some (.bl (on d)):=by
 cases d<;>first | rfl | (simp [smD] at h)
theorem uL {st:Sto}{d:D} (h:smD d=true):eA st [.d d,.d (.ty "str")]=some (.bl (wC d)):=by
 cases d<;>first | rfl | (simp [smD] at h)
theorem lp {st:Sto}{d:D} (h:smD d=true):eT [.d d] st=some (.d (.bl (wh d)),st):=by
 cases d<;>first | rfl | (simp [smD] at h)
theorem vR {a b:Tf}{env:Ev}{st s:Sto} (ha:a env st=some (true,s)):fJ a b env st=some (true,s):=by
 simp only [fJ,ha,Option.bind_some,if_true]
noncomputable def wi (lo:Int):D->Bool
 | .int i=>decide (lo<=i) && decide (i<=5)
 | _=>false
theorem jh {a b:Ef}{env:Ev}{st s s':Sto}{x:W} (ha:a env st=some (.d (.bl true),s)) (hb:b env s=some (x,s')):fk a b env st=some (x,s'):=by
 simp only [fk,ha,hb,Option.bind_some,blW,if_true]
theorem kq {a b:Ef}{env:Ev}{st s:Sto} (ha:a env st=some (.d (.bl false),s)):fk a b env st=some (.d (.bl false),s):=by
 simp only [fk,ha,Option.bind_some,blW,Bool.false_eq_true,if_false]
theorem wy {a b c:Ef}{env:Ev}{st:Sto}{x y z:Int} (g1 g2:Sto->W->W->Option D) {k1 k2:Bool} (ha:a env st=some (.d (.int x),st)) (hb:b env st=some (.d (.int y),st)) (hc:c env st=some (.d (.int z),st)) (h1:g1 st (.d (.int x)) (.d (.int y))=some (.bl k1)) (h2:g2 st (.d (.int y)) (.d (.int z))=some (.bl k2)) :
  jK g1 g2 a b c env st=some (.d (.bl (k1 && k2)),st):=by
 cases k1<;>simp only [jK,ha,hb,hc,h1,h2,Option.bind_some,mm,if_true,Bool.false_eq_true,if_false,Option.map_some,Bool.true_and,Bool.false_and]
theorem ox {st:Sto}{d:D}{lo:Int} (h:smD d=true):d0 [.d d,.d (.int lo),.d (.int 5)] st=some (.d (.bl (wi lo d)),st):=by
 have e:=lp (st:=st) h
 refine bq (n:=3) (k:=3) (b:=dX) rfl (aM ?_)
 cases hw:wh d with
 | false=>
  rw [hw] at e
  have:wi lo d=false:=by cases d<;>first | rfl | cases hw
  rw [this]
  exact kq (ao rfl e)
 | true=>
  rw [hw] at e
  cases d with
  | int i=>exact jh (ao rfl e) (wy dLe dLe rfl rfl rfl rfl rfl)
  | _=>cases hw
noncomputable def jV:D->Int
 | .int i=>i
 | _=>0
noncomputable def tmF:Int->List D->Bool
 | _,[]=>true
 | a,d::ds=>wi (a+1) d && tmF (jV d) ds
noncomputable def isT:D->Bool
 | .tup ks=>tmF (-1) ks
 | _=>false
theorem kN {st:Sto}{x:Option W}:∀ (ks:List D) (a:Int) (o:Option W),(∀ k ∈ ks,smD k=true)->
  (tmF a ks=true/\∃ y z,dz (.nm 2) dh ks [x,some (.d (.int a)),o] st=some (.nx [x,y,z] st))\/(tmF a ks=false/\dz (.nm 2) dh ks [x,some (.d (.int a)),o] st=some (.rt (.d (.bl false)) st))
 | [],a,o,_=>.inl ⟨rfl,_,_,rfl⟩
 | k::ks,a,o,h=>by
  have e:=ox (st:=st) (lo:=a+1) (h k List.mem_cons_self)
  have hs:dr (.nm 2) (.d k) [x,some (.d (.int a)),o]=some [x,some (.d (.int a)),some (.d k)]:=rfl
  have c1:bJ (dk dm (ay d0 (aa (iV 2) (aa (iOp aK (iV 1) (iC (.int 1))) (aa (iC (.int 5)) ai))))) [x,some (.d (.int a)),some (.d k)] st=some (!wi (a+1) k,st):=de (fU (ao (ae rfl (ae (ap rfl rfl rfl) (ae rfl rfl))) e))
  cases hw:wi (a+1) k with
  | false=>
   rw [hw] at c1
   refine .inr ⟨by rw [tmF,hw];rfl,?_⟩
   have hb:dh [x,some (.d (.int a)),some (.d k)] st=some (.rt (.d (.bl false)) st):=cy (fj c1 (aM rfl))
   rw [dz,hs,Option.bind_some,hb];rfl
  | true=>
   rw [hw] at c1
   obtain⟨i,rfl⟩:∃ i,k=.int i:=by cases k<;>first | exact⟨_,rfl⟩ | cases hw
   have hb:dh [x,some (.d (.int a)),some (.d (.int i))] st=some (.nx [x,some (.d (.int i)),some (.d (.int i))] st):=al (cF c1 rfl) (au rfl)
   have et:tmF a (.int i::ks)=tmF i ks:=by rw [tmF,hw,Bool.true_and];rfl
   rw [et]
   have ih:=kN (st:=st) (x:=x) ks i (some (.d (.int i))) λq hq=>h q (List.mem_cons_of_mem _ hq)
   rw [dz,hs,Option.bind_some,hb]
   exact ih
theorem qF {st:Sto}{d:D} (h:smD d=true):ij [.d d] st=some (.d (.bl (isT d)),st):=by
 refine bq (n:=3) (k:=1) (b:=ez) rfl ?_
 have i1:iCB eA (aa (iV 0) (aa (iC (.ty "tuple")) ai)) [some (.d d),none,none] st=some (.d (.bl (on d)),st):=aO (ae rfl (ae rfl rfl)) (iZ h)
 show ez [some (.d d),none,none] st=_
 cases ht:on d with
 | false=>
  rw [ht] at i1
  have:isT d=false:=by cases d<;>first | rfl | cases ht
  rw [this]
  exact cy (fj (de (fU i1)) (aM rfl))
 | true=>
  rw [ht] at i1
  obtain⟨ks,rfl⟩:∃ ks,d=.tup ks:=by cases d<;>first | exact⟨_,rfl⟩ | cases ht
  rcases kN (st:=st) (x:=some (.d (.tup ks))) ks (-1) none (fz.mp h).2 with⟨t,y,z,e⟩ | ⟨t,e⟩
  ·rw [show isT (.tup ks)=true from t]
   exact al (cF (de (fU i1)) rfl) (al (au rfl) (al (dw (cw rfl) e) (aM rfl)))
  ·rw [show isT (.tup ks)=false from t]
   exact al (cF (de (fU i1)) rfl) (al (au rfl) (cy (dw (cw rfl) e)))
noncomputable def wl:D->Bool
 | .int i=>decide (0<=i) && decide (i < 6)
 | _=>false
theorem mF:∀ {ks:List D},ks.all wl=true->∃ ts:List Int,ks=ts.map D.int/\∀ t ∈ ts,0<=t/\t < 6
 | [],_=>⟨[],rfl,λ_ h=>nomatch h⟩
 | k::ks,h=>by
  rw [List.all_cons,Bool.and_eq_true] at h
  obtain⟨ts,rfl,ht⟩:=mF h.2
  cases k with
  | int i=>
   have h1:=h.1
   simp only [wl,Bool.and_eq_true,decide_eq_true_eq] at h1
   exact⟨i::ts,rfl,λt hm=>by rcases List.mem_cons.mp hm with rfl | hm;exact h1;exact ht t hm⟩
  | _=>cases h.1
theorem qN:∀ (ks:List D) (a:Int),-1<=a->tmF a ks=true->ks.all wl=true
 | [],_,_,_=>rfl
 | k::ks,a,ha,h=>by
  rw [tmF,Bool.and_eq_true] at h
  cases k with
  | int i=>
   have h1:=h.1
   simp only [wi,Bool.and_eq_true,decide_eq_true_eq] at h1
   have:=qN ks i (by lia) h.2
   rw [List.all_cons,this,Bool.and_true]
   simp only [wl,Bool.and_eq_true,decide_eq_true_eq];lia
  | _=>cases h.1
theorem lI:∀ (ts:List Int) (a:Int),(∀ t ∈ ts,0<=t/\t < 6)->tmF a (ts.map D.int)=ups (λx y:Int=>decide (x < y)) (a::ts)
 | [],_,_=>rfl
 | t::ts,a,h=>by
  have h1:=h t List.mem_cons_self
  have ih:=lI ts t λq hq=>h q (List.mem_cons_of_mem _ hq)
  rw [List.map_cons,tmF,ups]
  show ((decide (a+1<=t) && decide (t<=5)) && tmF t (ts.map D.int))=_
  rw [ih]
  have e1:decide (a+1<=t)=decide (a < t):=by rw [decide_eq_decide];lia
  have e2:decide (t<=5)=true:=decide_eq_true (by lia)
  rw [e1,e2,Bool.and_true]
theorem ue {ks:List D}:isT (.tup ks)=(ks.all wl && (match ks.all wl with | true=>ups (λx y:Int=>decide (x < y)) (ks.map jV) | false=>false)):=by
 show tmF (-1) ks=_
 cases h:ks.all wl with
 | false=>
  cases h2:tmF (-1) ks with
  | false=>rfl
  | true=>rw [qN ks (-1) (by decide) h2] at h;cases h
 | true=>
  obtain⟨ts,rfl,ht⟩:=mF h
  have e:(ts.map D.int).map jV=ts:=by rw [List.map_map];exact List.map_id' ts
  rw [lI ts (-1) ht,Bool.true_and]
  dsimp only
  rw [e]
  cases ts with
  | nil=>rfl
  | cons t ts=>
   rw [ups]
   have:=(ht t List.mem_cons_self).1
   rw [decide_eq_true (by lia:(-1:Int) < t),Bool.true_and]
theorem tm:∀ {l:List Int},ups (λx y:Int=>decide (x < y)) l=true->l.Pairwise (· < ·)
 | [],_=>.nil
 | [x],_=>by simp
 | x::y::r,h=>by
  rw [ups,Bool.and_eq_true] at h
  have ih:=tm h.2
  have hxy:x < y:=of_decide_eq_true h.1
  refine List.pairwise_cons.mpr ⟨λz hz=>?_,ih⟩
  rcases List.mem_cons.mp hz with rfl | hz
  ·exact hxy
  ·exact Int.lt_trans hxy ((List.pairwise_cons.mp ih).1 z hz)
theorem kc:∀ {l:List Nat},(∀ x ∈ l,x<=10)->l.sum<=10*l.length
 | [],_=>Nat.le_refl _
 | x::l,h=>by
  have h1:=h x List.mem_cons_self
  have h2:=kc (l:=l) λy hy=>h y (List.mem_cons_of_mem _ hy)
  rw [List.sum_cons,List.length_cons];lia
noncomputable def nz:D->Bool
 | .int i=>decide (i≠0)
 | _=>true
noncomputable def kB:D->Bool
 | .tup [t,n]=>isT t && (wh n && nz n)
 | _=>false
theorem we {st:Sto} (ds:List D):dq st [.d (.tup ds)]=some (.int (ds.length:Int)):=rfl
theorem neI (s:Sto) (a b:Int):dNe s (.d (.int a)) (.d (.int b))=some (.bl (!(a==b))):=by
 show ((eqK (.fl (.int a)) (.fl (.int b))).map λk=>D.bl (!k))=_
 rfl
theorem yv {st:Sto}{d:D}{env:Ev} (h:smD d=true) (hn:∀ a b,d≠.tup [a,b]) (i:Nat) (hv:iV i env st=some (.d d,st)) :
  fJ (bJ (dk dm (iCB eA (aa (iV i) (aa (iC (.ty "tuple")) ai))))) (aP dNe (iCB dq (aa (iV i) ai)) (iC (.int 2))) env st=some (true,st):=by
 have i1:iCB eA (aa (iV i) (aa (iC (.ty "tuple")) ai)) env st=some (.d (.bl (on d)),st):=aO (ae hv (ae rfl rfl)) (iZ h)
 cases ht:on d with
 | false=>rw [ht] at i1;exact vR (de (fU i1))
 | true=>
  rw [ht] at i1
  obtain⟨ks,rfl⟩:∃ ks,d=.tup ks:=by cases d<;>first | exact⟨_,rfl⟩ | cases ht
  have hl:((ks.length:Int)==2)=false:=beq_eq_false_iff_ne.mpr λz=>by
   have h2:ks.length=2:=by lia
   match ks,h2 with
   | [a,b],_=>exact hn a b rfl
  exact ix (de (fU i1)) (aL (aO (ae hv rfl) (we ks)) rfl (by rw [neI,hl];rfl))
theorem is2 {st:Sto}{a b:D}{env:Ev} (h:smD (.tup [a,b])=true) (i:Nat) (hv:iV i env st=some (.d (.tup [a,b]),st)) :
  fJ (bJ (dk dm (iCB eA (aa (iV i) (aa (iC (.ty "tuple")) ai))))) (aP dNe (iCB dq (aa (iV i) ai)) (iC (.int 2))) env st=some (false,st):=by
 have i1:iCB eA (aa (iV i) (aa (iC (.ty "tuple")) ai)) env st=some (.d (.bl true),st):=aO (ae hv (ae rfl rfl)) (iZ h)
 exact ix (de (fU i1)) (aL (aO (ae hv rfl) (we [a,b])) rfl (by rw [neI];rfl))
theorem nK {d:D} (h:∀ a b,d≠.tup [a,b]):kB d=false:=by
 unfold kB
 split
 ·rename_i a b;exact absurd rfl (h a b)
 ·rfl
theorem oy (d:D):(∃ a b,d=.tup [a,b])\/∀ a b,d≠.tup [a,b]:=by
 by_cases h:∃ a b,d=.tup [a,b]
 ·exact .inl h
 ·exact .inr λa b e=>h ⟨a,b,e⟩
theorem rM {st:Sto}{d:D} (h:smD d=true):fZ [.d d] st=some (.d (.bl (kB d)),st):=by
 refine bq (n:=1) (k:=1) (b:=eJ) rfl ?_
 show eJ [some (.d d)] st=_
 rcases oy d with⟨a,b,rfl⟩ | hn
 ·have hm:=(fz.mp h).2
  have e1:=qF (st:=st) (hm a (by simp))
  have e2:=lp (st:=st) (hm b (by simp))
  refine al (cF (is2 h 0 rfl) rfl) (aM ?_)
  show _=some (W.d (.bl (isT a && (wh b && nz b))),st)
  have g1:=ao (env:=[some (.d (.tup [a,b]))]) (ae (b:=ai) (ap (a:=iV 0) (b:=iC (.int 0)) rfl rfl (ix0 st a [b])) rfl) e1
  have g2:=ao (env:=[some (.d (.tup [a,b]))]) (ae (b:=ai) (ap (a:=iV 0) (b:=iC (.int 1)) rfl rfl (ix1 st a b [])) rfl) e2
  cases ht:isT a with
  | false=>rw [ht] at g1;exact kq g1
  | true=>
   rw [ht] at g1
   refine jh g1 ?_
   cases hw:wh b with
   | false=>rw [hw] at g2;exact kq g2
   | true=>
    rw [hw] at g2
    refine jh g2 ?_
    cases b with
    | int i=>
     exact ap (ap rfl rfl (ix1 st a _ [])) rfl (by rw [neI];show some (D.bl (!(i==0)))=some (D.bl (decide (i≠0)));congr 2;cases hi:(i==0)<;>simp_all)
    | _=>cases hw
 ·rw [nK hn]
  exact cy (fj (yv h hn 0 rfl) (aM rfl))
noncomputable def iOf:D->List Int
 | .tup (.tup ks::_)=>ks.map jV
 | _=>[]
theorem rE {d:D} (h:isT d=true):∃ t:List Int,d=ax t/\Trm 6 t:=by
 cases d with
 | tup ks=>
  rw [ue] at h
  cases hw:ks.all wl with
  | false=>rw [hw] at h;cases h
  | true=>
   rw [hw] at h
   obtain⟨ts,rfl,ht⟩:=mF hw
   have e:(ts.map D.int).map jV=ts:=by rw [List.map_map];exact List.map_id' ts
   dsimp only at h
   rw [e,Bool.true_and] at h
   refine⟨ts,rfl,tm h,λk hk=>ht k hk⟩
 | _=>cases h
theorem rz {d:D} (h:kB d=true):∃ p:Prt,d=aC p/\Trm 6 p.1/\p.2≠0:=by
 rcases oy d with⟨a,b,rfl⟩ | hn
 ·have h:(isT a && (wh b && nz b))=true:=h
  rw [Bool.and_eq_true,Bool.and_eq_true] at h
  obtain⟨t,rfl,ht⟩:=rE h.1
  cases b with
  | int i=>
   have hz:i≠0:=of_decide_eq_true h.2.2
   exact⟨(t,i),rfl,ht,hz⟩
  | _=>cases h.2.1
 ·rw [nK hn] at h;cases h
theorem jI (p:Prt):iOf (aC p)=p.1:=by
 show (p.1.map D.int).map jV=p.1
 rw [List.map_map];exact List.map_id' p.1
noncomputable def ahB:Option (List Int)->List Int->Bool
 | none,_=>false
 | some l,x=>HT.lexLe x l
noncomputable def pF:Option (List Int)->List D->Bool
 | _,[]=>true
 | a,p::ps=>kB p && (!ahB a (iOf p) && pF (some (iOf p)) ps)
noncomputable def dD:Option (List Int)->D
 | none=>.non
 | some l=>ax l
theorem jj {st:Sto}{x:Option W}:∀ (ps:List D) (a:Option (List Int)) (o:Option W),(∀ p ∈ ps,smD p=true)->
  (pF a ps=true/\∃ y z,dz (.nm 2) bM ps [x,some (.d (dD a)),o] st=some (.nx [x,y,z] st))\/(pF a ps=false/\dz (.nm 2) bM ps [x,some (.d (dD a)),o] st=some (.rt (.d (.bl false)) st))
 | [],a,o,_=>.inl ⟨rfl,_,_,rfl⟩
 | p::ps,a,o,h=>by
  have e:=rM (st:=st) (h p List.mem_cons_self)
  have hs:dr (.nm 2) (.d p) [x,some (.d (dD a)),o]=some [x,some (.d (dD a)),some (.d p)]:=rfl
  have c0:bJ (dk dm (ay fZ (aa (iV 2) ai))) [x,some (.d (dD a)),some (.d p)] st=some (!kB p,st):=de (fU (ao (ae rfl rfl) e))
  cases hp:kB p with
  | false=>
   rw [hp] at c0
   refine .inr ⟨by rw [pF,hp];rfl,?_⟩
   have hb:bM [x,some (.d (dD a)),some (.d p)] st=some (.rt (.d (.bl false)) st):=cy (fj (vR c0) (aM rfl))
   rw [dz,hs,Option.bind_some,hb];rfl
  | true=>
   rw [hp] at c0
   obtain⟨q,rfl,hq,hq0⟩:=rz hp
   have c1:cY (aP pO (iV 1) (iC .non)) (aP oR (iOp dIx (iV 2) (iC (.int 0))) (iV 1)) [x,some (.d (dD a)),some (.d (aC q))] st=some (ahB a q.1,st):=by
    cases a with
    | none=>rfl
    | some l=>
     have t1:aP pO (iV 1) (iC .non) [x,some (.d (ax l)),some (.d (aC q))] st=some (true,st):=rfl
     have t2:aP oR (iOp dIx (iV 2) (iC (.int 0))) (iV 1) [x,some (.d (ax l)),some (.d (aC q))] st=some (HT.lexLe q.1 l,st):=by
      refine aL (ap rfl rfl (ix0 _ _ _)) rfl ?_
      show (dG (q.1.map D.int)).bind (λns=>(dG (l.map D.int)).map λms=>D.bl (HT.lexLe ns ms))=_
      rw [dI,dI];rfl
     simp only [dD,cY,t1,t2,Option.bind_some,if_true,ahB]
   have ep:pF a (aC q::ps)=(!ahB a q.1 && pF (some q.1) ps):=by
    rw [pF,hp,jI,Bool.true_and]
   rw [ep]
   cases hm:ahB a q.1 with
   | true=>
    rw [hm] at c1
    refine .inr ⟨rfl,?_⟩
    have hb:bM [x,some (.d (dD a)),some (.d (aC q))] st=some (.rt (.d (.bl false)) st):=cy (fj (ix c0 c1) (aM rfl))
    rw [dz,hs,Option.bind_some,hb];rfl
   | false=>
    rw [hm] at c1
    have hb:bM [x,some (.d (dD a)),some (.d (aC q))] st=some (.nx [x,some (.d (dD (some q.1))),some (.d (aC q))] st):=al (cF (ix c0 c1) rfl) (au (ap rfl rfl (ix0 _ _ _)))
    rw [Bool.not_false,Bool.true_and]
    have ih:=jj (st:=st) (x:=x) ps (some q.1) (some (.d (aC q))) λz hz=>h z (List.mem_cons_of_mem _ hz)
    rw [dz,hs,Option.bind_some,hb]
    exact ih
noncomputable def qr:D->Bool
 | .tup ps=>pF none ps
 | _=>false
theorem qj {st:Sto}{d:D} (h:smD d=true):fK [.d d] st=some (.d (.bl (qr d)),st):=by
 refine bq (n:=3) (k:=1) (b:=cZ) rfl ?_
 have i1:iCB eA (aa (iV 0) (aa (iC (.ty "tuple")) ai)) [some (.d d),none,none] st=some (.d (.bl (on d)),st):=aO (ae rfl (ae rfl rfl)) (iZ h)
 show cZ [some (.d d),none,none] st=_
 cases ht:on d with
 | false=>
  rw [ht] at i1
  have:qr d=false:=by cases d<;>first | rfl | cases ht
  rw [this]
  exact cy (fj (de (fU i1)) (aM rfl))
 | true=>
  rw [ht] at i1
  obtain⟨ks,rfl⟩:∃ ks,d=.tup ks:=by cases d<;>first | exact⟨_,rfl⟩ | cases ht
  rcases jj (st:=st) (x:=some (.d (.tup ks))) ks none none (fz.mp h).2 with⟨t,y,z,e⟩ | ⟨t,e⟩
  ·rw [show qr (.tup ks)=true from t]
   exact al (cF (de (fU i1)) rfl) (al (au rfl) (al (dw (cw rfl) e) (aM rfl)))
  ·rw [show qr (.tup ks)=false from t]
   exact al (cF (de (fU i1)) rfl) (al (au rfl) (cy (dw (cw rfl) e)))
theorem kO:∀ a b:List Int,HT.lexLe b a=!bu a b
 | [],[]=>rfl
 | [],_::_=>rfl
 | _::_,[]=>rfl
 | x::a,y::b=>by
  rw [HT.lexLe_cons,bu]
  by_cases h:x=y
  ·subst h
   rw [if_pos rfl,if_pos rfl,kO a b]
  ·rw [if_neg (Ne.symm h),if_neg h,<-decide_not,decide_eq_decide];lia
theorem s0:∀ (ps:List Prt) (l:List Int),(∀ p ∈ ps,kB (aC p)=true)->pF (some l) (ps.map aC)=ups (λa b=>bu a b) (l::ps.map Prod.fst)
 | [],_,_=>rfl
 | p::ps,l,h=>by
  have ih:=s0 ps p.1 λq hq=>h q (List.mem_cons_of_mem _ hq)
  rw [List.map_cons,pF,h p List.mem_cons_self,jI,List.map_cons,ups,ih,Bool.true_and]
  show (!HT.lexLe p.1 l && _)=_
  rw [kO,Bool.not_not]
theorem t7 {ps:List Prt} (h:∀ p ∈ ps,kB (aC p)=true):pF none (ps.map aC)=ups (λa b=>bu a b) (ps.map Prod.fst):=by
 cases ps with
 | nil=>rfl
 | cons p ps=>
  rw [List.map_cons,pF,h p List.mem_cons_self,jI,Bool.true_and,s0 ps p.1 λq hq=>h q (List.mem_cons_of_mem _ hq),List.map_cons]
  rfl
noncomputable def kdD:D->Bool
 | .str s=>s=="both" || s=="odd"
 | _=>false
noncomputable def isP:D->Bool
 | .tup [k,ps]=>kdD k && qr ps
 | _=>false
theorem uo {d:D} (h:∀ a b,d≠.tup [a,b]):isP d=false:=by
 unfold isP
 split
 ·rename_i a b;exact absurd rfl (h a b)
 ·rfl
theorem sV (z:Str):inD (.str z) [.str "both",.str "odd"]=(z=="both" || z=="odd"):=by
 show ([D.str "both",.str "odd"].any λy=>eqD y (.str z))=_
 simp only [List.any_cons,List.any_nil,Bool.or_false,eqD]
 rw [show (("both" : Str)==z)=(z=="both") from Bool.beq_comm ..,show (("odd" : Str)==z)=(z=="odd") from Bool.beq_comm ..]
theorem qW {st:Sto}{d:D} (h:smD d=true):fX [.d d] st=some (.d (.bl (isP d)),st):=by
 refine bq (n:=1) (k:=1) (b:=eu) rfl ?_
 show eu [some (.d d)] st=_
 rcases oy d with⟨a,b,rfl⟩ | hn
 ·have hm:=(fz.mp h).2
  have e1:=qj (st:=st) (hm b (by simp))
  refine al (cF (is2 h 0 rfl) rfl) (aM ?_)
  show _=some (W.d (.bl (kdD a && qr b)),st)
  have g0:iOp dIx (iV 0) (iC (.int 0)) [some (.d (.tup [a,b]))] st=some (.d a,st):=ap rfl rfl (ix0 st a [b])
  have g1:iCB eA (aa (iOp dIx (iV 0) (iC (.int 0))) (aa (iC (.ty "str")) ai)) [some (.d (.tup [a,b]))] st=some (.d (.bl (wC a)),st):=aO (ae g0 (ae rfl rfl)) (uL (hm a (by simp)))
  have g2:=ao (env:=[some (.d (.tup [a,b]))]) (ae (b:=ai) (ap (a:=iV 0) (b:=iC (.int 1)) rfl rfl (ix1 st a b [])) rfl) e1
  cases hs:wC a with
  | false=>
   rw [hs] at g1
   have:kdD a=false:=by cases a<;>first | rfl | cases hs
   rw [this]
   exact kq g1
  | true=>
   rw [hs] at g1
   obtain⟨z,rfl⟩:∃ z,a=.str z:=by cases a<;>first | exact⟨_,rfl⟩ | cases hs
   have g3:nc false [(.str "both"),(.str "odd")] (iOp dIx (iV 0) (iC (.int 0))) [some (.d (.tup [.str z,b]))] st=some (.d (.bl (kdD (.str z))),st):=by
    simp only [nc,g0,Option.bind_some,cx,if_true,sV,Bool.false_bne,kdD]
   refine jh g1 ?_
   cases hk:kdD (.str z) with
   | false=>rw [hk] at g3;exact kq g3
   | true=>rw [hk] at g3;exact jh g3 g2
 ·rw [uo hn]
  exact cy (fj (yv h hn 0 rfl) (aM rfl))
theorem tW {t:List Int} (h:Trm 6 t):isT (ax t)=true:=by
 show tmF (-1) (t.map D.int)=true
 rw [lI t (-1) h.2]
 refine oD (List.pairwise_cons.mpr ⟨λk hk=>decide_eq_true (by have:=(h.2 k hk).1;lia),h.1.imp λ{a b} hab=>decide_eq_true hab⟩)
end Own
end
section
set_option maxHeartbeats 1000000
namespace Own
open PySem L2
theorem kW:∀ {l:List Nat},(∀ x ∈ l,x<=100)->l.sum<=100*l.length
 | [],_=>Nat.le_refl _
 | x::l,h=>by
  have h1:=h x List.mem_cons_self
  have h2:=kW (l:=l) λy hy=>h y (List.mem_cons_of_mem _ hy)
  rw [List.sum_cons,List.length_cons];lia
noncomputable def lt (t:List Int):List Nat:=t.map λk=>97+k.toNat
noncomputable def hdN (p:Prt):List Nat:=if p.1≠[]/\p.2.natAbs=1 then (if p.2 < 0 then [45] else []) else aJ p.2
noncomputable def pw (p:Prt):List Nat:=hdN p++lt p.1
structure Gd (p:Prt):Prop where
 trm:Trm 6 p.1
 nz:p.2≠0
 low:p.2.natAbs < 10 ^ 60
theorem mK {t:List Int} (h:Trm 6 t):(lt t).length<=6:=by
 unfold lt
 rw [List.length_map]
 exact iU h
theorem ol {p:Prt} (h:Gd p):(hdN p).length<=61:=by
 unfold hdN
 have:=gH h.low
 split
 ·split<;>simp
 ·exact this
theorem jv {p:Prt} (h:Gd p):(pw p).length<=67:=by
 unfold pw
 have h1:=ol h
 have h2:=mK h.trm
 rw [List.length_append];lia
theorem xj {s:Sto}{k:Int} (h0:0<=k) (h1:k < 6):dIx s (.d (.str "abcdef")) (.d (.int k))=some (.str (S [97+k.toNat])):=by
 have:k=0\/k=1\/k=2\/k=3\/k=4\/k=5:=by lia
 rcases this with rfl | rfl | rfl | rfl | rfl | rfl<;>rfl
theorem vH:∀ l:List Nat,PySem.Txt.join "" (l.map λc=>S [c])=S l:=by
 intro l
 show PySem.Builtin.Str.glued "" _=_
 rw [PySem.StrLaws.glued_eq_join]
 induction l with
 | nil=>rfl
 | cons c l ih=>
  cases l with
  | nil=>rfl
  | cons d l=>
   rw [List.map_cons,List.map_cons]
   show S [c]++S []++PySem.Str.join "" (S [d]::l.map λc=>S [c])=_
   rw [List.map_cons] at ih
   rw [ih,iw,iw];rfl
theorem ly:∀ l:List (List Nat),ig (l.map λx=>D.str (S x))=some (l.map S)
 | []=>rfl
 | x::l=>by rw [List.map_cons,ig,ly l];rfl
theorem j8 {st:Sto}{t:List Int}{te:Ef}{env:Ev}{f:Ef} (hte:te=iOp dIx (iC (.str "abcdef")) (iV 0)) (ht:Trm 6 t) (hf:f env st=some (.d (ax t),st)):fR (iC (.str "")) (aa (bo (iLc 1 [] (bG f) (.nm 0) cC te)) ai) env st=some (.d (.str (S (lt t))),st):=by
 have hl:=iU ht
 have key:lcI (.nm 0) cC te [none] (t.map D.int) st=some ((t.map λk=>[97+k.toNat]).map λx=>D.str (S x),st):=by
  have e2:(t.map λk=>[97+k.toNat]).map (λx=>D.str (S x))=(t.map D.int).map λd=>match d with | .int k=>D.str (S [97+k.toNat]) | d=>d:=by rw [List.map_map,List.map_map];rfl
  rw [e2]
  refine mO _ λd hd=>?_
  obtain⟨i,hi,rfl⟩:=List.mem_map.mp hd
  have h:=ht.2 i hi
  rw [hte]
  exact⟨_,rfl,ap rfl rfl (xj h.1 h.2)⟩
 have hj:PySem.JoinOk ("" : Str) ((t.map λk=>[97+k.toNat]).map S)=true:=by
  refine PyProof.Rows.joinOk_of_weight ?_ (by decide)
  have hb:∀ x ∈ ((t.map λk=>[97+k.toNat]).map S).map (·.length),x<=10:=by
   intro x hx
   rw [List.map_map,List.map_map] at hx
   obtain⟨k,hk,rfl⟩:=List.mem_map.mp hx
   show (S [97+k.toNat]).length<=10
   rw [bO,List.length_singleton];decide
  have:=kc hb
  simp only [List.length_map] at this ⊢
  lia
 have hz:(t.map D.int).length<=1000000:=by rw [List.length_map];lia
 have h1:iC (.str "") env st=some (.d (.str ""),st):=rfl
 have h2:aa (bo (iLc 1 [] (bG f) (.nm 0) cC te)) ai env st=some ([.d (.lst ((t.map λk=>[97+k.toNat]).map λx=>D.str (S x)))],st):=ae (cb (fF (cw hf) hz key)) rfl
 have h3:PySem.Txt.join "" ((t.map λk=>[97+k.toNat]).map S)=S (lt t):=by
  rw [<-vH,lt,List.map_map,List.map_map];rfl
 simp only [fR,h1,h2,Option.bind_some,ly,hj,if_true,h3]
theorem ul {st:Sto}{c:Int}{env:Ev}{i:Nat} (hv:iV i env st=some (.d (.int c),st)):aP dEq (iCB i9 (aa (iV i) ai)) (iC (.int 1)) env st=some (decide (c.natAbs=1),st):=by
 refine aL (aO (ae hv rfl) (y0 c)) rfl ?_
 rw [kL]
 congr 2
 rw [Bool.eq_iff_iff];simp;lia
theorem lU {t:List Int}:lt t=[]↔t=[]:=by unfold lt;exact List.map_eq_nil_iff
theorem neE {st:Sto}{l:List Nat}:dNe st (.d (.str (S l))) (.d (.str ""))=some (.bl (decide (l≠[]))):=by
 show dNe st (.d (.str (S l))) (.d (.str (S [])))=_
 rw [neS,jR,<-decide_not]
theorem sW {st:Sto}{p:Prt} (h:Gd p):fI [.d (ax p.1),.d (.int p.2)] st=some (.d (.str (S (pw p))),st):=by
 obtain⟨t,c⟩:=p
 have e1:=j8 (st:=st) (te:=gf) (env:=[some (.d (ax t)),some (.d (.int c)),none]) (f:=iV 0) rfl h.trm rfl
 have e2:=rf (st:=st) h.low
 have hl2:=mK h.trm
 have hl1:=gH h.low
 refine bq (n:=3) (k:=2) (b:=cW) rfl ?_
 show cW [some (.d (ax t)),some (.d (.int c)),none] st=_
 have t1:aP dNe (iV 2) (iC (.str "")) [some (.d (ax t)),some (.d (.int c)),some (.d (.str (S (lt t))))] st=some (decide (lt t≠[]),st):=aL rfl rfl neE
 have t2:=ul (st:=st) (c:=c) (env:=[some (.d (ax t)),some (.d (.int c)),some (.d (.str (S (lt t))))]) (i:=1) rfl
 have sg:=vK (st:=st) (n:=c) (env:=[some (.d (ax t)),some (.d (.int c)),some (.d (.str (S (lt t))))]) 1 rfl
 have hsg:(if c < 0 then [45] else ([]:List Nat)).length<=1:=by split<;>simp
 by_cases hc:t≠[]/\c.natAbs=1
 ·have:pw (t,c)=(if c < 0 then [45] else [])++lt t:=by unfold pw hdN;rw [if_pos hc]
  rw [this]
  rw [decide_eq_true (show lt t≠[] from λz=>hc.1 (lU.mp z))] at t1
  rw [decide_eq_true hc.2] at t2
  have ta:cY (aP dNe (iV 2) (iC (.str ""))) (aP dEq (iCB i9 (aa (iV 1) ai)) (iC (.int 1))) [some (.d (ax t)),some (.d (.int c)),some (.d (.str (S (lt t))))] st=some (true,st):=by simp only [cY,t1,t2,Option.bind_some,if_true]
  generalize ax t=T at *
  exact al (au e1) (cy (fj ta (aM (ap sg rfl (fS (by lia))))))
 ·have:pw (t,c)=aJ c++lt t:=by unfold pw hdN;rw [if_neg hc]
  rw [this]
  have ta:cY (aP dNe (iV 2) (iC (.str ""))) (aP dEq (iCB i9 (aa (iV 1) ai)) (iC (.int 1))) [some (.d (ax t)),some (.d (.int c)),some (.d (.str (S (lt t))))] st=some (false,st):=by
   by_cases h0:lt t=[]
   ·rw [decide_eq_false (by simp [h0])] at t1
    simp only [cY,t1,Option.bind_some,Bool.false_eq_true,if_false]
   ·rw [decide_eq_true (show lt t≠[] from h0)] at t1
    rw [decide_eq_false (λz=>hc ⟨λq=>h0 (lU.mpr q),z⟩)] at t2
    simp only [cY,t1,t2,Option.bind_some,if_true]
  generalize ax t=T at *
  exact al (au e1) (al (cF ta rfl) (aM (ap (ao (ae rfl rfl) e2) rfl (fS (by lia)))))
noncomputable def ptl (ps:List Prt):List Nat:=ps.flatMap λp=>32::pw p
noncomputable def ptx (kd:List Nat) (ps:List Prt):List Nat:=kd++if ps=[] then [32,48] else ptl ps
theorem iS:∀ {ps:List Prt},(∀ p ∈ ps,Gd p)->(ptl ps).length<=68*ps.length
 | [],_=>Nat.le_refl _
 | p::ps,h=>by
  have h1:=jv (h p List.mem_cons_self)
  have h2:=iS (ps:=ps) λq hq=>h q (List.mem_cons_of_mem _ hq)
  have e:ptl (p::ps)=(32::pw p)++ptl ps:=rfl
  rw [e,List.length_append,List.length_cons,List.length_cons];lia
theorem yu:∀ (ps:List Prt) (a:List Nat),PySem.Txt.join " " (S a::ps.map λp=>S (pw p))=S (a++ptl ps):=by
 intro ps a
 show PySem.Builtin.Str.glued " " _=_
 rw [PySem.StrLaws.glued_eq_join]
 induction ps generalizing a with
 | nil=>show S a=S (a++[]);rw [List.append_nil]
 | cons p ps ih=>
  rw [List.map_cons]
  show S a++S [32]++PySem.Str.join " " (S (pw p)::ps.map λp=>S (pw p))=_
  rw [ih,iw,iw]
  congr 1
  show a++[32]++(pw p++ptl ps)=a++((32::pw p)++ptl ps)
  simp
theorem jn {st:Sto}{kd:List Nat}{ps:List Prt} (hk:kd.length<=10) (h:∀ p ∈ ps,Gd p) (hl:ps.length<=64):bT [.d (bB (S kd) ps)] st=some (.d (.str (S (ptx kd ps))),st):=by
 refine bq (n:=1) (k:=1) (b:=db) rfl ?_
 show db [some (.d (.tup [.str (S kd),.tup (ps.map aC)]))] st=_
 have g0:iOp dIx (iV 0) (iC (.int 0)) [some (.d (.tup [.str (S kd),.tup (ps.map aC)]))] st=some (.d (.str (S kd)),st):=ap rfl rfl (ix0 st _ _)
 have g1:iOp dIx (iV 0) (iC (.int 1)) [some (.d (.tup [.str (S kd),.tup (ps.map aC)]))] st=some (.d (.tup (ps.map aC)),st):=ap rfl rfl (ix1 st _ _ _)
 have tl:aP dEq (iCB dq (aa (iOp dIx (iV 0) (iC (.int 1))) ai)) (iC (.int 0)) [some (.d (.tup [.str (S kd),.tup (ps.map aC)]))] st=some (decide (ps=[]),st):=by
  refine aL (aO (ae g1 rfl) (we _)) rfl ?_
  rw [kL,List.length_map]
  congr 2
  rw [Bool.eq_iff_iff];simp
 by_cases h0:ps=[]
 ·rw [decide_eq_true h0] at tl
  unfold ptx
  rw [if_pos h0]
  exact cy (fj tl (aM (ap g0 rfl (fS (b:=[32,48]) (by simp;lia)))))
 ·rw [decide_eq_false h0] at tl
  unfold ptx
  rw [if_neg h0,<-yu]
  have key:lcI (.tp [0,1]) cC cT [none,none] (ps.map aC) st=some ((ps.map pw).map λx=>D.str (S x),st):=by
   rw [List.map_map]
   have e2:ps.map ((λx=>D.str (S x)) ∘ pw)=(ps.map aC).map λd=>match d with | .tup [.tup ks,.int c]=>D.str (S (pw (ks.map jV,c))) | d=>d:=by
    rw [List.map_map]
    refine List.map_congr_left λp _=>?_
    show D.str (S (pw p))=D.str (S (pw ((p.1.map D.int).map jV,p.2)))
    rw [List.map_map]
    have:p.1.map (jV ∘ D.int)=p.1:=List.map_id' p.1
    rw [this]
   rw [e2]
   refine mO _ λd hd=>?_
   obtain⟨p,hp,rfl⟩:=List.mem_map.mp hd
   have e:=sW (st:=st) (h p hp)
   refine⟨[some (.d (ax p.1)),some (.d (.int p.2))],rfl,?_⟩
   show cT _ st=some (W.d (.str (S (pw ((p.1.map D.int).map jV,p.2)))),st)
   rw [List.map_map]
   have:p.1.map (jV ∘ D.int)=p.1:=List.map_id' p.1
   rw [this]
   exact ao (ae rfl (ae rfl rfl)) e
  have hz:(ps.map aC).length<=1000000:=by rw [List.length_map];lia
  have hj:PySem.JoinOk (" " : Str) (S kd::(ps.map pw).map S)=true:=by
   refine PyProof.Rows.joinOk_of_weight ?_ (by decide)
   have hb:∀ x ∈ ((ps.map pw).map S).map (·.length),x<=100:=by
    intro x hx
    rw [List.map_map,List.map_map] at hx
    obtain⟨p,hp,rfl⟩:=List.mem_map.mp hx
    show (S (pw p)).length<=100
    rw [bO]
    have:=jv (h p hp)
    lia
   have:=kW hb
   rw [List.map_cons,List.sum_cons,List.length_cons,bO]
   simp only [List.length_map] at this ⊢
   lia
  have e3:ig (D.str (S kd)::(ps.map pw).map λx=>D.str (S x))=some (S kd::(ps.map pw).map S):=ly (kd::ps.map pw)
  have ej:(ps.map pw).map S=ps.map λp=>S (pw p):=by rw [List.map_map];rfl
  have hA:aa (iOp aK (bo (gP (aa (iOp dIx (iV 0) (iC (.int 0))) ai))) (bo (iLc 2 [] (bG (iOp dIx (iV 0) (iC (.int 1)))) (.tp [0,1]) cC cT))) ai [some (.d (.tup [.str (S kd),.tup (ps.map aC)]))] st=some ([.d (.lst (D.str (S kd)::(ps.map pw).map λx=>D.str (S x)))],st):=
   ae (ap (cb (oX (ds:=[.str (S kd)]) (ae g0 rfl) rfl (by show 1<=1000;decide))) (cb (fF (cw g1) hz key)) (wH st (by rw [List.length_map,List.length_map,List.length_singleton];lia))) rfl
  have h1:iC (.str " ") [some (.d (.tup [.str (S kd),.tup (ps.map aC)]))] st=some (.d (.str " "),st):=rfl
  rw [ej] at hj e3
  refine al (cF tl rfl) (aM ?_)
  simp only [fR,h1,hA,Option.bind_some,e3,hj,if_true]
end Own
end
section
set_option maxHeartbeats 1000000
namespace Own
open PySem L2
theorem mT:∀ c,c < 128->("abcdef" : Str).cps.contains c=decide (97<=c/\c<=102):=by decide +kernel
theorem eQ {p:Nat->Bool}:∀ {l m:List Nat},(∀ c ∈ l,p c=true)->(m=[]\/∃ c r,m=c::r/\p c=false)->(l++m).takeWhile p=l
 | [],m,_,h=>by
  rcases h with rfl | ⟨c,r,rfl,hc⟩
  ·rfl
  ·rw [List.nil_append,List.takeWhile_cons,hc];rfl
 | c::l,m,hl,h=>by
  rw [List.cons_append,List.takeWhile_cons,hl c List.mem_cons_self,if_pos rfl,eQ (λx hx=>hl x (List.mem_cons_of_mem _ hx)) h]
theorem qT {A L:List Nat} (hL:∀ c ∈ L,97<=c/\c<=102) (hA:∀ c ∈ A,c < 97):PySem.Txt.rstripChars (S (A++L)) "abcdef" = S A:=by
 have hg:∀ c ∈ L,("abcdef" : Str).cps.contains c=true:=λc hc=>by
  have:=hL c hc
  rw [mT c (by lia)]
  exact decide_eq_true this
 have hn:A.reverse=[]\/∃ c r,A.reverse=c::r/\("abcdef" : Str).cps.contains c=false:=by
  cases hr:A.reverse with
  | nil=>exact .inl rfl
  | cons c r=>
   have hc:=hA c (by rw [<-List.mem_reverse,hr];simp)
   exact .inr ⟨c,r,rfl,by rw [mT c (by lia)];exact decide_eq_false (by lia)⟩
 have hhi:PySem.stripHi ("abcdef" : Str).cps.contains true (S (A++L)) 0=A.length:=by
  show (S (A++L)).length - (((A++L).drop 0).reverse.takeWhile ("abcdef" : Str).cps.contains).length=_
  rw [List.drop_zero,List.reverse_append,eQ (λc hc=>hg c (List.mem_reverse.mp hc)) hn,bO,List.length_append,List.length_reverse]
  lia
 show PySem.Txt.stripBy ("abcdef" : Str).cps.contains false true (S (A++L))=_
 unfold PySem.Txt.stripBy PySem.stripSame PySem.stripped
 have hlo:PySem.stripLo ("abcdef" : Str).cps.contains false (S (A++L))=0:=rfl
 rw [hlo,hhi,bO,List.length_append]
 by_cases h0:L=[]
 ·subst h0
  rw [if_pos (by simp),List.append_nil]
 ·have:0 < L.length:=List.length_pos_iff.mpr h0
  have hb:((0==0) && (A.length==A.length+L.length))=false:=by
   have:(A.length==A.length+L.length)=false:=beq_eq_false_iff_ne.mpr (by lia)
   rw [this];rfl
  rw [hb,if_neg (by decide)]
  show (⟨((A++L).toArray).extract 0 A.length⟩:Str)=⟨A.toArray⟩
  congr 1
  apply Array.toList_inj.mp
  simp
theorem nS {T:List Nat}{p:Nat} (h:p<=T.length):iP (S T) (some (p:Int)) none=S (T.drop p):=by
 unfold iP
 rw [bO,rA,HT.sIx_nat,HT.sIx_none]
 show S _=S _
 congr 1
 rw [Nat.min_eq_left h,List.take_of_length_le (by rw [List.length_drop];exact Nat.le_refl _)]
theorem uh {T:List Nat}:iP (S T) none (some 1)=S (T.take 1):=by
 unfold iP
 rw [bO,rA,HT.sIx_none,show (1:Int)=((1:Nat):Int) from rfl,HT.sIx_nat]
 show S _=S _
 congr 1
 rw [List.drop_zero,Nat.sub_zero]
 cases T with
 | nil=>rfl
 | cons c r=>simp
theorem sJ:∀ k,k < 6->PySem.Txt.find "abcdef" (S [97+k])=(k:Int):=by decide +kernel
theorem tK:∀ c,c < 58->48<=c->PySem.Txt.contains "0123456789" (S [c])=true:=by decide +kernel
theorem uG {f:Ef}{lo hi:Pf}{env:Ev}{st:Sto}{T:List Nat}{l u:Option Int} (hT:T.length<=1000000) (hf:f env st=some (.d (.str (S T)),st)) (hl:lo env st=some (l,st)) (hh:hi env st=some (u,st)):gZ f lo hi env st=some (.d (.str (iP (S T) l u)),st):=by
 have hz:(S T).length<=1000000:=by rw [bO];exact hT
 simp only [gZ,hf,hl,hh,Option.bind_some,hz,if_true]
theorem yL {l:List Nat} (h:∀ c ∈ l,c < 128):asc (S l)=true:=by
 show (l.toArray.all λc=>decide (c < 128))=true
 rw [List.all_toArray,List.all_eq_true]
 exact λc hc=>decide_eq_true (h c hc)
theorem r8 {f:Ef}{env:Ev}{st:Sto}{l:List Nat} (hf:f env st=some (.d (.str (S l)),st)) (h:∀ c ∈ l,c < 128):hW f env st=some (l.map λc=>D.str (S [c]),st):=by
 simp only [hW,hf,Option.bind_some,yL h,if_true]
 rfl
theorem in2 {s:Sto}{x a b:Str}:dIn s (.d (.str x)) (.d (.tup [.str a,.str b]))=some (.bl (a==x || b==x)):=by
 show (if cx (.str x)=true/\[D.str a,.str b].all cx=true then some (D.bl (inD (.str x) [.str a,.str b])) else none)=_
 rw [if_pos ⟨rfl,rfl⟩]
 show some (D.bl ([D.str a,.str b].any λy=>eqD y (.str x)))=_
 simp only [List.any_cons,List.any_nil,Bool.or_false,eqD]
theorem uB {st:Sto}{n:Int} (h:n.natAbs < 10 ^ 60):dO [.d (.str (S (aJ n)))] st=some (.d (.int n),st):=by
 have hl:=gH h
 have hdl:=lK (k:=60) (by decide) h
 refine bq (n:=2) (k:=1) (b:=cu) rfl ?_
 show cu [some (.d (.str (S (aJ n)))),none] st=_
 have hint:bS st [.d (.str (S (aJ n)))]=some (.int n):=by
  show (if (S (aJ n)).length<=640 then (PySem.intText? (S (aJ n))).map D.int else none)=_
  rw [bO,if_pos (by lia),py h];rfl
 have t1:aP dIn (iV 0) (aI (aa (iC (.str "")) (aa (iC (.str "-")) ai))) [some (.d (.str (S (aJ n)))),none] st=some (false,st):=by
  refine aL rfl (cD (ds:=[.str "",.str "-"]) rfl rfl (by show 2<=1000;decide)) ?_
  rw [in2]
  show some (D.bl (S []==S (aJ n) || S [45]==S (aJ n)))=_
  rw [jR,jR,decide_eq_false (λz=>rZ n z.symm),decide_eq_false (λz=>?_)]
  ·rfl
  ·unfold aJ at z
   split at z
   ·injection z with _ z;exact nX _ z.symm
   ·have:=eh (m:=n.natAbs) (c:=45) (by rw [<-z];simp)
    lia
 have figs:∀ fig:List Nat,fig.length<=60->(∀ c ∈ fig,48<=c/\c<=57)->fA (aP dEq (gZ (iV 0) iPn (iPs (iC (.int 1)))) (iC (.str "-"))) (gZ (iV 0) (iPs (iC (.int 1))) iPn) (iV 0) [some (.d (.str (S (aJ n)))),none] st=some (.d (.str (S fig)),st)->cu [some (.d (.str (S (aJ n)))),none] st=some (.rt (.d (.int n)) st):=λfig f1 f2 e=>by
  have key:lcI (.nm 0) cC gj [none] (fig.map λc=>D.str (S [c])) st=some ((fig.map λ_=>true).map D.bl,st):=by
   have e2:(fig.map λ_=>true).map D.bl=(fig.map λc=>D.str (S [c])).map λ_=>D.bl true:=by rw [List.map_map,List.map_map];rfl
   rw [e2]
   refine mO _ λd hd=>?_
   obtain⟨c,hc,rfl⟩:=List.mem_map.mp hd
   have:=f2 c hc
   refine⟨_,rfl,ap rfl rfl ?_⟩
   show some (D.bl (PySem.Txt.contains "0123456789" (S [c])))=_
   rw [tK c (by lia) this.1]
  have hz:(fig.map λc=>D.str (S [c])).length<=1000000:=by rw [List.length_map];lia
  have q1:=zQ (bs:=fig.map λ_=>true) (ae (b:=ai) (cb (fF (k:=1) (js:=[]) (env:=[some (.d (.str (S (aJ n)))),some (.d (.str (S fig)))]) (r8 (f:=iV 1) rfl λc hc=>by have:=f2 c hc;lia) hz key)) rfl)
  rw [show (fig.map λ_=>true).all id=true by rw [List.all_map];exact List.all_eq_true.mpr λ_ _=>rfl] at q1
  have t2:aP dGt (iCB dq (aa (iV 1) ai)) (iC (.int 60)) [some (.d (.str (S (aJ n)))),some (.d (.str (S fig)))] st=some (false,st):=by
   have el:dq st [.d (.str (S fig))]=some (.int (fig.length:Int)):=by
    show (if (S fig).length<=1000000 then some (D.int ((S fig).length:Int)) else none)=_
    rw [bO,if_pos (by lia)]
   exact aL (aO (ae rfl rfl) el) rfl (zz _ (decide_eq_false (by lia)))
  exact al (cF t1 rfl) (al (au e) (al (cF (ix t2 (de (fU q1))) rfl) (aM (aO (ae rfl rfl) hint))))
 have s1:gZ (iV 0) iPn (iPs (iC (.int 1))) [some (.d (.str (S (aJ n)))),none] st=some (.d (.str (S ((aJ n).take 1))),st):=by
  rw [<-uh];exact uG (by lia) rfl rfl rfl
 by_cases h0:n < 0
 ·have en:aJ n=45::dg n.natAbs:=by unfold aJ;rw [if_pos h0]
  refine figs (dg n.natAbs) hdl (λc hc=>eh hc) (kr (aL s1 rfl ?_) ?_)
  ·rw [en]
   show dEq st (.d (.str (S [45]))) (.d (.str (S [45])))=_
   rw [eqS,beq_self_eq_true]
  ·have e:=uG (f:=iV 0) (lo:=iPs (iC (.int 1))) (hi:=iPn) (env:=[some (.d (.str (S (aJ n)))),none]) (st:=st) (T:=aJ n) (l:=some ((1:Nat):Int)) (u:=none) (by lia) rfl rfl rfl
   rw [nS (by rw [en];simp)] at e
   rw [e,en];rfl
 ·have en:aJ n=dg n.natAbs:=by unfold aJ;rw [if_neg h0]
  refine figs (aJ n) (by rw [en];exact hdl) (λc hc=>by rw [en] at hc;exact eh hc) (jg (aL s1 rfl ?_) rfl)
  show dEq st (.d (.str (S ((aJ n).take 1)))) (.d (.str (S [45])))=_
  rw [eqS,jR,decide_eq_false]
  intro z
  have:(45:Nat) ∈ aJ n:=List.mem_of_mem_take (i:=1) (by rw [z];simp)
  rw [en] at this
  have:=eh this
  lia
theorem xK {st:Sto}{p:Prt} (h:Gd p):dO [.d (.str (S (hdN p)))] st=some (.d (.int p.2),st):=by
 unfold hdN
 by_cases hc:p.1≠[]/\p.2.natAbs=1
 ·rw [if_pos hc]
  by_cases h0:p.2 < 0
  ·rw [if_pos h0,show p.2=-1 by lia]
   rfl
  ·rw [if_neg h0,show p.2=1 by lia]
   rfl
 ·rw [if_neg hc]
  exact uB h.low
theorem rj {p:Prt}{c:Nat} (h:c ∈ hdN p):c < 97:=by
 unfold hdN at h
 split at h
 ·split at h
  ·have:=List.mem_singleton.mp h;lia
  ·cases h
 ·rcases np h with h | h<;>lia
theorem kf {t:List Int} (ht:Trm 6 t) {c:Nat} (h:c ∈ lt t):97<=c/\c<=102:=by
 obtain⟨k,hk,rfl⟩:=List.mem_map.mp h
 have:=ht.2 k hk
 lia
theorem wb {st:Sto}{p:Prt} (h:Gd p):gY [.d (.str (S (pw p)))] st=some (.d (aC p),st):=by
 have hl:=jv h
 have e0:=xK (st:=st) h
 have hlt:=mK h.trm
 refine bq (n:=2) (k:=1) (b:=eI) rfl ?_
 show eI [some (.d (.str (S (pw p)))),none] st=_
 have e1:iTm dQ (iV 0) (aa (iC (.str "abcdef")) ai) [some (.d (.str (S (pw p)))),none] st=some (.d (.str (S (hdN p))),st):=by
  have g:dQ (S (pw p)) "abcdef" = some (.str (S (hdN p))):=by
   unfold dQ
   rw [bO,if_pos (by lia)]
   congr 2
   exact qT (λc hc=>kf h.trm hc) (λc hc=>rj hc)
  have g1:iV 0 [some (.d (.str (S (pw p)))),none] st=some (.d (.str (S (pw p))),st):=rfl
  have g2:aa (iC (.str "abcdef")) ai [some (.d (.str (S (pw p)))),none] st=some ([.d (.str "abcdef")],st):=rfl
  simp only [iTm,g1,g2,Option.bind_some,g,Option.map_some]
 have el:dq st [.d (.str (S (hdN p)))]=some (.int ((hdN p).length:Int)):=by
  have:=ol h
  show (if (S (hdN p)).length<=1000000 then some (D.int ((S (hdN p)).length:Int)) else none)=_
  rw [bO,if_pos (by lia)]
 have e2:gZ (iV 0) (iPs (iCB dq (aa (iV 1) ai))) iPn [some (.d (.str (S (pw p)))),some (.d (.str (S (hdN p))))] st=some (.d (.str (S (lt p.1))),st):=by
  have gl:iPs (iCB dq (aa (iV 1) ai)) [some (.d (.str (S (pw p)))),some (.d (.str (S (hdN p))))] st=some (some ((hdN p).length:Int),st):=by
   have:=aO (a:=aa (iV 1) ai) (env:=[some (.d (.str (S (pw p)))),some (.d (.str (S (hdN p))))]) (ae rfl rfl) el
   simp only [iPs,this,Option.bind_some,wm,Option.map_some]
  have e:=uG (f:=iV 0) (lo:=iPs (iCB dq (aa (iV 1) ai))) (hi:=iPn) (env:=[some (.d (.str (S (pw p)))),some (.d (.str (S (hdN p))))]) (st:=st) (T:=pw p) (l:=some ((hdN p).length:Int)) (u:=none) (by lia) rfl gl rfl
  rw [nS (by unfold pw;rw [List.length_append];lia)] at e
  rw [e]
  unfold pw
  rw [List.drop_left]
 have key:lcI (.nm 0) cC dR [none] ((lt p.1).map λc=>D.str (S [c])) st=some (p.1.map D.int,st):=by
  have hm:∀ ks:List Int,(∀ k ∈ ks,0<=k/\k < 6)->lcI (.nm 0) cC dR [none] ((lt ks).map λc=>D.str (S [c])) st=some (ks.map D.int,st):=by
   intro ks
   induction ks with
   | nil=>intro _;rfl
   | cons k ks ih=>
    intro hk
    have h1:=hk k List.mem_cons_self
    obtain⟨j,rfl⟩:=Int.eq_ofNat_of_zero_le h1.1
    have ih':=ih λq hq=>hk q (List.mem_cons_of_mem _ hq)
    have e:(lt ((j:Int)::ks)).map (λc=>D.str (S [c]))=D.str (S [97+j])::(lt ks).map λc=>D.str (S [c]):=rfl
    have hf:dR [some (.d (.str (S [97+j])))] st=some (.d (.int (j:Int)),st):=by
     have g1:iC (.str "abcdef") [some (.d (.str (S [97+j])))] st=some (.d (.str "abcdef"),st):=rfl
     have g2:aa (iV 0) ai [some (.d (.str (S [97+j])))] st=some ([.d (.str (S [97+j]))],st):=rfl
     show iTm nF (iC (.str "abcdef")) (aa (iV 0) ai) _ st=_
     simp only [iTm,g1,g2,Option.bind_some,nF,sJ j (by lia),Option.map_some]
    rw [e]
    unfold lcI
    rw [show dr (.nm 0) (.d (.str (S [97+j]))) [none]=some [some (.d (.str (S [97+j])))] from rfl,Option.bind_some,show cC [some (.d (.str (S [97+j])))] st=some (true,st) from rfl,Option.bind_some,if_pos rfl,hf,Option.bind_some,ih'];rfl
  exact hm p.1 h.trm.2
 have hz:((lt p.1).map λc=>D.str (S [c])).length<=1000000:=by rw [List.length_map];lia
 exact al (au e1) (aM (cD (ds:=[ax p.1,.int p.2]) (ae (aO (ae (cb (fF (r8 e2 λc hc=>by have:=kf h.trm hc;lia) hz key)) rfl) rfl) (ae (ao (ae rfl rfl) e0) rfl)) rfl (by show 2<=1000;decide)))
end Own
end
section
set_option maxHeartbeats 1000000
namespace Own
open PySem L2
noncomputable def J:List (List Nat)->List Nat
 | []=>[]
 | [a]=>a
 | a::b::r=>a++32::J (b::r)
theorem rs:∀ {a:List Nat}{r:List (List Nat)},32 ∉ a->(J (a::r)).takeWhile (· != 32)=a/\(J (a::r)).dropWhile (· != 32)=(match r with | []=>[] | b::s=>32::J (b::s)):=by
 intro a r ha
 have hall:∀ c ∈ a,(c != 32)=true:=λc hc=>by
  have:c≠32:=λz=>ha (by rw [<-z];exact hc)
  simp [this]
 cases r with
 | nil=>
  refine⟨?_,?_⟩
  ·have:=eQ (p:=(· != 32)) (l:=a) (m:=[]) hall (.inl rfl)
   rw [List.append_nil] at this
   exact this
  ·show a.dropWhile (· != 32)=[]
   clear ha
   induction a with
   | nil=>rfl
   | cons c a ih=>rw [List.dropWhile_cons,hall c List.mem_cons_self,if_pos rfl];exact ih λx hx=>hall x (List.mem_cons_of_mem _ hx)
 | cons b s=>
  have e:J (a::b::s)=a++32::J (b::s):=rfl
  refine⟨?_,?_⟩
  ·rw [e]
   exact eQ hall (.inr ⟨32,_,rfl,rfl⟩)
  ·rw [e]
   show (a++32::J (b::s)).dropWhile (· != 32)=32::J (b::s)
   rw [List.dropWhile_append_of_pos hall]
   rfl
theorem vQ:∀ {ws vs:List (List Nat)},ws≠[]->vs≠[]->(∀ w ∈ ws,32 ∉ w)->(∀ v ∈ vs,32 ∉ v)->J ws=J vs->ws=vs
 | [],_,h,_,_,_,_=>absurd rfl h
 | _::_,[],_,h,_,_,_=>absurd rfl h
 | a::r,b::s,_,_,hw,hv,e=>by
  obtain⟨a1,a2⟩:=rs (r:=r) (hw a List.mem_cons_self)
  obtain⟨b1,b2⟩:=rs (r:=s) (hv b List.mem_cons_self)
  have hab:a=b:=by rw [<-a1,e,b1]
  rw [e,b2] at a2
  subst hab
  cases r with
  | nil=>
   cases s with
   | nil=>rfl
   | cons _ _=>cases a2
  | cons x r=>
   cases s with
   | nil=>cases a2
   | cons y s=>
    injection a2 with _ a2
    rw [vQ (ws:=x::r) (vs:=y::s) (by simp) (by simp) (λw h=>hw w (List.mem_cons_of_mem _ h)) (λv h=>hv v (List.mem_cons_of_mem _ h)) a2.symm]
theorem qP:∀ ws:List (List Nat),PySem.Str.join (S [32]) (ws.map S)=S (J ws)
 | []=>rfl
 | [a]=>rfl
 | a::b::r=>by
  have ih:=qP (b::r)
  rw [List.map_cons] at ih
  rw [List.map_cons,List.map_cons]
  show S a++S [32]++PySem.Str.join (S [32]) (S b::r.map S)=_
  rw [ih,iw,iw]
  congr 1
  show a++[32]++J (b::r)=a++32::J (b::r)
  simp
theorem zZ (x:Str):x=S x.cps.toList:=by
 obtain⟨a⟩:=x
 show (⟨a⟩:Str)=⟨a.toList.toArray⟩
 simp
theorem px {ws:List (List Nat)} (h0:J ws≠[]) (h:∀ w ∈ ws,32 ∉ w):PySem.Txt.split (S (J ws)) " " = ws.map S:=by
 have hj:=PySem.StrLaws.join_split (S (J ws)) (S [32])
 have hf:=PySem.StrLaws.split_free (S (J ws)) 32
 show PySem.Txt.split (S (J ws)) (S [32])=_
 have hf:∀ p ∈ PySem.Txt.split (S (J ws)) (S [32]),32 ∉ p.cps.toList:=hf
 generalize PySem.Txt.split (S (J ws)) (S [32])=l at hj hf
 have el:l=(l.map λs=>s.cps.toList).map S:=by
  rw [List.map_map]
  conv=>lhs;rw [<-List.map_id l]
  exact List.map_congr_left λs _=>zZ s
 generalize hv:(l.map λs=>s.cps.toList)=vs at el
 have hfv:∀ v ∈ vs,32 ∉ v:=λv hm=>by
  rw [<-hv] at hm
  obtain⟨s,hs,rfl⟩:=List.mem_map.mp hm
  exact hf s hs
 rw [el,qP] at hj
 have e:=vN hj
 have hvn:vs≠[]:=λz=>by rw [z] at e;exact h0 e.symm
 have hwn:ws≠[]:=λz=>by rw [z] at h0;exact h0 rfl
 rw [el,vQ hvn hwn hfv h e]
theorem zF {f:Ef}{env:Ev}{st:Sto}{ws:List (List Nat)} (hf:f env st=some (.d (.str (S (J ws))),st)) (h0:J ws≠[]) (h:∀ w ∈ ws,32 ∉ w) (hl:(J ws).length<=10000) (hw:ws.length<=1000):rq f (aa (iC (.str " ")) ai) env st=some (.d (.lst ((ws.map S).map D.str)),st):=by
 have hA:aa (iC (.str " ")) ai env st=some ([.d (.str " ")],st):=rfl
 have c:(S (J ws)).length<=100000/\(" " : Str).length=1/\(PySem.Txt.split (S (J ws)) " ").length<=100000/\(PySem.Builtin.Str.partsBetween (S (J ws)) (PySem.Builtin.Str.occurrences (S (J ws)) " " 0 (S (J ws)).length ((S (J ws)).length+1)) (" " : Str).length).length<=100000:=by
  refine⟨by rw [bO];lia,rfl,by rw [px h0 h,List.length_map];lia,?_⟩
  rw [PySem.length_partsBetween]
  have:=PySem.StrLaws.occ_length_le (S (J ws)) " " 0 (S (J ws)).length ((S (J ws)).length+1)
  rw [bO] at this ⊢
  lia
 simp only [rq,hf,hA,Option.bind_some]
 rw [if_pos c,px h0 h]
theorem vD:∀ (ps:List Prt) (a:List Nat),J (a::ps.map pw)=a++ptl ps
 | [],a=>by show a=a++[];rw [List.append_nil]
 | p::ps,a=>by
  show a++32::J (pw p::ps.map pw)=a++((32::pw p)++ptl ps)
  rw [vD ps (pw p)];rfl
theorem ur {p:Prt} (h:Gd p):32 ∉ pw p:=λz=>by
 rcases List.mem_append.mp z with z | z
 ·unfold hdN at z
  split at z
  ·split at z
   ·have:=List.mem_singleton.mp z;lia
   ·cases z
  ·rcases np z with z | z<;>lia
 ·have:=kf h.trm z;lia
structure Pok (ps:List Prt):Prop where
 gd:∀ p ∈ ps,Gd p
 up:(ps.map Prod.fst).Pairwise λa b=>bu a b=true
 few:ps.length<=64
theorem ui {p:Prt} (h:Gd p):kB (aC p)=true:=by
 show (isT (ax p.1) && (wh (.int p.2) && nz (.int p.2)))=true
 rw [tW h.trm]
 simp [wh,nz,h.nz]
theorem yJ {p:Prt} (h:Gd p):smD (aC p)=true:=by
 have h1:smD (ax p.1)=true:=fz.mpr ⟨by rw [List.length_map];have:=iU h.trm;lia,λd hd=>by
  obtain⟨i,_,rfl⟩:=List.mem_map.mp hd
  rfl⟩
 exact fz.mpr ⟨by show 2<=1000;decide,λd hd=>by
  simp only [List.mem_cons,List.not_mem_nil,or_false] at hd
  rcases hd with rfl | rfl
  ·exact h1
  ·rfl⟩
noncomputable def kdN (b:Bool):List Nat:=if b then [98,111,116,104] else [111,100,100]
theorem gy (b:Bool):32 ∉ kdN b/\(kdN b).length<=10/\kdN b≠[]:=by cases b<;>decide
theorem uZ {b:Bool}{ps:List Prt} (h:Pok ps):smD (bB (S (kdN b)) ps)=true:=by
 have h1:smD (.tup (ps.map aC))=true:=fz.mpr ⟨by rw [List.length_map];have:=h.few;lia,λd hd=>by
  obtain⟨p,hp,rfl⟩:=List.mem_map.mp hd
  exact yJ (h.gd p hp)⟩
 exact fz.mpr ⟨by show 2<=1000;decide,λd hd=>by
  simp only [List.mem_cons,List.not_mem_nil,or_false] at hd
  rcases hd with rfl | rfl
  ·rfl
  ·exact h1⟩
theorem rH {b:Bool}{ps:List Prt} (h:Pok ps):isP (bB (S (kdN b)) ps)=true:=by
 show (kdD (.str (S (kdN b))) && pF none (ps.map aC))=true
 rw [t7 λp hp=>ui (h.gd p hp),oD h.up,Bool.and_true]
 cases b<;>decide
theorem yB {s:Sto}{x:Str}{e:Ev}:bJ (dk dm (iCB eA (aa (iV 0) (aa (iC (.ty "str")) ai)))) (some (.d (.str x))::e) s=some (false,s):=rfl
theorem pd {st:Sto}{b:Bool}{ps:List Prt} (h:Pok ps):ce [.d (.str (S (ptx (kdN b) ps)))] st=some (.d (bB (S (kdN b)) ps),st):=by
 obtain⟨k1,k2,k3⟩:=gy b
 have hfew:=h.few
 have hpl:=iS h.gd
 have e1:=qW (st:=st) (uZ (b:=b) h)
 rw [rH h] at e1
 have e2:=jn (st:=st) (kd:=kdN b) k2 h.gd h.few
 have hTl:(ptx (kdN b) ps).length<=10000:=by
  unfold ptx
  rw [List.length_append]
  split
  ·simp;lia
  ·lia
 refine bq (n:=4) (k:=1) (b:=di) rfl ?_
 show di [some (.d (.str (S (ptx (kdN b) ps)))),none,none,none] st=_
 -- the words
 obtain⟨ws,hJ,hfree,hwl,hpar⟩:∃ ws:List (List Nat),J (kdN b::ws)=ptx (kdN b) ps/\(∀ w ∈ kdN b::ws,32 ∉ w)/\ws.length<=64/\
   fA (aP dEq (iV 2) (bo (gP (aa (iC (.str "0")) ai)))) (aI ai) (iCB nG (aa (bo (iLc 1 [] (bG (iV 2)) (.nm 0) cC cn)) ai)) [some (.d (.str (S (ptx (kdN b) ps)))),some (.d (.lst ((S (kdN b)::ws.map S).map D.str))),some (.d (.lst ((ws.map S).map D.str))),none] st=some (.d (.tup (ps.map aC)),st):=by
  by_cases h0:ps=[]
  ·subst h0
   refine⟨[[48]],?_,?_,by decide,?_⟩
   ·unfold ptx
    rw [if_pos rfl];rfl
   ·intro w hw
    simp only [List.mem_cons,List.not_mem_nil,or_false] at hw
    rcases hw with rfl | rfl
    ·exact k1
    ·decide
   ·refine kr (aL rfl rfl ?_) rfl
    show ((eqK (.ls [.str (S [48])]) (.ls [.str "0"])).map λk=>D.bl k)=_
    rfl
  ·refine⟨ps.map pw,?_,?_,by rw [List.length_map];exact h.few,?_⟩
   ·rw [vD];unfold ptx;rw [if_neg h0]
   ·intro w hw
    rcases List.mem_cons.mp hw with rfl | hw
    ·exact k1
    ·obtain⟨p,hp,rfl⟩:=List.mem_map.mp hw
     exact ur (h.gd p hp)
   ·have key:lcI (.nm 0) cC cn [none] (((ps.map pw).map S).map D.str) st=some (ps.map aC,st):=by
     have hm:∀ qs:List Prt,(∀ p ∈ qs,Gd p)->lcI (.nm 0) cC cn [none] (((qs.map pw).map S).map D.str) st=some (qs.map aC,st):=by
      intro qs
      induction qs with
      | nil=>intro _;rfl
      | cons q qs ih=>
       intro hq
       have ih':=ih λz hz=>hq z (List.mem_cons_of_mem _ hz)
       have hf:cn [some (.d (.str (S (pw q))))] st=some (.d (aC q),st):=ao rfl (wb (hq q List.mem_cons_self))
       rw [List.map_cons,List.map_cons,List.map_cons,List.map_cons]
       unfold lcI
       rw [show dr (.nm 0) (.d (.str (S (pw q)))) [none]=some [some (.d (.str (S (pw q))))] from rfl,Option.bind_some,show cC [some (.d (.str (S (pw q))))] st=some (true,st) from rfl,Option.bind_some,if_pos rfl,hf,Option.bind_some,ih'];rfl
     exact hm ps h.gd
    have hz:(((ps.map pw).map S).map D.str).length<=1000000:=by rw [List.length_map,List.length_map,List.length_map];lia
    refine jg (aL rfl rfl ?_) (aO (ae (cb (fF (lj rfl) hz key)) rfl) rfl)
    show ((eqK (.ls (((ps.map pw).map S).map D.str)) (.ls [.str "0"])).map λk=>D.bl k)=_
    rw [eqK]
    by_cases h1:(((ps.map pw).map S).map D.str).length=[D.str "0"].length
    ·rw [if_pos h1]
     simp only [List.length_map,List.length_cons,List.length_nil] at h1
     match ps,h1,h.gd with
     | [p],_,hg=>
      have hg:=hg p List.mem_cons_self
      have hp:pw p≠[48]:=λz=>by
       unfold pw at z
       by_cases hc:p.1≠[]/\p.2.natAbs=1
       ·have hh:hdN p=if p.2 < 0 then [45] else []:=by unfold hdN;rw [if_pos hc]
        have:(48:Nat) ∈ hdN p++lt p.1:=by rw [z];simp
        rcases List.mem_append.mp this with q | q
        ·rw [hh] at q
         split at q
         ·have:=List.mem_singleton.mp q;lia
         ·cases q
        ·have:=kf hg.trm q;lia
       ·have hh:hdN p=aJ p.2:=by unfold hdN;rw [if_neg hc]
        rw [hh] at z
        have hz2:lt p.1=[]:=by
         cases hq:aJ p.2 with
         | nil=>exact absurd hq (rZ _)
         | cons c r=>
          rw [hq] at z
          injection z with _ z
          exact (List.append_eq_nil_iff.mp z).2
        rw [hz2,List.append_nil] at z
        exact hg.nz (rN.mp z)
      have he:(S (pw p)==("0" : Str))=false:=by
       show (S (pw p)==S [48])=false
       rw [jR];exact decide_eq_false hp
      show Option.map _ (if [D.str (S (pw p))].all (okD 60)=true/\[D.str "0"].all (okD 60)=true then some (fD [D.str (S (pw p))] [D.str "0"]) else none)=_
      rw [if_pos ⟨rfl,rfl⟩]
      show some (D.bl (eqD (.str (S (pw p))) (.str "0") && true))=_
      simp only [eqD,he,Bool.false_and]
    ·rw [if_neg h1];rfl
 have hJne:J (kdN b::ws)≠[]:=λz=>by
  rw [hJ] at z
  unfold ptx at z
  exact k3 (List.append_eq_nil_iff.mp z).1
 have hs:=zF (f:=iV 0) (env:=[some (.d (.str (S (ptx (kdN b) ps)))),none,none,none]) (st:=st) (ws:=kdN b::ws) (by rw [hJ];rfl) hJne hfree (by rw [hJ];exact hTl) (by rw [List.length_cons];lia)
 rw [List.map_cons] at hs
 have s2:iSl (iV 1) (iPs (iC (.int 1))) iPn [some (.d (.str (S (ptx (kdN b) ps)))),some (.d (.lst ((S (kdN b)::ws.map S).map D.str))),none,none] st=some (.d (.lst ((ws.map S).map D.str)),st):=by
  show some (W.d (.lst (iN ((S (kdN b)::ws.map S).map D.str) (some (1:Int)) none)),st)=_
  rw [show (1:Int)=((1:Nat):Int) from rfl,se];rfl
 have g0:∀ o,iOp dIx (iV 1) (iC (.int 0)) [some (.d (.str (S (ptx (kdN b) ps)))),some (.d (.lst ((S (kdN b)::ws.map S).map D.str))),some (.d (.lst ((ws.map S).map D.str))),o] st=some (.d (.str (S (kdN b))),st):=λo=>ap rfl rfl (by
  show atI (D.str (S (kdN b))::(ws.map S).map D.str) 0=_
  exact uz _ _)
 have tt:fJ (bJ (dk dm (ay fX (aa (iV 3) ai)))) (aP dNe (ay bT (aa (iV 3) ai)) (iV 0)) [some (.d (.str (S (ptx (kdN b) ps)))),some (.d (.lst ((S (kdN b)::ws.map S).map D.str))),some (.d (.lst ((ws.map S).map D.str))),some (.d (bB (S (kdN b)) ps))] st=some (false,st):=
  ix (de (fU (ao (ae rfl rfl) e1))) (aL (ao (ae rfl rfl) e2) rfl (by rw [neS,beq_self_eq_true];rfl))
 exact al (cF yB rfl) (al (au hs) (al (au s2) (al (au (cD (ds:=[.str (S (kdN b)),.tup (ps.map aC)]) (ae (g0 _) (ae hpar rfl)) rfl (by show 2<=1000;decide))) (al (cF tt rfl) (aM rfl)))))
end Own
end
section
set_option maxHeartbeats 1000000
namespace Own
open PySem L2
theorem wj:iP (S [49]) none (some (-1))=S []:=rfl
theorem xg:iP (S [45,49]) none (some (-1))=S [45]:=rfl
theorem t9 {st:Sto}{P o4 o5:Option W}{pre:List Nat}{p:Prt} (h:Gd p) (hl:pre.length<=100000):cM [P,some (.d (.str (S pre))),some (.d (ax p.1)),some (.d (.int p.2)),o4,o5] st=some (.nx [P,some (.d (.str (S (pre++32::pw p)))),some (.d (ax p.1)),some (.d (.int p.2)),some (.d (.str (S (lt p.1)))),some (.d (.str (S (hdN p))))] st):=by
 have hpl:=jv h
 have hnl:=gH h.low
 have hhl:=ol h
 have hll:=mK h.trm
 have e1:=j8 (st:=st) (te:=eD) (env:=[P,some (.d (.str (S pre))),some (.d (ax p.1)),some (.d (.int p.2)),o4,o5]) (f:=iV 2) rfl h.trm rfl
 have e2:jc st [.d (.int p.2)]=some (.str (S (aJ p.2))):=wU (Nat.lt_of_lt_of_le h.low (Nat.pow_le_pow_right (by decide) (by decide)))
 have t1:∀ o,aP dNe (iV 4) (iC (.str "")) [P,some (.d (.str (S pre))),some (.d (ax p.1)),some (.d (.int p.2)),some (.d (.str (S (lt p.1)))),o] st=some (decide (lt p.1≠[]),st):=λo=>aL rfl rfl neE
 have t2:aP dIn (iV 5) (aI (aa (iC (.str "1")) (aa (iC (.str "-1")) ai))) [P,some (.d (.str (S pre))),some (.d (ax p.1)),some (.d (.int p.2)),some (.d (.str (S (lt p.1)))),some (.d (.str (S (aJ p.2))))] st=some (decide (p.2.natAbs=1),st):=by
  refine aL rfl (cD (ds:=[.str "1",.str "-1"]) rfl rfl (by show 2<=1000;decide)) ?_
  rw [in2]
  show some (D.bl (S [49]==S (aJ p.2) || S [45,49]==S (aJ p.2)))=_
  rw [jR,jR]
  congr 2
  rw [Bool.eq_iff_iff,Bool.or_eq_true,decide_eq_true_eq,decide_eq_true_eq,decide_eq_true_eq]
  constructor
  ·rintro (z | z)
   ·have:=mE.mp z.symm;lia
   ·have:=jA.mp z.symm;lia
  ·intro z
   rcases (by lia:p.2=1\/p.2=-1) with q | q
   ·exact .inl (mE.mpr q).symm
   ·exact .inr (jA.mpr q).symm
 have fin:∀ F:List Nat,F.length<=61->F=hdN p->bh (.nm 1) (iOp aK (iOp aK (iOp aK (iV 1) (iC (.str " "))) (iV 5)) (iV 4)) [P,some (.d (.str (S pre))),some (.d (ax p.1)),some (.d (.int p.2)),some (.d (.str (S (lt p.1)))),some (.d (.str (S F)))] st=some (.nx [P,some (.d (.str (S (pre++32::pw p)))),some (.d (ax p.1)),some (.d (.int p.2)),some (.d (.str (S (lt p.1)))),some (.d (.str (S (hdN p))))] st):=λF hF e=>by
  subst e
  have ea:pre++[32]++hdN p++lt p.1=pre++32::pw p:=by unfold pw;simp
  have:=au (i:=1) (f:=iOp aK (iOp aK (iOp aK (iV 1) (iC (.str " "))) (iV 5)) (iV 4)) (env:=[P,some (.d (.str (S pre))),some (.d (ax p.1)),some (.d (.int p.2)),some (.d (.str (S (lt p.1)))),some (.d (.str (S (hdN p))))]) (st:=st) (ap (ap (ap rfl rfl (fS (a:=pre) (b:=[32]) (by simp;lia))) rfl (fS (by simp;lia))) rfl (fS (by simp;lia)))
  rw [ea] at this
  exact this
 by_cases hc:p.1≠[]/\p.2.natAbs=1
 ·have h1:lt p.1≠[]:=λz=>hc.1 (lU.mp z)
  have ta:cY (aP dNe (iV 4) (iC (.str ""))) (aP dIn (iV 5) (aI (aa (iC (.str "1")) (aa (iC (.str "-1")) ai)))) [P,some (.d (.str (S pre))),some (.d (ax p.1)),some (.d (.int p.2)),some (.d (.str (S (lt p.1)))),some (.d (.str (S (aJ p.2))))] st=some (true,st):=by
   have t1':=t1 (some (.d (.str (S (aJ p.2)))))
   rw [decide_eq_true h1] at t1'
   rw [decide_eq_true hc.2] at t2
   simp only [cY,t1',t2,Option.bind_some,if_true]
  have ecut:iP (S (aJ p.2)) none (some (-1))=S (hdN p):=by
   unfold hdN
   rw [if_pos hc]
   by_cases h0:p.2 < 0
   ·rw [if_pos h0,jA.mpr (by lia)];exact xg
   ·rw [if_neg h0,mE.mpr (by lia)];exact wj
  have e3:gZ (iV 5) iPn (iPs (iUn hV (iC (.int 1)))) [P,some (.d (.str (S pre))),some (.d (ax p.1)),some (.d (.int p.2)),some (.d (.str (S (lt p.1)))),some (.d (.str (S (aJ p.2))))] st=some (.d (.str (S (hdN p))),st):=by
   rw [<-ecut]
   exact uG (by lia) rfl rfl rfl
  exact al (au e1) (al (au (aO (ae rfl rfl) e2)) (al (fj ta (au e3)) (fin _ hhl rfl)))
 ·have hh:aJ p.2=hdN p:=by unfold hdN;rw [if_neg hc]
  have ta:cY (aP dNe (iV 4) (iC (.str ""))) (aP dIn (iV 5) (aI (aa (iC (.str "1")) (aa (iC (.str "-1")) ai)))) [P,some (.d (.str (S pre))),some (.d (ax p.1)),some (.d (.int p.2)),some (.d (.str (S (lt p.1)))),some (.d (.str (S (aJ p.2))))] st=some (false,st):=by
   have t1':=t1 (some (.d (.str (S (aJ p.2)))))
   by_cases h0:lt p.1=[]
   ·rw [decide_eq_false (by simp [h0])] at t1'
    simp only [cY,t1',Option.bind_some,Bool.false_eq_true,if_false]
   ·rw [decide_eq_true (show lt p.1≠[] from h0)] at t1'
    rw [decide_eq_false (λz=>hc ⟨λq=>h0 (lU.mpr q),z⟩)] at t2
    simp only [cY,t1',t2,Option.bind_some,if_true]
  exact al (au e1) (al (au (aO (ae rfl rfl) e2)) (al (cF ta rfl) (fin _ hnl hh)))
theorem pq {st:Sto}{P:Option W}:∀ (ps:List Prt) (pre:List Nat) (o2 o3 o4 o5:Option W),(∀ p ∈ ps,Gd p)->pre.length+68*ps.length<=100000->
  ∃ b2 b3 b4 b5,dz (.tp [2,3]) cM (ps.map aC) [P,some (.d (.str (S pre))),o2,o3,o4,o5] st=some (.nx [P,some (.d (.str (S (pre++ptl ps)))),b2,b3,b4,b5] st)
 | [],pre,o2,o3,o4,o5,_,_=>⟨o2,o3,o4,o5,by show _=some (Fl.nx [P,some (.d (.str (S (pre++[])))),o2,o3,o4,o5] st);rw [List.append_nil];rfl⟩
 | p::ps,pre,o2,o3,o4,o5,h,hl=>by
  rw [List.length_cons] at hl
  have hg:=h p List.mem_cons_self
  have hpl:=jv hg
  have e:=t9 (st:=st) (P:=P) (o4:=o4) (o5:=o5) (pre:=pre) hg (by lia)
  obtain⟨b2,b3,b4,b5,ih⟩:=pq (st:=st) (P:=P) ps (pre++32::pw p) (some (.d (ax p.1))) (some (.d (.int p.2))) (some (.d (.str (S (lt p.1))))) (some (.d (.str (S (hdN p))))) (λq hq=>h q (List.mem_cons_of_mem _ hq)) (by rw [List.length_append,List.length_cons];lia)
  refine⟨b2,b3,b4,b5,?_⟩
  have ea:pre++ptl (p::ps)=pre++32::pw p++ptl ps:=by
   show pre++((32::pw p)++ptl ps)=_
   rw [List.append_assoc]
  rw [ea,<-ih,List.map_cons,dz,show dr (.tp [2,3]) (.d (aC p)) [P,some (.d (.str (S pre))),o2,o3,o4,o5]=some [P,some (.d (.str (S pre))),some (.d (ax p.1)),some (.d (.int p.2)),o4,o5] from rfl,Option.bind_some,e];rfl
theorem oE {st:Sto}{b:Bool}{ps:List Prt} (h:Pok ps):dL [.d (bB (S (kdN b)) ps)] st=some (.d (.str (S (ptx (kdN b) ps))),st):=by
 obtain⟨k1,k2,k3⟩:=gy b
 have hfew:=h.few
 have hpl:=iS h.gd
 refine bq (n:=6) (k:=1) (b:=bV) rfl ?_
 show bV [some (.d (.tup [.str (S (kdN b)),.tup (ps.map aC)])),none,none,none,none,none] st=_
 obtain⟨b2,b3,b4,b5,e⟩:=pq (st:=st) (P:=some (.d (.tup [.str (S (kdN b)),.tup (ps.map aC)]))) ps (kdN b) none none none none h.gd (by lia)
 refine al (au (ap rfl rfl (ix0 st _ _))) (al (dw (cw (ap rfl rfl (ix1 st _ _ _))) e) (aM ?_))
 have tE:aP dNe (iOp dIx (iV 0) (iC (.int 1))) (aI ai) [some (.d (.tup [.str (S (kdN b)),.tup (ps.map aC)])),some (.d (.str (S (kdN b++ptl ps)))),b2,b3,b4,b5] st=some (decide (ps≠[]),st):=by
  refine aL (ap rfl rfl (ix1 st _ _ _)) rfl ?_
  show ((eqK (.tp (ps.map aC)) (.tp [])).map λk=>D.bl (!k))=_
  rw [eqK,if_pos (by simp)]
  cases ps<;>simp
 unfold ptx
 by_cases h0:ps=[]
 ·rw [decide_eq_false (by simp [h0])] at tE
  rw [if_pos h0]
  subst h0
  refine jg tE (ap rfl rfl ?_)
  show aK st (.d (.str (S (kdN b++[])))) (.d (.str (S [32,48])))=_
  rw [List.append_nil]
  exact fS (by simp;lia)
 ·rw [decide_eq_true (show ps≠[] from h0)] at tE
  rw [if_neg h0]
  exact kr tE rfl
theorem qI {st:Sto}{x:Str} (h:(reprText x).length<=sizeLine):bg [.d (.str x),.d (.str x)] st=some (.d (.bl true),st):=by
 have e:h9 st [.d (.str x)]=some (.str (reprText x)):=by
  show (if (reprText x).length<=sizeLine then some (D.str (reprText x)) else none)=_
  rw [if_pos h]
 refine bq (n:=2) (k:=2) (b:=dc) rfl (aM (ap (aO (ws:=[.d (.str x)]) rfl e) (aO (ws:=[.d (.str x)]) rfl e) ?_))
 rw [eqS,beq_self_eq_true]
theorem uD {b:Bool}{ps:List Prt} (h:Pok ps):∀ c ∈ ptx (kdN b) ps,c < 128:=by
 intro c hc
 unfold ptx at hc
 rcases List.mem_append.mp hc with hc | hc
 ·revert hc
  cases b<;>(intro hc;simp only [kdN,List.mem_cons,List.not_mem_nil,or_false,if_true,Bool.false_eq_true,if_false] at hc;lia)
 ·split at hc
  ·simp only [List.mem_cons,List.not_mem_nil,or_false] at hc;lia
  ·obtain⟨p,hp,hc⟩:=List.mem_flatMap.mp hc
   rcases List.mem_cons.mp hc with rfl | hc
   ·decide
   rcases List.mem_append.mp hc with hc | hc
   ·have:=rj hc;lia
   ·have:=kf (h.gd p hp).trm hc;lia
theorem pj {st:Sto}{b:Bool}{ps:List Prt} (h:Pok ps):bg [.d (.str (S (ptx (kdN b) ps))),.d (.str (S (ptx (kdN b) ps)))] st=some (.d (.bl true),st):=by
 obtain⟨k1,k2,k3⟩:=gy b
 have hfew:=h.few
 have hpl:=iS h.gd
 have hr:=PySem.StrLaws.reprText_len (S (ptx (kdN b) ps)) λc hc=>by
  have:=uD h c hc
  have:(128:Nat)<=16 ^ 8:=by decide
  lia
 have hTl:(ptx (kdN b) ps).length<=10000:=by
  unfold ptx
  rw [List.length_append]
  split
  ·simp;lia
  ·lia
 rw [bO] at hr
 have h3:1000000<=sizeLine:=by decide
 exact qI (by lia)
theorem pp:∀ t:List Int,(∀ k ∈ t,0<=k/\k < 6)->gI (t.map D.int)=true/\jw (t.map D.int)=2002*t.length/\jH (t.map D.int)<=1
 | [],_=>⟨rfl,rfl,by decide⟩
 | k::t,h=>by
  obtain⟨h1,h2,h3⟩:=pp t λq hq=>h q (List.mem_cons_of_mem _ hq)
  have hk:=h k List.mem_cons_self
  have hl:k.natAbs.log2 < 1920:=by
   have:k.natAbs.log2<=k.natAbs:=Nat.log2_le_self _
   lia
  rw [List.map_cons,List.length_cons]
  simp only [gI,rpD,jw,wtD,jH,dpD,h1,h2,decide_eq_true hl,Bool.and_true]
  refine⟨trivial,by lia,by lia⟩
theorem nI:∀ ps:List Prt,(∀ p ∈ ps,Gd p)->gI (ps.map aC)=true/\jw (ps.map aC)<=15000*ps.length/\jH (ps.map aC)<=3
 | [],_=>⟨rfl,Nat.le_refl _,by decide⟩
 | p::ps,h=>by
  obtain⟨h1,h2,h3⟩:=nI ps λq hq=>h q (List.mem_cons_of_mem _ hq)
  have hg:=h p List.mem_cons_self
  obtain⟨g1,g2,g3⟩:=pp p.1 hg.trm.2
  have hl:p.2.natAbs.log2 < 1920:=vL (Nat.lt_of_lt_of_le hg.low (Nat.pow_le_pow_right (by decide) (by decide)))
  have ht:=iU hg.trm
  rw [List.map_cons,List.length_cons]
  have e:aC p=.tup [.tup (p.1.map D.int),.int p.2]:=rfl
  rw [e]
  simp only [gI,rpD,jw,wtD,jH,dpD,h1,g1,g2,decide_eq_true hl,Bool.and_true]
  refine⟨trivial,by lia,by lia⟩
theorem li {st:Sto}{b:Bool}{ps:List Prt} (h:Pok ps):bg [.d (bB (S (kdN b)) ps),.d (bB (S (kdN b)) ps)] st=some (.d (.bl true),st):=by
 obtain⟨h1,h2,h3⟩:=nI ps h.gd
 have hfew:=h.few
 have hk:(reprText (S (kdN b))).length<=20:=by cases b<;>decide +kernel
 have c:rpD (bB (S (kdN b)) ps)=true/\wtD (bB (S (kdN b)) ps)<=16000000/\dpD (bB (S (kdN b)) ps)<=50:=by
  unfold bB
  simp only [rpD,gI,wtD,jw,dpD,jH,h1,Bool.and_true]
  refine⟨trivial,by lia,by lia⟩
 have e:h9 st [.d (bB (S (kdN b)) ps)]=some (.str (toP (bB (S (kdN b)) ps)).shown):=by
  show ip st [.d (bB (S (kdN b)) ps)]=_
  simp only [ip]
  rw [if_pos c]
 generalize bB (S (kdN b)) ps=P at *
 refine bq (n:=2) (k:=2) (b:=dc) rfl (aM (ap (aO (ws:=[.d P]) rfl e) (aO (ws:=[.d P]) rfl e) ?_))
 rw [eqS,beq_self_eq_true]
end Own
end
section
set_option maxHeartbeats 1000000
namespace Own
open PySem L2
theorem eM (k:List Int) (d:D) (r:List (List Int×D)) (t:List Int):vM ((k,d)::r) t=if k=t then some d else vM r t:=by
 unfold vM
 by_cases e:k=t
 ·rw [List.find?_cons_of_pos (by simpa using e),if_pos e];rfl
 ·rw [List.find?_cons_of_neg (by simpa using e),if_neg e]
theorem oZ (kvs:List (List Int×D)) (k:List Int):(kvs.any λp=>decide (p.1=k))=decide (k ∈ kvs.map Prod.fst):=by
 induction kvs with
 | nil=>rfl
 | cons p r ih=>
  rw [List.any_cons,ih,List.map_cons]
  by_cases e:p.1=k
  ·simp [e]
  ·have:¬ k=p.1:=λz=>e z.symm
   simp [e,this]
theorem rQ (kvs:List (List Int×D)) (k:List Int) (d:D):(iM kvs k d).map Prod.fst=if k ∈ kvs.map Prod.fst then kvs.map Prod.fst else kvs.map Prod.fst++[k]:=by
 unfold iM
 rw [oZ]
 by_cases h:k ∈ kvs.map Prod.fst
 ·rw [if_pos (decide_eq_true h),if_pos h,List.map_map]
  refine List.map_congr_left λp _=>?_
  show (if p.1=k then (p.1,d) else p).1=p.1
  split<;>rfl
 ·rw [if_neg (by simpa using h),if_neg h,List.map_append];rfl
theorem mv (k:List Int) (d:D) (j:List Int):∀ kvs:List (List Int×D),k ∈ kvs.map Prod.fst->vM (kvs.map λp=>if p.1=k then (p.1,d) else p) j=if j=k then some d else vM kvs j
 | [],h=>by cases h
 | (k',d')::r,h=>by
  rw [List.map_cons]
  by_cases e:k'=k
  ·rw [if_pos e,eM,eM]
   subst e
   by_cases ej:k'=j
   ·rw [if_pos ej,if_pos ej.symm]
   ·rw [if_neg ej,if_neg (λz=>ej z.symm),if_neg ej]
    by_cases hm:k' ∈ r.map Prod.fst
    ·rw [mv k' d j r hm,if_neg (λz=>ej z.symm)]
    ·have:(r.map λp=>if p.1=k' then (p.1,d) else p)=r:=by
      conv=>rhs;rw [<-List.map_id r]
      refine List.map_congr_left λp hp=>?_
      rw [if_neg (λz=>hm (by rw [<-z];exact List.mem_map_of_mem hp))];rfl
     rw [this]
  ·rw [if_neg e,eM,eM]
   rw [List.map_cons,List.mem_cons] at h
   have hm:k ∈ r.map Prod.fst:=h.resolve_left λz=>e z.symm
   rw [mv k d j r hm]
   by_cases ej:k'=j
   ·rw [if_pos ej,if_pos ej,if_neg (λz=>e (ej.trans z))]
   ·rw [if_neg ej,if_neg ej]
theorem sN (k:List Int) (d:D) (j:List Int):∀ kvs:List (List Int×D),k ∉ kvs.map Prod.fst->vM (kvs++[(k,d)]) j=if j=k then some d else vM kvs j
 | [],_=>by
  show vM [(k,d)] j=_
  rw [eM]
  by_cases e:k=j
  ·rw [if_pos e,if_pos e.symm]
  ·rw [if_neg e,if_neg (λz=>e z.symm)]
 | (k',d')::r,h=>by
  rw [List.map_cons,List.mem_cons,not_or] at h
  rw [List.cons_append,eM,eM,sN k d j r h.2]
  by_cases ej:k'=j
  ·rw [if_pos ej,if_pos ej,if_neg (λz=>h.1 (z.symm.trans ej.symm))]
  ·rw [if_neg ej,if_neg ej]
theorem wA (kvs:List (List Int×D)) (k:List Int) (d:D) (j:List Int):vM (iM kvs k d) j=if j=k then some d else vM kvs j:=by
 unfold iM
 rw [oZ]
 by_cases h:k ∈ kvs.map Prod.fst
 ·rw [if_pos (decide_eq_true h)];exact mv k d j kvs h
 ·rw [if_neg (by simpa using h)];exact sN k d j kvs h
theorem pL {α:Type} [DecidableEq α]:∀ {l m:List α},l.Nodup->(∀ x ∈ l,x ∈ m)->l.length<=m.length
 | [],m,_,_=>Nat.zero_le _
 | x::l,m,hn,hs=>by
  have hn':=List.nodup_cons.mp hn
  have hx:=hs x List.mem_cons_self
  have:=pL (l:=l) (m:=m.erase x) hn'.2 λy hy=>(List.mem_erase_of_ne (λe=>hn'.1 (by rw [<-e];exact hy))).mpr (hs y (List.mem_cons_of_mem _ hy))
  rw [List.length_erase_of_mem hx] at this
  have hp:0 < m.length:=List.length_pos_of_mem hx
  rw [List.length_cons];lia
noncomputable def ksI (m:Nat):List Int:=(vw m).map λk=>((k:Nat):Int)
theorem pH {m:Nat}{z:Int}:z ∈ ksI m↔∃ k:Nat,z=k/\k < 6/\m.testBit k=true:=by
 unfold ksI
 rw [List.mem_map]
 exact⟨λ⟨k,h,e⟩=>⟨k,e.symm,(oe.mp h).1,(oe.mp h).2⟩,λ⟨k,e,h1,h2⟩=>⟨k,oe.mpr ⟨h1,h2⟩,e.symm⟩⟩
theorem pI (m:Nat):Trm 6 (ksI m):=by
 refine⟨?_,λk hk=>?_⟩
 ·unfold ksI vw
  rw [List.pairwise_map]
  have:(List.range 6).Pairwise (· < ·):=List.pairwise_lt_range
  exact (this.filter _).imp λ{a b} h=>by lia
 ·obtain⟨j,rfl,h,_⟩:=pH.mp hk
  lia
theorem re (l:List Int):gk l=iz (l.map Int.toNat):=by unfold gk iz;rw [List.foldl_map]
theorem fC {t:List Int} (h:Trm 6 t) (j:Nat):(gk t).testBit j=decide ((j:Int) ∈ t):=by
 rw [re,ji]
 apply decide_eq_decide.mpr
 rw [List.mem_map]
 constructor
 ·rintro⟨z,hz,e⟩
  have:=(h.2 z hz).1
  have:(j:Int)=z:=by lia
  rw [this];exact hz
 ·intro hj
  exact⟨j,hj,by simp⟩
theorem qg {t:List Int} (h:Trm 6 t):gk t < 64:=by
 refine Nat.lt_pow_two_of_testBit (n:=6) _ λj hj=>?_
 rw [fC h,decide_eq_false_iff_not]
 intro z
 have:=(h.2 _ z).2
 lia
theorem qZ {t:List Int} (h:Trm 6 t):ksI (gk t)=t:=by
 have hm:∀ z,z ∈ ksI (gk t)↔z ∈ t:=λz=>by
  rw [pH]
  constructor
  ·rintro⟨k,rfl,_,hk⟩
   rw [fC h] at hk
   exact of_decide_eq_true hk
  ·intro hz
   have h1:=h.2 z hz
   obtain⟨k,rfl⟩:=Int.eq_ofNat_of_zero_le h1.1
   exact⟨k,rfl,by lia,by rw [fC h];exact decide_eq_true hz⟩
 have hn:∀ {l:List Int},l.Pairwise (· < ·)->l.Nodup:=λhl=>hl.imp λ{a b} hab e=>by lia
 refine List.Perm.eq_of_pairwise (le:=(· < ·)) (λa b _ _ h1 h2=>by lia) (pI _).1 h.1 ?_
 exact (List.perm_ext_iff_of_nodup (hn (pI _).1) (hn h.1)).mpr hm
theorem nW {l:List (List Int)} (hn:l.Nodup) (h:∀ t ∈ l,Trm 6 t):l.length<=64:=by
 have:=pL (m:=(List.range 64).map ksI) hn λt ht=>List.mem_map.mpr ⟨gk t,List.mem_range.mpr (qg (h t ht)),qZ (h t ht)⟩
 rw [List.length_map,List.length_range] at this
 exact this
noncomputable def ltL (a b:List Int):Prop:=bu a b=true
theorem wD {a b:List Int} (h:leL a b) (hne:a≠b):ltL a b:=by
 unfold ltL
 cases e:bu a b with
 | true=>rfl
 | false=>exact absurd (fP a b e h) hne
theorem qc {l:List (List Int)} (hn:l.Nodup):(cB l).Pairwise ltL:=by
 have h2:(cB l).Nodup:=(dS l).nodup_iff.mpr hn
 exact (d7 l).imp₂ (λa b h1 h2=>wD h1 h2) h2
theorem zg {n:Int} (n0:0<=n) (n1:n<=6):∃ q:Int,(∀ s,tN s (.d (.int 1)) (.d (.int n))=some (.int q))/\q.toNat=2 ^ n.toNat/\(-(2 ^ 62)<=q/\q < 2 ^ 62)/\2 ^ n.toNat<=64:=by
 have h:n=0\/n=1\/n=2\/n=3\/n=4\/n=5\/n=6:=by lia
 rcases h with rfl | rfl | rfl | rfl | rfl | rfl | rfl
 ·exact⟨1,λs=>rfl,by decide,by decide,by decide⟩
 ·exact⟨2,λs=>rfl,by decide,by decide,by decide⟩
 ·exact⟨4,λs=>rfl,by decide,by decide,by decide⟩
 ·exact⟨8,λs=>rfl,by decide,by decide,by decide⟩
 ·exact⟨16,λs=>rfl,by decide,by decide,by decide⟩
 ·exact⟨32,λs=>rfl,by decide,by decide,by decide⟩
 ·exact⟨64,λs=>rfl,by decide,by decide,by decide⟩
theorem pf (s:Sto) (a:Int):dNe s (.d (.int a)) (.d (.int 0))=some (.bl (decide (a≠0))):=by
 show some (D.bl (!(a==0)))=_
 by_cases h:a=0<;>simp [h]
theorem yq {s:Sto}{a b:Int} (h:a≠b):dEq s (.d (.int a)) (.d (.int b))=some (.bl false):=by
 rw [kL]
 have:(a==b)=false:=by simp [h]
 rw [this]
theorem y3 {s:Sto}{a:Int}:dEq s (.d (.int a)) (.d (.int a))=some (.bl true):=by rw [kL,beq_self_eq_true]
theorem za:∀ n:Nat,n < 19->PySem.intText? (S (49::List.replicate n 48))=some ((10 ^ n:Nat):Int):=by decide +kernel
theorem yg:∀ n:Nat,n < 19->mL ("0" : Str) (n:Int)=S (List.replicate n 48):=by decide +kernel
theorem wE {st:Sto}{env:Ev}{f:Ef}{s:Sto}{n:Nat} (hn:n < 19) (hf:f env st=some (.d (.int (n:Int)),s)):iCB bS (aa (iOp aK (iC (.str "1")) (iOp kQ (iC (.str "0")) f)) ai) env st=some (.d (.int ((10 ^ n:Nat):Int)),s):=by
 have e1:kQ s (.d (.str "0")) (.d (.int (n:Int)))=some (.str (S (List.replicate n 48))):=by
  have hl:(mL ("0" : Str) (n:Int)).length<=1000:=by rw [yg n hn,bO,List.length_replicate];lia
  show (if ("0" : Str).length=1/\0<=(n:Int)/\(n:Int)<=1000/\(mL ("0" : Str) (n:Int)).length<=1000 then some (D.str (mL ("0" : Str) (n:Int))) else none)=_
  rw [if_pos ⟨rfl,by lia,by lia,hl⟩,yg n hn]
 have e2:bS s [.d (.str (S (49::List.replicate n 48)))]=some (.int ((10 ^ n:Nat):Int)):=by
  show (if (S (49::List.replicate n 48)).length<=640 then (PySem.intText? (S (49::List.replicate n 48))).map D.int else none)=_
  rw [bO,if_pos (by rw [List.length_cons,List.length_replicate];lia),za n hn];rfl
 exact aO (ae (ap rfl (ap rfl hf e1) (fS (a:=[49]) (by rw [List.length_replicate];simp;lia))) rfl) e2
theorem uA {st:Sto}{m:Int}:∃ t,Trm 6 t/\lcI (.nm 0) bN bL [none,some (.d (.int m))] (ft 0 6) st=some (t.map D.int,st):=by
 obtain⟨p,hp⟩:∃ p:D->Bool,∀ d ∈ ft 0 6,∃ e1,dr (.nm 0) (.d d) [none,some (.d (.int m))]=some e1/\bN e1 st=some (p d,st)/\(p d=true->bL e1 st=some (.d (id d),st)):=by
  refine⟨λd=>match d with | .int k=>(m / 2 ^ k.toNat % 2==1) | _=>false,λd hd=>?_⟩
  obtain⟨i,hi⟩:=List.mem_iff_getElem?.mp hd
  obtain⟨rfl,hi'⟩:=i4 hi
  obtain⟨q,hq,q1,q2,q3⟩:=zg (n:=(i:Int)) (by lia) (by lia)
  have hti:(i:Int).toNat=i:=by lia
  rw [hti] at q1 q3
  have hp:0 < 2 ^ i:=Nat.pow_pos (by decide)
  have hqi:q=((2 ^ i:Nat):Int):=by lia
  refine⟨_,rfl,?_,λ_=>rfl⟩
  have e1:gi st (.d (.int m)) (.d (.int q))=some (.int (m / q)):=qV st ⟨by lia,by lia⟩
  refine aL (ap (ap rfl (ap rfl rfl (hq st)) e1) rfl (vC st (by decide))) rfl ?_
  rw [kL,hqi]
  show _=some (D.bl (m / 2 ^ (i:Int).toNat % 2==1))
  rw [hti]
  push_cast
  rfl
 have e:=jx (g:=.nm 0) (tt:=bN) (te:=bL) (env:=[none,some (.d (.int m))]) (st:=st) p id (ds:=ft 0 6) hp
 refine⟨((List.range 6).filter (p ∘ λk:Nat=>D.int ((0:Int)+k))).map λk:Nat=>((0:Int)+(k:Int)),⟨?_,?_⟩,?_⟩
 ·rw [List.pairwise_map]
  have:(List.range 6).Pairwise (· < ·):=List.pairwise_lt_range
  exact (this.filter _).imp λ{a b} h=>by lia
 ·intro k hk
  obtain⟨j,hj,rfl⟩:=List.mem_map.mp hk
  have:=List.mem_range.mp (List.mem_filter.mp hj).1
  lia
 ·rw [e,List.map_id]
  unfold ft
  rw [List.filter_map,List.map_map]
  rfl
structure Dok (kvs:List (List Int×D)):Prop where
 nd:(kvs.map Prod.fst).Nodup
 trm:∀ t ∈ kvs.map Prod.fst,Trm 6 t
 val:∀ t ∈ kvs.map Prod.fst,∃ c:Int,vM kvs t=some (.int c)/\c≠0/\c.natAbs < 10 ^ 60
theorem Dok.nil:Dok []:=⟨List.nodup_nil,λ_ h=>(nomatch h),λ_ h=>(nomatch h)⟩
theorem Dok.put {kvs:List (List Int×D)} (h:Dok kvs) {t:List Int}{c:Int} (ht:Trm 6 t) (c0:c≠0) (c1:c.natAbs < 10 ^ 60):Dok (iM kvs t (.int c)):=by
 have hk:=rQ kvs t (.int c)
 refine⟨?_,λu hu=>?_,λu hu=>?_⟩
 ·rw [hk]
  split
  ·exact h.nd
  ·rename_i hn
   refine List.nodup_append.mpr ⟨h.nd,by simp,λa ha b hb=>?_⟩
   rw [List.mem_singleton.mp hb]
   intro z
   exact hn (by rw [<-z];exact ha)
 ·rw [hk] at hu
  split at hu
  ·exact h.trm u hu
  ·rcases List.mem_append.mp hu with hu | hu
   ·exact h.trm u hu
   ·rw [List.mem_singleton.mp hu];exact ht
 ·rw [wA]
  by_cases e:u=t
  ·rw [if_pos e];exact⟨c,rfl,c0,c1⟩
  ·rw [if_neg e]
   rw [hk] at hu
   refine h.val u ?_
   split at hu
   ·exact hu
   ·rcases List.mem_append.mp hu with hu | hu
    ·exact hu
    ·exact absurd (List.mem_singleton.mp hu) e
theorem pe (b:Sto) (kvs:List (List Int×D)):mgt (b++[.m kvs]) b.length=some kvs:=by
 unfold mgt
 rw [List.getElem?_append_right (Nat.le_refl _),Nat.sub_self];rfl
theorem rT (b:Sto) (c c':C):(b++[c]).set b.length c'=b++[c']:=vt b c c'
theorem rJ {i:Int} (h0:0<=i) (h1:i < 8):∃ c:Int,atI [D.int (-3),.int (-2),.int (-1),.int 1,.int 2,.int 3,.int 1,.int (-1)] i=some (.int c)/\c≠0/\c.natAbs<=3:=by
 have:i=0\/i=1\/i=2\/i=3\/i=4\/i=5\/i=6\/i=7:=by lia
 rcases this with rfl | rfl | rfl | rfl | rfl | rfl | rfl | rfl<;>exact⟨_,rfl,by decide,by decide⟩
theorem pX {b:Sto}{h M:Nat}{kd:D}{many i:Int}{kvs:List (List Int×D)}{o5 o6:Option W} (hh:cj b h) (hM:b.length=M) (hD:Dok kvs) (i0:0<=i) :
  ∃ b' kvs' p5 p6,Stp h b b'/\Dok kvs'/\cU [some (.h h),some (.d kd),some (.d (.int many)),some (.h M),some (.d (.int i)),o5,o6] (b++[.m kvs])=some (.nx [some (.h h),some (.d kd),some (.d (.int many)),some (.h M),some (.d (.int i)),p5,p6] (b'++[.m kvs'])):=by
 subst hM
 have hlt:=hh.lt
 -- the mask
 obtain⟨m,b1,m0,t1,e1⟩:∃ m b1,0<=m/\Stp h b b1/\fA (aP dEq (iV 2) (iC (.int 64))) (iV 4) (ay aw (aa (iV 0) (aa (iC (.int 64)) ai))) [some (.h h),some (.d kd),some (.d (.int many)),some (.h b.length),some (.d (.int i)),o5,o6] (b++[.m kvs])=some (.d (.int m),b1++[.m kvs]):=by
  by_cases hm:many=64
  ·subst hm
   exact⟨i,b,i0,Stp.refl hh,kr (aL rfl rfl y3) rfl⟩
  ·obtain⟨r,s,r0,r1,t,e⟩:=cS (hh.app [.m kvs]) (m:=64) (by decide) (by decide)
   obtain⟨b1,rfl,u⟩:=t.unapp hlt
   exact⟨r,b1,r0,u,jg (aL rfl rfl (yq hm)) (ao (ae rfl (ae rfl rfl)) e)⟩
 obtain⟨r2,s2,r20,r21,t2,e2⟩:=cS (t1.hand.app [.m kvs]) (m:=8) (by decide) (by decide)
 obtain⟨b2,rfl,u2⟩:=t2.unapp t1.hand.lt
 obtain⟨c,hc,c0,c1⟩:=rJ r20 r21
 obtain⟨r3,s3,r30,r31,t3,e3⟩:=cS (u2.hand.app [.m kvs]) (m:=6) (by decide) (by decide)
 obtain⟨b3,rfl,u3⟩:=t3.unapp u2.hand.lt
 have w3:=(t1.trans u2).trans u3
 -- the number
 obtain⟨d,b4,d1,u4,e4⟩:∃ (d:Int) (b4:Sto),d.natAbs < 10 ^ 60/\Stp h b3 b4/\cm (aP dEq (ay aw (aa (iV 0) (aa (iC (.int 6)) ai))) (iC (.int 5))) (bh (.nm 6) (iOp aK (iOp d9 (iV 6) (iCB bS (aa (iOp aK (iC (.str "1")) (iOp kQ (iC (.str "0")) (ay aw (aa (iV 0) (aa (iC (.int 19)) ai))))) ai))) (ay aw (aa (iV 0) (aa (iC (.int 2)) ai))))) bx [some (.h h),some (.d kd),some (.d (.int many)),some (.h b.length),some (.d (.int i)),some (.d (.int m)),some (.d (.int c))] (b2++[.m kvs])=some (.nx [some (.h h),some (.d kd),some (.d (.int many)),some (.h b.length),some (.d (.int i)),some (.d (.int m)),some (.d (.int d))] (b4++[.m kvs])):=by
  by_cases h5:r3=5
  ·subst h5
   obtain⟨r4,s4,r40,r41,t4,e4⟩:=cS (u3.hand.app [.m kvs]) (m:=19) (by decide) (by decide)
   obtain⟨b4,rfl,u4⟩:=t4.unapp u3.hand.lt
   obtain⟨n,rfl⟩:=Int.eq_ofNat_of_zero_le r40
   obtain⟨r5,s5,r50,r51,t5,e5⟩:=cS (u4.hand.app [.m kvs]) (m:=2) (by decide) (by decide)
   obtain⟨b5,rfl,u5⟩:=t5.unapp u4.hand.lt
   have hn:n < 19:=by lia
   have hp:10 ^ n<=10 ^ 18:=Nat.pow_le_pow_right (by decide) (by lia)
   have e18:(10:Nat) ^ 18=1000000000000000000:=by decide
   have e60:(10:Nat) ^ 19<=10 ^ 60:=Nat.pow_le_pow_right (by decide) (by decide)
   have e19:(10:Nat) ^ 19=10000000000000000000:=by decide
   have hmul:(c*((10 ^ n:Nat):Int)).natAbs<=3*10 ^ 18:=by
    rw [Int.natAbs_mul,Int.natAbs_natCast]
    exact Nat.mul_le_mul c1 hp
   have km:PySem.IntMulOk c ((10 ^ n:Nat):Int):=rY.ok (.inl ⟨by lia,by lia⟩)
   refine⟨c*((10 ^ n:Nat):Int)+r5,b5,by lia,u4.trans u5,fj (aL (ao (ae rfl (ae rfl rfl)) e3) rfl y3) (au (ap (ap rfl (wE hn (ao (ae rfl (ae rfl rfl)) e4)) (yF _ km)) (ao (ae rfl (ae rfl rfl)) e5) rfl))⟩
  ·have hb:(10:Nat)<=10 ^ 60:=Nat.le_trans (by decide:10<=10 ^ 1) (Nat.pow_le_pow_right (by decide) (by decide))
   exact⟨c,b3,by lia,Stp.refl u3.hand,cF (aL (ao (ae rfl (ae rfl rfl)) e3) rfl (yq h5)) rfl⟩
 have w4:=w3.trans u4
 have hl4:b4.length=b.length:=w4.len
 have pre:∀ {r:Fl},cm (aP dNe (iV 6) (iC (.int 0))) (nA (iV 3) (iCB nG (aa (bo (iLc 1 [5] (cP (aa (iC (.int 6)) ai)) (.nm 0) bN bL)) ai)) (iV 6)) bx [some (.h h),some (.d kd),some (.d (.int many)),some (.h b.length),some (.d (.int i)),some (.d (.int m)),some (.d (.int d))] (b4++[.m kvs])=some r->cU [some (.h h),some (.d kd),some (.d (.int many)),some (.h b.length),some (.d (.int i)),o5,o6] (b++[.m kvs])=some r:=λ{r} q=>
  al (au e1) (al (au (ap rfl (ao (ae rfl (ae rfl rfl)) e2) hc)) (al e4 q))
 by_cases hz:d=0
 ·subst hz
  exact⟨b4,kvs,_,_,w4,hD,pre (cF (aL rfl rfl (by rw [pf];rfl)) rfl)⟩
 ·obtain⟨t,ht,et⟩:=uA (st:=b4++[.m kvs]) (m:=m)
  refine⟨b4,iM kvs t (.int d),some (.d (.int m)),some (.d (.int d)),w4,hD.put ht hz d1,pre (fj (aL rfl rfl (by rw [pf,decide_eq_true hz])) ?_)⟩
  have hkl:kvs.length < 1000:=by
   have:=nW hD.nd hD.trm
   rw [List.length_map] at this
   lia
  have hkey:iCB nG (aa (bo (iLc 1 [5] (cP (aa (iC (.int 6)) ai)) (.nm 0) bN bL)) ai) [some (.h h),some (.d kd),some (.d (.int many)),some (.h b.length),some (.d (.int i)),some (.d (.int m)),some (.d (.int d))] (b4++[.m kvs])=some (.d (.tup (t.map D.int)),b4++[.m kvs]):=
   aO (ae (cb (fF (ju (z:=6) rfl (by decide) (by decide) rfl) (by decide) et)) rfl) rfl
  have g1:iV 6 [some (.h h),some (.d kd),some (.d (.int many)),some (.h b.length),some (.d (.int i)),some (.d (.int m)),some (.d (.int d))] (b4++[.m kvs])=some (.d (.int d),b4++[.m kvs]):=rfl
  have g2:iV 3 [some (.h h),some (.d kd),some (.d (.int many)),some (.h b.length),some (.d (.int i)),some (.d (.int m)),some (.d (.int d))] (b4++[.m kvs])=some (.h b.length,b4++[.m kvs]):=rfl
  have g3:mgt (b4++[.m kvs]) b.length=some kvs:=by rw [<-hl4];exact pe b4 kvs
  have g4:(b4++[C.m kvs]).set b.length (.m (iM kvs t (.int d)))=b4++[C.m (iM kvs t (.int d))]:=by rw [<-hl4];exact rT b4 _ _
  simp only [nA,g1,g2,hkey,Option.bind_some,g3,dI,hkl,if_true,g4]
theorem uk {st:Sto}{h:Nat}{b:Bool} (hh:cj st h):∃ ps st',Pok ps/\Stp h st st'/\fG [.h h,.d (.str (S (kdN b)))] st=some (.d (bB (S (kdN b)) ps),st'):=by
 obtain⟨a1,s1,a10,a11,t1,e1⟩:=cS hh (m:=4) (by decide) (by decide)
 obtain⟨a2,s2,a20,a21,t2,e2⟩:=cS t1.hand (m:=10) (by decide) (by decide)
 obtain⟨a3,s3,a30,a31,t3,e3⟩:=cS t2.hand (m:=10) (by decide) (by decide)
 obtain⟨a4,s4,a40,a41,t4,e4⟩:=cS t3.hand (m:=12) (by decide) (by decide)
 have w4:=((t1.trans t2).trans t3).trans t4
 obtain⟨many,hm,m0,m1⟩:∃ many:Int,atI [D.int a1,.int a2,.int 64] (a3 / 5+if (a4==11)=true then 1 else 0)=some (.int many)/\0<=many/\many<=64:=by
  have h5:a3 / 5=0\/a3 / 5=1:=by lia
  cases (a4==11)<;>rcases h5 with q | q<;>rw [q]
  ·exact⟨a1,rfl,by lia,by lia⟩
  ·exact⟨a2,rfl,by lia,by lia⟩
  ·exact⟨a2,rfl,by lia,by lia⟩
  ·exact⟨64,rfl,by lia,by lia⟩
 obtain⟨e',s',hF,b5,kvs,x4,x5,x6,rfl,rfl,w5,hD⟩:=gN (g:=.nm 4) (body:=cU) (ds:=ft 0 many.toNat)
  (λ_ env s=>∃ b5 kvs x4 x5 x6,env=[some (.h h),some (.d (.str (S (kdN b)))),some (.d (.int many)),some (.h s4.length),x4,x5,x6]/\s=b5++[.m kvs]/\Stp h s4 b5/\Dok kvs)
  (env:=[some (.h h),some (.d (.str (S (kdN b)))),some (.d (.int many)),some (.h s4.length),none,none,none]) (st:=s4++[.m []]) ⟨s4,[],none,none,none,rfl,rfl,Stp.refl t4.hand,Dok.nil⟩ (by
  rintro i d env s hd ⟨b5,kvs,x4,x5,x6,rfl,rfl,w5,hD⟩
  obtain⟨rfl,hi⟩:=i4 hd
  obtain⟨b6,kvs',p5,p6,w6,hD',e⟩:=pX (M:=s4.length) (kd:=.str (S (kdN b))) (many:=many) (i:=(i:Int)) (o5:=x5) (o6:=x6) w5.hand w5.len hD (by lia)
  exact⟨_,_,_,rfl,.inl e,b6,kvs',_,_,_,rfl,rfl,w5.trans w6,hD'⟩)
 -- the parts
 have hlen:kvs.length<=64:=by
  have:=nW hD.nd hD.trm
  rw [List.length_map] at this
  exact this
 have hl5:b5.length=s4.length:=w5.len
 have hg:mgt (b5++[.m kvs]) s4.length=some kvs:=by rw [<-hl5];exact pe b5 kvs
 have hperm:=dS (kvs.map Prod.fst)
 have hval:∀ t ∈ cB (kvs.map Prod.fst),∃ c:Int,vM kvs t=some (.int c)/\c≠0/\c.natAbs < 10 ^ 60/\Trm 6 t:=λt ht=>by
  have hm:=hperm.mem_iff.mp ht
  obtain⟨c,h1,h2,h3⟩:=hD.val t hm
  exact⟨c,h1,h2,h3,hD.trm t hm⟩
 have hups:=qc hD.nd
 have hil:(cB (kvs.map Prod.fst)).length<=64:=by rw [hperm.length_eq,List.length_map];exact hlen
 have key:∀ ts:List (List Int),(∀ t ∈ ts,∃ c:Int,vM kvs t=some (.int c)/\c≠0/\c.natAbs < 10 ^ 60/\Trm 6 t)->∃ ps:List Prt,ps.map Prod.fst=ts/\(∀ p ∈ ps,Gd p)/\lcI (.nm 0) cC ek [none,some (.h s4.length)] (ts.map ax) (b5++[.m kvs])=some (ps.map aC,b5++[.m kvs]):=by
  intro ts
  induction ts with
  | nil=>intro _;exact⟨[],rfl,λ_ h=>(nomatch h),rfl⟩
  | cons t ts ih=>
   intro ht
   obtain⟨c,h1,h2,h3,h4⟩:=ht t List.mem_cons_self
   obtain⟨ps,g1,g2,g3⟩:=ih λq hq=>ht q (List.mem_cons_of_mem _ hq)
   refine⟨(t,c)::ps,by rw [List.map_cons,g1],λp hp=>?_,?_⟩
   ·rcases List.mem_cons.mp hp with rfl | hp
    ·exact⟨h4,h2,h3⟩
    ·exact g2 p hp
   ·have mix:tw (iV 1) (iV 0) [some (.d (ax t)),some (.h s4.length)] (b5++[.m kvs])=some (.d (.int c),b5++[.m kvs]):=by
     have q1:iV 1 [some (.d (ax t)),some (.h s4.length)] (b5++[.m kvs])=some (.h s4.length,b5++[.m kvs]):=rfl
     have q0:iV 0 [some (.d (ax t)),some (.h s4.length)] (b5++[.m kvs])=some (.d (.tup (t.map D.int)),b5++[.m kvs]):=rfl
     simp only [tw,q1,q0,Option.bind_some,hg,dI,h1,Option.map_some]
    have hf:ek [some (.d (ax t)),some (.h s4.length)] (b5++[.m kvs])=some (.d (aC (t,c)),b5++[.m kvs]):=cD (ds:=[ax t,.int c]) (ae rfl (ae mix rfl)) rfl (by show 2<=1000;decide)
    rw [List.map_cons,List.map_cons]
    unfold lcI
    rw [show dr (.nm 0) (.d (ax t)) [none,some (.h s4.length)]=some [some (.d (ax t)),some (.h s4.length)] from rfl,Option.bind_some,show cC [some (.d (ax t)),some (.h s4.length)] (b5++[.m kvs])=some (true,b5++[.m kvs]) from rfl,Option.bind_some,if_pos rfl,hf,Option.bind_some,g3];rfl
 obtain⟨ps,g1,g2,g3⟩:=key (cB (kvs.map Prod.fst)) hval
 have hpl:ps.length<=64:=by
  have:=congrArg List.length g1
  rw [List.length_map] at this
  lia
 refine⟨ps,b5,⟨g2,by rw [g1];exact hups,hpl⟩,w4.trans w5,?_⟩
 have hso:ko (iV 3) [some (.h h),some (.d (.str (S (kdN b)))),some (.d (.int many)),some (.h s4.length),x4,x5,x6] (b5++[.m kvs])=some ((cB (kvs.map Prod.fst)).map ax,b5++[.m kvs]):=by
  have q3:iV 3 [some (.h h),some (.d (.str (S (kdN b)))),some (.d (.int many)),some (.h s4.length),x4,x5,x6] (b5++[.m kvs])=some (.h s4.length,b5++[.m kvs]):=rfl
  simp only [ko,q3,Option.bind_some,hg,hlen,if_true]
 have hzz:((cB (kvs.map Prod.fst)).map ax).length<=1000000:=by rw [List.length_map];lia
 have e5:bS s4 [.d (.bl (a4==11))]=some (.int (if (a4==11)=true then 1 else 0)):=rfl
 have fi:=nR (n:=7) (k:=2) (b:=dM) (ws:=[.h h,.d (.str (S (kdN b)))]) (st:=st) (x:=bB (S (kdN b)) ps) rfl
  (al (au (ap (cb (oX (ds:=[.int a1,.int a2,.int 64]) (ae (ao (ae rfl (ae rfl rfl)) e1) (ae (ao (ae rfl (ae rfl rfl)) e2) (ae rfl rfl))) rfl (by show 3<=1000;decide))) (ap (ap (ao (ae rfl (ae rfl rfl)) e3) rfl (qV _ (by decide))) (aO (ae (ap (ao (ae rfl (ae rfl rfl)) e4) rfl (kL _ _ _)) rfl) e5) rfl) hm))
    (al (au (w:=.h s4.length) (s:=s4++[C.m []]) rfl) (al (dw (ju rfl m0 (by lia) rfl) hF)
      (aM (cD (ds:=[.str (S (kdN b)),.tup (ps.map aC)]) (ae rfl (ae (aO (ae (cb (fF (lj (cb hso)) hzz g3)) rfl) rfl) rfl)) rfl (by show 2<=1000;decide))))))
 rw [<-(w4.trans w5).len,sH] at fi
 exact fi
end Own
end
section
set_option maxHeartbeats 1000000
namespace Own
open PySem L2
theorem ll {c:Nat}{r:List Nat} (hc:49<=c) (h:∀ x ∈ c::r,48<=x/\x<=57):dg (PySem.NumText.digitsVal (c::r))=c::r:=by
 have e:=PySem.NumText.toDigits_digitsVal r.length (c::r) (by rw [List.length_cons]) h (.inr ⟨c,r,rfl,hc⟩)
 unfold dg
 rw [e,List.map_map]
 conv=>rhs;rw [<-List.map_id (c::r)]
 refine List.map_congr_left λx hx=>?_
 have:=h x hx
 have h2:x=48\/x=49\/x=50\/x=51\/x=52\/x=53\/x=54\/x=55\/x=56\/x=57:=by lia
 rcases h2 with rfl | rfl | rfl | rfl | rfl | rfl | rfl | rfl | rfl | rfl<;>rfl
theorem vg {c:Nat}{r:List Nat} (hc:49<=c) (h:∀ x ∈ c::r,48<=x/\x<=57) (hl:r.length=59):PySem.NumText.digitsVal (c::r) < 10 ^ 60/\1 < PySem.NumText.digitsVal (c::r):=by
 have e:=ll hc h
 generalize PySem.NumText.digitsVal (c::r)=n at e
 have hlen:(dg n).length=60:=by rw [e,List.length_cons,hl]
 refine⟨?_,?_⟩
 ·refine Decidable.byContradiction λhn=>?_
  have:=PyProof.Rows.digits10_ge (k:=60) (n:=n) (by lia)
  unfold dg at hlen
  rw [List.length_map] at hlen
  lia
 ·refine Decidable.byContradiction λhn=>?_
  rw [j0 (by lia)] at hlen
  cases hlen
theorem tO {st:Sto}{h:Nat}{a b d e f g i j:Option W} (hh:cj st h):∃ F st',F.length=59/\(∀ c ∈ F,48<=c/\c<=57)/\Stp h st st'/\fR (iC (.str "")) (aa (bo (iLc 1 [2] (cP (aa (iC (.int 59)) ai)) (.nm 0) cC iR)) ai) [a,b,some (.h h),d,e,f,g,i,j] st=some (.d (.str (S F)),st'):=by
 obtain⟨ys,s1,e1,F,hF,hl,hdig,w1⟩:=mx (g:=.nm 0) (tt:=cC) (te:=iR) (env:=[none,some (.h h)]) (ds:=ft 0 59)
  (λi ys s=>∃ F:List Nat,ys=F.map (λc=>D.str (S [c]))/\F.length=i/\(∀ c ∈ F,48<=c/\c<=57)/\Stp h st s) (st:=st) (ys0:=[]) ⟨[],rfl,rfl,λ_ h=>(nomatch h),Stp.refl hh⟩ (λi d ys s hd ⟨F,p1,p2,p3,p4⟩=>by
   obtain⟨rfl,hi⟩:=i4 hd
   obtain⟨x,s2,m2,w2,e2⟩:=tR (ds:=[.str "0",.str "7",.str "9"]) p4.hand (by simp) (by simp)
   obtain⟨c,rfl,hc⟩:∃ c:Nat,x=.str (S [c])/\48<=c/\c<=57:=by
    simp only [List.mem_cons,List.not_mem_nil,or_false] at m2
    rcases m2 with rfl | rfl | rfl
    ·exact⟨48,rfl,by decide⟩
    ·exact⟨55,rfl,by decide⟩
    ·exact⟨57,rfl,by decide⟩
   refine⟨_,rfl,.inl ⟨s,_,s2,rfl,ao (ae rfl (ae rfl rfl)) e2,F++[c],by rw [p1,List.map_append];rfl,by rw [List.length_append,p2];rfl,λq hq=>?_,p4.trans w2⟩⟩
   rcases List.mem_append.mp hq with hq | hq
   ·exact p3 q hq
   ·rw [List.mem_singleton.mp hq];exact hc)
 rw [List.nil_append] at hF
 rw [ng] at hl
 have hj:PySem.JoinOk ("" : Str) ((F.map λc=>[c]).map S)=true:=by
  refine PyProof.Rows.joinOk_of_weight ?_ (by decide)
  have hb:∀ x ∈ ((F.map λc=>[c]).map S).map (·.length),x<=10:=by
   intro x hx
   rw [List.map_map,List.map_map] at hx
   obtain⟨k,hk,rfl⟩:=List.mem_map.mp hx
   show (S [k]).length<=10
   rw [bO,List.length_singleton];decide
  have:=kc hb
  simp only [List.length_map] at this ⊢
  lia
 have es:F.map (λc=>D.str (S [c]))=(F.map λc=>[c]).map λx=>D.str (S x):=by rw [List.map_map];rfl
 have h3:PySem.Txt.join "" ((F.map λc=>[c]).map S)=S F:=by rw [<-vH,List.map_map];rfl
 refine⟨F,s1,hl,hdig,w1,?_⟩
 rw [hF,es] at e1
 have h1:iC (.str "") [a,b,some (.h h),d,e,f,g,i,j] st=some (.d (.str ""),st):=rfl
 have h2:aa (bo (iLc 1 [2] (cP (aa (iC (.int 59)) ai)) (.nm 0) cC iR)) ai [a,b,some (.h h),d,e,f,g,i,j] st=some ([.d (.lst ((F.map λc=>[c]).map λx=>D.str (S x)))],s1):=ae (cb (fF (ju (z:=59) rfl (by decide) (by decide) rfl) (by decide) e1)) rfl
 simp only [fR,h1,h2,Option.bind_some,ly,hj,if_true,h3]
theorem su {st:Sto}{a b c e f g i:Option W}{k:Bool}{ps:List Prt} (h:Pok ps):lT [a,b,c,e,some (.d (bB (S (kdN k)) ps)),some (.d (.str (S (ptx (kdN k) ps)))),f,g,i] st=some (.nx [a,b,c,e,some (.d (bB (S (kdN k)) ps)),some (.d (.str (S (ptx (kdN k) ps)))),f,g,i] st):=by
 have e1:=jn (st:=st) (kd:=kdN k) (gy k).2.1 h.gd h.few
 have e2:=pd (st:=st) (b:=k) h
 have e3:=pj (st:=st) (b:=k) h
 have e4:=li (st:=st) (b:=k) h
 generalize bB (S (kdN k)) ps=R at *
 generalize S (ptx (kdN k) ps)=z at *
 exact cF (ix (de (fU (ao (ae (ao (ae rfl rfl) e1) (ae rfl rfl)) e3))) (de (fU (ao (ae (ao (ae rfl rfl) e2) (ae rfl rfl)) e4)))) rfl
theorem kS {st:Sto}{ns:List Int}{k hd:Nat}{b:Bool}{a4 a5 a6 a7 a8:Option W} (hh:cj st hd):∃ b4 b5 b6 st',cj st' hd/\i6 [some (.d (.scr ns)),some (.d (.int k)),some (.h hd),some (.d (.str (S (kdN b)))),a4,a5,a6,a7,a8] st=some (.nx [some (.d (.scr ns)),some (.d (.int k)),some (.h hd),some (.d (.str (S (kdN b)))),b4,b5,b6,a7,a8] st'):=by
 obtain⟨ps,s1,hp,w1,e1⟩:=uk (b:=b) hh
 have e2:=oE (st:=s1) (b:=b) hp
 obtain⟨e',s',hF,x,rfl,rfl⟩:=gN (g:=.nm 6) (body:=lT) (ds:=ft 0 2) (λ_ env s=>∃ x,env=[some (.d (.scr ns)),some (.d (.int k)),some (.h hd),some (.d (.str (S (kdN b)))),some (.d (bB (S (kdN b)) ps)),some (.d (.str (S (ptx (kdN b) ps)))),x,a7,a8]/\s=s1)
  (env:=[some (.d (.scr ns)),some (.d (.int k)),some (.h hd),some (.d (.str (S (kdN b)))),some (.d (bB (S (kdN b)) ps)),some (.d (.str (S (ptx (kdN b) ps)))),a6,a7,a8]) (st:=s1) ⟨_,rfl,rfl⟩ (by
  rintro j d env s hdj ⟨x,rfl,rfl⟩
  exact⟨_,_,_,rfl,.inl (su hp),_,rfl,rfl⟩)
 refine⟨some (.d (bB (S (kdN b)) ps)),some (.d (.str (S (ptx (kdN b) ps)))),x,s',w1.hand,?_⟩
 generalize bB (S (kdN b)) ps=R at *
 generalize S (ptx (kdN b) ps)=z at *
 exact al (au (ao (ae rfl (ae rfl rfl)) e1)) (al (au (ao rfl e2)) (dw (ju (z:=2) rfl (by decide) (by decide) rfl) hF))
noncomputable def wB:Sf:=(aq (bh (.nm 8) (aI (aa (iC (.str "odd")) (aa (aI (aa (aI (aa (aI ai) (aa (iCB bS (aa (iOp aK (iC (.str "1")) (iV 7)) ai)) ai))) (aa (aI (aa (aI (aa (iC (.int 1)) (aa (iC (.int 5)) ai))) (aa (iUn hV (iCB bS (aa (iOp aK (iC (.str "8")) (iV 7)) ai))) ai))) (aa (aI (aa (aI (aa (iC (.int 2)) ai)) (aa (iC (.int 1)) ai))) ai)))) ai)))) (aq (bh (.nm 5) (iOp aK (iOp aK (iOp aK (iOp aK (iC (.str "odd 1")) (iV 7)) (iC (.str " -8"))) (iV 7)) (iC (.str "bf c")))) (cm (fJ (bJ (dk dm (ay bg (aa (ay ce (aa (iV 5) ai)) (aa (iV 8) ai))))) (bJ (dk dm (ay bg (aa (ay bT (aa (ay ce (aa (iV 5) ai)) ai)) (aa (iV 5) ai)))))) (bv (iC (.bl false))) bx)))
theorem la {st:Sto}{c:Nat}{F:List Nat} (hc:49<=c) (hc2:c<=57) (hl:F.length=59) (hd:∀ x ∈ F,48<=x/\x<=57):∃ n:Nat,1 < n/\n < 10 ^ 60/\dg n=c::F/\bS st [.d (.str (S (c::F)))]=some (.int (n:Int)):=by
 have hall:∀ x ∈ c::F,48<=x/\x<=57:=λx hx=>by
  rcases List.mem_cons.mp hx with rfl | hx
  ·lia
  ·exact hd x hx
 have e:=ll hc hall
 obtain⟨v1,v2⟩:=vg hc hall hl
 generalize PySem.NumText.digitsVal (c::F)=n at e v1 v2
 refine⟨n,v2,v1,e,?_⟩
 have hi:=py (n:=(n:Int)) (by lia)
 rw [iT,e] at hi
 show (if (S (c::F)).length<=640 then (PySem.intText? (S (c::F))).map D.int else none)=_
 rw [bO,if_pos (by rw [List.length_cons];lia),hi];rfl
theorem rR {st:Sto}{a b c e f f5 g g8:Option W}{F:List Nat} (hl:F.length=59) (hd:∀ x ∈ F,48<=x/\x<=57) :
  ∃ T G,wB [a,b,c,e,f,f5,g,some (.d (.str (S F))),g8] st=some (.nx [a,b,c,e,f,T,g,some (.d (.str (S F))),G] st):=by
 obtain⟨n1,n10,n11,d1,i1⟩:=la (st:=st) (c:=49) (F:=F) (by decide) (by decide) hl hd
 obtain⟨n2,n20,n21,d2,i2⟩:=la (st:=st) (c:=56) (F:=F) (by decide) (by decide) hl hd
 have hT:∀ t ∈ [([]:List Int),[1,5],[2]],Trm 6 t:=by
  intro t ht
  simp only [List.mem_cons,List.not_mem_nil,or_false] at ht
  rcases ht with rfl | rfl | rfl
  ·exact⟨.nil,λk hk=>(nomatch hk)⟩
  ·exact⟨by simp,λk hk=>by simp only [List.mem_cons,List.not_mem_nil,or_false] at hk;lia⟩
  ·exact⟨by simp,λk hk=>by simp only [List.mem_cons,List.not_mem_nil,or_false] at hk;lia⟩
 have hone:(1:Nat) < 10 ^ 60:=Nat.lt_of_lt_of_le (by decide:1 < 10 ^ 1) (Nat.pow_le_pow_right (by decide) (by decide))
 have hP:Pok [([],(n1:Int)),([1,5],-(n2:Int)),([2],1)]:=by
  refine⟨λp hp=>?_,(show ([([]:List Int),[1,5],[2]]).Pairwise (λa b=>bu a b=true) by decide),(show 3<=64 by decide)⟩
  simp only [List.mem_cons,List.not_mem_nil,or_false] at hp
  rcases hp with rfl | rfl | rfl
  ·exact⟨hT _ (by simp),by show (n1:Int)≠0;lia,by show ((n1:Int)).natAbs < 10 ^ 60;lia⟩
  ·exact⟨hT _ (by simp),by show -(n2:Int)≠0;lia,by show (-(n2:Int)).natAbs < 10 ^ 60;lia⟩
  ·exact⟨hT _ (by simp),by show (1:Int)≠0;decide,hone⟩
 have htx:[111,100,100,32,49]++F++[32,45,56]++F++[98,102,32,99]=ptx (kdN false) [([],(n1:Int)),([1,5],-(n2:Int)),([2],1)]:=by
  have q1:pw ([],(n1:Int))=49::F:=by
   unfold pw hdN
   rw [if_neg (by simp),iT,d1]
   show 49::F++[]=_
   rw [List.append_nil]
  have q2:pw ([1,5],-(n2:Int))=45::56::(F++[98,102]):=by
   unfold pw hdN
   have hne:¬ (([1,5]:List Int)≠[]/\(-(n2:Int)).natAbs=1):=λz=>by have:=z.2;lia
   rw [if_neg hne]
   unfold aJ
   rw [if_pos (by show -(n2:Int) < 0;lia),show (-(n2:Int)).natAbs=n2 by lia,d2]
   rfl
  have q3:pw ([2],(1:Int))=[99]:=rfl
  unfold ptx
  rw [if_neg (by simp)]
  show _=[111,100,100]++((32::pw ([],(n1:Int)))++((32::pw ([1,5],-(n2:Int)))++((32::pw ([2],(1:Int)))++[])))
  rw [q1,q2,q3]
  simp
 have e1:=jn (st:=st) (kd:=kdN false) (gy false).2.1 hP.gd hP.few
 have e2:=pd (st:=st) (b:=false) hP
 have e3:=pj (st:=st) (b:=false) hP
 have e4:=li (st:=st) (b:=false) hP
 have eG:bB (S (kdN false)) [([],(n1:Int)),([1,5],-(n2:Int)),([2],1)]=.tup [.str "odd",.tup [.tup [.tup [],.int (n1:Int)],.tup [.tup [.int 1,.int 5],.int (-(n2:Int))],.tup [.tup [.int 2],.int 1]]]:=rfl
 rw [<-htx] at e1 e2 e3
 rw [eG] at e1 e2 e4
 refine⟨some (.d (.str (S ([111,100,100,32,49]++F++[32,45,56]++F++[98,102,32,99])))),some (.d (.tup [.str "odd",.tup [.tup [.tup [],.int (n1:Int)],.tup [.tup [.int 1,.int 5],.int (-(n2:Int))],.tup [.tup [.int 2],.int 1]]])),?_⟩
 have s1:iCB bS (aa (iOp aK (iC (.str "1")) (iV 7)) ai) [a,b,c,e,f,f5,g,some (.d (.str (S F))),g8] st=some (.d (.int (n1:Int)),st):=aO (ae (ap rfl rfl (fS (a:=[49]) (by simp;lia))) rfl) i1
 have s2:iCB bS (aa (iOp aK (iC (.str "8")) (iV 7)) ai) [a,b,c,e,f,f5,g,some (.d (.str (S F))),g8] st=some (.d (.int (n2:Int)),st):=aO (ae (ap rfl rfl (fS (a:=[56]) (by simp;lia))) rfl) i2
 have s3:iUn hV (iCB bS (aa (iOp aK (iC (.str "8")) (iV 7)) ai)) [a,b,c,e,f,f5,g,some (.d (.str (S F))),g8] st=some (.d (.int (-(n2:Int))),st):=by
  simp only [iUn,s2,Option.bind_some]
  rfl
 have gS:aI (aa (iC (.str "odd")) (aa (aI (aa (aI (aa (aI ai) (aa (iCB bS (aa (iOp aK (iC (.str "1")) (iV 7)) ai)) ai))) (aa (aI (aa (aI (aa (iC (.int 1)) (aa (iC (.int 5)) ai))) (aa (iUn hV (iCB bS (aa (iOp aK (iC (.str "8")) (iV 7)) ai))) ai))) (aa (aI (aa (aI (aa (iC (.int 2)) ai)) (aa (iC (.int 1)) ai))) ai)))) ai)) [a,b,c,e,f,f5,g,some (.d (.str (S F))),g8] st=some (.d (.tup [.str "odd",.tup [.tup [.tup [],.int (n1:Int)],.tup [.tup [.int 1,.int 5],.int (-(n2:Int))],.tup [.tup [.int 2],.int 1]]]),st):=
  cD (ds:=[.str "odd",.tup [.tup [.tup [],.int (n1:Int)],.tup [.tup [.int 1,.int 5],.int (-(n2:Int))],.tup [.tup [.int 2],.int 1]]]) (ae rfl (ae (cD (ds:=[.tup [.tup [],.int (n1:Int)],.tup [.tup [.int 1,.int 5],.int (-(n2:Int))],.tup [.tup [.int 2],.int 1]]) (ae (cD (ds:=[.tup [],.int (n1:Int)]) (ae rfl (ae s1 rfl)) rfl (by show 2<=1000;decide)) (ae (cD (ds:=[.tup [.int 1,.int 5],.int (-(n2:Int))]) (ae rfl (ae s3 rfl)) rfl (by show 2<=1000;decide)) (ae rfl rfl))) rfl (by show 3<=1000;decide)) rfl)) rfl (by show 2<=1000;decide)
 have tS:∀ o8,iOp aK (iOp aK (iOp aK (iOp aK (iC (.str "odd 1")) (iV 7)) (iC (.str " -8"))) (iV 7)) (iC (.str "bf c")) [a,b,c,e,f,f5,g,some (.d (.str (S F))),o8] st=some (.d (.str (S ([111,100,100,32,49]++F++[32,45,56]++F++[98,102,32,99]))),st):=λo8=>
  ap (ap (ap (ap rfl rfl (fS (a:=[111,100,100,32,49]) (by simp;lia))) rfl (fS (b:=[32,45,56]) (by simp;lia))) rfl (fS (by simp;lia))) rfl (fS (b:=[98,102,32,99]) (by simp;lia))
 generalize D.tup [.str "odd",.tup [.tup [.tup [],.int (n1:Int)],.tup [.tup [.int 1,.int 5],.int (-(n2:Int))],.tup [.tup [.int 2],.int 1]]]=G at *
 generalize S ([111,100,100,32,49]++F++[32,45,56]++F++[98,102,32,99])=T at *
 exact al (au gS) (al (au (tS _)) (cF (ix (de (fU (ao (ae (ao (ae rfl rfl) e2) (ae rfl rfl)) e4))) (de (fU (ao (ae (ao (ae (ao (ae rfl rfl) e2) rfl) e1) (ae rfl rfl)) e3)))) rfl))
theorem vb {st:Sto}{ns:List Int}{k:Nat}{a2 a3 a4 a5 a6 a7 a8:Option W}:∃ b2 b3 b4 b5 b6 b7 b8 st',lz [some (.d (.scr ns)),some (.d (.int k)),a2,a3,a4,a5,a6,a7,a8] st=some (.nx [some (.d (.scr ns)),some (.d (.int k)),b2,b3,b4,b5,b6,b7,b8] st'):=by
 obtain⟨x,y,x0,e1⟩:=tY (st:=st) (ns:=ns) (k:=k)
 have hh:cj (st++[.l [.int x,.int y,.int 0]]) st.length:=⟨x,y,0,x0,by rw [List.getElem?_append_right (Nat.le_refl _),Nat.sub_self];rfl⟩
 generalize st++[C.l [D.int x,.int y,.int 0]]=s1 at e1 hh
 obtain⟨b4,b5,b6,s2,h2,e2⟩:=kS (ns:=ns) (k:=k) (b:=true) (a4:=a4) (a5:=a5) (a6:=a6) (a7:=a7) (a8:=a8) hh
 obtain⟨c4,c5,c6,s3,h3,e3⟩:=kS (ns:=ns) (k:=k) (b:=false) (a4:=b4) (a5:=b5) (a6:=b6) (a7:=a7) (a8:=a8) h2
 have hF:dz (.nm 3) i6 [.str "both",.str "odd"] [some (.d (.scr ns)),some (.d (.int k)),some (.h st.length),a3,a4,a5,a6,a7,a8] s1=some (.nx [some (.d (.scr ns)),some (.d (.int k)),some (.h st.length),some (.d (.str (S (kdN false)))),c4,c5,c6,a7,a8] s3):=by
  rw [dz,show dr (.nm 3) (.d (.str "both")) [some (.d (.scr ns)),some (.d (.int k)),some (.h st.length),a3,a4,a5,a6,a7,a8]=some [some (.d (.scr ns)),some (.d (.int k)),some (.h st.length),some (.d (.str (S (kdN true)))),a4,a5,a6,a7,a8] from rfl,Option.bind_some,e2]
  show dz (.nm 3) i6 [.str "odd"] _ s2=_
  rw [dz,show dr (.nm 3) (.d (.str "odd")) [some (.d (.scr ns)),some (.d (.int k)),some (.h st.length),some (.d (.str (S (kdN true)))),b4,b5,b6,a7,a8]=some [some (.d (.scr ns)),some (.d (.int k)),some (.h st.length),some (.d (.str (S (kdN false)))),b4,b5,b6,a7,a8] from rfl,Option.bind_some,e3]
  rfl
 obtain⟨F,s4,hl,hd,w4,e4⟩:=tO (a:=some (.d (.scr ns))) (b:=some (.d (.int k))) (d:=some (.d (.str (S (kdN false))))) (e:=c4) (f:=c5) (g:=c6) (i:=a7) (j:=a8) h3
 obtain⟨T,G,e5⟩:=rR (st:=s4) (a:=some (.d (.scr ns))) (b:=some (.d (.int k))) (c:=some (.h st.length)) (e:=some (.d (.str (S (kdN false))))) (f:=c4) (f5:=c5) (g:=c6) (g8:=a8) hl hd
 exact⟨some (.h st.length),some (.d (.str (S (kdN false)))),c4,T,c6,some (.d (.str (S F))),G,s4,al (au (ao rfl e1)) (al (dw (cw (cD (ds:=[.str "both",.str "odd"]) rfl rfl (by show 2<=1000;decide))) hF) (al (au e4) e5))⟩
theorem sC (ns:List Int) (hl:ns.length<=63):∃ st,nC [.d (.scr ns)] []=some (.d (.bl true),st):=by
 obtain⟨q,hq,q0,q1⟩:∃ q:Int,(1+if (ns.length:Int) < 10 then (ns.length:Int) else 10)=q/\0<=q/\q<=11:=⟨_,rfl,by split<;>lia,by split<;>lia⟩
 obtain⟨e',s',hF,x1,x2,x3,x4,x5,x6,x7,x8,rfl⟩:=gN (g:=.nm 1) (body:=lz) (ds:=ft 0 q.toNat) (λi env s=>∃ x1 x2 x3 x4 x5 x6 x7 x8,env=[some (.d (.scr ns)),x1,x2,x3,x4,x5,x6,x7,x8])
  (env:=[some (.d (.scr ns)),none,none,none,none,none,none,none,none]) (st:=[]) ⟨_,_,_,_,_,_,_,_,rfl⟩ (by
  rintro i d env s hd ⟨x1,x2,x3,x4,x5,x6,x7,x8,rfl⟩
  obtain⟨rfl,hi⟩:=i4 hd
  obtain⟨b2,b3,b4,b5,b6,b7,b8,s',e⟩:=vb (st:=s) (ns:=ns) (k:=i) (a2:=x2) (a3:=x3) (a4:=x4) (a5:=x5) (a6:=x6) (a7:=x7) (a8:=x8)
  exact⟨_,_,_,rfl,.inl e,_,_,_,_,_,_,_,_,rfl⟩)
 have h1:iOp aK (iC (.int 1)) (iCB xB (aa (iC (.int 10)) (aa (iCB dq (aa (iV 0) ai)) ai))) [some (.d (.scr ns)),none,none,none,none,none,none,none,none] []=some (.d (.int q),[]):=by
  refine ap (y:=.d (.int (if (ns.length:Int) < 10 then (ns.length:Int) else 10))) rfl (aO rfl ?_) ?_
  ·show some (D.int (if (((ns.map D.int).length:Nat):Int) < 10 then (((ns.map D.int).length:Nat):Int) else 10))=_
   rw [List.length_map]
  ·show some (D.int _)=_
   rw [hq]
 have hrg:=ju h1 q0 (by lia) rfl
 exact⟨_,nR (n:=9) (k:=1) (b:=oU) (ws:=[.d (.scr ns)]) (st:=[]) (x:=.bl true) rfl (al (dw hrg hF) (aM rfl))⟩
end Own
end
namespace Own
open PySem L2
theorem iO {us:List Value} (h:us.length=1):∃ a0,us=[a0]:=match us,h with | [a0],_=>⟨a0,rfl⟩
theorem pU {us:List Value} (h:us.length=2):∃ a0 a1,us=[a0,a1]:=match us,h with | [a0,a1],_=>⟨a0,a1,rfl⟩
theorem z0 {us:List Value} (h:us.length=3):∃ a0 a1 a2,us=[a0,a1,a2]:=match us,h with | [a0,a1,a2],_=>⟨a0,a1,a2,rfl⟩
theorem txt_mk {K:PySem.W.Frag}{h:Heap}{mg:Str->Option Value} (X:K.In h) (G:h.Ns mainGlobals mg)
  {f0:Addr}{od0 an0:Option Addr}{sl0:Array (Option Value)}{oc0 kV0 dc0 pm0 cd0 ct0:Value}
  (a0:PySem.W.nsIn K mainGlobals "show_number" = some (some (.ref f0))) (l0:K.lookup f0=some ⟨oc0,od0,.func (PySem.W.fnOf "show_number" "show_number" (aR bt) (aF bt) (aj bt) .none kV0 dc0 pm0 an0 cd0 ct0),sl0⟩) (c0:PySem.W.codeIn K cd0 "show_number" = true) (k0:PySem.W.keepIn K (.ref f0)=true)
  {f1:Addr}{od1 an1:Option Addr}{sl1:Array (Option Value)}{oc1 kV1 dc1 pm1 cd1 ct1:Value}
  (a1:PySem.W.nsIn K mainGlobals "show_part" = some (some (.ref f1))) (l1:K.lookup f1=some ⟨oc1,od1,.func (PySem.W.fnOf "show_part" "show_part" (aR bD) (aF bD) (aj bD) .none kV1 dc1 pm1 an1 cd1 ct1),sl1⟩) (c1:PySem.W.codeIn K cd1 "show_part" = true) (k1:PySem.W.keepIn K (.ref f1)=true)
  {f2:Addr}{od2 an2:Option Addr}{sl2:Array (Option Value)}{oc2 kV2 dc2 pm2 cd2 ct2:Value}
  (a2:PySem.W.nsIn K mainGlobals "show_poly" = some (some (.ref f2))) (l2:K.lookup f2=some ⟨oc2,od2,.func (PySem.W.fnOf "show_poly" "show_poly" (aR bE) (aF bE) (aj bE) .none kV2 dc2 pm2 an2 cd2 ct2),sl2⟩) (c2:PySem.W.codeIn K cd2 "show_poly" = true) (k2:PySem.W.keepIn K (.ref f2)=true)
  {f3:Addr}{od3 an3:Option Addr}{sl3:Array (Option Value)}{oc3 kV3 dc3 pm3 cd3 ct3:Value}
  (a3:PySem.W.nsIn K mainGlobals "is_whole" = some (some (.ref f3))) (l3:K.lookup f3=some ⟨oc3,od3,.func (PySem.W.fnOf "is_whole" "is_whole" (aR cq) (aF cq) (aj cq) .none kV3 dc3 pm3 an3 cd3 ct3),sl3⟩) (c3:PySem.W.codeIn K cd3 "is_whole" = true) (k3:PySem.W.keepIn K (.ref f3)=true)
  {f4:Addr}{od4 an4:Option Addr}{sl4:Array (Option Value)}{oc4 kV4 dc4 pm4 cd4 ct4:Value}
  (a4:PySem.W.nsIn K mainGlobals "is_within" = some (some (.ref f4))) (l4:K.lookup f4=some ⟨oc4,od4,.func (PySem.W.fnOf "is_within" "is_within" (aR cf) (aF cf) (aj cf) .none kV4 dc4 pm4 an4 cd4 ct4),sl4⟩) (c4:PySem.W.codeIn K cd4 "is_within" = true) (k4:PySem.W.keepIn K (.ref f4)=true)
  {f5:Addr}{od5 an5:Option Addr}{sl5:Array (Option Value)}{oc5 kV5 dc5 pm5 cd5 ct5:Value}
  (a5:PySem.W.nsIn K mainGlobals "is_term" = some (some (.ref f5))) (l5:K.lookup f5=some ⟨oc5,od5,.func (PySem.W.fnOf "is_term" "is_term" (aR cH) (aF cH) (aj cH) .none kV5 dc5 pm5 an5 cd5 ct5),sl5⟩) (c5:PySem.W.codeIn K cd5 "is_term" = true) (k5:PySem.W.keepIn K (.ref f5)=true)
  {f6:Addr}{od6 an6:Option Addr}{sl6:Array (Option Value)}{oc6 kV6 dc6 pm6 cd6 ct6:Value}
  (a6:PySem.W.nsIn K mainGlobals "is_part" = some (some (.ref f6))) (l6:K.lookup f6=some ⟨oc6,od6,.func (PySem.W.fnOf "is_part" "is_part" (aR cI) (aF cI) (aj cI) .none kV6 dc6 pm6 an6 cd6 ct6),sl6⟩) (c6:PySem.W.codeIn K cd6 "is_part" = true) (k6:PySem.W.keepIn K (.ref f6)=true)
  {f7:Addr}{od7 an7:Option Addr}{sl7:Array (Option Value)}{oc7 kV7 dc7 pm7 cd7 ct7:Value}
  (a7:PySem.W.nsIn K mainGlobals "are_parts" = some (some (.ref f7))) (l7:K.lookup f7=some ⟨oc7,od7,.func (PySem.W.fnOf "are_parts" "are_parts" (aR bX) (aF bX) (aj bX) .none kV7 dc7 pm7 an7 cd7 ct7),sl7⟩) (c7:PySem.W.codeIn K cd7 "are_parts" = true) (k7:PySem.W.keepIn K (.ref f7)=true)
  {f8:Addr}{od8 an8:Option Addr}{sl8:Array (Option Value)}{oc8 kV8 dc8 pm8 cd8 ct8:Value}
  (a8:PySem.W.nsIn K mainGlobals "is_poly" = some (some (.ref f8))) (l8:K.lookup f8=some ⟨oc8,od8,.func (PySem.W.fnOf "is_poly" "is_poly" (aR cQ) (aF cQ) (aj cQ) .none kV8 dc8 pm8 an8 cd8 ct8),sl8⟩) (c8:PySem.W.codeIn K cd8 "is_poly" = true) (k8:PySem.W.keepIn K (.ref f8)=true)
  {f9:Addr}{od9 an9:Option Addr}{sl9:Array (Option Value)}{oc9 kV9 dc9 pm9 cd9 ct9:Value}
  (a9:PySem.W.nsIn K mainGlobals "number_by" = some (some (.ref f9))) (l9:K.lookup f9=some ⟨oc9,od9,.func (PySem.W.fnOf "number_by" "number_by" (aR bC) (aF bC) (aj bC) .none kV9 dc9 pm9 an9 cd9 ct9),sl9⟩) (c9:PySem.W.codeIn K cd9 "number_by" = true) (k9:PySem.W.keepIn K (.ref f9)=true)
  {f10:Addr}{od10 an10:Option Addr}{sl10:Array (Option Value)}{oc10 kV10 dc10 pm10 cd10 ct10:Value}
  (a10:PySem.W.nsIn K mainGlobals "part_by" = some (some (.ref f10))) (l10:K.lookup f10=some ⟨oc10,od10,.func (PySem.W.fnOf "part_by" "part_by" (aR cv) (aF cv) (aj cv) .none kV10 dc10 pm10 an10 cd10 ct10),sl10⟩) (c10:PySem.W.codeIn K cd10 "part_by" = true) (k10:PySem.W.keepIn K (.ref f10)=true)
  {f11:Addr}{od11 an11:Option Addr}{sl11:Array (Option Value)}{oc11 kV11 dc11 pm11 cd11 ct11:Value}
  (a11:PySem.W.nsIn K mainGlobals "read_poly" = some (some (.ref f11))) (l11:K.lookup f11=some ⟨oc11,od11,.func (PySem.W.fnOf "read_poly" "read_poly" (aR bA) (aF bA) (aj bA) .none kV11 dc11 pm11 an11 cd11 ct11),sl11⟩) (c11:PySem.W.codeIn K cd11 "read_poly" = true) (k11:PySem.W.keepIn K (.ref f11)=true)
  {f12:Addr}{od12 an12:Option Addr}{sl12:Array (Option Value)}{oc12 kV12 dc12 pm12 cd12 ct12:Value}
  (a12:PySem.W.nsIn K mainGlobals "_law_hand" = some (some (.ref f12))) (l12:K.lookup f12=some ⟨oc12,od12,.func (PySem.W.fnOf "_law_hand" "_law_hand" (aR cc) (aF cc) (aj cc) .none kV12 dc12 pm12 an12 cd12 ct12),sl12⟩) (c12:PySem.W.codeIn K cd12 "_law_hand" = true) (k12:PySem.W.keepIn K (.ref f12)=true)
  {f13:Addr}{od13 an13:Option Addr}{sl13:Array (Option Value)}{oc13 kV13 dc13 pm13 cd13 ct13:Value}
  (a13:PySem.W.nsIn K mainGlobals "_law_take" = some (some (.ref f13))) (l13:K.lookup f13=some ⟨oc13,od13,.func (PySem.W.fnOf "_law_take" "_law_take" (aR bU) (aF bU) (aj bU) .none kV13 dc13 pm13 an13 cd13 ct13),sl13⟩) (c13:PySem.W.codeIn K cd13 "_law_take" = true) (k13:PySem.W.keepIn K (.ref f13)=true)
  {f14:Addr}{od14 an14:Option Addr}{sl14:Array (Option Value)}{oc14 kV14 dc14 pm14 cd14 ct14:Value}
  (a14:PySem.W.nsIn K mainGlobals "_law_pick" = some (some (.ref f14))) (l14:K.lookup f14=some ⟨oc14,od14,.func (PySem.W.fnOf "_law_pick" "_law_pick" (aR ca) (aF ca) (aj ca) .none kV14 dc14 pm14 an14 cd14 ct14),sl14⟩) (c14:PySem.W.codeIn K cd14 "_law_pick" = true) (k14:PySem.W.keepIn K (.ref f14)=true)
  {f15:Addr}{od15 an15:Option Addr}{sl15:Array (Option Value)}{oc15 kV15 dc15 pm15 cd15 ct15:Value}
  (a15:PySem.W.nsIn K mainGlobals "_law_poly" = some (some (.ref f15))) (l15:K.lookup f15=some ⟨oc15,od15,.func (PySem.W.fnOf "_law_poly" "_law_poly" (aR bp) (aF bp) (aj bp) .none kV15 dc15 pm15 an15 cd15 ct15),sl15⟩) (c15:PySem.W.codeIn K cd15 "_law_poly" = true) (k15:PySem.W.keepIn K (.ref f15)=true)
  {f16:Addr}{od16 an16:Option Addr}{sl16:Array (Option Value)}{oc16 kV16 dc16 pm16 cd16 ct16:Value}
  (a16:PySem.W.nsIn K mainGlobals "_law_written" = some (some (.ref f16))) (l16:K.lookup f16=some ⟨oc16,od16,.func (PySem.W.fnOf "_law_written" "_law_written" (aR ba) (aF ba) (aj ba) .none kV16 dc16 pm16 an16 cd16 ct16),sl16⟩) (c16:PySem.W.codeIn K cd16 "_law_written" = true) (k16:PySem.W.keepIn K (.ref f16)=true)
  {f17:Addr}{od17 an17:Option Addr}{sl17:Array (Option Value)}{oc17 kV17 dc17 pm17 cd17 ct17:Value}
  (a17:PySem.W.nsIn K mainGlobals "_law_same" = some (some (.ref f17))) (l17:K.lookup f17=some ⟨oc17,od17,.func (PySem.W.fnOf "_law_same" "_law_same" (aR bZ) (aF bZ) (aj bZ) .none kV17 dc17 pm17 an17 cd17 ct17),sl17⟩) (c17:PySem.W.codeIn K cd17 "_law_same" = true) (k17:PySem.W.keepIn K (.ref f17)=true)
  {f18:Addr}{od18 an18:Option Addr}{sl18:Array (Option Value)}{oc18 kV18 dc18 pm18 cd18 ct18:Value}
  (a18:PySem.W.nsIn K mainGlobals "law" = some (some (.ref f18))) (l18:K.lookup f18=some ⟨oc18,od18,.func (PySem.W.fnOf "law" "law" (aR iH) (aF iH) (aj iH) .none kV18 dc18 pm18 an18 cd18 ct18),sl18⟩) (c18:PySem.W.codeIn K cd18 "law" = true) (k18:PySem.W.keepIn K (.ref f18)=true)
  (z_abs:PySem.W.nsIn K mainGlobals "abs" = some none)
  (z_all:PySem.W.nsIn K mainGlobals "all" = some none)
  (z_bool:PySem.W.nsIn K mainGlobals "bool" = some none)
  (z_int:PySem.W.nsIn K mainGlobals "int" = some none)
  (z_isinstance:PySem.W.nsIn K mainGlobals "isinstance" = some none)
  (z_len:PySem.W.nsIn K mainGlobals "len" = some none)
  (z_min:PySem.W.nsIn K mainGlobals "min" = some none)
  (z_range:PySem.W.nsIn K mainGlobals "range" = some none)
  (z_repr:PySem.W.nsIn K mainGlobals "repr" = some none)
  (z_sorted:PySem.W.nsIn K mainGlobals "sorted" = some none)
  (z_str:PySem.W.nsIn K mainGlobals "str" = some none)
  (z_tuple:PySem.W.nsIn K mainGlobals "tuple" = some none)
  {ga_BLOCK:Tok} (ga_BLOCK_:PySem.W.nsIn K mainGlobals "BLOCK" = some (some (.int 1000000000000000000 ga_BLOCK)))
  {ga_FIGURES:Tok} (ga_FIGURES_:PySem.W.nsIn K mainGlobals "FIGURES" = some (some (.str "0123456789" ga_FIGURES)))
  {ga_LAST_SWITCH:Tok} (ga_LAST_SWITCH_:PySem.W.nsIn K mainGlobals "LAST_SWITCH" = some (some (.int 5 ga_LAST_SWITCH)))
  {ga_LETTERS:Tok} (ga_LETTERS_:PySem.W.nsIn K mainGlobals "LETTERS" = some (some (.str "abcdef" ga_LETTERS)))
  {ga_MOST_FIGURES:Tok} (ga_MOST_FIGURES_:PySem.W.nsIn K mainGlobals "MOST_FIGURES" = some (some (.int 60 ga_MOST_FIGURES)))
  {ga_KINDS:Addr}{ob_KINDS:Obj} (ga_KINDS_:PySem.W.nsIn K mainGlobals "KINDS" = some (some (.ref ga_KINDS))) (gl_KINDS:K.lookup ga_KINDS=some ob_KINDS) (gq_KINDS:lv [(.str "both"),(.str "odd")] ob_KINDS=true)
  : ∃ t,Txt K mg t/\t.f18=f18:=by
 have F0:=bI (st:=bt) l0 c0 k0
 have F1:=bI (st:=bD) l1 c1 k1
 have F2:=bI (st:=bE) l2 c2 k2
 have F3:=bI (st:=cq) l3 c3 k3
 have F4:=bI (st:=cf) l4 c4 k4
 have F5:=bI (st:=cH) l5 c5 k5
 have F6:=bI (st:=cI) l6 c6 k6
 have F7:=bI (st:=bX) l7 c7 k7
 have F8:=bI (st:=cQ) l8 c8 k8
 have F9:=bI (st:=bC) l9 c9 k9
 have F10:=bI (st:=cv) l10 c10 k10
 have F11:=bI (st:=bA) l11 c11 k11
 have F12:=bI (st:=cc) l12 c12 k12
 have F13:=bI (st:=bU) l13 c13 k13
 have F14:=bI (st:=ca) l14 c14 k14
 have F15:=bI (st:=bp) l15 c15 k15
 have F16:=bI (st:=ba) l16 c16 k16
 have F17:=bI (st:=bZ) l17 c17 k17
 have F18:=bI (st:=iH) l18 c18 k18
 refine⟨⟨f0,_,f1,_,f2,_,f3,_,f4,_,f5,_,f6,_,f7,_,f8,_,f9,_,f10,_,f11,_,f12,_,f13,_,f14,_,f15,_,f16,_,f17,_,f18,_,ga_BLOCK,ga_FIGURES,ga_LAST_SWITCH,ga_LETTERS,ga_MOST_FIGURES,ga_KINDS⟩,⟨F0,PySem.W.mg_of X G a0,F0.binds λ_ _ _ _ _ _ us hl=>(by obtain⟨_,rfl⟩:=iO hl;rfl),F1,PySem.W.mg_of X G a1,F1.binds λ_ _ _ _ _ _ us hl=>(by obtain⟨_,_,rfl⟩:=pU hl;rfl),F2,PySem.W.mg_of X G a2,F2.binds λ_ _ _ _ _ _ us hl=>(by obtain⟨_,rfl⟩:=iO hl;rfl),F3,PySem.W.mg_of X G a3,F3.binds λ_ _ _ _ _ _ us hl=>(by obtain⟨_,rfl⟩:=iO hl;rfl),F4,PySem.W.mg_of X G a4,F4.binds λ_ _ _ _ _ _ us hl=>(by obtain⟨_,_,_,rfl⟩:=z0 hl;rfl),F5,PySem.W.mg_of X G a5,F5.binds λ_ _ _ _ _ _ us hl=>(by obtain⟨_,rfl⟩:=iO hl;rfl),F6,PySem.W.mg_of X G a6,F6.binds λ_ _ _ _ _ _ us hl=>(by obtain⟨_,rfl⟩:=iO hl;rfl),F7,PySem.W.mg_of X G a7,F7.binds λ_ _ _ _ _ _ us hl=>(by obtain⟨_,rfl⟩:=iO hl;rfl),F8,PySem.W.mg_of X G a8,F8.binds λ_ _ _ _ _ _ us hl=>(by obtain⟨_,rfl⟩:=iO hl;rfl),F9,PySem.W.mg_of X G a9,F9.binds λ_ _ _ _ _ _ us hl=>(by obtain⟨_,rfl⟩:=iO hl;rfl),F10,PySem.W.mg_of X G a10,F10.binds λ_ _ _ _ _ _ us hl=>(by obtain⟨_,rfl⟩:=iO hl;rfl),F11,PySem.W.mg_of X G a11,F11.binds λ_ _ _ _ _ _ us hl=>(by obtain⟨_,rfl⟩:=iO hl;rfl),F12,PySem.W.mg_of X G a12,F12.binds λ_ _ _ _ _ _ us hl=>(by obtain⟨_,_,rfl⟩:=pU hl;rfl),F13,PySem.W.mg_of X G a13,F13.binds λ_ _ _ _ _ _ us hl=>(by obtain⟨_,_,rfl⟩:=pU hl;rfl),F14,PySem.W.mg_of X G a14,F14.binds λ_ _ _ _ _ _ us hl=>(by obtain⟨_,_,rfl⟩:=pU hl;rfl),F15,PySem.W.mg_of X G a15,F15.binds λ_ _ _ _ _ _ us hl=>(by obtain⟨_,_,rfl⟩:=pU hl;rfl),F16,PySem.W.mg_of X G a16,F16.binds λ_ _ _ _ _ _ us hl=>(by obtain⟨_,rfl⟩:=iO hl;rfl),F17,PySem.W.mg_of X G a17,F17.binds λ_ _ _ _ _ _ us hl=>(by obtain⟨_,_,rfl⟩:=pU hl;rfl),F18,PySem.W.mg_of X G a18,F18.binds λ_ _ _ _ _ _ us hl=>(by obtain⟨_,rfl⟩:=iO hl;rfl),PySem.W.mg_none_of X G z_abs,PySem.W.mg_none_of X G z_all,PySem.W.mg_none_of X G z_bool,PySem.W.mg_none_of X G z_int,PySem.W.mg_none_of X G z_isinstance,PySem.W.mg_none_of X G z_len,PySem.W.mg_none_of X G z_min,PySem.W.mg_none_of X G z_range,PySem.W.mg_none_of X G z_repr,PySem.W.mg_none_of X G z_sorted,PySem.W.mg_none_of X G z_str,PySem.W.mg_none_of X G z_tuple,PySem.W.mg_of X G ga_BLOCK_,λ_ _=>rfl,PySem.W.mg_of X G ga_FIGURES_,λ_ _=>rfl,PySem.W.mg_of X G ga_LAST_SWITCH_,λ_ _=>rfl,PySem.W.mg_of X G ga_LETTERS_,λ_ _=>rfl,PySem.W.mg_of X G ga_MOST_FIGURES_,λ_ _=>rfl,PySem.W.mg_of X G ga_KINDS_,vV gl_KINDS gq_KINDS⟩,rfl⟩
theorem txt_ex {K:PySem.W.Frag}{mg:Str->Option Value}{f:Addr} (h:∃ t,Txt K mg t/\t.f18=f):∃ t,Txt K mg t:=let ⟨t,a,_⟩:=h;⟨t,a⟩
theorem walk {l:PySem.W.OpenLaw}{q:Program}{loose:List Str}{XP:(Str->Option Value)->Heap->Prop}{YP:World->Heap->Prop}{d:DefRec}{K:Params->PySem.W.Frag} (hn:l.most=some 63) (hdf:d.params.defaults=[])
  (hY:∀ (w:World) (h:Heap),YP w h->(K w.params).In h)
  (F:∀ (w:World) (mg:Str->Option Value) (fa:Addr) (h:Heap),(K w.params).In h->h.Ns mainGlobals mg->mg d.name=some (.ref fa)->
    ∃ fd:FuncData,(∀ (s:Shared) (u:Value),BindsTo s fd ⟨[u],[]⟩ [("_law_script",u)])/\∀ base:Heap,(K w.params).In base->base.Ns mainGlobals mg->ck l.prog w (K w.params) mg base CX0 8 fa fd ["_law_script"] (spI (K w.params) nC)) :
  PySem.W.WalkO q loose XP YP l.row.toRowW d [] (λf vs=>PySem.call f vs):=
 L2.walk_of (n:=63) (k:=8) (x:="_law_script") (CX:=λ_=>CX0) (sp:=λw=>spI (K w.params) nC) hn (by decide) hdf ⟨rfl,by decide,by decide,rfl⟩ hY F (λ_ _ a ns hl hO hS=>u9 hO hS (sC ns hl)) λ_ _ _ _ _ z=>z
theorem law_mk {l:PySem.W.OpenLaw}{w:World}{K:PySem.W.Frag}{h:Heap}{mg:Str->Option Value}{fa:Addr} (hfa:mg "law" = some (.ref fa)) (T0:∃ t,Txt K mg t) :
  ∃ fd:FuncData,(∀ (s:Shared) (v:Value),BindsTo s fd ⟨[v],[]⟩ [("_law_script",v)])/\∀ base:Heap,K.In base->base.Ns mainGlobals mg->ck l.prog w K mg base CX0 8 fa fd ["_law_script"] (spI K nC):=by
 obtain⟨t,T⟩:=T0
 have e:=hfa.symm.trans T.m18
 cases e
 refine⟨t.g18,λs v=>?_,λbase _ _=>xZ T⟩
 obtain⟨oc,od,kV,doc,pm,an,cdv,ct,osl,e,_⟩:=T.F18.ex
 rw [e]
 exact .of_eq rfl
end Own
open PySem PySem.W PyProof.Rows
set_option maxRecDepth 100000 in
set_option maxHeartbeats 0 in
theorem PySem.Challenge.cw_signpoly_k79_polynomials_written_holds : PySem.Challenge.rw_signpoly_k79_polynomials_written.Holds := by
 w_on;o_law;k_head;(case hw=>w_witness2)
 k_fill
 refine Own.walk (l:=PySem.Challenge.rw_signpoly_k79_polynomials_written) rfl rfl (λw h Y=>PySem.W.kIn_of Y) ?F
 case F=>
  intro w mg fa h KX G hmg
  refine Own.law_mk (h:=h) hmg ?T
  case T=>
   refine' Own.txt_ex (Own.txt_mk KX G ?a0 ?l0 ?c0 ?k0 ?a1 ?l1 ?c1 ?k1 ?a2 ?l2 ?c2 ?k2 ?a3 ?l3 ?c3 ?k3 ?a4 ?l4 ?c4 ?k4 ?a5 ?l5 ?c5 ?k5 ?a6 ?l6 ?c6 ?k6 ?a7 ?l7 ?c7 ?k7 ?a8 ?l8 ?c8 ?k8 ?a9 ?l9 ?c9 ?k9 ?a10 ?l10 ?c10 ?k10 ?a11 ?l11 ?c11 ?k11 ?a12 ?l12 ?c12 ?k12 ?a13 ?l13 ?c13 ?k13 ?a14 ?l14 ?c14 ?k14 ?a15 ?l15 ?c15 ?k15 ?a16 ?l16 ?c16 ?k16 ?a17 ?l17 ?c17 ?k17 ?a18 ?l18 ?c18 ?k18 ?z_abs ?z_all ?z_bool ?z_int ?z_isinstance ?z_len ?z_min ?z_range ?z_repr ?z_sorted ?z_str ?z_tuple ?ga_BLOCK_ ?ga_FIGURES_ ?ga_LAST_SWITCH_ ?ga_LETTERS_ ?ga_MOST_FIGURES_ ?ga_KINDS_ ?gl_KINDS ?gq_KINDS)
   case a0=>k_is
   case l0=>k_is
   case c0=>k_is
   case k0=>k_is
   case a1=>k_is
   case l1=>k_is
   case c1=>k_is
   case k1=>k_is
   case a2=>k_is
   case l2=>k_is
   case c2=>k_is
   case k2=>k_is
   case a3=>k_is
   case l3=>k_is
   case c3=>k_is
   case k3=>k_is
   case a4=>k_is
   case l4=>k_is
   case c4=>k_is
   case k4=>k_is
   case a5=>k_is
   case l5=>k_is
   case c5=>k_is
   case k5=>k_is
   case a6=>k_is
   case l6=>k_is
   case c6=>k_is
   case k6=>k_is
   case a7=>k_is
   case l7=>k_is
   case c7=>k_is
   case k7=>k_is
   case a8=>k_is
   case l8=>k_is
   case c8=>k_is
   case k8=>k_is
   case a9=>k_is
   case l9=>k_is
   case c9=>k_is
   case k9=>k_is
   case a10=>k_is
   case l10=>k_is
   case c10=>k_is
   case k10=>k_is
   case a11=>k_is
   case l11=>k_is
   case c11=>k_is
   case k11=>k_is
   case a12=>k_is
   case l12=>k_is
   case c12=>k_is
   case k12=>k_is
   case a13=>k_is
   case l13=>k_is
   case c13=>k_is
   case k13=>k_is
   case a14=>k_is
   case l14=>k_is
   case c14=>k_is
   case k14=>k_is
   case a15=>k_is
   case l15=>k_is
   case c15=>k_is
   case k15=>k_is
   case a16=>k_is
   case l16=>k_is
   case c16=>k_is
   case k16=>k_is
   case a17=>k_is
   case l17=>k_is
   case c17=>k_is
   case k17=>k_is
   case a18=>k_is
   case l18=>k_is
   case c18=>k_is
   case k18=>k_is
   case z_abs=>k_is
   case z_all=>k_is
   case z_bool=>k_is
   case z_int=>k_is
   case z_isinstance=>k_is
   case z_len=>k_is
   case z_min=>k_is
   case z_range=>k_is
   case z_repr=>k_is
   case z_sorted=>k_is
   case z_str=>k_is
   case z_tuple=>k_is
   case ga_BLOCK_=>k_is
   case ga_FIGURES_=>k_is
   case ga_LAST_SWITCH_=>k_is
   case ga_LETTERS_=>k_is
   case ga_MOST_FIGURES_=>k_is
   case ga_KINDS_=>k_is
   case gl_KINDS=>k_is
   case gq_KINDS=>rfl
