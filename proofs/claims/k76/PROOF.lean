import PyProof.Rows.All
import Wide.All
import OpenK.AllK
import Wide.FinOn
import Lean
import PyProof.EqAt
import PyProof.EqKinds
import PyProof.TupleCall
import PyProof.ListRange
import PyProof.NeKinds
import KE.KUnpack
import KE.KSortTup
import PyProof.ZipIter
import PyProof.Rows.CallKwBuiltin
import KE.KDictLaws
import KE.KDictList
import PyProof.SetKind
import PyProof.SetRoads
import PyProof.Rows.SetFrom
import PyProof.WalksMore
import KE.KIntText
import OpenK.KOwn
import PyProof.ExcBaseAll.ValueError
import KE.KIsAll
import PyProof.ExcArgsOwn
import PyProof.ExcAttrAll.ValueError
import PyProof.RulesAs
import PySem.Challenge.RW_signpoly_k76_texts_of_no_functions
set_option Elab.async false
set_option linter.all false
set_option maxRecDepth 100000
set_option genSizeOf false
noncomputable section
namespace L2
open PySem PySem.Spec PyProof.Rows
abbrev Key:=Sum Int Str
noncomputable def kD:Key->Value->Bool
 | .inl k,v=>Value.isInt k v
 | .inr x,v=>Value.isStrOf x v
noncomputable def sT (w:World):Key->Int
 | .inl k=>hashInt k
 | .inr x=>hashStr w x
theorem bb:∀ {k:Key}{v:Value},kD k v=true->(∃ i t,k=Sum.inl i/\v=Value.int i t)\/(∃ x t,k=Sum.inr x/\v=Value.str x t)
 | .inl i,v,h=>by
  obtain⟨t,e⟩:=Value.isInt_shape (k:=i) (v:=v) h
  exact .inl ⟨i,t,rfl,e⟩
 | .inr x,v,h=>by
  obtain⟨t,e⟩:=Value.isStrOf_shape (x:=x) (v:=v) h
  exact .inr ⟨x,t,rfl,e⟩
theorem kZ (x:Str) (t:Tok):kD (.inr x) (.str x t)=true:=by simp [kD,Value.isStrOf]
theorem pX (a b:Int):decide ((Sum.inl a:Key)=Sum.inl b)=(a==b):=by
 by_cases e:a=b
 ·subst e;simp
 ·have h:¬ (Sum.inl a:Key)=Sum.inl b:=λq=>e (Sum.inl.inj q)
  rw [decide_eq_false h]
  exact (beq_eq_false_iff_ne.mpr e).symm
theorem pO (a b:Str):decide ((Sum.inr a:Key)=Sum.inr b)=decide (a=b):=by
 by_cases e:a=b
 ·subst e;simp
 ·have h:¬ (Sum.inr a:Key)=Sum.inr b:=λq=>e (Sum.inr.inj q)
  rw [decide_eq_false h,decide_eq_false e]
theorem pz (a:Int) (b:Str):decide ((Sum.inl a:Key)=Sum.inr b)=false:=decide_eq_false (λq=>nomatch q)
theorem qA (a:Str) (b:Int):decide ((Sum.inr a:Key)=Sum.inl b)=false:=decide_eq_false (λq=>nomatch q)
noncomputable def bo (prog:Program) (w:World):PySem.KeyKind prog w Key where
 is:=kD
 hash:=sT w
 inj:=λv a b ha hb=>by
  rcases bb ha with⟨i,t,rfl,rfl⟩ | ⟨x,t,rfl,rfl⟩
  ·rcases bb hb with⟨j,u,rfl,e⟩ | ⟨y,u,rfl,e⟩
   ·injection e with e1 _;rw [e1]
   ·exact nomatch e
  ·rcases bb hb with⟨j,u,rfl,e⟩ | ⟨y,u,rfl,e⟩
   ·exact nomatch e
   ·injection e with e1 _;rw [e1]
 byValue:=λk v h=>by
  rcases bb h with⟨i,t,rfl,rfl⟩ | ⟨x,t,rfl,rfl⟩<;>rfl
 pyHash:=λhv h=>by
  rcases bb hv with⟨i,t,rfl,rfl⟩ | ⟨x,t,rfl,rfl⟩
  ·exact wpAny_pyHash_int h
  ·exact wpAny_pyHash_str h
 eqBool:=λhu hv h=>by
  rcases bb hu with⟨i,t,rfl,rfl⟩ | ⟨x,t,rfl,rfl⟩
  ·rcases bb hv with⟨j,u,rfl,rfl⟩ | ⟨y,u,rfl,rfl⟩
   ·rw [pX] at h;exact wpAny_eqBool_int h
   ·rw [pz] at h;exact SeqAt.EqAt.int_str i t y u _ _ _ _ h
  ·rcases bb hv with⟨j,u,rfl,rfl⟩ | ⟨y,u,rfl,rfl⟩
   ·rw [qA] at h;exact SeqAt.EqAt.str_int x t j u _ _ _ _ h
   ·rw [pO] at h;exact wpAny_eqBool_str h
 «strs»:=λk x t v h=>by
  rcases bb h with⟨i,u,rfl,e⟩ | ⟨y,u,rfl,e⟩
  ·exact nomatch e
  ·injection e with e1 _
   subst e1
   cases v<;>rfl
theorem bw (prog:Program) (w:World) (x:Str) (t:Tok):(bo prog w).is (.inr x) (.str x t)=true:=kZ x t
end L2
namespace L2
open PySem PySem.Spec PyProof.Rows
inductive V where
 | non | bl (b:Bool) | int (i:Int) | str (x:Str) | byt (b:Array UInt8) | flt (b:UInt64) | ref (a:Addr) | ty (n:String)
 deriving DecidableEq
noncomputable def aB:V->Value->Prop
 | .non,u=>u=Value.none
 | .bl b,u=>u=Value.bool b
 | .int i,u=>∃ t,u=Value.int i t
 | .str x,u=>∃ t,u=Value.str x t
 | .byt b,u=>∃ t,u=Value.bytes b t
 | .flt b,u=>∃ t,u=Value.float b t
 | .ref a,u=>u=Value.ref a
 | .ty n,u=>u=Value.type n
abbrev aD:List V->List Value->Prop:=Paired aB
theorem aD.length {xs:List V}{us:List Value} (r:aD xs us):xs.length=us.length:=Paired.length r
theorem aD.get:∀ {xs:List V}{us:List Value}{i:Nat}{x:V},aD xs us->xs[i]?=some x->∃ u,us[i]?=some u/\aB x u
 | _,_,_,_,.nil,e=>by simp at e
 | _,_,0,_,.cons r _,e=>by simp at e;subst e;exact⟨_,rfl,r⟩
 | _,_,i+1,x,.cons _ t,e=>by
  obtain⟨u,h1,h2⟩:=aD.get (i:=i) (x:=x) t (by simpa using e)
  exact⟨u,by simpa using h1,h2⟩
theorem aD.set {x:V}{u:Value} (r:aB x u):∀ {xs:List V}{us:List Value} (i:Nat),aD xs us->aD (xs.set i x) (us.set i u)
 | _,_,_,.nil=>.nil
 | _,_,0,.cons _ t=>.cons r t
 | _,_,i+1,.cons q t=>.cons q (aD.set r i t)
theorem aD.append:∀ {xs ys:List V}{us ws:List Value},aD xs us->aD ys ws->aD (xs++ys) (us++ws)
 | _,_,_,_,.nil,s=>s
 | _,_,_,_,.cons r t,s=>.cons r (aD.append t s)
noncomputable def pJ:Option V->Option Value->Prop
 | some v,some u=>aB v u
 | none,none=>True
 | _,_=>False
noncomputable def KV {κ:Type}:List (κ×V)->List (κ×Value)->Prop:=Paired λ(p:κ×V) (q:κ×Value)=>p.1=q.1/\aB p.2 q.2
noncomputable def kV:Key->V
 | .inl i=>.int i
 | .inr x=>.str x
inductive HO where
 | lst (xs:List V)
 | tup (xs:List V)
 | dK (kvs:List (Key×V)) | dT (kvs:List (List Key×V))
 | set (S:Int->Bool) (n:Nat)
 | ins (C dx:Addr) (fs:List (Str×V))
 | own (x:Addr)
 | xd (fs:List (Str×V))
 | met (f x:Addr)
 | rng (lo hi:Int)
 | frz (o:Obj) (u:HO)
 | tbl (ps:Array Value)
 | ext (φ:Heap->Prop)
abbrev Hp:=Addr->Option HO
noncomputable def upd (H:Hp) (a:Addr) (o:HO):Hp:=λb=>if b=a then some o else H b
theorem aW {H:Hp}{a:Addr}{o:HO}:upd H a o a=some o:=by unfold upd;rw [if_pos rfl]
theorem aO {H:Hp}{a b:Addr}{o:HO} (h:b≠a):upd H a o b=H b:=by unfold upd;rw [if_neg h]
theorem aU {H:Hp}{a b:Addr}{o:HO} (h:H a=some o) (h':H b=none):a≠b:=by
 intro e;subst e;rw [h] at h';cases h'
noncomputable def dH (h:Heap) (a:Addr) (its:Array Value):Prop:=∃ o:Obj,h.get? a=some o/\o.cls=.type "tuple"/\(∃ n,o.data=.seq its n)/\o.dict=none
theorem dH.tup {h:Heap}{a:Addr}{its:Array Value} (x:dH h a its):IsTup h a its:=let ⟨o,e,c,n,_⟩:=x;⟨o,e,c,n⟩
theorem dH.new (h:Heap) (its:Array Value):dH (h.push { cls:=.type "tuple",data:=.seq its }) h.objs.size its:=⟨_,Heap.get?_push_size _ rfl,rfl,⟨_,rfl⟩,rfl⟩
section
variable (P:Program) (w:World)
noncomputable def bK (H:Hp) (h:Heap) (a:Addr):HO->Prop
 | .lst xs=>xs.length<=sizeLine/\∃ (its:List Value) (n:Nat),aD xs its/\h.get? a=some { cls:=.type "list",data:=.seq its.toArray n }
 | .tup xs=>xs.length<=sizeLine/\∃ its:List Value,aD xs its/\dH h a its.toArray
 | .dK kvs=>kvs.length<=sizeLine/\(a==sysModules)=false/\∃ vs,KV kvs vs/\h.DictOf (bo P w) a vs
 | .dT kvs=>kvs.length<=sizeLine/\(a==sysModules)=false/\∃ xs:List (List Key×Addr×Value),
   Paired (λ(p:List Key×V) (q:List Key×Addr×Value)=>p.1=q.1/\H q.2.1=some (.tup (p.1.map kV))/\aB p.2 q.2.2) kvs xs/\
   ∃ o es ep,h.get? a=some o/\o.ExactDict/\o.data=.dict es ep/\es.toList=xs.map (entryOfKey (tupleKind (bo P w)))/\(xs.map (·.1)).Nodup
 | .set S n=>h.SetOf (intKind P w) a S n
 | .ins C dx fs=>H dx=some (.own a)/\fs.length<=1000/\dx≠a/\h.get? a=some (PySem.W.instObj C dx)/\
   ∃ mA,h.Ns1 dx mA/\(∀ f,pJ (fs.lookup f) (mA f))/\PySem.Within mA (fs.map (·.1))
 | .own _=>∃ o,h.get? a=some o
 | .xd fs=>∃ mA,h.Ns1 a mA/\∀ f,pJ (fs.lookup f) (mA f)
 | .rng lo hi=>∃ t u v,h.get? a=some { cls:=.type "range",data:=.fields #[.int lo t,.int hi u,.int 1 v] }
 | .frz o u=>h.get? a=some o/\bK H h a u
 | .tbl ps=>h.get? a=some { cls:=.none,data:=.fields ps }
 | .met f x=>h.get? a=some (PySem.W.methodObj (.ref f) (.ref x))
 | .ext φ=>φ h/\(∃ o,h.get? a=some o)/\∀ h1 h2:Heap,φ h1->(∀ o,h1.get? a=some o->h2.get? a=some o)->φ h2
noncomputable def HOk (H:Hp) (h:Heap):Prop:=∀ a o,H a=some o->bK P w H h a o
end
section
variable {P:Program}{w:World}{H H':Hp}{h h':Heap}{a:Addr}{o:HO}
theorem bK.lt (x:bK P w H h a o):a < h.objs.size:=by
 cases o with
 | lst xs=>obtain⟨_,_,_,_,e⟩:=x;exact Heap.lt_size e
 | tup xs=>obtain⟨_,_,_,p⟩:=x;exact p.tup.lt
 | dK kvs=>obtain⟨_,_,_,_,o,_,_,e,_⟩:=x;exact Heap.lt_size e
 | dT kvs=>obtain⟨_,_,_,_,o,_,_,e,_⟩:=x;exact Heap.lt_size e
 | set S n=>obtain⟨o,_,_,_,e,_⟩:=x;exact Heap.lt_size e
 | ins C dx fs=>obtain⟨_,_,_,e,_⟩:=x;exact Heap.lt_size e
 | own y=>obtain⟨_,e⟩:=x;exact Heap.lt_size e
 | xd fs=>obtain⟨_,⟨_,_,_,e,_⟩,_⟩:=x;exact Heap.lt_size e
 | rng lo hi=>obtain⟨_,_,_,e⟩:=x;exact Heap.lt_size e
 | frz ob u=>obtain⟨e,_⟩:=x;exact Heap.lt_size e
 | tbl ps=>exact Heap.lt_size (show h.get? a=some _ from x)
 | met f y=>exact Heap.lt_size (show h.get? a=some _ from x)
 | ext φ=>obtain⟨_,⟨_,e⟩,_⟩:=x;exact Heap.lt_size e
theorem Paired.mapP {α β:Type}{F G:α->β->Prop}:∀ {l₁:List α}{l₂:List β},Paired F l₁ l₂->(∀ a b,F a b->G a b)->Paired G l₁ l₂
 | _,_,.nil,_=>.nil
 | _,_,.cons r t,f=>.cons (f _ _ r) (Paired.mapP t f)
theorem bK.stay (x:bK P w H h a o) (k:∀ b u,(b=a\/H b=some (.own a))->h.get? b=some u->h'.get? b=some u)
  (ho:∀ b,H b=some (.own a)->H' b=some (.own a)) (ht:∀ b xs,H b=some (.tup xs)->H' b=some (.tup xs)):bK P w H' h' a o:=by
 induction o with
 | lst xs=>obtain⟨z,its,n,r,e⟩:=x;exact⟨z,its,n,r,k _ _ (.inl rfl) e⟩
 | tup xs=>obtain⟨z,its,r,ob,e,c⟩:=x;exact⟨z,its,r,ob,k _ _ (.inl rfl) e,c⟩
 | dK kvs=>obtain⟨z,y,vs,r,ob,es,ep,e,c⟩:=x;exact⟨z,y,vs,r,ob,es,ep,k _ _ (.inl rfl) e,c⟩
 | dT kvs=>
  obtain⟨z,y,xs,r,ob,es,ep,e,c⟩:=x
  exact⟨z,y,xs,Paired.mapP r λp q z=>⟨z.1,ht _ _ z.2.1,z.2.2⟩,ob,es,ep,k _ _ (.inl rfl) e,c⟩
 | set S n=>obtain⟨ob,es,ep,t,e,c⟩:=x;exact⟨ob,es,ep,t,k _ _ (.inl rfl) e,c⟩
 | ins C dx fs=>
  obtain⟨d,z,ne,e,mA,⟨od,es,ep,e2,c⟩,r⟩:=x
  exact⟨ho _ d,z,ne,k _ _ (.inl rfl) e,mA,⟨od,es,ep,k _ _ (.inr d) e2,c⟩,r⟩
 | own y=>obtain⟨ob,e⟩:=x;exact⟨ob,k _ _ (.inl rfl) e⟩
 | xd fs=>obtain⟨mA,⟨od,es,ep,e,c⟩,r⟩:=x;exact⟨mA,⟨od,es,ep,k _ _ (.inl rfl) e,c⟩,r⟩
 | rng lo hi=>obtain⟨t,u,v,e⟩:=x;exact⟨t,u,v,k _ _ (.inl rfl) e⟩
 | frz ob u ih=>obtain⟨e,q⟩:=x;exact⟨k _ _ (.inl rfl) e,ih q⟩
 | tbl ps=>
  have e:h.get? a=some { cls:=.none,data:=.fields ps }:=x
  show h'.get? a=some { cls:=.none,data:=.fields ps }
  exact k a _ (.inl rfl) e
 | met f y=>
  have e:h.get? a=some (PySem.W.methodObj (.ref f) (.ref y)):=x
  show h'.get? a=some (PySem.W.methodObj (.ref f) (.ref y))
  exact k a _ (.inl rfl) e
 | ext φ=>obtain⟨p,⟨o,e⟩,st⟩:=x;exact⟨st _ _ p λo q=>k _ _ (.inl rfl) q,⟨o,k _ _ (.inl rfl) e⟩,st⟩
theorem HOk.lt (x:HOk P w H h) (e:H a=some o):a < h.objs.size:=(x a o e).lt
theorem HOk.fresh (x:HOk P w H h) (e:h.objs.size<=a):H a=none:=by
 cases q:H a with
 | none=>rfl
 | some u=>exact absurd (Nat.lt_of_lt_of_le (x.lt q) e) (Nat.lt_irrefl _)
theorem HOk.kept (x:HOk P w H h) (k:∀ b u,h.get? b=some u->h'.get? b=some u):HOk P w H h':=λa o e=>
 (x a o e).stay (λb u _ q=>k b u q) (λ_ q=>q) λ_ _ q=>q
theorem HOk.laid (x:HOk P w H h) (k:∀ b u,h.get? b=some u->h'.get? b=some u) (hp:h.objs.size<=a) (new:bK P w (upd H a o) h' a o):HOk P w (upd H a o) h':=λb u e=>by
 have hn:=x.fresh hp
 by_cases hb:b=a
 ·subst hb;rw [aW] at e;cases e;exact new
 ·rw [aO hb] at e
  exact (x b u e).stay (λc v _ q=>k c v q) (λc q=>by rw [aO (aU q hn)];exact q) λc xs q=>by rw [aO (aU q hn)];exact q
end
noncomputable def Rd (H:Hp) (a:Addr) (u:HO):Prop:=H a=some u\/∃ o,H a=some (.frz o u)
theorem Rd.of {H:Hp}{a:Addr}{u:HO} (h:H a=some u):Rd H a u:=.inl h
theorem Rd.ok {P:Program}{w:World}{H:Hp}{h:Heap}{a:Addr}{u:HO} (r:Rd H a u) (x:HOk P w H h):bK P w H h a u:=by
 rcases r with r | ⟨o,r⟩
 ·exact x a u r
 ·obtain⟨_,q⟩:=x a _ r
  exact q
noncomputable def Mut:Option HO->Prop
 | some (.lst _)=>True
 | some (.dK _)=>True
 | some (.dT _)=>True
 | some (.set _ _)=>True
 | some (.ins _ _ _)=>True
 | some (.ext _)=>True
 | _=>False
section
variable {P:Program}{w:World}{H:Hp}{h h':Heap}{x e:Addr}{o':HO}
theorem HOk.write (ok:HOk P w H h) (mu:Mut (H x)) (he:e=x\/H e=some (.own x)) (k:∀ b u,b≠e->h.get? b=some u->h'.get? b=some u) (heo:∃ u,h'.get? e=some u)
  (new:bK P w (upd H x o') h' x o'):HOk P w (upd H x o') h':=λb u q=>by
 have nown:∀ c y,H c=some (.own y)->c≠x:=λc y r z=>by subst z;rw [r] at mu;exact mu
 have ntup:∀ c xs,H c=some (.tup xs)->c≠x:=λc xs r z=>by subst z;rw [r] at mu;exact mu
 by_cases hb:b=x
 ·subst hb;rw [aW] at q;cases q;exact new
 ·rw [aO hb] at q
  by_cases hbe:b=e
  ·have q':H b=some (.own x):=by
    rcases he with z | z
    ·exact absurd (hbe.trans z) hb
    ·rw [hbe];exact z
   rw [q] at q';cases q'
   obtain⟨v,hv⟩:=heo
   exact⟨v,by rw [hbe];exact hv⟩
  ·refine (ok b u q).stay (λc v hc r=>k c v ?_ r) (λc r=>by rw [aO (nown c b r)];exact r) λc xs r=>by rw [aO (ntup c xs r)];exact r
   rcases hc with rfl | hc
   ·exact hbe
   ·rintro rfl
    rcases he with z | z
    ·exact nown c b hc z
    ·rw [hc] at z;cases z;exact hb rfl
end
structure Un (fs ex:List Addr) (H H':Hp) (h h':Heap):Prop where
 keep:∀ b o,h.get? b=some o->H b=none->b ∉ fs->b ∉ ex->h'.get? b=some o
 slot:∀ b o,h.get? b=some o->H b=none->b ∈ fs->b ∉ ex->∃ sl,h'.get? b=some { o with slots:=sl }
 free:∀ b o,h.get? b=some o->H b=none->b ∉ ex->H' b=none
 there:∀ b o,h.get? b=some o->b ∉ ex->∃ o',h'.get? b=some o'
 tups:∀ b xs,H b=some (.tup xs)->H' b=some (.tup xs)
 frzs:∀ b o u,H b=some (.frz o u)->H' b=some (.frz o u)
 tbls:∀ b ps,H b=some (.tbl ps)->∃ more,H' b=some (.tbl (ps++more))
section
variable {fs fs' ex ex':List Addr}{H H1 H2:Hp}{h h1 h2 h':Heap}{a x e:Addr}{o:HO}
theorem Un.any (u:Un fs ex H H1 h h1) {b:Addr}{ob:Obj} (q:h.get? b=some ob) (n:H b=none) (hx:b ∉ ex):∃ sl,h1.get? b=some { ob with slots:=sl }:=by
 by_cases hb:b ∈ fs
 ·exact u.slot b ob q n hb hx
 ·exact⟨ob.slots,u.keep b ob q n hb hx⟩
theorem Un.kept (k:∀ b u,h.get? b=some u->h'.get? b=some u):Un fs ex H H h h':=
 ⟨λb ob q _ _ _=>k b ob q,λb ob q _ _ _=>⟨ob.slots,k b ob q⟩,λ_ _ _ n _=>n,λb ob q _=>⟨ob,k b ob q⟩,λ_ _ q=>q,λ_ _ _ q=>q,λ_ ps q=>⟨#[],by rw [q];simp⟩⟩
theorem Un.refl:Un fs ex H H h h:=Un.kept λ_ _ q=>q
theorem Un.laid (k:∀ b u,h.get? b=some u->h'.get? b=some u) (hp:h.objs.size<=a) (hn:H a=none):Un fs ex H (upd H a o) h h' where
 keep:=λb u q _ _ _=>k b u q
 slot:=λb u q _ _ _=>⟨u.slots,k b u q⟩
 free:=λb u q n _=>by rw [aO (Nat.ne_of_lt (Nat.lt_of_lt_of_le (Heap.lt_size q) hp))];exact n
 there:=λb u q _=>⟨u,k b u q⟩
 tups:=λb xs q=>by rw [aO (aU q hn)];exact q
 frzs:=λb u xs q=>by rw [aO (aU q hn)];exact q
 tbls:=λb ps q=>⟨#[],by rw [aO (aU q hn),q];simp⟩
theorem Un.write (mu:Mut (H x)) (he:e=x\/H e=some (.own x)) (k:∀ b u,b≠e->h.get? b=some u->h'.get? b=some u) (heo:∃ u,h'.get? e=some u):Un fs ex H (upd H x o) h h':=by
 have hx:∀ b,H b=none->b≠x:=λb n z=>by subst z;rw [n] at mu;exact mu
 have hb:∀ b,H b=none->b≠e:=λb n z=>by
  subst z
  rcases he with r | r
  ·exact hx b n r
  ·rw [n] at r;cases r
 have hm:∀ b u,H b=some u->¬ Mut (some u)->b≠x:=λb u q nm z=>by subst z;rw [q] at mu;exact nm mu
 refine⟨λb u q n _ _=>k b u (hb b n) q,λb u q n _ _=>⟨u.slots,k b u (hb b n) q⟩,λb u q n _=>by rw [aO (hx b n)];exact n,λb u q _=>?_,
  λb xs q=>by rw [aO (hm b _ q λz=>z)];exact q,λb u xs q=>by rw [aO (hm b _ q λz=>z)];exact q,λb ps q=>⟨#[],by rw [aO (hm b _ q λz=>z),q];simp⟩⟩
 by_cases hbe:b=e
 ·subst hbe;exact heo
 ·exact⟨u,k b u hbe q⟩
end
noncomputable def trk (h:Heap) (H:Hp):List Addr:=(List.range h.objs.size).filter λa=>(H a).isSome
noncomputable def iD (h:Heap) (H:Hp):Heap:=PySem.W.hideAll h (trk h H)
theorem lm (h:Heap) (H:Hp):(iD h H).objs.size=h.objs.size:=PySem.W.hideAll_size _ _
theorem mZ {h:Heap}{H:Hp}{b:Addr}{o:Obj} (e:h.get? b=some o) (n:H b=none):(iD h H).get? b=some o:=
 PySem.W.hideAll_get _ e λhm=>by
  have q:(H b).isSome=true:=(List.mem_filter.mp hm).2
  rw [n] at q;simp at q
theorem nO {h:Heap}{H:Hp}{b:Addr}{o:Obj} (e:(iD h H).get? b=some o):h.get? b=some o/\H b=none:=by
 have e':h.get? b=some o:=PySem.W.of_hideAll (trk h H) e
 refine⟨e',?_⟩
 cases q:H b with
 | none=>rfl
 | some x=>
  have hm:b ∈ trk h H:=List.mem_filter.mpr ⟨List.mem_range.mpr (Heap.lt_size e'),by simp [q]⟩
  have z:(iD h H).get? b=none:=PySem.W.hideAll_none (trk h H) hm
  rw [z] at e;cases e
end L2
namespace L2
open PySem PySem.Spec PyProof.Rows
structure Mod (K:PySem.W.Frag) (mg:Str->Option Value) (base:Heap):Prop where
 kin:K.In base
 glob:base.Ns mainGlobals mg
 blt:∃ mb,base.Ns builtinsNs mb/\∀ x:Str,x≠"__name__"->mb x=bootBuiltins x
 nolimit:base.NoLimit
structure Cx where
 prog:Program
 w:World
 K:PySem.W.Frag
 mg:Str->Option Value
 base:Heap
 A:Around
 N:List Str
 s₀:Shared
 H₀:Hp
 env:Env
 outer:List Env
 stack:List Env
 ex:List Addr
 fn:Str->Bool
 calm:Bool
 pn:List (Addr×Obj)
 xe:Value->Shared->Prop
noncomputable def frs (l:List Env):List Addr:=l.filterMap (·.frame)
abbrev Cx.fs (X:Cx):List Addr:=frs X.outer
noncomputable def Vis (sc:Scope) (x:Str):Prop:=sc.names.lookup x=some .local\/sc.names.lookup x=some .cell\/sc.names.lookup x=some .free
noncomputable def Loc (sc:Scope) (x:Str):Prop:=sc.names.lookup x=some .local\/sc.names.lookup x=some .cell
noncomputable def tz (env:Env) (h:Heap) (m:Str->Option Value) (x:Str) (u:Value):Prop:=
 (env.kindOf x=some .local/\m x=some u)\/((env.kindOf x=some .cell\/env.kindOf x=some .free)/\∃ c,env.cells.lookup x=some c/\h.IsCell c (some u))
structure Cx.Ok (X:Cx):Prop where
 mod:Mod X.K X.mg X.base
 kind:X.env.scope.kind=.function
 glob:X.env.globals=mainGlobals
 blt:X.env.builtins=builtinsNs
 above:X.s₀.heap.objs.size<=X.env.locals
 inj:∀ x y c,X.env.cells.lookup x=some c->X.env.cells.lookup y=some c->x=y
 has:∀ x,(X.env.kindOf x=some .cell\/X.env.kindOf x=some .free)->∃ c,X.env.cells.lookup x=some c
 cab:∀ x c,X.fn x=true->X.env.cells.lookup x=some c->X.s₀.heap.objs.size<=c
 hd:X.calm=true->X.A.handled=none
 frames:X.A.frames=some X.stack
 stk:X.stack=X.outer\/(X.stack=X.env::X.outer/\X.env.frame=some X.env.locals)
 exf:∀ b ∈ X.ex,b≠X.env.locals/\∀ x c,X.env.cells.lookup x=some c->c≠b
 bs:∀ b o,X.base.get? b=some o->X.s₀.heap.get? b=some o/\X.H₀ b=none
 bsz:X.base.objs.size<=X.s₀.heap.objs.size
 noex:∀ b o,X.base.get? b=some o->b ∉ X.ex
 exfs:∀ b ∈ X.ex,b ∉ X.fs
 funs:X.s₀.heap.FunFrames X.base X.outer
 frf:∀ b ∈ X.fs,X.H₀ b=none
structure Inv (X:Cx) (pins:List (Addr×Obj)) (σ:List (Option V)) (H:Hp) (s:Shared):Prop where
 ok:X.Ok
 os:s.os=X.s₀.os
 bare:AllBare s.gens
 base:Un X.fs X.ex X.H₀ H X.s₀.heap s.heap
 loc:∃ m,s.heap.Ns X.env.locals m/\∀ (i:Nat) (x:Str) (v:V),X.N[i]?=some x->σ[i]?=some (some v)->Vis X.env.scope x->∃ u,aB v u/\tz X.env s.heap m x u
 cell:∀ x c,X.env.cells.lookup x=some c->∃ v,s.heap.IsCell c v
 free:H X.env.locals=none
 freeC:∀ x c,X.env.cells.lookup x=some c->H c=none
 pin:∀ p ∈ X.pn++pins,s.heap.get? p.1=some p.2/\H p.1=none/\p.1≠X.env.locals/\p.1 ∉ X.fs/\∀ v,p.2.data≠.cell v
 hok:HOk X.prog X.w H s.heap
 len:σ.length=X.N.length
section
variable {X:Cx}{pins:List (Addr×Obj)}{σ:List (Option V)}{H H':Hp}{s:Shared}{h':Heap}
theorem Cx.Ok.nofr (ok:X.Ok) {b:Addr}{o:Obj} (e:X.base.get? b=some o):b ∉ X.fs:=λhb=>by
 have:=(ok.funs.mem hb).1
 rw [e] at this;cases this
theorem Inv.bs (I:Inv X pins σ H s):∀ b o,X.base.get? b=some o->s.heap.get? b=some o/\H b=none:=λb o e=>
 ⟨I.base.keep b o (I.ok.bs b o e).1 (I.ok.bs b o e).2 (I.ok.nofr e) (I.ok.noex b o e),I.base.free b o (I.ok.bs b o e).1 (I.ok.bs b o e).2 (I.ok.noex b o e)⟩
theorem Inv.bk (I:Inv X pins σ H s):∀ b o,X.base.get? b=some o->s.heap.get? b=some o:=λb o e=>(I.bs b o e).1
theorem Inv.mod (I:Inv X pins σ H s):Mod X.K X.mg X.base:=I.ok.mod
theorem Inv.kIn (I:Inv X pins σ H s):X.K.In s.heap:=I.ok.mod.kin.keeps I.bk
theorem Inv.fr (I:Inv X pins σ H s):∃ m,Fr X.base X.env.locals s.heap m:=
 let ⟨m,hn,_⟩:=I.loc
 ⟨m,hn,I.bk,Nat.le_trans I.ok.bsz I.ok.above⟩
theorem Inv.lt (I:Inv X pins σ H s):X.env.locals < s.heap.objs.size:=let ⟨_,hn,_⟩:=I.loc;hn.lt
theorem Inv.sz (I:Inv X pins σ H s):X.s₀.heap.objs.size<=s.heap.objs.size:=Nat.le_trans I.ok.above (Nat.le_of_lt I.lt)
theorem Inv.nofs (I:Inv X pins σ H s) {a:Addr} (h:s.heap.objs.size<=a):a ∉ X.fs:=λhb=>by
 obtain⟨_,o,ho,_⟩:=I.ok.funs.mem hb
 exact absurd (Nat.lt_of_lt_of_le (Heap.lt_size ho) (Nat.le_trans I.sz h)) (Nat.lt_irrefl _)
theorem Inv.cne (I:Inv X pins σ H s):∀ x c,X.env.cells.lookup x=some c->c≠X.env.locals:=λx c e z=>by
 obtain⟨v,o,ho,hd⟩:=I.cell x c e
 obtain⟨m,⟨o',es,ep,ho',hd',_⟩,_⟩:=I.loc
 rw [z,ho'] at ho;cases ho;rw [hd'] at hd;cases hd
theorem Inv.funs (I:Inv X pins σ H s):s.heap.FunFrames X.base X.outer:=by
 have all:∀ (l:List Env),(∀ b ∈ frs l,b ∈ X.fs)->X.s₀.heap.FunFrames X.base l->s.heap.FunFrames X.base l:=by
  intro l
  induction l with
  | nil=>intro _ _;trivial
  | cons env r ih=>
   intro hs hl
   obtain⟨hk,⟨L,o,hf,hn,ho,hd⟩,hr⟩:=hl
   have hL:L ∈ X.fs:=hs L (by unfold frs;rw [List.filterMap_cons,hf];exact List.mem_cons_self)
   obtain⟨sl,e⟩:=I.base.slot L o ho (I.ok.frf L hL) hL λz=>I.ok.exfs L z hL
   exact⟨hk,⟨L,_,hf,hn,e,hd⟩,ih (λb hb=>hs b (by unfold frs;rw [List.filterMap_cons,hf];exact List.mem_cons_of_mem _ hb)) hr⟩
 exact all X.outer (λ_ hb=>hb) I.ok.funs
theorem Inv.stack (I:Inv X pins σ H s):s.heap.FunFrames X.base X.stack:=by
 rcases I.ok.stk with e | ⟨e,hf⟩
 ·rw [e];exact I.funs
 ·rw [e]
  obtain⟨m,hn,_⟩:=I.loc
  refine .cons (by rw [I.ok.kind];decide) hf hn ?_ I.funs
  exact Heap.get?_none_of_le (Nat.le_trans I.ok.bsz I.ok.above)
theorem Inv.stkSub (I:Inv X pins σ H s):∀ b ∈ frs X.stack,b ∈ X.env.locals::X.fs:=λb hb=>by
 rcases I.ok.stk with e | ⟨e,hf⟩
 ·rw [e] at hb;exact List.mem_cons_of_mem _ hb
 ·rw [e] at hb
  unfold frs at hb
  rw [List.filterMap_cons,hf] at hb
  exact hb
theorem Inv.stkFree (I:Inv X pins σ H s):∀ b ∈ frs X.stack,H b=none:=λb hb=>by
 rcases List.mem_cons.mp (I.stkSub b hb) with e | hb
 ·rw [e];exact I.free
 ·obtain⟨_,o,ho,_⟩:=I.ok.funs.mem hb
  exact I.base.free b o ho (I.ok.frf b hb) λz=>I.ok.exfs b z hb
theorem Inv.step {g':Array GenState}{t':Nat}{d':Drawn}{ch:List Addr} (I:Inv X pins σ H s)
  (hch:∀ b ∈ ch,(b ∈ X.ex\/X.s₀.heap.objs.size<=b)/\b≠X.env.locals/\(∀ x c,X.env.cells.lookup x=some c->c≠b)/\∀ p ∈ X.pn++pins,p.1≠b)
  (keep:∀ b o,b≠X.env.locals->b ∉ X.fs->b ∉ ch->s.heap.get? b=some o->H b=none->h'.get? b=some o)
  (slot:∀ b o,b≠X.env.locals->b ∈ X.fs->b ∉ ch->s.heap.get? b=some o->H b=none->∃ sl,h'.get? b=some { o with slots:=sl }) (free:∀ b o,b ∉ ch->s.heap.get? b=some o->H b=none->H' b=none)
  (there:∀ b o,b ∉ ch->s.heap.get? b=some o->∃ o',h'.get? b=some o')
  (tups:∀ b xs,H b=some (.tup xs)->H' b=some (.tup xs)) (frzs:∀ b o u,H b=some (.frz o u)->H' b=some (.frz o u)) (tbls:∀ b ps,H b=some (.tbl ps)->∃ more,H' b=some (.tbl (ps++more)))
  (ns:∀ m,s.heap.Ns X.env.locals m->h'.Ns X.env.locals m) (hok:HOk X.prog X.w H' h') (hg:AllBare g') :
  Inv X pins σ H' { s with heap:=h',gens:=g',drawn:=d',toks:=t' }:=by
 have neL:∀ b o,X.s₀.heap.get? b=some o->b≠X.env.locals:=λb o e=>Nat.ne_of_lt (Nat.lt_of_lt_of_le (Heap.lt_size e) I.ok.above)
 have neC:∀ b o,X.s₀.heap.get? b=some o->b ∉ X.ex->b ∉ ch:=λb o e hx hb=>by
  rcases (hch b hb).1 with z | z
  ·exact hx z
  ·exact absurd (Nat.lt_of_lt_of_le (Heap.lt_size e) z) (Nat.lt_irrefl _)
 have cellK:∀ x c,X.env.cells.lookup x=some c->∀ v,s.heap.IsCell c v->h'.IsCell c v:=λx c e v ⟨o,ho,hd⟩=>by
  have nch:c ∉ ch:=λz=>(hch c z).2.2.1 x c e rfl
  by_cases hc:c ∈ X.fs
  ·obtain⟨sl,q⟩:=slot c o (I.cne x c e) hc nch ho (I.freeC x c e)
   exact⟨_,q,hd⟩
  ·exact⟨o,keep c o (I.cne x c e) hc nch ho (I.freeC x c e),hd⟩
 refine⟨I.ok,I.os,hg,⟨λb o e n hb hx=>?_,λb o e n hb hx=>?_,λb o e n hx=>?_,λb o e hx=>?_,λb xs e=>tups b xs (I.base.tups b xs e),λb o xs e=>frzs b o xs (I.base.frzs b o xs e),λb ps e=>?_⟩,?_,λx c e=>?_,?_,λx c e=>?_,λp hp=>?_,hok,I.len⟩
 ·exact keep b o (neL b o e) hb (neC b o e hx) (I.base.keep b o e n hb hx) (I.base.free b o e n hx)
 ·obtain⟨sl,e1⟩:=I.base.slot b o e n hb hx
  obtain⟨sl',e2⟩:=slot b _ (neL b o e) hb (neC b o e hx) e1 (I.base.free b o e n hx)
  exact⟨sl',e2⟩
 ·obtain⟨o',e1⟩:=I.base.there b o e hx
  exact free b o' (neC b o e hx) e1 (I.base.free b o e n hx)
 ·obtain⟨o',e1⟩:=I.base.there b o e hx
  exact there b o' (neC b o e hx) e1
 ·obtain⟨m1,e1⟩:=I.base.tbls b ps e
  obtain⟨m2,e2⟩:=tbls b _ e1
  exact⟨m1++m2,by rw [e2,Array.append_assoc]⟩
 ·obtain⟨m,hn,hl⟩:=I.loc
  refine⟨m,ns m hn,λi x v e1 e2 e3=>?_⟩
  obtain⟨u,r,l⟩:=hl i x v e1 e2 e3
  refine⟨u,r,?_⟩
  rcases l with l | ⟨k,c,e,z⟩
  ·exact .inl l
  ·exact .inr ⟨k,c,e,cellK x c e _ z⟩
 ·obtain⟨v,z⟩:=I.cell x c e
  exact⟨v,cellK x c e v z⟩
 ·obtain⟨m,⟨o,_,_,ho,_⟩,_⟩:=I.loc
  exact free _ o (λz=>(hch _ z).2.1 rfl) ho I.free
 ·obtain⟨v,o,ho,hd⟩:=I.cell x c e
  exact free c o (λz=>(hch c z).2.2.1 x c e rfl) ho (I.freeC x c e)
 ·obtain⟨e,n,ne,nf,d⟩:=I.pin p hp
  have nch:p.1 ∉ ch:=λz=>(hch p.1 z).2.2.2 p hp rfl
  exact⟨keep p.1 p.2 ne nf nch e n,free p.1 p.2 nch e n,ne,nf,d⟩
theorem Inv.un {t':Nat} (I:Inv X pins σ H s) (u:Un X.fs [] H H' s.heap h') (hok:HOk X.prog X.w H' h'):Inv X pins σ H' { s with heap:=h',toks:=t' }:=by
 obtain⟨m,⟨o,es,ep,ho,r⟩,_⟩:=id I.loc
 obtain⟨sl,hL⟩:=u.any ho I.free (by simp)
 exact I.step (g':=s.gens) (d':=s.drawn) (ch:=[]) (λ_ z=>nomatch z) (λb o _ hb _ e n=>u.keep b o e n hb (by simp)) (λb o _ hb _ e n=>u.slot b o e n hb (by simp)) (λb o _ e n=>u.free b o e n (by simp)) (λb o _ e=>u.there b o e (by simp)) u.tups u.frzs u.tbls (λm' hm=>by
  obtain⟨o',es',ep',ho',r'⟩:=hm
  rw [ho] at ho';cases ho'
  exact⟨_,es',ep',hL,r'⟩) hok I.bare
theorem Inv.call {g':Array GenState}{t':Nat}{d':Drawn}{ch:List Addr} (I:Inv X pins σ H s) (u:Un (frs X.stack) ch H H' s.heap h') (hok:HOk X.prog X.w H' h') (hg:AllBare g')
  (hch:∀ b ∈ ch,(b ∈ X.ex\/X.s₀.heap.objs.size<=b)/\b≠X.env.locals/\(∀ x c,X.env.cells.lookup x=some c->c≠b)/\∀ p ∈ X.pn++pins,p.1≠b) :
  Inv X pins σ H' { s with heap:=h',gens:=g',drawn:=d',toks:=t' }:=by
 obtain⟨m,⟨o,es,ep,ho,r⟩,_⟩:=id I.loc
 obtain⟨sl,hL⟩:=u.any ho I.free λz=>(hch _ z).2.1 rfl
 exact I.step (ch:=ch) hch (λb o hL hb hc e n=>u.keep b o e n (λz=>(List.mem_cons.mp (I.stkSub b z)).elim hL hb) hc) (λb o _ _ hc e n=>u.any e n hc) (λb o hc e n=>u.free b o e n hc) (λb o hc e=>u.there b o e hc) u.tups u.frzs u.tbls (λm' hm=>by
  obtain⟨o',es',ep',ho',r'⟩:=hm
  rw [ho] at ho';cases ho'
  exact⟨_,es',ep',hL,r'⟩) hok hg
theorem Inv.turned {t':Nat}{it:Addr} (I:Inv X pins σ H s) (k:∀ b o,b≠it->s.heap.get? b=some o->h'.get? b=some o) (hn:H it=none) (hL:it≠X.env.locals)
  (h1:it ∈ X.ex\/X.s₀.heap.objs.size<=it) (h2:∀ x c,X.env.cells.lookup x=some c->c≠it) (h3:∀ p ∈ X.pn++pins,p.1≠it):Inv X pins σ H { s with heap:=h',toks:=t' }:=by
 have nit:∀ b u,H b=some u->b≠it:=λb u e z=>by rw [z,hn] at e;cases e
 refine I.step (g':=s.gens) (d':=s.drawn) (ch:=[it]) (λb hb=>?_) (λb o _ _ hc e _=>k b o (λz=>hc (by simp [z])) e) (λb o _ _ hc e _=>⟨o.slots,k b o (λz=>hc (by simp [z])) e⟩) (λ_ _ _ _ n=>n)
  (λb o hc e=>⟨o,k b o (λz=>hc (by simp [z])) e⟩) (λ_ _ e=>e) (λ_ _ _ e=>e) (λb ps e=>⟨#[],by rw [e];simp⟩) (λm hm=>?_) (λb u e=>?_) I.bare
 ·have e:b=it:=by simpa using hb
  subst e
  exact⟨h1,hL,h2,h3⟩
 ·obtain⟨o,es,ep,ho,r⟩:=hm
  exact⟨o,es,ep,k _ o (Ne.symm hL) ho,r⟩
 ·refine (I.hok b u e).stay (λc v hc q=>k c v ?_ q) (λ_ q=>q) λ_ _ q=>q
  rcases hc with z | z
  ·rw [z];exact nit b u e
  ·exact nit c _ z
theorem Inv.tok (I:Inv X pins σ H s) (t:Nat):Inv X pins σ H { s with toks:=t }:=I.un (h':=s.heap) (t':=t) Un.refl I.hok
theorem Inv.kept {t':Nat} (I:Inv X pins σ H s) (k:∀ b u,s.heap.get? b=some u->h'.get? b=some u):Inv X pins σ H { s with heap:=h',toks:=t' }:=I.un (Un.kept k) (I.hok.kept k)
theorem Inv.laid {a:Addr}{o:HO}{t':Nat} (I:Inv X pins σ H s) (k:∀ b u,s.heap.get? b=some u->h'.get? b=some u) (hp:s.heap.objs.size<=a) (new:bK X.prog X.w (upd H a o) h' a o) :
  Inv X pins σ (upd H a o) { s with heap:=h',toks:=t' }:=I.un (Un.laid k hp (I.hok.fresh hp)) (I.hok.laid k hp new)
theorem Inv.write {x e:Addr}{o:HO}{t':Nat} (I:Inv X pins σ H s) (mu:Mut (H x)) (he:e=x\/H e=some (.own x)) (k:∀ b u,b≠e->s.heap.get? b=some u->h'.get? b=some u) (heo:∃ u,h'.get? e=some u)
  (new:bK X.prog X.w (upd H x o) h' x o):Inv X pins σ (upd H x o) { s with heap:=h',toks:=t' }:=I.un (Un.write mu he k heo) (I.hok.write mu he k heo new)
theorem Inv.weak {σ':List (Option V)} (I:Inv X pins σ H s) (hl:σ'.length=σ.length) (w:∀ (i:Nat) v,σ'[i]?=some (some v)->σ[i]?=some (some v)):Inv X pins σ' H s:=
 ⟨I.ok,I.os,I.bare,I.base,let ⟨m,hn,hl'⟩:=I.loc;⟨m,hn,λi x v e1 e2 e3=>hl' i x v e1 (w i v e2) e3⟩,I.cell,I.free,I.freeC,I.pin,I.hok,hl.trans I.len⟩
theorem Inv.pins_of {pins':List (Addr×Obj)} (I:Inv X pins σ H s) (h:∀ p ∈ pins',s.heap.get? p.1=some p.2/\H p.1=none/\p.1≠X.env.locals/\p.1 ∉ X.fs/\∀ v,p.2.data≠.cell v):Inv X pins' σ H s:=
 ⟨I.ok,I.os,I.bare,I.base,I.loc,I.cell,I.free,I.freeC,λp hp=>(List.mem_append.mp hp).elim (λz=>I.pin p (List.mem_append_left _ z)) (h p),I.hok,I.len⟩
theorem jm {N:List Str} (hN:N.Nodup) {i j:Nat}{x:Str} (a:N[i]?=some x) (b:N[j]?=some x):i=j:=by
 obtain⟨h1,e1⟩:=List.getElem?_eq_some_iff.mp a
 obtain⟨h2,e2⟩:=List.getElem?_eq_some_iff.mp b
 exact (List.getElem_inj hN).mp (e1.trans e2.symm)
theorem lv {M:Model}{A:Around}{E:Value->Shared->Prop}{i:Nat}{x:Str}{v:V}{u:Value}{Q:Unit->Shared->Prop} (I:Inv X pins σ H s) (hN:X.N.Nodup) (hi:X.N[i]?=some x) (hx:Loc X.env.scope x) (r:aB v u)
  (h:∀ s',Inv X pins (σ.set i (some v)) H s'->(∃ a,Heap.SameBut a s.heap s'.heap/\(a=X.env.locals\/X.env.cells.lookup x=some a))->Q () s') (hf:X.fn x=true\/X.env.scope.names.lookup x=some .local:=by first | exact .inl rfl | exact .inr rfl | assumption):wpAny M A (storeName X.env x u) Q E s:=by
 obtain⟨m,hn,hl⟩:=id I.loc
 have hcls:(X.env.scope.kind==.class || (X.env.scope.kind==.module && X.env.locals != X.env.globals))=false:=by rw [I.ok.kind];rfl
 have hiσ:i < σ.length:=by rw [I.len];exact (List.getElem?_eq_some_iff.mp hi).1
 have cne:=I.cne
 have tracked:∀ {a:Addr}{h':Heap},(∃ o,s.heap.get? a=some o/\H a=none)->Heap.SameBut a s.heap h'->HOk X.prog X.w H h':=λ{a h'} ha hs b ob e=>by
  obtain⟨_,_,hfree⟩:=ha
  refine (I.hok b ob e).stay (λc w' hc q=>(hs.2 c ?_).trans q) (λ_ q=>q) λ_ _ q=>q
  rintro rfl
  rcases hc with rfl | hc
  ·rw [hfree] at e;cases e
  ·rw [hfree] at hc;cases hc
 rcases hx with hk | hk
 ·refine wpAny_storeName_local hk hn (λh' hn' hs=>?_) hcls
  obtain⟨oL,_,_,hoL,_⟩:=id hn
  refine h _ ⟨I.ok,I.os,I.bare,⟨λb o e n hb hx=>?_,λb o e n hb hx=>?_,I.base.free,λb o e hx=>?_,I.base.tups,I.base.frzs,I.base.tbls⟩,⟨_,hn',λj y v' e1 e2 e3=>?_⟩,λy c e=>?_,I.free,I.freeC,λp hp=>?_,tracked ⟨oL,hoL,I.free⟩ hs,by simpa using I.len⟩ ⟨_,hs,.inl rfl⟩
  ·exact (hs.2 b (Nat.ne_of_lt (Nat.lt_of_lt_of_le (Heap.lt_size e) I.ok.above))).trans (I.base.keep b o e n hb hx)
  ·obtain⟨sl,e1⟩:=I.base.slot b o e n hb hx
   exact⟨sl,(hs.2 b (Nat.ne_of_lt (Nat.lt_of_lt_of_le (Heap.lt_size e) I.ok.above))).trans e1⟩
  ·obtain⟨o',e1⟩:=I.base.there b o e hx
   exact⟨o',(hs.2 b (Nat.ne_of_lt (Nat.lt_of_lt_of_le (Heap.lt_size e) I.ok.above))).trans e1⟩
  ·by_cases hj:j=i
   ·subst hj
    rw [hi] at e1;cases e1
    rw [List.getElem?_set_self hiσ] at e2
    cases e2
    exact⟨u,r,.inl ⟨hk,by simp⟩⟩
   ·rw [List.getElem?_set_ne (Ne.symm hj)] at e2
    obtain⟨u',r',q⟩:=hl j y v' e1 e2 e3
    refine⟨u',r',?_⟩
    rcases q with⟨k,e⟩ | ⟨k,c,e,z⟩
    ·refine .inl ⟨k,?_⟩
     have:y≠x:=λe=>hj (jm hN e1 (e ▸ hi))
     simp [this,e]
    ·exact .inr ⟨k,c,e,z.sameBut hs (cne y c e)⟩
  ·obtain⟨w',z⟩:=I.cell y c e
   exact⟨w',z.sameBut hs (cne y c e)⟩
  ·obtain⟨e,n,ne,nf,d⟩:=I.pin p hp
   exact⟨(hs.2 p.1 ne).trans e,n,ne,nf,d⟩
 ·have hfn:X.fn x=true:=by
   rcases hf with z | z
   ·exact z
   ·rw [z] at hk;cases hk
  obtain⟨c,hc⟩:=I.ok.has x (.inl hk)
  obtain⟨w',z⟩:=I.cell x c hc
  refine wpAny_storeName_cell I.ok.kind hk hc z (λh' hc' hs=>?_)
  obtain⟨oc,hoc,hocd⟩:=id z
  refine h { s with heap:=h' } ⟨I.ok,I.os,I.bare,⟨λb o e n hb hx=>?_,λb o e n hb hx=>?_,I.base.free,λb o e hx=>?_,I.base.tups,I.base.frzs,I.base.tbls⟩,⟨m,hn.sameBut hs (Ne.symm (cne x c hc)),λj y v' e1 e2 e3=>?_⟩,λy c' e=>?_,I.free,I.freeC,λp hp=>?_,tracked ⟨oc,hoc,I.freeC x c hc⟩ hs,by simpa using I.len⟩ ⟨c,hs,.inr hc⟩
  ·exact (hs.2 b (Nat.ne_of_lt (Nat.lt_of_lt_of_le (Heap.lt_size e) (I.ok.cab x c hfn hc)))).trans (I.base.keep b o e n hb hx)
  ·obtain⟨sl,e1⟩:=I.base.slot b o e n hb hx
   exact⟨sl,(hs.2 b (Nat.ne_of_lt (Nat.lt_of_lt_of_le (Heap.lt_size e) (I.ok.cab x c hfn hc)))).trans e1⟩
  ·obtain⟨o',e1⟩:=I.base.there b o e hx
   exact⟨o',(hs.2 b (Nat.ne_of_lt (Nat.lt_of_lt_of_le (Heap.lt_size e) (I.ok.cab x c hfn hc)))).trans e1⟩
  ·by_cases hj:j=i
   ·subst hj
    rw [hi] at e1;cases e1
    rw [List.getElem?_set_self hiσ] at e2
    cases e2
    exact⟨u,r,.inr ⟨.inl hk,c,hc,hc'⟩⟩
   ·rw [List.getElem?_set_ne (Ne.symm hj)] at e2
    obtain⟨u',r',q⟩:=hl j y v' e1 e2 e3
    refine⟨u',r',?_⟩
    rcases q with q | ⟨k,c',e,z'⟩
    ·exact .inl q
    ·refine .inr ⟨k,c',e,z'.sameBut hs ?_⟩
     rintro rfl
     exact hj (jm hN e1 (I.ok.inj _ _ _ e hc ▸ hi))
  ·by_cases hcc:c'=c
   ·subst hcc;exact⟨_,hc'⟩
   ·obtain⟨w2,z2⟩:=I.cell y c' e
    exact⟨w2,z2.sameBut hs hcc⟩
  ·obtain⟨e,n,ne,nf,d⟩:=I.pin p hp
   refine⟨(hs.2 p.1 ?_).trans e,n,ne,nf,d⟩
   intro q
   rw [q,hoc] at e
   have q':oc=p.2:=Option.some.inj e
   exact d w' (by rw [<-q'];exact hocd)
theorem dN {M:Model}{A:Around}{E:Value->Shared->Prop}{i:Nat}{x:Str}{v:V}{u:Value}{Q:Unit->Shared->Prop} (I:Inv X pins σ H s) (hN:X.N.Nodup) (hi:X.N[i]?=some x) (hx:Loc X.env.scope x) (r:aB v u)
  (h:∀ s',Inv X pins (σ.set i (some v)) H s'->Q () s') (hf:X.fn x=true\/X.env.scope.names.lookup x=some .local:=by first | exact .inl rfl | exact .inr rfl | assumption):wpAny M A (storeName X.env x u) Q E s:=
 lv I hN hi hx r (λs' I' _=>h s' I') hf
theorem Inv.call' {s':Shared}{ch:List Addr} (I:Inv X pins σ H s) (ho:s'.os=s.os) (u:Un (frs X.stack) ch H H' s.heap s'.heap) (hok:HOk X.prog X.w H' s'.heap) (hg:AllBare s'.gens)
  (hch:∀ b ∈ ch,(b ∈ X.ex\/X.s₀.heap.objs.size<=b)/\b≠X.env.locals/\(∀ x c,X.env.cells.lookup x=some c->c≠b)/\∀ p ∈ X.pn++pins,p.1≠b):Inv X pins σ H' s':=by
 obtain⟨h',g',d',t',o'⟩:=s'
 have e:o'=s.os:=ho
 subst e
 exact I.call (g':=g') (t':=t') (d':=d') u hok hg hch
end
abbrev XK:=Value->Option Addr->Hp->Prop
abbrev St:=List (Option V)
abbrev VK:=V->Hp->Prop
abbrev TE:=St->Hp->VK->Prop
abbrev TT:=St->Hp->(Bool->Hp->Prop)->Prop
abbrev TA:=St->Hp->(List V->Hp->Prop)->Prop
structure jR where
 nx:St->Hp->Prop
 rt:VK
 bk:St->Hp->Prop:=λ_ _=>False
 ct:St->Hp->Prop:=λ_ _=>False
abbrev TS:=jR->St->Hp->Prop
noncomputable def EP (X:Cx) (pins:List (Addr×Obj)) (σ:St) (Q:VK) (u:Value) (s':Shared):Prop:=∃ v H',Inv X pins σ H' s'/\aB v u/\Q v H'
noncomputable def TP (X:Cx) (pins:List (Addr×Obj)) (σ:St) (Q:Bool->Hp->Prop) (b:Bool) (s':Shared):Prop:=∃ H',Inv X pins σ H' s'/\Q b H'
noncomputable def AP (X:Cx) (pins:List (Addr×Obj)) (σ:St) (Q:List V->Hp->Prop) (us:List Value) (s':Shared):Prop:=∃ vs H',Inv X pins σ H' s'/\aD vs us/\Q vs H'
noncomputable def SP (X:Cx) (pins:List (Addr×Obj)) (D:jR) (f:Flow) (s':Shared):Prop:=
 match f with
 | .next=>∃ σ' H',Inv X pins σ' H' s'/\D.nx σ' H'
 | .brk=>∃ σ' H',Inv X pins σ' H' s'/\D.bk σ' H'
 | .cont=>∃ σ' H',Inv X pins σ' H' s'/\D.ct σ' H'
 | .ret u=>∃ v σ' H',Inv X pins σ' H' s'/\aB v u/\D.rt v H'
noncomputable def PE (X:Cx) (e:Expr) (t:TE):Prop:=
 ∀ (pins:List (Addr×Obj)) (s:Shared) (σ:St) (H:Hp) (Q:VK),Inv X pins σ H s->t σ H Q->wpAny (model X.prog X.w) X.A (eval e X.env) (EP X pins σ Q) X.xe s
noncomputable def PT (X:Cx) (e:Expr) (t:TT):Prop:=
 ∀ (pins:List (Addr×Obj)) (s:Shared) (σ:St) (H:Hp) (Q:Bool->Hp->Prop),Inv X pins σ H s->t σ H Q->wpAny (model X.prog X.w) X.A (isTrue e X.env (eval e X.env)) (TP X pins σ Q) X.xe s
noncomputable def PW (X:Cx) (e:Expr) (t:TT):Prop:=
 ∀ (whole:Sem Value) (pins:List (Addr×Obj)) (s:Shared) (σ:St) (H:Hp) (Q:Bool->Hp->Prop),Inv X pins σ H s->t σ H Q->wpAny (model X.prog X.w) X.A (isTrue e X.env whole) (TP X pins σ Q) X.xe s
theorem PW.pt {X:Cx}{e:Expr}{t:TT} (h:PW X e t):PT X e t:=h _
noncomputable def PA (X:Cx) (es:List Expr) (t:TA):Prop:=
 ∀ (pos:Pos) (pins:List (Addr×Obj)) (s:Shared) (σ:St) (H:Hp) (Q:List V->Hp->Prop),Inv X pins σ H s->t σ H Q->wpAny (model X.prog X.w) X.A (spliced (backTo pos (starEach es X.env))) (AP X pins σ Q) X.xe s
noncomputable def PS (X:Cx) (st:Stmt) (t:TS):Prop:=
 ∀ (pins:List (Addr×Obj)) (s:Shared) (σ:St) (H:Hp) (D:jR),Inv X pins σ H s->t D σ H->wpAny (model X.prog X.w) X.A (exec st X.env) (SP X pins D) X.xe s
noncomputable def PSs (X:Cx) (st:List Stmt) (t:TS):Prop:=
 ∀ (pins:List (Addr×Obj)) (s:Shared) (σ:St) (H:Hp) (D:jR),Inv X pins σ H s->t D σ H->wpAny (model X.prog X.w) X.A (execs st X.env) (SP X pins D) X.xe s
theorem thn {α:Type}{t:Sem α}{Q Q':α->Shared->Prop}{M:Model}{A:Around}{E:Value->Shared->Prop}{s:Shared} (h:wpAny M A t Q E s) (hQ:∀ a s,Q a s->Q' a s):wpAny M A t Q' E s:=wpAny_mono h hQ λ_ _ x=>x
end L2
namespace L2
open PySem PySem.Spec PyProof.Rows
section
variable {X:Cx}
noncomputable def nD (i:Nat):TE:=λσ H Q=>∃ v,σ[i]?=some (some v)/\Q v H
noncomputable def tC (v:V):TE:=λ_ H Q=>Q v H
theorem nh {i:Nat}{x:Str}{pos:Pos} (hN:X.N[i]?=some x) (hv:Vis X.env.scope x) (hd:(x==("__debug__" : Str))=false:=by decide) (hcd:(x==("__classdict__" : Str))=false:=by decide):PE X (.Name x pos) (nD i):=by
 intro pins s σ H Q I h
 obtain⟨v,e,h⟩:=h
 obtain⟨m,hn,hl⟩:=I.loc
 obtain⟨u,r,l⟩:=hl i x v hN e hv
 have fin:EP X pins σ Q u s:=⟨v,H,I,r,h⟩
 rcases l with⟨hk,hm⟩ | ⟨hk,c,hc,hcell⟩
 ·exact wpAny_Name (wpAny_loadName_local I.ok.kind hk hn hm fin) hd
 ·rcases hk with hk | hk
  ·exact wpAny_Name (wpAny_loadName_cell I.ok.kind hk hc hcell fin) hd
  ·exact wpAny_Name (wpAny_loadName_free I.ok.kind hk hc hcell fin hcd) hd
theorem qp {i j pos}:PE X (.Constant (.int i) j pos) (tC (.int i)):=λ_ _ _ H _ I h=>wpAny_Constant_int ⟨.int i,H,I.tok _,⟨_,rfl⟩,h⟩
theorem rG {b j pos}:PE X (.Constant (.bool b) j pos) (tC (.bl b)):=λ_ _ _ H _ I h=>Constant_bool ⟨.bl b,H,I,rfl,h⟩
theorem mm {j pos}:PE X (.Constant .none j pos) (tC .non):=λ_ _ _ H _ I h=>Constant_none ⟨.non,H,I,rfl,h⟩
theorem lS {x j pos}:PE X (.Constant (.str x) j pos) (tC (.str x)):=λ_ _ _ H _ I h=>Calls.Constant_str ⟨.str x,H,I.tok _,⟨_,rfl⟩,h⟩
noncomputable def Gl (X:Cx) (x:Str):Prop:=X.env.kindOf x=some .globalImplicit
theorem fS {E:Value->Shared->Prop}{pins:List (Addr×Obj)}{s:Shared}{σ:St}{H:Hp}{x:Str}{u:Value}{pos:Pos}{Q:Value->Shared->Prop} (I:Inv X pins σ H s) (hg:Gl X x) (hm:X.mg x=some u) (h:Q u s)
  (hd:(x==("__debug__" : Str))=false:=by decide):wpAny (model X.prog X.w) X.A (eval (.Name x pos) X.env) Q E s:=
 Calls.Name_function_global I.ok.kind hg (Calls.loadGlobal_global (by rw [I.ok.glob];exact I.mod.glob.keeps I.bk) hm h) hd
theorem iW {E:Value->Shared->Prop}{pins:List (Addr×Obj)}{s:Shared}{σ:St}{H:Hp}{x:Str}{u:Value}{pos:Pos}{Q:Value->Shared->Prop} (I:Inv X pins σ H s) (hg:Gl X x) (hm:X.mg x=none) (hv:bootBuiltins x=some u) (h:Q u s)
  (hn:x≠"__name__":=by decide) (hd:(x==("__debug__" : Str))=false:=by decide):wpAny (model X.prog X.w) X.A (eval (.Name x pos) X.env) Q E s:=by
 obtain⟨mb,h1,h2⟩:=I.mod.blt
 exact Calls.Name_function_global I.ok.kind hg (Calls.loadGlobal_builtin (by rw [I.ok.glob];exact I.mod.glob.keeps I.bk) hm (by rw [I.ok.blt];exact h1.keeps I.bk) ((h2 x hn).trans hv) h) hd
theorem d3 {x:Str}{v:V}{u:Value}{pos:Pos} (hg:Gl X x) (hm:X.mg x=some u) (r:aB v u) (hd:(x==("__debug__" : Str))=false:=by decide):PE X (.Name x pos) (tC v):=
 λ_ _ _ H _ I h=>fS I hg hm ⟨v,H,I,r,h⟩ hd
theorem ko {x:Str}{v:V}{u:Value}{pos:Pos} (hg:Gl X x) (hm:X.mg x=none) (hv:bootBuiltins x=some u) (r:aB v u) (hn:x≠"__name__":=by decide) (hd:(x==("__debug__" : Str))=false:=by decide):PE X (.Name x pos) (tC v):=
 λ_ _ _ H _ I h=>iW I hg hm hv ⟨v,H,I,r,h⟩ hn hd
variable {a b:Expr}{ta tb:TE}{pos:Pos}
noncomputable def tB (t:TE):TT:=λσ H Q=>t σ H λx H1=>∃ c,x=.bl c/\Q c H1
theorem jN {e:Expr}{t:TE} (h:PE X e t) (he:∀ whole,isTrue e X.env whole=(do let v <-whole;standAt e.pos;holding [v] (truthy v)):=by intro _;rfl):PT X e (tB t):=by
 intro pins s σ H Q I hw
 refine isTrue_plain (thn (h pins s σ H _ I hw) λv s1 ⟨x,H1,I1,r1,q1⟩=>?_) (he _)
 obtain⟨d,rfl,q⟩:=q1
 cases r1
 exact wpAny_truthy_bool ⟨H1,I1,q⟩
variable {tA tB':TT}{rest:List Expr}
noncomputable def tOr (t u:TT):TT:=λσ H Q=>t σ H λc H1=>if c=true then Q true H1 else u σ H1 Q
noncomputable def tw (t:TT):TT:=λσ H Q=>t σ H λc H1=>Q (!c) H1
theorem lW (ha:PT X a tA):PW X (.BoolOp .Or [a] pos) tA:=by
 intro wh pins s σ H Q I h
 refine isTrue_or (thn (ha pins s σ H Q I h) λc s1 e=>?_)
 cases c with
 | false=>exact isTrue_or_nil e
 | true=>exact e
theorem kL (ha:PT X a tA) (hb:PW X (.BoolOp .Or (b::rest) pos) tB'):PW X (.BoolOp .Or (a::b::rest) pos) (tOr tA tB'):=by
 intro wh pins s σ H Q I h
 refine isTrue_or (thn (ha pins s σ H _ I h) λc s1 ⟨H1,I1,q1⟩=>?_)
 cases c with
 | true=>exact⟨H1,I1,q1⟩
 | false=>exact hb wh pins s1 σ H1 Q I1 q1
theorem jZ (ha:PT X a tA):PT X (.UnaryOp .Not a pos) (tw tA):=by
 intro pins s σ H Q I h
 exact isTrue_not (ha pins s σ H (λc H1=>Q (!c) H1) I h)
noncomputable def qH (ta tb:TE):TE:=λσ H Q=>ta σ H λx H1=>∃ c,x=.bl c/\if c=true then tb σ H1 Q else Q (.bl false) H1
noncomputable def tH (ta tb:TE):TE:=λσ H Q=>ta σ H λx H1=>∃ c,x=.bl c/\if c=true then Q (.bl true) H1 else tb σ H1 Q
noncomputable def qS (ta:TE):TE:=λσ H Q=>ta σ H λx H1=>∃ c,x=.bl c/\Q (.bl (!c)) H1
theorem ph {op}{t:TE} (h:PE X a t):PE X (.BoolOp op [a] pos) t:=λpins s σ H Q I hw=>BoolOp_one (h pins s σ H Q I hw)
theorem mk (ha:PE X a ta) (hb:PE X (.BoolOp .And (b::rest) pos) tb):PE X (.BoolOp .And (a::b::rest) pos) (qH ta tb):=by
 intro pins s σ H Q I h
 refine BoolOp_and (thn (ha pins s σ H _ I h) λv s1 ⟨x,H1,I1,r1,q1⟩=>?_)
 obtain⟨c,rfl,q1⟩:=q1
 cases r1
 refine wpAny_truthy_bool ?_
 cases c with
 | true=>exact hb pins s1 σ H1 Q I1 q1
 | false=>exact⟨.bl false,H1,I1,rfl,q1⟩
theorem oW (ha:PE X a ta) (hb:PE X (.BoolOp .Or (b::rest) pos) tb):PE X (.BoolOp .Or (a::b::rest) pos) (tH ta tb):=by
 intro pins s σ H Q I h
 refine BoolOp_or (thn (ha pins s σ H _ I h) λv s1 ⟨x,H1,I1,r1,q1⟩=>?_)
 obtain⟨c,rfl,q1⟩:=q1
 cases r1
 refine wpAny_truthy_bool ?_
 cases c with
 | false=>exact hb pins s1 σ H1 Q I1 q1
 | true=>exact⟨.bl true,H1,I1,rfl,q1⟩
theorem pb (ha:PE X a ta):PE X (.UnaryOp .Not a pos) (qS ta):=by
 intro pins s σ H Q I h
 refine UnaryOp_ (thn (ha pins s σ H _ I h) λv s1 ⟨x,H1,I1,r1,q1⟩=>?_)
 obtain⟨c,rfl,q1⟩:=q1
 cases r1
 exact not_of (wpAny_truthy_bool ⟨.bl (!c),H1,I1,rfl,q1⟩)
end
end L2
namespace L2
open PySem PySem.Spec PyProof.Rows
noncomputable def SqL (K:PySem.W.Frag) (H:Hp) (a:Addr) (xs:List V):Prop:=
 Rd H a (.lst xs)\/
  ∃ (o:Obj) (its:Array Value) (n:Nat),K.lookup a=some o/\o.cls=.type "list"/\o.dict=none/\o.data=.seq its n/\its.size<=sizeLine/\aD xs its.toList
noncomputable def SqT (K:PySem.W.Frag) (H:Hp) (a:Addr) (xs:List V):Prop:=
 H a=some (.tup xs)\/
  ∃ (o:Obj) (its:Array Value) (n:Nat),K.lookup a=some o/\o.cls=.type "tuple"/\o.data=.seq its n/\its.size<=sizeLine/\aD xs its.toList/\o.dict=none
noncomputable def mK:Value->Option V
 | .none=>some .non
 | .bool b=>some (.bl b)
 | .int i _=>some (.int i)
 | .str x _=>some (.str x)
 | .bytes b _=>some (.byt b)
 | .float b _=>some (.flt b)
 | .ref a=>some (.ref a)
 | .type n=>some (.ty n)
 | _=>none
theorem aB.abs {x:V}{u:Value} (r:aB x u):mK u=some x:=by
 cases x with
 | non=>cases r;rfl
 | bl _=>cases r;rfl
 | int _=>obtain⟨t,rfl⟩:=r;rfl
 | str _=>obtain⟨t,rfl⟩:=r;rfl
 | byt _=>obtain⟨t,rfl⟩:=r;rfl
 | flt _=>obtain⟨t,rfl⟩:=r;rfl
 | ref _=>cases r;rfl
 | ty _=>cases r;rfl
theorem aB.inj {x y:V}{u:Value} (r:aB x u) (q:aB y u):x=y:=Option.some.inj (r.abs.symm.trans q.abs)
theorem aD.inj:∀ {xs ys:List V}{us:List Value},aD xs us->aD ys us->xs=ys
 | _,_,_,.nil,.nil=>rfl
 | _,_,_,.cons r t,.cons r' t'=>by rw [r.inj r',aD.inj t t']
section
variable {X:Cx}{pins:List (Addr×Obj)}{σ:St}{H:Hp}{s:Shared}{a:Addr}{xs ys:List V}
theorem SqL.of {K:PySem.W.Frag} (h:H a=some (.lst xs)):SqL K H a xs:=.inl (.inl h)
theorem SqT.of {K:PySem.W.Frag} (h:H a=some (.tup xs)):SqT K H a xs:=.inl h
theorem Inv.list (I:Inv X pins σ H s) (h:SqL X.K H a xs):∃ its:List Value,aD xs its/\PlainL s.heap a its.toArray/\xs.length<=sizeLine:=by
 rcases h with h | ⟨o,its,n,hk,hc,hd,hs,hz,r⟩
 ·obtain⟨z,its,n,r,e⟩:=h.ok I.hok
  exact⟨its,r,⟨_,n,e,rfl,rfl,rfl⟩,z⟩
 ·refine⟨its.toList,r,⟨o,n,I.kIn a o hk,hc,hd,by simpa using hs⟩,?_⟩
  have e:=r.length
  simp only [Array.length_toList] at e
  lia
theorem Inv.tuple (I:Inv X pins σ H s) (h:SqT X.K H a xs):∃ its:List Value,aD xs its/\IsTup s.heap a its.toArray/\xs.length<=sizeLine:=by
 rcases h with h | ⟨o,its,n,hk,hc,hs,hz,r,_⟩
 ·obtain⟨z,its,r,p⟩:=(Rd.of h).ok I.hok
  exact⟨its,r,p.tup,z⟩
 ·refine⟨its.toList,r,⟨o,I.kIn a o hk,hc,n,by simpa using hs⟩,?_⟩
  have e:=r.length
  simp only [Array.length_toList] at e
  lia
theorem Inv.tuple1 (I:Inv X pins σ H s) (h:SqT X.K H a xs):∃ o:Obj,s.heap.get? a=some o/\o.cls=.type "tuple"/\o.dict=none:=by
 rcases h with h | ⟨o,its,n,hk,hc,hs,hz,r,hd⟩
 ·obtain⟨z,its,r,o,e,c,_,hd⟩:=(Rd.of h).ok I.hok
  exact⟨o,e,c,hd⟩
 ·exact⟨o,I.kIn a o hk,hc,hd⟩
theorem Inv.list_inj (I:Inv X pins σ H s) (h:SqL X.K H a xs) (h':SqL X.K H a ys):xs=ys:=by
 obtain⟨its,r,⟨o,n,e,_,_,d⟩,_⟩:=I.list h
 obtain⟨its',r',⟨o',n',e',_,_,d'⟩,_⟩:=I.list h'
 rw [e] at e';cases e'
 rw [d] at d'
 injection d' with d1 _
 have:its=its':=by simpa using congrArg Array.toList d1
 subst this
 exact r.inj r'
theorem Inv.tuple_inj (I:Inv X pins σ H s) (h:SqT X.K H a xs) (h':SqT X.K H a ys):xs=ys:=by
 obtain⟨its,r,⟨o,e,_,n,d⟩,_⟩:=I.tuple h
 obtain⟨its',r',⟨o',e',_,n',d'⟩,_⟩:=I.tuple h'
 rw [e] at e';cases e'
 rw [d] at d'
 injection d' with d1 _
 have:its=its':=by simpa using congrArg Array.toList d1
 subst this
 exact r.inj r'
end
abbrev Cx.wish (X:Cx) (E:Value->Shared->Prop):Cx:={ X with xe:=E }
abbrev Cx.nox (X:Cx):Cx:=X.wish λ_ _=>False
theorem Cx.Ok.wish {X:Cx} (ok:X.Ok) (E:Value->Shared->Prop):(X.wish E).Ok:=
 ⟨ok.mod,ok.kind,ok.glob,ok.blt,ok.above,ok.inj,ok.has,ok.cab,ok.hd,ok.frames,ok.stk,ok.exf,ok.bs,ok.bsz,ok.noex,ok.exfs,ok.funs,ok.frf⟩
theorem Cx.Ok.unwish {X:Cx}{E:Value->Shared->Prop} (ok:(X.wish E).Ok):X.Ok:=
 ⟨ok.mod,ok.kind,ok.glob,ok.blt,ok.above,ok.inj,ok.has,ok.cab,ok.hd,ok.frames,ok.stk,ok.exf,ok.bs,ok.bsz,ok.noex,ok.exfs,ok.funs,ok.frf⟩
section
variable {X:Cx}{pins:List (Addr×Obj)}{σ:St}{H:Hp}{s:Shared}{E:Value->Shared->Prop}
theorem Inv.wish (I:Inv X pins σ H s) (E:Value->Shared->Prop):Inv (X.wish E) pins σ H s:=⟨I.ok.wish E,I.os,I.bare,I.base,I.loc,I.cell,I.free,I.freeC,I.pin,I.hok,I.len⟩
theorem Inv.unwish (I:Inv (X.wish E) pins σ H s):Inv X pins σ H s:=⟨I.ok.unwish,I.os,I.bare,I.base,I.loc,I.cell,I.free,I.freeC,I.pin,I.hok,I.len⟩
theorem SP.unwish {D:jR}{f:Flow}{s':Shared} (h:SP (X.wish E) pins D f s'):SP X pins D f s':=by
 cases f with
 | next=>obtain⟨σ',H',I,q⟩:=h;exact⟨σ',H',I.unwish,q⟩
 | brk=>obtain⟨σ',H',I,q⟩:=h;exact⟨σ',H',I.unwish,q⟩
 | cont=>obtain⟨σ',H',I,q⟩:=h;exact⟨σ',H',I.unwish,q⟩
 | ret u=>obtain⟨v,σ',H',I,r,q⟩:=h;exact⟨v,σ',H',I.unwish,r,q⟩
theorem PE.nox {e:Expr}{t:TE} (h:PE X.nox e t):PE X e t:=λpins s σ H Q I hw=>
 wpAny_mono (h pins s σ H Q (I.wish _) hw) (λ_ _ ⟨v,H',I',r,q⟩=>⟨v,H',I'.unwish,r,q⟩) λ_ _ z=>False.elim z
theorem PT.nox {e:Expr}{t:TT} (h:PT X.nox e t):PT X e t:=λpins s σ H Q I hw=>
 wpAny_mono (h pins s σ H Q (I.wish _) hw) (λ_ _ ⟨H',I',q⟩=>⟨H',I'.unwish,q⟩) λ_ _ z=>False.elim z
theorem PSs.nox {st:List Stmt}{t:TS} (h:PSs X.nox st t):PSs X st t:=λpins s σ H D I hw=>
 wpAny_mono (h pins s σ H D (I.wish _) hw) (λ_ _ q=>q.unwish) λ_ _ z=>False.elim z
end
section
variable {X:Cx}{st:Stmt}{rest:List Stmt}{t u:TS}{e:Expr}{te:TE}{pos:Pos}
noncomputable def qI:TS:=λD σ H=>D.nx σ H
noncomputable def sL (t u:TS):TS:=λD σ H=>t { D with nx:=u D } σ H
theorem kE:PSs X [] qI:=λ_ _ σ H _ I h=>wpAny_execs_nil ⟨σ,H,I,h⟩
theorem cW (h1:PS X st t) (h2:PSs X rest u):PSs X (st::rest) (sL t u):=by
 intro pins s σ H D I h
 refine wpAny_execs_cons (thn (h1 pins s σ H { D with nx:=u D } I h) λf s1 q=>?_)
 cases f with
 | next=>
  obtain⟨σ',H',I',q⟩:=q
  exact h2 pins s1 σ' H' D I' q
 | ret v=>exact q
 | brk=>exact q
 | cont=>exact q
theorem fZ (h1:PS X st t):PSs X [st] t:=by
 intro pins s σ H D I h
 refine wpAny_execs_cons (thn (h1 pins s σ H D I h) λf s1 q=>?_)
 cases f with
 | next=>exact wpAny_execs_nil q
 | ret v=>exact q
 | brk=>exact q
 | cont=>exact q
theorem Inv.quiet {pins:List (Addr×Obj)}{σ:St}{H:Hp}{s:Shared} (I:Inv X pins σ H s):interactive X.env=false:=by simp [interactive,I.ok.kind]
noncomputable def qQ (te:TE):TS:=λD σ H=>te σ H λ_ H1=>D.nx σ H1
theorem nW (he:PE X e te) (hs:swapsWith e none pos.line X.env=pure false:=by rfl):PS X (.Expr e pos) (qQ te):=by
 intro pins s σ H D I h
 exact wpAny_Expr_any (thn (he pins s σ H _ I h) λv s1 ⟨x,H1,I1,r1,q1⟩=>⟨σ,H1,I1,q1⟩) I.quiet hs
noncomputable def tF (te:TE):TS:=λD σ H=>te σ H D.rt
theorem iX (he:PE X e te):PS X (.Return (some e) pos) (tF te):=by
 intro pins s σ H D I h
 exact wpAny_Return_some (thn (he pins s σ H _ I h) λv s1 ⟨x,H1,I1,r1,q1⟩=>⟨x,σ,H1,I1,r1,q1⟩)
noncomputable def tm (c:TT) (t u:TS):TS:=λD σ H=>c σ H λb H1=>if b=true then t D σ H1 else u D σ H1
theorem i8 {c:Expr}{a b:List Stmt}{tc:TT} (hc:PT X c tc) (ha:PSs X a t) (hb:PSs X b u):PS X (.If c a b pos) (tm tc t u):=by
 intro pins s σ H D I h
 refine wpAny_If (thn (hc pins s σ H _ I h) λd s1 ⟨H1,I1,q1⟩=>?_)
 cases d with
 | true=>exact ha pins s1 σ H1 D I1 q1
 | false=>exact hb pins s1 σ H1 D I1 q1
noncomputable def o6:TS:=λ_ _ _=>False
theorem bY {sts:List Stmt}:PSs X sts o6:=λ_ _ _ _ _ _ h=>h.elim
end
abbrev TG:=V->St->Hp->(St->Hp->Prop)->Prop
noncomputable def PG (X:Cx) (target:Expr) (t:TG):Prop:=
 ∀ (pins:List (Addr×Obj)) (s:Shared) (σ:St) (H:Hp) (v:V) (u:Value) (Q:St->Hp->Prop),Inv X pins σ H s->aB v u->t v σ H Q->
  wpAny (model X.prog X.w) X.A (assign target X.env u) (λ_ s'=>∃ σ' H',Inv X pins σ' H' s'/\Q σ' H') X.xe s
abbrev pR:=V->V->V->Hp->(Hp->Prop)->Prop
noncomputable def rj (X:Cx) (t:pR):Prop:=
 ∀ (pins:List (Addr×Obj)) (s:Shared) (σ:St) (H:Hp) (o i v:V) (ov iv u:Value) (Q:Hp->Prop),Inv X pins σ H s->aB o ov->aB i iv->aB v u->t o i v H Q->
  wpAny (model X.prog X.w) X.A (setItem ov iv u) (λ_ s'=>∃ H',Inv X pins σ H' s'/\Q H') X.xe s
section
variable {X:Cx}{pos:Pos}
noncomputable def lP (i:Nat):TG:=λv σ H Q=>Q (σ.set i (some v)) H
theorem ci {i:Nat}{x:Str} (hN:X.N.Nodup) (hi:X.N[i]?=some x) (hx:Loc X.env.scope x) (hf:X.fn x=true\/X.env.scope.names.lookup x=some .local:=by first | exact .inl rfl | exact .inr rfl | assumption):PG X (.Name x pos) (lP i):=by
 intro pins s σ H v u Q I r h
 exact wpAny_assign_Name (dN I hN hi hx r (λs' I'=>⟨_,H,I',h⟩) hf)
noncomputable def sW (to ti:TE) (t:pR):TG:=λv σ H Q=>to σ H λo H1=>ti σ H1 λi H2=>t o i v H2 λH3=>Q σ H3
theorem qF {o i:Expr}{to ti:TE}{t:pR} (ho:PE X o to) (hi:PE X i ti) (hs:rj X t)
  (ha:∀ v,assign (.Subscript o i pos) X.env v=(do
    let ov <-holding [v] (eval o X.env)
    let iv <-holding [v,ov] (eval i X.env)
    standAt pos
    holding [v,ov,iv] (setItem ov iv v)
    release [v,ov,iv] []):=by intro _;rfl):PG X (.Subscript o i pos) (sW to ti t):=by
 intro pins s σ H v u Q I r h
 rw [ha]
 refine wpAny_bind (wpAny_holding (thn (ho pins s σ H _ I h) λov s1 ⟨x,H1,I1,r1,q1⟩=>?_))
 refine wpAny_bind (wpAny_holding (thn (hi pins s1 σ H1 _ I1 q1) λiv s2 ⟨y,H2,I2,r2,q2⟩=>?_))
 refine wpAny_bind (wpAny_standAt (wpAny_bind (wpAny_holding (thn (hs pins s2 σ H2 x y v ov iv u _ I2 r1 r2 r q2) λ_ s3 ⟨H3,I3,q3⟩=>?_))))
 exact wpAny_release ⟨σ,H3,I3,q3⟩
noncomputable def qX (te:TE) (g:TG):TS:=λD σ H=>te σ H λx H1=>g x σ H1 D.nx
theorem qk {tg e:Expr}{te:TE}{g:TG} (he:PE X e te) (hg:PG X tg g) (hs:swapsWithSole [tg] e pos.line X.env=pure false:=by rfl) (hw:swappedStores [tg] e X.env=pure none:=by rfl)
  (h1:(assignEach [tg] X.env).map (·.2)=[assign tg X.env]:=by rfl):PS X (.Assign [tg] e pos) (qX te g):=by
 intro pins s σ H D I h
 refine wpAny_Assign_stores (thn (he pins s σ H _ I h) λv s1 ⟨x,H1,I1,r1,q1⟩=>?_) hs hw
 rw [h1]
 exact thn (hg pins s1 σ H1 x v _ I1 r1 q1) λ_ s2 q=>q
theorem mq {i:Nat}{x:Str}{e:Expr}{te:TE}{pos':Pos} (hN:X.N.Nodup) (hi:X.N[i]?=some x) (hx:Loc X.env.scope x) (he:PE X e te) (hs:swapsWith e (some (.Name x pos')) pos.line X.env=pure false:=by rfl) (hf:X.fn x=true\/X.env.scope.names.lookup x=some .local:=by first | exact .inl rfl | exact .inr rfl | assumption) :
  PS X (.Assign [.Name x pos'] e pos) (qX te (lP i)):=by
 intro pins s σ H D I h
 refine wpAny_Assign_Name (thn (he pins s σ H _ I h) λv s1 ⟨y,H1,I1,r1,q1⟩=>?_) hs
 exact dN I1 hN hi hx r1 (λs2 I2=>⟨_,H1,I2,q1⟩) hf
noncomputable def rP (i j:Nat) (ta:TA):TS:=λD σ H=>ta σ H λvs H1=>∃ v w,vs=[v,w]/\D.nx ((σ.set i (some v)).set j (some w)) H1
theorem oX {i j:Nat}{x y:Str}{a b:Expr}{ta:TA}{px py pt:Pos}{kt k2 pt2} (hc:X.calm=true) (hN:X.N.Nodup) (hi:X.N[i]?=some x) (hj:X.N[j]?=some y) (hij:i≠j)
  (hx:X.env.scope.names.lookup x=some .local) (hy:X.env.scope.names.lookup y=some .local) (ha:PA X [a,b] ta)
  (hw:swappedStores [.Tuple [.Name x px,.Name y py] kt pt] (.Tuple [a,b] k2 pt2) X.env=pure (some [x,y]))
  (hs:swapsWithSole [.Tuple [.Name x px,.Name y py] kt pt] (.Tuple [a,b] k2 pt2) pos.line X.env=pure false:=by rfl) :
  PS X (.Assign [.Tuple [.Name x px,.Name y py] kt pt] (.Tuple [a,b] k2 pt2) pos) (rP i j ta):=by
 intro pins s σ H D I h
 rw [exec_Assign_arm]
 refine wpAny_bind (wpAny_standAt ?_)
 rw [hs]
 refine wpAny_bind (wpAny_pure ?_)
 rw [if_neg (by decide)]
 refine wpAny_bind (Tuple_ (thn (ha _ pins s σ H _ I h) λus s1 ⟨vs,H1,I1,r1,q1⟩=>?_))
 obtain⟨v,w,e1,q1⟩:=q1
 subst e1
 obtain⟨u1,u2,rfl,rv,rw'⟩:∃ u1 u2,us=[u1,u2]/\aB v u1/\aB w u2:=by
  cases r1 with
  | cons p q=>
   cases q with
   | cons p' q'=>
    cases q'
    exact⟨_,_,rfl,p,p'⟩
 refine wpAny_newObj_type ?_ (by show 2<=sizeLine;decide)
 have I2:Inv X pins σ H1 { s1 with heap:=s1.heap.push { cls:=.type "tuple",data:=.seq [u1,u2].toArray } }:=I1.kept (t':=s1.toks) λb o e=>Heap.get?_push_of_some _ e
 rw [hw]
 refine wpAny_bind (wpAny_pure ?_)
 show wpAny (model X.prog X.w) X.A (do rule "assign.swapped-stores";let items <-unpackItems (.ref s1.heap.objs.size) 2 none;assignInOrder [λv=>bindName X.env y v,λv=>bindName X.env x v] items.reverse;pure Flow.next) _ _ _
 refine wpAny_bind (wpAny_rule (wpAny_bind (unpackItems_tuple (items:=#[u1,u2]) (I.ok.hd hc) (IsTup.new s1.heap _) λh' hx'=>?_)))
 have I3:=I2.kept (h':=h') (t':=s1.toks) λb o e=>hx' b o (Nat.ne_of_lt (Heap.lt_size e)) e
 show wpAny _ _ (assignInOrder [λv=>bindName X.env y v,λv=>bindName X.env x v] [u2,u1] >>= λ_=>pure Flow.next) _ _ _
 refine wpAny_bind (assignInOrder_cons (wpAny_bindName (dN I3 hN hj (.inl hy) rw' (λs2 I4=>?_) (.inr hy))))
 refine assignInOrder_cons (wpAny_bindName (dN I4 hN hi (.inl hx) rv (λs3 I5=>assignInOrder_nil (wpAny_pure ?_)) (.inr hx)))
 rw [List.set_comm _ _ (Ne.symm hij)] at I5
 exact⟨_,H1,I5,q1⟩
end
section
variable {X:Cx}{pos:Pos}
end
structure It where
 go:Nat->Hp->Prop
 yld:Nat->Hp->V->Hp->Prop
 stop:Nat->Hp->Prop
noncomputable def im (X:Cx) (pins:List (Addr×Obj)) (H:Hp) (b:Addr):Prop:=
 H b=none/\b≠X.env.locals/\b ∉ X.fs/\(b ∈ X.ex\/X.s₀.heap.objs.size<=b)/\(∀ x c,X.env.cells.lookup x=some c->c≠b)/\∀ p ∈ X.pn++pins,p.1≠b
theorem Inv.fpOk {X:Cx}{pins:List (Addr×Obj)}{σ:St}{H H':Hp}{s:Shared}{b:Addr} (I:Inv X pins σ H s) (hb:s.heap.objs.size<=b) (hn:H' b=none):im X pins H' b:=by
 refine⟨hn,Nat.ne_of_gt (Nat.lt_of_lt_of_le I.lt hb),I.nofs hb,.inr (Nat.le_trans I.sz hb),λx c e z=>?_,λp hp z=>?_⟩
 ·obtain⟨v,q⟩:=I.cell x c e
  exact absurd (Nat.lt_of_lt_of_le q.lt (by rw [z];exact hb)) (Nat.lt_irrefl _)
 ·exact absurd (Nat.lt_of_lt_of_le (Heap.lt_size (I.pin p hp).1) (by rw [z];exact hb)) (Nat.lt_irrefl _)
structure mL (P:Program) (w:World) (K:PySem.W.Frag) (tg:Expr) (J:It) (fp:List Addr) (it:Addr) (tn:Nat->Heap->Prop):Prop where
 mem:it ∈ fp
 obj:∀ i h,tn i h->∀ b ∈ fp,∃ o,h.get? b=some o/\∀ v,o.data≠.cell v
 keep:∀ i h h',tn i h->(∀ b ∈ fp,∀ o,h.get? b=some o->h'.get? b=some o)->tn i h'
 item:∀ (X:Cx),X.prog=P->X.w=w->X.K=K->X.calm=true->∀ (i:Nat) (pins:List (Addr×Obj)) (s:Shared) (σ:St) (H:Hp) (E:Value->Shared->Prop),Inv X pins σ H s->(∀ b ∈ fp,im X pins H b)->tn i s.heap->J.go i H->
  wpAny (model P w) X.A (pyNext (.ref it)) (λr s1=>∃ u,r=some u/\
   wpAny (model P w) X.A (letOwnedTupleGo tg (.ref it) u) (λ_ s2=>∃ x H',Inv X pins σ H' s2/\aB x u/\J.yld i H x H'/\tn (i+1) s2.heap/\∀ b ∈ fp,H' b=none) E s1) E s
 done:∀ (X:Cx),X.prog=P->X.w=w->X.K=K->X.calm=true->∀ (i:Nat) (pins:List (Addr×Obj)) (s:Shared) (σ:St) (H:Hp) (E:Value->Shared->Prop),Inv X pins σ H s->(∀ b ∈ fp,im X pins H b)->tn i s.heap->J.stop i H->
  wpAny (model P w) X.A (pyNext (.ref it)) (λr s1=>r=none/\Inv X pins σ H s1) E s
 self:∀ (A:Around) (i:Nat) (s:Shared) (Q:Value->Shared->Prop) (E:Value->Shared->Prop),tn i s.heap->Q (.ref it) s->wpAny (model P w) A (pyIter (.ref it)) Q E s
abbrev TI:=St->Hp->(It->Hp->Prop)->Prop
noncomputable def PIE (X:Cx) (pins:List (Addr×Obj)) (σ:St) (tg:Expr) (R:It->Hp->Prop) (itv:Value) (s2:Shared):Prop:=
 ∃ (it:Addr) (fp:List Addr) (tn:Nat->Heap->Prop) (J:It) (H':Hp),itv=.ref it/\Inv X pins σ H' s2/\mL X.prog X.w X.K tg J fp it tn/\tn 0 s2.heap/\(∀ b ∈ fp,im X pins H' b)/\R J H'
noncomputable def PI (X:Cx) (tg iter:Expr) (wi:TI):Prop:=
 ∀ (pins:List (Addr×Obj)) (s:Shared) (σ:St) (H:Hp) (R:It->Hp->Prop),Inv X pins σ H s->wi σ H R->
  wpAny (model X.prog X.w) X.A (eval iter X.env) (λv s1=>wpAny (model X.prog X.w) X.A (pyIter v) (PIE X pins σ tg R) X.xe s1) X.xe s
theorem kR {M:Model}{A:Around}{E:Value->Shared->Prop}{s:Shared}{tg:Expr}{it:Addr}{u:Value}{o:Obj}{n:String}{vs:Array Value}{Q:Unit->Shared->Prop} (ho:s.heap.get? it=some o) (hc:o.cls=.type n) (hd:o.data=.fields vs)
  (hn:["enumerate","zip","dict_itemiterator","dict_reverseitemiterator","odict_iterator","itertools.zip_longest","itertools.pairwise"].contains n=false) (hQ:Q () s):wpAny M A (letOwnedTupleGo tg (.ref it) u) Q E s:=by
 unfold letOwnedTupleGo
 cases tg<;>first
  | exact wpAny_pure hQ
  | (cases u<;>first
      | exact wpAny_pure hQ
      | (refine wpAny_bind (wpAny_load ho ?_)
         rw [hc,hd]
         show wpAny M A (if (["enumerate","zip","dict_itemiterator","dict_reverseitemiterator","odict_iterator","itertools.zip_longest","itertools.pairwise"].contains n && vs[0]?==some (rawInt _))=true then _ else _) Q E s
         rw [if_neg (by intro h;rw [hn,Bool.false_and] at h;cases h)]
         exact wpAny_pure hQ))
noncomputable def Itl (K:PySem.W.Frag) (a:Addr):It:=
 ⟨λi H=>∃ xs x,SqL K H a xs/\xs[i]?=some x,λi H x H'=>H'=H/\∀ xs,SqL K H a xs->xs[i]?=some x,λi H=>∃ xs,SqL K H a xs/\xs.length<=i⟩
noncomputable def Itt (K:PySem.W.Frag) (a:Addr):It:=
 ⟨λi H=>∃ xs x,SqT K H a xs/\xs[i]?=some x,λi H x H'=>H'=H/\∀ xs,SqT K H a xs->xs[i]?=some x,λi H=>∃ xs,SqT K H a xs/\xs.length<=i⟩
noncomputable def Itr (lo:Int) (n:Nat):It:=⟨λi _=>i < n,λi H x H'=>H'=H/\x=.int (lo+i),λi _=>n<=i⟩
theorem kY {P:Program}{w:World}{K:PySem.W.Frag}{tg:Expr} (a it:Addr):mL P w K tg (Itl K a) [it] it (λi h=>h.IsListIter it a i) where
 mem:=by simp
 obj:=λi h st b hb=>by
  have e:b=it:=by simpa using hb
  subst e
  obtain⟨o,e,c,d⟩:=st
  exact⟨o,e,λv z=>by rw [d] at z;cases z⟩
 keep:=λi h h' st k=>st.at λo e=>k it (by simp) o e
 item:=by
  intro X hP hw hK hc i pins s σ H E I hf st hg
  subst hP hw hK
  obtain⟨xs,x,hq,hx⟩:=hg
  obtain⟨its,rv,p,hz⟩:=I.list hq
  obtain⟨u,hu,ru⟩:=rv.get hx
  obtain⟨f0,f1,f2,f3,f4,f5⟩:=hf it (by simp)
  refine wpAny_pyNext_list_item st p.isList (x:=u) (by simpa using hu) λh' st' sb=>?_
  have I1:Inv X pins σ H { s with heap:=h' }:=I.turned (t':=s.toks) (λb o hb e=>(sb.2 b hb).trans e) f0 f1 f3 f4 f5
  obtain⟨o,e,c,d⟩:=id st'
  exact⟨u,rfl,kR (s:={ s with heap:=h' }) e c d (by decide) ⟨x,H,I1,ru,⟨rfl,λys hy=>by rw [I.list_inj hy hq];exact hx⟩,st',λb hb=>(hf b hb).1⟩⟩
 done:=by
  intro X hP hw hK hc i pins s σ H E I hf st hg
  subst hP hw hK
  obtain⟨xs,hq,hx⟩:=hg
  obtain⟨its,rv,p,hz⟩:=I.list hq
  obtain⟨f0,f1,f2,f3,f4,f5⟩:=hf it (by simp)
  have hl:=rv.length
  exact wpAny_pyNext_list_end (I.ok.hd hc) st p.isList (by simp;lia) λh' eb=>⟨rfl,I.turned (t':=s.toks) (λb o hb e=>eb b o hb e) f0 f1 f3 f4 f5⟩
 self:=λ_ _ _ _ _ st h=>wpAny_pyIter_listiter st h
theorem jJ {P:Program}{w:World}{K:PySem.W.Frag}{tg:Expr} (a it:Addr):mL P w K tg (Itt K a) [it] it (λi h=>h.IsTupleIter it a i) where
 mem:=by simp
 obj:=λi h st b hb=>by
  have e:b=it:=by simpa using hb
  subst e
  obtain⟨o,e,c,d⟩:=st
  exact⟨o,e,λv z=>by rw [d] at z;cases z⟩
 keep:=λi h h' st k=>st.at λo e=>k it (by simp) o e
 item:=by
  intro X hP hw hK hc i pins s σ H E I hf st hg
  subst hP hw hK
  obtain⟨xs,x,hq,hx⟩:=hg
  obtain⟨its,rv,p,hz⟩:=I.tuple hq
  obtain⟨u,hu,ru⟩:=rv.get hx
  obtain⟨f0,f1,f2,f3,f4,f5⟩:=hf it (by simp)
  refine wpAny_pyNext_tuple_item st (show s.heap.IsTuple a its.toArray from p) (x:=u) (by simpa using hu) λh' st' sb=>?_
  have I1:Inv X pins σ H { s with heap:=h' }:=I.turned (t':=s.toks) (λb o hb e=>(sb.2 b hb).trans e) f0 f1 f3 f4 f5
  obtain⟨o,e,c,d⟩:=id st'
  exact⟨u,rfl,kR (s:={ s with heap:=h' }) e c d (by decide) ⟨x,H,I1,ru,⟨rfl,λys hy=>by rw [I.tuple_inj hy hq];exact hx⟩,st',λb hb=>(hf b hb).1⟩⟩
 done:=by
  intro X hP hw hK hc i pins s σ H E I hf st hg
  subst hP hw hK
  obtain⟨xs,hq,hx⟩:=hg
  obtain⟨its,rv,p,hz⟩:=I.tuple hq
  obtain⟨f0,f1,f2,f3,f4,f5⟩:=hf it (by simp)
  have hl:=rv.length
  exact wpAny_pyNext_tuple_end (I.ok.hd hc) st (show s.heap.IsTuple a its.toArray from p) (by simp;lia) λh' eb=>⟨rfl,I.turned (t':=s.toks) (λb o hb e=>eb b o hb e) f0 f1 f3 f4 f5⟩
 self:=λ_ _ _ _ _ st h=>wpAny_pyIter_tupleiter st h
theorem jX {P:Program}{w:World}{K:PySem.W.Frag}{tg:Expr} (it:Addr) (lo:Int) (n:Nat):mL P w K tg (Itr lo n) [it] it (λi h=>IsRangeIter h it (lo+(i:Nat)*1) ((n:Int) - (i:Nat)) 1) where
 mem:=by simp
 obj:=λi h st b hb=>by
  have e:b=it:=by simpa using hb
  subst e
  exact⟨_,st,λv z=>by
   have z':Data.fields _=Data.cell v:=z
   cases z'⟩
 keep:=λi h h' st k=>k it (by simp) _ st
 item:=by
  intro X hP hw hK hc i pins s σ H E I hf st hg
  subst hP hw hK
  obtain⟨f0,f1,f2,f3,f4,f5⟩:=hf it (by simp)
  have W:=Walks.range (prog:=X.prog) (w:=X.w) (I.ok.hd hc) it lo 1 n
  refine W.item i s _ _ hg st λv h' tk hv st' kk=>?_
  obtain⟨t,rfl⟩:=hv
  have I1:Inv X pins σ H { s with heap:=h',toks:=tk }:=I.turned (λb o hb e=>kk b o (by simpa using hb) e) f0 f1 f3 f4 f5
  refine⟨_,rfl,kR (s:={ s with heap:=h',toks:=tk }) (n:="range_iterator") st' rfl rfl (by decide) ⟨.int (lo+i),H,I1,⟨t,?_⟩,⟨rfl,rfl⟩,st',λb hb=>(hf b hb).1⟩⟩
  rw [Int.mul_one]
 done:=by
  intro X hP hw hK hc i pins s σ H E I hf st hg
  subst hP hw hK
  obtain⟨f0,f1,f2,f3,f4,f5⟩:=hf it (by simp)
  exact wpAny_pyNext_range_end (I.ok.hd hc) st (by have:n<=i:=hg;lia) λh' eb=>⟨rfl,I.turned (t':=s.toks) (λb o hb e=>eb b o hb e) f0 f1 f3 f4 f5⟩
 self:=λ_ _ _ _ _ st h=>wpAny_pyIter_rangeiter st h
end L2
namespace L2
open PySem PySem.Spec PyProof.Rows
section
variable {X:Cx}{tg:Expr}
noncomputable def rp (K:PySem.W.Frag) (tl:TE):TI:=λσ H R=>tl σ H λx H1=>∃ a,x=.ref a/\(∃ xs,SqL K H1 a xs)/\R (Itl K a) H1
noncomputable def tf (K:PySem.W.Frag) (tl:TE):TI:=λσ H R=>tl σ H λx H1=>∃ a,x=.ref a/\(∃ xs,SqT K H1 a xs)/\R (Itt K a) H1
theorem oD {l:Expr}{tl:TE} (hl:PE X l tl):PI X tg l (rp X.K tl):=by
 intro pins s σ H R I h
 refine thn (hl pins s σ H _ I h) λv s1 ⟨x,H1,I1,r1,q1⟩=>?_
 obtain⟨a,e,⟨xs,hq⟩,q⟩:=q1
 subst e
 cases r1
 obtain⟨its,rv,p,hz⟩:=I1.list hq
 refine wpAny_pyIter_list p.isList ?_
 refine⟨s1.heap.objs.size,[s1.heap.objs.size],_,_,H1,rfl,I1.kept (t':=s1.toks) λb o e=>Heap.get?_push_of_some _ e,kY a _,⟨_,Heap.get?_push_size _ rfl,rfl,rfl⟩,λb hb=>?_,q⟩
 have e:b=s1.heap.objs.size:=by simpa using hb
 subst e
 exact I1.fpOk (Nat.le_refl _) (I1.hok.fresh (Nat.le_refl _))
theorem o3 {l:Expr}{tl:TE} (hl:PE X l tl):PI X tg l (tf X.K tl):=by
 intro pins s σ H R I h
 refine thn (hl pins s σ H _ I h) λv s1 ⟨x,H1,I1,r1,q1⟩=>?_
 obtain⟨a,e,⟨xs,hq⟩,q⟩:=q1
 subst e
 cases r1
 obtain⟨its,rv,p,hz⟩:=I1.tuple hq
 refine wpAny_pyIter_tuple (show s1.heap.IsTuple a its.toArray from p) ?_
 refine⟨s1.heap.objs.size,[s1.heap.objs.size],_,_,H1,rfl,I1.kept (t':=s1.toks) λb o e=>Heap.get?_push_of_some _ e,jJ a _,⟨_,Heap.get?_push_size _ rfl,rfl,rfl⟩,λb hb=>?_,q⟩
 have e:b=s1.heap.objs.size:=by simpa using hb
 subst e
 exact I1.fpOk (Nat.le_refl _) (I1.hok.fresh (Nat.le_refl _))
theorem lU {pins:List (Addr×Obj)}{σ:St}{H:Hp}{s:Shared}{R:It->Hp->Prop}{E:Value->Shared->Prop}{lo hi:Int}{t u v:Tok}{tk:Nat} (I:Inv X pins σ H s) (h1:-(2 ^ 62)<=lo) (h2:lo < 2 ^ 62) (h3:-(2 ^ 62)<=hi) (h4:hi < 2 ^ 62)
  (q:R (Itr lo (hi - lo).toNat) H):wpAny (model X.prog X.w) X.A (pyIter (.ref s.heap.objs.size)) (PIE X pins σ tg R) E { s with heap:=s.heap.push { cls:=.type "range",data:=.fields #[.int lo t,.int hi u,.int 1 v] },toks:=tk }:=by
 refine wpAny_pyIter_range (IsRange.new ..) (small_one h1 h2 h3 h4) ?_
 have I1:Inv X pins σ H { s with heap:=s.heap.push { cls:=.type "range",data:=.fields #[.int lo t,.int hi u,.int 1 v] },toks:=tk }:=I.kept λb o e=>Heap.get?_push_of_some _ e
 refine⟨(s.heap.push { cls:=.type "range",data:=.fields #[.int lo t,.int hi u,.int 1 v] }).objs.size,[(s.heap.push { cls:=.type "range",data:=.fields #[.int lo t,.int hi u,.int 1 v] }).objs.size],_,_,H,rfl,
  I1.kept (t':=tk) λb o e=>Heap.get?_push_of_some _ e,jX _ lo (hi - lo).toNat,?_,λb hb=>?_,q⟩
 ·have e1:lo+((0:Nat):Int)*1=lo:=by simp
  have e2:(((hi - lo).toNat:Nat):Int) - ((0:Nat):Int)=Builtin.Range.rangeSize lo hi 1:=by rw [rangeSize_one];split<;>lia
  show IsRangeIter _ _ (lo+((0:Nat):Int)*1) ((((hi - lo).toNat:Nat):Int) - ((0:Nat):Int)) 1
  rw [e1,e2]
  exact Heap.get?_push_size _ rfl
 ·have e:b=(s.heap.push { cls:=.type "range",data:=.fields #[.int lo t,.int hi u,.int 1 v] }).objs.size:=by simpa using hb
  subst e
  exact I1.fpOk (Nat.le_refl _) (I1.hok.fresh (Nat.le_refl _))
noncomputable def rW (ta:TA):TI:=λσ H R=>ta σ H λvs H1=>∃ j:Int,vs=[.int j]/\-(2 ^ 62)<=j/\j < 2 ^ 62/\R (Itr 0 j.toNat) H1
theorem lu {a:Expr}{ta:TA}{p pos:Pos} (hg:Gl X "range") (hm:X.mg "range" = none) (ha:PA X [a] ta) (hs:starEach [a] X.env=[(false,eval a X.env)]:=by rfl):PI X tg (.Call (.Name "range" p) [a] [] pos) (rW ta):=by
 intro pins s σ H R I h
 refine Call_ (iW I hg hm boot_range (PyProof.Rows.callWith_type1 (thn (ha pos pins s σ H _ I h) λus s1 ⟨vs,H1,I1,r1,q1⟩=>?_) hs rfl))
 obtain⟨j,e,q1,q2,q⟩:=q1
 subst e
 cases r1 with
 | cons r rr=>
  cases rr
  obtain⟨t,rfl⟩:=r
  exact call_range_1 (lU I1 (by lia) (by lia) q1 q2 (by simpa using q))
noncomputable def tq (wi:TI) (g:TG) (tb:TS):TS:=λD σ H=>wi σ H λJ H1=>∃ W:Nat->Nat->St->Hp->Prop,(∃ m,W 0 m σ H1)/\∀ i m σ H,W i m σ H->
 (J.stop i H/\D.nx σ H)\/(J.go i H/\∃ N:St->Hp->Prop,(∀ σ' H',N σ' H'->∃ m',m' < m/\W (i+1) m' σ' H')/\∀ x H',J.yld i H x H'->g x σ H' λσ2 H2=>tb { D with nx:=N,ct:=N,bk:=D.nx } σ2 H2)
noncomputable def eu (fp:List Addr) (h:Heap):List (Addr×Obj):=fp.filterMap λb=>(h.get? b).map λo=>(b,o)
theorem cD {fp:List Addr}{h:Heap}{b:Addr}{o:Obj} (hb:b ∈ fp) (e:h.get? b=some o):(b,o) ∈ eu fp h:=List.mem_filterMap.mpr ⟨b,hb,by rw [e];rfl⟩
theorem lp {fp:List Addr}{h:Heap}{p:Addr×Obj} (hp:p ∈ eu fp h):p.1 ∈ fp/\h.get? p.1=some p.2:=by
 obtain⟨b,hb,e⟩:=List.mem_filterMap.mp hp
 cases q:h.get? b with
 | none=>rw [q] at e;cases e
 | some o=>
  rw [q] at e
  have e':(b,o)=p:=Option.some.inj e
  subst e'
  exact⟨hb,q⟩
theorem Inv.pinned {pins:List (Addr×Obj)}{σ:St}{H:Hp}{s:Shared}{fp:List Addr} (I:Inv X pins σ H s) (hf:∀ b ∈ fp,im X pins H b) (ho:∀ b ∈ fp,∃ o,s.heap.get? b=some o/\∀ v,o.data≠.cell v):Inv X (pins++eu fp s.heap) σ H s:=
 I.pins_of λp hp=>(List.mem_append.mp hp).elim (λz=>I.pin p (List.mem_append_right _ z)) λz=>by
  obtain⟨hb,e⟩:=lp z
  obtain⟨f0,f1,f2,_⟩:=hf p.1 hb
  obtain⟨o,e',d⟩:=ho p.1 hb
  rw [e] at e';cases e'
  exact⟨e,f0,f1,f2,d⟩
theorem Inv.unpinned {pins pl:List (Addr×Obj)}{σ:St}{H:Hp}{s:Shared} (I:Inv X (pins++pl) σ H s):Inv X pins σ H s:=I.pins_of λp hp=>I.pin p (List.mem_append_right _ (List.mem_append_left _ hp))
theorem pZ {iter:Expr}{body:List Stmt}{wi:TI}{g:TG}{tb:TS}{pos:Pos} (hp:PassesOwn (model X.prog X.w) X.A X.env X.xe) (hc:X.calm=true) (hi:PI X tg iter wi) (hg:PG X tg g) (hb:PSs X body tb)
  (hs:∀ x,foldedSetIterable iter X.env x=pure x:=by intro _;rfl):PS X (.For tg iter body [] pos) (tq wi g tb):=by
 intro pins s σ H D I h
 refine wpAny_For (thn (hi pins s σ H _ I h) λv s1 h1=>thn h1 λitv s2 h2=>?_) hs
 obtain⟨it,fp,tn,J,H2,e,I2,T,st2,f2,W,⟨m0,w0⟩,turn⟩:=h2
 subst e
 -- what stays true of the iterator's objects through the loop
 have stat:∀ {H':Hp},(∀ b ∈ fp,H' b=none)->∀ b ∈ fp,im X pins H' b:=λhn b hb=>⟨hn b hb,(f2 b hb).2⟩
 refine codeAny_forLoop_any (λn s'=>∃ i σ' H',Inv X pins σ' H' s'/\tn i s'.heap/\(∀ b ∈ fp,H' b=none)/\W i n σ' H') ?_ m0 ⟨0,σ,H2,I2,st2,λb hb=>(f2 b hb).1,w0⟩
 rintro n s3 ⟨i,σ3,H3,I3,st3,fr3,w3⟩
 rcases turn i n σ3 H3 w3 with⟨stop,qn⟩ | ⟨go,N,hN,step⟩
 ·refine wpAny_passesOwn hp (thn (T.done X rfl rfl rfl hc i pins s3 σ3 H3 X.xe I3 (stat fr3) st3 stop) λr s4 ⟨hr,I4⟩=>?_)
  subst hr
  exact wpAny_execs_nil ⟨σ3,H3,I4,qn⟩
 ·refine wpAny_passesOwn hp (thn (T.item X rfl rfl rfl hc i pins s3 σ3 H3 X.xe I3 (stat fr3) st3 go) λr s4 ⟨u,hr,h4⟩=>?_)
  subst hr
  refine wpAny_passesOwn hp (thn h4 λ_ s5 ⟨x,H5,I5,r5,y5,st5,fr5⟩=>?_)
  have I5':=I5.pinned (stat fr5) (T.obj _ _ st5)
  refine wpAny_passesOwn hp (thn (hg _ s5 σ3 H5 x u _ I5' r5 (step x H5 y5)) λ_ s6 ⟨σ6,H6,I6,q6⟩=>?_)
  refine wpAny_passesOwn hp (thn (hb _ s6 σ6 H6 _ I6 q6) λf s7 q7=>?_)
  have again:∀ {σ7:St}{H7:Hp},Inv X (pins++eu fp s5.heap) σ7 H7 s7->N σ7 H7->∃ m,m < n/\∃ i σ' H',Inv X pins σ' H' s7/\tn i s7.heap/\(∀ b ∈ fp,H' b=none)/\W i m σ' H':=λ{σ7 H7} I7 n7=>by
   obtain⟨m',hm,w7⟩:=hN σ7 H7 n7
   refine⟨m',hm,i+1,σ7,H7,I7.unpinned,T.keep _ _ _ st5 λb hb o e=>(I7.pin (b,o) (List.mem_append_right _ (List.mem_append_right _ (cD hb e)))).1,λb hb=>?_,w7⟩
   obtain⟨o,e,d⟩:=T.obj _ _ st5 b hb
   exact (I7.pin (b,o) (List.mem_append_right _ (List.mem_append_right _ (cD hb e)))).2.1
  cases f with
  | next=>obtain⟨σ7,H7,I7,n7⟩:=q7;exact again I7 n7
  | cont=>obtain⟨σ7,H7,I7,n7⟩:=q7;exact again I7 n7
  | brk=>obtain⟨σ7,H7,I7,q7⟩:=q7;exact⟨σ7,H7,I7.unpinned,q7⟩
  | ret v=>obtain⟨x7,σ7,H7,I7,r7,q7⟩:=q7;exact⟨x7,σ7,H7,I7.unpinned,r7,q7⟩
end
end L2
namespace L2
open PySem PySem.Spec PyProof.Rows
abbrev R2:=V->V->Hp->VK->Prop
noncomputable def OpR (X:Cx) (f:Value->Value->Sem Value) (r:R2):Prop:=
 ∀ (pins:List (Addr×Obj)) (s:Shared) (σ:St) (H:Hp) (x y:V) (v u:Value) (Q:VK),Inv X pins σ H s->aB x v->aB y u->r x y H Q->
  wpAny (model X.prog X.w) X.A (f v u) (EP X pins σ Q) X.xe s
noncomputable def UnR (X:Cx) (f:Value->Sem Value) (r:V->Hp->VK->Prop):Prop:=
 ∀ (pins:List (Addr×Obj)) (s:Shared) (σ:St) (H:Hp) (x:V) (v:Value) (Q:VK),Inv X pins σ H s->aB x v->r x H Q->
  wpAny (model X.prog X.w) X.A (f v) (EP X pins σ Q) X.xe s
noncomputable def cp (X:Cx) (f:Value) (r:List V->Hp->VK->Prop):Prop:=
 ∀ (pins:List (Addr×Obj)) (s:Shared) (σ:St) (H:Hp) (xs:List V) (us:List Value) (Q:VK),Inv X pins σ H s->aD xs us->r xs H Q->
  wpAny (model X.prog X.w) X.A (call f us) (EP X pins σ Q) X.xe s
noncomputable def sV (X:Cx) (r:V->Hp->(Bool->Hp->Prop)->Prop):Prop:=
 ∀ (pins:List (Addr×Obj)) (s:Shared) (σ:St) (H:Hp) (x:V) (v:Value) (Q:Bool->Hp->Prop),Inv X pins σ H s->aB x v->r x H Q->
  wpAny (model X.prog X.w) X.A (truthy v) (TP X pins σ Q) X.xe s
noncomputable def tOp (r:R2) (ta tb:TE):TE:=λσ H Q=>ta σ H λx H1=>tb σ H1 λy H2=>r x y H2 Q
noncomputable def tUn (r:V->Hp->VK->Prop) (ta:TE):TE:=λσ H Q=>ta σ H λx H1=>r x H1 Q
noncomputable def rI (C:Int->Int->Prop) (g:Int->Int->V):R2:=λx y H Q=>∃ i j,x=.int i/\y=.int j/\C i j/\Q (g i j) H
noncomputable def rI0 (g:Int->Int->V):R2:=λx y H Q=>∃ i j,x=.int i/\y=.int j/\Q (g i j) H
noncomputable def rU (g:Int->V):V->Hp->VK->Prop:=λx H Q=>∃ i,x=.int i/\Q (g i) H
section
variable {X:Cx}{a b c:Expr}{ta tb tc:TE}{pos:Pos}
theorem qr (ha:PE X a ta) (hb:PE X b tb) {pins:List (Addr×Obj)}{s:Shared}{σ:St}{H:Hp}{R:V->V->Hp->Prop} (I:Inv X pins σ H s)
  (h:ta σ H λx H1=>tb σ H1 λy H2=>R x y H2) {Q:Value->Shared->Prop}{f:Value->Value->Sem Value}
  (hf:∀ v u s2 x y H2,Inv X pins σ H2 s2->aB x v->aB y u->R x y H2->wpAny (model X.prog X.w) X.A (f v u) Q X.xe s2) :
  wpAny (model X.prog X.w) X.A (eval a X.env) (λv s₁=>wpAny (model X.prog X.w) X.A (eval b X.env) (λu s₂=>wpAny (model X.prog X.w) X.A (f v u) Q X.xe s₂) X.xe s₁) X.xe s:=by
 refine thn (ha pins s σ H _ I h) λv s1 ⟨x,H1,I1,r1,q1⟩=>?_
 refine thn (hb pins s1 σ H1 _ I1 q1) λu s2 ⟨y,H2,I2,r2,q2⟩=>?_
 exact hf v u s2 x y H2 I2 r1 r2 q2
theorem sx {op:Operator}{r:R2} (ho:OpR X (binaryOp op) r) (ha:PE X a ta) (hb:PE X b tb):PE X (.BinOp a op b pos) (tOp r ta tb):=by
 intro pins s σ H Q I h
 exact wpAny_BinOp (qr ha hb I h λv u s2 x y H2 I2 rx ry q=>ho pins s2 σ H2 x y v u Q I2 rx ry q)
theorem rC {op:UnaryOp}{r:V->Hp->VK->Prop} (ho:UnR X (unaryOp op) r) (ha:PE X a ta):PE X (.UnaryOp op a pos) (tUn r ta):=by
 intro pins s σ H Q I h
 exact UnaryOp_ (thn (ha pins s σ H _ I h) λv s1 ⟨x,H1,I1,r1,q1⟩=>ho pins s1 σ H1 x v Q I1 r1 q1)
theorem opI {f:Value->Value->Sem Value}{C:Int->Int->Prop}{g:Int->Int->Int}
  (rule:∀ (i j:Int) (t u:Tok) (s:Shared) (Q:Value->Shared->Prop) (E:Value->Shared->Prop),C i j->Q (.int (g i j) s.toks) { s with toks:=s.toks+1 }->wpAny (model X.prog X.w) X.A (f (.int i t) (.int j u)) Q E s) :
  OpR X f (rI C λi j=>.int (g i j)):=by
 intro pins s σ H x y v u Q I rx ry h
 obtain⟨i,j,rfl,rfl,hc,q⟩:=h
 obtain⟨t,rfl⟩:=rx
 obtain⟨t',rfl⟩:=ry
 exact rule i j t t' s _ _ hc ⟨.int (g i j),H,I.tok _,⟨_,rfl⟩,q⟩
theorem sK {f:Value->Value->Sem Value}{g:Int->Int->Int}
  (rule:∀ (i j:Int) (t u:Tok) (s:Shared) (Q:Value->Shared->Prop) (E:Value->Shared->Prop),Q (.int (g i j) s.toks) { s with toks:=s.toks+1 }->wpAny (model X.prog X.w) X.A (f (.int i t) (.int j u)) Q E s) :
  OpR X f (rI0 λi j=>.int (g i j)):=by
 intro pins s σ H x y v u Q I rx ry h
 obtain⟨i,j,rfl,rfl,q⟩:=h
 obtain⟨t,rfl⟩:=rx
 obtain⟨t',rfl⟩:=ry
 exact rule i j t t' s _ _ ⟨.int (g i j),H,I.tok _,⟨_,rfl⟩,q⟩
theorem oi {f:Value->Value->Sem Value}{g:Int->Int->Bool}
  (rule:∀ (i j:Int) (t u:Tok) (s:Shared) (Q:Value->Shared->Prop) (E:Value->Shared->Prop),Q (.bool (g i j)) s->wpAny (model X.prog X.w) X.A (f (.int i t) (.int j u)) Q E s) :
  OpR X f (rI0 λi j=>.bl (g i j)):=by
 intro pins s σ H x y v u Q I rx ry h
 obtain⟨i,j,rfl,rfl,q⟩:=h
 obtain⟨t,rfl⟩:=rx
 obtain⟨t',rfl⟩:=ry
 exact rule i j t t' s _ _ ⟨.bl (g i j),H,I,rfl,q⟩
noncomputable def sI (i j:Int):Prop:=0 < j/\j < 1073741824
noncomputable def gW (i j:Int):Prop:=0<=j/\j<=1000000/\i.natAbs < 2 ^ 64
noncomputable def n4 (i j:Int):Prop:=(-(2 ^ 64) < i/\i < 2 ^ 64)\/(-(2 ^ 64) < j/\j < 2 ^ 64)
theorem n4.ok {i j:Int} (h:n4 i j):IntMulOk i j:=by
 rcases h with⟨h1,h2⟩ | ⟨h1,h2⟩
 ·exact .of_left (intBits_le_64 h1 h2)
 ·exact .of_right (intBits_le_64 h1 h2)
theorem pT:OpR X (binaryOp .Add) (rI0 λi j=>.int (i+j)):=sK λ_ _ _ _ _ _ _ q=>add_int q
theorem nX:OpR X (binaryOp .FloorDiv) (rI sI λi j=>.int (i / j)):=opI λi j _ _ _ _ _ hc q=>by
 have h1:(0:Int) < j:=hc.1
 have h2:j < 1073741824:=hc.2
 exact floordiv_int (by lia) (by rw [Int.fdiv_eq_ediv_of_nonneg i (by lia)];exact q) (.inl (PyProof.noPylong_small (by lia)))
theorem pq:OpR X (binaryOp .Mod) (rI (λ_ j=>0 < j) λi j=>.int (i % j)):=opI λi j _ _ _ _ _ hc q=>by
 have h1:(0:Int) < j:=hc
 exact mod_int' (by lia) (by rw [Int.fmod_eq_emod_of_nonneg i (by lia)];exact q)
theorem pP:OpR X (binaryOp .Pow) (rI gW λi j=>.int (i ^ j.toNat)):=opI λ_ _ _ _ _ _ _ hc q=>pow_int_small hc.1 hc.2.1 hc.2.2 q
theorem qC:OpR X (binaryOp .LShift) (rI gW λi j=>.int (i*2 ^ j.toNat)):=opI λ_ _ _ _ _ _ _ hc q=>lshift_int_small hc.1 hc.2.1 hc.2.2 q
theorem unI {f:Value->Sem Value}{g:Int->Int}
  (rule:∀ (i:Int) (t:Tok) (s:Shared) (Q:Value->Shared->Prop) (E:Value->Shared->Prop),Q (.int (g i) s.toks) { s with toks:=s.toks+1 }->wpAny (model X.prog X.w) X.A (f (.int i t)) Q E s) :
  UnR X f (rU λi=>.int (g i)):=by
 intro pins s σ H x v Q I rx h
 obtain⟨i,rfl,q⟩:=h
 obtain⟨t,rfl⟩:=rx
 exact rule i t s _ _ ⟨.int (g i),H,I.tok _,⟨_,rfl⟩,q⟩
theorem pk:UnR X (unaryOp .USub) (rU λi=>.int (-i)):=unI λ_ _ _ _ _ q=>neg_int q
end
section
variable {X:Cx}{a b c:Expr}{ta tb tc:TE}{pos:Pos}
theorem pY {pins:List (Addr×Obj)}{σ:St}{H:Hp}{s:Shared}{Q:VK}{k k':Bool} (I:Inv X pins σ H s) (q:Q (.bl k) H) (e:k=k'):EP X pins σ Q (.bool k') s:=by
 subst e
 exact⟨.bl k,H,I,rfl,q⟩
theorem qK:OpR X (compareOp .Lt) (rI0 λi j=>.bl (decide (i < j))):=oi λ_ _ _ _ _ _ _ q=>lt_int q
theorem rL:OpR X (compareOp .LtE) (rI0 λi j=>.bl (decide (i<=j))):=oi λ_ _ _ _ _ _ _ q=>le_int q
theorem qV:OpR X (compareOp .Gt) (rI0 λi j=>.bl (decide (j < i))):=oi λ_ _ _ _ _ _ _ q=>gt_int q
theorem rV:OpR X (compareOp .GtE) (rI0 λi j=>.bl (decide (j<=i))):=oi λ_ _ _ _ _ _ _ q=>ge_int q
theorem qu:OpR X (compareOp .Is) (λx y H Q=>y=.non/\Q (.bl (decide (x=.non))) H):=by
 intro pins s σ H x y v u Q I rx ry h
 obtain⟨rfl,q⟩:=h
 cases ry
 refine is_none_gen (pY I q ?_)
 cases x<;>first
  | (cases rx;rfl)
  | (obtain⟨t,rfl⟩:=rx;rfl)
theorem er (b:Expr) {op:CmpOp} (h:op≠.In:=by decide) (h2:op≠.NotIn:=by decide):behindInMarks op b=false:=by
 have e1:(op==CmpOp.In)=false:=by cases op<;>first | rfl | exact absurd rfl h
 have e2:(op==CmpOp.NotIn)=false:=by cases op<;>first | rfl | exact absurd rfl h2
 cases b<;>simp [behindInMarks,e1,e2]
theorem nS {op:CmpOp}{r:R2} (ho:OpR X (compareOp op) r) (ha:PE X a ta) (hb:PE X b tb) (hm:behindInMarks op b=false):PE X (.Compare a [op] [b] pos) (tOp r ta tb):=by
 intro pins s σ H Q I h
 exact wpAny_Compare1 (qr ha hb I h λv u s2 x y H2 I2 rx ry q=>ho pins s2 σ H2 x y v u Q I2 rx ry q) hm
noncomputable def qY (t:TE):TT:=λσ H Q=>t σ H λx H'=>∃ k,x=.bl k/\Q k H'
theorem iJ {op:CmpOp}{r:R2} (ho:OpR X (compareOp op) r) (ha:PE X a ta) (hb:PE X b tb) (hm:behindInMarks op b=false):PT X (.Compare a [op] [b] pos) (qY (tOp r ta tb)):=by
 intro pins s σ H Q I h
 refine wpAny_isTrue_Compare1 (thn (ha pins s σ H _ I h) λv s1 ⟨x,H1,I1,r1,q1⟩=>thn (hb pins s1 σ H1 _ I1 q1) λu s2 ⟨y,H2,I2,r2,q2⟩=>
  thn (ho pins s2 σ H2 x y v u _ I2 r1 r2 q2) λc s3 ⟨z,H3,I3,r3,k,e,q3⟩=>?_) hm
 subst e
 cases r3
 exact wpAny_truthy_bool ⟨H3,I3,q3⟩
noncomputable def qw (r r':R2) (ta tb tc:TE):TE:=λσ H Q=>ta σ H λx H1=>tb σ H1 λy H2=>r x y H2 λz H3=>∃ k,z=.bl k/\
 (if k=true then tc σ H3 λw' H4=>r' y w' H4 Q else Q (.bl false) H3)
theorem jB {op op':CmpOp}{r r':R2} (ho:OpR X (compareOp op) r) (ho':OpR X (compareOp op') r') (ha:PE X a ta) (hb:PE X b tb) (hc:PE X c tc)
  (hm:lastMarks [op,op'] [b,c]=false:=by with_unfolding_all rfl):PE X (.Compare a [op,op'] [b,c] pos) (qw r r' ta tb tc):=by
 intro pins s σ H Q I h
 refine Compare_chain (thn (ha pins s σ H _ I h) λv s1 ⟨x,H1,I1,r1,q1⟩=>chain_link (thn (hb pins s1 σ H1 _ I1 q1) λu s2 ⟨y,H2,I2,r2,q2⟩=>
  thn (ho pins s2 σ H2 x y v u _ I2 r1 r2 q2) λd s3 ⟨z,H3,I3,r3,k,e,q3⟩=>?_)) hm
 subst e
 cases r3
 refine wpAny_truthy_bool ?_
 cases k with
 | false=>exact ite_ff ⟨.bl false,H3,I3,rfl,q3⟩
 | true=>exact ite_tt (chain_last (thn (hc pins s3 σ H3 _ I3 q3) λw' s4 ⟨z',H4,I4,r4,q4⟩=>ho' pins s4 σ H4 y z' u w' Q I4 r2 r4 q4))
noncomputable def nw (K:PySem.W.Frag) (x:V) (H:Hp) (k:Bool):Prop:=
 match x with
 | .non=>k=false
 | .bl b=>k=b
 | .int i=>k=(i != 0)
 | .str y=>y.length<=sizeLine/\k=((y.length:Int) != 0)
 | .byt y=>y.size<=sizeLine/\k=((y.size:Int) != 0)
 | .ref p=>(∃ xs,SqL K H p xs/\k=!xs.isEmpty)\/(∃ xs,SqT K H p xs/\k=!xs.isEmpty)\/∃ kvs,H p=some (.dK kvs)/\k=!kvs.isEmpty
 | _=>False
theorem kh {κ:Type}{kvs:List (κ×V)}{vs:List (κ×Value)} (r:KV kvs vs):(!vs.isEmpty)=!kvs.isEmpty:=by
 cases r<;>rfl
theorem gl {xs:List V}{its:List Value} (r:aD xs its):(!its.toArray.isEmpty)=!xs.isEmpty:=by
 cases r<;>simp
theorem eD:(sizeLine:Nat) < 2 ^ 63:=by rw [sizeLine_eq];decide
theorem pC:sV X (λx H Q=>∃ k,nw X.K x H k/\Q k H):=by
 intro pins s σ H x v Q I rx h
 obtain⟨k,e,q⟩:=h
 have hl:=eD
 have hs:sizeLine=16777216:=sizeLine_eq
 cases x with
 | non=>
  cases rx
  have e':k=false:=e
  subst e'
  exact truthy_none ⟨H,I,q⟩
 | bl b=>
  cases rx
  have e':k=b:=e
  subst e'
  exact wpAny_truthy_bool ⟨H,I,q⟩
 | int i=>
  obtain⟨t,rfl⟩:=rx
  have e':k=(i != 0):=e
  subst e'
  exact PySem.P.truthy_int ⟨H,I,q⟩
 | str y=>
  obtain⟨t,rfl⟩:=rx
  obtain⟨hy,e'⟩:y.length<=sizeLine/\k=((y.length:Int) != 0):=e
  subst e'
  exact PySem.P.truthy_str (by lia) ⟨H,I.tok _,q⟩
 | byt y=>
  obtain⟨t,rfl⟩:=rx
  obtain⟨hy,e'⟩:y.size<=sizeLine/\k=((y.size:Int) != 0):=e
  subst e'
  exact PySem.W.truthy_bytes (by lia) ⟨H,I.tok _,q⟩
 | ref p=>
  cases rx
  have e':(∃ xs,SqL X.K H p xs/\k=!xs.isEmpty)\/(∃ xs,SqT X.K H p xs/\k=!xs.isEmpty)\/∃ kvs,H p=some (.dK kvs)/\k=!kvs.isEmpty:=e
  rcases e' with⟨xs,hx,e'⟩ | ⟨xs,hx,e'⟩ | ⟨kvs,hx,e'⟩
  ·subst e'
   obtain⟨its,r,pl,hz⟩:=I.list hx
   have hlen:=r.length
   exact wpAny_truthy_list pl.isList (by simp only [List.size_toArray];lia) ⟨H,I.tok _,by rw [gl r];exact q⟩
  ·subst e'
   obtain⟨its,r,pl,hz⟩:=I.tuple hx
   have hlen:=r.length
   exact truthy_tuple pl (by simp only [List.size_toArray];lia) ⟨H,I.tok _,by rw [gl r];exact q⟩
  ·subst e'
   obtain⟨hz,hS,vs,r,m⟩:kvs.length<=sizeLine/\(p==sysModules)=false/\∃ vs,KV kvs vs/\s.heap.DictOf (bo X.prog X.w) p vs:=I.hok p _ hx
   have hlen:kvs.length=vs.length:=Paired.length r
   exact wpAny_truthy_dict hS m (by lia) ⟨H,I.tok _,by rw [kh r];exact q⟩
 | _=>exact (show False from e).elim
theorem mW (ha:PE X a ta) (he:∀ whole,isTrue a X.env whole=(do let v <-whole;standAt a.pos;holding [v] (truthy v))) :
  PT X a (λσ H Q=>ta σ H λx H'=>∃ k,nw X.K x H' k/\Q k H'):=by
 intro pins s σ H Q I h
 exact isTrue_plain (thn (ha pins s σ H _ I h) λv s1 ⟨x,H1,I1,r1,q1⟩=>pC pins s1 σ H1 x v Q I1 r1 q1) (he _)
theorem jY:OpR X (binaryOp .Add) (λx y H Q=>∃ i j,x=.str i/\y=.str j/\i.length+j.length<=sizeLine/\Q (.str (i++j)) H):=by
 intro pins s σ H x y v u Q I rx ry h
 obtain⟨i,j,rfl,rfl,hz,q⟩:=h
 obtain⟨t,rfl⟩:=rx
 obtain⟨t',rfl⟩:=ry
 exact add_str (λt' tk=>⟨.str (i++j),H,I.tok _,⟨_,rfl⟩,q⟩) hz
theorem fF {x:V}{us:List Value} (r:aD [x] us):∃ u,us=[u]/\aB x u:=by
 cases r with
 | cons r1 r2=>cases r2;exact⟨_,rfl,r1⟩
theorem se {x y:V}{us:List Value} (r:aD [x,y] us):∃ u w',us=[u,w']/\aB x u/\aB y w':=by
 cases r with
 | cons r1 r2=>
  cases r2 with
  | cons r3 r4=>cases r4;exact⟨_,_,rfl,r1,r3⟩
theorem nl:cp X (.builtin "abs") (λxs H Q=>∃ i,xs=[.int i]/\Q (.int (if i < 0 then -i else i)) H):=by
 intro pins s σ H xs us Q I r h
 obtain⟨i,rfl,q⟩:=h
 obtain⟨u,rfl,t,rfl⟩:=fF r
 exact call_abs_int λu tk=>⟨.int (if i < 0 then -i else i),H,I.tok _,⟨_,rfl⟩,q⟩
theorem kT (hc:X.calm=true):cp X (.builtin "min") (λxs H Q=>∃ i j,xs=[.int i,.int j]/\Q (.int (if j < i then j else i)) H):=by
 intro pins s σ H xs us Q I r h
 obtain⟨i,j,rfl,q⟩:=h
 obtain⟨u,w',rfl,⟨t,rfl⟩,⟨t',rfl⟩⟩:=se r
 refine min_two_ints (I.ok.hd hc) λh' tk k=>⟨_,H,I.kept k,?_,q⟩
 by_cases hj:j < i
 ·rw [if_pos hj,if_pos hj];exact⟨_,rfl⟩
 ·rw [if_neg hj,if_neg hj];exact⟨_,rfl⟩
theorem ij:cp X (.type "int") (λxs H Q=>(∃ i,xs=[.int i]/\Q (.int i) H)\/∃ k,xs=[.bl k]/\Q (.int (if k then 1 else 0)) H):=by
 intro pins s σ H xs us Q I r h
 rcases h with⟨i,rfl,q⟩ | ⟨k,rfl,q⟩
 ·obtain⟨u,rfl,t,rfl⟩:=fF r
  exact call_int_int ⟨.int i,H,I,⟨_,rfl⟩,q⟩
 ·obtain⟨u,rfl,r1⟩:=fF r
  cases r1
  exact call_int_bool ⟨.int (if k then 1 else 0),H,I.tok _,⟨_,rfl⟩,q⟩
end
end L2
namespace L2
open PySem PySem.Spec PyProof.Rows
structure o0 (h:Heap) (x dx C:Addr) (mA:Str->Option Value):Prop where
 obj:h.get? x=some (PySem.W.instObj C dx)
 ns:h.Ns1 dx mA
 ne:dx≠x
theorem kS {h:Heap}{dx:Addr}{mA:Str->Option Value} (n:h.Ns1 dx mA):∃ od,h.get? dx=some od/\∀ name,PySem.W.lookIn name od=some (mA name):=by
 obtain⟨o,es,ep,ho,hd,hk,_,hm⟩:=n
 refine⟨o,ho,λname=>?_⟩
 have e:=hm name
 unfold nsFind findBy at e
 rw [<-Array.find?_toList] at e
 unfold PySem.W.lookIn
 rw [hd]
 dsimp only
 split
 ·rename_i y q
  rw [q] at e
  exact congrArg some e
 ·rename_i q
  rw [q] at e
  have a:es.toList.any (·.refKey)=false:=by
   rw [List.any_eq_false]
   intro y hy
   obtain⟨z,t,hkey⟩:=hk y (Array.mem_toList_iff.mp hy)
   simp [DictEntry.refKey,hkey]
  have a':¬ es.toList.any (·.refKey)=true:=by rw [a];exact Bool.false_ne_true
  rw [if_neg a']
  exact congrArg some e
theorem o0.look {h:Heap}{x dx C:Addr}{mA:Str->Option Value} (I:o0 h x dx C mA):∃ od,PySem.W.InstAt h x (PySem.W.instObj C dx) C (some od)/\∀ name,PySem.W.lookIn name od=some (mA name):=
 let ⟨od,ho,hl⟩:=kS I.ns
 ⟨od,⟨I.obj,rfl,rfl,ho⟩,hl⟩
section
variable {prog:Program}{w:World}{A:Around}{E:Value->Shared->Prop}{s:Shared}{K:PySem.W.Frag}{x dx C f:Addr}{mA:Str->Option Value}{name:Str}{v:Value}
end
section
variable {P:Program}{w:World}{H H':Hp}{h h':Heap}{a C dx:Addr}{fs fs':List (Str×V)}
theorem oF (hok:HOk P w H h) (e:H a=some (.ins C dx fs)):∃ mA,o0 h a dx C mA/\(∀ f,pJ (fs.lookup f) (mA f))/\PySem.Within mA (fs.map (·.1))/\fs.length<=1000/\H dx=some (.own a):=by
 obtain⟨d,z,ne,ob,mA,n,r,q⟩:=(show bK P w H h a (.ins C dx fs) from hok a _ e)
 exact⟨mA,⟨ob,n,ne⟩,r,q,z,d⟩
end
structure Cls (K:PySem.W.Frag) (C:Addr):Prop where
 pg:PySem.W.plainGet K C Str.empty=true
 hd:PySem.W.hasDictIn K C=true
 po:PySem.W.plainOver K C=true
 sa:PySem.W.findIn K (.ref C) "__setattr__" = some (some (.builtin "object.__setattr__"))
theorem Cls.get {K:PySem.W.Frag}{C:Addr} (c:Cls K C) (f:Str):PySem.W.plainGet K C f=true:=c.pg
section
variable {X:Cx}{pins:List (Addr×Obj)}{σ:St}{H:Hp}{s:Shared}{a C dx:Addr}{fs:List (Str×V)}{f:Str}{v:V}{A:Around}{E:Value->Shared->Prop}
end
section
variable {X:Cx}{o e value:Expr}{f:Str}{pos pos' tpos:Pos}{ta tv:TE}
end
section
variable {X:Cx}{pins:List (Addr×Obj)}{σ:St}{H:Hp}{s:Shared}{A:Around}{E:Value->Shared->Prop}{Q:Value->Shared->Prop}{c:Value}{b:Bool}
inductive fQ (K:PySem.W.Frag) (H:Hp):V->Value->Prop where
 | non:fQ K H .non (.type "NoneType")
 | bl (x:Bool):fQ K H (.bl x) (.type "bool")
 | int (i:Int):fQ K H (.int i) (.type "int")
 | str (x:Str):fQ K H (.str x) (.type "str")
 | flt (x:UInt64):fQ K H (.flt x) (.type "float")
 | lst {a:Addr}{xs:List V} (e:H a=some (.lst xs)):fQ K H (.ref a) (.type "list")
 | frz {a:Addr}{o:Obj}{xs:List V} (e:H a=some (.frz o (.lst xs))):fQ K H (.ref a) (.type "list")
 | tup {a:Addr}{xs:List V} (e:H a=some (.tup xs)):fQ K H (.ref a) (.type "tuple")
 | dK {a:Addr}{kvs:List (Key×V)} (e:H a=some (.dK kvs)):fQ K H (.ref a) (.type "dict")
 | dT {a:Addr}{kvs:List (List Key×V)} (e:H a=some (.dT kvs)):fQ K H (.ref a) (.type "dict")
 | ins {a C dx:Addr}{fs:List (Str×V)} (e:H a=some (.ins C dx fs)) (cl:Cls K C) (ha:PySem.W.findIn K (.ref C) "__class__" = some (some (.builtin "object.__class__")))
   (hn:PySem.W.specialIn K (.builtin "object.__class__") "__get__" = some (some (.builtin "getset_descriptor.__get__"))) (htk:PySem.W.takesIn K (.builtin "object.__class__")=some true)
   (hm:PySem.W.mroIn K C (.type "object")=some true):fQ K H (.ref a) (.ref C)
theorem bI {x:V}{u t:Value} (I:Inv X pins σ H s) (rx:aB x u) (ty:fQ X.K H x t) (e:PySem.W.kitOne X.K t c=some b) (h:∀ tk,Q (.bool b) { s with toks:=tk }) :
  wpAny (model X.prog X.w) A (call (.builtin "isinstance") [u,c]) Q E s:=by
 cases ty with
 | non=>cases (show u=Value.none from rx);exact PySem.W.kia_one PySem.W.kitx_none I.kIn True.intro e (λz=>nomatch z) h
 | bl y=>cases (show u=Value.bool y from rx);exact PySem.W.kia_one PySem.W.kitx_bool I.kIn True.intro e (λz=>nomatch z) h
 | int i=>obtain⟨t,q⟩:=(show ∃ t,u=Value.int i t from rx);cases q;exact PySem.W.kia_one PySem.W.kitx_int I.kIn True.intro e (λz=>nomatch z) h
 | str y=>obtain⟨t,q⟩:=(show ∃ t,u=Value.str y t from rx);cases q;exact PySem.W.kia_one PySem.W.kitx_str I.kIn True.intro e (λz=>nomatch z) h
 | flt y=>obtain⟨t,q⟩:=(show ∃ t,u=Value.float y t from rx);cases q;exact PySem.W.kia_one PySem.W.kitx_float I.kIn True.intro e (λz=>nomatch z) h
 | @lst a xs ea=>
  cases (show u=Value.ref a from rx)
  obtain⟨_,_,n,_,h1⟩:=(show bK X.prog X.w H s.heap a (.lst xs) from I.hok a _ ea)
  exact PySem.W.kia_one PySem.W.kitx_list I.kIn ⟨_,h1,rfl⟩ e (λz=>nomatch z) h
 | @frz a ob xs ea=>
  cases (show u=Value.ref a from rx)
  obtain⟨_,_,_,n,_,h1⟩:=(show bK X.prog X.w H s.heap a (.frz ob (.lst xs)) from I.hok a _ ea)
  exact PySem.W.kia_one PySem.W.kitx_list I.kIn ⟨_,h1,rfl⟩ e (λz=>nomatch z) h
 | @tup a xs ea=>
  cases (show u=Value.ref a from rx)
  obtain⟨_,_,_,p⟩:=(show bK X.prog X.w H s.heap a (.tup xs) from I.hok a _ ea)
  obtain⟨o,h1,h2,_⟩:=p
  exact PySem.W.kia_one PySem.W.kitx_tuple I.kIn ⟨o,h1,h2⟩ e (λz=>nomatch z) h
 | @dK a kvs ea=>
  cases (show u=Value.ref a from rx)
  obtain⟨_,_,vs,_,p⟩:=(show bK X.prog X.w H s.heap a (.dK kvs) from I.hok a _ ea)
  obtain⟨o,es,ep,h1,h2,_⟩:=p
  exact PySem.W.kia_one PySem.W.kitx_dict I.kIn ⟨o,h1,h2.1⟩ e (λz=>nomatch z) h
 | @dT a kvs ea=>
  cases (show u=Value.ref a from rx)
  obtain⟨_,_,xs,_,o,es,ep,h1,h2,_⟩:=(show bK X.prog X.w H s.heap a (.dT kvs) from I.hok a _ ea)
  exact PySem.W.kia_one PySem.W.kitx_dict I.kIn ⟨o,h1,h2.1⟩ e (λz=>nomatch z) h
 | @ins a C dx fs ea cl ha hn htk hm=>
  cases (show u=Value.ref a from rx)
  obtain⟨mA,O,_⟩:=oF I.hok ea
  obtain⟨od,J,_⟩:=O.look
  exact PySem.W.kia_one (PySem.W.kitx_own (cl.get _) cl.hd ha hn htk hm) I.kIn J e (λz=>nomatch z) h
end
end L2
namespace L2
open PySem PySem.Spec PyProof.Rows
structure bM (k:Nat) (A:Around):Prop where
 hd:A.handled=none
 dp:A.depth+3*k+5 < recursionLimit
 un:A.units+16*k+200 < cLine
 gd:A.guards=some []
theorem bM.mono {j k:Nat}{A:Around} (r:bM k A) (h:j<=k):bM j A:=⟨r.hd,by have:=r.dp;lia,by have:=r.un;lia,r.gd⟩
theorem bM.deeper {k:Nat}{A:Around} (r:bM (k+1) A) (env:Env):bM k (A.deeper env):=
 ⟨r.hd,by have:=r.dp;show A.depth+1+3*k+5 < _;lia,by have:=r.un;show A.units+3+16*k+200 < _;lia,r.gd⟩
theorem bM.depth {k:Nat}{A:Around} (r:bM k A):A.depth < recursionLimit:=by have:=r.dp;lia
theorem bM.units {k:Nat}{A:Around} (r:bM k A):A.units+64 < cLine:=by have:=r.un;lia
theorem bM.units0 {k:Nat}{A:Around} (r:bM k A):A.units < cLine:=by have:=r.un;lia
noncomputable def sU:TA:=λ_ H Q=>Q [] H
noncomputable def re (ta:TE) (tr:TA):TA:=λσ H Q=>ta σ H λx H1=>tr σ H1 λxs H2=>Q (x::xs) H2
section
variable {X:Cx}{e:Expr}{es:List Expr}{te:TE}{t:TA}{pos:Pos}
theorem gF:PA X [] sU:=λ_ _ _ _ H Q I h=>Calls.spliced_nil ⟨[],H,I,.nil,h⟩
theorem cF (ha:PE X e te) (hr:PA X es t) (hs:starEach (e::es) X.env=(false,eval e X.env)::starEach es X.env:=by rfl):PA X (e::es) (re te t):=by
 intro pos pins s σ H Q I h
 rw [hs]
 show wpAny _ _ (spliced ((false,eval e X.env)::backTo pos (starEach es X.env))) _ _ s
 refine Calls.spliced_cons (thn (ha pins s σ H _ I h) λu s1 ⟨x,H1,I1,r1,q1⟩=>?_)
 exact thn (hr pos pins s1 σ H1 _ I1 q1) λus s2 ⟨xs,H2,I2,r2,q2⟩=>⟨x::xs,H2,I2,.cons r1 r2,q2⟩
noncomputable def sM (t:TA):TE:=λσ H Q=>t σ H λxs H1=>xs.length<=sizeLine/\∀ p,H1 p=none->Q (.ref p) (upd H1 p (.tup xs))
noncomputable def tj (t:TA):TE:=λσ H Q=>t σ H λxs H1=>xs.length<=sizeLine/\∀ p,H1 p=none->Q (.ref p) (upd H1 p (.lst xs))
theorem mF {x1} (h:PA X es t):PE X (.Tuple es x1 pos) (sM t):=by
 intro pins s σ H Q I hq
 refine wpAny_Tuple_spliced (thn (h pos pins s σ H _ I hq) λus s1 ⟨xs,H1,I1,r,z,q⟩=>⟨by rw [<-r.length];exact z,?_⟩)
 have hf:H1 s1.heap.objs.size=none:=I1.hok.fresh (Nat.le_refl _)
 refine⟨.ref s1.heap.objs.size,upd H1 s1.heap.objs.size (.tup xs),I1.laid (t':=s1.toks) (λb u e=>Heap.get?_push_of_some _ e) (Nat.le_refl _) ?_,rfl,q _ hf⟩
 exact⟨z,us,r,dH.new _ _⟩
theorem mO (h:PA X es t):PE X (.List es pos) (tj t):=by
 intro pins s σ H Q I hq
 refine wpAny_List_spliced (thn (h pos pins s σ H _ I hq) λus s1 ⟨xs,H1,I1,r,z,q⟩=>⟨by rw [<-r.length];exact z,?_⟩)
 have hf:H1 s1.heap.objs.size=none:=I1.hok.fresh (Nat.le_refl _)
 refine⟨.ref s1.heap.objs.size,upd H1 s1.heap.objs.size (.lst xs),I1.laid (t':=s1.toks) (λb u e=>Heap.get?_push_of_some _ e) (Nat.le_refl _) ?_,rfl,q _ hf⟩
 exact⟨z,us,0,r,Heap.get?_push_size _ rfl⟩
end
abbrev Sp:=List V->Hp->VK->XK->Prop
abbrev CXT:=List Env->Hp->Shared->XK->Value->Shared->Prop
structure nC (P:Program) (w:World) (K:PySem.W.Frag) (mg:Str->Option Value) (base:Heap) (A:Around) (outer:List Env) (s:Shared) (H:Hp):Prop where
 frames:A.frames=some outer
 mod:Mod K mg base
 bs:∀ b o,base.get? b=some o->s.heap.get? b=some o/\H b=none
 bsz:base.objs.size<=s.heap.objs.size
 funs:s.heap.FunFrames base outer
 frf:∀ b ∈ frs outer,H b=none
 hok:HOk P w H s.heap
 bare:AllBare s.gens
noncomputable def CE (outer:List Env) (P:Program) (w:World) (H:Hp) (s:Shared) (Q:VK) (u:Value) (s':Shared):Prop:=
 ∃ v H',s'.os=s.os/\AllBare s'.gens/\Un (frs outer) [] H H' s.heap s'.heap/\HOk P w H' s'.heap/\aB v u/\Q v H'
noncomputable def CR (CX:CXT) (outer:List Env) (P:Program) (w:World) (H:Hp) (s:Shared) (Q:VK) (E:XK) (r:Result) (s':Shared):Prop:=
 match r with
 | .ok (.ret u)=>CE outer P w H s Q u s'
 | .ok _=>False
 | .error e=>CX outer H s E e s'
structure cb (P:Program) (w:World) (K:PySem.W.Frag) (mg:Str->Option Value) (base:Heap) (CX:CXT) (k:Nat) (f:Addr) (fd:FuncData) (ps:List Str) (sp:Sp):Prop where
 len:∀ vs H Q E,sp vs H Q E->vs.length=ps.length
 run:∀ (A:Around) (outer:List Env) (s:Shared) (H:Hp) (args:Args) (us:List Value) (vs:List V) (Q:VK) (E:XK),bM k A->nC P w K mg base A outer s H->BindsTo s fd args (ps.zip us)->aD vs us->sp vs H Q E->
  codeAny (model P w) A (.call (.ref f) args) (CR CX outer P w H s Q E) s
theorem cb.mono {P:Program}{w:World}{K:PySem.W.Frag}{mg:Str->Option Value}{base:Heap}{CX:CXT}{j k:Nat}{f:Addr}{fd:FuncData}{ps:List Str}{sp:Sp} (F:cb P w K mg base CX j f fd ps sp) (h:j<=k) :
  cb P w K mg base CX k f fd ps sp:=⟨F.len,λA outer s H args us vs Q E hr=>F.run A outer s H args us vs Q E (hr.mono h)⟩
section
variable {X:Cx}{pins:List (Addr×Obj)}{σ:St}{H:Hp}{s s':Shared}
theorem Inv.env0 (I:Inv X pins σ H s):nC X.prog X.w X.K X.mg X.base X.A X.stack s H:=
 ⟨I.ok.frames,I.ok.mod,I.bs,Nat.le_trans I.ok.bsz I.sz,I.stack,I.stkFree,I.hok,I.bare⟩
theorem Inv.after {Q:VK}{u:Value} (I:Inv X pins σ H s) (h:CE X.stack X.prog X.w H s Q u s'):EP X pins σ Q u s':=by
 obtain⟨v,H',os,bare,un,hok,r,q⟩:=h
 obtain⟨hh,g,d,t,os'⟩:=s'
 obtain rfl:os'=s.os:=os
 exact⟨v,H',I.call (h':=hh) (g':=g) (d':=d) (t':=t) (ch:=[]) un hok bare (λb z=>absurd z (by simp)),r,q⟩
end
noncomputable def rB (sp:Sp) (dvs:List V) (E:XK) (t:TA):TE:=λσ H Q=>t σ H λvs H1=>sp (vs++dvs) H1 Q E
noncomputable def cm (K:PySem.W.Frag) (fd:FuncData) (ps:List Str) (ds:List Value):Prop:=
 ∀ (s:Shared) (us:List Value),K.In s.heap->(us++ds).length=ps.length->BindsTo s fd ⟨us,[]⟩ (ps.zip (us++ds))
theorem cm.all {K:PySem.W.Frag}{fd:FuncData}{ps:List Str} (h:∀ us:List Value,us.length=ps.length->bindArgs fd ⟨us,[]⟩=pure (ps.zip us)):cm K fd ps []:=λs us _ hl=>by
 rw [List.append_nil] at hl ⊢
 exact .of_eq (h us hl)
noncomputable def iG (CX:CXT) (X:Cx) (E:XK):Prop:=∀ (pins:List (Addr×Obj)) (σ:St) (H:Hp) (s:Shared) (e:Value) (s':Shared),Inv X pins σ H s->CX X.stack H s E e s'->X.xe e s'
section
variable {X:Cx}{CX:CXT}{k:Nat}{f C:Addr}{fd:FuncData}{ps:List Str}{sp:Sp}{dvs:List V}{ds:List Value}{E:XK}{x m:Str}{p pos apos:Pos}{e o:Expr}{es:List Expr}{ta:TE}{t:TA}
theorem qg {pins:List (Addr×Obj)}{σ:St}{H:Hp}{s:Shared}{Q:VK}{us:List Value}{vs:List V} (F:cb X.prog X.w X.K X.mg X.base CX k f fd ps sp) (hr:bM k X.A) (hb:cm X.K fd ps ds) (hd:aD dvs ds) (hx:iG CX X E)
  (I:Inv X pins σ H s) (r:aD vs us) (h:sp (vs++dvs) H Q E):wpAny (model X.prog X.w) X.A (call (.ref f) us) (EP X pins σ Q) X.xe s:=by
 have r2:aD (vs++dvs) (us++ds):=r.append hd
 have hl:(us++ds).length=ps.length:=by rw [<-r2.length];exact F.len _ _ _ _ h
 refine wpAny_call (codeAny_mono (F.run X.A X.stack s H ⟨us,[]⟩ (us++ds) (vs++dvs) Q E hr I.env0 (hb s us I.kIn hl) r2 h) λr s' hq=>?_)
 cases r with
 | error e=>exact hx pins σ H s e s' I hq
 | ok fl=>
  cases fl with
  | ret u=>exact I.after hq
  | next=>exact False.elim hq
  | brk=>exact False.elim hq
  | cont=>exact False.elim hq
theorem kI (F:cb X.prog X.w X.K X.mg X.base CX k f fd ps sp) (hr:bM k X.A) (hg:Gl X x) (hm:X.mg x=some (.ref f)) (hk:PySem.W.keepIn X.K (.ref f)=true) (hb:cm X.K fd ps ds) (hd:aD dvs ds) (hx:iG CX X E)
  (ha:PA X (e::es) t) (hdb:(x==("__debug__" : Str))=false:=by decide) (he:starEach (e::es) X.env=(false,eval e X.env)::starEach es X.env:=by rfl) (hpl:(backTo pos (starEach es X.env)).any (·.1)=false:=by rfl) :
  PE X (.Call (.Name x p) (e::es) [] pos) (rB sp dvs E t):=by
 intro pins s σ H Q I h
 refine wpAny_Call_Name_kw (fS I hg hm ?_ hdb)
 refine PySem.W.callWith_K (h₀:=X.base) I.ok.mod.kin hk (thn (ha pos pins s σ H _ I h) λus s1 ⟨vs,H1,I1,r,q⟩=>⟨I1.kIn,?_⟩) he hpl
 exact qg F hr hb hd hx I1 r q
end
section
variable {X:Cx}{CX:CXT}{k:Nat}{f C:Addr}{fd:FuncData}{ps ks:List Str}{sp:Sp}{E:XK}{x m:Str}{p pos apos kpos:Pos}{e o:Expr}{es:List Expr}{kws:List Keyword}{te ta:TE}{t tk:TA}{nm:Option Str}
variable {g:List Value->List Value->List Value}{gV:List V->List V->List V}
end
structure aY (N P:List Str) (sc:Scope):Prop where
 kind:sc.kind=.function
 co:sc.isCoroutine=false
 gen:sc.isGenerator=false
 nd:N.Nodup
 pre:N.take P.length=P
 par:∀ x ∈ P,sc.names.lookup x=some .local\/sc.names.lookup x=some .cell
 nofree:∀ y ∈ sc.names,y.2≠.free
theorem hU {kindOf:Str->Option NameKind}{x:Str}:∀ {binds:List (Str×Value)}{m:Str->Option Value},(∀ v,(x,v) ∉ binds)->bindL kindOf binds m x=m x
 | [],_,_=>rfl
 | (n,v)::r,m,h=>by
  unfold bindL
  rw [hU λw hw=>h w (List.mem_cons_of_mem _ hw)]
  split
  ·have:x≠n:=by rintro rfl;exact h v List.mem_cons_self
   simp [this]
  ·rfl
theorem h8 {kindOf:Str->Option NameKind}{x:Str}:∀ {binds:List (Str×Value)}{m:Str->Option Value},(∀ v,(x,v) ∉ binds)->bindC kindOf binds m x=m x
 | [],_,_=>rfl
 | (n,v)::r,m,h=>by
  unfold bindC
  rw [h8 λw hw=>h w (List.mem_cons_of_mem _ hw)]
  split
  ·rfl
  ·have:x≠n:=by rintro rfl;exact h v List.mem_cons_self
   simp [this]
theorem h9 {kindOf:Str->Option NameKind}{x:Str}{v:Value}:∀ {P:List Str}{vs:List Value}{i:Nat}{m:Str->Option Value},P.Nodup->P[i]?=some x->vs[i]?=some v->kindOf x=some .local->
  bindL kindOf (P.zip vs) m x=some v
 | [],_,_,_,_,h,_,_=>by simp at h
 | _::_,[],_,_,_,_,h,_=>by simp at h
 | p::P,w::vs,0,m,nd,h1,h2,hk=>by
  simp at h1 h2;subst h1;subst h2
  show bindL kindOf ((p,w)::P.zip vs) m p=_
  unfold bindL
  rw [hU λv hv=>(List.nodup_cons.mp nd).1 (List.of_mem_zip hv).1,if_pos hk]
  simp
 | p::P,w::vs,i+1,m,nd,h1,h2,hk=>by
  show bindL kindOf ((p,w)::P.zip vs) m x=_
  unfold bindL
  exact h9 (i:=i) (List.nodup_cons.mp nd).2 (by simpa using h1) (by simpa using h2) hk
theorem hV {kindOf:Str->Option NameKind}{x:Str}{v:Value}:∀ {P:List Str}{vs:List Value}{i:Nat}{m:Str->Option Value},P.Nodup->P[i]?=some x->vs[i]?=some v->kindOf x≠some .local->
  bindC kindOf (P.zip vs) m x=some v
 | [],_,_,_,_,h,_,_=>by simp at h
 | _::_,[],_,_,_,_,h,_=>by simp at h
 | p::P,w::vs,0,m,nd,h1,h2,hk=>by
  simp at h1 h2;subst h1;subst h2
  show bindC kindOf ((p,w)::P.zip vs) m p=_
  unfold bindC
  rw [h8 λv hv=>(List.nodup_cons.mp nd).1 (List.of_mem_zip hv).1,if_neg hk]
  simp
 | p::P,w::vs,i+1,m,nd,h1,h2,hk=>by
  show bindC kindOf ((p,w)::P.zip vs) m x=_
  unfold bindC
  exact hV (i:=i) (List.nodup_cons.mp nd).2 (by simpa using h1) (by simpa using h2) hk
noncomputable def dY (N:List Str) (vs:List V):St:=vs.map some++List.replicate (N.length - vs.length) none
noncomputable def fm (CX:CXT) (P:Program) (w:World) (K:PySem.W.Frag) (mg:Str->Option Value) (base:Heap) (N:List Str) (qual:Str) (scope:Scope) (f:Addr) (cd:Value) (A:Around) (outer:List Env) (s:Shared) (H:Hp) (E:XK):Cx where
 prog:=P
 w:=w
 K:=K
 mg:=mg
 base:=base
 A:=A.deeper (envOfC qual scope s.heap.objs.size f cd)
 N:=N
 s₀:=s
 H₀:=H
 env:=envOfC qual scope s.heap.objs.size f cd
 outer:=outer
 stack:=envOfC qual scope s.heap.objs.size f cd::outer
 ex:=[]
 calm:=true
 fn:=λ_=>true
 pn:=[]
 xe:=λe s'=>wpAny (model P w) (A.deeper (envOfC qual scope s.heap.objs.size f cd)) (leaving (envOfC qual scope s.heap.objs.size f cd) e) (λ_ s''=>CX outer H s E e s'') (λe' s''=>CX outer H s E e' s'') s'
theorem jr {sc:Scope}{n:Nat}{x:Str} (h:sc.names.lookup x=some .cell):∃ c,(cellsFrom n sc.names []).lookup x=some c:=by
 have q:=PySem.W.cellsFrom_some sc.names n [] (.inl h)
 exact Option.isSome_iff_exists.mp q
theorem lA {CX:CXT}{P:Program}{w:World}{K:PySem.W.Frag}{mg:Str->Option Value}{base:Heap}{N ps:List Str}{qual:Str}{scope:Scope}{f:Addr}{cd:Value}{A:Around}{outer:List Env}{s s1:Shared}{H:Hp}{E:XK}{us:List Value}{vs:List V}
  (S:aY N ps scope) (hd:A.handled=none) (e0:nC P w K mg base A outer s H) (hl:vs.length=ps.length) (r:aD vs us)
  (x:InCallC s s.heap.objs.size (bindL (envOfC qual scope s.heap.objs.size f cd).kindOf (ps.zip us) λ_=>none) (cellsFrom (s.heap.objs.size+1) scope.names []) (bindC (envOfC qual scope s.heap.objs.size f cd).kindOf (ps.zip us) λ_=>none) s1) :
  Inv (fm CX P w K mg base N qual scope f cd A outer s H E) [] (dY N vs) H s1:=by
 have hpl:ps.length<=N.length:=by have:=congrArg List.length S.pre;rw [List.length_take] at this;lia
 obtain⟨h1,tk,rfl,hk⟩:=x.done
 have noA:∀ b:Addr,b ∉ (fm CX P w K mg base N qual scope f cd A outer s H E).ex:=λb z=>absurd (show b ∈ ([]:List Addr) from z) (by simp)
 refine⟨⟨e0.mod,S.kind,rfl,rfl,Nat.le_refl _,λy z c h1 h2=>?_,λy hy=>?_,λy c _ h=>?_,λ_=>hd,Around.frames_deeper e0.frames,.inr ⟨rfl,rfl⟩,λb z=>absurd z (noA b),e0.bs,e0.bsz,λb _ _=>noA b,λb z=>absurd z (noA b),e0.funs,e0.frf⟩,
  rfl,e0.bare,Un.kept hk,⟨_,x.toInCall.ns,λi y v h1 h2 h3=>?_⟩,λy c h=>⟨_,x.cell y c h⟩,e0.hok.fresh (Nat.le_refl _),λy c h=>?_,λp hp=>absurd (show p ∈ ([]:List (Addr×Obj)) from hp) (by simp),e0.hok.kept hk,?_⟩
 ·exact name_of_addr x.apart (PySem.mem_of_lookup h1) (PySem.mem_of_lookup h2)
 ·have hy:scope.names.lookup y=some .cell\/scope.names.lookup y=some .free:=hy
  rcases hy with hy | hy
  ·exact jr hy
  ·exact absurd rfl (S.nofree _ (PySem.mem_of_lookup hy))
 ·exact Nat.le_of_lt (x.above y c (PySem.mem_of_lookup h))
 ·have hi:i < vs.length:=by
   unfold dY at h2
   by_cases hi:i < vs.length
   ·exact hi
   ·rw [List.getElem?_append_right (by simpa using hi)] at h2
    rw [List.getElem?_replicate] at h2
    split at h2<;>cases h2
  have ha:vs[i]?=some v:=by
   unfold dY at h2
   rw [List.getElem?_append_left (by simpa using hi),List.getElem?_map] at h2
   cases e:vs[i]? with
   | none=>rw [e] at h2;cases h2
   | some a=>rw [e] at h2;cases h2;rfl
  obtain⟨u,hu,rv⟩:=r.get ha
  have hp:ps[i]?=some y:=by
   rw [<-S.pre,List.getElem?_take_of_lt (by lia)];exact h1
  have ndP:ps.Nodup:=by rw [<-S.pre];exact S.nd.sublist (List.take_sublist _ _)
  refine⟨u,rv,?_⟩
  rcases S.par y (List.mem_of_getElem? hp) with k | k
  ·exact .inl ⟨k,h9 ndP hp hu k⟩
  ·obtain⟨c,e⟩:=jr (n:=s.heap.objs.size+1) k
   refine .inr ⟨.inl k,c,e,?_⟩
   have q:=x.cell y c e
   rw [hV ndP hp hu (by show scope.names.lookup y≠_;rw [k];decide)] at q
   exact q
 ·exact e0.hok.fresh (Nat.le_of_lt (x.above y c (PySem.mem_of_lookup h)))
 ·unfold dY
  show _=N.length
  rw [List.length_append,List.length_map,List.length_replicate]
  lia
theorem oM {CX:CXT}{P:Program}{w:World}{K:PySem.W.Frag}{mg:Str->Option Value}{base:Heap}{k:Nat}{f:Addr}{name qual:Str}{params:Arguments}{body:List Stmt}{scope:Scope}{dV kV doc pm cdv ct oc:Value}{an od:Option Addr}
  {osl:Array (Option Value)}{N ps:List Str}{sp:Sp} (lk:K.lookup f=some ⟨oc,od,.func (PySem.W.fnOf name qual params body scope dV kV doc pm an cdv ct),osl⟩) (hcd:PySem.W.codeIn K cdv qual=true) (S:aY N ps scope)
  (len:∀ vs H Q E,sp vs H Q E->vs.length=ps.length)
  (hbody:∀ (A:Around) (outer:List Env) (s:Shared) (H:Hp) (vs:List V) (Q:VK) (E:XK),bM k (A.deeper (envOfC qual scope s.heap.objs.size f cdv))->sp vs H Q E->
    ∃ t,PSs (fm CX P w K mg base N qual scope f cdv A outer s H E) body t/\t { nx:=λ_ H'=>Q .non H',rt:=Q } (dY N vs) H) :
  cb P w K mg base CX (k+1) f (PySem.W.fnOf name qual params body scope dV kV doc pm an cdv ct) ps sp:=by
 refine⟨len,λA outer s H args us vs Q E hr e0 hb r hsp=>?_⟩
 have hl:=len _ _ _ _ hsp
 have KX:K.In s.heap:=e0.mod.kin.keeps λb o e=>(e0.bs b o e).1
 have lim:s.heap.NoLimit:=e0.mod.nolimit.keeps λb o e=>(e0.bs b o e).1
 have hkind:∀ y ∈ ps.zip us,scope.names.lookup y.1=some .local\/(scope.names.lookup y.1=some .cell/\((cellsFrom (s.heap.objs.size+1) scope.names []).lookup y.1).isSome=true):=λ⟨n,v⟩ hy=>by
  rcases S.par n (List.of_mem_zip hy).1 with q | q
  ·exact .inl q
  ·exact .inr ⟨q,PySem.W.cellsFrom_some _ _ _ (.inl q)⟩
 refine codeAny_call_function hr.depth (KX _ _ lk) rfl S.co S.gen rfl (PySem.W.codeRec_of KX hcd) (hb _ _ _ _ ?_)
 refine wpAny_newFunctionEnv_cells S.kind hkind λenv he s1 x=>?_
 subst he
 refine⟨lim.keeps x.toInCall.keep,codeAny_func ?_⟩
 obtain⟨t,ht,hq⟩:=hbody A outer s H vs Q E (hr.deeper _) hsp
 have I:Inv (fm CX P w K mg base N qual scope f cdv A outer s H E) [] (dY N vs) H s1:=lA S hr.hd e0 hl r x
 refine wpAny_mono (ht [] s1 (dY N vs) H _ I hq) (λfl s' hs=>?_) λe s' hs=>hs
 have fin:∀ {σ':St}{H':Hp}{v:V}{u:Value},Inv (fm CX P w K mg base N qual scope f cdv A outer s H E) [] σ' H' s'->aB v u->Q v H'->CE outer P w H s Q u s':=
  λ{σ' H' v u} J rv q=>⟨v,H',J.os,J.bare,J.base,J.hok,rv,q⟩
 cases fl with
 | ret u=>
  obtain⟨v,σ',H',J,rv,q⟩:=hs
  exact fin J rv q
 | next=>
  obtain⟨σ',H',J,q⟩:=hs
  exact fin (v:=V.non) (u:=Value.none) J rfl q
 | brk=>
  obtain⟨_,_,_,q⟩:=hs
  exact False.elim q
 | cont=>
  obtain⟨_,_,_,q⟩:=hs
  exact False.elim q
end L2
namespace L2
open PySem PySem.Spec PyProof.Rows
section
variable {X:Cx}{x:Str}{p pos:Pos}{e:Expr}{es:List Expr}{t:TA}{id T:String}{r:List V->Hp->VK->Prop}
noncomputable def tCB (r:List V->Hp->VK->Prop) (t:TA):TE:=λσ H Q=>t σ H λvs H1=>r vs H1 Q
theorem e9 (hc:cp X (.builtin id) r) (hg:Gl X x) (hm:X.mg x=none) (hv:bootBuiltins x=some (.builtin id)) (ha:PA X (e::es) t) (hn:x≠"__name__":=by decide) (hdb:(x==("__debug__" : Str))=false:=by decide)
  (he:starEach (e::es) X.env=(false,eval e X.env)::starEach es X.env:=by rfl) (hpl:(backTo pos (starEach es X.env)).any (·.1)=false:=by rfl):PE X (.Call (.Name x p) (e::es) [] pos) (tCB r t):=by
 intro pins s σ H Q I h
 refine wpAny_Call_Name_kw (iW I hg hm hv ?_ hn hdb)
 exact PyProof.Rows.callWith_builtin1 (thn (ha pos pins s σ H _ I h) λus s1 ⟨vs,H1,I1,r1,q1⟩=>hc pins s1 σ H1 vs us Q I1 r1 q1) he hpl
theorem ie (hc:cp X (.type T) r) (hg:Gl X x) (hm:X.mg x=none) (hv:bootBuiltins x=some (.type T)) (ha:PA X (e::es) t) (hn:x≠"__name__":=by decide) (hdb:(x==("__debug__" : Str))=false:=by decide)
  (he:starEach (e::es) X.env=(false,eval e X.env)::starEach es X.env:=by rfl) (hpl:(backTo pos (starEach es X.env)).any (·.1)=false:=by rfl):PE X (.Call (.Name x p) (e::es) [] pos) (tCB r t):=by
 intro pins s σ H Q I h
 refine wpAny_Call_Name_kw (iW I hg hm hv ?_ hn hdb)
 exact PyProof.Rows.callWith_type1 (thn (ha pos pins s σ H _ I h) λus s1 ⟨vs,H1,I1,r1,q1⟩=>hc pins s1 σ H1 vs us Q I1 r1 q1) he hpl
end
end L2
namespace HT
open PySem PyProof.Rows
section
open PySem.SeqAt
open PySem.AutoSeq1 (wpAny_loadPart')
open PySem.MeetsSeq PySem.MeetsSeq2 PySem.MeetsSeq3
end
section
variable {prog:Program}{w:World}{A:Around}{E:Value->Shared->Prop}{s:Shared}
theorem cat_tup {t b:Addr}{vs ws:List Value}{Q:Value->Shared->Prop} (ht:IsTup s.heap t vs.toArray) (hb:IsTup s.heap b ws.toArray) (hv:vs≠[])
  (h1:ws=[]->Q (.ref t) s) (h2:ws≠[]->Q (.ref s.heap.objs.size) { s with heap:=s.heap.push { cls:=.type "tuple",data:=.seq (vs++ws).toArray } })
  (hsz:vs.length+ws.length<=sizeLine):wpAny (model prog w) A (binaryOp .Add (.ref t) (.ref b)) Q E s:=by
 obtain⟨⟨cls,dd,data,sl⟩,ho,hc,n,hd⟩:=id ht
 obtain⟨⟨cls2,dd2,data2,sl2⟩,ho2,hc2,n2,hd2⟩:=id hb
 simp only at hc hd hc2 hd2
 subst hc hd hc2 hd2
 have e:vs.toArray++ws.toArray=(vs++ws).toArray:=by simp
 by_cases hw:ws=[]
 ·exact concat_meets ⟨_,ho,rfl⟩ ⟨_,ho2,rfl⟩ noFill_tuple_add seq_tuple_add PySem.F.slot_tuple_add PySem.F.entry_tuple_add (PySem.F.args_tuple_add_2 _ _)
   (tuple_addW1 t b vs.toArray ws.toArray n n2 dd dd2 sl sl2 (by simpa using hv) (by simp [hw])) ⟨ho,ho2,h1 hw⟩
 ·refine concat_meets ⟨_,ho,rfl⟩ ⟨_,ho2,rfl⟩ noFill_tuple_add seq_tuple_add PySem.F.slot_tuple_add PySem.F.entry_tuple_add (PySem.F.args_tuple_add_2 _ _)
   (tuple_addW2 t b vs.toArray ws.toArray n n2 dd dd2 sl sl2 (by simpa using hv) (by simpa using hw) (by rw [List.size_toArray,List.size_toArray];exact hsz)) ⟨ho,ho2,?_⟩
  rw [e]
  exact h2 hw
noncomputable def sIx (n d:Nat):Option Int->Nat
 | none=>d
 | some v=>if v < 0 then (v+(n:Int)).toNat else min v.toNat n
end
end HT
namespace L2
open PySem PySem.Spec PyProof.Rows
abbrev TO:=St->Hp->(Option Int->Hp->Prop)->Prop
noncomputable def PO (X:Cx) (e:Option Expr) (t:TO):Prop:=
 ∀ (pins:List (Addr×Obj)) (s:Shared) (σ:St) (H:Hp) (Q:Option Int->Hp->Prop),Inv X pins σ H s->t σ H Q->
  wpAny (model X.prog X.w) X.A (evalPart e X.env) (λu s'=>∃ o H',Inv X pins σ H' s'/\IsPart u o/\Q o H') X.xe s
noncomputable def oG:TO:=λ_ H Q=>Q none H
noncomputable def qM (t:TE):TO:=λσ H Q=>t σ H λx H1=>∃ i,x=.int i/\Q (some i) H1
section
variable {X:Cx}{e:Expr}{te:TE}{lo hi:Option Expr}{tl th:TO}{pos p2:Pos}
theorem oq:PO X none oG:=by
 intro pins s σ H Q I h
 rw [evalPart_none]
 exact wpAny_pure ⟨none,H,I,.none,h⟩
theorem oB (h:PE X e te):PO X (some e) (qM te):=by
 intro pins s σ H Q I hw
 rw [evalPart_some]
 refine thn (h pins s σ H _ I hw) λu s1 ⟨x,H1,I1,r1,q1⟩=>?_
 obtain⟨i,rfl,q⟩:=q1
 obtain⟨t,rfl⟩:=r1
 exact⟨some i,H1,I1,.int i t,q⟩
noncomputable def SlR (X:Cx) (r:V->Option Int->Option Int->Hp->VK->Prop):Prop:=
 ∀ (pins:List (Addr×Obj)) (s:Shared) (σ:St) (H:Hp) (x:V) (v vl vu:Value) (lo hi:Option Int) (sl:Addr) (Q:VK),Inv X pins σ H s->aB x v->s.heap.IsSliceOf sl vl vu .none->IsPart vl lo->IsPart vu hi->r x lo hi H Q->
  ∃ T id,typeLookup (.type T) "__getitem__" = pure (some (.builtin id))/\s.TypeIs v T/\wpAny (model X.prog X.w) X.A (getItem v (.ref sl)) (EP X pins σ Q) X.xe s
noncomputable def tSl (r:V->Option Int->Option Int->Hp->VK->Prop) (te:TE) (tl th:TO):TE:=λσ H Q=>te σ H λx H1=>tl σ H1 λl H2=>th σ H2 λu H3=>r x l u H3 Q
theorem lG {r:V->Option Int->Option Int->Hp->VK->Prop} (hr:SlR X r) (he:PE X e te) (hl:PO X lo tl) (hu:PO X hi th):PE X (.Subscript e (.Slice lo hi none p2) pos) (tSl r te tl th):=by
 intro pins s σ H Q I h
 refine Subscript_ (thn (he pins s σ H _ I h) λv s1 ⟨x,H1,I1,r1,q1⟩=>?_)
 refine wpAny_Slice (thn (hl pins s1 σ H1 _ I1 q1) λvl s2 ⟨l,H2,I2,pl,q2⟩=>thn (hu pins s2 σ H2 _ I2 q2) λvu s3 ⟨u,H3,I3,pu,q3⟩=>?_)
 rw [evalPart_none]
 refine wpAny_pure ?_
 have I4:Inv X pins σ H3 { s3 with heap:=s3.heap.push { cls:=.type "slice",data:=.fields #[vl,vu,.none] } }:=I3.kept (t':=s3.toks) λb ob q=>Heap.get?_push_of_some _ q
 obtain⟨T,id,hT,ht,hg⟩:=hr pins { s3 with heap:=s3.heap.push { cls:=.type "slice",data:=.fields #[vl,vu,.none] } } σ H3 x v vl vu l u s3.heap.objs.size Q I4 r1 (Heap.IsSliceOf.new ..) pl pu q3
 show wpAny (model X.prog X.w) X.A (subscriptTail e (.Slice lo hi none p2) v (.ref s3.heap.objs.size)) (EP X pins σ Q) X.xe { s3 with heap:=s3.heap.push { cls:=.type "slice",data:=.fields #[vl,vu,.none] } }
 exact tail_any (ops:=[.ref s3.heap.objs.size,v]) ht hT hg (by with_unfolding_all rfl)
noncomputable def rH (K:PySem.W.Frag):R2:=λx y H Q=>∃ a b xs ys,x=.ref a/\y=.ref b/\SqT K H a xs/\SqT K H b ys/\xs≠[]/\xs.length+ys.length<=sizeLine/\
 (ys=[]->Q (.ref a) H)/\(ys≠[]->∀ p,H p=none->Q (.ref p) (upd H p (.tup (xs++ys))))
theorem aD.nil_iff {xs:List V}{us:List Value} (r:aD xs us):us=[]↔xs=[]:=by
 cases r with
 | nil=>simp
 | cons _ _=>simp
theorem ny:OpR X (binaryOp .Add) (rH X.K):=by
 intro pins s σ H x y v u Q I rx ry h
 obtain⟨a,b,xs,ys,rfl,rfl,ha,hb,hx,hz,q1,q2⟩:=h
 cases rx
 cases ry
 obtain⟨its,r1,p1,_⟩:=I.tuple ha
 obtain⟨its2,r2,p2,_⟩:=I.tuple hb
 refine HT.cat_tup p1 p2 (λz=>hx (r1.nil_iff.mp z)) (λz=>⟨.ref a,H,I,rfl,q1 (r2.nil_iff.mp z)⟩) (λz=>?_) (by rw [<-r1.length,<-r2.length];exact hz)
 refine⟨.ref s.heap.objs.size,_,I.laid (t':=s.toks) (o:=.tup (xs++ys)) (λb ob q=>Heap.get?_push_of_some _ q) (Nat.le_refl _) ?_,rfl,q2 (λw=>z (r2.nil_iff.mpr w)) _ (I.hok.fresh (Nat.le_refl _))⟩
 exact⟨by rw [List.length_append];exact hz,_,r1.append r2,dH.new _ _⟩
end
end L2
namespace L2
open PySem PySem.Spec PyProof.Rows
noncomputable def ixN (n:Nat) (i:Int):Option Nat:=if 0<=i then (if i < n then some i.toNat else none) else if -(n:Int)<=i then some (i+n).toNat else none
noncomputable def atI {α:Type} (xs:List α) (i:Int):Option α:=(ixN xs.length i).bind λj=>xs[j]?
theorem kQ {n:Nat}{i:Int}{j:Nat} (h:ixN n i=some j):seqIndex? i n=some j/\j < n/\-(n:Int)<=i/\i < n:=by
 unfold ixN at h
 by_cases h0:0<=i
 ·rw [if_pos h0] at h
  by_cases h1:i < n
  ·rw [if_pos h1] at h
   have e:i.toNat=j:=Option.some.inj h
   exact⟨by rw [seqIndex_of h0 h1,e],by lia,by lia,h1⟩
  ·rw [if_neg h1] at h;cases h
 ·rw [if_neg h0] at h
  by_cases h1:-(n:Int)<=i
  ·rw [if_pos h1] at h
   have e:(i+n).toNat=j:=Option.some.inj h
   exact⟨by rw [seqIndex_neg (by lia) h1,e],by lia,h1,by lia⟩
  ·rw [if_neg h1] at h;cases h
theorem i3 {α:Type}{xs:List α}{i:Int}{v:α} (h:atI xs i=some v):∃ j,seqIndex? i xs.length=some j/\xs[j]?=some v/\j < xs.length/\-(xs.length:Int)<=i/\i < xs.length:=by
 unfold atI at h
 cases e:ixN xs.length i with
 | none=>rw [e] at h;cases h
 | some j=>
  rw [e] at h
  obtain⟨h1,h2,h3,h4⟩:=kQ e
  exact⟨j,h1,h,h2,h3,h4⟩
theorem d2 {α:Type}{xs:List α}{j:Nat}{v:α} (h:xs[j]?=some v):atI xs (j:Int)=some v:=by
 have hj:j < xs.length:=(List.getElem?_eq_some_iff.mp h).1
 have e:ixN xs.length (j:Int)=some j:=by
  unfold ixN
  rw [if_pos (by lia),if_pos (by lia)];simp
 unfold atI;rw [e];exact h
noncomputable def kl (b:Expr):Prop:=∀ o i,subscripted b false o i=operate [o,i] (getItem o i)
noncomputable def IxR (X:Cx) (r:R2):Prop:=
 ∀ (value slice:Expr) (pins:List (Addr×Obj)) (s:Shared) (σ:St) (H:Hp) (x y:V) (v u:Value) (Q:VK),Inv X pins σ H s->aB x v->aB y u->r x y H Q->
  subscripted slice false v u=operate [v,u] (getItem v u)->wpAny (model X.prog X.w) X.A (subscriptTail value slice v u) (EP X pins σ Q) X.xe s
noncomputable def MtR (X:Cx) (id:String) (r:V->List V->Hp->VK->Prop):Prop:=
 ∀ (pins:List (Addr×Obj)) (s:Shared) (σ:St) (H:Hp) (x:V) (xs:List V) (v:Value) (us:List Value) (Q:VK),Inv X pins σ H s->aB x v->aD xs us->r x xs H Q->
  wpAny (model X.prog X.w) X.A (call (.builtin id) (v::us)) (EP X pins σ Q) X.xe s
section
variable {X:Cx}{a b:Expr}{ta tb:TE}{pos:Pos}
theorem IxR.or {r r':R2} (h:IxR X r) (h':IxR X r'):IxR X (λx y H Q=>r x y H Q\/r' x y H Q):=by
 intro value slice pins s σ H x y v u Q I rx ry q hs
 rcases q with q | q
 ·exact h value slice pins s σ H x y v u Q I rx ry q hs
 ·exact h' value slice pins s σ H x y v u Q I rx ry q hs
theorem sg {r:R2} (hr:IxR X r) (ha:PE X a ta) (hb:PE X b tb) (hs:kl b):PE X (.Subscript a b pos) (tOp r ta tb):=by
 intro pins s σ H Q I h
 exact Subscript_ (qr ha hb I h λv u s2 x y H2 I2 rx ry q=>hr a b pins s2 σ H2 x y v u Q I2 rx ry q (hs _ _))
noncomputable def su (K:PySem.W.Frag):R2:=λx y H Q=>∃ p xs i v,x=.ref p/\y=.int i/\SqL K H p xs/\atI xs i=some v/\Q v H
noncomputable def rs (K:PySem.W.Frag):R2:=λx y H Q=>∃ p xs i v,x=.ref p/\y=.int i/\SqT K H p xs/\atI xs i=some v/\Q v H
noncomputable def rO:R2:=λx y H Q=>∃ z i c,x=.str z/\y=.int i/\z.length<=sizeLine/\atI z.cps.toList i=some c/\Q (.str ⟨#[c]⟩) H
theorem ol:IxR X (su X.K):=by
 intro value slice pins s σ H x y v u Q I rx ry h hs
 obtain⟨p,xs,i,z,rfl,rfl,hq,he,q⟩:=h
 cases rx
 obtain⟨t,rfl⟩:=ry
 obtain⟨its,r,pl,hz⟩:=I.list hq
 obtain⟨j,h1,h2,h3,h4,h5⟩:=i3 he
 obtain⟨w,ew,rw'⟩:=r.get h2
 have hl:=r.length
 have hn:=eD
 have fin:EP X pins σ Q w s:=⟨z,H,I,rw',q⟩
 by_cases h0:0<=i
 ·have hj:i.toNat=j:=by
   rw [seqIndex_of h0 h5] at h1
   exact Option.some.inj h1
  exact item_listR pl.isList h0 (by lia) (by rw [hj];simpa using ew) fin hs
 ·have hj:(i+(its.toArray.size:Int)).toNat=j:=by
   rw [seqIndex_neg (by lia) h4] at h1
   rw [List.size_toArray,<-hl]
   exact Option.some.inj h1
  exact subscriptTail_builtinR (x:=w) pl.isList.typeIs slot_list_getitem.lookup
   (wpAny_getItem_list_neg (Q:=λr s'=>r=w/\EP X pins σ Q r s') pl.isList (by lia) (by rw [List.size_toArray]<;>lia) (by lia) (by rw [hj];simpa using ew) ⟨rfl,fin⟩) hs
theorem pK:IxR X (rs X.K):=by
 intro value slice pins s σ H x y v u Q I rx ry h hs
 obtain⟨p,xs,i,z,rfl,rfl,hq,he,q⟩:=h
 cases rx
 obtain⟨t,rfl⟩:=ry
 obtain⟨its,r,pl,hz⟩:=I.tuple hq
 obtain⟨j,h1,h2,h3,h4,h5⟩:=i3 he
 obtain⟨w,ew,rw'⟩:=r.get h2
 have hl:=r.length
 have hn:=eD
 have fin:EP X pins σ Q w s:=⟨z,H,I,rw',q⟩
 exact subscriptTail_builtinR (x:=w) pl.typeIs slot_tuple_getitem.lookup
  (getItem_tuple (j:=j) (Q:=λr s'=>r=w/\EP X pins σ Q r s') pl (by lia) (by lia) (by rw [List.size_toArray,<-hl];exact h1) (by simpa using ew) ⟨rfl,fin⟩) hs
theorem qt:IxR X rO:=by
 intro value slice pins s σ H x y v u Q I rx ry h hs
 obtain⟨z,i,c,rfl,rfl,hz,he,q⟩:=h
 obtain⟨t,rfl⟩:=rx
 obtain⟨t',rfl⟩:=ry
 obtain⟨j,h1,h2,h3,h4,h5⟩:=i3 he
 have hl:z.cps.toList.length=z.length:=by simp [Str.length]
 rw [hl] at h1 h4 h5
 have hn:=eD
 exact tail_any (typeIs_str s z t) slot_str_getitem.lookup (getItem_str (c:=c) (by
  have e1:decide (i < -(2 ^ 63:Int))=false:=decide_eq_false (by lia)
  have e2:decide (i>=2 ^ 63)=false:=decide_eq_false (by lia)
  rw [e1,e2,Bool.or_false]) (by rw [h1];simpa using h2) ⟨.str ⟨#[c]⟩,H,I.tok _,⟨_,rfl⟩,q⟩) hs
noncomputable def rIx (K:PySem.W.Frag):R2:=λx y H Q=>su K x y H Q\/rs K x y H Q\/rO x y H Q
theorem mC:IxR X (rIx X.K):=ol.or (pK.or qt)
theorem j7 (its:List Value) (n j:Nat) (u:Value):Obj.mapSeq (·.setIfInBounds j u) { cls:=.type "list",data:=.seq its.toArray n }={ cls:=.type "list",data:=.seq (its.set j u).toArray n }:=by
 simp [Obj.mapSeq]
theorem Inv.lst {pins:List (Addr×Obj)}{σ:St}{H:Hp}{s:Shared}{p:Addr}{xs:List V} (I:Inv X pins σ H s) (h:H p=some (.lst xs)) :
  ∃ (its:List Value) (n:Nat),aD xs its/\s.heap.get? p=some { cls:=.type "list",data:=.seq its.toArray n }/\xs.length<=sizeLine:=by
 obtain⟨z,its,n,r,e⟩:=I.hok p _ h
 exact⟨its,n,r,e,z⟩
theorem Inv.lstUpd {pins:List (Addr×Obj)}{σ:St}{H:Hp}{s:Shared}{p:Addr}{xs ys:List V}{its its':List Value}{n n':Nat}{f:Obj->Obj} (I:Inv X pins σ H s) (h:H p=some (.lst xs))
  (ho:s.heap.get? p=some { cls:=.type "list",data:=.seq its.toArray n }) (hf:f { cls:=.type "list",data:=.seq its.toArray n }={ cls:=.type "list",data:=.seq its'.toArray n' }) (r:aD ys its') (hz:ys.length<=sizeLine) (t:Nat) :
  Inv X pins σ (upd H p (.lst ys)) { s with heap:=s.heap.update p f,toks:=t }:=by
 have e:(s.heap.update p f).get? p=some { cls:=.type "list",data:=.seq its'.toArray n' }:=by
  rw [Heap.get?_update_self f ho (by rw [hf]<;>rfl),hf]
 refine I.write (x:=p) (e:=p) (by rw [h];trivial) (.inl rfl) (λb u hb q=>(Heap.get?_update_other _ _ (Ne.symm hb)).trans q) ⟨_,e⟩ ?_
 exact⟨hz,its',n',r,e⟩
noncomputable def qZ:V->V->V->Hp->(Hp->Prop)->Prop:=λo i v H Q=>∃ p xs k j,o=.ref p/\i=.int k/\H p=some (.lst xs)/\ixN xs.length k=some j/\Q (upd H p (.lst (xs.set j v)))
theorem lL:rj X qZ:=by
 intro pins s σ H o i v ov iv u Q I ro ri rv h
 obtain⟨p,xs,k,j,rfl,rfl,hp,hj,q⟩:=h
 cases ro
 obtain⟨t,rfl⟩:=ri
 obtain⟨its,n,r,ho,hz⟩:=I.lst hp
 obtain⟨h1,h2,h3,h4⟩:=kQ hj
 have hl:=r.length
 have hn:=eD
 have I':Inv X pins σ (upd H p (.lst (xs.set j v))) { s with heap:=s.heap.update p (Obj.mapSeq (·.setIfInBounds j u)) }:=
  I.lstUpd hp ho (j7 its n j u) (r.set rv j) (by rw [List.length_set];exact hz) s.toks
 by_cases h0:0<=k
 ·have hk:k.toNat=j:=by
   rw [seqIndex_of h0 h4] at h1
   exact Option.some.inj h1
  exact PySem.W.ki_setAt ho h0 (by lia) (by rw [List.size_toArray,<-hl];exact h4) (by rw [hk];exact⟨_,I',q⟩)
 ·have hk:(k+(its.toArray.size:Int)).toNat=j:=by
   rw [seqIndex_neg (by lia) h3] at h1
   rw [List.size_toArray,<-hl]
   exact Option.some.inj h1
  exact PySem.W.ki_setBack ho (by lia) (by rw [List.size_toArray,<-hl];exact h3) (by lia) (by rw [hk];exact⟨_,I',q⟩)
noncomputable def cU:V->Bool
 | .non=>true
 | .bl _=>true
 | .int _=>true
 | .str _=>true
 | _=>false
noncomputable def eqV:V->V->Bool
 | .non,.non=>true
 | .bl a,.bl b=>a==b
 | .bl a,.int b=>(if a then 1 else 0)==b
 | .int a,.bl b=>a==(if b then 1 else 0)
 | .int a,.int b=>a==b
 | .str a,.str b=>a==b
 | _,_=>false
theorem mw {A:Around}{s:Shared}{y x:V}{u v:Value} (ry:aB y u) (rx:aB x v) (fy:cU y=true) (fx:cU x=true):SeqAt.EqAt A s u v (eqV y x):=by
 cases y with
 | non=>
  cases ry
  cases x with
  | non=>cases rx;exact SeqAt.EqAt.same _
  | bl b=>cases rx;exact SeqAt.EqAt.none_bool b
  | int b=>obtain⟨t,rfl⟩:=rx;exact SeqAt.EqAt.none_int b t
  | str b=>obtain⟨t,rfl⟩:=rx;exact SeqAt.EqAt.none_str b t
  | _=>exact absurd (show false=true from fx) Bool.false_ne_true
 | bl a=>
  cases ry
  cases x with
  | non=>cases rx;exact SeqAt.EqAt.bool_none a
  | bl b=>cases rx;exact SeqAt.EqAt.bool_bool a b
  | int b=>obtain⟨t,rfl⟩:=rx;exact SeqAt.EqAt.bool_int a b t
  | str b=>obtain⟨t,rfl⟩:=rx;exact SeqAt.EqAt.bool_str a b t
  | _=>exact absurd (show false=true from fx) Bool.false_ne_true
 | int a=>
  obtain⟨t',rfl⟩:=ry
  cases x with
  | non=>cases rx;exact SeqAt.EqAt.int_none a t'
  | bl b=>cases rx;exact SeqAt.EqAt.int_bool a t' b
  | int b=>obtain⟨t,rfl⟩:=rx;exact SeqAt.EqAt.int_int a t' b t
  | str b=>obtain⟨t,rfl⟩:=rx;exact SeqAt.EqAt.int_str a t' b t
  | _=>exact absurd (show false=true from fx) Bool.false_ne_true
 | str a=>
  obtain⟨t',rfl⟩:=ry
  cases x with
  | non=>cases rx;exact SeqAt.EqAt.str_none a t'
  | bl b=>cases rx;exact SeqAt.EqAt.str_bool a t' b
  | int b=>obtain⟨t,rfl⟩:=rx;exact SeqAt.EqAt.str_int a t' b t
  | str b=>obtain⟨t,rfl⟩:=rx;exact SeqAt.EqAt.str_str a t' b t
  | _=>exact absurd (show false=true from fx) Bool.false_ne_true
 | _=>exact absurd (show false=true from fy) Bool.false_ne_true
noncomputable def eqU (x:V) (u:Value):Bool:=match u with
 | .none=>eqV .non x
 | .bool b=>eqV (.bl b) x
 | .int i _=>eqV (.int i) x
 | .str z _=>eqV (.str z) x
 | _=>false
theorem mG {x y:V}{u:Value} (r:aB y u) (f:cU y=true):eqU x u=eqV y x:=by
 cases y with
 | non=>cases r;rfl
 | bl b=>cases r;rfl
 | int i=>obtain⟨t,rfl⟩:=r;rfl
 | str z=>obtain⟨t,rfl⟩:=r;rfl
 | _=>exact absurd (show false=true from f) Bool.false_ne_true
theorem iI {x:V}:∀ {xs:List V}{us:List Value},aD xs us->xs.all cU=true->us.any (eqU x)=xs.any λy=>eqV y x
 | _,_,.nil,_=>rfl
 | y::xs,u::us,.cons r t,f=>by
  rw [List.all_cons,Bool.and_eq_true] at f
  rw [List.any_cons,List.any_cons,mG r f.1,iI t f.2]
theorem gJ {A:Around}{s:Shared}{x:V}{v:Value} (rx:aB x v) (fx:cU x=true):∀ {xs:List V}{us:List Value},aD xs us->xs.all cU=true->∀ u ∈ us,SeqAt.EqAt A s u v (eqU x u)
 | _,_,.nil,_=>λu hu=>by cases hu
 | y::xs,u::us,.cons r t,f=>λu' hu=>by
  rw [List.all_cons,Bool.and_eq_true] at f
  rcases List.mem_cons.mp hu with rfl | hu
  ·rw [mG r f.1];exact mw r rx f.1 fx
  ·exact gJ rx fx t f.2 u' hu
noncomputable def inV (x:V) (xs:List V):Bool:=xs.any λy=>eqV y x
noncomputable def rIn (K:PySem.W.Frag) (neg:Bool):R2:=λx y H Q=>∃ p xs,y=.ref p/\(SqL K H p xs\/SqT K H p xs)/\cU x=true/\xs.all cU=true/\Q (.bl (if neg then !inV x xs else inV x xs)) H
theorem eX:OpR X (compareOp .NotIn) (rIn X.K true):=by
 intro pins s σ H x y v u Q I rx ry h
 obtain⟨p,xs,rfl,hq,fx,fs,q⟩:=h
 cases ry
 rcases hq with hq | hq
 ·obtain⟨its,r,pl,hz⟩:=I.list hq
  refine SeqAt.notIn_listAt (eqU x) pl.isList (λw hw=>gJ rx fx r fs w (by simpa using hw)) ⟨.bl _,H,I,rfl,?_⟩
  rw [show its.toArray.any (eqU x)=its.any (eqU x) by simp,iI r fs]
  exact q
 ·obtain⟨its,r,pl,hz⟩:=I.tuple hq
  refine SeqAt.notIn_tupleAt (eqU x) pl (λw hw=>gJ rx fx r fs w (by simpa using hw)) ⟨.bl _,H,I,rfl,?_⟩
  rw [show its.toArray.any (eqU x)=its.any (eqU x) by simp,iI r fs]
  exact q
theorem iN:cp X (.builtin "len") (λxs H Q=>∃ p ys,xs=[.ref p]/\(SqL X.K H p ys\/SqT X.K H p ys)/\Q (.int ys.length) H):=by
 intro pins s σ H xs us Q I r h
 obtain⟨p,ys,rfl,hq,q⟩:=h
 obtain⟨u,rfl,rx⟩:=fF r
 cases rx
 have hn:=eD
 rcases hq with hq | hq
 ·obtain⟨its,r',pl,hz⟩:=I.list hq
  have hlen:=r'.length
  exact Calls.call_len_list pl.isList (by simp only [List.size_toArray]<;>lia) ⟨.int ys.length,H,I.tok _,⟨s.toks+1,by rw [List.size_toArray,hlen]⟩,q⟩
 ·obtain⟨its,r',pl,hz⟩:=I.tuple hq
  have hlen:=r'.length
  exact len_tuple pl (by simp only [List.size_toArray]<;>lia) ⟨.int ys.length,H,I.tok _,⟨s.toks+1,by rw [List.size_toArray,hlen]⟩,q⟩
theorem iA:cp X (.builtin "len") (λxs H Q=>∃ z,xs=[.str z]/\z.length<=sizeLine/\Q (.int z.length) H):=by
 intro pins s σ H xs us Q I r h
 obtain⟨z,rfl,hz,q⟩:=h
 obtain⟨u,rfl,t,rfl⟩:=fF r
 have hn:=eD
 exact len_str (by lia) ⟨.int z.length,H,I.tok _,⟨_,rfl⟩,q⟩
theorem gU:cp X (.type "tuple") (λxs H Q=>∃ p ys,xs=[.ref p]/\((SqL X.K H p ys/\∀ l,H l=none->Q (.ref l) (upd H l (.tup ys)))\/(SqT X.K H p ys/\Q (.ref p) H))):=by
 intro pins s σ H xs us Q I r h
 obtain⟨p,ys,rfl,h⟩:=h
 obtain⟨u,rfl,rx⟩:=fF r
 cases rx
 rcases h with⟨hq,q⟩ | ⟨hq,q⟩
 ·obtain⟨its,r',pl,hz⟩:=I.list hq
  have hlen:=r'.length
  refine call_tuple_list pl.isList (λh' kp=>?_) (by simp only [List.size_toArray]<;>lia)
  have I1:Inv X pins σ H { s with heap:=h' }:=I.kept (t':=s.toks) kp
  have I2:Inv X pins σ (upd H h'.objs.size (.tup ys)) { s with heap:=h'.push { cls:=.type "tuple",data:=.seq its.toArray } }:=
   I1.laid (t':=s.toks) (λb o e=>Heap.get?_push_of_some _ e) (Nat.le_refl _) (show bK X.prog X.w _ _ _ (.tup ys) from ⟨hz,its,r',dH.new _ _⟩)
  exact⟨.ref h'.objs.size,_,I2,rfl,q _ (I1.hok.fresh (Nat.le_refl _))⟩
 ·obtain⟨its,r',pl,hz⟩:=I.tuple hq
  exact call_tuple_same pl ⟨.ref p,H,I,rfl,q⟩
noncomputable def tyV (K:PySem.W.Frag) (T:String) (x:V) (H:Hp):Prop:=match x with
 | .str _=>T = "str"
 | .int _=>T = "int"
 | .ref p=>(T = "list"/\∃ xs,SqL K H p xs)\/(T = "tuple"/\((∃ o,K.lookup p=some o/\o.cls=.type "tuple"/\o.dict=none)\/∃ xs,SqT K H p xs))\/
   (T = "dict"/\((∃ kvs,H p=some (.dK kvs))\/∃ kvs,H p=some (.dT kvs)))\/(T = "set"/\∃ S n,H p=some (.set S n))
 | _=>False
theorem pS {pins:List (Addr×Obj)}{σ:St}{H:Hp}{s:Shared}{T:String}{x:V}{v:Value} (I:Inv X pins σ H s) (r:aB x v) (ty:tyV X.K T x H) :
  s.TypeIs v T/\∀ a,v=.ref a->∃ ob,s.heap.get? a=some ob/\ob.dict=none:=by
 cases x with
 | str z=>
  obtain⟨t,rfl⟩:=r
  cases (show T = "str" from ty)
  exact⟨typeIs_str s z t,λ_ e=>nomatch e⟩
 | int i=>
  obtain⟨t,rfl⟩:=r
  cases (show T = "int" from ty)
  exact⟨typeIs_int s i t,λ_ e=>nomatch e⟩
 | ref p=>
  cases r
  rcases ty with⟨rfl,xs,hq⟩ | ⟨rfl,ht⟩ | ⟨rfl,hk⟩ | ⟨rfl,S,n,hk⟩
  ·obtain⟨its,_,pl,_⟩:=I.list hq
   refine⟨pl.isList.typeIs,λa e=>?_⟩
   cases e
   obtain⟨o,n,e,c,hd,_⟩:=pl
   exact⟨o,e,hd⟩
  ·have z:∃ o:Obj,s.heap.get? p=some o/\o.cls=.type "tuple"/\o.dict=none:=by
    rcases ht with⟨o,hk,hc,hd⟩ | ⟨xs,hq⟩
    ·exact⟨o,I.kIn p o hk,hc,hd⟩
    ·exact I.tuple1 hq
   obtain⟨o,e1,hc,hd⟩:=z
   refine⟨⟨o,e1,hc⟩,λa e=>?_⟩
   cases e
   exact⟨o,e1,hd⟩
  ·have z:∃ o,s.heap.get? p=some o/\o.ExactDict:=by
    rcases hk with⟨kvs,hk⟩ | ⟨kvs,hk⟩
    ·obtain⟨_,_,_,_,o,_,_,e,ex,_⟩:=I.hok p _ hk
     exact⟨o,e,ex⟩
    ·obtain⟨_,_,_,_,o,_,_,e,ex,_⟩:=I.hok p _ hk
     exact⟨o,e,ex⟩
   obtain⟨o,e,ex⟩:=z
   refine⟨⟨o,e,ex.1⟩,λa e2=>?_⟩
   cases e2
   exact⟨o,e,ex.2.1⟩
  ·obtain⟨o,_,_,_,e,ex,_⟩:=I.hok p _ hk
   refine⟨⟨o,e,ex.1⟩,λa e2=>?_⟩
   cases e2
   exact⟨o,e,ex.2.1⟩
 | _=>exact False.elim ty
noncomputable def tBM (K:PySem.W.Frag) (T:String) (r:V->List V->Hp->VK->Prop) (to:TE) (t:TA):TE:=λσ H Q=>to σ H λx H1=>tyV K T x H1/\t σ H1 λxs H2=>r x xs H2 Q
variable {o e:Expr}{es:List Expr}{to:TE}{t:TA}{name:Str}{apos cpos:Pos}{T id:String}{r:V->List V->Hp->VK->Prop}
theorem lK (pa:PlainAttrs T) (slot:Slot T name id) (hty:typeOf (.builtin id)=pure (.type "method_descriptor")) (hm:MtR X id r) (ho:PE X o to) (ha:PA X (e::es) t)
  (hbase:attributeBase o name X.env (eval o X.env)=eval o X.env:=by rfl)
  (hfew:((backTo cpos (starEach (e::es) X.env)).all (λx=>!x.1) && (backToKw cpos (keywordEach [] X.env)).all (λx=>x.1.isSome)
    && decide ((e::es).length+([]:List Keyword).length+(if ([]:List Keyword).isEmpty then 0 else 1) < 30))=true:=by rfl)
  (hline:(apos.endLine==cpos.line)=true:=by rfl) (hs:starEach (e::es) X.env=(false,eval e X.env)::starEach es X.env:=by rfl) (hplain:(backTo cpos (starEach es X.env)).any (·.1)=false:=by rfl) :
  PE X (.Call (.Attribute o name apos) (e::es) [] cpos) (tBM X.K T r to t):=by
 intro pins s σ H Q I h
 refine wpAny_Call_method_late hbase hfew hline rfl (thn (ho pins s σ H _ I h) λv s1 ⟨x,H1,I1,r1,ty,q1⟩=>?_)
 obtain⟨h1,h2⟩:=pS I1 r1 ty
 refine⟨T,id,pa,slot,hty,h1,h2,?_⟩
 have hA:=ha cpos pins s1 σ H1 _ I1 q1
 rw [hs] at hA ⊢
 refine Calls.callWith_builtin (by show (false || (backTo cpos (starEach es X.env)).any (·.1))=false;rw [hplain]<;>rfl) (Calls.evalArgs_plain ?_)
 exact thn hA λus s2 ⟨vs,H2,I2,r2,q2⟩=>hm pins s2 σ H2 x vs v us Q I2 r1 r2 q2
end
end L2
namespace L2
open PySem PySem.Spec PyProof.Rows
noncomputable def MtM (X:Cx) (id:String) (r:V->List V->Hp->VK->Prop):Prop:=
 ∀ (pins:List (Addr×Obj)) (s:Shared) (σ:St) (H:Hp) (x:V) (xs:List V) (v:Value) (us:List Value) (Q:VK),Inv X pins σ H s->aB x v->aD xs us->r x xs H Q->
  wpAny (model X.prog X.w) X.A (call (.builtin id) (v::us)) (EP X pins σ Q) X.xe s
theorem aD.one:∀ {x:V}{us:List Value},aD [x] us->∃ u,us=[u]/\aB x u
 | _,_,.cons r .nil=>⟨_,rfl,r⟩
theorem aD.two {x y:V}{us:List Value} (h:aD [x,y] us):∃ u v,us=[u,v]/\aB x u/\aB y v:=by
 cases h with
 | cons r t=>cases t with
  | cons q t2=>cases t2;exact⟨_,_,rfl,r,q⟩
theorem aD.rep {xs:List V}{us:List Value} (h:aD xs us):∀ k:Nat,aD (List.replicate k xs).flatten (List.replicate k us).flatten
 | 0=>.nil
 | k+1=>by
  rw [List.replicate_succ,List.replicate_succ,List.flatten_cons,List.flatten_cons]
  exact aD.append h (aD.rep h k)
theorem fu (its:List Value):∀ (k:Nat) (acc:List Value),
  List.foldl (λx1 x2=>x1++x2) acc.toArray (List.replicate k its.toArray)=(acc++(List.replicate k its).flatten).toArray
 | 0,acc=>by simp
 | k+1,acc=>by
  have e:acc.toArray++its.toArray=(acc++its).toArray:=by simp
  have e2:(acc++its)++(List.replicate k its).flatten=acc++(List.replicate (k+1) its).flatten:=by
   rw [List.replicate_succ,List.flatten_cons,List.append_assoc]
  rw [<-e2,<-fu its k (acc++its),<-e,List.replicate_succ,List.foldl_cons]
section
variable {X:Cx}{pins:List (Addr×Obj)}{σ:St}{H:Hp}{s:Shared}{l b:Addr}{xs ys zs:List V}
theorem Inv.lset {its its':List Value}{n:Nat}{f:Array Value->Array Value}{t':Nat} (I:Inv X pins σ H s) (hH:H l=some (.lst xs))
  (e:s.heap.get? l=some { cls:=.type "list",data:=.seq its.toArray n }) (hf:f its.toArray=its'.toArray) (hv:aD ys its') (hz:ys.length<=sizeLine) :
  Inv X pins σ (upd H l (.lst ys)) { s with heap:=s.heap.update l (Obj.mapSeq f),toks:=t' }:=by
 have q:=PySem.IsL.update e f
 rw [hf] at q
 refine I.write (x:=l) (e:=l) (by rw [hH];exact trivial) (.inl rfl) (λb' u hb hu=>(Heap.get?_update_other s.heap (Obj.mapSeq f) (Ne.symm hb)).trans hu) ⟨_,q⟩ ?_
 exact⟨hz,its',_,hv,q⟩
theorem Inv.lnew {its:List Value}{t':Nat} (I:Inv X pins σ H s) (hv:aD ys its) (hz:ys.length<=sizeLine) :
  Inv X pins σ (upd H s.heap.objs.size (.lst ys)) { s with heap:=s.heap.push { cls:=.type "list",data:=.seq its.toArray },toks:=t' }:=
 I.laid (λ_ _ q=>Heap.get?_push_of_some _ q) (Nat.le_refl _) ⟨hz,its,0,hv,Heap.get?_push_size _ rfl⟩
theorem Inv.fresh (I:Inv X pins σ H s):H s.heap.objs.size=none:=I.hok.fresh (Nat.le_refl _)
theorem Inv.lstM (I:Inv X pins σ H s) (hH:H l=some (.lst xs)):xs.length<=sizeLine/\∃ (its:List Value) (n:Nat),aD xs its/\xs.length=its.length/\s.heap.get? l=some { cls:=.type "list",data:=.seq its.toArray n }:=by
 obtain⟨z,its,n,r,e⟩:=I.hok l _ hH
 exact⟨z,its,n,r,r.length,e⟩
theorem mf {n:Nat} (h:n<=sizeLine):Builtin.List.listTooLong n=false:=by
 unfold Builtin.List.listTooLong
 exact decide_eq_false (by lia)
end
section
variable {X:Cx}
noncomputable def nF:V->List V->Hp->VK->Prop:=λx vs H Q=>∃ l xs y,x=.ref l/\vs=[y]/\H l=some (.lst xs)/\xs.length < sizeLine/\Q .non (upd H l (.lst (xs++[y])))
theorem kU:MtM X "list.append" nF:=by
 intro pins s σ H x vs v us Q I rx rv h
 obtain⟨l,xs,y,rfl,rfl,hH,hz,q⟩:=h
 cases rx
 obtain⟨u,rfl,ru⟩:=rv.one
 obtain⟨z,its,n,r,hl,e⟩:=I.lstM hH
 refine call_meets F.slot_list_append ⟨_,e,rfl⟩ F.entry_list_append (F.args_list_append_2 _ _) (PySem.list_append l its.toArray n u (by rw [List.size_toArray];lia)) ⟨e,?_⟩
 refine⟨.non,_,I.lset (its':=its++[u]) hH e (by simp) (r.append (.cons ru .nil)) ?_,rfl,q⟩
 rw [List.length_append,List.length_singleton]
 lia
theorem iw {α:Type} (xs:List α) (k:Nat):(List.replicate k xs).flatten.length=k*xs.length:=by
 induction k with
 | zero=>simp
 | succ k ih=>rw [List.replicate_succ,List.flatten_cons,List.length_append,ih,Nat.succ_mul,Nat.add_comm]
end
section
variable {prog:Program}{w:World}{A:Around}{E:Value->Shared->Prop}{s:Shared}
end
section
variable {X:Cx}
end
end L2
namespace Att
open PySem PySem.W PySem.Calls PyProof.Rows
theorem fP {P:Params}{h:Heap}:∀ (ns:List Int) (vs:List Value),WellAll P h vs (ns.map WData.int)->IntsAre vs ns:=by
 intro ns
 induction ns with
 | nil=>
  intro vs w
  rw [List.map_nil] at w
  cases w
  exact .nil
 | cons n ns ih=>
  intro vs w
  rw [List.map_cons] at w
  cases w with
  | cons a b=>
   cases a
   exact .cons _ _ (ih _ b)
theorem lj {l:OpenLaw}{n:Nat} (hn:l.most=some n) {P:Params}{h:Heap}{args:List WData}{vals:List Value}
  (hpre:l.row.toRowW.claim.pre args=true) (hwl:WellAll P h vals args) :
  ∃ a vs ns,vals=[Value.ref a]/\args=[WData.list (ns.map WData.int)]/\h.get? a=some { cls:=.type "list",data:=.seq vs.toArray }/\IntsAre vs ns/\ns.length<=n:=by
 have hsh:WShape.hasAll [] args [.list .int]=true:=(pre_splitW hpre).1
 have hc:l.pre.holds [] { args:=args }=true:=(pre_splitW hpre).2
 obtain⟨d,r,rfl,h1,h2⟩:=hasAllW_cons hsh
 obtain rfl:=hasAllW_nil h2
 obtain⟨xs,rfl,h3⟩:=hasW_list h1
 obtain⟨ns,rfl⟩:=items_int h3
 have hlen:ns.length<=n:=by
  unfold OpenLaw.pre at hc
  have h4:(WTm.not (.lt (.lit (.int (n:Int))) (.len (.arg 0)))).holds [] { args:=[.list (ns.map .int)] }=true:=by
   have h4:=(holds_andW hc).1
   rw [hn] at h4
   exact h4
  have h5:=condW_of h4 (w_not (w_lt w_lit (w_len_list (w_arg rfl))))
  rw [List.length_map] at h5
  refine Nat.le_of_not_lt λq=>?_
  have q':(n:Int) < ((ns.length:Nat):Int):=by lia
  first
   | (rw [decide_eq_true q'] at h5;exact absurd h5 (by decide))
   | (simp at h5;lia)
 cases hwl with
 | cons w1 w2=>
  cases w2
  cases w1 with
  | list ho hall=>exact⟨_,_,ns,rfl,rfl,ho,fP ns _ hall,hlen⟩
theorem le (l:OpenLaw) (args:List WData):l.row.toRowW.claim.post args (.bool true) args=true:=
 postW_of (r:=l.row.toRowW) (X:=(true==true))
  (show WShape.has [] (.bool true) .bool=true by first | rfl | decide | simp [WShape.has,WShape.arms,WShape.armsAll])
  (show (WTm.eq .res (.lit (.bool true))).value [] { args:=args,res:=some (.bool true),after:=args }=some (.bool (true==true)) from w_eq_bool (w_res rfl) w_lit) rfl
theorem attach_call {l:OpenLaw}{n:Nat}{q:Program}{loose:List Str}{XP:(Str->Option Value)->Heap->Prop}{YP:World->Heap->Prop}{d:DefRec}
  (hn:l.most=some n) (hdf:d.params.defaults=[])
  (call:∀ (w:World) (s₀ s₁:Shared) (mg mb:Str->Option Value) (fa:Addr) (o:Obj) (pm cd doc:Value) (a:Addr) (vs:List Value) (ns:List Int),
    Ground q loose [] XP w s₀ mg mb s₁.heap->YP w s₁.heap->
    s₁.heap.get? fa=some o->o.data=.func (docDef d.name d.params d.body d.scope pm cd doc)->s₁.heap.CodeRec cd d.name->mg d.name=some (.ref fa)->
    s₁.heap.get? a=some { cls:=.type "list",data:=.seq vs.toArray }->IntsAre vs ns->ns.length<=n->s₁.gens=#[]->
    codeAny (model l.prog w) callerA (.call (.ref fa) ⟨[.ref a],[]⟩) (λr s'=>r=.ok (.ret (.bool true))/\OldK s₁.heap s'.heap/\s'.os=s₁.os/\AllBare s'.gens) s₁) :
  WalkO q loose XP YP l.row.toRowW d [] (λf vs=>PySem.call f vs):=by
 intro w s₀ s₁ mg mb G Y fa o pm cd doc dV kV ho hd hcd hD hmg hg args vals as hpre hlay hrd hwl hlo
 obtain rfl:dV=.none:=Dflts.none hD hdf
 obtain rfl:kV=.none:=Dflts.noKw hD
 obtain⟨a,vs,ns,rfl,rfl,hobj,hints,hlen⟩:=lj hn hpre hwl
 refine enter_call (codeAny_mono (call w s₀ s₁ mg mb fa o pm cd doc a vs ns G Y ho (fd_plain hd) hcd hmg hobj hints hlen hg) λr s' hq=>?_)
 obtain⟨rfl,h2,h3,h4⟩:=hq
 exact⟨.inl ⟨.bool true,.bool true,[],rfl,λ_=>rfl,.bool true,le l _,λ_=>⟨List.Pairwise.nil,λ_ hm=>(nomatch hm)⟩⟩,h2,h3,h4⟩
section
variable {prog:Program}{w:World}{A:Around}{E:Value->Shared->Prop}{s:Shared}{K:Frag}
end
end Att
namespace L2
open PySem PySem.Spec PyProof.Rows
theorem ii:∀ {vs:List Value}{ns:List Int},IntsAre vs ns->aD (ns.map V.int) vs
 | _,_,.nil=>.nil
 | _,_,.cons n t h=>.cons ⟨t,rfl⟩ (ii h)
noncomputable def nA (H:Hp):Prop:=∀ b,H b=none\/∃ o xs,H b=some (.frz o (.lst xs))
theorem lN {P:Program}{w:World}{K:PySem.W.Frag}{mg mb:Str->Option Value}{CX:CXT}{k:Nat}{fa a:Addr}{fd:FuncData}{x:Str}{sp:Sp}{s₁:Shared}{vs:List Value}{ns:List Int}
  (KX:K.In s₁.heap) (hns:s₁.heap.Ns mainGlobals mg) (hb:s₁.heap.Ns builtinsNs mb) (hbb:∀ x:Str,x≠"__name__"->mb x=bootBuiltins x) (hlim:s₁.heap.NoLimit) (hg:s₁.gens=#[])
  (ha:s₁.heap.get? a=some { cls:=.type "list",data:=.seq vs.toArray }) (hi:IntsAre vs ns) (hl:ns.length<=sizeLine) (hr:bM k callerA)
  (F:∀ base:Heap,K.In base->base.Ns mainGlobals mg->cb P w K mg base CX k fa fd [x] sp) (hbind:∀ (s:Shared) (u:Value),BindsTo s fd ⟨[u],[]⟩ [(x,u)])
  (hsp:∀ H:Hp,nA H->SqL K H a (ns.map V.int)->sp [.ref a] H (λv _=>v=.bl true) λ_ _ _=>False)
  (hCX:∀ H e s',CX [] H s₁ (λ_ _ _=>False) e s'->False) :
  codeAny (model P w) callerA (.call (.ref fa) ⟨[.ref a],[]⟩) (λr s'=>r=.ok (.ret (.bool true))/\OldK s₁.heap s'.heap/\s'.os=s₁.os/\AllBare s'.gens) s₁:=by
 have rv:=ii hi
 have lenV:=hi.length
 -- from an abstract heap in which nothing but the script may be tracked
 have core:∀ H:Hp,nA H->SqL K H a (ns.map V.int)->HOk P w H s₁.heap->(∀ b,H b≠none->b=a)->(H a≠none->K.lookup a=none)->
   codeAny (model P w) callerA (.call (.ref fa) ⟨[.ref a],[]⟩) (λr s'=>r=.ok (.ret (.bool true))/\OldK s₁.heap s'.heap/\s'.os=s₁.os/\AllBare s'.gens) s₁:=by
  intro H hO hS hok hA hK
  have base_of:∀ {b:Addr}{o:Obj},s₁.heap.get? b=some o->H b=none->(iD s₁.heap H).get? b=some o:=λe n=>mZ e n
  have noA:∀ {b:Addr}{o:Obj}{es:Array DictEntry}{ep:Nat},s₁.heap.get? b=some o->o.data=.dict es ep->H b=none:=λ{b o es ep} e d=>by
   cases q:H b with
   | none=>rfl
   | some u=>
    have e':b=a:=hA b (by rw [q];simp)
    subst e'
    rw [ha] at e;cases e
    have d':Data.seq vs.toArray _=Data.dict es ep:=d
    cases d'
  have nsK:∀ {b:Addr}{m:Str->Option Value},s₁.heap.Ns b m->(iD s₁.heap H).Ns b m:=λ{b m} ⟨o,es,ep,e,d,r⟩=>⟨o,es,ep,base_of e (noA e d),d,r⟩
  have hKb:K.In (iD s₁.heap H):=λb o e=>base_of (KX b o e) (by
   cases q:H b with
   | none=>rfl
   | some u=>
    have e':b=a:=hA b (by rw [q];simp)
    subst e'
    rw [hK (by rw [q];simp)] at e;cases e)
  have hM:Mod K mg (iD s₁.heap H):=⟨hKb,nsK hns,⟨mb,nsK hb,hbb⟩,let ⟨mc,h1,h2⟩:=hlim;⟨mc,nsK h1,h2⟩⟩
  have e0:nC P w K mg (iD s₁.heap H) callerA [] s₁ H:=⟨rfl,hM,λb o e=>nO e,Nat.le_of_eq (lm _ _),trivial,λb hb=>absurd (show b ∈ ([]:List Addr) from hb) (by simp),hok,.of_eq hg⟩
  refine codeAny_mono ((F _ hKb (nsK hns)).run callerA [] s₁ H ⟨[.ref a],[]⟩ [.ref a] [.ref a] _ _ hr e0 (hbind s₁ (.ref a)) (.cons rfl .nil) (hsp H hO hS)) λr s' h=>?_
  cases r with
  | error e=>exact (hCX H e s' h).elim
  | ok fl=>
   cases fl with
   | next=>exact False.elim h
   | brk=>exact False.elim h
   | cont=>exact False.elim h
   | ret u=>
    obtain⟨v,H',os,bare,un,hok',r',q⟩:=h
    have q':v=.bl true:=q
    subst q'
    obtain rfl:u=Value.bool true:=r'
    refine⟨rfl,OldK.of_keep λb o e=>?_,os,bare⟩
    cases q:H b with
    | none=>exact un.keep b o e q (by intro z;exact absurd (show b ∈ ([]:List Addr) from z) (by simp)) (by simp)
    | some u=>
     rcases hO b with z | ⟨ob,xs,z⟩
     ·rw [q] at z;cases z
     ·have z2:=un.frzs b ob _ z
      obtain⟨e1,_⟩:=hok b _ z
      obtain⟨e2,_⟩:=hok' b _ z2
      rw [e] at e1;cases e1
      exact e2
 cases hk:K.lookup a with
 | some o=>
  -- the script is one of the module's own objects
  have e:=KX a o hk
  rw [ha] at e
  cases e
  refine core (λ_=>none) (λ_=>.inl rfl) (.inr ⟨_,vs.toArray,_,hk,rfl,rfl,rfl,by rw [List.size_toArray,lenV];exact hl,by simpa using rv⟩) (λb u z=>by have z':(none:Option HO)=some u:=z;cases z') (λb z=>absurd rfl z) λz=>absurd rfl z
 | none=>
  refine core (λb=>if b=a then some (.frz { cls:=.type "list",data:=.seq vs.toArray } (.lst (ns.map V.int))) else none) (λb=>?_) (.inl (.inr ⟨{ cls:=.type "list",data:=.seq vs.toArray },if_pos rfl⟩)) (λb u z=>?_) (λb z=>?_) λ_=>hk
  ·by_cases hb:b=a
   ·exact .inr ⟨_,_,if_pos hb⟩
   ·exact .inl (if_neg hb)
  ·by_cases hb:b=a
   ·have z':=(if_pos hb).symm.trans z
    cases z'
    subst hb
    exact⟨ha,by rw [List.length_map];exact hl,vs,_,rv,ha⟩
   ·have z':=(if_neg hb).symm.trans z
    cases z'
  ·by_cases hb:b=a
   ·exact hb
   ·exact absurd (if_neg hb) z
end L2
namespace L2
open PySem PySem.Spec PyProof.Rows
theorem walk_of {l:PySem.W.OpenLaw}{n k:Nat}{q:Program}{loose:List Str}{XP:(Str->Option Value)->Heap->Prop}{YP:World->Heap->Prop}{d:DefRec}{K:Params->PySem.W.Frag}{CX:World->CXT}{sp:World->Sp}{x:Str}
  (hn:l.most=some n) (hn2:n<=sizeLine) (hdf:d.params.defaults=[]) (hr:bM k callerA)
  (hY:∀ (w:World) (h:Heap),YP w h->(K w.params).In h)
  (F:∀ (w:World) (mg:Str->Option Value) (fa:Addr) (h:Heap),(K w.params).In h->h.Ns mainGlobals mg->mg d.name=some (.ref fa)->
    ∃ fd:FuncData,(∀ (s:Shared) (u:Value),BindsTo s fd ⟨[u],[]⟩ [(x,u)])/\
     ∀ base:Heap,(K w.params).In base->base.Ns mainGlobals mg->cb l.prog w (K w.params) mg base (CX w) k fa fd [x] (sp w))
  (hsp:∀ (w:World) (H:Hp) (a:Addr) (ns:List Int),ns.length<=n->nA H->SqL (K w.params) H a (ns.map V.int)->sp w [.ref a] H (λv _=>v=.bl true) λ_ _ _=>False)
  (hCX:∀ (w:World) (H:Hp) (s:Shared) (e:Value) (s':Shared),CX w [] H s (λ_ _ _=>False) e s'->False) :
  PySem.W.WalkO q loose XP YP l.row.toRowW d [] (λf vs=>PySem.call f vs):=by
 refine Att.attach_call hn hdf λw s₀ s₁ mg mb fa o pm cd doc a vs ns G Y ho hd hcd hmg hobj hints hlen hg=>?_
 have KX:=hY w _ Y
 obtain⟨fd,hb,hF⟩:=F w mg fa _ KX G.T.g hmg
 exact lN KX G.T.g G.T.b G.T.builtins G.T.nolimit hg hobj hints (Nat.le_trans hlen hn2) hr hF hb (λH hO hS=>hsp w H a ns hlen hO hS) λH e s'=>hCX w H s₁ e s'
end L2
namespace L2
open PySem PySem.Spec PyProof.Rows
noncomputable def bf (s:Stmt):Arguments:=match s with
 | .FunctionDef _ a _ _ _ _ _ _ _ _=>a
 | _=>{ posonlyargs:=[],args:=[],vararg:=none,kwonlyargs:=[],kw_defaults:=[],kwarg:=none,defaults:=[] }
noncomputable def aJ (s:Stmt):List Stmt:=match s with
 | .FunctionDef _ _ b _ _ _ _ _ _ _=>b
 | _=>[]
noncomputable def ai (s:Stmt):Scope:=match s with
 | .FunctionDef _ _ _ _ _ _ sc _ _ _=>sc
 | _=>{ kind:=.function,names:=[],isGenerator:=false,isCoroutine:=false }
abbrev CX0:CXT:=λ_ _ _ _ _ _=>False
abbrev E0:XK:=λ_ _ _=>False
theorem rg {X:Cx}:iG CX0 X E0:=λ_ _ _ _ _ _ _ h=>h.elim
structure Fun (K:PySem.W.Frag) (x qual:Str) (st:Stmt) (f:Addr) (fd:FuncData):Prop where
 ex:∃ (oc:Value) (od:Option Addr) (kV doc pm:Value) (an:Option Addr) (cdv ct:Value) (osl:Array (Option Value)),
  fd=PySem.W.fnOf x qual (bf st) (aJ st) (ai st) .none kV doc pm an cdv ct/\K.lookup f=some ⟨oc,od,.func fd,osl⟩/\PySem.W.codeIn K cdv qual=true
 kp:PySem.W.keepIn K (.ref f)=true
section
variable {P:Program}{w:World}{K:PySem.W.Frag}{mg:Str->Option Value}{base:Heap}
theorem Fun.ok {x qual:Str}{st:Stmt}{f:Addr}{fd:FuncData}{N ps:List Str}{k:Nat}{sp:Sp} (F:Fun K x qual st f fd) (S:aY N ps (ai st)) (len:∀ vs H Q E,sp vs H Q E->vs.length=ps.length)
  (hbody:∀ (cdv:Value) (A:Around) (outer:List Env) (s:Shared) (H:Hp) (vs:List V) (Q:VK) (E:XK),bM k (A.deeper (envOfC qual (ai st) s.heap.objs.size f cdv))->sp vs H Q E->
    ∃ t,PSs (fm CX0 P w K mg base N qual (ai st) f cdv A outer s H E).nox (aJ st) t/\t { nx:=λ_ H'=>Q .non H',rt:=Q } (dY N vs) H):cb P w K mg base CX0 (k+1) f fd ps sp:=by
 obtain⟨oc,od,kV,doc,pm,an,cdv,ct,osl,rfl,lk,hcd⟩:=F.ex
 refine oM lk hcd S len λA outer s H vs Q E hr hsp=>?_
 obtain⟨t,h,q⟩:=hbody cdv A outer s H vs Q E hr hsp
 exact⟨t,h.nox,q⟩
theorem Fun.binds {x qual:Str}{st:Stmt}{f:Addr}{fd:FuncData}{ps:List Str} (F:Fun K x qual st f fd)
  (h:∀ (kV doc pm:Value) (an:Option Addr) (cdv ct:Value) (us:List Value),us.length=ps.length->bindArgs (PySem.W.fnOf x qual (bf st) (aJ st) (ai st) .none kV doc pm an cdv ct) ⟨us,[]⟩=pure (ps.zip us)):cm K fd ps []:=by
 obtain⟨oc,od,kV,doc,pm,an,cdv,ct,osl,rfl,lk,hcd⟩:=F.ex
 exact .all (h kV doc pm an cdv ct)
theorem cM {x qual:Str}{st:Stmt}{f:Addr}{oc:Value}{od an:Option Addr}{osl:Array (Option Value)}{kV doc pm cdv ct:Value} (l:K.lookup f=some ⟨oc,od,.func (PySem.W.fnOf x qual (bf st) (aJ st) (ai st) .none kV doc pm an cdv ct),osl⟩)
  (c:PySem.W.codeIn K cdv qual=true) (k:PySem.W.keepIn K (.ref f)=true):Fun K x qual st f (PySem.W.fnOf x qual (bf st) (aJ st) (ai st) .none kV doc pm an cdv ct):=⟨⟨oc,od,kV,doc,pm,an,cdv,ct,osl,rfl,l,c⟩,k⟩
end
theorem hX {n:Nat} (h:n<=1000):n < sizeLine:=Nat.lt_of_le_of_lt h (by decide)
section
variable {X:Cx}
end
theorem jW {A B:Prop} (h:B):if false=true then A else B:=by
 rw [if_neg Bool.false_ne_true]
 exact h
theorem nv {A B:Prop} (h:A):if true=true then A else B:=by
 rw [if_pos rfl]
 exact h
noncomputable def aM (H H':Hp):Prop:=∀ b o,H b=some o->H' b=some o
theorem aM.refl (H:Hp):aM H H:=λ_ _ h=>h
end L2
namespace L2
open PySem PySem.Spec PyProof.Rows
noncomputable def ba (cells:List (Str×Addr)):List (Str×NameKind)->List (Str×Addr)->List (Str×Addr)
 | [],acc=>acc
 | (n,k)::r,acc=>if k==.free then ba cells r ((n,(cells.lookup n).getD 0)::acc) else ba cells r acc
theorem eG {env:Env} (f:Str×NameKind->List (Str×Addr)->Sem (ForInStep (List (Str×Addr))))
  (hf:∀ n k cs,f (n,k) cs=if k==.free then (do let c <-cellOf env n;pure (.yield ((n,c)::cs))) else pure (.yield cs)) :
  ∀ (names:List (Str×NameKind)) (acc:List (Str×Addr)),(∀ x ∈ names,x.2=.free->∃ c,env.cells.lookup x.1=some c)->
   forIn names acc f=pure (ba env.cells names acc)
 | [],acc,_=>by rw [List.forIn_nil];rfl
 | (n,k)::r,acc,h=>by
  rw [List.forIn_cons,hf]
  unfold ba
  by_cases hk:(k==.free)=true
  ·obtain⟨c,hc⟩:=h (n,k) List.mem_cons_self (beq_iff_eq.mp hk)
   have hc':env.cells.lookup n=some c:=hc
   rw [if_pos hk,if_pos hk]
   have:cellOf env n=pure c:=by unfold cellOf;rw [hc']
   rw [this,hc']
   simp only [pure_bind,Option.getD_some]
   exact eG f hf r _ λx hx=>h x (List.mem_cons_of_mem _ hx)
  ·rw [if_neg hk,if_neg hk]
   simp only [pure_bind]
   exact eG f hf r _ λx hx=>h x (List.mem_cons_of_mem _ hx)
theorem eg {scope:Scope}{env:Env} (h:∀ x ∈ scope.names,x.2=.free->∃ c,env.cells.lookup x.1=some c) :
  closureFor scope env=pure (ba env.cells scope.names []):=by
 simp only [closureFor]
 rw [eG (env:=env) _ (λn k cs=>by cases hk:k==NameKind.free<;>simp [hk]) scope.names [] h]
 simp
theorem dg {cells:List (Str×Addr)}:∀ (names:List (Str×NameKind)) (acc:List (Str×Addr)) {x:Str}{c:Addr},(ba cells names acc).lookup x=some c->
  acc.lookup x=some c\/((x,NameKind.free) ∈ names/\c=(cells.lookup x).getD 0)
 | [],_,_,_,h=>.inl h
 | (n,k)::r,acc,x,c,h=>by
  unfold ba at h
  by_cases hk:(k==.free)=true
  ·rw [if_pos hk] at h
   rcases dg r _ h with q | ⟨q1,q2⟩
   ·rw [List.lookup_cons] at q
    cases hx:x==n with
    | true=>
     rw [hx] at q
     have e:=beq_iff_eq.mp hx
     subst e
     exact .inr ⟨by rw [<-beq_iff_eq.mp hk];exact List.mem_cons_self,(Option.some.inj q).symm⟩
    | false=>rw [hx] at q;exact .inl q
   ·exact .inr ⟨List.mem_cons_of_mem _ q1,q2⟩
  ·rw [if_neg hk] at h
   rcases dg r _ h with q | ⟨q1,q2⟩
   ·exact .inl q
   ·exact .inr ⟨List.mem_cons_of_mem _ q1,q2⟩
theorem df {cells:List (Str×Addr)}{x:Str}:∀ (names:List (Str×NameKind)) (acc:List (Str×Addr)),((x,NameKind.free) ∈ names\/(acc.lookup x).isSome=true)->((ba cells names acc).lookup x).isSome=true
 | [],_,h=>h.elim (λz=>nomatch z) id
 | (n,k)::r,acc,h=>by
  unfold ba
  by_cases hk:(k==.free)=true
  ·rw [if_pos hk]
   refine df r _ ?_
   rcases h with h | h
   ·rcases List.mem_cons.mp h with e | h
    ·cases e
     exact .inr (by rw [List.lookup_cons,beq_self_eq_true];rfl)
    ·exact .inl h
   ·refine .inr ?_
    rw [List.lookup_cons]
    cases x==n
    ·exact h
    ·rfl
  ·rw [if_neg hk]
   refine df r _ ?_
   rcases h with h | h
   ·rcases List.mem_cons.mp h with e | h
    ·cases e;exact absurd rfl hk
    ·exact .inl h
   ·exact .inr h
theorem cE:∀ (names:List (Str×NameKind)) (n:Nat) (acc:List (Str×Addr)) {x:Str}{c:Addr},(cellsFrom n names acc).lookup x=some c->acc.lookup x=some c\/((x,NameKind.cell) ∈ names/\n<=c)
 | [],_,_,_,_,h=>.inl h
 | (m,k)::r,n,acc,x,c,h=>by
  unfold cellsFrom at h
  by_cases hk:(k==.cell)=true
  ·rw [if_pos hk] at h
   rcases cE r _ _ h with q | ⟨q1,q2⟩
   ·rw [List.lookup_cons] at q
    cases hx:x==m with
    | true=>
     rw [hx] at q
     have e:=beq_iff_eq.mp hx
     subst e
     exact .inr ⟨by rw [<-beq_iff_eq.mp hk];exact List.mem_cons_self,by rw [Option.some.inj q];exact Nat.le_refl _⟩
    | false=>rw [hx] at q;exact .inl q
   ·exact .inr ⟨List.mem_cons_of_mem _ q1,Nat.le_of_succ_le q2⟩
  ·rw [if_neg hk] at h
   rcases cE r _ _ h with q | ⟨q1,q2⟩
   ·exact .inl q
   ·exact .inr ⟨List.mem_cons_of_mem _ q1,q2⟩
theorem gY:∀ (names:List (Str×NameKind)) (n:Nat) (acc:List (Str×Addr)),(∀ p ∈ acc,p.2 < n)->∀ {x y:Str}{c:Addr},(cellsFrom n names acc).lookup x=some c->(cellsFrom n names acc).lookup y=some c->n<=c->x=y:=by
 have key:∀ (names:List (Str×NameKind)) (n:Nat) (acc:List (Str×Addr)) (lo:Nat),lo<=n->(∀ p ∈ acc,p.2 < n)->(∀ p ∈ acc,∀ q ∈ acc,lo<=p.2->p.2=q.2->p.1=q.1)->
   ∀ p ∈ cellsFrom n names acc,∀ q ∈ cellsFrom n names acc,lo<=p.2->p.2=q.2->p.1=q.1:=by
  intro names
  induction names with
  | nil=>intro n acc lo _ _ h;exact h
  | cons z r ih=>
   intro n acc lo hlo hlt h
   obtain⟨m,k⟩:=z
   unfold cellsFrom
   by_cases hk:(k==.cell)=true
   ·rw [if_pos hk]
    refine ih _ _ lo (Nat.le_succ_of_le hlo) (λp hp=>?_) (λp hp q hq l e=>?_)
    ·rcases List.mem_cons.mp hp with e | hp
     ·rw [e];exact Nat.lt_succ_self _
     ·exact Nat.lt_succ_of_lt (hlt p hp)
    ·rcases List.mem_cons.mp hp with e1 | hp<;>rcases List.mem_cons.mp hq with e2 | hq
     ·rw [e1,e2]
     ·rw [e1] at e;exact absurd (hlt q hq) (by rw [<-e];exact Nat.lt_irrefl _)
     ·rw [e2] at e;exact absurd (hlt p hp) (by rw [e];exact Nat.lt_irrefl _)
     ·exact h p hp q hq l e
   ·rw [if_neg hk]
    exact ih _ _ lo hlo hlt h
 intro names n acc hlt x y c hx hy hc
 exact key names n acc n (Nat.le_refl _) hlt (λp hp q hq l _=>absurd (hlt p hp) (Nat.not_lt.mpr l)) _ (PySem.mem_of_lookup hx) _ (PySem.mem_of_lookup hy) hc rfl
theorem cK:∀ (names:List (Str×NameKind)) (h:Heap) (acc:List (Str×Addr)),(∀ p ∈ acc,∃ v,h.IsCell p.2 v)->∀ p ∈ cellsFrom h.objs.size names acc,∃ v,(pushCells h names).IsCell p.2 v
 | [],_,_,h=>h
 | (m,k)::r,h,acc,hc=>by
  unfold cellsFrom pushCells
  by_cases hk:(k==.cell)=true
  ·rw [if_pos hk,if_pos hk]
   have:=cK r (h.push { cls:=.type "cell",data:=.cell none }) ((m,h.objs.size)::acc) (λp hp=>by
    rcases List.mem_cons.mp hp with e | hp
    ·rw [e];exact⟨none,_,Heap.get?_push_size _ rfl,rfl⟩
    ·obtain⟨v,z⟩:=hc p hp
     exact⟨v,z.keeps λb o e=>Heap.get?_push_of_some _ e⟩)
   rwa [Heap.size_push] at this
  ·rw [if_neg hk,if_neg hk]
   exact cK r h acc hc
theorem cP {names:List (Str×NameKind)} (nd:(names.map (·.1)).Nodup):∀ {x:Str}{k:NameKind},(x,k) ∈ names->names.lookup x=some k:=by
 induction names with
 | nil=>intro x k h;cases h
 | cons z r ih=>
  intro x k h
  obtain⟨m,k'⟩:=z
  rw [List.map_cons,List.nodup_cons] at nd
  rw [List.lookup_cons]
  rcases List.mem_cons.mp h with e | h
  ·cases e;rw [beq_self_eq_true]
  ·have:(x==m)=false:=beq_eq_false_iff_ne.mpr λe=>nd.1 (e ▸ List.mem_map.mpr ⟨(x,k),by assumption,rfl⟩)
   rw [this]
   exact ih nd.2 h
theorem cn {env:Env}:∀ {names:List (Str×NameKind)}{x:Str}{k:NameKind},
  (names.map λ(n,k)=>if (k==NameKind.free && env.scope.kind==.function && env.kindOf n==some .cell) then (n,NameKind.cell) else (n,k)).lookup x=some k->
  ∃ k0,names.lookup x=some k0/\(k=k0\/(k0=.free/\k=.cell))
 | [],_,_,h=>by cases h
 | (n,k0)::r,x,k,h=>by
  rw [List.map_cons] at h
  dsimp only at h
  rw [List.lookup_cons]
  by_cases hc:(k0==NameKind.free && env.scope.kind==.function && env.kindOf n==some .cell)=true
  ·rw [if_pos hc,List.lookup_cons] at h
   cases hx:x==n with
   | true=>
    rw [hx] at h
    refine⟨k0,rfl,.inr ⟨?_,(Option.some.inj h).symm⟩⟩
    simp only [Bool.and_eq_true] at hc
    exact beq_iff_eq.mp hc.1.1
   | false=>rw [hx] at h;exact cn h
  ·rw [if_neg hc,List.lookup_cons] at h
   cases hx:x==n with
   | true=>rw [hx] at h;exact⟨k0,rfl,.inl (Option.some.inj h).symm⟩
   | false=>rw [hx] at h;exact cn h
theorem dz {env:Env}:∀ {names:List (Str×NameKind)}{x:Str},names.lookup x=some .free->
  (names.map λ(n,k)=>if (k==NameKind.free && env.scope.kind==.function && env.kindOf n==some .cell) then (n,NameKind.cell) else (n,k)).lookup x=some .free\/
  (names.map λ(n,k)=>if (k==NameKind.free && env.scope.kind==.function && env.kindOf n==some .cell) then (n,NameKind.cell) else (n,k)).lookup x=some .cell
 | [],_,h=>by cases h
 | (n,k0)::r,x,h=>by
  rw [List.map_cons]
  dsimp only
  rw [List.lookup_cons] at h
  by_cases hc:(k0==NameKind.free && env.scope.kind==.function && env.kindOf n==some .cell)=true
  ·rw [if_pos hc,List.lookup_cons]
   cases hx:x==n with
   | true=>exact .inr rfl
   | false=>rw [hx] at h;exact dz h
  ·rw [if_neg hc,List.lookup_cons]
   cases hx:x==n with
   | true=>rw [hx] at h;exact .inl h
   | false=>rw [hx] at h;exact dz h
theorem eL {M:Model}{A:Around}{E:Value->Shared->Prop}{s:Shared}{scope:Scope}{env:Env}{cl:List (Str×Addr)}{Q:Env->Shared->Prop}
  (hQ:Q (newEnv scope s.heap.objs.size env.globals (cellsFrom (s.heap.objs.size+1) scope.names cl) env.qual none .none (some env) builtinsNs)
    { s with heap:=pushCells (s.heap.push { cls:=.type "dict",data:=.dict #[] }) scope.names }) :
  wpAny M A (newFunctionEnv scope env.globals cl [] env.qual none .none (some env)) Q E s:=by
 simp only [newFunctionEnv,Option.isSome_some,if_true]
 refine wpAny_bind (wpAny_alloc ?_)
 refine wpAny_bind (wpAny_layCells _ (λname kind cells=>by cases hkc:kind==NameKind.cell<;>simp [hkc]) _ _ _ _ ?_)
 rw [show ({ s with heap:=s.heap.push { cls:=.type "dict",data:=.dict #[] } }:Shared).heap.objs.size=s.heap.objs.size+1 from Heap.size_push ..]
 refine wpAny_bind ?_
 rw [List.forIn_nil]
 exact wpAny_pure (wpAny_pure hQ)
theorem dL {prog:Program}{w:World}{A:Around}{R:Result->Shared->Prop}{s:Shared}{elt target iter:Expr}{ifs:List Expr}{scope:Scope}{pos:Pos}{it acc:Value}{env:Env} (I:Nat->Shared->Prop)
  (turn:∀ n s,I n s->wpAny (model prog w) A (pyNext it) (λr s₁=>match r with
    | none=>R (.ok .next) s₁
    | some v=>wpAny (model prog w) A (letOwnedTupleGo target it v) (λ_ s₁'=>wpAny (model prog w) A (assign target env v) (λ_ s₂=>
      wpAny (model prog w) A (forIn ifs true λc r=>if r=true then do let ok <-isTrue c env (eval c env);pure (ForInStep.yield ok) else pure (ForInStep.yield r)) (λok s₃=>
       if ok=true then wpAny (model prog w) A (eval elt env) (λx s₄=>
        wpAny (model prog w) A (call (.builtin "list.append") [acc,x]) (λ_ s₅=>∃ m,m < n/\I m s₅) (λ_ _=>False) s₄) (λ_ _=>False) s₃
       else ∃ m,m < n/\I m s₃) (λ_ _=>False) s₂) (λ_ _=>False) s₁') (λ_ _=>False) s₁) (λ_ _=>False) s)
  (n:Nat) (h:I n s) :
  codeAny (model prog w) A (.compLoop (.ListComp elt [⟨target,iter,ifs,0⟩] scope pos) 0 it acc env) R s:=by
 refine codeAny_loop rfl I (λn s hI=>?_) n h
 show wpAny _ A ((compTurn (.ListComp elt [⟨target,iter,ifs,0⟩] scope pos) 0 it acc env).onRaise (λx=>do noteFrame x env;theTreesLotGoes x)) _ _ s
 refine wpAny_noted ?_
 rw [compTurn_list]
 refine wpAny_bind (wpAny_standAt (wpAny_bind (wpAny_mono (turn n s hI) (λr s₁ h₁=>?_) λ_ _ h'=>h'.elim)))
 cases r with
 | none=>exact wpAny_pure h₁
 | some v=>
  refine wpAny_bind (wpAny_mono h₁ (λ_ s₁' h₁'=>?_) λ_ _ h'=>h'.elim)
  refine wpAny_bind (wpAny_mono h₁' (λ_ s₂ h₂=>wpAny_bind (wpAny_mono h₂ (λok s₃ h₃=>?_) λ_ _ h'=>h'.elim)) λ_ _ h'=>h'.elim)
  cases ok with
  | false=>exact wpAny_pure ⟨rfl,h₃⟩
  | true=>
   exact wpAny_bind (wpAny_bind (wpAny_mono h₃ (λx s₄ h₄=>wpAny_bind (wpAny_mono h₄ (λ_ s₅ h₅=>wpAny_pure (wpAny_pure ⟨rfl,h₅⟩)) λ_ _ h'=>h'.elim)) λ_ _ h'=>h'.elim))
noncomputable def lcX (X:Cx) (scope:Scope) (cells:List (Str×Addr)) (Nc:List Str) (s:Shared) (H:Hp) (C:Addr) (fp:List Addr):Cx where
 prog:=X.prog
 w:=X.w
 K:=X.K
 mg:=X.mg
 base:=X.base
 A:=X.A
 N:=Nc
 s₀:=s
 H₀:=H
 env:=compEnvC scope cells C X.env
 outer:=X.stack
 stack:=X.stack
 ex:=fp
 fn:=λx=>scope.names.lookup x==some .cell
 calm:=X.calm
 pn:=[]
 xe:=λ_ _=>False
structure dc (X:Cx) (scope:Scope) (Nc:List Str) (emb:St->St):Prop where
 kind:scope.kind=.function
 nd:(scope.names.map (·.1)).Nodup
 nN:Nc.Nodup
 free:∀ x ∈ scope.names,x.2=.free->X.env.kindOf x.1=some .cell\/X.env.kindOf x.1=some .free
 len:∀ σ:St,σ.length=X.N.length->(emb σ).length=Nc.length
 emb:∀ σ:St,σ.length=X.N.length->∀ (i:Nat) (x:Str) (v:V),Nc[i]?=some x->(emb σ)[i]?=some (some v)->∃ j:Nat,X.N[j]?=some x/\σ[j]?=some (some v)/\scope.names.lookup x=some .free
section
variable {X:Cx}{pins:List (Addr×Obj)}{σ:St}{H:Hp}{s:Shared}{scope:Scope}{Nc:List Str}{emb:St->St}
theorem dc.clos (S:dc X scope Nc emb) (ok:X.Ok):∀ x ∈ scope.names,x.2=.free->∃ c,X.env.cells.lookup x.1=some c:=λx hx h=>ok.has x.1 (S.free x hx h)
theorem jC (S:dc X scope Nc emb) (I:Inv X pins σ H s) {fp:List Addr} (hf:∀ b ∈ fp,im X pins H b) (hfo:∀ b ∈ fp,∃ o,s.heap.get? b=some o) {lo:Obj} (hlo:∀ v,lo.data≠.cell v) (hfr:lo.isFreed=false) :
  Inv (lcX X scope (cellsFrom (s.heap.objs.size+2) scope.names (ba X.env.cells scope.names [])) Nc s H (s.heap.objs.size+1) fp) [(s.heap.objs.size,lo)] (emb σ) H
   { s with heap:=pushCells ((s.heap.push lo).push { cls:=.type "dict",data:=.dict #[] }) scope.names }:=by
 have hsz2:((s.heap.push lo).push { cls:=.type "dict",data:=.dict #[] }).objs.size=s.heap.objs.size+2:=by rw [Heap.size_push,Heap.size_push]
 have hsz1:(s.heap.push lo).objs.size=s.heap.objs.size+1:=by rw [Heap.size_push]
 have hk:∀ b o,s.heap.get? b=some o->(pushCells ((s.heap.push lo).push { cls:=.type "dict",data:=.dict #[] }) scope.names).get? b=some o:=λb o e=>
  pushCells_keeps _ _ b o (Heap.get?_push_of_some _ (Heap.get?_push_of_some _ e))
 have has:=S.clos I.ok
 have cl_old:∀ {x:Str}{c:Addr},(ba X.env.cells scope.names []).lookup x=some c->X.env.cells.lookup x=some c/\(x,NameKind.free) ∈ scope.names:=λ{x c} h=>by
  rcases dg _ _ h with q | ⟨q1,q2⟩
  ·cases q
  ·obtain⟨c',hc'⟩:=has _ q1 rfl
   have hc'':X.env.cells.lookup x=some c':=hc'
   rw [hc''] at q2
   exact⟨by rw [hc'',q2];rfl,q1⟩
 have cells_cases:∀ {x:Str}{c:Addr},(cellsFrom (s.heap.objs.size+2) scope.names (ba X.env.cells scope.names [])).lookup x=some c->
   (X.env.cells.lookup x=some c/\(x,NameKind.free) ∈ scope.names)\/((x,NameKind.cell) ∈ scope.names/\s.heap.objs.size+2<=c):=λ{x c} h=>by
  rcases cE _ _ _ h with q | q
  ·exact .inl (cl_old q)
  ·exact .inr q
 have oldlt:∀ {x:Str}{c:Addr},X.env.cells.lookup x=some c->c < s.heap.objs.size:=λ{x c} h=>by
  obtain⟨v,z⟩:=I.cell x c h
  exact z.lt
 have fplt:∀ b ∈ fp,b < s.heap.objs.size:=λb hb=>by obtain⟨o,e⟩:=hfo b hb;exact Heap.lt_size e
 have accmem:∀ p ∈ ba X.env.cells scope.names [],∃ x,X.env.cells.lookup x=some p.2:=by
  have key:∀ (names:List (Str×NameKind)) (acc:List (Str×Addr)),(∀ x ∈ names,x.2=.free->∃ c,X.env.cells.lookup x.1=some c)->(∀ p ∈ acc,∃ x,X.env.cells.lookup x=some p.2)->∀ p ∈ ba X.env.cells names acc,∃ x,X.env.cells.lookup x=some p.2:=by
   intro names
   induction names with
   | nil=>intro acc _ h;exact h
   | cons z r ih=>
    intro acc hn h
    obtain⟨m,k⟩:=z
    unfold ba
    by_cases hk:(k==.free)=true
    ·rw [if_pos hk]
     refine ih _ (λx hx=>hn x (List.mem_cons_of_mem _ hx)) λp hp=>?_
     rcases List.mem_cons.mp hp with e | hp
     ·obtain⟨c,hc⟩:=hn _ List.mem_cons_self (beq_iff_eq.mp hk)
      have hc':X.env.cells.lookup m=some c:=hc
      exact⟨m,by rw [e,hc'];rfl⟩
     ·exact h p hp
    ·rw [if_neg hk]
     exact ih _ (λx hx=>hn x (List.mem_cons_of_mem _ hx)) h
  exact key _ _ has λp hp=>nomatch hp
 refine⟨⟨I.ok.mod,S.kind,I.ok.glob,I.ok.blt,Nat.le_succ _,λx y c h1 h2=>?_,λx hx=>?_,λx c hx h=>?_,I.ok.hd,I.ok.frames,.inl rfl,λb hb=>?_,I.bs,Nat.le_trans I.ok.bsz I.sz,λb o e hb=>?_,λb hb=>?_,I.stack,I.stkFree⟩,
  rfl,I.bare,Un.kept hk,⟨_,(Heap.Ns.new (s.heap.push lo) (.type "dict")).keeps (pushCells_keeps _ _) |> λq=>by rw [hsz1] at q;exact q,λi x v h1 h2 _=>?_⟩,λx c h=>?_,I.hok.fresh (Nat.le_succ _),λx c h=>?_,λp hp=>?_,I.hok.kept hk,S.len σ I.len⟩
 ·-- inj
  have h1':(cellsFrom (s.heap.objs.size+2) scope.names (ba X.env.cells scope.names [])).lookup x=some c:=h1
  have h2':(cellsFrom (s.heap.objs.size+2) scope.names (ba X.env.cells scope.names [])).lookup y=some c:=h2
  rcases cells_cases h1' with⟨q1,_⟩ | ⟨_,q1⟩
  ·rcases cells_cases h2' with⟨q2,_⟩ | ⟨_,q2⟩
   ·exact I.ok.inj x y c q1 q2
   ·exact absurd (Nat.lt_of_lt_of_le (Nat.lt_succ_of_lt (Nat.lt_succ_of_lt (oldlt q1))) q2) (Nat.lt_irrefl _)
  ·refine gY scope.names _ _ (λp hp=>?_) h1' h2' q1
   obtain⟨z,hz⟩:=accmem p hp
   exact Nat.lt_succ_of_lt (Nat.lt_succ_of_lt (oldlt hz))
 ·-- has
  have hx':(relabel scope X.env).names.lookup x=some .cell\/(relabel scope X.env).names.lookup x=some .free:=hx
  have:∃ k0,scope.names.lookup x=some k0/\(k0=.cell\/k0=.free):=by
   rcases hx' with q | q
   ·obtain⟨k0,h1,h2⟩:=cn q
    exact⟨k0,h1,h2.elim (λe=>.inl e.symm) λe=>.inr e.1⟩
   ·obtain⟨k0,h1,h2⟩:=cn q
    exact⟨k0,h1,h2.elim (λe=>.inr e.symm) λe=>by cases e.2⟩
  obtain⟨k0,h1,h2⟩:=this
  refine Option.isSome_iff_exists.mp (PySem.W.cellsFrom_some scope.names _ _ ?_)
  rcases h2 with rfl | rfl
  ·exact .inl h1
  ·exact .inr (df _ _ (.inl (PySem.mem_of_lookup h1)))
 ·-- cab
  have hx':scope.names.lookup x=some .cell:=beq_iff_eq.mp hx
  rcases cells_cases h with⟨_,q⟩ | ⟨_,q⟩
  ·have:=cP S.nd q
   rw [hx'] at this;cases this
  ·exact Nat.le_trans (Nat.le_add_right _ 2) q
 ·-- exf
  refine⟨Nat.ne_of_lt (Nat.lt_succ_of_lt (fplt b hb)),λx c h=>?_⟩
  rcases cells_cases h with⟨q,_⟩ | ⟨_,q⟩
  ·exact (hf b hb).2.2.2.2.1 x c q
  ·intro e
   exact absurd (Nat.lt_of_lt_of_le (Nat.lt_succ_of_lt (Nat.lt_succ_of_lt (fplt b hb))) (e ▸ q)) (Nat.lt_irrefl _)
 ·-- noex
  have hb':b ∈ fp:=hb
  rcases (hf b hb').2.2.2.1 with q | q
  ·exact I.ok.noex b o e q
  ·exact absurd (Nat.lt_of_lt_of_le (Heap.lt_size (I.ok.bs b o e).1) q) (Nat.lt_irrefl _)
 ·-- exfs
  intro hb2
  rcases List.mem_cons.mp (I.stkSub b hb2) with q | q
  ·exact (hf b hb).2.1 q
  ·exact (hf b hb).2.2.1 q
 ·-- loc
  obtain⟨j,e1,e2,e3⟩:=S.emb σ I.len i x v h1 h2
  have kx:=S.free (x,.free) (PySem.mem_of_lookup e3) rfl
  have kx':X.env.kindOf x=some .cell\/X.env.kindOf x=some .free:=kx
  obtain⟨m,hn,hl⟩:=I.loc
  obtain⟨u,ru,lk⟩:=hl j x v e1 e2 (.inr kx')
  refine⟨u,ru,.inr ⟨?_,?_⟩⟩
  ·rcases dz (env:=X.env) e3 with q | q
   ·exact .inr q
   ·exact .inl q
  ·rcases lk with⟨z,_⟩ | ⟨_,c,hc,hcell⟩
   ·rcases kx' with q | q<;>(rw [z] at q;cases q)
   ·obtain⟨c',hc'⟩:=Option.isSome_iff_exists.mp (PySem.W.cellsFrom_some scope.names (s.heap.objs.size+2) (ba X.env.cells scope.names []) (x:=x) (.inr (df _ _ (.inl (PySem.mem_of_lookup e3)))))
    rcases cells_cases hc' with⟨q,_⟩ | ⟨q,_⟩
    ·rw [hc] at q
     cases q
     exact⟨c,hc',hcell.keeps hk⟩
    ·have:=cP S.nd q
     rw [e3] at this;cases this
 ·-- cell
  have h':(cellsFrom (s.heap.objs.size+2) scope.names (ba X.env.cells scope.names [])).lookup x=some c:=h
  have:=cK scope.names ((s.heap.push lo).push { cls:=.type "dict",data:=.dict #[] }) (ba X.env.cells scope.names []) (λp hp=>by
   obtain⟨z,hz⟩:=accmem p hp
   obtain⟨v,q⟩:=I.cell z p.2 hz
   exact⟨v,q.keeps λb o e=>Heap.get?_push_of_some _ (Heap.get?_push_of_some _ e)⟩) (x,c) (by rw [hsz2];exact PySem.mem_of_lookup h')
  exact this
 ·-- freeC
  rcases cells_cases h with⟨q,_⟩ | ⟨_,q⟩
  ·exact I.freeC x c q
  ·exact I.hok.fresh (Nat.le_trans (Nat.le_add_right _ 2) q)
 ·-- pin
  have hp':p=(s.heap.objs.size,lo):=by
   have:p ∈ ([]:List (Addr×Obj))++[(s.heap.objs.size,lo)]:=hp
   simpa using this
  subst hp'
  refine⟨pushCells_keeps _ _ _ _ (Heap.get?_push_of_some _ (Heap.get?_push_size _ hfr)),I.hok.fresh (Nat.le_refl _),Nat.ne_of_lt (Nat.lt_succ_self _),λhb=>?_,hlo⟩
  rcases List.mem_cons.mp (I.stkSub _ hb) with q | q
  ·exact absurd I.lt (by rw [<-q];exact Nat.lt_irrefl _)
  ·exact I.nofs (Nat.le_refl _) q
end
end L2
namespace L2
open PySem PySem.Spec PyProof.Rows
noncomputable def PTs (X:Cx) (ifs:List Expr) (t:TT):Prop:=
 ∀ (pins:List (Addr×Obj)) (s:Shared) (σ:St) (H:Hp) (Q:Bool->Hp->Prop),Inv X pins σ H s->t σ H Q->
  wpAny (model X.prog X.w) X.A (forIn ifs true λc r=>if r=true then do let ok <-isTrue c X.env (eval c X.env);pure (ForInStep.yield ok) else pure (ForInStep.yield r)) (TP X pins σ Q) X.xe s
noncomputable def sQ:TT:=λ_ H Q=>Q true H
theorem oj {X:Cx}:PTs X [] sQ:=λ_ _ _ H _ I h=>wpAny_tests_nil ⟨H,I,h⟩
noncomputable def Sub (σ σ':St):Prop:=σ.length=σ'.length/\∀ (i:Nat) (v:V),σ[i]?=some (some v)->σ'[i]?=some (some v)
noncomputable def sq (J:It) (σe:St) (g:TG) (tt:TT) (te:TE) (H1:Hp) (Q:VK):Prop:=∃ W:Nat->Nat->List V->Hp->Prop,(∃ m,W 0 m [] H1)/\∀ i m ys H,W i m ys H->
 (J.stop i H/\∀ D,H D=none->Q (.ref D) (upd H D (.lst ys)))\/
 (J.go i H/\ys.length < sizeLine/\∃ N:List V->Hp->Prop,(∀ ys' H',N ys' H'->∃ m',m' < m/\W (i+1) m' ys' H')/\∀ x H',J.yld i H x H'->g x σe H' λσ2 H2=>Sub σe σ2/\tt σ2 H2 λb H3=>if b=true then te σ2 H3 λv H4=>N (ys++[v]) H4 else N ys H3)
noncomputable def tLc (emb:St->St) (wi:TI) (g:TG) (tt:TT) (te:TE):TE:=λσ H Q=>wi σ H λJ H1=>sq J (emb σ) g tt te H1 Q
section
variable {X:Cx}{scope:Scope}{Nc:List Str}{emb:St->St}{elt iter tg:Expr}{ifs:List Expr}{pos:Pos}{wi:TI}{g:TG}{tt:TT}{te:TE}
theorem rY (S:dc X scope Nc emb) (hc:X.calm=true) (hi:PI X tg iter wi)
  (hg:∀ cells s H C fp,PG (lcX X scope cells Nc s H C fp) tg g) (ht:∀ cells s H C fp,PTs (lcX X scope cells Nc s H C fp) ifs tt) (he:∀ cells s H C fp,PE (lcX X scope cells Nc s H C fp) elt te)
  (hs:∀ x,foldedSetIterable iter X.env x=pure x:=by intro _;rfl):PE X (.ListComp elt [⟨tg,iter,ifs,0⟩] scope pos) (tLc emb wi g tt te):=by
 intro pins s σ H Q I h
 rw [eval_ListComp]
 refine wpAny_comprehension_free (use:=none) rfl hs (eg (S.clos I.ok)) S.kind (λx hx hl=>cP S.nd (by rw [<-hl];exact hx)) ?_
 refine thn (hi pins s σ H _ I h) λv s1 h1=>thn h1 λitv s2 h2=>?_
 obtain⟨it,fp,tn,J,H2,e,I2,T,st2,f2,W,⟨m0,w0⟩,turn⟩:=h2
 subst e
 refine wpAny_newObj_type (eL ?_)
 rw [show (s2.heap.push { cls:=.type "list",dict:=none,data:=.seq ([]:List Value).toArray }).objs.size=s2.heap.objs.size+1 from Heap.size_push ..]
 generalize hD:s2.heap.objs.size=D
 generalize hlo:({ cls:=.type "list",dict:=none,data:=.seq ([]:List Value).toArray }:Obj)=lo
 have fplt:∀ b ∈ fp,b < s2.heap.objs.size:=λb hb=>by obtain⟨o,e,_⟩:=T.obj _ _ st2 b hb;exact Heap.lt_size e
 have I3:=jC (lo:=lo) S I2 f2 (λb hb=>by obtain⟨o,e,_⟩:=T.obj _ _ st2 b hb;exact⟨o,e⟩) (by rw [<-hlo];intro v z;cases z) (by rw [<-hlo];rfl)
 rw [hD] at I3
 generalize hcells:cellsFrom (D+2) scope.names (ba X.env.cells scope.names [])=cells at I3
 generalize hX':lcX X scope cells Nc s2 H2 (D+1) fp=X' at I3
 have hfpX:∀ {H':Hp}{ps:List (Addr×Obj)},(∀ b ∈ fp,H' b=none)->(∀ p ∈ ps,p.1=D)->∀ b ∈ fp,im X' ps H' b:=λ{H' ps} hn hps b hb=>by
  have ok:=I3.ok
  refine⟨hn b hb,?_,?_,.inl (by rw [<-hX'];exact hb),?_,λp hp=>?_⟩
  ·exact (ok.exf b (by rw [<-hX'];exact hb)).1
  ·exact ok.exfs b (by rw [<-hX'];exact hb)
  ·exact (ok.exf b (by rw [<-hX'];exact hb)).2
  ·have hp':p ∈ ([]:List (Addr×Obj))++ps:=by rw [<-hX'] at hp;exact hp
   have e:p.1=D:=hps p (by simpa using hp')
   rw [e,<-hD]
   exact Nat.ne_of_gt (fplt b hb)
 have Dex:D ∈ X'.ex\/X'.s₀.heap.objs.size<=D:=.inr (by rw [<-hX',<-hD];exact Nat.le_refl _)
 have Dloc:D≠X'.env.locals:=by rw [<-hX'];exact Nat.ne_of_lt (Nat.lt_succ_self _)
 have pD:=I3.pin (D,lo) (by rw [<-hX'];exact List.mem_append_right _ List.mem_cons_self)
 have Dfs:D ∉ X'.fs:=pD.2.2.2.1
 have Dcell:∀ x c,X'.env.cells.lookup x=some c->c≠D:=λx c hc' e=>by
  obtain⟨v,o,ho,hd⟩:=I3.cell x c hc'
  rw [e,pD.1] at ho
  cases ho
  exact pD.2.2.2.2 v hd
 -- the loop
 have loop:∀ s3:Shared,s3={ s2 with heap:=pushCells ((s2.heap.push lo).push { cls:=.type "dict",data:=.dict #[] }) scope.names }->
   codeAny (model X.prog X.w) X.A (.compLoop (.ListComp elt [⟨tg,iter,ifs,0⟩] scope pos) 0 (.ref it) (.ref D) (compEnvC scope cells (D+1) X.env))
    (compPost (model X.prog X.w) X.A X.xe none (EP X pins σ Q) (.ref D) (D+1)) s3:=by
  rintro s3 rfl
  refine dL (λn s'=>∃ i ys its k H',Inv X' [(D,{ cls:=.type "list",data:=.seq its.toArray k })] (emb σ) H' s'/\aD ys its/\tn i s'.heap/\(∀ b ∈ fp,H' b=none)/\ys.length<=sizeLine/\W i n ys H') ?_ m0
   ⟨0,[],[],0,H2,?_,.nil,?_,λb hb=>(f2 b hb).1,Nat.zero_le _,w0⟩
  ·rintro n s4 ⟨i,ys,its,k,H4,I4,rv,st4,fr4,hlen,w4⟩
   have hps:∀ p ∈ [(D,({ cls:=.type "list",data:=.seq its.toArray k }:Obj))],p.1=D:=λp hp=>by
    have:=List.mem_singleton.mp hp
    rw [this]
   rcases turn i n ys H4 w4 with⟨stop,qn⟩ | ⟨go,hlt,N,hN,step⟩
   ·-- the end
    have TD:=T.done X' (by rw [<-hX'];rfl) (by rw [<-hX'];rfl) (by rw [<-hX'];rfl) (by rw [<-hX'];exact hc) i _ s4 (emb σ) H4 (λ_ _=>False) I4 (hfpX fr4 hps) st4 stop
    rw [show X'.A=X.A by rw [<-hX'];rfl] at TD
    refine thn TD λr s5 ⟨hr,I5⟩=>?_
    subst hr
    obtain⟨m5,hn5,_⟩:=id I5.loc
    have eC:X'.env.locals=D+1:=by rw [<-hX'];rfl
    rw [eC] at hn5
    refine⟨m5,hn5,λh' hsb=>?_⟩
    have pD5:=I5.pin (D,{ cls:=.type "list",data:=.seq its.toArray k }) (by rw [<-hX'];exact List.mem_append_right _ List.mem_cons_self)
    have neC:∀ b u,H4 b=some u->b≠D+1:=λb u e z=>by
     have:=I5.free
     rw [eC,<-z,e] at this
     cases this
    have hD4:H4 D=none:=pD5.2.1
    have un:=I5.base
    have un':Un (frs X.stack) fp H2 H4 s2.heap s5.heap:=by rw [<-hX'] at un;exact un
    have old_ne:∀ b o,s2.heap.get? b=some o->b≠D/\b≠D+1:=λb o e=>by
     have q:=Heap.lt_size e
     rw [hD] at q
     exact⟨Nat.ne_of_lt q,Nat.ne_of_lt (Nat.lt_succ_of_lt q)⟩
    have h2D:H2 D=none:=by rw [<-hD];exact I2.fresh
    have hok':HOk X.prog X.w H4 h':=λb u e=>by
     have ob:bK X.prog X.w H4 s5.heap b u:=by have:=I5.hok b u e;rw [<-hX'] at this;exact this
     refine ob.stay (λc v hcv q=>(hsb.2 c ?_).trans q) (λ_ q=>q) λ_ _ q=>q
     rcases hcv with z | z
     ·rw [z];exact neC b u e
     ·exact neC c _ z
    have hokD:HOk X.prog X.w (upd H4 D (.lst ys)) h':=λb u e=>by
     by_cases hb:b=D
     ·subst hb
      rw [aW] at e
      cases e
      exact⟨hlen,its,k,rv,(hsb.2 b (Nat.ne_of_lt (Nat.lt_succ_self _))).trans pD5.1⟩
     ·rw [aO hb] at e
      refine (hok' b u e).stay (λ_ _ _ q=>q) (λc q=>?_) λc z q=>?_
      all_goals first
       | (rw [aO (aU q hD4)];exact q)
       | (rw [aO (aU z hD4)];exact z)
    refine⟨.ref D,upd H4 D (.lst ys),?_,rfl,qn D hD4⟩
    refine I2.call' (s':={ s5 with heap:=h' }) (ch:=fp) ?_ ⟨λb o e nb hb hx=>?_,λb o e nb hb hx=>?_,λb o e nb hx=>?_,λb o e hx=>?_,λb xs e=>?_,λb o u e=>?_,λb ps e=>?_⟩ hokD I5.bare (λb hb=>?_)
    ·have:=I5.os
     rw [<-hX'] at this
     exact this
    ·exact (hsb.2 b (old_ne b o e).2).trans (un'.keep b o e nb hb hx)
    ·obtain⟨sl,q⟩:=un'.slot b o e nb hb hx
     exact⟨sl,(hsb.2 b (old_ne b o e).2).trans q⟩
    ·rw [aO (old_ne b o e).1]
     exact un'.free b o e nb hx
    ·obtain⟨o',q⟩:=un'.there b o e hx
     exact⟨o',(hsb.2 b (old_ne b o e).2).trans q⟩
    ·rw [aO (aU e h2D)]
     exact un'.tups b xs e
    ·rw [aO (aU e h2D)]
     exact un'.frzs b o u e
    ·obtain⟨m,q⟩:=un'.tbls b ps e
     exact⟨m,by rw [aO (aU e h2D)];exact q⟩
    ·obtain⟨q0,q1,q2,q3,q4,q5⟩:=f2 b hb
     exact⟨q3,q1,q4,q5⟩
   ·-- a turn
    have hA:X'.A=X.A:=by rw [<-hX'];rfl
    have hP:X'.prog=X.prog:=by rw [<-hX'];rfl
    have hw:X'.w=X.w:=by rw [<-hX'];rfl
    have hE:X'.env=compEnvC scope cells (D+1) X.env:=by rw [<-hX'];rfl
    have hxe:X'.xe=λ_ _=>False:=by rw [<-hX'];rfl
    have TI':=T.item X' hP hw (by rw [<-hX'];rfl) (by rw [<-hX'];exact hc) i _ s4 (emb σ) H4 (λ_ _=>False) I4 (hfpX fr4 hps) st4 go
    rw [hA] at TI'
    refine thn TI' λr s5 ⟨u,hr,h5⟩=>?_
    subst hr
    refine thn h5 λ_ s6 ⟨x,H6,I6,r6,y6,st6,fr6⟩=>?_
    have I6':=I6.pinned (hfpX fr6 hps) (T.obj _ _ st6)
    have G:=hg cells s2 H2 (D+1) fp
    have TT':=ht cells s2 H2 (D+1) fp
    have EE:=he cells s2 H2 (D+1) fp
    rw [hX'] at G TT' EE
    have G':=G _ s6 (emb σ) H6 x u _ I6' r6 (step x H6 y6)
    rw [hA,hP,hw,hE,hxe] at G'
    refine thn G' λ_ s7 ⟨σ7,H7,I7,sb7,q7⟩=>?_
    have T':=TT' _ s7 σ7 H7 _ I7 q7
    rw [hA,hP,hw,hE,hxe] at T'
    refine thn T' λok s8 ⟨H8,I8,q8⟩=>?_
    -- what is pinned
    have pin_fp:∀ {σ9:St}{H9:Hp}{s9:Shared},Inv X' ([(D,({ cls:=.type "list",data:=.seq its.toArray k }:Obj))]++eu fp s6.heap) σ9 H9 s9->tn (i+1) s9.heap/\∀ b ∈ fp,H9 b=none:=λ{σ9 H9 s9} I9=>
     ⟨T.keep _ _ _ st6 λb hb o e=>(I9.pin (b,o) (List.mem_append_right _ (List.mem_append_right _ (cD hb e)))).1,λb hb=>by
      obtain⟨o,e,_⟩:=T.obj _ _ st6 b hb
      exact (I9.pin (b,o) (List.mem_append_right _ (List.mem_append_right _ (cD hb e)))).2.1⟩
    cases ok with
    | false=>
     rw [if_neg (by decide)] at q8
     rw [if_neg (by decide)]
     obtain⟨m',hm,w8⟩:=hN _ _ q8
     exact⟨m',hm,i+1,ys,its,k,H8,I8.unpinned.weak sb7.1 sb7.2,rv,(pin_fp I8).1,(pin_fp I8).2,hlen,w8⟩
    | true=>
     rw [if_pos rfl] at q8
     rw [if_pos rfl]
     have E':=EE _ s8 σ7 H8 _ I8 q8
     rw [hA,hP,hw,hE,hxe] at E'
     refine thn E' λy s9 ⟨v9,H9,I9,r9,n9⟩=>?_
     obtain⟨m',hm,w9⟩:=hN _ _ n9
     have pD9:=I9.pin (D,{ cls:=.type "list",data:=.seq its.toArray k }) (List.mem_append_right _ (List.mem_append_left _ List.mem_cons_self))
     have hl:=rv.length
     have I9n:Inv X' [] σ7 H9 s9:=I9.pins_of λp hp=>nomatch hp
     refine call_meets F.slot_list_append ⟨_,pD9.1,rfl⟩ F.entry_list_append (F.args_list_append_2 _ _) (PySem.list_append D its.toArray k y (by rw [List.size_toArray];lia)) ⟨pD9.1,?_⟩
     have up:∃ k':Nat,(s9.heap.update D (Obj.mapSeq λxs=>xs.push y)).get? D=some { cls:=.type "list",data:=.seq (its++[y]).toArray k' }:=by
      have q:=PySem.IsL.update pD9.1 (λxs:Array Value=>xs.push y)
      simp only [List.push_toArray] at q
      exact⟨_,q⟩
     obtain⟨k',up⟩:=up
     have hoth:∀ b o,b≠D->s9.heap.get? b=some o->(s9.heap.update D (Obj.mapSeq λxs=>xs.push y)).get? b=some o:=λb o hb e=>(Heap.get?_update_other s9.heap _ (Ne.symm hb)).trans e
     have I10:=I9n.turned (t':=s9.toks) hoth pD9.2.1 Dloc Dex Dcell (λp hp=>absurd (show p ∈ ([]:List (Addr×Obj)) by rw [<-hX'] at hp;exact hp) (by simp))
     refine⟨m',hm,i+1,ys++[v9],its++[y],k',H9,(I10.weak sb7.1 sb7.2).pins_of (λp hp=>?_),rv.append (.cons r9 .nil),T.keep _ _ _ (pin_fp I9).1 (λb hb o e=>hoth b o (by rw [<-hD];exact Nat.ne_of_lt (fplt b hb)) e),(pin_fp I9).2,?_,w9⟩
     ·have:=List.mem_singleton.mp hp
      subst this
      exact⟨up,pD9.2.1,Dloc,Dfs,λv z=>by cases z⟩
     ·rw [List.length_append,List.length_singleton]
      lia
  ·have q:lo={ cls:=.type "list",data:=.seq ([]:List Value).toArray 0 }:=hlo.symm
   rw [<-q]
   exact I3
  ·exact T.keep _ _ _ st2 λb hb o e=>pushCells_keeps _ _ b o (Heap.get?_push_of_some _ (Heap.get?_push_of_some _ e))
 refine codeAny_compStart_list ?_ ?_
 ·exact loop _ rfl
 ·refine T.self X.A 0 _ _ _ (T.keep _ _ _ st2 λb hb o e=>pushCells_keeps _ _ b o (Heap.get?_push_of_some _ (Heap.get?_push_of_some _ e))) ?_
  exact loop _ rfl
end
end L2
namespace L2
open PySem PySem.Spec PyProof.Rows
open PySem.AutoSeq1 (wpAny_loadPart')
section
variable {prog:Program}{w:World}{A:Around}{E:Value->Shared->Prop}{s:Shared}
end
section
variable {X:Cx}{pins:List (Addr×Obj)}{σ:St}{H:Hp}{s:Shared}{h':Heap}{fp:List Addr}
end
end L2
namespace L2
open PySem PySem.Spec PyProof.Rows
section
variable {X:Cx}
theorem me:cp X (.builtin "all") (λxs H Q=>X.calm=true/\∃ (a:Addr) (bs:List Bool),xs=[.ref a]/\SqL X.K H a (bs.map V.bl)/\Q (.bl (bs.all id)) H):=by
 intro pins s σ H xs us Q I rv h
 obtain⟨hc,a,bs,rfl,hq,q⟩:=h
 cases rv with
 | cons r rr=>
  cases rr
  cases r
  obtain⟨its,rv,p,hz⟩:=I.list hq
  have hlt:a < s.heap.objs.size:=by obtain⟨_,_,e,_⟩:=p;exact Heap.lt_size e
  have hlen:its.length=bs.length:=by have:=rv.length;simpa using this.symm
  refine call_all_walk (wpAny_pyIter_list p.isList ?_)
  refine⟨s.heap.objs.size,_,_,_,_,_,λi=>(bs[i]?).getD true,rfl,Walks.list (A:=X.A.in1) (I.ok.hd hc) s.heap.objs.size a (Nat.ne_of_lt hlt) its.toArray,⟨⟨_,Heap.get?_push_size _ rfl,rfl,rfl⟩,p.isList.push _⟩,?_,λh' tk hk=>?_⟩
  ·intro i v s' Q' E' hv hQ'
   have hv':its[i]?=some v:=by simpa using hv
   have hi:i < its.length:=(List.getElem?_eq_some_iff.mp hv').1
   obtain⟨b,hb⟩:∃ b,bs[i]?=some b:=⟨bs[i]'(by lia),by simp [show i < bs.length by lia]⟩
   have:(bs.map V.bl)[i]?=some (.bl b):=by rw [List.getElem?_map,hb];rfl
   obtain⟨u,hu,ru⟩:=rv.get this
   rw [hv'] at hu
   cases hu
   cases ru
   have hQ2:Q' ((bs[i]?).getD true) s':=hQ'
   rw [hb] at hQ2
   exact wpAny_truthy_bool hQ2
  ·refine⟨.bl (bs.all id),H,I.kept (t':=tk) (λb o e=>hk b o (λz=>absurd (Heap.lt_size e) (by rw [List.mem_singleton.mp z];exact Nat.lt_irrefl _)) (Heap.get?_push_of_some _ e)),?_,q⟩
   show Value.bool _=Value.bool _
   congr 1
   have:∀ n,n=bs.length->((List.range n).all λi=>(bs[i]?).getD true)=bs.all id:=by
    intro n hn
    rw [Bool.eq_iff_iff,List.all_eq_true,List.all_eq_true]
    constructor
    ·intro h b hb
     obtain⟨i,hi,e⟩:=List.mem_iff_getElem.mp hb
     have:=h i (List.mem_range.mpr (by lia))
     simp [hi,e] at this
     exact this
    ·intro h i hi
     have hi':=List.mem_range.mp hi
     have hlt':i < bs.length:=by lia
     simp [hlt']
     exact h _ (List.getElem_mem _)
   exact this _ (by simpa using hlen)
end
end L2
namespace L2
open PySem PySem.Spec PyProof.Rows
noncomputable def dC (k:Nat) (js:List Nat) (σ:St):St:=List.replicate k none++js.map λj=>(σ[j]?).getD none
noncomputable def qT (scope:Scope) (ns:List (Str×NameKind)) (N Nc:List Str) (k:Nat) (js:List Nat):Bool:=
 decide ((scope.names.map (·.1)).Nodup) && decide Nc.Nodup && decide (Nc.length=k+js.length) &&
 (scope.names.all λx=>x.2 != .free || ns.lookup x.1==some .cell || ns.lookup x.1==some .free) &&
 ((List.range js.length).all λi=>match Nc[k+i]?,js[i]? with | some x,some j=>N[j]?==some x && scope.names.lookup x==some .free | _,_=>false)
theorem fG {X:Cx}{scope:Scope} (ns:List (Str×NameKind)) (N Nc:List Str) (k:Nat) (js:List Nat) (hns:X.env.scope.names=ns) (hN:X.N=N) (hk:scope.kind=.function) (h:qT scope ns N Nc k js=true):dc X scope Nc (dC k js):=by
 unfold qT at h
 simp only [Bool.and_eq_true,decide_eq_true_eq] at h
 obtain⟨⟨⟨⟨h1,h2⟩,h3⟩,h4⟩,h5⟩:=h
 refine⟨hk,h1,h2,λx hx hf=>?_,λσ _=>?_,λσ _ i x v e1 e2=>?_⟩
 ·have:=List.all_eq_true.mp h4 x hx
  rw [hf] at this
  simp only [Bool.or_eq_true,beq_iff_eq,bne_self_eq_false,Bool.false_eq_true,false_or] at this
  unfold Env.kindOf
  rw [hns]
  exact this
 ·unfold dC
  rw [List.length_append,List.length_replicate,List.length_map,h3]
 ·unfold dC at e2
  by_cases hi:i < k
  ·rw [List.getElem?_append_left (by simpa using hi),List.getElem?_replicate,if_pos hi] at e2
   cases e2
  ·rw [List.getElem?_append_right (by simpa using hi),List.length_replicate,List.getElem?_map] at e2
   cases ej:js[i - k]? with
   | none=>rw [ej] at e2;cases e2
   | some j=>
    rw [ej] at e2
    have hlt:=(List.getElem?_eq_some_iff.mp ej).1
    have:=List.all_eq_true.mp h5 (i - k) (List.mem_range.mpr hlt)
    rw [show k+(i - k)=i by lia,e1,ej] at this
    simp only [Bool.and_eq_true,beq_iff_eq] at this
    refine⟨j,by rw [hN];exact this.1,?_,this.2⟩
    have e3:(σ[j]?).getD none=some v:=Option.some.inj e2
    cases eq:σ[j]? with
    | none=>rw [eq] at e3;cases e3
    | some o=>rw [eq] at e3;rw [show o=some v from e3]
section
variable {σe tl:St}{tt:TT}{te:TE}{H:Hp}{Q:VK}
end
section
variable {X:Cx}
theorem nG:OpR X (binaryOp .Mult) (rI IntMulOk λi j=>.int (i*j)):=opI λ_ _ _ _ _ _ _ hc q=>mul_int q hc
end
theorem aM.new {H:Hp}{p:Addr} (h:H p=none) (o:HO):aM H (upd H p o):=λb u q=>by rw [aO (aU q h)];exact q
end L2
namespace L2
open PySem PySem.Spec PyProof.Rows
theorem i0 {n:Nat} (h:n<=1000):n<=sizeLine:=Nat.le_of_lt (hX h)
end L2
namespace L2
open PySem PySem.Spec PyProof.Rows
theorem rz:IntMulOk (10 ^ Int.toNat 60) (10 ^ Int.toNat 60):=by unfold IntMulOk;decide +kernel
theorem qW:IntMulOk (10 ^ Int.toNat 60*10 ^ Int.toNat 60) (10 ^ Int.toNat 60):=by unfold IntMulOk;decide +kernel
theorem rM:IntMulOk (10 ^ Int.toNat 60*10 ^ Int.toNat 60*10 ^ Int.toNat 60) (10 ^ Int.toNat 60):=by unfold IntMulOk;decide +kernel
theorem iH:(0:Int) < 10 ^ Int.toNat 60*10 ^ Int.toNat 60*10 ^ Int.toNat 60*10 ^ Int.toNat 60:=by decide +kernel
theorem rF (b:Bool):-(2 ^ 64) < (if b=true then (1:Int) else 0):=by cases b<;>decide
theorem rm (b:Bool):(if b=true then (1:Int) else 0) < 2 ^ 64:=by cases b<;>decide
theorem oS (b:Bool):0<=(if b=true then (1:Int) else 0):=by cases b<;>decide
theorem p60:gW 10 60:=⟨by decide,by decide,by decide⟩
theorem p18:gW 10 18:=⟨by decide,by decide,by decide⟩
end L2
namespace L2
open PySem PySem.Spec PyProof.Rows
open PySem.AutoSeq1 (wpAny_loadPart')
theorem md (l:Addr) (items:Array Value) (n:Nat) (dct:Option Addr) (sl:Array (Option Value)) (u:Tok) :
  Meets (Builtin.«tuple.__mul__» ⟨[.ref l,.int 1 u],[]⟩) (λ_ R s=>s.heap.get? l=some { cls:=.type "tuple",dict:=dct,data:=.seq items n,slots:=sl }/\R (.ok (.ret (.ref l))) s):=
 .of_wp λprog w A R s h=>by
  obtain⟨hp,g,d,tk,os⟩:=s;obtain⟨hl,h⟩:=h
  wp_walk using wpAny_loadPart' hl
  exact⟨_,rfl,h⟩
theorem kW (l:Addr) (items:Array Value) (n:Nat) (dct:Option Addr) (sl:Array (Option Value)) (x:Int) (u:Tok) (h2:2<=x) (h3:x < 1000) (he:items.isEmpty=false) (hz:items.size<=1000)
  (hsz:((List.replicate x.toNat items).foldl (λx1 x2=>x1++x2) #[]).size<=sizeLine) :
  Meets (Builtin.«tuple.__mul__» ⟨[.ref l,.int x u],[]⟩) (λ_ R s=>s.heap.get? l=some { cls:=.type "tuple",dict:=dct,data:=.seq items n,slots:=sl }/\
   R (.ok (.ret (.ref s.heap.objs.size))) { s with heap:=s.heap.push { cls:=.type "tuple",data:=.seq ((List.replicate x.toNat items).foldl (λx1 x2=>x1++x2) #[]) } }):=
 .of_wp λprog w A R s h=>by
  obtain⟨hp,g,d,tk,os⟩:=s;obtain⟨hl,h⟩:=h
  have c1:(x < -(2 ^ 63) || x>=2 ^ 63)=false:=by simp;lia
  have c2:(items.isEmpty || x==1)=false:=by rw [he];simp;lia
  have c3:(x<=0 || items.isEmpty)=false:=by rw [he];simp;lia
  have hpr:(items.size:Int)*x<=1000000:=by
   have a1:(items.size:Int)*x<=1000*x:=Int.mul_le_mul_of_nonneg_right (by lia) (by lia)
   lia
  have c4:¬ ((items.size:Int)*x > (2 ^ 63 - 1) / 8):=by lia
  have c5:Builtin.Tuple.tupleTooMany ((items.size:Int)*x)=false:=by
   unfold Builtin.Tuple.tupleTooMany
   exact decide_eq_false (by have:(sizeLine:Nat)=16777216:=rfl
                             lia)
  wp_walk using wpAny_loadPart' hl
  refine wpAny_ite_false (decide_eq_false (by rw [c1];exact Bool.false_ne_true)) ?_
  wp_walk using wpAny_loadPart' hl
  refine wpAny_ite_false (decide_eq_false (by rw [c2];exact Bool.false_ne_true)) ?_
  wp_walk using wpAny_loadPart' hl
  refine wpAny_ite_false (decide_eq_false (by rw [c3];exact Bool.false_ne_true)) ?_
  wp_walk using wpAny_loadPart' hl
  refine wpAny_ite_false (decide_eq_false c4) ?_
  wp_walk using wpAny_loadPart' hl
  exact⟨_,rfl,h⟩
theorem fD:fillsNumberSlot (.type "tuple") "mul" = pure false:=
 PySem.fillsNumberSlot_seq (id:="tuple.__mul__") (r:=some (.builtin "tuple.__rmul__")) F.slot_tuple_mul.lookup (by decide +kernel) F.slot_tuple_rmul.lookup (by decide +kernel)
theorem iF:seqRepeat? (.type "tuple")=pure (some (.builtin "tuple.__mul__")):=by
 unfold seqRepeat?
 rw [PySem.seqSlot_of (T:="tuple") (name:="__mul__") (id:="tuple.__mul__") F.slot_tuple_mul.lookup (by decide +kernel),PySem.seqSlot_of (T:="tuple") (name:="__rmul__") (id:="tuple.__rmul__") F.slot_tuple_rmul.lookup (by decide +kernel)]
 rfl
theorem gg (a:Int) (t:Tok) (l:Addr) (items:Array Value) (n:Nat) (dct:Option Addr) (sl:Array (Option Value)) :
  Meets (Builtin.«int.__rmul__» ⟨[.int a t,.ref l],[]⟩) (λ_ R s=>s.heap.get? l=some { cls:=.type "tuple",dict:=dct,data:=.seq items n,slots:=sl }/\R (.ok (.ret Value.notImplemented)) s):=
 .of_wp λprog w A R s h=>by obtain⟨hp,g,d,tk,os⟩:=s;obtain⟨hl,h⟩:=h;wp_walk using wpAny_loadPart' hl;exact⟨_,rfl,h⟩
section
variable {X:Cx}
noncomputable def qU (K:PySem.W.Frag):R2:=λx y H Q=>∃ l k xs,x=.ref l/\y=.int k/\SqT K H l xs/\xs≠[]/\xs.length<=1000/\1<=k/\k < 1000/\(k=1->Q (.ref l) H)/\
 (k≠1->∀ p,H p=none->Q (.ref p) (upd H p (.tup (List.replicate k.toNat xs).flatten)))
theorem nH:OpR X (binaryOp .Mult) (qU X.K):=by
 intro pins s σ H x y v u Q I rx ry h
 obtain⟨l,k,xs,rfl,rfl,hq,hne,hl1,h1,h2,q1,q2⟩:=h
 cases rx
 obtain⟨t,rfl⟩:=ry
 obtain⟨its,rv,p,hz⟩:=I.tuple hq
 obtain⟨⟨c,dct,dt,sl⟩,e,hc,n,hd⟩:=p
 replace hc:c=.type "tuple":=hc
 replace hd:dt=.seq its.toArray n:=hd
 subst hc hd
 have hlen:=rv.length
 refine wpAny_binaryOp_repeat_ref (T:="tuple") (U:="int") (by decide) ⟨_,e,rfl⟩ (λs'=>typeIs_int s' k t) fD F.fills_int_mul F.slot_int_rmul iF F.slot_int_index.lookup
  (call_meets F.slot_int_rmul (typeIs_int s k t) F.entry_int_rmul (F.args_int_rmul_2 _ _) (gg k t l its.toArray n dct sl) ⟨e,rfl,⟨_,e,rfl⟩,?_⟩)
 by_cases hk:k=1
 ·subst hk
  exact call_meets F.slot_tuple_mul ⟨_,e,rfl⟩ F.entry_tuple_mul (F.args_tuple_mul_2 _ _) (md l its.toArray n dct sl t) ⟨e,.ref l,H,I,rfl,q1 rfl⟩
 ·have f0:List.foldl (λx1 x2=>x1++x2) #[] (List.replicate k.toNat its.toArray)=(List.replicate k.toNat its).flatten.toArray:=by
   have:=fu its k.toNat []
   rw [List.nil_append] at this
   exact this
  have hsz:(List.replicate k.toNat xs).flatten.length<=sizeLine:=by
   rw [iw]
   have:k.toNat*xs.length<=1000*1000:=Nat.mul_le_mul (by lia) hl1
   have hs:sizeLine=16777216:=rfl
   lia
  have hsz2:(List.replicate k.toNat its).flatten.length<=sizeLine:=by
   rw [iw] at hsz ⊢
   rw [<-hlen];exact hsz
  refine call_meets F.slot_tuple_mul ⟨_,e,rfl⟩ F.entry_tuple_mul (F.args_tuple_mul_2 _ _) (kW l its.toArray n dct sl k t (by lia) h2 ?_ (by rw [List.size_toArray];lia) (by rw [f0,List.size_toArray];exact hsz2)) ⟨e,?_⟩
  ·cases its with
   | nil=>cases xs with
    | nil=>exact absurd rfl hne
    | cons _ _=>cases hlen
   | cons _ _=>rfl
  ·rw [f0]
   refine⟨.ref _,_,I.laid (t':=s.toks) (o:=.tup (List.replicate k.toNat xs).flatten) (λ_ _ q=>Heap.get?_push_of_some _ q) (Nat.le_refl _) ⟨hsz,(List.replicate k.toNat its).flatten,rv.rep k.toNat,⟨_,Heap.get?_push_size _ rfl,rfl,⟨0,rfl⟩,rfl⟩⟩,rfl,q2 hk _ I.fresh⟩
end
end L2
namespace L2
open PySem PySem.Spec PyProof.Rows
end L2
namespace L2
open PySem PySem.Spec PyProof.Rows
section
variable {X:Cx}{K:PySem.W.Frag}
theorem rq (hc:X.calm=true:=by rfl) (hK:X.K=K:=by rfl):cp X (.builtin "all") (λxs H Q=>∃ (a:Addr) (bs:List Bool),xs=[.ref a]/\SqL K H a (bs.map V.bl)/\Q (.bl (bs.all id)) H):=by
 subst hK
 intro pins s σ H xs us Q I rv h
 exact me pins s σ H xs us Q I rv ⟨hc,h⟩
end
end L2
namespace L2
open PySem PySem.Spec PyProof.Rows
section
variable {X:Cx}
end
end L2
namespace L2
open PySem PySem.Spec PyProof.Rows
theorem i4 {n j:Nat} (h:j < n):ixN n (j:Int)=some j:=by
 unfold ixN
 rw [if_pos (by lia),if_pos (by lia),Int.toNat_natCast]
end L2
namespace L2
open PySem PySem.Spec PyProof.Rows
theorem Inv.bigG {X:Cx}{pins:List (Addr×Obj)}{σ:St}{H:Hp}{s:Shared} (I:Inv X pins σ H s):sysModules < s.heap.objs.size:=by
 have h:mainGlobals < s.heap.objs.size:=(I.mod.glob.keeps I.bk).lt
 exact Nat.lt_trans (by decide) h
section
variable {X:Cx}{e:Expr}{ty:TE}{p1 p2 p3 p4 dpos apos cpos:Pos}{j1 j2 j3 j4:Nat}
end
end L2
namespace L2
open PySem PySem.Spec PyProof.Rows
end L2
namespace L2
open PySem PySem.Spec PyProof.Rows
open PySem.AutoSeq1 (wpAny_loadPart')
section
variable {prog:Program}{w:World}{A:Around}{E:Value->Shared->Prop}{s:Shared}
end
section
variable {X:Cx}
end
section
variable {prog:Program}{w:World}{A:Around}{E:Value->Shared->Prop}{s:Shared}
end
section
variable {X:Cx}{e:Expr}{te:TE}{p1 p2 p3 pos:Pos}{j:Nat}
end
end L2
namespace L2
open PySem PySem.Spec PyProof.Rows
end L2
namespace L2
open PySem PySem.Spec PyProof.Rows
theorem aD.at {xs:List V}{us:List Value} (r:aD xs us):∀ (j:Nat) (h:j < us.length) ,∃ h':j < xs.length,aB xs[j] us[j]:=by
 induction r with
 | nil=>intro j h;exact absurd h (Nat.not_lt_zero j)
 | cons a t ih=>
  intro j h
  cases j with
  | zero=>exact⟨Nat.zero_lt_succ _,a⟩
  | succ j=>
   obtain⟨h1,r1⟩:=ih j (Nat.lt_of_succ_lt_succ h)
   exact⟨Nat.succ_lt_succ h1,r1⟩
theorem gz (e:Nat->Bool) (n:Nat):(List.range (n+1)).all e=(e 0 && (List.range n).all λj=>e (j+1)):=by
 rw [List.range_succ_eq_map,List.all_cons,List.all_map];rfl
section
variable {X:Cx}{K:PySem.W.Frag}{pins:List (Addr×Obj)}{σ:St}{H:Hp}{s:Shared}{A:Around}{a b:Addr}{xs ys:List V}
end
end L2
namespace L2
open PySem PySem.Spec PyProof.Rows
section
variable {X:Cx}{pos p1 p2:Pos}{j1 j2:Nat}
noncomputable def tD0:TE:=λ_ H Q=>∀ p,H p=none->Q (.ref p) (upd H p (.dT []))
theorem so:PE X (.Dict [] [] pos) tD0:=λpins s σ H Q I h=>
 wpAny_Dict_empty ⟨.ref s.heap.objs.size,_,I.laid (a:=s.heap.objs.size) (o:=.dT []) (t':=s.toks) (λ_ _ q=>Heap.get?_push_of_some _ q) (Nat.le_refl _)
  ⟨Nat.zero_le _,beq_eq_false_iff_ne.mpr (Ne.symm (Nat.ne_of_lt I.bigG)),[],.nil,_,#[],0,Heap.get?_push_size _ rfl,⟨rfl,rfl,rfl⟩,rfl,rfl,List.nodup_nil⟩,rfl,h _ (I.hok.fresh (Nat.le_refl _))⟩
end
section
variable {K:PySem.W.Frag}{H:Hp}
end
section
variable {X:Cx}{K:PySem.W.Frag}
end
end L2
namespace HT
open PySem PySem.Spec PyProof.Rows L2
section
variable {prog:Program}{w:World}{A:Around}{E:Value->Shared->Prop}{s:Shared}
end
end HT
namespace L2
open PySem PySem.Spec PyProof.Rows
end L2
namespace L2
open PySem PySem.Spec PyProof.Rows
section
variable {X:Cx}{scope:Scope}{Nc:List Str}{emb:St->St}{elt iter tg:Expr}{ifs:List Expr}{pos:Pos}{wi:TI}{g:TG}{tt:TT}{te:TE}
end
end L2
namespace L2
open PySem PySem.Spec PyProof.Rows
noncomputable def ar:Expr->Bool
 | .Starred _ _=>false
 | _=>true
theorem aT {e:Expr}{es:List Expr}{env:Env} (h:ar e=true):starEach (e::es) env=(false,eval e env)::starEach es env:=by
 cases e<;>first | (cases h;done) | rfl
theorem bt {pos:Pos}{env:Env}:∀ {es:List Expr},es.all ar=true->(backTo pos (starEach es env)).any (·.1)=false
 | [],_=>by simp [starEach,backTo]
 | e::es,h=>by
  rw [List.all_cons,Bool.and_eq_true] at h
  rw [aT h.1]
  have:=bt (pos:=pos) (env:=env) h.2
  unfold backTo at this ⊢
  rw [List.map_cons,List.any_cons,this]
  rfl
theorem eR {pos:Pos}{env:Env}{es:List Expr} (h:es.all ar=true) (hl:es.length < 30):((backTo pos (starEach es env)).all (λx=>!x.1) && (backToKw pos (keywordEach [] env)).all (λx=>x.1.isSome)
   && decide (es.length+([]:List Keyword).length+(if ([]:List Keyword).isEmpty then 0 else 1) < 30))=true:=by
 have h1:(backTo pos (starEach es env)).all (λx=>!x.1)=true:=by
  have:=bt (pos:=pos) (env:=env) h
  rw [List.all_eq_true]
  intro x hx
  rw [List.any_eq_false] at this
  simpa using this x hx
 have h2:(backToKw pos (keywordEach [] env)).all (λx=>x.1.isSome)=true:=by simp [keywordEach,backToKw]
 rw [h1,h2]
 simpa using hl
theorem ja {e:Expr}{env:Env} (h:ar e=true):starEach [e] env=[(false,eval e env)]:=by rw [aT h];rfl
theorem kf {pos:Pos}{e:Expr}{env:Env} (h:ar e=true):backTo pos (starEach [e] env)=[(false,eval e env)]:=by rw [ja h];rfl
noncomputable def mY:Expr->Bool
 | .UnaryOp .Not _ _=>false
 | .BoolOp _ _ _=>false
 | .IfExp _ _ _ _=>false
 | .Compare _ _ _ _=>false
 | _=>true
theorem lh {a:Expr}{env:Env} (h:mY a=true):∀ whole,PySem.isTrue a env whole=(do let v <-whole;standAt a.pos;holding [v] (truthy v)):=by
 intro whole
 cases a with
 | UnaryOp op x p=>cases op<;>first | (cases h;done) | rfl
 | BoolOp _ _ _=>cases h
 | IfExp _ _ _ _=>cases h
 | Compare _ _ _ _=>cases h
 | _=>rfl
theorem ml {t:Expr}{ts:List Expr}{env:Env} (h:ar t=true):assignEach (t::ts) env=(false,assign t env)::assignEach ts env:=by
 cases t<;>first | (cases h;done) | rfl
theorem nQ {t:Expr}{ts:List Expr}{env:Env} (h:ar t=true):(assignEach (t::ts) env).map (·.2)=assign t env::(assignEach ts env).map (·.2):=by rw [ml h];rfl
theorem oK {t:Expr}{env:Env} (h:ar t=true):(assignEach [t] env).map (·.2)=[assign t env]:=by rw [nQ h];simp [assignEach]
noncomputable def gE:Expr->Bool
 | .Slice _ _ _ _=>false
 | _=>true
theorem nI {o i:Expr}{pos:Pos}{env:Env} (h:gE i=true) (v:Value):assign (.Subscript o i pos) env v=(do
   let ov <-holding [v] (eval o env)
   let iv <-holding [v,ov] (eval i env)
   standAt pos
   holding [v,ov,iv] (setItem ov iv v)
   release [v,ov,iv] []):=by
 cases i<;>first | (cases h;done) | rfl
theorem jA {i:Expr} (h:gE i=true):kl i:=by
 intro o j
 cases i<;>first | (cases h;done) | rfl
end L2
namespace L2
open PySem PySem.Spec PyProof.Rows
inductive D where
 | non | bl (b:Bool) | int (i:Int) | str (x:Str) | ty (n:String) | dct | scr (ns:List Int) | tup (ds:List D) | lst (ds:List D)
 deriving Inhabited
inductive W where
 | d (x:D) | h (n:Nat)
 deriving Inhabited
inductive C where
 | l (ds:List D) | n (ws:List W) | m (kvs:List (List Int×D)) | k (kvs:List (Int×D))
 deriving Inhabited
abbrev Sto:=List C
noncomputable def lg (st:Sto) (n:Nat):Option (List D):=match st[n]? with
 | some (.l ds)=>some ds
 | _=>none
noncomputable def tD (l:List Int):List Key:=l.map Sum.inl
abbrev Ev:=List (Option W)
noncomputable def KLs (K:PySem.W.Frag) (a:Addr) (xs:List V):Prop:=
 ∃ (o:Obj) (its:Array Value) (n:Nat),K.lookup a=some o/\o.cls=.type "list"/\o.dict=none/\o.data=.seq its n/\its.size<=sizeLine/\aD xs its.toList
section
variable (K:PySem.W.Frag) (H:Hp) (φ:List Addr)
mutual
noncomputable def Rl:D->V->Prop
 | .non,v=>v=.non
 | .bl b,v=>v=.bl b
 | .int i,v=>v=.int i
 | .str x,v=>v=.str x
 | .ty n,v=>v=.ty n
 | .dct,v=>∃ a,v=.ref a/\a ∉ φ/\((∃ d,H a=some (.dK d))\/∃ d,H a=some (.dT d))
 | .scr ns,v=>∃ a,v=.ref a/\((∃ o,H a=some (.frz o (.lst (ns.map V.int))))\/KLs K a (ns.map V.int))
 | .tup ds,v=>∃ a vs,v=.ref a/\H a=some (.tup vs)/\Rls ds vs
 | .lst ds,v=>∃ a vs,v=.ref a/\a ∉ φ/\Rd H a (.lst vs)/\Rls ds vs
noncomputable def Rls:List D->List V->Prop
 | [],vs=>vs=[]
 | d::ds,vs=>∃ v r,vs=v::r/\Rl d v/\Rls ds r
end
noncomputable def Rw:W->V->Prop
 | .d x,v=>Rl K H φ x v
 | .h n,v=>∃ a,φ[n]?=some a/\v=.ref a
noncomputable def Rws:List W->List V->Prop
 | [],vs=>vs=[]
 | d::ds,vs=>∃ v r,vs=v::r/\Rw K H φ d v/\Rws ds r
noncomputable def Rkv:List (List Int×D)->List (List Key×V)->Prop
 | [],vs=>vs=[]
 | (k,d)::ds,vs=>∃ v r,vs=(tD k,v)::r/\Rl K H φ d v/\Rkv ds r
noncomputable def Rkk:List (Int×D)->List (Key×V)->Prop
 | [],vs=>vs=[]
 | (k,d)::ds,vs=>∃ v r,vs=(Sum.inl k,v)::r/\Rl K H φ d v/\Rkk ds r
noncomputable def Rc (k:Nat) (a:Addr):C->Prop
 | .l ds=>∃ vs,H a=some (.lst vs)/\Rls K H φ ds vs
 | .n ws=>∃ vs,H a=some (.lst vs)/\Rws K H φ ws vs/\∀ m,W.h m ∈ ws->m < k
 | .m kvs=>∃ vs,H a=some (.dT vs)/\Rkv K H φ kvs vs
 | .k kvs=>∃ vs,H a=some (.dK vs)/\Rkk K H φ kvs vs
structure Sr (st:Sto):Prop where
 nd:φ.Nodup
 len:φ.length=st.length
 at_:∀ (n:Nat) a c,φ[n]?=some a->st[n]?=some c->Rc K H φ n a c
structure Er (env:Ev) (σ:St):Prop where
 len:env.length=σ.length
 at_:∀ (i:Nat) w,env[i]?=some (some w)->∃ v,σ[i]?=some (some v)/\Rw K H φ w v
end
structure Fw (φ φ':List Addr) (H H':Hp):Prop where
 ext:∃ ψ,φ'=φ++ψ/\∀ a ∈ ψ,H a=none
 keep:∀ b o,b ∉ φ->H b=some o->H' b=some o
 there:∀ b o,H b=some o->∃ o',H' b=some o'
section
variable {K:PySem.W.Frag}{H H1 H2 H':Hp}{φ φ1 φ2 φ':List Addr}{st st':Sto}
theorem Fw.refl (φ:List Addr) (H:Hp):Fw φ φ H H:=⟨⟨[],by simp,by simp⟩,λ_ _ _ h=>h,λ_ o h=>⟨o,h⟩⟩
theorem Fw.trans (a:Fw φ φ1 H H1) (b:Fw φ1 φ2 H1 H2):Fw φ φ2 H H2:=by
 obtain⟨ψ,rfl,e1⟩:=a.ext
 obtain⟨ψ2,rfl,e2⟩:=b.ext
 refine⟨⟨ψ++ψ2,by rw [List.append_assoc],λc hc=>?_⟩,λc o hc h=>?_,λc o h=>?_⟩
 ·rcases List.mem_append.mp hc with z | z
  ·exact e1 c z
  ·cases q:H c with
   | none=>rfl
   | some o=>
    obtain⟨o',q'⟩:=a.there c o q
    rw [e2 c z] at q';cases q'
 ·refine b.keep c o (λz=>?_) (a.keep c o hc h)
  rcases List.mem_append.mp z with z | z
  ·exact hc z
  ·rw [e1 c z] at h;cases h
 ·obtain⟨o',q⟩:=a.there c o h
  exact b.there c o' q
theorem Fw.same (s:aM H H'):Fw φ φ H H':=⟨⟨[],by simp,by simp⟩,λb o _ h=>s b o h,λb o h=>⟨o,s b o h⟩⟩
theorem Fw.new {p:Addr}{o:HO} (hp:H p=none):Fw φ φ H (upd H p o):=.same (aM.new hp o)
theorem Fw.get (f:Fw φ φ' H H') {n:Nat}{a:Addr} (h:φ[n]?=some a):φ'[n]?=some a:=by
 obtain⟨ψ,rfl,_⟩:=f.ext
 rw [List.getElem?_append_left (List.getElem?_eq_some_iff.mp h).1];exact h
theorem Fw.nin (f:Fw φ φ' H H') {a:Addr}{o:HO} (h:a ∉ φ) (q:H a=some o):a ∉ φ':=by
 obtain⟨ψ,rfl,e⟩:=f.ext
 intro z
 rcases List.mem_append.mp z with z | z
 ·exact h z
 ·rw [e a z] at q;cases q
noncomputable def sw:HO->Bool
 | .lst _=>true
 | .dT _=>true
 | .dK _=>true
 | _=>false
theorem Rc.ob {k:Nat}{a:Addr}{c:C} (h:Rc K H φ k a c):∃ o,H a=some o/\sw o=true:=by
 cases c with
 | l ds=>obtain⟨vs,q,_⟩:=h;exact⟨_,q,rfl⟩
 | n ds=>obtain⟨vs,q,_⟩:=h;exact⟨_,q,rfl⟩
 | m ds=>obtain⟨vs,q,_⟩:=h;exact⟨_,q,rfl⟩
 | k ds=>obtain⟨vs,q,_⟩:=h;exact⟨_,q,rfl⟩
theorem Sr.lst (S:Sr K H φ st) {a:Addr} (h:a ∈ φ):∃ o,H a=some o/\sw o=true:=by
 obtain⟨n,hn,e⟩:=List.mem_iff_getElem.mp h
 have hs:n < st.length:=by rw [<-S.len];exact hn
 exact (S.at_ n a st[n] (by rw [List.getElem?_eq_getElem hn,e]) (by rw [List.getElem?_eq_getElem hs])).ob
theorem nJ {st:Sto}{n:Nat}{ds:List D} (h:lg st n=some ds):st[n]?=some (.l ds):=by
 unfold lg at h
 split at h
 ·rename_i q;cases h;exact q
 ·cases h
theorem Sr.atl (S:Sr K H φ st) (n:Nat) (a:Addr) (ds:List D) (e1:φ[n]?=some a) (e2:lg st n=some ds):∃ vs,H a=some (.lst vs)/\Rls K H φ ds vs:=S.at_ n a _ e1 (nJ e2)
theorem Sr.nin (S:Sr K H φ st) {a:Addr} (h:H a=none):a ∉ φ:=λz=>by
 obtain⟨vs,q,_⟩:=S.lst z
 rw [q] at h;cases h
theorem Rd.nin (S:Sr K H φ st) {a:Addr}{vs:List V} (h:Rd H a (.tup vs)):a ∉ φ:=λz=>by
 obtain⟨ws,q,qm⟩:=S.lst z
 rcases h with h | ⟨o,h⟩<;>(rw [q] at h;cases h;cases qm)
theorem Rd.fw (f:Fw φ φ' H H') {a:Addr}{u:HO} (hn:a ∉ φ) (h:Rd H a u):Rd H' a u:=by
 rcases h with h | ⟨o,h⟩
 ·exact .inl (f.keep _ _ hn h)
 ·exact .inr ⟨o,f.keep _ _ hn h⟩
theorem SqT.fw (S:Sr K H φ st) (f:Fw φ φ' H H') {a:Addr}{vs:List V} (h:SqT K H a vs):SqT K H' a vs:=by
 rcases h with h | h
 ·exact .inl (f.keep _ _ (Rd.nin S (.inl h)) h)
 ·exact .inr h
theorem Rd.some {a:Addr}{u:HO} (h:Rd H a u):∃ o,H a=some o:=by
 rcases h with h | ⟨o,h⟩
 ·exact⟨_,h⟩
 ·exact⟨_,h⟩
mutual
theorem Rl.fw (S:Sr K H φ st) (f:Fw φ φ' H H'):∀ {d:D}{v:V},Rl K H φ d v->Rl K H' φ' d v
 | .non,_,h=>h
 | .bl _,_,h=>h
 | .int _,_,h=>h
 | .str _,_,h=>h
 | .ty _,_,h=>h
 | .dct,_,h=>by
  obtain⟨a,rfl,hn,h⟩:=h
  rcases h with⟨d,h⟩ | ⟨d,h⟩
  ·exact⟨a,rfl,f.nin hn h,.inl ⟨d,f.keep _ _ hn h⟩⟩
  ·exact⟨a,rfl,f.nin hn h,.inr ⟨d,f.keep _ _ hn h⟩⟩
 | .scr ns,_,h=>by
  obtain⟨a,rfl,h⟩:=h
  refine⟨a,rfl,?_⟩
  rcases h with⟨o,h⟩ | h
  ·refine .inl ⟨o,f.keep _ _ (λz=>?_) h⟩
   obtain⟨ws,q,qm⟩:=S.lst z
   rw [q] at h;cases h;cases qm
  ·exact .inr h
 | .tup ds,_,h=>by
  obtain⟨a,vs,rfl,h1,h2⟩:=h
  exact⟨a,vs,rfl,f.keep _ _ (Rd.nin S (.inl h1)) h1,Rls.fw S f h2⟩
 | .lst ds,_,h=>by
  obtain⟨a,vs,rfl,h0,h1,h2⟩:=h
  obtain⟨o,e⟩:=h1.some
  exact⟨a,vs,rfl,f.nin h0 e,h1.fw f h0,Rls.fw S f h2⟩
theorem Rls.fw (S:Sr K H φ st) (f:Fw φ φ' H H'):∀ {ds:List D}{vs:List V},Rls K H φ ds vs->Rls K H' φ' ds vs
 | [],_,h=>h
 | d::ds,_,h=>by
  obtain⟨v,r,rfl,h1,h2⟩:=h
  exact⟨v,r,rfl,Rl.fw S f h1,Rls.fw S f h2⟩
end
theorem Rw.fw (S:Sr K H φ st) (f:Fw φ φ' H H') {w:W}{v:V} (h:Rw K H φ w v):Rw K H' φ' w v:=by
 cases w with
 | d x=>exact Rl.fw S f h
 | h n=>obtain⟨a,e,rfl⟩:=h;exact⟨a,f.get e,rfl⟩
theorem Rws.fw (S:Sr K H φ st) (f:Fw φ φ' H H'):∀ {ws:List W}{vs:List V},Rws K H φ ws vs->Rws K H' φ' ws vs
 | [],_,h=>h
 | d::ds,_,h=>by
  obtain⟨v,r,rfl,h1,h2⟩:=h
  exact⟨v,r,rfl,h1.fw S f,Rws.fw S f h2⟩
theorem Er.fw (S:Sr K H φ st) (f:Fw φ φ' H H') {env:Ev}{σ:St} (h:Er K H φ env σ):Er K H' φ' env σ:=
 ⟨h.len,λi w e=>let ⟨v,e1,r⟩:=h.at_ i w e;⟨v,e1,r.fw S f⟩⟩
theorem Rkv.fw (S:Sr K H φ st) (f:Fw φ φ' H H'):∀ {ds:List (List Int×D)}{vs:List (List Key×V)},Rkv K H φ ds vs->Rkv K H' φ' ds vs
 | [],_,h=>h
 | (k,d)::ds,_,h=>by
  obtain⟨v,r,rfl,h1,h2⟩:=h
  exact⟨v,r,rfl,Rl.fw S f h1,Rkv.fw S f h2⟩
theorem Rkk.fw (S:Sr K H φ st) (f:Fw φ φ' H H'):∀ {ds:List (Int×D)}{vs:List (Key×V)},Rkk K H φ ds vs->Rkk K H' φ' ds vs
 | [],_,h=>h
 | (k,d)::ds,_,h=>by
  obtain⟨v,r,rfl,h1,h2⟩:=h
  exact⟨v,r,rfl,Rl.fw S f h1,Rkk.fw S f h2⟩
theorem Rc.fw (S:Sr K H φ st) (f:Fw φ φ' H H') {k:Nat}{a:Addr}{c:C} (e:∀ o,H a=some o->H' a=some o) (h:Rc K H φ k a c):Rc K H' φ' k a c:=by
 cases c with
 | l ds=>obtain⟨vs,q,r⟩:=h;exact⟨vs,e _ q,r.fw S f⟩
 | n ds=>obtain⟨vs,q,r,b⟩:=h;exact⟨vs,e _ q,r.fw S f,b⟩
 | m ds=>obtain⟨vs,q,r⟩:=h;exact⟨vs,e _ q,r.fw S f⟩
 | k ds=>obtain⟨vs,q,r⟩:=h;exact⟨vs,e _ q,r.fw S f⟩
theorem Sr.same (S:Sr K H φ st) (s:aM H H'):Sr K H' φ st:=
 ⟨S.nd,S.len,λn a c e1 e2=>(S.at_ n a c e1 e2).fw S (Fw.same s) λo h=>s _ _ h⟩
theorem Sr.new (S:Sr K H φ st) {p:Addr}{o:HO} (hp:H p=none):Sr K (upd H p o) φ st:=S.same (aM.new hp o)
theorem Rls.length:∀ {ds:List D}{vs:List V},Rls K H φ ds vs->ds.length=vs.length
 | [],_,h=>by cases h;rfl
 | d::ds,_,h=>by
  obtain⟨v,r,rfl,h1,h2⟩:=h
  rw [List.length_cons,List.length_cons,Rls.length h2]
theorem Rws.length:∀ {ds:List W}{vs:List V},Rws K H φ ds vs->ds.length=vs.length
 | [],_,h=>by cases h;rfl
 | d::ds,_,h=>by
  obtain⟨v,r,rfl,h1,h2⟩:=h
  rw [List.length_cons,List.length_cons,Rws.length h2]
theorem Rls.append:∀ {ds es:List D}{vs us:List V},Rls K H φ ds vs->Rls K H φ es us->Rls K H φ (ds++es) (vs++us)
 | [],_,_,_,h,h'=>by cases h;exact h'
 | d::ds,_,_,_,h,h'=>by
  obtain⟨v,r,rfl,h1,h2⟩:=h
  exact⟨v,r++_,rfl,h1,Rls.append h2 h'⟩
theorem Rls.get:∀ {ds:List D}{vs:List V},Rls K H φ ds vs->∀ {i:Nat}{d:D},ds[i]?=some d->∃ v,vs[i]?=some v/\Rl K H φ d v
 | [],_,h,i,d,e=>by simp at e
 | d::ds,_,h,i,e,q=>by
  obtain⟨v,r,rfl,h1,h2⟩:=h
  cases i with
  | zero=>simp at q;subst q;exact⟨v,rfl,h1⟩
  | succ i=>simpa using Rls.get h2 (i:=i) (d:=e) (by simpa using q)
theorem Rls.set:∀ {ds:List D}{vs:List V} (n:Nat) {d:D}{v:V},Rls K H φ ds vs->Rl K H φ d v->Rls K H φ (ds.set n d) (vs.set n v)
 | [],_,_,_,_,h,_=>by cases h;exact rfl
 | e::ds,_,0,d,v,h,hd=>by
  obtain⟨u,r,rfl,h1,h2⟩:=h
  exact⟨v,r,rfl,hd,h2⟩
 | e::ds,_,n+1,d,v,h,hd=>by
  obtain⟨u,r,rfl,h1,h2⟩:=h
  exact⟨u,_,rfl,h1,Rls.set n h2 hd⟩
theorem Rls.rep {ds:List D}{vs:List V} (h:Rls K H φ ds vs):∀ k:Nat,Rls K H φ (List.replicate k ds).flatten (List.replicate k vs).flatten
 | 0=>rfl
 | k+1=>by rw [List.replicate_succ,List.replicate_succ,List.flatten_cons,List.flatten_cons];exact h.append (Rls.rep h k)
theorem Rls.bools:∀ {ns:List Bool}{vs:List V},Rls K H φ (ns.map D.bl) vs->vs=ns.map V.bl
 | [],_,h=>h
 | n::ns,_,h=>by
  obtain⟨v,r,rfl,h1,h2⟩:=h
  rw [show v=.bl n from h1,Rls.bools h2];rfl
theorem Rls.of_ints:∀ (ns:List Int),Rls K H φ (ns.map D.int) (ns.map V.int)
 | []=>rfl
 | n::ns=>⟨_,_,rfl,rfl,Rls.of_ints ns⟩
theorem Rl.less {ψ:List Addr}:∀ {d:D}{v:V},Rl K H (φ++ψ) d v->Rl K H φ d v:=by
 intro d v
 refine (?_:∀ v,Rl K H (φ++ψ) d v->Rl K H φ d v) v
 refine D.rec (motive_1:=λd=>∀ v,Rl K H (φ++ψ) d v->Rl K H φ d v) (motive_2:=λds=>∀ vs,Rls K H (φ++ψ) ds vs->Rls K H φ ds vs) ?_ ?_ ?_ ?_ ?_ ?_ ?_ ?_ ?_ ?_ ?_ d
 ·exact λv h=>h
 ·exact λb v h=>h
 ·exact λb v h=>h
 ·exact λb v h=>h
 ·exact λb v h=>h
 ·rintro v ⟨a,e,hn,h⟩;exact⟨a,e,λz=>hn (List.mem_append_left _ z),h⟩
 ·exact λns v h=>h
 ·rintro ds ih v ⟨a,vs,rfl,h1,h2⟩;exact⟨a,vs,rfl,h1,ih vs h2⟩
 ·rintro ds ih v ⟨a,vs,rfl,h0,h1,h2⟩;exact⟨a,vs,rfl,λz=>h0 (List.mem_append_left _ z),h1,ih vs h2⟩
 ·exact λvs h=>h
 ·rintro d ds ih1 ih2 vs ⟨v,r,rfl,h1,h2⟩;exact⟨v,r,rfl,ih1 v h1,ih2 r h2⟩
theorem Rls.less {ψ:List Addr}:∀ {ds:List D}{vs:List V},Rls K H (φ++ψ) ds vs->Rls K H φ ds vs
 | [],_,h=>h
 | d::ds,_,h=>by
  obtain⟨v,r,rfl,h1,h2⟩:=h
  exact⟨v,r,rfl,Rl.less h1,Rls.less h2⟩
theorem Rkv.less {ψ:List Addr}:∀ {ds:List (List Int×D)}{vs:List (List Key×V)},Rkv K H (φ++ψ) ds vs->Rkv K H φ ds vs
 | [],_,h=>h
 | (k,d)::ds,_,h=>by
  obtain⟨v,r,rfl,h1,h2⟩:=h
  exact⟨v,r,rfl,Rl.less h1,Rkv.less h2⟩
theorem Rkk.less {ψ:List Addr}:∀ {ds:List (Int×D)}{vs:List (Key×V)},Rkk K H (φ++ψ) ds vs->Rkk K H φ ds vs
 | [],_,h=>h
 | (k,d)::ds,_,h=>by
  obtain⟨v,r,rfl,h1,h2⟩:=h
  exact⟨v,r,rfl,Rl.less h1,Rkk.less h2⟩
theorem Rws.less {ψ:List Addr}:∀ {ds:List W}{vs:List V},(∀ m,W.h m ∈ ds->m < φ.length)->Rws K H (φ++ψ) ds vs->Rws K H φ ds vs
 | [],_,_,h=>h
 | d::ds,_,hm,h=>by
  obtain⟨v,r,rfl,h1,h2⟩:=h
  refine⟨v,r,rfl,?_,Rws.less (λm z=>hm m (List.mem_cons_of_mem _ z)) h2⟩
  cases d with
  | d x=>exact Rl.less h1
  | h m=>
   obtain⟨a,e,rfl⟩:=h1
   rw [List.getElem?_append_left (hm m List.mem_cons_self)] at e
   exact⟨a,e,rfl⟩
theorem Rc.less {ψ:List Addr}{k:Nat}{a:Addr}{c:C} (hk:k < φ.length) (h:Rc K H (φ++ψ) k a c):Rc K H φ k a c:=by
 cases c with
 | l ds=>obtain⟨vs,q,r⟩:=h;exact⟨vs,q,r.less⟩
 | n ds=>obtain⟨vs,q,r,b⟩:=h;exact⟨vs,q,r.less λm z=>Nat.lt_trans (b m z) hk,b⟩
 | m ds=>obtain⟨vs,q,r⟩:=h;exact⟨vs,q,r.less⟩
 | k ds=>obtain⟨vs,q,r⟩:=h;exact⟨vs,q,r.less⟩
theorem Sr.less {ψ:List Addr} (S:Sr K H (φ++ψ) st):Sr K H φ (st.take φ.length):=by
 have hl:=S.len
 rw [List.length_append] at hl
 refine⟨(List.nodup_append.mp S.nd).1,by rw [List.length_take];lia,λn a ds e1 e2=>?_⟩
 have hn:=(List.getElem?_eq_some_iff.mp e1).1
 rw [List.getElem?_take_of_lt hn] at e2
 exact (S.at_ n a ds (by rw [List.getElem?_append_left hn];exact e1) e2).less hn
end
end L2
namespace L2
open PySem PySem.Spec PyProof.Rows
abbrev Ef:=Ev->Sto->Option (W×Sto)
abbrev Af:=Ev->Sto->Option (List W×Sto)
abbrev Tf:=Ev->Sto->Option (Bool×Sto)
abbrev Lf:=Ev->Sto->Option (List D×Sto)
abbrev Fn:=List W->Sto->Option (W×Sto)
section
variable (K:PySem.W.Frag)
noncomputable def tI (env:Ev) (st:Sto) (r:W×Sto):TE:=λσ H Q=>∃ φ,Er K H φ env σ/\Sr K H φ st/\∀ v H' φ',Fw φ φ' H H'->Sr K H' φ' r.2->Rw K H' φ' r.1 v->Q v H'
noncomputable def tIA (env:Ev) (st:Sto) (r:List W×Sto):TA:=λσ H Q=>∃ φ,Er K H φ env σ/\Sr K H φ st/\∀ vs H' φ',Fw φ φ' H H'->Sr K H' φ' r.2->Rws K H' φ' r.1 vs->Q vs H'
noncomputable def tIT (env:Ev) (st:Sto) (r:Bool×Sto):TT:=λσ H Q=>∃ φ,Er K H φ env σ/\Sr K H φ st/\∀ H' φ',Fw φ φ' H H'->Sr K H' φ' r.2->Q r.1 H'
noncomputable def tIL (env:Ev) (st:Sto) (r:List D×Sto):TE:=λσ H Q=>∃ φ,Er K H φ env σ/\Sr K H φ st/\∀ a vs H1 φ',Fw φ φ' H H1->Sr K H1 φ' r.2->H1 a=none->Rls K H1 φ' r.1 vs->Q (.ref a) (upd H1 a (.lst vs))
structure IE (X:Cx) (e:Expr) (f:Ef):Prop where
 run:∀ env st r,f env st=some r->PE X e (tI K env st r)
structure IA (X:Cx) (es:List Expr) (f:Af):Prop where
 run:∀ env st r,f env st=some r->PA X es (tIA K env st r)
structure IT (X:Cx) (e:Expr) (f:Tf):Prop where
 run:∀ env st r,f env st=some r->PT X e (tIT K env st r)
structure ITW (X:Cx) (e:Expr) (f:Tf):Prop where
 run:∀ env st r,f env st=some r->PW X e (tIT K env st r)
structure IL (X:Cx) (e:Expr) (f:Lf):Prop where
 run:∀ env st r,f env st=some r->PE X e (tIL K env st r)
noncomputable def rD (st:Sto) (x y:W) (d:D):R2:=λvx vy H Q=>∃ φ,Sr K H φ st/\Rw K H φ x vx/\Rw K H φ y vy/\∀ v H',aM H H'->Rl K H' φ d v->Q v H'
structure OpD (X:Cx) (f:Value->Value->Sem Value) (g:Sto->W->W->Option D):Prop where
 run:∀ st x y d,g st x y=some d->OpR X f (rD K st x y d)
noncomputable def rCD (st:Sto) (ws:List W) (d:D):List V->Hp->VK->Prop:=λvs H Q=>∃ φ,Sr K H φ st/\Rws K H φ ws vs/\∀ v H',aM H H'->Rl K H' φ d v->Q v H'
structure dI (X:Cx) (f:Value) (g:Sto->List W->Option D):Prop where
 run:∀ st ws d,g st ws=some d->cp X f (rCD K st ws d)
end
noncomputable def iV (i:Nat):Ef
 | env,st=>(env.getD i none).map λw=>(w,st)
noncomputable def iC (d:D):Ef
 | _,st=>some (.d d,st)
noncomputable def iOp (g:Sto->W->W->Option D) (a b:Ef):Ef
 | env,st=>(a env st).bind λx=>(b env x.2).bind λy=>(g y.2 x.1 y.1).map λd=>(.d d,y.2)
noncomputable def jQ:D->Option Bool
 | .bl b=>some b
 | _=>none
noncomputable def blW:W->Option Bool
 | .d (.bl b)=>some b
 | _=>none
noncomputable def du (g:Sto->W->W->Option D) (a b:Ef):Tf
 | env,st=>(a env st).bind λx=>(b env x.2).bind λy=>(g y.2 x.1 y.1).bind λd=>(jQ d).map λk=>(k,y.2)
noncomputable def ki (g g':Sto->W->W->Option D) (a b c:Ef):Ef
 | env,st=>(a env st).bind λx=>(b env x.2).bind λy=>(g y.2 x.1 y.1).bind λd=>(jQ d).bind λk=>
 if k=true then (c env y.2).bind λz=>(g' z.2 y.1 z.1).map λd=>(.d d,z.2) else some (.d (.bl false),y.2)
noncomputable def iUn (g:W->Option D) (a:Ef):Ef
 | env,st=>(a env st).bind λx=>(g x.1).map λd=>(.d d,x.2)
noncomputable def lI (a:Ef):Ef
 | env,st=>(a env st).bind λx=>(blW x.1).map λk=>(.d (.bl (!k)),x.2)
noncomputable def ku (a b:Ef):Ef
 | env,st=>(a env st).bind λx=>(blW x.1).bind λk=>if k=true then b env x.2 else some (.d (.bl false),x.2)
noncomputable def oY (a b:Ef):Ef
 | env,st=>(a env st).bind λx=>(blW x.1).bind λk=>if k=true then some (.d (.bl true),x.2) else b env x.2
noncomputable def bO (c:Tf):Tf
 | env,st=>(c env st).map λr=>(!r.1,r.2)
noncomputable def i5 (a b:Tf):Tf
 | env,st=>(a env st).bind λr=>if r.1=true then some (true,r.2) else b env r.2
noncomputable def di (g:Sto->W->Option Bool) (a:Ef):Tf
 | env,st=>(a env st).bind λx=>(g x.2 x.1).map λk=>(k,x.2)
noncomputable def ag:Af
 | _,st=>some ([],st)
noncomputable def ac (a:Ef) (r:Af):Af
 | env,st=>(a env st).bind λx=>(r env x.2).map λy=>(x.1::y.1,y.2)
noncomputable def iCB (g:Sto->List W->Option D) (a:Af):Ef
 | env,st=>(a env st).bind λr=>(g r.2 r.1).map λd=>(.d d,r.2)
noncomputable def ao (m:Fn) (a:Af):Ef
 | env,st=>(a env st).bind λr=>m r.1 r.2
noncomputable def gO:List W->Option (List D)
 | []=>some []
 | .d x::ws=>(gO ws).map λr=>x::r
 | .h _::_=>none
noncomputable def cy (a:Af):Ef
 | env,st=>(a env st).bind λr=>(gO r.1).bind λds=>if ds.length<=1000 then some (.d (.tup ds),r.2) else none
noncomputable def bi (a:Af):Lf
 | env,st=>(a env st).bind λr=>(gO r.1).bind λds=>if ds.length<=1000 then some (ds,r.2) else none
noncomputable def au (a:Lf):Ef
 | env,st=>(a env st).map λr=>(.d (.lst r.1),r.2)
noncomputable def jH (a:Lf):Ef
 | env,st=>(a env st).map λr=>(.h r.2.length,r.2++[.l r.1])
section
variable {K:PySem.W.Frag}{X:Cx}{e a b c:Expr}{es:List Expr}{pos:Pos}{f fa fb fc:Ef}
theorem PE.imp {t t':TE} (h:PE X e t) (m:∀ σ H Q,t' σ H Q->t σ H Q):PE X e t':=λpins s σ H Q I q=>h pins s σ H Q I (m σ H Q q)
theorem PT.imp {t t':TT} (h:PT X e t) (m:∀ σ H Q,t' σ H Q->t σ H Q):PT X e t':=λpins s σ H Q I q=>h pins s σ H Q I (m σ H Q q)
theorem PW.imp {t t':TT} (h:PW X e t) (m:∀ σ H Q,t' σ H Q->t σ H Q):PW X e t':=λwh pins s σ H Q I q=>h wh pins s σ H Q I (m σ H Q q)
theorem PA.imp {t t':TA} (h:PA X es t) (m:∀ σ H Q,t' σ H Q->t σ H Q):PA X es t':=λpos pins s σ H Q I q=>h pos pins s σ H Q I (m σ H Q q)
theorem OpR.imp {g:Value->Value->Sem Value}{r r':R2} (h:OpR X g r) (m:∀ x y H Q,r' x y H Q->r x y H Q):OpR X g r':=λpins s σ H x y v u Q I rx ry q=>h pins s σ H x y v u Q I rx ry (m _ _ _ _ q)
theorem cp.imp {g:Value}{r r':List V->Hp->VK->Prop} (h:cp X g r) (m:∀ xs H Q,r' xs H Q->r xs H Q):cp X g r':=λpins s σ H xs us Q I rx q=>h pins s σ H xs us Q I rx (m _ _ _ q)
theorem gH:PE X e (λ_ _ _=>False):=λ_ _ _ _ _ _ q=>q.elim
theorem lO:PW X e (λ_ _ _=>False):=λ_ _ _ _ _ _ _ q=>q.elim
theorem o4 {i:Nat}{x:Str}{t:TE} (h:PE X (.Name x pos) (nD i)):IE K X (.Name x pos) (iV i):=by
 refine⟨λenv st r hr=>?_⟩
 unfold iV at hr
 obtain⟨w,hw,rfl⟩:=Option.map_eq_some_iff.mp hr
 refine h.imp ?_
 rintro σ H Q ⟨φ,hE,hS,q⟩
 have hi:env[i]?=some (some w):=by
  rw [List.getD] at hw
  cases q:env[i]? with
  | none=>rw [q] at hw;cases hw
  | some o=>rw [q] at hw;rw [show o=some w from hw]
 obtain⟨v,e1,r⟩:=hE.at_ i w hi
 exact⟨v,e1,q v H φ (Fw.refl φ H) hS r⟩
theorem iv (i:Nat) {x:Str} (hN:X.N[i]?=some x:=by rfl) (hv:Vis X.env.scope x:=by first | exact Or.inl rfl | exact Or.inr (Or.inl rfl) | exact Or.inr (Or.inr rfl)) (hd:(x==("__debug__" : Str))=false:=by decide)
  (hcd:(x==("__classdict__" : Str))=false:=by decide):IE K X (.Name x pos) (iV i):=o4 (t:=nD i) (nh hN hv hd hcd)
theorem lX {d:D}{v:V} (h:PE X e (tC v)) (r:∀ H φ,Rl K H φ d v):IE K X e (iC d):=by
 refine⟨λenv st r hr=>?_⟩
 cases hr
 refine h.imp ?_
 rintro σ H Q ⟨φ,hE,hS,q⟩
 exact q v H φ (Fw.refl φ H) hS (r H φ)
theorem aj {i j}:IE K X (.Constant (.int i) j pos) (iC (.int i)):=lX qp λ_ _=>rfl
theorem mX {i j}:IE K X (.Constant (.bool i) j pos) (iC (.bl i)):=lX rG λ_ _=>rfl
theorem mB {j}:IE K X (.Constant .none j pos) (iC .non):=lX mm λ_ _=>rfl
theorem aC {x j}:IE K X (.Constant (.str x) j pos) (iC (.str x)):=lX lS λ_ _=>rfl
theorem il {env:Ev}{st:Sto}{x y:W×Sto}{d:D}{σ:St}{H:Hp}{Q:VK} (h:tI K env st (.d d,y.2) σ H Q):tOp (rD K y.2 x.1 y.1 d) (tI K env st x) (tI K env x.2 y) σ H Q:=by
 obtain⟨φ,hE,hS,q⟩:=h
 refine⟨φ,hE,hS,λv H1 φ1 f1 s1 w1=>⟨φ1,hE.fw hS f1,s1,λu H2 φ2 f2 s2 w2=>⟨φ2,s2,w1.fw s1 f2,w2,λv3 H3 f3 w3=>?_⟩⟩⟩
 exact q v3 H3 φ2 ((f1.trans f2).trans (Fw.same f3)) (s2.same f3) w3
theorem aE {op:Operator}{g:Sto->W->W->Option D} (ho:OpD K X (binaryOp op) g) (ha:IE K X a fa) (hb:IE K X b fb):IE K X (.BinOp a op b pos) (iOp g fa fb):=by
 refine⟨λenv st r hr=>?_⟩
 simp only [iOp,Option.bind_eq_some_iff,Option.map_eq_some_iff] at hr
 obtain⟨x,hx,y,hy,d,hd,rfl⟩:=hr
 exact (sx (ho.run _ _ _ _ hd) (ha.run _ _ _ hx) (hb.run _ _ _ hy)).imp λσ H Q h=>il h
theorem iu {op:CmpOp}{g:Sto->W->W->Option D} (ho:OpD K X (compareOp op) g) (ha:IE K X a fa) (hb:IE K X b fb) (hm:behindInMarks op b=false):IE K X (.Compare a [op] [b] pos) (iOp g fa fb):=by
 refine⟨λenv st r hr=>?_⟩
 simp only [iOp,Option.bind_eq_some_iff,Option.map_eq_some_iff] at hr
 obtain⟨x,hx,y,hy,d,hd,rfl⟩:=hr
 exact (nS (ho.run _ _ _ _ hd) (ha.run _ _ _ hx) (hb.run _ _ _ hy) hm).imp λσ H Q h=>il h
theorem ic {d:D}{k:Bool} (h:jQ d=some k):d=.bl k:=by
 cases d<;>first | (cases h;done) | (injection h with h;subst h;rfl)
theorem gC {d:W}{k:Bool} (h:blW d=some k):d=.d (.bl k):=by
 cases d with
 | h n=>cases h
 | d x=>cases x<;>first | (cases h;done) | (injection h with h;subst h;rfl)
theorem gG {op:CmpOp}{g:Sto->W->W->Option D} (ho:OpD K X (compareOp op) g) (ha:IE K X a fa) (hb:IE K X b fb) (hm:behindInMarks op b=false):IT K X (.Compare a [op] [b] pos) (du g fa fb):=by
 refine⟨λenv st r hr=>?_⟩
 simp only [du,Option.bind_eq_some_iff,Option.map_eq_some_iff] at hr
 obtain⟨x,hx,y,hy,d,hd,k,hk,rfl⟩:=hr
 cases ic hk
 refine (iJ (ho.run _ _ _ _ hd) (ha.run _ _ _ hx) (hb.run _ _ _ hy) hm).imp λσ H Q h=>?_
 obtain⟨φ,hE,hS,q⟩:=h
 refine il ⟨φ,hE,hS,λv H1 φ1 f1 s1 w1=>⟨k,w1,q H1 φ1 f1 s1⟩⟩
theorem nr {op op':CmpOp}{g g':Sto->W->W->Option D} (ho:OpD K X (compareOp op) g) (ho':OpD K X (compareOp op') g') (ha:IE K X a fa) (hb:IE K X b fb) (hc:IE K X c fc)
  (hm:lastMarks [op,op'] [b,c]=false:=by with_unfolding_all rfl):IE K X (.Compare a [op,op'] [b,c] pos) (ki g g' fa fb fc):=by
 refine⟨λenv st r hr=>?_⟩
 simp only [ki,Option.bind_eq_some_iff] at hr
 obtain⟨x,hx,y,hy,d,hd,k,hk,hr⟩:=hr
 cases ic hk
 cases k with
 | false=>
  rw [if_neg Bool.false_ne_true] at hr
  cases hr
  refine (jB (r':=λ_ _ _ _=>False) (ho.run _ _ _ _ hd) (λ_ _ _ _ _ _ _ _ _ _ _ _ q=>q.elim) (ha.run _ _ _ hx) (hb.run _ _ _ hy) gH hm).imp ?_
  rintro σ H Q ⟨φ,hE,hS,q⟩
  refine⟨φ,hE,hS,λv H1 φ1 f1 s1 w1=>⟨φ1,hE.fw hS f1,s1,λu H2 φ2 f2 s2 w2=>⟨φ2,s2,w1.fw s1 f2,w2,λv3 H3 f3 w3=>⟨false,w3,?_⟩⟩⟩⟩
  rw [if_neg Bool.false_ne_true]
  exact q _ H3 φ2 ((f1.trans f2).trans (Fw.same f3)) (s2.same f3) rfl
 | true=>
  simp only [if_true,Option.bind_eq_some_iff,Option.map_eq_some_iff] at hr
  obtain⟨z,hz,d',hd',rfl⟩:=hr
  refine (jB (ho.run _ _ _ _ hd) (ho'.run _ _ _ _ hd') (ha.run _ _ _ hx) (hb.run _ _ _ hy) (hc.run _ _ _ hz) hm).imp ?_
  rintro σ H Q ⟨φ,hE,hS,q⟩
  refine⟨φ,hE,hS,λv H1 φ1 f1 s1 w1=>⟨φ1,hE.fw hS f1,s1,λu H2 φ2 f2 s2 w2=>⟨φ2,s2,w1.fw s1 f2,w2,λv3 H3 f3 w3=>⟨true,w3,?_⟩⟩⟩⟩
  rw [if_pos rfl]
  have f13:=(f1.trans f2).trans (Fw.same (φ:=φ2) f3)
  refine⟨φ2,hE.fw hS f13,s2.same f3,λu4 H4 φ4 f4 s4 w4=>⟨φ4,s4,(w2.fw s2 (Fw.same f3)).fw (s2.same f3) f4,w4,λv5 H5 f5 w5=>?_⟩⟩
  exact q v5 H5 φ4 (f13.trans (f4.trans (Fw.same f5))) (s4.same f5) w5
noncomputable def om:W->Option D
 | .d (.int i)=>some (.int (-i))
 | _=>none
theorem pG (ha:IE K X a fa):IE K X (.UnaryOp .USub a pos) (iUn om fa):=by
 refine⟨λenv st r hr=>?_⟩
 simp only [iUn,Option.bind_eq_some_iff,Option.map_eq_some_iff] at hr
 obtain⟨⟨x,s1⟩,hx,d,hd,rfl⟩:=hr
 cases x with
 | h n=>cases hd
 | d x=>
  cases x with
  | int i=>
   cases hd
   refine (rC pk (ha.run _ _ _ hx)).imp ?_
   rintro σ H Q ⟨φ,hE,hS,q⟩
   exact⟨φ,hE,hS,λv H1 φ1 f1 s1 w1=>⟨i,w1,q _ H1 φ1 f1 s1 rfl⟩⟩
  | _=>cases hd
theorem pH (ha:IE K X a fa):IE K X (.UnaryOp .Not a pos) (lI fa):=by
 refine⟨λenv st r hr=>?_⟩
 simp only [lI,Option.bind_eq_some_iff,Option.map_eq_some_iff] at hr
 obtain⟨x,hx,k,hk,rfl⟩:=hr
 have e:=gC hk
 refine (pb (ha.run _ _ _ hx)).imp ?_
 rintro σ H Q ⟨φ,hE,hS,q⟩
 exact⟨φ,hE,hS,λv H1 φ1 f1 s1 w1=>⟨k,by rw [e] at w1;exact w1,q _ H1 φ1 f1 s1 rfl⟩⟩
theorem j8 {op} (h:IE K X a fa):IE K X (.BoolOp op [a] pos) fa:=⟨λenv st r hr=>ph (h.run env st r hr)⟩
theorem lR {rest:List Expr} (ha:IE K X a fa) (hb:IE K X (.BoolOp .And (b::rest) pos) fb):IE K X (.BoolOp .And (a::b::rest) pos) (ku fa fb):=by
 refine⟨λenv st r hr=>?_⟩
 simp only [ku,Option.bind_eq_some_iff] at hr
 obtain⟨x,hx,k,hk,hr⟩:=hr
 have e:=gC hk
 cases k with
 | false=>
  rw [if_neg Bool.false_ne_true] at hr
  cases hr
  refine (mk (ha.run _ _ _ hx) gH).imp ?_
  rintro σ H Q ⟨φ,hE,hS,q⟩
  refine⟨φ,hE,hS,λv H1 φ1 f1 s1 w1=>⟨false,by rw [e] at w1;exact w1,?_⟩⟩
  rw [if_neg Bool.false_ne_true]
  exact q _ H1 φ1 f1 s1 rfl
 | true=>
  rw [if_pos rfl] at hr
  refine (mk (ha.run _ _ _ hx) (hb.run _ _ _ hr)).imp ?_
  rintro σ H Q ⟨φ,hE,hS,q⟩
  refine⟨φ,hE,hS,λv H1 φ1 f1 s1 w1=>⟨true,by rw [e] at w1;exact w1,?_⟩⟩
  rw [if_pos rfl]
  exact⟨φ1,hE.fw hS f1,s1,λu H2 φ2 f2 s2 w2=>q u H2 φ2 (f1.trans f2) s2 w2⟩
theorem qN {rest:List Expr} (ha:IE K X a fa) (hb:IE K X (.BoolOp .Or (b::rest) pos) fb):IE K X (.BoolOp .Or (a::b::rest) pos) (oY fa fb):=by
 refine⟨λenv st r hr=>?_⟩
 simp only [oY,Option.bind_eq_some_iff] at hr
 obtain⟨x,hx,k,hk,hr⟩:=hr
 have e:=gC hk
 cases k with
 | true=>
  rw [if_pos rfl] at hr
  cases hr
  refine (oW (ha.run _ _ _ hx) gH).imp ?_
  rintro σ H Q ⟨φ,hE,hS,q⟩
  refine⟨φ,hE,hS,λv H1 φ1 f1 s1 w1=>⟨true,by rw [e] at w1;exact w1,?_⟩⟩
  rw [if_pos rfl]
  exact q _ H1 φ1 f1 s1 rfl
 | false=>
  rw [if_neg Bool.false_ne_true] at hr
  refine (oW (ha.run _ _ _ hx) (hb.run _ _ _ hr)).imp ?_
  rintro σ H Q ⟨φ,hE,hS,q⟩
  refine⟨φ,hE,hS,λv H1 φ1 f1 s1 w1=>⟨false,by rw [e] at w1;exact w1,?_⟩⟩
  rw [if_neg Bool.false_ne_true]
  exact⟨φ1,hE.fw hS f1,s1,λu H2 φ2 f2 s2 w2=>q u H2 φ2 (f1.trans f2) s2 w2⟩
variable {ta tb:Tf}
theorem dS (ha:IT K X a ta):IT K X (.UnaryOp .Not a pos) (bO ta):=by
 refine⟨λenv st r hr=>?_⟩
 simp only [bO,Option.map_eq_some_iff] at hr
 obtain⟨x,hx,rfl⟩:=hr
 refine (jZ (ha.run _ _ _ hx)).imp ?_
 rintro σ H Q ⟨φ,hE,hS,q⟩
 exact⟨φ,hE,hS,λH1 φ1 f1 s1=>q H1 φ1 f1 s1⟩
theorem mS (h:ITW K X a ta):IT K X a ta:=⟨λenv st r hr=>(h.run env st r hr).pt⟩
theorem kN (h:IT K X a ta):ITW K X (.BoolOp .Or [a] pos) ta:=⟨λenv st r hr=>lW (h.run env st r hr)⟩
theorem lH {rest:List Expr} (ha:IT K X a ta) (hb:ITW K X (.BoolOp .Or (b::rest) pos) tb):ITW K X (.BoolOp .Or (a::b::rest) pos) (i5 ta tb):=by
 refine⟨λenv st r hr=>?_⟩
 simp only [i5,Option.bind_eq_some_iff] at hr
 obtain⟨⟨k,s1⟩,hx,hr⟩:=hr
 cases k with
 | true=>
  rw [if_pos rfl] at hr
  cases hr
  refine (kL (ha.run _ _ _ hx) lO).imp ?_
  rintro σ H Q ⟨φ,hE,hS,q⟩
  refine⟨φ,hE,hS,λH1 φ1 f1 s1=>?_⟩
  refine nv ?_
  exact q H1 φ1 f1 s1
 | false=>
  rw [if_neg Bool.false_ne_true] at hr
  refine (kL (ha.run _ _ _ hx) (hb.run _ _ _ hr)).imp ?_
  rintro σ H Q ⟨φ,hE,hS,q⟩
  refine⟨φ,hE,hS,λH1 φ1 f1 s1=>?_⟩
  refine jW ?_
  exact⟨φ1,hE.fw hS f1,s1,λH2 φ2 f2 s2=>q H2 φ2 (f1.trans f2) s2⟩
noncomputable def d8 (st:Sto):W->Option (List D)
 | .d (.tup ds)=>some ds
 | .d (.lst ds)=>some ds
 | .d (.scr ns)=>some (ns.map D.int)
 | .h n=>lg st n
 | _=>none
theorem jt {st:Sto}{H:Hp}{φ:List Addr}{w:W}{v:V}{ds:List D} (S:Sr K H φ st) (r:Rw K H φ w v) (e:d8 st w=some ds):∃ a vs,v=.ref a/\(SqL K H a vs\/H a=some (.tup vs))/\Rls K H φ ds vs:=by
 cases w with
 | h n=>
  obtain⟨a,ea,rfl⟩:=r
  obtain⟨vs,q,rl⟩:=S.atl n a ds ea e
  exact⟨a,vs,rfl,.inl (SqL.of q),rl⟩
 | d x=>
  cases x with
  | tup es=>cases e;obtain⟨a,vs,rfl,h1,h2⟩:=r;exact⟨a,vs,rfl,.inr h1,h2⟩
  | lst es=>cases e;obtain⟨a,vs,rfl,h0,h1,h2⟩:=r;exact⟨a,vs,rfl,.inl (.inl h1),h2⟩
  | scr ns=>
   cases e
   obtain⟨a,rfl,h⟩:=r
   refine⟨a,_,rfl,.inl ?_,Rls.of_ints ns⟩
   rcases h with⟨o,h⟩ | h
   ·exact .inl (.inr ⟨o,h⟩)
   ·exact .inr h
  | _=>cases e
theorem fT {st:Sto}{H:Hp}{φ:List Addr}{w:W}{v:V}{ds:List D} (S:Sr K H φ st) (r:Rw K H φ w v) (e:d8 st w=some ds):∃ a vs,v=.ref a/\(SqL K H a vs\/SqT K H a vs)/\Rls K H φ ds vs:=by
 obtain⟨a,vs,h0,h1,h2⟩:=jt S r e
 exact⟨a,vs,h0,h1.imp id SqT.of,h2⟩
noncomputable def dn (st:Sto):W->Option Bool
 | .d .non=>some false
 | .d (.bl b)=>some b
 | .d (.int i)=>some (i != 0)
 | w=>(d8 st w).map λds=>!ds.isEmpty
theorem oI {st:Sto}{H:Hp}{φ:List Addr}{w:W}{v:V}{k:Bool} (S:Sr K H φ st) (r:Rw K H φ w v) (e:dn st w=some k):nw K v H k:=by
 have seq:∀ ds,d8 st w=some ds->k=!ds.isEmpty->nw K v H k:=λds h hk=>by
  obtain⟨a,vs,rfl,h1,h2⟩:=fT S r h
  have hl:=h2.length
  have e':k=!vs.isEmpty:=by
   rw [hk]
   cases ds<;>cases vs<;>first | rfl | cases hl
  rcases h1 with h1 | h1
  ·exact .inl ⟨vs,h1,e'⟩
  ·exact .inr (.inl ⟨vs,h1,e'⟩)
 cases w with
 | h n=>
  obtain⟨ds,h1,h2⟩:=Option.map_eq_some_iff.mp e
  exact seq ds h1 h2.symm
 | d x=>
  cases x with
  | non=>have r':v=.non:=r;subst r';cases e;exact rfl
  | bl b=>have r':v=.bl b:=r;subst r';cases e;exact rfl
  | int i=>have r':v=.int i:=r;subst r';cases e;exact rfl
  | tup ds=>exact seq ds rfl (Option.some.inj e).symm
  | lst ds=>exact seq ds rfl (Option.some.inj e).symm
  | scr ds=>exact seq _ rfl (Option.some.inj e).symm
  | _=>cases e
theorem dU (ha:IE K X a fa) (he:mY a=true:=by rfl) (hK:X.K=K:=by rfl):IT K X a (di dn fa):=by
 subst hK
 refine⟨λenv st r hr=>?_⟩
 simp only [di,Option.bind_eq_some_iff,Option.map_eq_some_iff] at hr
 obtain⟨x,hx,k,hk,rfl⟩:=hr
 refine (mW (ha.run _ _ _ hx) (lh he)).imp ?_
 rintro σ H Q ⟨φ,hE,hS,q⟩
 exact⟨φ,hE,hS,λv H1 φ1 f1 s1 w1=>⟨k,oI s1 w1 hk,q H1 φ1 f1 s1⟩⟩
variable {af:Af}
theorem ah:IA K X [] ag:=by
 refine⟨λenv st r hr=>?_⟩
 cases hr
 refine gF.imp ?_
 rintro σ H Q ⟨φ,hE,hS,q⟩
 exact q [] H φ (Fw.refl φ H) hS rfl
theorem ae (ha:IE K X e fa) (hr:IA K X es af) (hs:ar e=true:=by rfl):IA K X (e::es) (ac fa af):=by
 refine⟨λenv st r h=>?_⟩
 simp only [ac,Option.bind_eq_some_iff,Option.map_eq_some_iff] at h
 obtain⟨x,hx,y,hy,rfl⟩:=h
 refine (cF (ha.run _ _ _ hx) (hr.run _ _ _ hy) (aT hs)).imp ?_
 rintro σ H Q ⟨φ,hE,hS,q⟩
 refine⟨φ,hE,hS,λv H1 φ1 f1 s1 w1=>⟨φ1,hE.fw hS f1,s1,λu H2 φ2 f2 s2 w2=>?_⟩⟩
 exact q _ H2 φ2 (f1.trans f2) s2 ⟨v,u,rfl,w1.fw s1 f2,w2⟩
theorem bL {x:Str}{id:String}{p:Pos}{g:Sto->List W->Option D} (hc:dI K X (.builtin id) g) (hg:Gl X x) (hm:X.mg x=none) (hv:bootBuiltins x=some (.builtin id)) (ha:IA K X (e::es) af)
  (hn:x≠"__name__":=by decide) (hdb:(x==("__debug__" : Str))=false:=by decide) (hs:ar e=true:=by rfl) (hp:es.all ar=true:=by rfl) :
  IE K X (.Call (.Name x p) (e::es) [] pos) (iCB g af):=by
 refine⟨λenv st r hr=>?_⟩
 simp only [iCB,Option.bind_eq_some_iff,Option.map_eq_some_iff] at hr
 obtain⟨y,hy,d,hd,rfl⟩:=hr
 refine (e9 (hc.run _ _ _ hd) hg hm hv (ha.run _ _ _ hy) hn hdb (aT hs) (bt hp)).imp ?_
 rintro σ H Q ⟨φ,hE,hS,q⟩
 exact⟨φ,hE,hS,λv H1 φ1 f1 s1 w1=>⟨φ1,s1,w1,λu H2 f2 w2=>q u H2 φ1 (f1.trans (Fw.same f2)) (s1.same f2) w2⟩⟩
theorem kB {x:Str}{T:String}{p:Pos}{g:Sto->List W->Option D} (hc:dI K X (.type T) g) (hg:Gl X x) (hm:X.mg x=none) (hv:bootBuiltins x=some (.type T)) (ha:IA K X (e::es) af)
  (hn:x≠"__name__":=by decide) (hdb:(x==("__debug__" : Str))=false:=by decide) (hs:ar e=true:=by rfl) (hp:es.all ar=true:=by rfl) :
  IE K X (.Call (.Name x p) (e::es) [] pos) (iCB g af):=by
 refine⟨λenv st r hr=>?_⟩
 simp only [iCB,Option.bind_eq_some_iff,Option.map_eq_some_iff] at hr
 obtain⟨y,hy,d,hd,rfl⟩:=hr
 refine (ie (hc.run _ _ _ hd) hg hm hv (ha.run _ _ _ hy) hn hdb (aT hs) (bt hp)).imp ?_
 rintro σ H Q ⟨φ,hE,hS,q⟩
 exact⟨φ,hE,hS,λv H1 φ1 f1 s1 w1=>⟨φ1,s1,w1,λu H2 f2 w2=>q u H2 φ1 (f1.trans (Fw.same f2)) (s1.same f2) w2⟩⟩
theorem gn {H:Hp}{φ:List Addr}:∀ {ws:List W}{vs:List V}{ds:List D},gO ws=some ds->Rws K H φ ws vs->Rls K H φ ds vs
 | [],_,_,e,h=>by cases e;exact h
 | .d x::ws,_,_,e,h=>by
  obtain⟨v,r,rfl,h1,h2⟩:=h
  obtain⟨es,e1,rfl⟩:=Option.map_eq_some_iff.mp e
  exact⟨v,r,rfl,h1,gn e1 h2⟩
 | .h n::ws,_,_,e,h=>by cases e
theorem gN {x1} (h:IA K X es af):IE K X (.Tuple es x1 pos) (cy af):=by
 refine⟨λenv st r hr=>?_⟩
 simp only [cy,Option.bind_eq_some_iff] at hr
 obtain⟨y,hy,ds,hd,hr⟩:=hr
 split at hr
 ·cases hr
  rename_i hl
  refine (mF (h.run _ _ _ hy)).imp ?_
  rintro σ H Q ⟨φ,hE,hS,q⟩
  refine⟨φ,hE,hS,λvs H1 φ1 f1 s1 w1=>?_⟩
  have w:=gn hd w1
  refine⟨by rw [<-w.length];exact i0 hl,λp hp=>?_⟩
  exact q _ _ φ1 (f1.trans (Fw.new hp)) (s1.new hp) ⟨p,vs,rfl,aW,w.fw s1 (Fw.new hp)⟩
 ·cases hr
theorem cz (h:IA K X es af):IL K X (.List es pos) (bi af):=by
 refine⟨λenv st r hr=>?_⟩
 simp only [bi,Option.bind_eq_some_iff] at hr
 obtain⟨y,hy,ds,hd,hr⟩:=hr
 split at hr
 ·cases hr
  rename_i hl
  refine (mO (h.run _ _ _ hy)).imp ?_
  rintro σ H Q ⟨φ,hE,hS,q⟩
  refine⟨φ,hE,hS,λvs H1 φ1 f1 s1 w1=>?_⟩
  have w:=gn hd w1
  exact⟨by rw [<-w.length];exact i0 hl,λp hp=>q p vs H1 φ1 f1 s1 hp w⟩
 ·cases hr
theorem aX {lf:Lf} (h:IL K X e lf):IE K X e (au lf):=by
 refine⟨λenv st r hr=>?_⟩
 simp only [au,Option.map_eq_some_iff] at hr
 obtain⟨y,hy,rfl⟩:=hr
 refine (h.run _ _ _ hy).imp ?_
 rintro σ H Q ⟨φ,hE,hS,q⟩
 refine⟨φ,hE,hS,λa vs H1 φ1 f1 s1 n1 w1=>?_⟩
 exact q _ _ φ1 (f1.trans (Fw.new n1)) (s1.new n1) ⟨a,vs,rfl,s1.nin n1,.inl aW,w1.fw s1 (Fw.new n1)⟩
theorem Sr.moreC {H:Hp}{φ:List Addr}{st:Sto}{a:Addr}{o:HO}{c:C} (S:Sr K H φ st) (n:H a=none) (w:Rc K (upd H a o) (φ++[a]) φ.length a c):Sr K (upd H a o) (φ++[a]) (st++[c]):=by
 have f:Fw φ (φ++[a]) H (upd H a o):=⟨⟨[a],rfl,λb hb=>by rw [List.mem_singleton.mp hb];exact n⟩,λb o _ h=>aM.new n _ b o h,λb o h=>⟨o,aM.new n _ b o h⟩⟩
 refine⟨?_,by rw [List.length_append,List.length_append,S.len];rfl,λi b es e1 e2=>?_⟩
 ·rw [List.nodup_append]
  refine⟨S.nd,by simp,λx hx y hy e=>?_⟩
  rw [List.mem_singleton.mp hy] at e
  rw [e] at hx
  exact S.nin n hx
 ·by_cases hi:i < φ.length
  ·rw [List.getElem?_append_left hi] at e1
   rw [List.getElem?_append_left (by rw [<-S.len];exact hi)] at e2
   exact (S.at_ i b es e1 e2).fw S f λo h=>aM.new n _ _ _ h
  ·have e:i=φ.length:=by
    have:=(List.getElem?_eq_some_iff.mp e1).1
    rw [List.length_append] at this
    simp at this
    lia
   subst e
   rw [List.getElem?_append_right (Nat.le_refl _)] at e1
   rw [S.len,List.getElem?_append_right (Nat.le_refl _)] at e2
   simp at e1 e2
   subst e1 e2
   exact w
theorem Fw.moreO {H:Hp}{φ:List Addr}{a:Addr}{o:HO} (n:H a=none):Fw φ (φ++[a]) H (upd H a o):=
 ⟨⟨[a],rfl,λb hb=>by rw [List.mem_singleton.mp hb];exact n⟩,λb o _ h=>aM.new n _ b o h,λb o h=>⟨o,aM.new n _ b o h⟩⟩
theorem Fw.more {H:Hp}{φ:List Addr}{a:Addr}{vs:List V} (n:H a=none):Fw φ (φ++[a]) H (upd H a (.lst vs)):=Fw.moreO n
theorem Sr.more {H:Hp}{φ:List Addr}{st:Sto}{a:Addr}{vs:List V}{ds:List D} (S:Sr K H φ st) (n:H a=none) (w:Rls K H φ ds vs):Sr K (upd H a (.lst vs)) (φ++[a]) (st++[.l ds]):=
 S.moreC n ⟨vs,aW,w.fw S (Fw.moreO n)⟩
theorem lD {lf:Lf} (h:IL K X e lf):IE K X e (jH lf):=by
 refine⟨λenv st r hr=>?_⟩
 simp only [jH,Option.map_eq_some_iff] at hr
 obtain⟨y,hy,rfl⟩:=hr
 refine (h.run _ _ _ hy).imp ?_
 rintro σ H Q ⟨φ,hE,hS,q⟩
 refine⟨φ,hE,hS,λa vs H1 φ1 f1 s1 n1 w1=>?_⟩
 exact q _ _ (φ1++[a]) (f1.trans (Fw.more n1)) (s1.more n1 w1) ⟨a,by rw [<-s1.len];simp,rfl⟩
noncomputable def spI (K:PySem.W.Frag) (m:Fn):Sp:=λvs H Q _=>∃ φ st ws r,m ws st=some r/\Rws K H φ ws vs/\Sr K H φ st/\∀ v H' φ',Fw φ φ' H H'->Sr K H' φ' r.2->Rw K H' φ' r.1 v->Q v H'
theorem aF {x:Str}{k j:Nat}{ff:Addr}{fd:FuncData}{ps:List Str}{m:Fn}{p:Pos} (F:cb X.prog X.w X.K X.mg X.base CX0 j ff fd ps (spI K m)) (hjk:j<=k) (hr:bM k X.A) (hg:Gl X x) (hm:X.mg x=some (.ref ff)) (hk:PySem.W.keepIn X.K (.ref ff)=true) (hb:cm X.K fd ps [])
  (ha:IA K X (e::es) af) (hdb:(x==("__debug__" : Str))=false:=by decide) (hs:ar e=true:=by rfl) (hp:es.all ar=true:=by rfl) :
  IE K X (.Call (.Name x p) (e::es) [] pos) (ao m af):=by
 refine⟨λenv st r h=>?_⟩
 simp only [ao,Option.bind_eq_some_iff] at h
 obtain⟨y,hy,h⟩:=h
 refine (kI (F.mono hjk) hr hg hm hk hb .nil rg (ha.run _ _ _ hy) hdb (aT hs) (bt hp)).imp ?_
 rintro σ H Q ⟨φ,hE,hS,q⟩
 refine⟨φ,hE,hS,λvs H1 φ1 f1 s1 w1=>?_⟩
 show spI K m (vs++[]) H1 Q E0
 rw [List.append_nil]
 exact⟨φ1,y.2,y.1,r,h,w1,s1,λv H2 φ2 f2 s2 w2=>q v H2 φ2 (f1.trans f2) s2 w2⟩
end
end L2
namespace L2
open PySem PySem.Spec PyProof.Rows
inductive Fl where
 | nx (env:Ev) (st:Sto) | rt (w:W) (st:Sto) | bk (env:Ev) (st:Sto) | ct (env:Ev) (st:Sto)
abbrev Sf:=Ev->Sto->Option Fl
noncomputable def nz (K:PySem.W.Frag) (φ:List Addr) (H:Hp) (D:jR):Fl->Prop
 | .nx e s=>∀ σ' H' φ',Fw φ φ' H H'->Er K H' φ' e σ'->Sr K H' φ' s->D.nx σ' H'
 | .rt w s=>∀ v H' φ',Fw φ φ' H H'->Sr K H' φ' s->Rw K H' φ' w v->D.rt v H'
 | .bk e s=>∀ σ' H' φ',Fw φ φ' H H'->Er K H' φ' e σ'->Sr K H' φ' s->D.bk σ' H'
 | .ct e s=>∀ σ' H' φ',Fw φ φ' H H'->Er K H' φ' e σ'->Sr K H' φ' s->D.ct σ' H'
theorem nz.fw {K:PySem.W.Frag}{φ φ1:List Addr}{H H1:Hp}{D:jR}{r:Fl} (h:nz K φ H D r) (f:Fw φ φ1 H H1):nz K φ1 H1 D r:=by
 cases r with
 | nx e s=>exact λσ' H' φ' f'=>h σ' H' φ' (f.trans f')
 | rt w s=>exact λv H' φ' f'=>h v H' φ' (f.trans f')
 | bk e s=>exact λσ' H' φ' f'=>h σ' H' φ' (f.trans f')
 | ct e s=>exact λσ' H' φ' f'=>h σ' H' φ' (f.trans f')
noncomputable def tS (K:PySem.W.Frag) (env:Ev) (st:Sto) (r:Fl):TS:=λD σ H=>∃ φ,Er K H φ env σ/\Sr K H φ st/\nz K φ H D r
structure IS (K:PySem.W.Frag) (X:Cx) (s:Stmt) (g:Sf):Prop where
 run:∀ env st r,g env st=some r->PS X s (tS K env st r)
structure ISs (K:PySem.W.Frag) (X:Cx) (s:List Stmt) (g:Sf):Prop where
 run:∀ env st r,g env st=some r->PSs X s (tS K env st r)
inductive Tg where
 | nm (i:Nat) | tp (is:List Nat)
noncomputable def nM:Tg->List Nat
 | .nm i=>[i]
 | .tp is=>is
noncomputable def mR:List Nat->List D->Ev->Ev
 | i::is,d::ds,env=>mR is ds (env.set i (some (.d d)))
 | _,_,env=>env
noncomputable def dq:Tg->W->Ev->Option Ev
 | .nm i,w,env=>some (env.set i (some w))
 | .tp is,.d (.tup ds),env=>if is.length=ds.length then some (mR is ds env) else none
 | .tp is,.d (.lst ds),env=>if is.length=ds.length then some (mR is ds env) else none
 | _,_,_=>none
noncomputable def pV (is:List Nat) (σ σ':St):Prop:=σ'.length=σ.length/\∀ j,j ∉ is->σ'[j]?=σ[j]?
noncomputable def tG (K:PySem.W.Frag) (g:Tg):TG:=λv σ H Q=>∃ φ st env w env',Er K H φ env σ/\Sr K H φ st/\Rw K H φ w v/\dq g w env=some env'/\∀ σ',Er K H φ env' σ'->pV (nM g) σ σ'->Q σ' H
noncomputable def bX:Sf
 | env,st=>some (.nx env st)
noncomputable def aA (a b:Sf):Sf
 | env,st=>(a env st).bind λr=>match r with
 | .nx e s=>b e s
 | r=>some r
noncomputable def br (g:Tg) (f:Ef):Sf
 | env,st=>(f env st).bind λr=>(dq g r.1 env).map λe=>.nx e r.2
noncomputable def mn (i j:Nat) (a:Af):Sf
 | env,st=>(a env st).bind λr=>match r.1 with
 | [x,y]=>some (.nx ((env.set i (some x)).set j (some y)) r.2)
 | _=>none
noncomputable def jh (st:Sto) (o i v:W):Option Sto:=match o,i,v with
 | .h n,.d (.int k),.d x=>(lg st n).bind λds=>(ixN ds.length k).map λj=>st.set n (.l (ds.set j x))
 | _,_,_=>none
noncomputable def eH (o i v:Ef):Sf
 | env,st=>(v env st).bind λrv=>(o env rv.2).bind λro=>(i env ro.2).bind λri=>(jh ri.2 ro.1 ri.1 rv.1).map λs=>.nx env s
noncomputable def bJ (f:Ef):Sf
 | env,st=>(f env st).map λr=>.rt r.1 r.2
noncomputable def jE (f:Ef):Sf
 | env,st=>(f env st).map λr=>.nx env r.2
noncomputable def bR (c:Tf) (a b:Sf):Sf
 | env,st=>(c env st).bind λr=>if r.1=true then a env r.2 else b env r.2
noncomputable def dJ (g:Tg) (body:Sf):List D->Ev->Sto->Option Fl
 | [],env,st=>some (.nx env st)
 | d::ds,env,st=>(dq g (.d d) env).bind λe=>(body e st).bind λr=>match r with
  | .nx e s=>dJ g body ds e s
  | .ct e s=>dJ g body ds e s
  | .bk e s=>some (.nx e s)
  | .rt w s=>some (.rt w s)
noncomputable def ka (fi:Lf) (g:Tg) (body:Sf):Sf
 | env,st=>(fi env st).bind λr=>dJ g body r.1 env r.2
noncomputable def lcI (g:Tg) (tt:Tf) (te:Ef) (env:Ev):List D->Sto->Option (List D×Sto)
 | [],st=>some ([],st)
 | d::ds,st=>(dq g (.d d) env).bind λe=>(tt e st).bind λb=>if b.1=true then (te e b.2).bind λx=>(gO [x.1]).bind λys=>(lcI g tt te env ds x.2).map λr=>(ys++r.1,r.2)
   else lcI g tt te env ds b.2
noncomputable def eA (k:Nat) (js:List Nat) (env:Ev):Ev:=List.replicate k none++js.map λj=>env.getD j none
noncomputable def iLc (k:Nat) (js:List Nat) (fi:Lf) (g:Tg) (tt:Tf) (te:Ef):Lf
 | env,st=>(fi env st).bind λr=>if r.1.length<=1000000 then lcI g tt te (eA k js env) r.1 r.2 else none
noncomputable def cq:Tf
 | _,st=>some (true,st)
noncomputable def cw (f:Ef):Lf
 | env,st=>(f env st).bind λr=>match r.1 with
 | .d (.tup ds)=>some (ds,r.2)
 | .d (.lst ds)=>some (ds,r.2)
 | _=>none
noncomputable def et (lo:Int) (n:Nat):List D:=(List.range n).map λk:Nat=>D.int (lo+k)
noncomputable def cJ (a:Af):Lf
 | env,st=>(a env st).bind λr=>match r.1 with
 | [.d (.int j)]=>if -(2 ^ 62)<=j/\j < 2 ^ 62 then some (et 0 j.toNat,r.2) else none
 | _=>none
section
variable {K:PySem.W.Frag}{X:Cx}{pos:Pos}
theorem PS.imp {s:Stmt}{t t':TS} (h:PS X s t) (m:∀ D σ H,t' D σ H->t D σ H):PS X s t':=λpins s σ H D I q=>h pins s σ H D I (m D σ H q)
theorem PSs.imp {s:List Stmt}{t t':TS} (h:PSs X s t) (m:∀ D σ H,t' D σ H->t D σ H):PSs X s t':=λpins s σ H D I q=>h pins s σ H D I (m D σ H q)
theorem Er.set {H:Hp}{φ:List Addr}{env:Ev}{σ:St} (h:Er K H φ env σ) (i:Nat) {w:W}{v:V} (r:Rw K H φ w v):Er K H φ (env.set i (some w)) (σ.set i (some v)):=by
 refine⟨by rw [List.length_set,List.length_set,h.len],λj w' e=>?_⟩
 by_cases hj:i=j
 ·subst hj
  have hi:i < env.length:=by
   have:=(List.getElem?_eq_some_iff.mp e).1
   rwa [List.length_set] at this
  rw [List.getElem?_set_self hi] at e
  cases e
  exact⟨v,by rw [List.getElem?_set_self (by rw [<-h.len];exact hi)],r⟩
 ·rw [List.getElem?_set_ne hj] at e
  obtain⟨v',e1,r1⟩:=h.at_ j w' e
  exact⟨v',by rw [List.getElem?_set_ne hj];exact e1,r1⟩
theorem no (i:Nat) (σ:St) (v:Option V):pV [i] σ (σ.set i v):=⟨by rw [List.length_set],λj hj=>by rw [List.getElem?_set_ne (by rintro rfl;simp at hj)]⟩
theorem cj {i:Nat}{x:Str} (h:PG X (.Name x pos) (lP i)):PG X (.Name x pos) (tG K (.nm i)):=by
 intro pins s σ H v u Q I rv q
 obtain⟨φ,st,env,w,env',hE,hS,r,e,q⟩:=q
 cases e
 exact h pins s σ H v u Q I rv (q _ (hE.set i r) (no i σ _))
variable {s:Stmt}{ss rest:List Stmt}{e a b c:Expr}{ga gb:Sf}{f fa fb fc:Ef}
theorem bQ:ISs K X [] bX:=by
 refine⟨λenv st r hr=>?_⟩
 cases hr
 exact kE.imp λD σ H ⟨φ,hE,hS,q⟩=>q σ H φ (Fw.refl φ H) hE hS
theorem ax (h:IS K X s ga):ISs K X [s] ga:=⟨λenv st r hr=>fZ (h.run env st r hr)⟩
theorem aq (h1:IS K X s ga) (h2:ISs K X rest gb):ISs K X (s::rest) (aA ga gb):=by
 refine⟨λenv st r hr=>?_⟩
 simp only [aA,Option.bind_eq_some_iff] at hr
 obtain⟨r1,e1,hr⟩:=hr
 cases r1 with
 | nx e s1=>
  refine (cW (h1.run _ _ _ e1) (h2.run _ _ _ hr)).imp ?_
  rintro D σ H ⟨φ,hE,hS,q⟩
  exact⟨φ,hE,hS,λσ' H' φ' f' e' s'=>⟨φ',e',s',q.fw f'⟩⟩
 | rt w s1=>
  cases hr
  exact (cW (h1.run _ _ _ e1) bY).imp λD σ H ⟨φ,hE,hS,q⟩=>⟨φ,hE,hS,q⟩
 | bk w s1=>
  cases hr
  exact (cW (h1.run _ _ _ e1) bY).imp λD σ H ⟨φ,hE,hS,q⟩=>⟨φ,hE,hS,q⟩
 | ct w s1=>
  cases hr
  exact (cW (h1.run _ _ _ e1) bY).imp λD σ H ⟨φ,hE,hS,q⟩=>⟨φ,hE,hS,q⟩
theorem bA {i:Nat}{x:Str}{pos':Pos} (hN:X.N.Nodup) (hi:X.N[i]?=some x) (hx:Loc X.env.scope x) (he:IE K X e f) (hs:swapsWith e (some (.Name x pos')) pos.line X.env=pure false:=by rfl) (hf:X.fn x=true\/X.env.scope.names.lookup x=some .local:=by first | exact .inl rfl | exact .inr rfl | assumption) :
  IS K X (.Assign [.Name x pos'] e pos) (br (.nm i) f):=by
 refine⟨λenv st r hr=>?_⟩
 simp only [br,dq,Option.bind_eq_some_iff,Option.map_eq_some_iff] at hr
 obtain⟨y,hy,e',ee,rfl⟩:=hr
 cases ee
 refine (mq hN hi hx (he.run _ _ _ hy) hs hf).imp ?_
 rintro D σ H ⟨φ,hE,hS,q⟩
 exact⟨φ,hE,hS,λv H1 φ1 f1 s1 w1=>q _ H1 φ1 f1 ((hE.fw hS f1).set i w1) s1⟩
theorem Sr.putC {H:Hp}{φ:List Addr}{st:Sto}{n:Nat}{a:Addr}{o:HO}{c:C} (S:Sr K H φ st) (hn:φ[n]?=some a) (w:Fw φ φ H (upd H a o)->Rc K (upd H a o) φ n a c) :
  Fw φ φ H (upd H a o)/\Sr K (upd H a o) φ (st.set n c):=by
 have ha:a ∈ φ:=List.mem_of_getElem? hn
 have f:Fw φ φ H (upd H a o):=⟨⟨[],by simp,by simp⟩,λb o hb h=>by rw [aO (λz=>hb (by rw [z];exact ha))];exact h,λb o h=>by
  by_cases z:b=a
  ·subst z;exact⟨_,aW⟩
  ·exact⟨o,by rw [aO z];exact h⟩⟩
 refine⟨f,S.nd,by rw [List.length_set];exact S.len,λm b es e1 e2=>?_⟩
 by_cases hm:n=m
 ·subst hm
  rw [e1] at hn;cases hn
  have hl:n < st.length:=by rw [<-S.len];exact (List.getElem?_eq_some_iff.mp e1).1
  rw [List.getElem?_set_self hl] at e2
  cases e2
  exact w f
 ·rw [List.getElem?_set_ne hm] at e2
  have q:=S.at_ m b es e1 e2
  have hne:b≠a:=by
   rintro rfl
   obtain⟨h1,h1'⟩:=List.getElem?_eq_some_iff.mp hn
   obtain⟨h2,h2'⟩:=List.getElem?_eq_some_iff.mp e1
   exact hm ((List.getElem_inj S.nd).mp (h1'.trans h2'.symm))
  exact q.fw S f λo h=>by rw [aO hne];exact h
theorem Sr.put {H:Hp}{φ:List Addr}{st:Sto}{n:Nat}{a:Addr}{vs:List V}{ds:List D} (S:Sr K H φ st) (hn:φ[n]?=some a) (w:Rls K H φ ds vs) :
  Fw φ φ H (upd H a (.lst vs))/\Sr K (upd H a (.lst vs)) φ (st.set n (.l ds)):=S.putC hn λf=>⟨vs,aW,w.fw S f⟩
theorem jL {st s':Sto}{o i v:W} (h:jh st o i v=some s'):∃ n k x ds j,o=.h n/\i=.d (.int k)/\v=.d x/\lg st n=some ds/\ixN ds.length k=some j/\s'=st.set n (.l (ds.set j x)):=by
 unfold jh at h
 split at h
 ·obtain⟨ds,e1,h⟩:=Option.bind_eq_some_iff.mp h
  obtain⟨j,e2,h⟩:=Option.map_eq_some_iff.mp h
  exact⟨_,_,_,ds,j,rfl,rfl,rfl,e1,e2,h.symm⟩
 ·cases h
theorem gf {tpos:Pos} (ho:IE K X a fa) (hi:IE K X b fb) (hv:IE K X e f) (hb:gE b=true:=by rfl) (hs:swapsWithSole [.Subscript a b tpos] e pos.line X.env=pure false:=by rfl) (hw:swappedStores [.Subscript a b tpos] e X.env=pure none:=by rfl) :
  IS K X (.Assign [.Subscript a b tpos] e pos) (eH fa fb f):=by
 refine⟨λenv st r hr=>?_⟩
 simp only [eH,Option.bind_eq_some_iff,Option.map_eq_some_iff] at hr
 obtain⟨rv,ev,ro,eo,ri,ei,s',es,rfl⟩:=hr
 refine (qk (hv.run _ _ _ ev) (qF (ho.run _ _ _ eo) (hi.run _ _ _ ei) lL (nI hb)) hs hw (oK rfl)).imp ?_
 rintro D σ H ⟨φ,hE,hS,q⟩
 refine⟨φ,hE,hS,λv H1 φ1 f1 s1 w1=>⟨φ1,hE.fw hS f1,s1,λo H2 φ2 f2 s2 w2=>⟨φ2,(hE.fw hS f1).fw s1 f2,s2,λi H3 φ3 f3 s3 w3=>?_⟩⟩⟩
 have e3:=((hE.fw hS f1).fw s1 f2).fw s2 f3
 have w1':=(w1.fw s1 f2).fw s2 f3
 have w2':=w2.fw s2 f3
 obtain⟨ro1,ro2⟩:=ro
 obtain⟨rv1,rv2⟩:=rv
 obtain⟨ri1,ri2⟩:=ri
 obtain⟨n,k,x,ds,j,rfl,rfl,rfl,eds,ej,rfl⟩:=jL es
 obtain⟨p,ep,rfl⟩:=w2'
 obtain⟨vs,hp,rl⟩:=s3.atl n p ds ep eds
 have w3':i=.int k:=w3
 subst w3'
 obtain⟨f4,s4⟩:=s3.put ep (Rls.set j rl w1')
 refine⟨p,vs,k,j,rfl,rfl,hp,by rw [<-rl.length];exact ej,?_⟩
 exact q _ _ φ3 (((f1.trans f2).trans f3).trans f4) (e3.fw s3 f4) s4
theorem bv (h:IE K X e f):IS K X (.Return (some e) pos) (bJ f):=by
 refine⟨λenv st r hr=>?_⟩
 simp only [bJ,Option.map_eq_some_iff] at hr
 obtain⟨y,hy,rfl⟩:=hr
 exact (iX (h.run _ _ _ hy)).imp λD σ H ⟨φ,hE,hS,q⟩=>⟨φ,hE,hS,q⟩
theorem n6 (h:IE K X e f) (hs:swapsWith e none pos.line X.env=pure false:=by rfl):IS K X (.Expr e pos) (jE f):=by
 refine⟨λenv st r hr=>?_⟩
 simp only [jE,Option.map_eq_some_iff] at hr
 obtain⟨y,hy,rfl⟩:=hr
 exact (nW (h.run _ _ _ hy) hs).imp λD σ H ⟨φ,hE,hS,q⟩=>⟨φ,hE,hS,λv H1 φ1 f1 s1 w1=>q σ H1 φ1 f1 (hE.fw hS f1) s1⟩
theorem dB {tc:Tf}{sa sb:List Stmt} (hc:IT K X c tc) (ha:ISs K X sa ga) (hb:ISs K X sb gb):IS K X (.If c sa sb pos) (bR tc ga gb):=by
 refine⟨λenv st r hr=>?_⟩
 simp only [bR,Option.bind_eq_some_iff] at hr
 obtain⟨⟨k,s1⟩,hx,hr⟩:=hr
 cases k with
 | true=>
  rw [if_pos rfl] at hr
  refine (i8 (hc.run _ _ _ hx) (ha.run _ _ _ hr) bY).imp ?_
  rintro D σ H ⟨φ,hE,hS,q⟩
  refine⟨φ,hE,hS,λH1 φ1 f1 s1=>nv ?_⟩
  exact⟨φ1,hE.fw hS f1,s1,q.fw f1⟩
 | false=>
  rw [if_neg Bool.false_ne_true] at hr
  refine (i8 (hc.run _ _ _ hx) bY (hb.run _ _ _ hr)).imp ?_
  rintro D σ H ⟨φ,hE,hS,q⟩
  refine⟨φ,hE,hS,λH1 φ1 f1 s1=>jW ?_⟩
  exact⟨φ1,hE.fw hS f1,s1,q.fw f1⟩
noncomputable def si (K:PySem.W.Frag) (g:Sf):TS:=λD σ H=>∃ env st r,g env st=some r/\tS K env st r D σ H
noncomputable def kO (K:PySem.W.Frag) (f:Ef):TE:=λσ H Q=>∃ env st r,f env st=some r/\tI K env st r σ H Q
noncomputable def oV (K:PySem.W.Frag) (f:Tf):TT:=λσ H Q=>∃ env st r,f env st=some r/\tIT K env st r σ H Q
theorem ISs.any (h:ISs K X ss ga):PSs X ss (si K ga):=λpins s σ H D I ⟨env,st,r,e,q⟩=>h.run env st r e pins s σ H D I q
theorem IE.any (h:IE K X e f):PE X e (kO K f):=λpins s σ H D I ⟨env,st,r,e,q⟩=>h.run env st r e pins s σ H D I q
noncomputable def Yl (K:PySem.W.Frag) (φ0:List Addr) (H0:Hp) (J:It) (ds:List D):Prop:=∀ (H:Hp) (φ:List Addr) (st:Sto) (i:Nat),Fw φ0 φ H0 H->Sr K H φ st->
 (∀ d,ds[i]?=some d->J.go i H/\∀ x H',J.yld i H x H'->aM H H'/\Rl K H' φ d x)/\(ds.length=i->J.stop i H)
noncomputable def tII (K:PySem.W.Frag) (env:Ev) (st:Sto) (r:List D×Sto):TI:=λσ H R=>∃ φ,Er K H φ env σ/\Sr K H φ st/\∀ J H' φ',Fw φ φ' H H'->Sr K H' φ' r.2->Yl K φ' H' J r.1->R J H'
structure II (K:PySem.W.Frag) (X:Cx) (tg iter:Expr) (f:Lf):Prop where
 run:∀ env st r,f env st=some r->PI X tg iter (tII K env st r)
theorem PI.imp {tg iter:Expr}{t t':TI} (h:PI X tg iter t) (m:∀ σ H R,t' σ H R->t σ H R):PI X tg iter t':=λpins s σ H R I q=>h pins s σ H R I (m σ H R q)
variable {tg:Expr}
end
end L2
namespace L2
open PySem PySem.Spec PyProof.Rows
section
variable {K:PySem.W.Frag}{X:Cx}{pos:Pos}{tg e a b:Expr}{f:Ef}{af:Af}
theorem jI (h:IE K X e f) (hK:X.K=K:=by rfl):II K X tg e (cw f):=by
 subst hK
 refine⟨λenv st r hr=>?_⟩
 simp only [cw,Option.bind_eq_some_iff] at hr
 obtain⟨⟨w,s1⟩,hy,hr⟩:=hr
 match w,hr with
 | .d (.tup ds),hr=>
  cases hr
  refine (o3 (h.run _ _ _ hy)).imp ?_
  rintro σ H R ⟨φ,hE,hS,q⟩
  refine⟨φ,hE,hS,λv H1 φ1 f1 s1 w1=>?_⟩
  obtain⟨a,vs,rfl,hq,hr⟩:=w1
  refine⟨a,rfl,⟨vs,(SqT.of hq)⟩,q _ H1 φ1 f1 s1 λH2 φ2 st2 i f2 s2=>?_⟩
  have hq2:=(SqT.of hq).fw s1 f2
  have hr2:=hr.fw s1 f2
  refine⟨λd hd=>?_,λhi=>⟨vs,hq2,by rw [<-hr2.length];exact Nat.le_of_eq hi⟩⟩
  obtain⟨v,ev,rv⟩:=hr2.get hd
  refine⟨⟨vs,v,hq2,ev⟩,λx H' y=>?_⟩
  obtain⟨rfl,y⟩:=y
  have:=y vs hq2
  rw [ev] at this
  cases this
  exact⟨aM.refl _,rv⟩
 | .d (.lst ds),hr=>
  cases hr
  refine (oD (h.run _ _ _ hy)).imp ?_
  rintro σ H R ⟨φ,hE,hS,q⟩
  refine⟨φ,hE,hS,λv H1 φ1 f1 s1 w1=>?_⟩
  obtain⟨a,vs,rfl,h0,hq,hr⟩:=w1
  refine⟨a,rfl,⟨vs,.inl hq⟩,q _ H1 φ1 f1 s1 λH2 φ2 st2 i f2 s2=>?_⟩
  have hq2:SqL X.K H2 a vs:=.inl (hq.fw f2 h0)
  have hr2:=hr.fw s1 f2
  refine⟨λd hd=>?_,λhi=>⟨vs,hq2,by rw [<-hr2.length];exact Nat.le_of_eq hi⟩⟩
  obtain⟨v,ev,rv⟩:=hr2.get hd
  refine⟨⟨vs,v,hq2,ev⟩,λx H' y=>?_⟩
  obtain⟨rfl,y⟩:=y
  have:=y vs hq2
  rw [ev] at this
  cases this
  exact⟨aM.refl _,rv⟩
theorem gy (lo:Int) (n i:Nat):(et lo n)[i]?=if i < n then some (.int (lo+i)) else none:=by
 unfold et
 rw [List.getElem?_map]
 by_cases h:i < n
 ·rw [List.getElem?_range h,if_pos h];rfl
 ·rw [List.getElem?_eq_none (by simpa using h),if_neg h];rfl
theorem dG (lo:Int) (n:Nat):(et lo n).length=n:=by unfold et;rw [List.length_map,List.length_range]
theorem pp (lo:Int) (n:Nat) {φ:List Addr}{H:Hp}:Yl K φ H (Itr lo n) (et lo n):=by
 intro H2 φ2 st2 i f2 s2
 refine⟨λd hd=>?_,λhi=>by rw [dG] at hi;exact Nat.le_of_eq hi⟩
 rw [gy] at hd
 by_cases h:i < n
 ·rw [if_pos h] at hd
  cases hd
  refine⟨h,λx H' y=>?_⟩
  obtain⟨rfl,rfl⟩:=y
  exact⟨aM.refl _,rfl⟩
 ·rw [if_neg h] at hd;cases hd
theorem fW {p:Pos} (hg:Gl X "range") (hm:X.mg "range" = none) (ha:IA K X [a] af) (hs:ar a=true:=by rfl):II K X tg (.Call (.Name "range" p) [a] [] pos) (cJ af):=by
 refine⟨λenv st r hr=>?_⟩
 simp only [cJ,Option.bind_eq_some_iff] at hr
 obtain⟨⟨ws,s1⟩,hy,hr⟩:=hr
 match ws,hr with
 | [.d (.int j)],hr=>
  have hr':(if -(2 ^ 62)<=j/\j < 2 ^ 62 then some (et 0 j.toNat,s1) else none)=some r:=hr
  by_cases hj:-(2 ^ 62)<=j/\j < 2 ^ 62
  ·rw [if_pos hj] at hr'
   cases hr'
   refine (lu hg hm (ha.run _ _ _ hy) (ja hs)).imp ?_
   rintro σ H R ⟨φ,hE,hS,q⟩
   refine⟨φ,hE,hS,λvs H1 φ1 f1 s1 w1=>?_⟩
   obtain⟨v,r,rfl,r1,rfl⟩:=w1
   exact⟨j,by rw [show v=.int j from r1],hj.1,hj.2,q _ H1 φ1 f1 s1 (pp 0 _)⟩
  ·rw [if_neg hj] at hr';cases hr'
theorem jK {iter:Expr}{body:List Stmt}{fi:Lf}{g:Tg}{gb:Sf} (hi:II K X tg iter fi) (hg:PG X tg (tG K g)) (hb:ISs K X body gb) (hp:PassesOwn (model X.prog X.w) X.A X.env X.xe) (hc:X.calm=true:=by rfl)
  (hs:∀ x,foldedSetIterable iter X.env x=pure x:=by intro _;rfl):IS K X (.For tg iter body [] pos) (ka fi g gb):=by
 refine⟨λenv st r hr=>?_⟩
 simp only [ka,Option.bind_eq_some_iff] at hr
 obtain⟨⟨ds,s1⟩,hy,hr⟩:=hr
 refine (pZ hp hc (hi.run _ _ _ hy) hg hb.any hs).imp ?_
 rintro D σ H ⟨φ,hE,hS,q⟩
 refine⟨φ,hE,hS,λJ H1 φ1 f1 S1 yl=>?_⟩
 refine⟨λi m σ H=>m=ds.length - i/\i<=ds.length/\∃ env st φ2,Fw φ1 φ2 H1 H/\Er K H φ2 env σ/\Sr K H φ2 st/\dJ g gb (ds.drop i) env st=some r,⟨ds.length,by simp,Nat.zero_le _,env,s1,φ1,Fw.refl _ _,hE.fw hS f1,S1,hr⟩,?_⟩
 rintro i m σ H2 ⟨rfl,hi,env2,st2,φ2,f2,e2,S2,h2⟩
 obtain⟨y1,y2⟩:=yl H2 φ2 st2 i f2 S2
 by_cases hlt:i < ds.length
 ·obtain⟨go,yld⟩:=y1 ds[i] (List.getElem?_eq_getElem hlt)
  rw [List.drop_eq_getElem_cons hlt] at h2
  simp only [dJ,Option.bind_eq_some_iff] at h2
  obtain⟨e3,he3,r3,hr3,h3⟩:=h2
  refine .inr ⟨go,λσ' H'=>i+1<=ds.length/\∃ env st φ2,Fw φ1 φ2 H1 H'/\Er K H' φ2 env σ'/\Sr K H' φ2 st/\dJ g gb (ds.drop (i+1)) env st=some r,λσ' H' ⟨hn,p'⟩=>⟨ds.length - (i+1),by lia,rfl,hn,p'⟩,λx H' y=>?_⟩
  obtain⟨sm,rx⟩:=yld x H' y
  have S3:=S2.same sm
  have f3:=f2.trans (Fw.same (φ:=φ2) sm)
  refine⟨φ2,st2,env2,.d ds[i],e3,e2.fw S2 (Fw.same sm),S3,rx,he3,λσ' e' _=>?_⟩
  refine⟨e3,st2,r3,hr3,φ2,e',S3,?_⟩
  cases r3 with
  | nx e4 s4=>exact λσ4 H4 φ4 f4 e4' s4'=>⟨hlt,e4,s4,φ4,f3.trans f4,e4',s4',h3⟩
  | ct e4 s4=>exact λσ4 H4 φ4 f4 e4' s4'=>⟨hlt,e4,s4,φ4,f3.trans f4,e4',s4',h3⟩
  | bk e4 s4=>
   cases h3
   exact λσ4 H4 φ4 f4 e4' s4'=>q σ4 H4 φ4 (f1.trans (f3.trans f4)) e4' s4'
  | rt w s4=>
   cases h3
   exact λv H4 φ4 f4 s4' w4=>q v H4 φ4 (f1.trans (f3.trans f4)) s4' w4
 ·have hi':i=ds.length:=by lia
  subst hi'
  rw [List.drop_length] at h2
  cases h2
  exact .inl ⟨y2 rfl,q σ H2 φ2 (f1.trans f2) e2 S2⟩
structure ITs (K:PySem.W.Frag) (X:Cx) (ifs:List Expr) (t:Tf):Prop where
 run:PTs X ifs (oV K t)
theorem dr:ITs K X [] cq:=by
 refine⟨λpins s σ H Q I ⟨env,st,r,e,φ,hE,hS,q⟩=>?_⟩
 cases e
 exact oj pins s σ H Q I (q H φ (Fw.refl φ H) hS)
theorem Er.emb {H:Hp}{φ:List Addr}{env:Ev}{σ:St} (h:Er K H φ env σ) (k:Nat) (js:List Nat):Er K H φ (eA k js env) (dC k js σ):=by
 refine⟨by unfold eA dC;simp,λi w e=>?_⟩
 unfold eA at e
 unfold dC
 by_cases hi:i < k
 ·rw [List.getElem?_append_left (by simpa using hi),List.getElem?_replicate,if_pos hi] at e
  cases e
 ·rw [List.getElem?_append_right (by simpa using hi),List.length_replicate,List.getElem?_map,Option.map_eq_some_iff] at e
  obtain⟨j,ej,e⟩:=e
  have ej2:env[j]?=some (some w):=by
   rw [List.getD] at e
   cases q:env[j]? with
   | none=>rw [q] at e;cases e
   | some o=>rw [q] at e;rw [show o=some w from e]
  obtain⟨v,ev,rv⟩:=h.at_ j w ej2
  refine⟨v,?_,rv⟩
  rw [List.getElem?_append_right (by simpa using hi),List.length_replicate,List.getElem?_map,ej]
  show some ((σ[j]?).getD none)=_
  rw [ev];rfl
theorem Sub.stay {k:Nat}{js is:List Nat}{σ σ':St} (h:pV is (dC k js σ) σ') (hi:∀ j ∈ is,j < k):Sub (dC k js σ) σ':=by
 refine⟨h.1.symm,λj v e=>?_⟩
 by_cases hj:j ∈ is
 ·have:=hi j hj
  unfold dC at e
  rw [List.getElem?_append_left (by simpa using this),List.getElem?_replicate,if_pos this] at e
  cases e
 ·rw [h.2 j hj];exact e
theorem pQ {k:Nat}{js:List Nat}{g:Tg}{tt:Tf}{te:Ef}{env:Ev}{st s1:Sto}{ds:List D}{r:List D×Sto} (hgi:∀ j ∈ nM g,j < k) (hdl:ds.length<=1000000) (hr':lcI g tt te (eA k js env) ds s1=some r) :
  ∀ σ H Q,tIL K env st r σ H Q->tLc (dC k js) (tII K env st (ds,s1)) (tG K g) (oV K tt) (kO K te) σ H Q:=by
 rintro σ H Q ⟨φ,hE,hS,q⟩
 refine⟨φ,hE,hS,λJ H1 φ1 f1 S1 yl=>?_⟩
 have hE1:=(hE.fw hS f1).emb k js
 refine⟨λi m ys H2=>m=ds.length - i/\i<=ds.length/\∃ st φ2 es r2,Fw φ1 φ2 H1 H2/\Sr K H2 φ2 st/\Rls K H2 φ2 es ys/\es.length<=i/\lcI g tt te (eA k js env) (ds.drop i) st=some r2/\r=(es++r2.1,r2.2),⟨ds.length,by simp,Nat.zero_le _,s1,φ1,[],r,Fw.refl _ _,S1,rfl,Nat.le_refl _,hr',rfl⟩,?_⟩
 rintro i m ys H2 ⟨rfl,hi,st2,φ2,es,r2,f2,S2,rl2,hle,h2,rfl⟩
 obtain⟨y1,y2⟩:=yl H2 φ2 st2 i f2 S2
 by_cases hlt:i < ds.length
 ·obtain⟨go,yld⟩:=y1 ds[i] (List.getElem?_eq_getElem hlt)
  rw [List.drop_eq_getElem_cons hlt] at h2
  simp only [lcI,Option.bind_eq_some_iff] at h2
  obtain⟨e3,he3,⟨kb,s3⟩,hb3,h3⟩:=h2
  have hz:ys.length < sizeLine:=by
   rw [<-rl2.length]
   have:sizeLine=16777216:=sizeLine_eq
   lia
  refine .inr ⟨go,hz,λys' H'=>i+1<=ds.length/\∃ st φ2 es' r2',Fw φ1 φ2 H1 H'/\Sr K H' φ2 st/\Rls K H' φ2 es' ys'/\es'.length<=i+1/\lcI g tt te (eA k js env) (ds.drop (i+1)) st=some r2'/\(es++r2.1,r2.2)=(es'++r2'.1,r2'.2),λys' H' ⟨hn,p'⟩=>⟨ds.length - (i+1),by lia,rfl,hn,p'⟩,λx H' y=>?_⟩
  obtain⟨sm,rx⟩:=yld x H' y
  have S3:=S2.same sm
  have f3:=f2.trans (Fw.same (φ:=φ2) sm)
  refine⟨φ2,st2,eA k js env,.d ds[i],e3,hE1.fw S1 f3,S3,rx,he3,λσ' e' stay=>⟨Sub.stay stay hgi,?_⟩⟩
  refine⟨e3,st2,_,hb3,φ2,e',S3,λH4 φ4 f4 S4=>?_⟩
  cases kb with
  | false=>
   rw [if_neg Bool.false_ne_true] at h3
   exact jW ⟨hlt,s3,φ4,es,r2,f3.trans f4,S4,(rl2.fw S2 (Fw.same sm)).fw S3 f4,by lia,h3,rfl⟩
  | true=>
   simp only [if_true,Option.bind_eq_some_iff,Option.map_eq_some_iff] at h3
   obtain⟨x5,hx5,zs,hzs,r5,hr5,rfl⟩:=h3
   refine nv ⟨e3,s3,x5,hx5,φ4,e'.fw S3 f4,S4,λv H5 φ5 f5 S5 w5=>?_⟩
   obtain⟨x5,s5⟩:=x5
   cases x5 with
   | h n=>cases hzs
   | d z=>
    cases hzs
    refine⟨hlt,s5,φ5,es++[z],r5,(f3.trans f4).trans f5,S5,(((rl2.fw S2 (Fw.same sm)).fw S3 f4).fw S4 f5).append ⟨v,[],rfl,w5,rfl⟩,by rw [List.length_append];simp;lia,hr5,?_⟩
    simp
 ·have hi':i=ds.length:=by lia
  subst hi'
  rw [List.drop_length] at h2
  cases h2
  refine .inl ⟨y2 rfl,λDn hD=>?_⟩
  have:=q Dn ys H2 φ2 (f1.trans f2) S2 hD
  exact this (by simpa using rl2)
theorem gs {scope:Scope}{Nc:List Str}{k:Nat}{js:List Nat}{elt iter:Expr}{ifs:List Expr}{fi:Lf}{g:Tg}{tt:Tf}{te:Ef}
  (S:dc X scope Nc (dC k js)) (hc:X.calm=true) (hgi:∀ j ∈ nM g,j < k) (hi:II K X tg iter fi)
  (hg:∀ cells s H C fp,PG (lcX X scope cells Nc s H C fp) tg (tG K g)) (ht:∀ cells s H C fp,ITs K (lcX X scope cells Nc s H C fp) ifs tt) (he:∀ cells s H C fp,IE K (lcX X scope cells Nc s H C fp) elt te)
  (hs:∀ x,foldedSetIterable iter X.env x=pure x:=by intro _;rfl):IL K X (.ListComp elt [⟨tg,iter,ifs,0⟩] scope pos) (iLc k js fi g tt te):=by
 refine⟨λenv st r hr=>?_⟩
 simp only [iLc,Option.bind_eq_some_iff] at hr
 obtain⟨⟨ds,s1⟩,hy,hr⟩:=hr
 have hr':(if ds.length<=1000000 then lcI g tt te (eA k js env) ds s1 else none)=some r:=hr
 by_cases hdn:¬ ds.length<=1000000
 ·rw [if_neg hdn] at hr';cases hr'
 have hdl:ds.length<=1000000:=by lia
 rw [if_pos hdl] at hr'
 refine (rY S hc (hi.run _ _ _ hy) hg (λcells s H C fp=>(ht cells s H C fp).run) (λcells s H C fp=>(he cells s H C fp).any) hs).imp (pQ hgi hdl hr')
end
end L2
namespace L2
open PySem PySem.Spec PyProof.Rows
noncomputable def db (n k:Nat) (b:Sf):Fn
 | ws,st=>if ws.length=k then (b (ws.map some++List.replicate (n - k) none) st).bind λr=>match r with
 | .nx _ s=>some (.d .non,s)
 | .rt w s=>some (w,s)
 | _=>none
 else none
noncomputable def lB (n:Nat) (w:W) (s:Sto):Option (W×Sto):=match w with
 | .d x=>some (.d x,s.take n)
 | .h m=>if m < n then some (.h m,s.take n) else (lg s m).map λds=>(.d (.lst ds),s.take n)
noncomputable def jO (n k:Nat) (b:Sf):Fn
 | ws,st=>if ws.length=k then (b (ws.map some++List.replicate (n - k) none) st).bind λr=>match r with
 | .nx _ s=>some (.d .non,s.take st.length)
 | .rt w s=>lB st.length w s
 | _=>none
 else none
section
variable {P:Program}{w:World}{K:PySem.W.Frag}{mg:Str->Option Value}{base:Heap}
theorem gu {H:Hp}{φ:List Addr}{N:List Str}{k:Nat}:∀ {ws:List W}{vs:List V},Rws K H φ ws vs->ws.length=k->Er K H φ (ws.map some++List.replicate (N.length - k) none) (dY N vs):=by
 intro ws vs r hk
 have hl:=r.length
 refine⟨by unfold dY;simp;lia,λi x e=>?_⟩
 unfold dY
 by_cases hi:i < ws.length
 ·rw [List.getElem?_append_left (by simpa using hi),List.getElem?_map,Option.map_eq_some_iff] at e
  obtain⟨y,ey,e⟩:=e
  have:∃ v,vs[i]?=some v/\Rw K H φ y v:=by
   clear hk hl hi e
   induction ws generalizing vs i with
   | nil=>simp at ey
   | cons w ws ih=>
    obtain⟨v,r',rfl,r1,r2⟩:=r
    cases i with
    | zero=>simp at ey;subst ey;exact⟨v,rfl,r1⟩
    | succ i=>simpa using ih r2 i (by simpa using ey)
  obtain⟨v,ev,rv⟩:=this
  cases e
  refine⟨v,?_,rv⟩
  rw [List.getElem?_append_left (by rw [List.length_map,<-hl];exact hi),List.getElem?_map,ev];rfl
 ·rw [List.getElem?_append_right (by simpa using hi)] at e
  have:=List.mem_of_getElem? e
  have:=(List.mem_replicate.mp this).2
  cases this
theorem gT {x qual:Str}{st:Stmt}{f:Addr}{fd:FuncData}{N ps:List Str}{k:Nat}{b:Sf} (F:Fun K x qual st f fd) (S:aY N ps (ai st))
  (hb:∀ (cdv:Value) (A:Around) (outer:List Env) (s:Shared) (H:Hp) (E:XK),bM k (A.deeper (envOfC qual (ai st) s.heap.objs.size f cdv))->ISs K (fm CX0 P w K mg base N qual (ai st) f cdv A outer s H E).nox (aJ st) b) :
  cb P w K mg base CX0 (k+1) f fd ps (spI K (db N.length ps.length b)):=by
 refine F.ok S (λvs H Q E h=>?_) λcdv A outer s H vs Q E hr h=>?_
 ·obtain⟨φ,st,ws,r,e,rw,_⟩:=h
  rw [db] at e
  by_cases hl:ws.length=ps.length
  ·rw [<-rw.length,hl]
  ·rw [if_neg hl] at e;cases e
 ·obtain⟨φ,st',ws,r,e,rw,S',q⟩:=h
  rw [db] at e
  by_cases hl:ws.length=ps.length
  ·rw [if_pos hl] at e
   obtain⟨fl,e1,e2⟩:=Option.bind_eq_some_iff.mp e
   refine⟨_,(hb cdv A outer s H E hr).run _ _ _ e1,φ,gu rw hl,S',?_⟩
   cases fl with
   | nx e s=>cases e2;exact λσ' H' φ' f' e' s'=>q .non H' φ' f' s' rfl
   | rt w s=>cases e2;exact λv H' φ' f' s' w'=>q v H' φ' f' s' w'
   | bk e s=>cases e2
   | ct e s=>cases e2
  ·rw [if_neg hl] at e;cases e
theorem Fw.less {φ φ':List Addr}{H H':Hp} (f:Fw φ φ' H H'):Fw φ φ H H':=⟨⟨[],by simp,by simp⟩,f.keep,f.there⟩
theorem sC {x qual:Str}{st:Stmt}{f:Addr}{fd:FuncData}{N ps:List Str}{k:Nat}{b:Sf} (F:Fun K x qual st f fd) (S:aY N ps (ai st))
  (hb:∀ (cdv:Value) (A:Around) (outer:List Env) (s:Shared) (H:Hp) (E:XK),bM k (A.deeper (envOfC qual (ai st) s.heap.objs.size f cdv))->ISs K (fm CX0 P w K mg base N qual (ai st) f cdv A outer s H E).nox (aJ st) b) :
  cb P w K mg base CX0 (k+1) f fd ps (spI K (jO N.length ps.length b)):=by
 refine F.ok S (λvs H Q E h=>?_) λcdv A outer s H vs Q E hr h=>?_
 ·obtain⟨φ,st,ws,r,e,rw,_⟩:=h
  rw [jO] at e
  by_cases hl:ws.length=ps.length
  ·rw [<-rw.length,hl]
  ·rw [if_neg hl] at e;cases e
 ·obtain⟨φ,st',ws,r,e,rw,S',q⟩:=h
  rw [jO] at e
  by_cases hl:ws.length=ps.length
  ·rw [if_pos hl] at e
   obtain⟨fl,e1,e2⟩:=Option.bind_eq_some_iff.mp e
   refine⟨_,(hb cdv A outer s H E hr).run _ _ _ e1,φ,gu rw hl,S',?_⟩
   have less:∀ {H':Hp}{φ':List Addr}{s':Sto},Fw φ φ' H H'->Sr K H' φ' s'->Sr K H' φ (s'.take st'.length):=λ{H' φ' s'} f' S2=>by
    obtain⟨ψ,rfl,_⟩:=f'.ext
    rw [<-S'.len]
    exact S2.less
   cases fl with
   | nx e s=>cases e2;exact λσ' H' φ' f' e' s'=>q .non H' φ f'.less (less f' s') rfl
   | rt w s=>
    intro v H' φ' f' s' w'
    have e3:lB st'.length w s=some r:=e2
    obtain⟨ψ,eψ,_⟩:=f'.ext
    cases w with
    | d x=>
     cases e3
     subst eψ
     exact q v H' φ f'.less (less f' s') (Rl.less w')
    | h m=>
     obtain⟨a,ea,rfl⟩:=w'
     unfold lB at e3
     by_cases hm:m < st'.length
     ·have e4:some (W.h m,s.take st'.length)=some r:=by
       have:=e3
       simp only [hm,if_true] at this
       exact this
      cases e4
      subst eψ
      rw [List.getElem?_append_left (by rw [S'.len];exact hm)] at ea
      exact q _ H' φ f'.less (less f' s') ⟨a,ea,rfl⟩
     ·simp only [hm,if_false] at e3
      obtain⟨ds,eds,rfl⟩:=Option.map_eq_some_iff.mp e3
      obtain⟨vs,hv,rl⟩:=s'.atl m a ds ea eds
      have hn:a ∉ φ:=λz=>by
       obtain⟨i,hi,ei⟩:=List.mem_iff_getElem.mp z
       have h1:φ'[i]?=some a:=by subst eψ;rw [List.getElem?_append_left hi,List.getElem?_eq_getElem hi,ei]
       obtain⟨h2,h2'⟩:=List.getElem?_eq_some_iff.mp h1
       obtain⟨h3,h3'⟩:=List.getElem?_eq_some_iff.mp ea
       have:=(List.getElem_inj s'.nd).mp (h2'.trans h3'.symm)
       rw [S'.len] at hi
       lia
      subst eψ
      exact q _ H' φ f'.less (less f' s') ⟨a,vs,rfl,hn,.inl hv,rl.less⟩
   | bk e s=>cases e2
   | ct e s=>cases e2
  ·rw [if_neg hl] at e;cases e
end
noncomputable def cf:D->Bool
 | .non=>true
 | .bl _=>true
 | .int _=>true
 | .str _=>true
 | _=>false
noncomputable def vOf:D->V
 | .bl b=>.bl b
 | .int i=>.int i
 | .str x=>.str x
 | _=>.non
mutual
noncomputable def eqD:D->D->Bool
 | .non,.non=>true
 | .bl a,.bl b=>a==b
 | .bl a,.int b=>(if a then 1 else 0)==b
 | .int a,.bl b=>a==(if b then 1 else 0)
 | .int a,.int b=>a==b
 | .str a,.str b=>a==b
 | .tup as,.tup bs=>d7 as bs
 | .lst as,.lst bs=>d7 as bs
 | _,_=>false
noncomputable def d7:List D->List D->Bool
 | [],[]=>true
 | a::as,b::bs=>eqD a b && d7 as bs
 | _,_=>false
end
noncomputable def okD:Nat->D->Bool
 | _,.non=>true
 | _,.bl _=>true
 | _,.int _=>true
 | _,.str _=>true
 | n+1,.tup ds=>ds.all (okD n)
 | n+1,.lst ds=>ds.all (okD n)
 | _,_=>false
noncomputable def lsD (st:Sto):W->Option (List D)
 | .d (.lst ds)=>some ds
 | .h n=>lg st n
 | _=>none
noncomputable def bj (st:Sto) (x y:W):Option D:=match x,y with
 | .d (.int i),.d (.int j)=>some (.int (i+j))
 | .d (.tup a),.d (.tup b)=>if a.length+b.length<=1000000 then some (.tup (a++b)) else none
 | .d (.str a),.d (.str b)=>if a.length+b.length<=1000000 then some (.str (a++b)) else none
 | x,y=>(lsD st x).bind λa=>(lsD st y).bind λb=>if a.length+b.length<=1000000 then some (.lst (a++b)) else none
instance (a b:Int):Decidable (IntMulOk a b):=by unfold IntMulOk;infer_instance
noncomputable def dP (_:Sto):W->W->Option D
 | .d (.int i),.d (.int j)=>if IntMulOk i j then some (.int (i*j)) else none
 | .d (.tup a),.d (.int k)=>if a≠[]/\a.length<=1000/\1<=k/\k < 1000 then some (.tup (List.replicate k.toNat a).flatten) else none
 | .d (.lst a),.d (.int k)=>if a.length<=1000/\-1000<=k/\k < 1000 then some (.lst (List.replicate k.toNat a).flatten) else none
 | _,_=>none
noncomputable def eM (_:Sto):W->W->Option D
 | .d (.int i),.d (.int j)=>if 0 < j/\j < 1073741824 then some (.int (i / j)) else none
 | _,_=>none
noncomputable def eV (_:Sto):W->W->Option D
 | .d (.int i),.d (.int j)=>if 0 < j then some (.int (i % j)) else none
 | _,_=>none
instance (i j:Int):Decidable (gW i j):=by unfold gW;infer_instance
noncomputable def iR (_:Sto):W->W->Option D
 | .d (.int i),.d (.int j)=>if gW i j then some (.int (i ^ j.toNat)) else none
 | _,_=>none
noncomputable def kd (_:Sto):W->W->Option D
 | .d (.int i),.d (.int j)=>if gW i j then some (.int (i*2 ^ j.toNat)) else none
 | _,_=>none
noncomputable def dLt (_:Sto):W->W->Option D
 | .d (.int i),.d (.int j)=>some (.bl (decide (i < j)))
 | _,_=>none
noncomputable def dLe (_:Sto):W->W->Option D
 | .d (.int i),.d (.int j)=>some (.bl (decide (i<=j)))
 | _,_=>none
noncomputable def dGt (_:Sto):W->W->Option D
 | .d (.int i),.d (.int j)=>some (.bl (decide (j < i)))
 | _,_=>none
noncomputable def dGe (_:Sto):W->W->Option D
 | .d (.int i),.d (.int j)=>some (.bl (decide (j<=i)))
 | _,_=>none
noncomputable def oO:D->Bool
 | .non=>true
 | _=>false
noncomputable def rA (_:Sto):W->W->Option D
 | .d x,.d .non=>some (.bl (oO x))
 | _,_=>none
noncomputable def inD (x:D) (ds:List D):Bool:=ds.any λy=>eqD y x
noncomputable def eI (st:Sto) (x y:W):Option D:=match x with
 | .d x=>(d8 st y).bind λds=>if cf x=true/\ds.all cf=true then some (.bl (!inD x ds)) else none
 | _=>none
section
variable {K:PySem.W.Frag}{X:Cx}
theorem dy {H:Hp}{φ:List Addr}{d:D}{v:V} (h:cf d=true) (r:Rl K H φ d v):v=vOf d/\cU v=true:=by
 cases d with
 | non=>cases (show v=.non from r);exact⟨rfl,rfl⟩
 | bl b=>cases (show v=.bl b from r);exact⟨rfl,rfl⟩
 | int b=>cases (show v=.int b from r);exact⟨rfl,rfl⟩
 | str b=>cases (show v=.str b from r);exact⟨rfl,rfl⟩
 | _=>cases h
theorem iy {a b:D} (ha:cf a=true) (hb:cf b=true):eqV (vOf a) (vOf b)=eqD a b:=by
 cases a<;>cases b<;>first | rfl | (cases ha;done) | (cases hb;done) | (simp [eqV,vOf,eqD];done)
theorem gj {H:Hp}{φ:List Addr}:∀ {ds:List D}{vs:List V},ds.all cf=true->Rls K H φ ds vs->vs=ds.map vOf/\vs.all cU=true
 | [],_,_,h=>by cases h;exact⟨rfl,rfl⟩
 | d::ds,_,h,r=>by
  rw [List.all_cons,Bool.and_eq_true] at h
  obtain⟨v,vr,rfl,r1,r2⟩:=r
  obtain⟨e1,e2⟩:=dy h.1 r1
  obtain⟨e3,e4⟩:=gj h.2 r2
  exact⟨by rw [e1,e3];rfl,by rw [List.all_cons,e2,e4];rfl⟩
theorem iL {x:D} (hx:cf x=true):∀ {ds:List D},ds.all cf=true->inV (vOf x) (ds.map vOf)=inD x ds
 | [],_=>rfl
 | d::ds,h=>by
  rw [List.all_cons,Bool.and_eq_true] at h
  have ih:=iL hx h.2
  unfold inV inD at ih ⊢
  rw [List.map_cons,List.any_cons,List.any_cons,ih,iy h.1 hx]
theorem dW {f:Value->Value->Sem Value}{g:Sto->W->W->Option D} (h:∀ st x y d,g st x y=some d->∃ i j,x=.d (.int i)/\y=.d (.int j)/\OpR X f (λvx vy H Q=>vx=.int i/\vy=.int j/\Q (vOf d) H)/\cf d=true):OpD K X f g:=by
 refine⟨λst x y d hd=>?_⟩
 obtain⟨i,j,rfl,rfl,ho,hf⟩:=h st x y d hd
 refine ho.imp ?_
 rintro vx vy H Q ⟨φ,S,r1,r2,q⟩
 refine⟨r1,r2,q _ H (aM.refl H) ?_⟩
 cases d<;>first | rfl | cases hf
theorem sr:OpD K X (compareOp .Lt) dLt:=dW λst x y d h=>by
 match x,y,h with
 | .d (.int i),.d (.int j),h=>cases h;exact⟨i,j,rfl,rfl,qK.imp λvx vy H Q ⟨a,b,q⟩=>⟨i,j,a,b,q⟩,rfl⟩
theorem oP:OpD K X (compareOp .LtE) dLe:=dW λst x y d h=>by
 match x,y,h with
 | .d (.int i),.d (.int j),h=>cases h;exact⟨i,j,rfl,rfl,rL.imp λvx vy H Q ⟨a,b,q⟩=>⟨i,j,a,b,q⟩,rfl⟩
theorem rX:OpD K X (compareOp .Gt) dGt:=dW λst x y d h=>by
 match x,y,h with
 | .d (.int i),.d (.int j),h=>cases h;exact⟨i,j,rfl,rfl,qV.imp λvx vy H Q ⟨a,b,q⟩=>⟨i,j,a,b,q⟩,rfl⟩
theorem sB:OpD K X (compareOp .GtE) dGe:=dW λst x y d h=>by
 match x,y,h with
 | .d (.int i),.d (.int j),h=>cases h;exact⟨i,j,rfl,rfl,rV.imp λvx vy H Q ⟨a,b,q⟩=>⟨i,j,a,b,q⟩,rfl⟩
theorem iZ:OpD K X (binaryOp .FloorDiv) eM:=dW λst x y d h=>by
 match x,y,h with
 | .d (.int i),.d (.int j),h=>
  simp only [eM] at h
  split at h
  ·rename_i hc
   cases h;exact⟨i,j,rfl,rfl,nX.imp λvx vy H Q ⟨a,b,q⟩=>⟨i,j,a,b,hc,q⟩,rfl⟩
  ·cases h
theorem dX:OpD K X (binaryOp .Mod) eV:=dW λst x y d h=>by
 match x,y,h with
 | .d (.int i),.d (.int j),h=>
  simp only [eV] at h
  split at h
  ·rename_i hc
   cases h;exact⟨i,j,rfl,rfl,pq.imp λvx vy H Q ⟨a,b,q⟩=>⟨i,j,a,b,hc,q⟩,rfl⟩
  ·cases h
theorem gI:OpD K X (binaryOp .Pow) iR:=dW λst x y d h=>by
 match x,y,h with
 | .d (.int i),.d (.int j),h=>
  simp only [iR] at h
  split at h
  ·rename_i hc
   cases h;exact⟨i,j,rfl,rfl,pP.imp λvx vy H Q ⟨a,b,q⟩=>⟨i,j,a,b,hc,q⟩,rfl⟩
  ·cases h
theorem pN:OpD K X (binaryOp .LShift) kd:=dW λst x y d h=>by
 match x,y,h with
 | .d (.int i),.d (.int j),h=>
  simp only [kd] at h
  split at h
  ·rename_i hc
   cases h;exact⟨i,j,rfl,rfl,qC.imp λvx vy H Q ⟨a,b,q⟩=>⟨i,j,a,b,hc,q⟩,rfl⟩
  ·cases h
theorem qq {H:Hp}{φ:List Addr}{d:D}{v:V} (r:Rl K H φ d v):decide (v=.non)=oO d:=by
 cases d with
 | non=>cases (show v=.non from r);rfl
 | bl b=>cases (show v=.bl b from r);rfl
 | int b=>cases (show v=.int b from r);rfl
 | str b=>cases (show v=.str b from r);rfl
 | ty b=>cases (show v=.ty b from r);rfl
 | dct=>obtain⟨a,rfl,_⟩:=r;rfl
 | scr ns=>obtain⟨a,rfl,_⟩:=r;rfl
 | tup ds=>obtain⟨a,vs,rfl,_⟩:=r;rfl
 | lst ds=>obtain⟨a,vs,rfl,_⟩:=r;rfl
theorem qd:OpD K X (compareOp .Is) rA:=by
 refine⟨λst x y d h=>?_⟩
 match x,y,h with
 | .d x,.d .non,h=>
  cases h
  refine qu.imp ?_
  rintro vx vy H Q ⟨φ,S,r1,r2,q⟩
  refine⟨r2,q _ H (aM.refl H) ?_⟩
  rw [qq r1];rfl
theorem jg (hK:X.K=K:=by rfl):OpD K X (compareOp .NotIn) eI:=by
 subst hK
 refine⟨λst x y d h=>?_⟩
 match x,h with
 | .d x,h=>
  simp only [eI,Option.bind_eq_some_iff] at h
  obtain⟨ds,hs,h⟩:=h
  split at h
  ·rename_i hc
   cases h
   refine eX.imp ?_
   rintro vx vy H Q ⟨φ,S,r1,r2,q⟩
   obtain⟨a,vs,rfl,h1,h2⟩:=fT S r2 hs
   obtain⟨e1,e2⟩:=dy hc.1 r1
   obtain⟨e3,e4⟩:=gj hc.2 h2
   refine⟨a,vs,rfl,h1,e2,e4,q _ H (aM.refl H) ?_⟩
   rw [e1,e3,iL hc.1 hc.2];rfl
  ·cases h
end
end L2
namespace L2
open PySem PySem.Spec PyProof.Rows
section
variable {K:PySem.W.Frag}{X:Cx}
theorem on:OpR X (binaryOp .Add) (λx y H Q=>∃ l b xs zs,x=.ref l/\y=.ref b/\Rd H l (.lst xs)/\Rd H b (.lst zs)/\xs.length+zs.length<=sizeLine/\∀ p,H p=none->Q (.ref p) (upd H p (.lst (xs++zs)))):=by
 intro pins s σ H x y v u Q I rx ry h
 obtain⟨l,b,xs,zs,rfl,rfl,hH,hB,hz,q⟩:=h
 cases rx
 cases ry
 obtain⟨z,its,n,r,e⟩:=hH.ok I.hok
 obtain⟨z2,its2,n2,r2,e2⟩:=hB.ok I.hok
 have hl:=r.length
 have hl2:=r2.length
 refine PySem.P.add_list e e2 ?_ (by rw [List.size_toArray,List.size_toArray];lia)
 have ea:its.toArray++its2.toArray=(its++its2).toArray:=by simp
 rw [ea]
 exact⟨.ref _,_,I.lnew (t':=s.toks) (r.append r2) (by rw [List.length_append];lia),rfl,q _ I.fresh⟩
theorem lJ:OpR X (binaryOp .Add) (λx y H Q=>∃ a b xs ys,x=.ref a/\y=.ref b/\SqT X.K H a xs/\SqT X.K H b ys/\xs.length+ys.length<=sizeLine/\
  (xs=[]->Q (.ref b) H)/\(ys=[]->Q (.ref a) H)/\∀ p,H p=none->Q (.ref p) (upd H p (.tup (xs++ys)))):=by
 intro pins s σ H x y v u Q I rx ry h
 obtain⟨a,b,xs,ys,rfl,rfl,ha,hb,hz,q0,q1,q2⟩:=h
 by_cases hx:xs=[]
 ·cases rx
  cases ry
  obtain⟨its,r1,p1,_⟩:=I.tuple ha
  obtain⟨its2,r2,p2,_⟩:=I.tuple hb
  obtain⟨⟨cls,dd,data,sl⟩,ho,hc,n,hd⟩:=id p1
  obtain⟨⟨cls2,dd2,data2,sl2⟩,ho2,hc2,n2,hd2⟩:=id p2
  simp only at hc hd hc2 hd2
  subst hc hd hc2 hd2
  exact concat_meets ⟨_,ho,rfl⟩ ⟨_,ho2,rfl⟩ noFill_tuple_add seq_tuple_add PySem.F.slot_tuple_add PySem.F.entry_tuple_add (PySem.F.args_tuple_add_2 _ _)
   (tuple_addW0 a b its.toArray its2.toArray n n2 dd dd2 sl sl2 (by simp [r1.nil_iff.mpr hx])) ⟨ho,ho2,.ref b,H,I,rfl,q0 hx⟩
 ·exact ny pins s σ H _ _ v u Q I rx ry ⟨a,b,xs,ys,rfl,rfl,ha,hb,hx,hz,q1,λ_ p hp=>q2 p hp⟩
theorem mH {st:Sto}{H:Hp}{φ:List Addr}{w:W}{v:V}{ds:List D} (S:Sr K H φ st) (r:Rw K H φ w v) (e:lsD st w=some ds):∃ a vs,v=.ref a/\Rd H a (.lst vs)/\Rls K H φ ds vs:=by
 cases w with
 | h n=>
  obtain⟨a,ea,rfl⟩:=r
  obtain⟨vs,q,rl⟩:=S.atl n a ds ea e
  exact⟨a,vs,rfl,.inl q,rl⟩
 | d x=>
  cases x with
  | lst es=>cases e;obtain⟨a,vs,rfl,h0,h1,h2⟩:=r;exact⟨a,vs,rfl,h1,h2⟩
  | _=>cases e
theorem mil:(1000000:Nat)<=sizeLine:=by rw [sizeLine_eq];decide
theorem bz (hK:X.K=K:=by rfl):OpD K X (binaryOp .Add) bj:=by
 subst hK
 refine⟨λst x y d h=>?_⟩
 have lists:(lsD st x).bind (λa=>(lsD st y).bind λb=>if a.length+b.length<=1000000 then some (.lst (a++b)) else none)=some d->OpR X (binaryOp .Add) (rD X.K st x y d):=λh=>by
  simp only [Option.bind_eq_some_iff] at h
  obtain⟨as,ha,bs,hb,h⟩:=h
  split at h
  ·rename_i hl
   cases h
   refine on.imp ?_
   rintro vx vy H Q ⟨φ,S,r1,r2,q⟩
   obtain⟨a,us,rfl,h1,h2⟩:=mH S r1 ha
   obtain⟨b,vs,rfl,h3,h4⟩:=mH S r2 hb
   refine⟨a,b,us,vs,rfl,rfl,h1,h3,by rw [<-h2.length,<-h4.length];exact Nat.le_trans hl mil,λp hp=>q _ _ (aM.new hp _) ?_⟩
   exact⟨p,_,rfl,S.nin hp,.inl aW,(h2.append h4).fw S (Fw.new hp)⟩
  ·cases h
 match x,y,h with
 | .d (.int i),.d (.int j),h=>
  cases h
  refine pT.imp ?_
  rintro vx vy H Q ⟨φ,S,r1,r2,q⟩
  exact⟨i,j,r1,r2,q _ H (aM.refl H) rfl⟩
 | .d (.tup as),.d (.tup bs),h=>
  simp only [bj] at h
  split at h
  ·rename_i hl
   cases h
   refine lJ.imp ?_
   rintro vx vy H Q ⟨φ,S,⟨a,us,rfl,h1,h2⟩,⟨b,vs,rfl,h3,h4⟩,q⟩
   refine⟨a,b,us,vs,rfl,rfl,(SqT.of h1),(SqT.of h3),by rw [<-h2.length,<-h4.length];exact Nat.le_trans hl mil,λe=>?_,λe=>?_,λp hp=>?_⟩
   ·subst e
    have:as=[]:=by cases as with | nil=>rfl | cons _ _=>cases h2.length
    subst this
    exact q _ H (aM.refl H) ⟨b,vs,rfl,h3,h4⟩
   ·subst e
    have:bs=[]:=by cases bs with | nil=>rfl | cons _ _=>cases h4.length
    subst this
    exact q _ H (aM.refl H) ⟨a,us,rfl,h1,by rw [List.append_nil];exact h2⟩
   ·exact q _ _ (aM.new hp _) ⟨p,_,rfl,aW,(h2.append h4).fw S (Fw.new hp)⟩
  ·cases h
 | .d (.str as),.d (.str bs),h=>
  simp only [bj] at h
  split at h
  ·rename_i hl
   cases h
   refine jY.imp ?_
   rintro vx vy H Q ⟨φ,S,r1,r2,q⟩
   exact⟨as,bs,r1,r2,Nat.le_trans hl mil,q _ H (aM.refl H) rfl⟩
  ·cases h
 | .d (.lst as),y,h=>exact lists (by cases y with | h n=>exact h | d y=>cases y<;>exact h)
 | .h n,y,h=>exact lists (by cases y with | h n=>exact h | d y=>cases y<;>exact h)
theorem nR:OpR X (binaryOp .Mult) (λx y H Q=>∃ l k xs,x=.ref l/\y=.int k/\Rd H l (.lst xs)/\-(2 ^ 63)<=k/\k < 2 ^ 63/\xs.length*k.toNat<=sizeLine/\
 ∀ p,H p=none->Q (.ref p) (upd H p (.lst (List.replicate k.toNat xs).flatten))):=by
 intro pins s σ H x y v u Q I rx ry h
 obtain⟨l,k,xs,rfl,rfl,hH,h1,h2,hz,q⟩:=h
 cases rx
 obtain⟨t,rfl⟩:=ry
 obtain⟨z,its,n,r,e⟩:=hH.ok I.hok
 have hl:=r.length
 have hlen:its.toArray.size*k.toNat<=sizeLine:=by rw [List.size_toArray,<-hl];exact hz
 have hcap:¬ its.toArray.size*k.toNat > (2 ^ 63 - 1) / 8:=by
  have:(sizeLine:Nat)<=(2 ^ 63 - 1) / 8:=by decide
  lia
 have hfit:¬ (!Builtin.List.listFitsIndex k)=true:=by
  rw [fitsIndex_both h1 h2]
  exact Bool.false_ne_true
 have hlong:¬ Builtin.List.listTooLong (its.toArray.size*k.toNat)=true:=by
  rw [mf hlen]
  exact Bool.false_ne_true
 have hnew:List.foldl (λx1 x2=>x1++x2) #[] (List.replicate (if its.toArray.isEmpty=true then 0 else k.toNat) its.toArray)=(List.replicate k.toNat its).flatten.toArray:=by
  have f0:∀ m:Nat,List.foldl (λx1 x2=>x1++x2) #[] (List.replicate m its.toArray)=(List.replicate m its).flatten.toArray:=λm=>by
   have:=fu its m []
   rw [List.nil_append] at this
   exact this
  rw [f0]
  cases its with
  | nil=>simp
  | cons a r'=>rw [if_neg (by simp)]
 refine wpAny_binaryOp_repeat_ref (T:="list") (U:="int") (by decide) ⟨_,e,rfl⟩ (λs'=>typeIs_int s' k t) noFill_list_mul F.fills_int_mul F.slot_int_rmul repeat_list F.slot_int_index.lookup
  (call_meets F.slot_int_rmul (typeIs_int s k t) F.entry_int_rmul (F.args_int_rmul_2 _ _) (int___rmul___int_list k t l its.toArray n)
    ⟨e,rfl,⟨_,e,rfl⟩,call_meets F.slot_list_mul ⟨_,e,rfl⟩ F.entry_list_mul (F.args_list_mul_2 _ _) (AutoListH.list___mul___list_int_3 l its.toArray n k t hfit hcap hlong) ⟨e,?_⟩⟩)
 rw [hnew]
 exact⟨.ref _,_,I.lnew (t':=s.toks) (r.rep k.toNat) (by rw [iw,Nat.mul_comm];exact hz),rfl,q _ I.fresh⟩
theorem dv (hK:X.K=K:=by rfl):OpD K X (binaryOp .Mult) dP:=by
 subst hK
 refine⟨λst x y d h=>?_⟩
 match x,y,h with
 | .d (.int i),.d (.int j),h=>
  simp only [dP] at h
  split at h
  ·rename_i hl
   cases h
   refine nG.imp ?_
   rintro vx vy H Q ⟨φ,S,r1,r2,q⟩
   exact⟨i,j,r1,r2,hl,q _ H (aM.refl H) rfl⟩
  ·cases h
 | .d (.tup as),.d (.int k),h=>
  simp only [dP] at h
  split at h
  ·rename_i hl
   cases h
   refine nH.imp ?_
   rintro vx vy H Q ⟨φ,S,⟨a,us,rfl,h1,h2⟩,r2,q⟩
   have hne:us≠[]:=by rintro rfl;cases as with | nil=>exact hl.1 rfl | cons _ _=>cases h2.length
   refine⟨a,k,us,rfl,r2,(SqT.of h1),hne,by rw [<-h2.length];exact hl.2.1,hl.2.2.1,hl.2.2.2,λe=>?_,λ_ p hp=>?_⟩
   ·subst e
    exact q _ H (aM.refl H) ⟨a,us,rfl,h1,by simpa using h2⟩
   ·exact q _ _ (aM.new hp _) ⟨p,_,rfl,aW,(h2.rep _).fw S (Fw.new hp)⟩
  ·cases h
 | .d (.lst as),.d (.int k),h=>
  simp only [dP] at h
  split at h
  ·rename_i hl
   cases h
   refine nR.imp ?_
   rintro vx vy H Q ⟨φ,S,⟨a,us,rfl,h0,h1,h2⟩,r2,q⟩
   refine⟨a,k,us,rfl,r2,h1,by lia,by lia,?_,λp hp=>?_⟩
   ·rw [<-h2.length]
    have:as.length*k.toNat<=1000*1000:=Nat.mul_le_mul hl.1 (by lia)
    exact Nat.le_trans this mil
   ·exact q _ _ (aM.new hp _) ⟨p,_,rfl,S.nin hp,.inl aW,(h2.rep _).fw S (Fw.new hp)⟩
  ·cases h
noncomputable def dIx (st:Sto) (x y:W):Option D:=match x,y with
 | .d (.str z),.d (.int i)=>if z.length<=1000000 then (atI z.cps.toList i).map λc=>.str ⟨#[c]⟩ else none
 | x,.d (.int i)=>(d8 st x).bind λds=>atI ds i
 | _,_=>none
theorem pi {H:Hp}{φ:List Addr}{ds:List D}{vs:List V}{i:Int}{d:D} (r:Rls K H φ ds vs) (e:atI ds i=some d):∃ v,atI vs i=some v/\Rl K H φ d v:=by
 unfold atI at e ⊢
 rw [<-r.length]
 obtain⟨j,e1,e2⟩:=Option.bind_eq_some_iff.mp e
 obtain⟨v,ev,rv⟩:=r.get e2
 exact⟨v,by rw [e1];exact ev,rv⟩
theorem IxR.imp {r r':R2} (h:IxR X r) (m:∀ x y H Q,r' x y H Q->r x y H Q):IxR X r':=λvalue slice pins s σ H x y v u Q I rx ry q hs=>h value slice pins s σ H x y v u Q I rx ry (m _ _ _ _ q) hs
theorem qP (st:Sto) (x y:W) (d:D) (h:dIx st x y=some d) (hK:X.K=K):IxR X (rD K st x y d):=by
 subst hK
 match y,h with
 | .d (.int i),h=>
  have seq:(d8 st x).bind (λds=>atI ds i)=some d->IxR X (rD X.K st x (.d (.int i)) d):=λh=>by
   obtain⟨ds,e1,e2⟩:=Option.bind_eq_some_iff.mp h
   refine mC.imp ?_
   rintro vx vy H Q ⟨φ,S,r1,r2,q⟩
   obtain⟨a,vs,rfl,h1,h2⟩:=fT S r1 e1
   obtain⟨v,ev,rv⟩:=pi h2 e2
   rcases h1 with h1 | h1
   ·exact .inl ⟨a,vs,i,v,rfl,r2,h1,ev,q _ H (aM.refl H) rv⟩
   ·exact .inr (.inl ⟨a,vs,i,v,rfl,r2,h1,ev,q _ H (aM.refl H) rv⟩)
  match x,h with
  | .d (.str z),h=>
   simp only [dIx] at h
   split at h
   ·rename_i hl
    obtain⟨c,e1,rfl⟩:=Option.map_eq_some_iff.mp h
    refine mC.imp ?_
    rintro vx vy H Q ⟨φ,S,r1,r2,q⟩
    exact .inr (.inr ⟨z,i,c,r1,r2,Nat.le_trans hl mil,e1,q _ H (aM.refl H) rfl⟩)
   ·cases h
  | .d (.tup z),h=>exact seq h
  | .d (.lst z),h=>exact seq h
  | .d (.scr z),h=>exact seq h
  | .h z,h=>exact seq h
 | .d .non,h=>cases x with | h n=>cases h | d x=>cases x<;>cases h
 | .d (.bl _),h=>cases x with | h n=>cases h | d x=>cases x<;>cases h
 | .d (.str _),h=>cases x with | h n=>cases h | d x=>cases x<;>cases h
 | .d (.ty _),h=>cases x with | h n=>cases h | d x=>cases x<;>cases h
 | .d (.scr _),h=>cases x with | h n=>cases h | d x=>cases x<;>cases h
 | .d .dct,h=>cases x with | h n=>cases h | d x=>cases x<;>cases h
 | .d (.tup _),h=>cases x with | h n=>cases h | d x=>cases x<;>cases h
 | .d (.lst _),h=>cases x with | h n=>cases h | d x=>cases x<;>cases h
 | .h _,h=>cases x with | h n=>cases h | d x=>cases x<;>cases h
variable {e a b:Expr}{pos p2:Pos}{f fa fb:Ef}
theorem dl (ha:IE K X a fa) (hb:IE K X b fb) (hs:gE b=true:=by rfl) (hK:X.K=K:=by rfl):IE K X (.Subscript a b pos) (iOp dIx fa fb):=by
 refine⟨λenv st r hr=>?_⟩
 simp only [iOp,Option.bind_eq_some_iff,Option.map_eq_some_iff] at hr
 obtain⟨x,hx,y,hy,d,hd,rfl⟩:=hr
 exact (sg (qP _ _ _ _ hd hK) (ha.run _ _ _ hx) (hb.run _ _ _ hy) (jA hs)).imp λσ H Q h=>il h
abbrev Pf:=Ev->Sto->Option (Option Int×Sto)
noncomputable def iPn:Pf
 | _,st=>some (none,st)
noncomputable def rT:W->Option Int
 | .d (.int i)=>some i
 | _=>none
theorem lx {w:W}{i:Int} (h:rT w=some i):w=.d (.int i):=by
 cases w with
 | h n=>cases h
 | d x=>cases x<;>first | (cases h;done) | (injection h with h;subst h;rfl)
noncomputable def iPs (f:Ef):Pf
 | env,st=>(f env st).bind λr=>(rT r.1).map λi=>(some i,r.2)
noncomputable def tIO (K:PySem.W.Frag) (env:Ev) (st:Sto) (r:Option Int×Sto):TO:=λσ H Q=>∃ φ,Er K H φ env σ/\Sr K H φ st/\∀ H' φ',Fw φ φ' H H'->Sr K H' φ' r.2->Q r.1 H'
structure IO (K:PySem.W.Frag) (X:Cx) (e:Option Expr) (f:Pf):Prop where
 run:∀ env st r,f env st=some r->PO X e (tIO K env st r)
theorem PO.imp {e:Option Expr}{t t':TO} (h:PO X e t) (m:∀ σ H Q,t' σ H Q->t σ H Q):PO X e t':=λpins s σ H Q I q=>h pins s σ H Q I (m σ H Q q)
theorem ix:IO K X none iPn:=by
 refine⟨λenv st r hr=>?_⟩
 cases hr
 exact oq.imp λσ H Q ⟨φ,hE,hS,q⟩=>q H φ (Fw.refl φ H) hS
theorem i6 (h:IE K X e f):IO K X (some e) (iPs f):=by
 refine⟨λenv st r hr=>?_⟩
 simp only [iPs,Option.bind_eq_some_iff,Option.map_eq_some_iff] at hr
 obtain⟨⟨x,s1⟩,hx,i,hi,rfl⟩:=hr
 cases lx hi
 refine (oB (h.run _ _ _ hx)).imp ?_
 rintro σ H Q ⟨φ,hE,hS,q⟩
 exact⟨φ,hE,hS,λv H1 φ1 f1 s1 w1=>⟨i,w1,q H1 φ1 f1 s1⟩⟩
end
end L2
namespace L2
open PySem PySem.Spec PyProof.Rows
section
variable {K:PySem.W.Frag}{X:Cx}{pins:List (Addr×Obj)}{σ:St}{H:Hp}{s:Shared}{φ:List Addr}{st:Sto}
theorem cS:∀ (xs ys:List D),((List.range (min xs.length ys.length)).all (λj=>eqD (xs.getD j .non) (ys.getD j .non)) && xs.length==ys.length)=d7 xs ys
 | [],[]=>rfl
 | [],y::ys=>by simp [d7]
 | x::xs,[]=>by simp [d7]
 | x::xs,y::ys=>by
  show ((List.range (min (xs.length+1) (ys.length+1))).all (λj=>eqD ((x::xs).getD j .non) ((y::ys).getD j .non)) && (xs.length+1==ys.length+1))=(eqD x y && d7 xs ys)
  rw [show min (xs.length+1) (ys.length+1)=min xs.length ys.length+1 by lia,gz,<-cS xs ys]
  have e:(xs.length+1==ys.length+1)=(xs.length==ys.length):=by rw [Bool.eq_iff_iff];simp
  rw [e,Bool.and_assoc]
  rfl
theorem el {xs ys:List D} (h:xs.length=ys.length):(List.range xs.length).all (λj=>eqD (xs.getD j .non) (ys.getD j .non))=d7 xs ys:=by
 rw [<-cS xs ys,<-h,Nat.min_self];simp
theorem jv:∀ {xs ys:List D},xs.length≠ys.length->d7 xs ys=false
 | [],[],h=>absurd rfl h
 | [],_::_,_=>rfl
 | _::_,[],_=>rfl
 | x::xs,y::ys,h=>by
  show (eqD x y && d7 xs ys)=false
  rw [jv (by intro e;apply h;rw [List.length_cons,List.length_cons,e]),Bool.and_false]
theorem oh (I:Inv X pins σ H s) {a:Addr}{vs ws:List V} (h:Rd H a (.lst vs)) (h':Rd H a (.lst ws)):vs=ws:=I.list_inj (.inl h) (.inl h')
theorem kF (I:Inv X pins σ H s):∀ (n:Nat) {d e:D}{v:V},Rl X.K H φ d v->Rl X.K H φ e v->okD n d=true->okD n e=true->eqD d e=true:=by
 intro n
 induction n with
 | zero=>
  intro d e v r1 r2 o1 o2
  cases d<;>first | (cases o1;done) | skip
  all_goals (cases e<;>first | (cases o2;done) | skip)
  all_goals (first | rfl | (cases r1.symm.trans r2;done) | (cases r1.symm.trans r2;simp [eqD]))
 | succ n ih=>
  have lists:∀ {ds es:List D}{vs:List V},Rls X.K H φ ds vs->Rls X.K H φ es vs->(∀ d ∈ ds,okD n d=true)->(∀ d ∈ es,okD n d=true)->d7 ds es=true:=by
   intro ds
   induction ds with
   | nil=>
    intro es vs r1 r2 _ _
    cases r1
    cases es with
    | nil=>rfl
    | cons e es=>obtain⟨_,_,q,_⟩:=r2;cases q
   | cons d ds ihd=>
    intro es vs r1 r2 o1 o2
    obtain⟨v,r,rfl,a1,a2⟩:=r1
    cases es with
    | nil=>cases r2
    | cons e es=>
     obtain⟨v',r',q,b1,b2⟩:=r2
     cases q
     show (eqD d e && d7 ds es)=true
     rw [ih a1 b1 (o1 d List.mem_cons_self) (o2 e List.mem_cons_self),ihd a2 b2 (λx hx=>o1 x (List.mem_cons_of_mem _ hx)) (λx hx=>o2 x (List.mem_cons_of_mem _ hx))]
     rfl
  intro d e v r1 r2 o1 o2
  cases d with
  | tup ds=>
   obtain⟨a,vs,rfl,h1,h2⟩:=r1
   cases e with
   | tup es=>
    obtain⟨b,us,q,h3,h4⟩:=r2
    cases q
    rw [I.tuple_inj (SqT.of h3) (SqT.of h1)] at h4
    exact lists h2 h4 (List.all_eq_true.mp o1) (List.all_eq_true.mp o2)
   | lst es=>
    obtain⟨b,us,q,_,h3,h4⟩:=r2
    cases q
    obtain⟨_,_,p1,_⟩:=I.tuple (SqT.of h1)
    obtain⟨_,_,p2,_⟩:=I.list (.inl h3)
    exact absurd rfl (SeqAt.ne_of_list_tuple p2.isList p1)
   | _=>first | (cases o2;done) | (cases r2;done)
  | lst ds=>
   obtain⟨a,vs,rfl,h0,h1,h2⟩:=r1
   cases e with
   | lst es=>
    obtain⟨b,us,q,_,h3,h4⟩:=r2
    cases q
    rw [oh I h3 h1] at h4
    exact lists h2 h4 (List.all_eq_true.mp o1) (List.all_eq_true.mp o2)
   | tup es=>
    obtain⟨b,us,q,h3,h4⟩:=r2
    cases q
    obtain⟨_,_,p1,_⟩:=I.tuple (SqT.of h3)
    obtain⟨_,_,p2,_⟩:=I.list (.inl h1)
    exact absurd rfl (SeqAt.ne_of_list_tuple p2.isList p1)
   | _=>first | (cases o2;done) | (cases r2;done)
  | non=>cases e<;>first | rfl | (cases o2;done) | (cases r1.symm.trans r2;done) | (cases r1;obtain⟨_,_,q,_⟩:=r2;cases q)
  | bl b=>cases e<;>first | (cases o2;done) | (cases r1.symm.trans r2;simp [eqD];done) | (cases r1.symm.trans r2;done) | (cases r1;obtain⟨_,_,q,_⟩:=r2;cases q)
  | int b=>cases e<;>first | (cases o2;done) | (cases r1.symm.trans r2;simp [eqD];done) | (cases r1.symm.trans r2;done) | (cases r1;obtain⟨_,_,q,_⟩:=r2;cases q)
  | str b=>cases e<;>first | (cases o2;done) | (cases r1.symm.trans r2;simp [eqD];done) | (cases r1.symm.trans r2;done) | (cases r1;obtain⟨_,_,q,_⟩:=r2;cases q)
  | ty b=>cases o1
  | scr b=>cases o1
  | dct=>cases o1
theorem cQ {ds:List D}{vs:List V}{us:List Value} (r:Rls K H φ ds vs) (rv:aD vs us):∀ (j:Nat) (h:j < us.length),∃ v,Rl K H φ (ds.getD j .non) v/\aB v us[j]/\ds.getD j .non ∈ ds:=by
 intro j h
 obtain⟨h',q⟩:=rv.at j h
 have hd:j < ds.length:=by rw [r.length];exact h'
 have e:ds[j]?=some ds[j]:=List.getElem?_eq_getElem hd
 obtain⟨v,ev,rl⟩:=r.get e
 rw [List.getElem?_eq_getElem h'] at ev
 cases ev
 refine⟨_,?_,q,?_⟩
 ·rw [List.getD,e];exact rl
 ·rw [List.getD,e];exact List.getElem_mem hd
theorem qs (I:Inv X pins σ H s):∀ (n:Nat) {A:Around}{d e:D}{v u:V}{vv uu:Value},Rl X.K H φ d v->Rl X.K H φ e u->aB v vv->aB u uu->okD n d=true->okD n e=true->A.units+n < cLine->SeqAt.EqAt A s vv uu (eqD d e):=by
 have flat:∀ {A:Around}{d e:D}{v u:V}{vv uu:Value},cf d=true->cf e=true->Rl X.K H φ d v->Rl X.K H φ e u->aB v vv->aB u uu->SeqAt.EqAt A s vv uu (eqD d e):=by
  intro A d e v u vv uu f1 f2 r1 r2 q1 q2
  obtain⟨e1,g1⟩:=dy f1 r1
  obtain⟨e2,g2⟩:=dy f2 r2
  rw [<-iy f1 f2,<-e1,<-e2]
  exact mw q1 q2 g1 g2
 intro n
 induction n with
 | zero=>
  intro A d e v u vv uu r1 r2 q1 q2 o1 o2 hu
  refine flat ?_ ?_ r1 r2 q1 q2
  ·cases d<;>first | rfl | cases o1
  ·cases e<;>first | rfl | cases o2
 | succ n ih=>
  intro A d e v u vv uu r1 r2 q1 q2 o1 o2 hu
  have hu0:A.units < cLine:=by lia
  have hu1:A.in1.units+n < cLine:=by show A.units+1+n < cLine;lia
  cases d with
  | tup ds=>
   obtain⟨a,vs,rfl,h1,h2⟩:=r1
   cases q1
   obtain⟨its,rv,p1,_⟩:=I.tuple (SqT.of h1)
   cases e with
   | tup es=>
    obtain⟨b,us,rfl,h3,h4⟩:=id r2
    cases q2
    by_cases hab:a=b
    ·subst hab
     rw [kF I (n+1) (d:=.tup ds) ⟨a,vs,rfl,h1,h2⟩ r2 o1 o2]
     exact SeqAt.EqAt.same _
    ·obtain⟨its2,rv2,p2,_⟩:=I.tuple (SqT.of h3)
     have z:=SeqAt.RcAt.tuples (A:=A) (e:=λj=>eqD (ds.getD j .non) (es.getD j .non)) p1 p2 hu0 λj g1 g2=>by
      obtain⟨v1,k1,k2,k3⟩:=cQ h2 rv j (by simpa using g1)
      obtain⟨v2,k4,k5,k6⟩:=cQ h4 rv2 j (by simpa using g2)
      exact ih k1 k4 (by simpa using k2) (by simpa using k5) (List.all_eq_true.mp o1 _ k3) (List.all_eq_true.mp o2 _ k6) hu1
     have e1:its.toArray.size=ds.length:=by simp [<-rv.length,h2.length]
     have e2:its2.toArray.size=es.length:=by simp [<-rv2.length,h4.length]
     rw [e1,e2,cS] at z
     exact SeqAt.EqAt.of_refs hab z
   | lst es=>
    obtain⟨b,us,rfl,_,h3,h4⟩:=id r2
    cases q2
    obtain⟨its2,rv2,p2,_⟩:=I.list (.inl h3)
    exact SeqAt.EqAt.tuple_list p1 p2.isList hu0
   | non=>cases r2;cases q2;exact SeqAt.EqAt.tuple_none p1 hu0
   | bl x=>cases r2;cases q2;exact SeqAt.EqAt.tuple_bool x p1 hu0
   | int x=>cases r2;obtain⟨t,rfl⟩:=q2;exact SeqAt.EqAt.tuple_int x t p1 hu0
   | str x=>cases r2;obtain⟨t,rfl⟩:=q2;exact SeqAt.EqAt.tuple_str x t p1 hu0
   | ty _=>cases o2
   | scr _=>cases o2
   | dct=>cases o2
  | lst ds=>
   obtain⟨a,vs,rfl,h0,h1,h2⟩:=r1
   cases q1
   obtain⟨its,rv,p1,_⟩:=I.list (.inl h1)
   cases e with
   | lst es=>
    obtain⟨b,us,rfl,_,h3,h4⟩:=id r2
    cases q2
    by_cases hab:a=b
    ·subst hab
     rw [kF I (n+1) (d:=.lst ds) ⟨a,vs,rfl,h0,h1,h2⟩ r2 o1 o2]
     exact SeqAt.EqAt.same _
    ·obtain⟨its2,rv2,p2,_⟩:=I.list (.inl h3)
     have e1:its.toArray.size=ds.length:=by simp [<-rv.length,h2.length]
     have e2:its2.toArray.size=es.length:=by simp [<-rv2.length,h4.length]
     by_cases hl:ds.length=es.length
     ·have z:=SeqAt.RcAt.lists (A:=A) (e:=λj=>eqD (ds.getD j .non) (es.getD j .non)) p1.isList p2.isList (by rw [e1,e2,hl]) hu0 λj g1 g2=>by
       obtain⟨v1,k1,k2,k3⟩:=cQ h2 rv j (by simpa using g1)
       obtain⟨v2,k4,k5,k6⟩:=cQ h4 rv2 j (by simpa using g2)
       exact ih k1 k4 (by simpa using k2) (by simpa using k5) (List.all_eq_true.mp o1 _ k3) (List.all_eq_true.mp o2 _ k6) hu1
      rw [e1,el hl] at z
      exact SeqAt.EqAt.of_refs hab z
     ·have z:=SeqAt.RcAt.lists_lengths (A:=A) p1.isList p2.isList (by rw [e1,e2];simpa using hl) hu0
      show SeqAt.EqAt A s _ _ (d7 ds es)
      rw [jv hl]
      exact SeqAt.EqAt.of_refs hab z
   | tup es=>
    obtain⟨b,us,rfl,h3,h4⟩:=id r2
    cases q2
    obtain⟨its2,rv2,p2,_⟩:=I.tuple (SqT.of h3)
    exact SeqAt.EqAt.list_tuple p1.isList p2 hu0
   | non=>cases r2;cases q2;exact SeqAt.EqAt.list_none p1.isList hu0
   | bl x=>cases r2;cases q2;exact SeqAt.EqAt.list_bool x p1.isList hu0
   | int x=>cases r2;obtain⟨t,rfl⟩:=q2;exact SeqAt.EqAt.list_int x t p1.isList hu0
   | str x=>cases r2;obtain⟨t,rfl⟩:=q2;exact SeqAt.EqAt.list_str x t p1.isList hu0
   | ty _=>cases o2
   | scr _=>cases o2
   | dct=>cases o2
  | non=>
   cases r1;cases q1
   cases e with
   | tup es=>obtain⟨b,us,rfl,h3,h4⟩:=r2;cases q2;obtain⟨_,_,p2,_⟩:=I.tuple (SqT.of h3);exact SeqAt.EqAt.none_tuple p2 hu0
   | lst es=>obtain⟨b,us,rfl,_,h3,h4⟩:=r2;cases q2;obtain⟨_,_,p2,_⟩:=I.list (.inl h3);exact SeqAt.EqAt.none_list p2.isList hu0
   | _=>first | (cases o2;done) | exact flat rfl rfl (d:=.non) rfl r2 (v:=.non) rfl q2
  | bl x=>
   cases r1;cases q1
   cases e with
   | tup es=>obtain⟨b,us,rfl,h3,h4⟩:=r2;cases q2;obtain⟨_,_,p2,_⟩:=I.tuple (SqT.of h3);exact SeqAt.EqAt.bool_tuple x p2 hu0
   | lst es=>obtain⟨b,us,rfl,_,h3,h4⟩:=r2;cases q2;obtain⟨_,_,p2,_⟩:=I.list (.inl h3);exact SeqAt.EqAt.bool_list x p2.isList hu0
   | _=>first | (cases o2;done) | exact flat rfl rfl (d:=.bl x) rfl r2 (v:=.bl x) rfl q2
  | int x=>
   cases r1;obtain⟨t1,rfl⟩:=q1
   cases e with
   | tup es=>obtain⟨b,us,rfl,h3,h4⟩:=r2;cases q2;obtain⟨_,_,p2,_⟩:=I.tuple (SqT.of h3);exact SeqAt.EqAt.int_tuple x t1 p2 hu0
   | lst es=>obtain⟨b,us,rfl,_,h3,h4⟩:=r2;cases q2;obtain⟨_,_,p2,_⟩:=I.list (.inl h3);exact SeqAt.EqAt.int_list x t1 p2.isList hu0
   | _=>first | (cases o2;done) | exact flat rfl rfl (d:=.int x) rfl r2 (v:=.int x) ⟨t1,rfl⟩ q2
  | str x=>
   cases r1;obtain⟨t1,rfl⟩:=q1
   cases e with
   | tup es=>obtain⟨b,us,rfl,h3,h4⟩:=r2;cases q2;obtain⟨_,_,p2,_⟩:=I.tuple (SqT.of h3);exact SeqAt.EqAt.str_tuple x t1 p2 hu0
   | lst es=>obtain⟨b,us,rfl,_,h3,h4⟩:=r2;cases q2;obtain⟨_,_,p2,_⟩:=I.list (.inl h3);exact SeqAt.EqAt.str_list x t1 p2.isList hu0
   | _=>first | (cases o2;done) | exact flat rfl rfl (d:=.str x) rfl r2 (v:=.str x) ⟨t1,rfl⟩ q2
  | ty _=>cases o1
  | scr _=>cases o1
  | dct=>cases o1
theorem qG {A:Around}{y x:V}{u v:Value} (ry:aB y u) (rx:aB x v) (fy:cU y=true) (fx:cU x=true):SeqAt.RcAt A s u v (eqV y x):=by
 cases y with
 | non=>
  cases ry
  cases x with
  | non=>cases rx;exact SeqAt.RcAt.none_none
  | bl b=>cases rx;exact SeqAt.RcAt.none_bool b
  | int b=>obtain⟨t,rfl⟩:=rx;exact SeqAt.RcAt.none_int b t
  | str b=>obtain⟨t,rfl⟩:=rx;exact SeqAt.RcAt.none_str b t
  | _=>cases fx
 | bl a=>
  cases ry
  cases x with
  | non=>cases rx;exact SeqAt.RcAt.bool_none a
  | bl b=>cases rx;exact SeqAt.RcAt.bool_bool a b
  | int b=>obtain⟨t,rfl⟩:=rx;exact SeqAt.RcAt.bool_int a b t
  | str b=>obtain⟨t,rfl⟩:=rx;exact SeqAt.RcAt.bool_str a b t
  | _=>cases fx
 | int a=>
  obtain⟨t',rfl⟩:=ry
  cases x with
  | non=>cases rx;exact SeqAt.RcAt.int_none a t'
  | bl b=>cases rx;exact SeqAt.RcAt.int_bool a t' b
  | int b=>obtain⟨t,rfl⟩:=rx;exact SeqAt.RcAt.int_int a t' b t
  | str b=>obtain⟨t,rfl⟩:=rx;exact SeqAt.RcAt.int_str a t' b t
  | _=>cases fx
 | str a=>
  obtain⟨t',rfl⟩:=ry
  cases x with
  | non=>cases rx;exact SeqAt.RcAt.str_none a t'
  | bl b=>cases rx;exact SeqAt.RcAt.str_bool a t' b
  | int b=>obtain⟨t,rfl⟩:=rx;exact SeqAt.RcAt.str_int a t' b t
  | str b=>obtain⟨t,rfl⟩:=rx;exact SeqAt.RcAt.str_str a t' b t
  | _=>cases fx
 | _=>cases fy
theorem lF {A:Around}{y x:V}{u v:Value} (ry:aB y u) (rx:aB x v) (fy:cU y=true) (fx:cU x=true):SeqAt.RcNeAt A s u v (!eqV y x):=by
 cases y with
 | non=>
  cases ry
  cases x with
  | non=>cases rx;exact SeqAt.RcNeAt.none_none
  | bl b=>cases rx;exact SeqAt.RcNeAt.none_bool b
  | int b=>obtain⟨t,rfl⟩:=rx;exact SeqAt.RcNeAt.none_int b t
  | str b=>obtain⟨t,rfl⟩:=rx;exact SeqAt.RcNeAt.none_str b t
  | _=>cases fx
 | bl a=>
  cases ry
  cases x with
  | non=>cases rx;exact SeqAt.RcNeAt.bool_none a
  | bl b=>cases rx;exact SeqAt.RcNeAt.bool_bool a b
  | int b=>obtain⟨t,rfl⟩:=rx;exact SeqAt.RcNeAt.bool_int a b t
  | str b=>obtain⟨t,rfl⟩:=rx;exact SeqAt.RcNeAt.bool_str a b t
  | _=>cases fx
 | int a=>
  obtain⟨t',rfl⟩:=ry
  cases x with
  | non=>cases rx;exact SeqAt.RcNeAt.int_none a t'
  | bl b=>cases rx;exact SeqAt.RcNeAt.int_bool a t' b
  | int b=>obtain⟨t,rfl⟩:=rx;exact SeqAt.RcNeAt.int_int a t' b t
  | str b=>obtain⟨t,rfl⟩:=rx;exact SeqAt.RcNeAt.int_str a t' b t
  | _=>cases fx
 | str a=>
  obtain⟨t',rfl⟩:=ry
  cases x with
  | non=>cases rx;exact SeqAt.RcNeAt.str_none a t'
  | bl b=>cases rx;exact SeqAt.RcNeAt.str_bool a t' b
  | int b=>obtain⟨t,rfl⟩:=rx;exact SeqAt.RcNeAt.str_int a t' b t
  | str b=>obtain⟨t,rfl⟩:=rx;exact SeqAt.RcNeAt.str_str a t' b t
  | _=>cases fx
 | _=>cases fy
inductive Kin where
 | fl (d:D) | tp (ds:List D) | ls (ds:List D)
noncomputable def jF (st:Sto):W->Option Kin
 | .d (.tup ds)=>some (.tp ds)
 | .d (.lst ds)=>some (.ls ds)
 | .h n=>(lg st n).map .ls
 | .d .non=>some (.fl .non)
 | .d (.bl b)=>some (.fl (.bl b))
 | .d (.int i)=>some (.fl (.int i))
 | .d (.str x)=>some (.fl (.str x))
 | _=>none
noncomputable def eqK:Kin->Kin->Option Bool
 | .fl a,.fl b=>some (eqD a b)
 | .tp as,.tp bs=>if (as.isEmpty || bs.isEmpty)=true then some (as.isEmpty && bs.isEmpty) else if as.all (okD 60)=true/\bs.all (okD 60)=true then some (d7 as bs) else none
 | .ls as,.ls bs=>if as.length=bs.length then (if as.all (okD 60)=true/\bs.all (okD 60)=true then some (d7 as bs) else none) else some false
 | .fl _,.tp _=>some false
 | .tp _,.fl _=>some false
 | .fl _,.ls _=>some false
 | .ls _,.fl _=>some false
 | .tp _,.ls _=>some false
 | .ls _,.tp _=>some false
noncomputable def dEq (st:Sto) (x y:W):Option D:=(jF st x).bind λa=>(jF st y).bind λb=>(eqK a b).map λk=>.bl k
noncomputable def dNe (st:Sto) (x y:W):Option D:=(jF st x).bind λa=>(jF st y).bind λb=>(eqK a b).map λk=>.bl (!k)
noncomputable def qz (K:PySem.W.Frag) (H:Hp) (φ:List Addr):Kin->V->Prop
 | .fl d,v=>cf d=true/\Rl K H φ d v
 | .tp ds,v=>∃ a vs,v=.ref a/\SqT K H a vs/\Rls K H φ ds vs
 | .ls ds,v=>∃ a vs,v=.ref a/\Rd H a (.lst vs)/\Rls K H φ ds vs
theorem gc {w:W}{v:V}{k:Kin} (S:Sr K H φ st) (r:Rw K H φ w v) (e:jF st w=some k):qz K H φ k v:=by
 cases w with
 | h n=>
  obtain⟨a,ea,rfl⟩:=r
  obtain⟨ds,e1,rfl⟩:=Option.map_eq_some_iff.mp e
  obtain⟨vs,q,rl⟩:=S.atl n a ds ea e1
  exact⟨a,vs,rfl,.inl q,rl⟩
 | d x=>
  cases x with
  | tup es=>cases e;obtain⟨a,vs,rfl,h1,h2⟩:=r;exact⟨a,vs,rfl,SqT.of h1,h2⟩
  | lst es=>cases e;obtain⟨a,vs,rfl,h0,h1,h2⟩:=r;exact⟨a,vs,rfl,h1,h2⟩
  | non=>cases e;exact⟨rfl,r⟩
  | bl b=>cases e;exact⟨rfl,r⟩
  | int b=>cases e;exact⟨rfl,r⟩
  | str b=>cases e;exact⟨rfl,r⟩
  | _=>cases e
theorem pr {A:Around}{k:Nat} (hr:bM k A):A.in1.units+60 < cLine:=by
 have:=hr.un
 show A.units+1+60 < cLine
 lia
theorem mQ {k:Nat} (hr:bM k X.A) (I:Inv X pins σ H s) {a b:Kin}{v u:V}{vv uu:Value}{r:Bool} (ra:qz X.K H φ a v) (rb:qz X.K H φ b u) (qa:aB v vv) (qb:aB u uu) (e:eqK a b=some r) :
  SeqAt.RcAt X.A s vv uu r/\SeqAt.RcNeAt X.A s vv uu (!r):=by
 have hu0:=hr.units0
 have items:∀ {ds es:List D}{vs us:List V}{its its2:List Value},Rls X.K H φ ds vs->Rls X.K H φ es us->aD vs its->aD us its2->ds.all (okD 60)=true->es.all (okD 60)=true->
   ∀ j (g1:j < its.toArray.size) (g2:j < its2.toArray.size),SeqAt.EqAt X.A.in1 s its.toArray[j] its2.toArray[j] (eqD (ds.getD j .non) (es.getD j .non)):=by
  intro ds es vs us its its2 h2 h4 rv rv2 o1 o2 j g1 g2
  obtain⟨v1,k1,k2,k3⟩:=cQ h2 rv j (by simpa using g1)
  obtain⟨v2,k4,k5,k6⟩:=cQ h4 rv2 j (by simpa using g2)
  exact qs I 60 k1 k4 (by simpa using k2) (by simpa using k5) (List.all_eq_true.mp o1 _ k3) (List.all_eq_true.mp o2 _ k6) (pr hr)
 match a,b,e with
 | .fl d,.fl d',e=>
  cases e
  obtain⟨f1,r1⟩:=ra
  obtain⟨f2,r2⟩:=rb
  obtain⟨e1,g1⟩:=dy f1 r1
  obtain⟨e2,g2⟩:=dy f2 r2
  rw [<-iy f1 f2,<-e1,<-e2]
  exact⟨qG qa qb g1 g2,lF qa qb g1 g2⟩
 | .tp ds,.tp es,e=>
  simp only [eqK] at e
  obtain⟨a,vs,rfl,h1,h2⟩:=ra
  obtain⟨b,us,rfl,h3,h4⟩:=rb
  cases qa;cases qb
  obtain⟨its,rv,p1,_⟩:=I.tuple h1
  obtain⟨its2,rv2,p2,_⟩:=I.tuple h3
  have e1:its.toArray.size=ds.length:=by simp [<-rv.length,h2.length]
  have e2:its2.toArray.size=es.length:=by simp [<-rv2.length,h4.length]
  split at e
  ·rename_i hc
   cases e
   have hv:∀ j (g1:j < its.toArray.size) (g2:j < its2.toArray.size),SeqAt.EqAt X.A.in1 s its.toArray[j] its2.toArray[j] (eqD (ds.getD j .non) (es.getD j .non)):=λj g1 g2=>by
    rw [e1] at g1
    rw [e2] at g2
    rw [Bool.or_eq_true] at hc
    rcases hc with hc | hc
    ·rw [List.isEmpty_iff.mp hc] at g1;exact absurd g1 (Nat.not_lt_zero _)
    ·rw [List.isEmpty_iff.mp hc] at g2;exact absurd g2 (Nat.not_lt_zero _)
   have z:=SeqAt.RcAt.tuples (A:=X.A) p1 p2 hu0 hv
   have z':=SeqAt.RcNeAt.tuples (A:=X.A) p1 p2 hu0 hv
   rw [e1,e2,cS] at z z'
   have e3:d7 ds es=(ds.isEmpty && es.isEmpty):=by
    cases ds with
    | nil=>cases es<;>rfl
    | cons _ _=>cases es with
     | nil=>rfl
     | cons _ _=>cases hc
   rw [e3] at z z'
   exact⟨z,z'⟩
  ·split at e
   ·rename_i hc
    cases e
    have z:=SeqAt.RcAt.tuples (A:=X.A) p1 p2 hu0 (items h2 h4 rv rv2 hc.1 hc.2)
    have z':=SeqAt.RcNeAt.tuples (A:=X.A) p1 p2 hu0 (items h2 h4 rv rv2 hc.1 hc.2)
    rw [e1,e2,cS] at z z'
    exact⟨z,z'⟩
   ·cases e
 | .ls ds,.ls es,e=>
  simp only [eqK] at e
  obtain⟨a,vs,rfl,h1,h2⟩:=ra
  obtain⟨b,us,rfl,h3,h4⟩:=rb
  cases qa;cases qb
  obtain⟨its,rv,p1,_⟩:=I.list (.inl h1)
  obtain⟨its2,rv2,p2,_⟩:=I.list (.inl h3)
  have e1:its.toArray.size=ds.length:=by simp [<-rv.length,h2.length]
  have e2:its2.toArray.size=es.length:=by simp [<-rv2.length,h4.length]
  split at e
  ·rename_i hl
   split at e
   ·rename_i hc
    cases e
    have z:=SeqAt.RcAt.lists (A:=X.A) p1.isList p2.isList (by rw [e1,e2,hl]) hu0 (items h2 h4 rv rv2 hc.1 hc.2)
    have z':=SeqAt.RcNeAt.lists (A:=X.A) p1.isList p2.isList (by rw [e1,e2,hl]) hu0 (items h2 h4 rv rv2 hc.1 hc.2)
    rw [e1,el hl] at z z'
    exact⟨z,z'⟩
   ·cases e
  ·rename_i hl
   cases e
   have z:=SeqAt.RcAt.lists_lengths (A:=X.A) p1.isList p2.isList (by rw [e1,e2];simpa using hl) hu0
   have z':=SeqAt.RcNeAt.lists_lengths (A:=X.A) p1.isList p2.isList (by rw [e1,e2];simpa using hl) hu0
   exact⟨z,z'⟩
 | .fl d,.tp es,e=>
  cases e
  obtain⟨f1,r1⟩:=ra
  obtain⟨b,us,rfl,h3,h4⟩:=rb
  cases qb
  obtain⟨its2,rv2,p2,_⟩:=I.tuple h3
  cases d with
  | non=>cases r1;cases qa;exact⟨SeqAt.RcAt.none_tuple p2 hu0,SeqAt.RcNeAt.none_tuple p2 hu0⟩
  | bl x=>cases r1;cases qa;exact⟨SeqAt.RcAt.bool_tuple x p2 hu0,SeqAt.RcNeAt.bool_tuple x p2 hu0⟩
  | int x=>cases r1;obtain⟨t,rfl⟩:=qa;exact⟨SeqAt.RcAt.int_tuple x t p2 hu0,SeqAt.RcNeAt.int_tuple x t p2 hu0⟩
  | str x=>cases r1;obtain⟨t,rfl⟩:=qa;exact⟨SeqAt.RcAt.str_tuple x t p2 hu0,SeqAt.RcNeAt.str_tuple x t p2 hu0⟩
  | _=>cases f1
 | .tp es,.fl d,e=>
  cases e
  obtain⟨f1,r1⟩:=rb
  obtain⟨b,us,rfl,h3,h4⟩:=ra
  cases qa
  obtain⟨its2,rv2,p2,_⟩:=I.tuple h3
  cases d with
  | non=>cases r1;cases qb;exact⟨SeqAt.RcAt.tuple_none p2 hu0,SeqAt.RcNeAt.tuple_none p2 hu0⟩
  | bl x=>cases r1;cases qb;exact⟨SeqAt.RcAt.tuple_bool x p2 hu0,SeqAt.RcNeAt.tuple_bool x p2 hu0⟩
  | int x=>cases r1;obtain⟨t,rfl⟩:=qb;exact⟨SeqAt.RcAt.tuple_int x t p2 hu0,SeqAt.RcNeAt.tuple_int x t p2 hu0⟩
  | str x=>cases r1;obtain⟨t,rfl⟩:=qb;exact⟨SeqAt.RcAt.tuple_str x t p2 hu0,SeqAt.RcNeAt.tuple_str x t p2 hu0⟩
  | _=>cases f1
 | .fl d,.ls es,e=>
  cases e
  obtain⟨f1,r1⟩:=ra
  obtain⟨b,us,rfl,h3,h4⟩:=rb
  cases qb
  obtain⟨its2,rv2,p2,_⟩:=I.list (.inl h3)
  replace p2:=p2.isList
  cases d with
  | non=>cases r1;cases qa;exact⟨SeqAt.RcAt.none_list p2 hu0,SeqAt.RcNeAt.none_list p2 hu0⟩
  | bl x=>cases r1;cases qa;exact⟨SeqAt.RcAt.bool_list x p2 hu0,SeqAt.RcNeAt.bool_list x p2 hu0⟩
  | int x=>cases r1;obtain⟨t,rfl⟩:=qa;exact⟨SeqAt.RcAt.int_list x t p2 hu0,SeqAt.RcNeAt.int_list x t p2 hu0⟩
  | str x=>cases r1;obtain⟨t,rfl⟩:=qa;exact⟨SeqAt.RcAt.str_list x t p2 hu0,SeqAt.RcNeAt.str_list x t p2 hu0⟩
  | _=>cases f1
 | .ls es,.fl d,e=>
  cases e
  obtain⟨f1,r1⟩:=rb
  obtain⟨b,us,rfl,h3,h4⟩:=ra
  cases qa
  obtain⟨its2,rv2,p2,_⟩:=I.list (.inl h3)
  replace p2:=p2.isList
  cases d with
  | non=>cases r1;cases qb;exact⟨SeqAt.RcAt.list_none p2 hu0,SeqAt.RcNeAt.list_none p2 hu0⟩
  | bl x=>cases r1;cases qb;exact⟨SeqAt.RcAt.list_bool x p2 hu0,SeqAt.RcNeAt.list_bool x p2 hu0⟩
  | int x=>cases r1;obtain⟨t,rfl⟩:=qb;exact⟨SeqAt.RcAt.list_int x t p2 hu0,SeqAt.RcNeAt.list_int x t p2 hu0⟩
  | str x=>cases r1;obtain⟨t,rfl⟩:=qb;exact⟨SeqAt.RcAt.list_str x t p2 hu0,SeqAt.RcNeAt.list_str x t p2 hu0⟩
  | _=>cases f1
 | .tp ds,.ls es,e=>
  cases e
  obtain⟨a,vs,rfl,h1,h2⟩:=ra
  obtain⟨b,us,rfl,h3,h4⟩:=rb
  cases qa;cases qb
  obtain⟨its,rv,p1,_⟩:=I.tuple h1
  obtain⟨its2,rv2,p2,_⟩:=I.list (.inl h3)
  exact⟨SeqAt.RcAt.tuple_list p1 p2.isList hu0,SeqAt.RcNeAt.tuple_list p1 p2.isList hu0⟩
 | .ls ds,.tp es,e=>
  cases e
  obtain⟨a,vs,rfl,h1,h2⟩:=ra
  obtain⟨b,us,rfl,h3,h4⟩:=rb
  cases qa;cases qb
  obtain⟨its,rv,p1,_⟩:=I.list (.inl h1)
  obtain⟨its2,rv2,p2,_⟩:=I.tuple h3
  exact⟨SeqAt.RcAt.list_tuple p1.isList p2 hu0,SeqAt.RcNeAt.list_tuple p1.isList p2 hu0⟩
theorem oR {k:Nat} (hr:bM k X.A) (hK:X.K=K:=by rfl):OpD K X (compareOp .Eq) dEq:=by
 subst hK
 refine⟨λst x y d h=>?_⟩
 simp only [dEq,Option.bind_eq_some_iff,Option.map_eq_some_iff] at h
 obtain⟨a,ha,b,hb,r,e,rfl⟩:=h
 intro pins s σ H vx vy v u Q I rx ry q
 obtain⟨φ,S,r1,r2,q⟩:=q
 exact (mQ hr I (gc S r1 ha) (gc S r2 hb) rx ry e).1 _ _ _ _ ⟨.bl r,H,I,rfl,q _ H (aM.refl H) rfl⟩
theorem sF {k:Nat} (hr:bM k X.A) (hK:X.K=K:=by rfl):OpD K X (compareOp .NotEq) dNe:=by
 subst hK
 refine⟨λst x y d h=>?_⟩
 simp only [dNe,Option.bind_eq_some_iff,Option.map_eq_some_iff] at h
 obtain⟨a,ha,b,hb,r,e,rfl⟩:=h
 intro pins s σ H vx vy v u Q I rx ry q
 obtain⟨φ,S,r1,r2,q⟩:=q
 exact (mQ hr I (gc S r1 ha) (gc S r2 hb) rx ry e).2 _ _ _ _ ⟨.bl (!r),H,I,rfl,q _ H (aM.refl H) rfl⟩
end
end L2
namespace L2
open PySem PySem.Spec PyProof.Rows
section
variable {K:PySem.W.Frag}{X:Cx}
noncomputable def dF:List D->Option (List Bool)
 | []=>some []
 | .bl i::ds=>(dF ds).map λr=>i::r
 | _=>none
theorem fL:∀ {ds:List D}{ns:List Bool},dF ds=some ns->ds=ns.map D.bl
 | [],_,h=>by cases h;rfl
 | .bl i::ds,_,h=>by
  obtain⟨r,e,rfl⟩:=Option.map_eq_some_iff.mp h
  rw [fL e];rfl
 | .non::_,_,h=>by cases h
 | .int _::_,_,h=>by cases h
 | .str _::_,_,h=>by cases h
 | .ty _::_,_,h=>by cases h
 | .dct::_,_,h=>by cases h
 | .scr _::_,_,h=>by cases h
 | .tup _::_,_,h=>by cases h
 | .lst _::_,_,h=>by cases h
noncomputable def cL (st:Sto):List W->Option D
 | [.d (.str x)]=>if x.length<=1000000 then some (.int x.length) else none
 | [w]=>(d8 st w).map λds=>.int ds.length
 | _=>none
noncomputable def nc (_:Sto):List W->Option D
 | [.d (.int i)]=>some (.int (if i < 0 then -i else i))
 | _=>none
noncomputable def pL (_:Sto):List W->Option D
 | [.d (.int i),.d (.int j)]=>some (.int (if j < i then j else i))
 | _=>none
noncomputable def nY (_:Sto):List W->Option D
 | [.d (.int i)]=>some (.int i)
 | [.d (.bl k)]=>some (.int (if k then 1 else 0))
 | _=>none
noncomputable def jl (_:Sto):List W->Option D
 | [.d (.lst ds)]=>(dF ds).map λns=>.bl (ns.all id)
 | _=>none
noncomputable def j6 (st:Sto):List W->Option D
 | [w]=>(d8 st w).map λds=>.tup ds
 | _=>none
noncomputable def qf (st:Sto):W->Option String
 | .d .non=>some "NoneType"
 | .d (.bl _)=>some "bool"
 | .d (.int _)=>some "int"
 | .d (.str _)=>some "str"
 | .d (.tup _)=>some "tuple"
 | .d (.lst _)=>some "list"
 | .d .dct=>some "dict"
 | .h n=>(lg st n).map λ_=>"list"
 | _=>none
noncomputable def ql (t c:String):Option Bool:=
 if c = "int" then some (t=="int" || t=="bool")
 else if c = "bool"\/c = "str"\/c = "tuple"\/c = "list" then some (t==c)
 else none
noncomputable def eE (st:Sto):List W->Option D
 | [w,.d (.ty c)]=>(qf st w).bind λt=>(ql t c).map λb=>.bl b
 | _=>none
theorem eB (hK:X.K=K:=by rfl):dI K X (.builtin "len") cL:=by
 subst hK
 refine⟨λst ws d h=>?_⟩
 have seq:∀ w,(d8 st w).map (λds=>D.int ds.length)=some d->cp X (.builtin "len") (rCD X.K st [w] d):=λw h=>by
  obtain⟨ds,e,rfl⟩:=Option.map_eq_some_iff.mp h
  refine iN.imp ?_
  rintro vs H Q ⟨φ,S,⟨v,r,rfl,r1,rfl⟩,q⟩
  obtain⟨a,us,rfl,h1,h2⟩:=fT S r1 e
  exact⟨a,us,rfl,h1,q _ H (aM.refl H) (by rw [<-h2.length];rfl)⟩
 cases ws with
 | nil=>cases h
 | cons w tl=>
  cases tl with
  | cons _ _=>
   cases w with
   | h n=>cases h
   | d x=>cases x<;>cases h
  | nil=>
   cases w with
   | h n=>exact seq _ h
   | d x=>
    cases x with
    | str x=>
     simp only [cL] at h
     split at h
     ·rename_i hl
      cases h
      refine iA.imp ?_
      rintro vs H Q ⟨φ,S,⟨v,r,rfl,r1,rfl⟩,q⟩
      exact⟨x,by rw [show v=.str x from r1],Nat.le_trans hl mil,q _ H (aM.refl H) rfl⟩
     ·cases h
    | tup ds=>exact seq _ h
    | lst ds=>exact seq _ h
    | scr ds=>exact seq _ h
    | _=>cases h
theorem ms:dI K X (.builtin "abs") nc:=by
 refine⟨λst ws d h=>?_⟩
 match ws,h with
 | [.d (.int i)],h=>
  cases h
  refine nl.imp ?_
  rintro vs H Q ⟨φ,S,⟨v,r,rfl,r1,rfl⟩,q⟩
  exact⟨i,by rw [show v=.int i from r1],q _ H (aM.refl H) rfl⟩
theorem qy (hc:X.calm=true:=by rfl):dI K X (.builtin "min") pL:=by
 refine⟨λst ws d h=>?_⟩
 match ws,h with
 | [.d (.int i),.d (.int j)],h=>
  cases h
  refine (kT hc).imp ?_
  rintro vs H Q ⟨φ,S,⟨v,r,rfl,r1,u,r',rfl,r2,rfl⟩,q⟩
  exact⟨i,j,by rw [show v=.int i from r1,show u=.int j from r2],q _ H (aM.refl H) rfl⟩
theorem o5:dI K X (.type "int") nY:=by
 refine⟨λst ws d h=>?_⟩
 match ws,h with
 | [.d (.int i)],h=>
  cases h
  refine ij.imp ?_
  rintro vs H Q ⟨φ,S,⟨v,r,rfl,r1,rfl⟩,q⟩
  exact .inl ⟨i,by rw [show v=.int i from r1],q _ H (aM.refl H) rfl⟩
 | [.d (.bl i)],h=>
  cases h
  refine ij.imp ?_
  rintro vs H Q ⟨φ,S,⟨v,r,rfl,r1,rfl⟩,q⟩
  exact .inr ⟨i,by rw [show v=.bl i from r1],q _ H (aM.refl H) rfl⟩
theorem jM (hc:X.calm=true:=by rfl) (hK:X.K=K:=by rfl):dI K X (.builtin "all") jl:=by
 subst hK
 refine⟨λst ws d h=>?_⟩
 match ws,h with
 | [.d (.lst ds)],h=>
  obtain⟨ns,e,rfl⟩:=Option.map_eq_some_iff.mp h
  cases fL e
  refine (rq (K:=X.K) hc rfl).imp ?_
  rintro vs H Q ⟨φ,S,⟨v,r,rfl,⟨a,us,rfl,h0,h1,h2⟩,rfl⟩,q⟩
  cases h2.bools
  exact⟨a,ns,rfl,.inl h1,q _ H (aM.refl H) rfl⟩
theorem jV (hK:X.K=K:=by rfl):dI K X (.type "tuple") j6:=by
 subst hK
 refine⟨λst ws d h=>?_⟩
 match ws,h with
 | [w],h=>
  obtain⟨ds,e,rfl⟩:=Option.map_eq_some_iff.mp h
  refine gU.imp ?_
  rintro vs H Q ⟨φ,S,⟨v,r,rfl,r1,rfl⟩,q⟩
  obtain⟨a,us,rfl,h1,h2⟩:=jt S r1 e
  refine⟨a,us,rfl,?_⟩
  rcases h1 with h1 | h1
  ·exact .inl ⟨h1,λl hl=>q _ _ (aM.new hl _) ⟨l,us,rfl,aW,h2.fw S (Fw.new hl)⟩⟩
  ·exact .inr ⟨SqT.of h1,q _ H (aM.refl H) ⟨a,us,rfl,h1,h2⟩⟩
theorem dh {t c:String}{b:Bool} (ht:t = "NoneType"\/t = "bool"\/t = "int"\/t = "str"\/t = "tuple"\/t = "list"\/t = "dict") (h:ql t c=some b):PySem.W.kitOne K (.type t) (.type c)=some b:=by
 unfold ql at h
 split at h
 ·rename_i hc
  subst hc
  rcases ht with rfl | rfl | rfl | rfl | rfl | rfl | rfl<;>(cases h;rfl)
 ·split at h
  ·rename_i _ hc
   rcases hc with rfl | rfl | rfl | rfl<;>rcases ht with rfl | rfl | rfl | rfl | rfl | rfl | rfl<;>(cases h;rfl)
  ·cases h
theorem fE (hK:X.K=K:=by rfl):dI K X (.builtin "isinstance") eE:=by
 subst hK
 refine⟨λst ws d h=>?_⟩
 match ws,h with
 | [w,.d (.ty c)],h=>
  simp only [eE,Option.bind_eq_some_iff,Option.map_eq_some_iff] at h
  obtain⟨t,ht,b,hb,rfl⟩:=h
  intro pins s σ H xs us Q I rv q
  obtain⟨φ,S,⟨v,r,rfl,r1,u,r',rfl,r2,rfl⟩,q⟩:=q
  cases (show u=.ty c from r2)
  obtain⟨vv,uu,rfl,rv1,rv2⟩:=rv.two
  cases rv2
  have fin:∀ tk,EP X pins σ Q (.bool b) { s with toks:=tk }:=λtk=>⟨.bl b,H,I.tok tk,rfl,q _ H (aM.refl H) rfl⟩
  cases w with
  | h n=>
   obtain⟨a,ea,rfl⟩:=r1
   obtain⟨ds,eds,rfl⟩:=Option.map_eq_some_iff.mp ht
   obtain⟨vs,hv,_⟩:=S.atl n a ds ea eds
   exact bI I rv1 (.lst hv) (dh (by simp) hb) fin
  | d x=>
   cases x with
   | non=>cases ht;cases r1;exact bI I rv1 .non (dh (by simp) hb) fin
   | bl x=>cases ht;cases r1;exact bI I rv1 (.bl x) (dh (by simp) hb) fin
   | int x=>cases ht;cases r1;exact bI I rv1 (.int x) (dh (by simp) hb) fin
   | str x=>cases ht;cases r1;exact bI I rv1 (.str x) (dh (by simp) hb) fin
   | lst ds=>
    cases ht
    obtain⟨a,vs,rfl,h0,h1,h2⟩:=r1
    rcases h1 with h1 | ⟨o,h1⟩
    ·exact bI I rv1 (.lst h1) (dh (by simp) hb) fin
    ·exact bI I rv1 (.frz h1) (dh (by simp) hb) fin
   | tup ds=>
    cases ht
    obtain⟨a,vs,rfl,h1,h2⟩:=r1
    cases rv1
    obtain⟨its,_,p,_⟩:=I.tuple (SqT.of h1)
    obtain⟨o,e1,e2,_⟩:=p
    exact PySem.W.kia_one PySem.W.kitx_tuple I.kIn ⟨o,e1,e2⟩ (dh (by simp) hb) (λz=>nomatch z) fin
   | dct=>
    cases ht
    obtain⟨a,rfl,_,h1⟩:=r1
    rcases h1 with⟨d,h1⟩ | ⟨d,h1⟩
    ·exact bI I rv1 (.dK h1) (dh (by simp) hb) fin
    ·exact bI I rv1 (.dT h1) (dh (by simp) hb) fin
   | ty x=>cases ht
   | scr x=>cases ht
variable {e a b:Expr}{es:List Expr}{pos:Pos}{f fa fb:Ef}{af:Af}
theorem hW {x:Str}{c:String} (hg:Gl X x) (hm:X.mg x=none) (hv:bootBuiltins x=some (.type c)) (hn:x≠"__name__":=by decide) (hd:(x==("__debug__" : Str))=false:=by decide):IE K X (.Name x pos) (iC (.ty c)):=
 lX (v:=.ty c) (ko hg hm hv rfl hn hd) λ_ _=>rfl
theorem rh:IE K X (.Dict [] [] pos) (iC .dct):=by
 refine⟨λenv st r hr=>?_⟩
 cases hr
 refine so.imp ?_
 rintro σ H Q ⟨φ,hE,hS,q⟩
 exact λp hp=>q _ _ φ (Fw.new hp) (hS.new hp) ⟨p,rfl,hS.nin hp,.inr ⟨_,aW⟩⟩
noncomputable def ig (g:List D->List W->Option (D×List D)) (o:Ef) (a:Af):Ef
 | env,st=>(o env st).bind λx=>(a env x.2).bind λr=>match x.1 with
 | .h n=>(lg x.2 n).bind λ_=>(lg r.2 n).bind λds=>(g ds r.1).map λy=>(.d y.1,r.2.set n (.l y.2))
 | _=>none
noncomputable def d0 (ds:List D):List W->Option (D×List D)
 | [.d x]=>if ds.length < 1000000 then some (.non,ds++[x]) else none
 | _=>none
theorem pd {name:Str}{id:String}{apos:Pos}{rr:V->List V->Hp->VK->Prop}{g:List D->List W->Option (D×List D)} (slot:Slot "list" name id) (hty:typeOf (.builtin id)=pure (.type "method_descriptor")) (hm:MtR X id rr)
  (hg:∀ (H:Hp) (φ:List Addr) (st:Sto) (n:Nat) (ad:Addr) (ds:List D) (vs:List V) (ws:List W) (us:List V) (y:D×List D) (Q:VK),Sr K H φ st->φ[n]?=some ad->lg st n=some ds->H ad=some (.lst vs)->Rls K H φ ds vs->Rws K H φ ws us->g ds ws=some y->
    (∀ v vs',Rl K H φ y.1 v->Rls K H φ y.2 vs'->(∀ b,v≠.ref b)->Q v (upd H ad (.lst vs')))->rr (.ref ad) us H Q)
  (hfl:∀ ds ws y,g ds ws=some y->cf y.1=true)
  (ho:IE K X a fa) (ha:IA K X (e::es) af) (hbase:attributeBase a name X.env (eval a X.env)=eval a X.env:=by rfl)
  (hall:(e::es).all ar=true:=by rfl) (hfl30:(e::es).length < 30:=by decide) (hline:(apos.endLine==pos.line)=true:=by rfl) (hK:X.K=K:=by rfl) :
  IE K X (.Call (.Attribute a name apos) (e::es) [] pos) (ig g fa af):=by
 subst hK
 have hall2:ar e=true/\es.all ar=true:=by rw [List.all_cons,Bool.and_eq_true] at hall;exact hall
 refine⟨λenv st r hr=>?_⟩
 simp only [ig,Option.bind_eq_some_iff] at hr
 obtain⟨⟨x,s1⟩,hx,⟨ws,s2⟩,hw,hr⟩:=hr
 cases x with
 | d x=>cases hr
 | h n=>
  simp only [Option.bind_eq_some_iff,Option.map_eq_some_iff] at hr
  obtain⟨ds1,hds1,ds,hds,y,hy,rfl⟩:=hr
  refine (lK PySem.F.plainAttrs_list slot hty hm (ho.run _ _ _ hx) (ha.run _ _ _ hw) hbase (eR hall hfl30) hline (aT hall2.1) (bt hall2.2)).imp ?_
  rintro σ H Q ⟨φ,hE,hS,q⟩
  refine⟨φ,hE,hS,λv H1 φ1 f1 S1 w1=>?_⟩
  obtain⟨ad,ea,rfl⟩:=w1
  obtain⟨vs1,hv1,_⟩:=S1.atl n ad _ ea hds1
  refine⟨.inl ⟨rfl,vs1,SqL.of hv1⟩,φ1,hE.fw hS f1,S1,λus H2 φ2 f2 S2 w2=>?_⟩
  have ea2:=f2.get ea
  obtain⟨vs2,hv2,rl2⟩:=S2.atl n ad ds ea2 hds
  refine hg H2 φ2 s2 n ad ds vs2 ws us y _ S2 ea2 hds hv2 rl2 w2 hy λv vs' r1 r2 hb=>?_
  obtain⟨f3,S3⟩:=S2.put ea2 r2
  exact q v _ φ2 ((f1.trans f2).trans f3) S3 (r1.fw S2 f3)
theorem ln {apos:Pos} (ho:IE K X a fa) (ha:IA K X (e::es) af) (hbase:attributeBase a "append" X.env (eval a X.env)=eval a X.env:=by rfl)
  (hall:(e::es).all ar=true:=by rfl) (hfl30:(e::es).length < 30:=by decide) (hline:(apos.endLine==pos.line)=true:=by rfl) (hK:X.K=K:=by rfl) :
  IE K X (.Call (.Attribute a "append" apos) (e::es) [] pos) (ig d0 fa af):=by
 refine pd PySem.F.slot_list_append PySem.F.type_list_append kU (λH φ st n ad ds vs ws us y Q S ea eds hv rl rw hy q=>?_) (λds ws y h=>?_) ho ha hbase hall hfl30 hline hK
 ·match ws,hy with
  | [.d x],hy=>
   simp only [d0] at hy
   split at hy
   ·rename_i hl
    cases hy
    obtain⟨v,r,rfl,r1,rfl⟩:=rw
    exact⟨ad,vs,v,rfl,rfl,hv,by rw [<-rl.length];exact Nat.lt_of_lt_of_le hl mil,q _ _ rfl (rl.append ⟨v,[],rfl,r1,rfl⟩) (λb z=>nomatch z)⟩
   ·cases hy
 ·match ws,h with
  | [.d x],h=>
   simp only [d0] at h
   split at h
   ·cases h;rfl
   ·cases h
end
end L2
namespace L2
open PySem PySem.Spec PyProof.Rows
section
variable {K:PySem.W.Frag}{X:Cx}{e a b:Expr}{es:List Expr}{pos:Pos}{f fa fb:Ef}{af:Af}
theorem oA {i j:Nat}{x y:Str}{px py pt:Pos}{kt k2 pt2}
  (h:∀ ta,PA X [a,b] ta->PS X (.Assign [.Tuple [.Name x px,.Name y py] kt pt] (.Tuple [a,b] k2 pt2) pos) (rP i j ta)) (ha:IA K X [a,b] af) :
  IS K X (.Assign [.Tuple [.Name x px,.Name y py] kt pt] (.Tuple [a,b] k2 pt2) pos) (mn i j af):=by
 refine⟨λenv st r hr=>?_⟩
 simp only [mn,Option.bind_eq_some_iff] at hr
 obtain⟨⟨ws,s1⟩,hy,hr⟩:=hr
 match ws,hr with
 | [x,y],hr=>
  cases hr
  refine (h _ (ha.run _ _ _ hy)).imp ?_
  rintro D σ H ⟨φ,hE,hS,q⟩
  refine⟨φ,hE,hS,λvs H1 φ1 f1 s1 w1=>?_⟩
  obtain⟨v,r,rfl,r1,u,r',rfl,r2,r3⟩:=w1
  cases r3
  exact⟨v,u,rfl,q _ H1 φ1 f1 (((hE.fw hS f1).set i r1).set j r2) s1⟩
noncomputable def iQ (ds:List D) (o:Obj):Bool:=(o.cls==.type "tuple" && o.dict.isNone) && (ds.all cf && match o.data with
 | .seq its _=>decide (its.size<=1000) && its.toList.map mK==(ds.map vOf).map some
 | _=>false)
theorem ma {v:Value}{x:V} (h:mK v=some x):aB x v:=by
 cases v<;>first | (cases h;exact rfl) | (cases h;exact⟨_,rfl⟩) | cases h
theorem i9:∀ {xs:List V}{us:List Value},us.map mK=xs.map some->aD xs us
 | [],[],_=>.nil
 | [],_::_,h=>nomatch h
 | _::_,[],h=>nomatch h
 | n::ns,u::us,h=>by
  rw [List.map_cons,List.map_cons] at h
  injection h with h1 h2
  exact .cons (ma h1) (i9 h2)
theorem fM {H:Hp}{φ:List Addr}:∀ {ds:List D},ds.all cf=true->Rls K H φ ds (ds.map vOf)
 | [],_=>rfl
 | d::ds,h=>by
  rw [List.all_cons,Bool.and_eq_true] at h
  refine⟨_,_,rfl,?_,fM h.2⟩
  cases d<;>first | exact rfl | cases h.1
theorem nt {H:Hp}{ad:Addr}{ns:List Int}{m:Fn} (hO:nA H) (hS:SqL K H ad (ns.map V.int)) (h:∃ st,m [.d (.scr ns)] []=some (.d (.bl true),st)):spI K m [.ref ad] H (λv _=>v=.bl true) λ_ _ _=>False:=by
 obtain⟨st,h⟩:=h
 refine⟨[],[],[.d (.scr ns)],_,h,⟨_,[],rfl,⟨ad,rfl,?_⟩,rfl⟩,⟨List.nodup_nil,rfl,λn a ds e=>by simp at e⟩,λv H' φ' _ _ r=>r⟩
 rcases hS with (h | h) | h
 ·rcases hO ad with z | ⟨o,xs,z⟩
  ·rw [h] at z;cases z
  ·rw [h] at z;cases z
 ·exact .inl h
 ·exact .inr h
end
end L2
namespace L2
open PySem
theorem gm {g:Tg}{body:Sf}:∀ {ds:List D} (Pv:Nat->Ev->Sto->Prop) {env:Ev}{st:Sto},Pv 0 env st->
  (∀ i d env st,ds[i]?=some d->Pv i env st->∃ e1 e2 s2,dq g (.d d) env=some e1/\(body e1 st=some (.nx e2 s2)\/body e1 st=some (.ct e2 s2))/\Pv (i+1) e2 s2)->
  ∃ env' st',dJ g body ds env st=some (.nx env' st')/\Pv ds.length env' st'
 | [],Pv,env,st,h0,_=>⟨env,st,rfl,h0⟩
 | d::ds,Pv,env,st,h0,hs=>by
  obtain⟨e1,e2,s2,h1,h2,h3⟩:=hs 0 d env st rfl h0
  obtain⟨e',s',h4,h5⟩:=gm (g:=g) (body:=body) (ds:=ds) (λi=>Pv (i+1)) h3 λi d' env' st' hd p=>hs (i+1) d' env' st' (by simpa using hd) p
  refine⟨e',s',?_,h5⟩
  unfold dJ
  rw [h1,Option.bind_some]
  rcases h2 with h2 | h2<;>(rw [h2,Option.bind_some];exact h4)
theorem ge {g:Tg}{tt:Tf}{te:Ef}{env:Ev}:∀ {ds:List D} (Pv:Nat->List D->Sto->Prop) {st:Sto}{ys0:List D},Pv 0 ys0 st->
  (∀ i d ys st,ds[i]?=some d->Pv i ys st->∃ e1,dq g (.d d) env=some e1/\((∃ s1 x s2,tt e1 st=some (true,s1)/\te e1 s1=some (.d x,s2)/\Pv (i+1) (ys++[x]) s2)\/∃ s1,tt e1 st=some (false,s1)/\Pv (i+1) ys s1))->
  ∃ ys st',lcI g tt te env ds st=some (ys,st')/\Pv ds.length (ys0++ys) st'
 | [],Pv,st,ys0,h0,_=>⟨[],st,rfl,by rw [List.append_nil];exact h0⟩
 | d::ds,Pv,st,ys0,h0,hs=>by
  obtain⟨e1,h1,h2⟩:=hs 0 d ys0 st rfl h0
  rcases h2 with⟨s1,x,s2,h2,h3,h4⟩ | ⟨s1,h2,h4⟩
  ·obtain⟨ys,s',h5,h6⟩:=ge (g:=g) (tt:=tt) (te:=te) (env:=env) (ds:=ds) (λi=>Pv (i+1)) h4 λi d' ys' st' hd p=>hs (i+1) d' ys' st' (by simpa using hd) p
   refine⟨x::ys,s',?_,by simpa using h6⟩
   unfold lcI
   rw [h1,Option.bind_some,h2,Option.bind_some,if_pos rfl,h3,Option.bind_some,h5]
   rfl
  ·obtain⟨ys,s',h5,h6⟩:=ge (g:=g) (tt:=tt) (te:=te) (env:=env) (ds:=ds) (λi=>Pv (i+1)) h4 λi d' ys' st' hd p=>hs (i+1) d' ys' st' (by simpa using hd) p
   refine⟨ys,s',?_,by simpa using h6⟩
   unfold lcI
   rw [h1,Option.bind_some,h2,Option.bind_some,if_neg Bool.false_ne_true,h5]
theorem jD {g:Tg}{tt:Tf}{te:Ef}{env:Ev}{st:Sto} (p:D->Bool) (F:D->D):∀ {ds:List D},(∀ d ∈ ds,∃ e1,dq g (.d d) env=some e1/\tt e1 st=some (p d,st)/\(p d=true->te e1 st=some (.d (F d),st)))->
  lcI g tt te env ds st=some ((ds.filter p).map F,st)
 | [],_=>rfl
 | d::ds,h=>by
  obtain⟨e1,h1,h2,h3⟩:=h d List.mem_cons_self
  have ih:=jD (g:=g) (tt:=tt) (te:=te) (env:=env) (st:=st) p F (ds:=ds) λx hx=>h x (List.mem_cons_of_mem _ hx)
  unfold lcI
  rw [h1,Option.bind_some,h2,Option.bind_some]
  cases hp:p d with
  | true=>rw [if_pos rfl,h3 hp,Option.bind_some,ih,List.filter_cons,hp];rfl
  | false=>rw [if_neg Bool.false_ne_true,ih,List.filter_cons,hp];rfl
theorem iO {g:Tg}{te:Ef}{env:Ev}{st:Sto} (F:D->D) {ds:List D} (h:∀ d ∈ ds,∃ e1,dq g (.d d) env=some e1/\te e1 st=some (.d (F d),st)):lcI g cq te env ds st=some (ds.map F,st):=by
 have:=jD (g:=g) (tt:=cq) (te:=te) (env:=env) (st:=st) (λ_=>true) F (ds:=ds) λd hd=>by
  obtain⟨e1,h1,h2⟩:=h d hd
  exact⟨e1,h1,rfl,λ_=>h2⟩
 rw [this,List.filter_eq_self.mpr λ_ _=>rfl]
noncomputable def cX (st:Sto) (n:Nat):Prop:=∃ x y z:Int,0<=x/\st[n]?=some (.l [.int x,.int y,.int z])
noncomputable def Stp (n:Nat) (st st':Sto):Prop:=(∃ v,st'=st.set n v)/\cX st' n
theorem cX.lt {st:Sto}{n:Nat} (h:cX st n):n < st.length:=by
 obtain⟨x,y,z,_,e⟩:=h
 exact (List.getElem?_eq_some_iff.mp e).1
theorem Stp.refl {st:Sto}{n:Nat} (h:cX st n):Stp n st st:=by
 obtain⟨x,y,z,h0,e⟩:=id h
 exact⟨⟨_,(List.set_getElem_self (h.lt)).symm⟩,h⟩
theorem Stp.trans {n:Nat}{a b c:Sto} (h:Stp n a b) (h':Stp n b c):Stp n a c:=by
 obtain⟨⟨v,rfl⟩,_⟩:=h
 obtain⟨⟨u,rfl⟩,q⟩:=h'
 exact⟨⟨u,by rw [List.set_set]⟩,q⟩
theorem Stp.hand {n:Nat}{a b:Sto} (h:Stp n a b):cX b n:=h.2
theorem iB {a b:Int} (h:-(2 ^ 64) < a/\a < 2 ^ 64):PySem.IntMulOk a b:=n4.ok (.inl h)
theorem iT {a b:Int} (h:-(2 ^ 64) < b/\b < 2 ^ 64):PySem.IntMulOk a b:=n4.ok (.inr h)
theorem ip {st:Sto}{n:Nat}{v:C} (h:n < st.length):(st.set n v)[n]?=some v:=List.getElem?_set_self h
theorem rJ {α:Type} (a:α) (l:List α):atI (a::l) 0=some a:=d2 (j:=0) rfl
theorem sP {α:Type} (a b:α) (l:List α):atI (a::b::l) 1=some b:=d2 (j:=1) rfl
theorem sJ {α:Type} (a b c:α) (l:List α):atI (a::b::c::l) 2=some c:=d2 (j:=2) rfl
theorem sh (n:Nat):ixN (n+1) 0=some 0:=i4 (j:=0) (by lia)
theorem sN (n:Nat):ixN (n+2) 1=some 1:=i4 (j:=1) (by lia)
theorem sR (n:Nat):ixN (n+3) 2=some 2:=i4 (j:=2) (by lia)
end L2
namespace L2
open PySem
end L2
namespace L2
open PySem PySem.Spec PyProof.Rows
section
variable {prog:Program}{w:World}{A:Around}{E:Value->Shared->Prop}{s:Shared}{κ:SortKind}{O:KeyOrd}{rk:Keyed->O.α}{S:Keyed->Prop}
variable {a0:Array Keyed}{lo:Nat}{p0:Array (Nat×Nat×Nat)}{g0:Nat}{st:SortSt}
end
end L2
namespace L2
open PySem PySem.Spec PyProof.Rows
section
variable {prog:Program}{w:World}{A:Around}{E:Value->Shared->Prop}{s:Shared}{κ:SortKind}{O:KeyOrd}{rk:Keyed->O.α}{S:Keyed->Prop}
variable {a0:Array Keyed}{lo:Nat}{p0:Array (Nat×Nat×Nat)}{g0:Nat}{st:SortSt}
end
end L2
namespace L2
open PySem PySem.Spec PyProof.Rows
section
variable {prog:Program}{w:World}{A:Around}{E:Value->Shared->Prop}{s:Shared}{κ:SortKind}{O:KeyOrd}{rk:Keyed->O.α}{S:Keyed->Prop}
variable {a0:Array Keyed}{lo:Nat}{p0:Array (Nat×Nat×Nat)}{g0:Nat}{st:SortSt}
end
end L2
namespace L2
open PySem PySem.Spec PyProof.Rows
section
variable {O:KeyOrd}{rk:Keyed->O.α}
variable {a b out:Array Keyed}{ia ib:Nat}
variable {na nb:Nat}
end
end L2
namespace L2
open PySem PySem.Spec PyProof.Rows
section
variable {prog:Program}{w:World}{A:Around}{E:Value->Shared->Prop}{s:Shared}{κ:SortKind}{O:KeyOrd}{rk:Keyed->O.α}{S:Keyed->Prop}{st:SortSt}{a b:Array Keyed}
end
end L2
namespace L2
open PySem PySem.Spec PyProof.Rows
section
variable {prog:Program}{w:World}{A:Around}{E:Value->Shared->Prop}{s:Shared}{κ:SortKind}{O:KeyOrd}{rk:Keyed->O.α}{S:Keyed->Prop}{st:SortSt}{a b out:Array Keyed}{na nb:Nat}
end
end L2
namespace L2
open PySem PySem.Spec PyProof.Rows
section
variable {prog:Program}{w:World}{A:Around}{E:Value->Shared->Prop}{s:Shared}{κ:SortKind}{O:KeyOrd}{rk:Keyed->O.α}{S:Keyed->Prop}{st:SortSt}{arr:Array Keyed}{n1 n2:Nat}
end
end L2
namespace L2
open PySem PySem.Spec PyProof.Rows
section
variable {prog:Program}{w:World}{A:Around}{E:Value->Shared->Prop}{s:Shared}{κ:SortKind}{O:KeyOrd}{rk:Keyed->O.α}{S:Keyed->Prop}{st:SortSt}{a0:Array Keyed}
end
end L2
namespace L2
open PySem PySem.Spec PyProof.Rows PySem.SeqAt
open MeetsSeq MeetsSeq2 MeetsSeq3 SeqRoads2
open AutoSeq1 (wpAny_loadPart')
section
variable {A:Around}{s:Shared}{p q:Addr}{us vs:Array Value}{e l:Nat->Bool}
end
end L2
namespace L2
open PySem PySem.Spec PyProof.Rows PySem.SeqAt PySem.W
section
variable {prog:Program}{w:World}{A:Around}{E:Value->Shared->Prop}{s:Shared}{x y:Value}{l m:List Int}
end
end L2
namespace L2
open PySem PySem.Spec PyProof.Rows PySem.SeqAt PySem.W
section
variable {prog:Program}{w:World}{A:Around}{E:Value->Shared->Prop}{s:Shared}{O:KeyOrd}{rk:Keyed->O.α}{S:Keyed->Prop}{vs:List Value}
end
end L2
namespace L2
open PySem PySem.Spec PyProof.Rows PySem.SeqAt PySem.W
section
variable {prog:Program}{w:World}{A:Around}{E:Value->Shared->Prop}{s:Shared}
end
end L2
namespace L2
open PySem PySem.Spec PyProof.Rows PySem.SeqAt PySem.W
section
variable {K:PySem.W.Frag}{X:Cx}{pins:List (Addr×Obj)}{σ:St}{H:Hp}{s:Shared}{φ:List Addr}
end
end L2
namespace L2
open PySem PySem.Spec PyProof.Rows
open PySem.AutoSeq1 (wpAny_loadPart')
section
variable {prog:Program}{w:World}{A:Around}{E:Value->Shared->Prop}{s:Shared}{k k2:Bool}
variable {z TI TO i1 i2 l1 l2:Addr}{n:Nat}{xs ys:Array Value}{a b:Value}
end
end L2
namespace L2
open PySem PySem.Spec PyProof.Rows
open PySem.AutoSeq1 (wpAny_loadPart')
section
variable {prog:Program}{w:World}{A:Around}{E:Value->Shared->Prop}{s:Shared}{k k2:Bool}
end
section
variable {K:PySem.W.Frag}{X:Cx}{a b:Expr}{pos:Pos}{af:Af}
end
end L2
namespace L2
open PySem PySem.Spec PyProof.Rows
section
variable {prog:Program}{w:World}{A:Around}{s:Shared}{I l S:Addr}{items:Array Value}{ns:List Int}{kw:List (Str×Value)}{R:Result->Shared->Prop}
variable {E:Value->Shared->Prop}
end
end L2
namespace L2
open PySem PySem.Spec PyProof.Rows
section
variable {K:PySem.W.Frag}{X:Cx}{e a b:Expr}{es:List Expr}{pos:Pos}{f fa fb:Ef}{af:Af}
end
end L2
namespace L2
open PySem PySem.Spec PyProof.Rows
section
variable {K:PySem.W.Frag}{X:Cx}
end
end L2
namespace L2
open PySem PySem.Spec PyProof.Rows
section
variable {K:PySem.W.Frag}{X:Cx}{pos:Pos}{a b:Expr}{af:Af}
end
end L2
namespace L2
open PySem PySem.Spec PyProof.Rows
section
variable {K:PySem.W.Frag}{X:Cx}{pos:Pos}{e a b c:Expr}{es:List Expr}{f fa fb:Ef}{af:Af}
end
end L2
namespace L2
open PySem PySem.Spec PyProof.Rows
open Classical in
noncomputable def lcH (n:Nat) (all:List D) (g:Tg) (tt:Tf) (te:Ef) (env:Ev):List D->Sto->Option (List D×Sto)
 | [],st=>if lg st n=some all then some ([],st) else none
 | d::ds,st=>if lg st n=some all then ((dq g (.d d) env).bind λe=>(tt e st).bind λb=>if b.1=true then (te e b.2).bind λx=>(gO [x.1]).bind λys=>(lcH n all g tt te env ds x.2).map λr=>(ys++r.1,r.2)
   else lcH n all g tt te env ds b.2) else none
section
variable {K:PySem.W.Frag}{X:Cx}{pos:Pos}{tg:Expr}
end
end L2
namespace L2
open PySem PySem.Spec PyProof.Rows
noncomputable def aw (c:Nat):Str:=⟨#[c]⟩
noncomputable def pA (x:Str):List D:=x.cps.toList.map λc=>D.str (aw c)
noncomputable def asc (x:Str):Bool:=x.cps.all λc=>decide (c < 128)
noncomputable def Its (x:Str):It where
 go i _:=i < x.cps.size
 yld i H v H':=H'=H/\∃ c,x.cps[i]?=some c/\v=.str (aw c)
 stop i _:=x.cps.size<=i
theorem mx {P:Program}{w:World}{K:PySem.W.Frag}{tg:Expr} (x:Str) (t:Tok) (it:Addr):mL P w K tg (Its x) [it] it (λi h=>h.IsStrIter it "str_ascii_iterator" x t i) where
 mem:=by simp
 obj:=λi h st b hb=>by
  have e:b=it:=by simpa using hb
  subst e
  obtain⟨o,e,c,d⟩:=st
  exact⟨o,e,λv z=>by rw [d] at z;cases z⟩
 keep:=λi h h' st k=>by
  obtain⟨o,e,c,d⟩:=st
  exact⟨o,k it (by simp) o e,c,d⟩
 item:=by
  intro X hP hw hK hc i pins s σ H E I hf st hg
  subst hP hw hK
  obtain⟨f0,f1,f2,f3,f4,f5⟩:=hf it (by simp)
  have hx:x.cps[i]?=some x.cps[i]:=Array.getElem?_eq_getElem hg
  refine wpAny_pyNext_ascii_item st hx λh' st' sb=>?_
  have I1:Inv X pins σ H { s with heap:=h',toks:=s.toks+1 }:=I.turned (λb o hb e=>(sb.2 b hb).trans e) f0 f1 f3 f4 f5
  obtain⟨o,e,c,d⟩:=id st'
  exact⟨_,rfl,kR (s:={ s with heap:=h',toks:=s.toks+1 }) e c d (by decide) ⟨.str (aw x.cps[i]),H,I1,⟨_,rfl⟩,⟨rfl,_,hx,rfl⟩,st',λb hb=>(hf b hb).1⟩⟩
 done:=by
  intro X hP hw hK hc i pins s σ H E I hf st hg
  subst hP hw hK
  obtain⟨f0,f1,f2,f3,f4,f5⟩:=hf it (by simp)
  exact wpAny_pyNext_ascii_end (I.ok.hd hc) st (Array.getElem?_eq_none hg) λh' eb=>⟨rfl,I.turned (t':=s.toks) (λb o hb e=>eb b o hb e) f0 f1 f3 f4 f5⟩
 self:=λ_ _ _ _ _ st h=>wpAny_pyIter_striter_ascii st h
section
variable {K:PySem.W.Frag}{X:Cx}{pos:Pos}{tg e:Expr}{f:Ef}
noncomputable def tu (tl:TE):TI:=λσ H R=>tl σ H λv H1=>∃ x,v=.str x/\asc x=true/\R (Its x) H1
theorem qx {l:Expr}{tl:TE} (hl:PE X l tl):PI X tg l (tu tl):=by
 intro pins s σ H R I h
 refine thn (hl pins s σ H _ I h) λv s1 ⟨x,H1,I1,r1,q1⟩=>?_
 obtain⟨x,rfl,ha,q⟩:=q1
 obtain⟨t,rfl⟩:=r1
 refine wpAny_pyIter_ascii ha ?_
 refine⟨s1.heap.objs.size,[s1.heap.objs.size],_,_,H1,rfl,I1.kept (t':=s1.toks) λb o e=>Heap.get?_push_of_some _ e,mx x t _,⟨_,Heap.get?_push_size _ rfl,rfl,rfl⟩,λb hb=>?_,q⟩
 have e:b=s1.heap.objs.size:=by simpa using hb
 subst e
 exact I1.fpOk (Nat.le_refl _) (I1.hok.fresh (Nat.le_refl _))
noncomputable def cC (f:Ef):Lf
 | env,st=>(f env st).bind λr=>match r.1 with
 | .d (.str x)=>if asc x then some (pA x,r.2) else none
 | _=>none
theorem iY (h:IE K X e f):II K X tg e (cC f):=by
 refine⟨λenv st r hr=>?_⟩
 simp only [cC,Option.bind_eq_some_iff] at hr
 obtain⟨⟨w,s1⟩,hy,hr⟩:=hr
 match w,hr with
 | .d (.str x),hr=>
  dsimp only at hr
  by_cases ha:asc x=true
  case neg=>rw [if_neg ha] at hr;cases hr
  rw [if_pos ha] at hr
  cases hr
  refine (qx (h.run _ _ _ hy)).imp ?_
  rintro σ H R ⟨φ,hE,hS,q⟩
  refine⟨φ,hE,hS,λv H1 φ1 f1 s1 w1=>?_⟩
  have w1:v=.str x:=w1
  subst w1
  refine⟨x,rfl,ha,q _ H1 φ1 f1 s1 λH2 φ2 st2 i f2 s2=>?_⟩
  refine⟨λd hd=>?_,λhi=>?_⟩
  ·unfold pA at hd
   rw [List.getElem?_map,Option.map_eq_some_iff] at hd
   obtain⟨c,hc,rfl⟩:=hd
   have hc':x.cps[i]?=some c:=by simpa using hc
   refine⟨(Array.getElem?_eq_some_iff.mp hc').1,λy H' ⟨e,c2,h2,e2⟩=>?_⟩
   subst e
   rw [hc'] at h2
   cases h2
   subst e2
   exact⟨aM.refl _,rfl⟩
  ·unfold pA at hi
   rw [List.length_map,Array.length_toList] at hi
   exact Nat.le_of_eq hi
end
end L2
namespace L2
open PySem PySem.Spec PyProof.Rows
section
variable {K:PySem.W.Frag}{X:Cx}{pos:Pos}{a e:Expr}{fa:Ef}{af:Af}
noncomputable def gA:List D->Option (List Str)
 | []=>some []
 | .str x::ds=>(gA ds).map (x::·)
 | _::_=>none
noncomputable def jz (o:Ef) (a:Af):Ef
 | env,st=>(o env st).bind λx=>(a env x.2).bind λr=>match x.1,r.1 with
 | .d (.str s),[.d (.lst ds)]=>(gA ds).bind λxs=>if JoinOk s xs=true then some (.d (.str (PySem.Txt.join s xs)),r.2) else none
 | _,_=>none
theorem fI:∀ {ds:List D}{xs:List Str}{vs:List V}{φ:List Addr}{H:Hp},gA ds=some xs->Rls K H φ ds vs->vs=xs.map V.str
 | [],xs,vs,φ,H,h,r=>by
  cases h
  exact r
 | d::ds,xs,vs,φ,H,h,r=>by
  obtain⟨v,vr,rfl,r1,r2⟩:=r
  cases d with
  | str x=>
   obtain⟨ys,hy,rfl⟩:=Option.map_eq_some_iff.mp h
   have:=fI hy r2
   subst this
   have r1:v=.str x:=r1
   subst r1
   rfl
  | _=>cases h
theorem ik:∀ {xs:List Str}{its:List Value},aD (xs.map V.str) its->∃ l:List (Str×Tok),its=strValues l/\l.map (·.1)=xs
 | [],its,r=>by
  cases r
  exact⟨[],rfl,rfl⟩
 | x::xs,its,r=>by
  cases r with
  | cons r1 r2=>
   obtain⟨t,rfl⟩:=r1
   obtain⟨l,rfl,rfl⟩:=ik r2
   exact⟨(x,t)::l,rfl,rfl⟩
noncomputable def rZ (X:Cx):V->List V->Hp->VK->Prop:=λx xs H Q=>∃ s p ts,x=.str s/\xs=[.ref p]/\SqL X.K H p (ts.map V.str)/\JoinOk s ts=true/\Q (.str (PySem.Txt.join s ts)) H
theorem ot:MtR X "str.join" (rZ X):=by
 intro pins s σ H x xs v us Q I rx rv h
 obtain⟨z,p,ts,rfl,rfl,hq,hj,q⟩:=h
 obtain⟨t,rfl⟩:=rx
 obtain⟨u,rfl,ru⟩:=rv.one
 cases ru
 obtain⟨its,r,pl,hz⟩:=I.list hq
 obtain⟨l,rfl,rfl⟩:=ik r
 exact SC.join pl.isList rfl hj λt' k=>⟨.str _,H,I.tok k,⟨_,rfl⟩,q⟩
theorem nV {apos:Pos} (ho:IE K X a fa) (ha:IA K X [e] af) (hbase:attributeBase a "join" X.env (eval a X.env)=eval a X.env:=by rfl)
  (hall:[e].all ar=true:=by rfl) (hline:(apos.endLine==pos.line)=true:=by rfl) (hK:X.K=K:=by rfl) :
  IE K X (.Call (.Attribute a "join" apos) [e] [] pos) (jz fa af):=by
 subst hK
 have hall2:ar e=true:=by rw [List.all_cons,Bool.and_eq_true] at hall;exact hall.1
 refine⟨λenv st r hr'=>?_⟩
 simp only [jz,Option.bind_eq_some_iff] at hr'
 obtain⟨⟨x,s1⟩,hx,⟨ws,s2⟩,hw,hr'⟩:=hr'
 match x,ws,hr' with
 | .d (.str z),[.d (.lst ds)],hr'=>
  simp only [Option.bind_eq_some_iff] at hr'
  obtain⟨ts,hts,hr'⟩:=hr'
  by_cases hj:JoinOk z ts=true
  case neg=>rw [if_neg hj] at hr';cases hr'
  rw [if_pos hj] at hr'
  cases hr'
  refine (lK PySem.F.plainAttrs_str PySem.F.slot_str_join PySem.F.type_str_join ot (ho.run _ _ _ hx) (ha.run _ _ _ hw) hbase (eR hall (by show 1 < 30;decide)) hline (aT hall2) (bt rfl)).imp ?_
  rintro σ H Q ⟨φ,hE,hS,q⟩
  refine⟨φ,hE,hS,λv H1 φ1 f1 S1 w1=>?_⟩
  have w1:v=.str z:=w1
  subst w1
  refine⟨rfl,φ1,hE.fw hS f1,S1,λus H2 φ2 f2 S2 w2=>?_⟩
  obtain⟨y,us',rfl,ry,rfl⟩:=w2
  obtain⟨p,vs,rfl,h0,hq,hrl⟩:=ry
  have:=fI hts hrl
  subst this
  exact⟨z,p,ts,rfl,rfl,.inl hq,hj,q _ H2 φ2 (f1.trans f2) S2 rfl⟩
end
end L2
namespace L2
open PySem PySem.Spec PyProof.Rows
section
variable {κ:Type} [DecidableEq κ]
end
section
variable {P:Program}{w:World}{H:Hp}{h:Heap}{a:Addr}
end
section
variable {X:Cx}{pins:List (Addr×Obj)}{σ:St}{H:Hp}{s:Shared}{a:Addr}{y v:V}{u r:Value}{o:Option V}{A:Around}{E:Value->Shared->Prop}
end
section
variable {X:Cx}{pins:List (Addr×Obj)}{σ:St}{H:Hp}{s:Shared}{a:Addr}{kvs:List (Key×V)}{k:Key}{u:Value}{A:Around}{E:Value->Shared->Prop}
end
noncomputable def sj (i:Expr):Prop:=∀ ov iv,subscripted i false ov iv=operate [ov,iv] (getItem ov iv)
theorem og {prog:Program}{w:World}{A:Around}{E:Value->Shared->Prop}{s:Shared}{env:Env}{value slice:Expr}{pos:Pos}{T id:String}{Q:Value->Shared->Prop}
  (hl:typeLookup (.type T) "__getitem__" = pure (some (.builtin id))) (hs:sj slice)
  (h:wpAny (model prog w) A (eval value env) (λo s₁=>wpAny (model prog w) A (eval slice env) (λi s₂=>s₂.TypeIs o T/\wpAny (model prog w) A (getItem o i) Q E s₂) E s₁) E s) :
  wpAny (model prog w) A (eval (.Subscript value slice pos) env) Q E s:=by
 refine Subscript_ (wpAny_mono h (λo s₁ h₁=>wpAny_mono h₁ (λi s₂ h₂=>?_) λ_ _ x=>x) λ_ _ x=>x)
 obtain⟨hT,h₂⟩:=h₂
 unfold subscriptTail
 refine wpAny_bind ?_
 rw [getitemInPython_of_ne hT.not_modules]
 refine wpAny_bind (wpAny_specialOf hT hl ?_)
 have fin:wpAny (model prog w) A (subscripted slice false o i) (λr s₃=>wpAny (model prog w) A (letTemporaryGo value o r >>= λ_=>pure r) Q E s₃) E s₂:=by
  rw [hs o i]
  exact wpAny_operating (wpAny_mono h₂ (λr s₃ h₃=>wpAny_bind (wpAny_letTemporaryGo (wpAny_pure h₃))) λ_ _ x=>x)
 first
  | exact wpAny_pure (wpAny_bind fin)
  | exact wpAny_bind (wpAny_pure (wpAny_bind fin))
  | exact wpAny_bind fin
section
variable {X:Cx}{o i e value:Expr}{pos pos' tpos:Pos}{td ty tv:TE}
end
section
variable {X:Cx}{pos:Pos}
end
section
variable {X:Cx}{pins:List (Addr×Obj)}{σ:St}{H:Hp}{s:Shared}{a:Addr}{y d:V}{u r:Value}{o:Option V}{A:Around}{E:Value->Shared->Prop}
end
section
variable {X:Cx}{o e f:Expr}{apos cpos:Pos}{td ty tx:TE}
end
section
variable {X:Cx}{pins:List (Addr×Obj)}{σ:St}{H:Hp}{s:Shared}{a:Addr}{kvs:List (Key×V)}{A:Around}{E:Value->Shared->Prop}
end
section
variable {X:Cx}{pins:List (Addr×Obj)}{σ:St}{H:Hp}{s:Shared}{a:Addr}{y:V}{u:Value}{A:Around}{E:Value->Shared->Prop}
end
end L2
namespace L2
open PySem PySem.Spec PyProof.Rows
section
variable {prog:Program}{w:World}{A:Around}{E:Value->Shared->Prop}{s:Shared}{κ:Type} [DecidableEq κ] {knd:KeyKind prog w κ}{a:Addr}{kvs:List (κ×Value)}
end
section
variable {X:Cx}{pins:List (Addr×Obj)}{σ:St}{H:Hp}{s:Shared}{a:Addr}{kvs:List (Key×V)}{k:Key}{u r:Value}{A:Around}{E:Value->Shared->Prop}{z:V}
end
section
variable {K:PySem.W.Frag}{X:Cx}{pos:Pos}{e a b o f:Expr}{fe fa fb fo ff:Ef}
end
section
variable {K:PySem.W.Frag}{X:Cx}
end
end L2
namespace L2
open PySem PySem.Spec PyProof.Rows
section
variable {K:PySem.W.Frag}{X:Cx}
theorem jT:cp X (.builtin "repr") (λxs H Q=>∃ x,xs=[.str x]/\(reprText x).length<=sizeLine/\Q (.str (reprText x)) H):=by
 intro pins s σ H xs us Q I rv h
 obtain⟨x,rfl,hz,q⟩:=h
 obtain⟨u,rfl,t,rfl⟩:=fF rv
 exact call_repr_gives (typeIs_str s x t) PySem.F.slot_str_repr PySem.F.entry_str_repr (PySem.F.args_str_repr_1 _) (gives_str_repr x t) ⟨.str _,H,I.tok _,⟨_,rfl⟩,q⟩ rfl hz
end
end L2
namespace L2
open PySem PySem.Spec PyProof.Rows
noncomputable def atS (x:Str):List (Str×D)->Option D
 | []=>none
 | (k,d)::r=>if k=x then some d else atS x r
noncomputable def ir:D->Option V
 | .non=>some .non
 | .bl b=>some (.bl b)
 | .int i=>some (.int i)
 | .str x=>some (.str x)
 | _=>none
theorem ky {K:PySem.W.Frag}{H:Hp}{φ:List Addr}:∀ {d:D}{v:V},ir d=some v->Rl K H φ d v
 | .non,_,h=>by cases h;rfl
 | .bl _,_,h=>by cases h;rfl
 | .int _,_,h=>by cases h;rfl
 | .str _,_,h=>by cases h;rfl
 | .ty _,_,h=>nomatch h
 | .dct,_,h=>nomatch h
 | .scr _,_,h=>nomatch h
 | .tup _,_,h=>nomatch h
 | .lst _,_,h=>nomatch h
inductive KPs:List (Str×D)->List (Key×Value)->Prop
 | nil:KPs [] []
 | cons {x:Str}{d:D}{v:V}{u:Value}{r:List (Str×D)}{vs:List (Key×Value)} (h:ir d=some v) (e:aB v u) (t:KPs r vs):KPs ((x,d)::r) ((.inr x,u)::vs)
theorem KPs.some {x:Str}{d:D}:∀ {kvs:List (Str×D)}{vs:List (Key×Value)},KPs kvs vs->atS x kvs=some d->∃ v u,ir d=some v/\aB v u/\valueAt vs (.inr x)=some u
 | _,_,.nil,h=>nomatch h
 | (k,d')::r,_,.cons (u:=u) hv e t,h=>by
  unfold atS at h
  by_cases hk:k=x
  ·subst hk
   rw [if_pos rfl] at h
   cases h
   exact⟨_,u,hv,e,by simp [valueAt]⟩
  ·rw [if_neg hk] at h
   obtain⟨v,u,h1,h2,h3⟩:=KPs.some t h
   refine⟨v,u,h1,h2,?_⟩
   rw [<-h3]
   have:¬ (Sum.inr k:Key)=Sum.inr x:=λq=>hk (Sum.inr.inj q)
   simp [valueAt,List.find?_cons,this]
theorem KPs.none {x:Str}:∀ {kvs:List (Str×D)}{vs:List (Key×Value)},KPs kvs vs->atS x kvs=none->valueAt vs (.inr x)=none
 | _,_,.nil,h=>rfl
 | (k,d')::r,_,.cons (u:=u) hv e t,h=>by
  unfold atS at h
  by_cases hk:k=x
  ·rw [if_pos hk] at h
   cases h
  ·rw [if_neg hk] at h
   rw [<-KPs.none t h]
   have:¬ (Sum.inr k:Key)=Sum.inr x:=λq=>hk (Sum.inr.inj q)
   simp [valueAt,List.find?_cons,this]
theorem KPs.isSome {x:Str}{kvs:List (Str×D)}{vs:List (Key×Value)} (h:KPs kvs vs):(valueAt vs (.inr x)).isSome=(atS x kvs).isSome:=by
 cases e:atS x kvs with
 | none=>rw [h.none e];rfl
 | some d=>
  obtain⟨v,u,_,_,h3⟩:=h.some e
  rw [h3];rfl
noncomputable def KDc (K:PySem.W.Frag) (P:Program) (w:World) (p:Addr) (kvs:List (Str×D)):Prop:=(p==sysModules)=false/\∃ o vs,K.lookup p=some o/\Obj.IsDictOf (bo P w) o vs/\KPs kvs vs
section
variable {K:PySem.W.Frag}{X:Cx}{pins:List (Addr×Obj)}{σ:St}{H:Hp}{s:Shared}{p:Addr}{kvs:List (Str×D)}
theorem KDc.at (h:KDc X.K X.prog X.w p kvs) (I:Inv X pins σ H s):∃ vs,s.heap.DictOf (bo X.prog X.w) p vs/\KPs kvs vs:=by
 obtain⟨_,o,vs,hk,⟨es,ep,hd⟩,kp⟩:=h
 exact⟨vs,⟨o,es,ep,I.kIn p o hk,hd⟩,kp⟩
variable {pos p1:Pos}{a:Expr}{fa:Ef}{x:Str}
noncomputable def mo (kvs:List (Str×D)) (f:Ef):Ef
 | env,st=>(f env st).bind λr=>match r.1 with
 | .d (.str x)=>(atS x kvs).map λd=>(.d d,r.2)
 | _=>none
noncomputable def gK (k:Bool) (kvs:List (Str×D)) (f:Ef):Tf
 | env,st=>(f env st).bind λr=>match r.1 with
 | .d (.str x)=>some (k != (atS x kvs).isSome,r.2)
 | _=>none
noncomputable def sX (td ty:TE) (X:Cx) (p:Addr) (kvs:List (Str×D)):TE:=λσ H Q=>td σ H λx H1=>ty σ H1 λy H2=>∃ z d v,x=.ref p/\y=.str z/\KDc X.K X.prog X.w p kvs/\atS z kvs=some d/\ir d=some v/\Q v H2
theorem qD {o i:Expr}{td ty:TE} (ho:PE X o td) (hi:PE X i ty) (hs:sj i):PE X (.Subscript o i pos) (sX td ty X p kvs):=by
 intro pins s σ H Q I h
 refine og PySem.F.slot_dict_getitem.lookup hs (thn (ho pins s σ H _ I h) λu s1 ⟨x,H1,I1,rx,q1⟩=>thn (hi pins s1 σ H1 _ I1 q1) λiv s2 ⟨y,H2,I2,ry,z,d,v,ex,ey,g,hz,hv,q2⟩=>?_)
 subst ex;subst ey
 obtain rfl:u=Value.ref p:=rx
 obtain⟨t,rfl⟩:=ry
 obtain⟨vs,dd,kp⟩:=g.at I2
 obtain⟨v',u',h1,h2,h3⟩:=kp.some hz
 rw [hv] at h1
 cases h1
 exact⟨dd.typeIs,wpAny_getItem_of (bw _ _ z t) dd.mapOf h3 ⟨v,H2,I2.tok _,h2,q2⟩⟩
noncomputable def sk (X:Cx) (p:Addr) (kvs:List (Str×D)) (k:Bool):R2:=λx y H Q=>∃ z,x=.str z/\y=.ref p/\KDc X.K X.prog X.w p kvs/\Q (.bl (k != (atS z kvs).isSome)) H
theorem iq:OpR X (compareOp .NotIn) (sk X p kvs true):=by
 intro pins s σ H x y v u Q I rx ry h
 obtain⟨z,rfl,rfl,g,q⟩:=h
 obtain⟨t,rfl⟩:=rx
 cases ry
 obtain⟨vs,dd,kp⟩:=g.at I
 refine wpAny_notIn_of (bw _ _ z t) g.1 dd.mapOf ?_
 refine⟨.bl _,H,I.tok _,?_,q⟩
 show Value.bool _=Value.bool _
 rw [kp.isSome,Bool.true_bne]
theorem qi (hg:Gl X x) (hm:X.mg x=some (.ref p)) (g:KDc X.K X.prog X.w p kvs) (ha:IE K X a fa) (hb:gE a=true:=by rfl) (hd:(x==("__debug__" : Str))=false:=by decide):IE K X (.Subscript (.Name x p1) a pos) (mo kvs fa):=by
 refine⟨λenv st r hr=>?_⟩
 simp only [mo,Option.bind_eq_some_iff] at hr
 obtain⟨⟨w,s1⟩,hx,hr⟩:=hr
 match w,hr with
 | .d (.str z),hr=>
  obtain⟨d,hz,rfl⟩:=Option.map_eq_some_iff.mp hr
  have hv:∃ v,ir d=some v:=by
   obtain⟨_,o,vs,_,_,kp⟩:=g
   obtain⟨v,u,h1,_⟩:=kp.some hz
   exact⟨v,h1⟩
  obtain⟨v,hv⟩:=hv
  refine (qD (p:=p) (kvs:=kvs) (d3 (v:=.ref p) hg hm rfl hd) (ha.run _ _ _ hx) (jA hb)).imp ?_
  rintro σ H Q ⟨φ,hE,hS,q⟩
  refine⟨φ,hE,hS,λy H1 φ1 f1 S1 w1=>?_⟩
  exact⟨z,d,v,rfl,w1,g,hz,hv,q _ H1 φ1 f1 S1 (ky hv)⟩
theorem jP {k:Bool}{op:CmpOp} (ho:OpR X (compareOp op) (sk X p kvs k)) (hg:Gl X x) (hm:X.mg x=some (.ref p)) (g:KDc X.K X.prog X.w p kvs) (ha:IE K X a fa) (hd:(x==("__debug__" : Str))=false:=by decide) (hb:behindInMarks op (.Name x p1)=false:=by rfl) :
  IT K X (.Compare a [op] [.Name x p1] pos) (gK k kvs fa):=by
 refine⟨λenv st r hr=>?_⟩
 simp only [gK,Option.bind_eq_some_iff] at hr
 obtain⟨⟨w,s1⟩,hx,hr⟩:=hr
 match w,hr with
 | .d (.str z),hr=>
  cases hr
  refine (iJ ho (ha.run _ _ _ hx) (d3 (v:=.ref p) hg hm rfl hd) hb).imp ?_
  rintro σ H Q ⟨φ,hE,hS,q⟩
  refine⟨φ,hE,hS,λy H1 φ1 f1 S1 w1=>?_⟩
  have w1:y=.str z:=w1
  subst w1
  exact⟨z,rfl,rfl,g,_,rfl,q H1 φ1 f1 S1⟩
end
end L2
namespace L2
open PySem PySem.Spec PyProof.Rows
section
variable {X:Cx}{e:Expr}{ty:TE}{p1 p2 p3 p4 p5 dpos apos cpos:Pos}{j1 j2 j3 j4 j5:Nat}
end
section
variable {K:PySem.W.Frag}{X:Cx}{e:Expr}{f:Ef}{pos p1:Pos}{x:Str}{p:Addr}{ds:List D}{s:Stmt}
noncomputable def KTp (K:PySem.W.Frag) (p:Addr) (ds:List D):Prop:=ds.all cf=true/\∀ H,SqT K H p (ds.map vOf)
theorem qj {o:Obj} (l:K.lookup p=some o) (h:iQ ds o=true):KTp K p ds:=by
 unfold iQ at h
 rw [Bool.and_eq_true,Bool.and_eq_true,Bool.and_eq_true] at h
 obtain⟨⟨h1,h0⟩,h2,h3⟩:=h
 refine⟨h2,λH=>?_⟩
 cases e:o.data with
 | seq its n=>
  rw [e] at h3
  have h3':(decide (its.size<=1000) && its.toList.map mK==(ds.map vOf).map some)=true:=h3
  rw [Bool.and_eq_true] at h3'
  exact .inr ⟨o,its,n,l,eq_of_beq h1,e,i0 (of_decide_eq_true h3'.1),i9 (eq_of_beq h3'.2),Option.isNone_iff_eq_none.mp h0⟩
 | _=>rw [e] at h3;cases h3
noncomputable def gr (k:Bool) (ds:List D) (f:Ef):Tf
 | env,st=>(f env st).bind λr=>match r.1 with
 | .d x=>if cf x=true then some (k != inD x ds,r.2) else none
 | _=>none
theorem o7 {k:Bool}{op:CmpOp} (ho:OpR X (compareOp op) (rIn X.K k)) (hg:Gl X x) (hm:X.mg x=some (.ref p)) (g:KTp K p ds) (ha:IE K X e f) (hd:(x==("__debug__" : Str))=false:=by decide) (hb:behindInMarks op (.Name x p1)=false:=by rfl) (hK:X.K=K:=by rfl) :
  IT K X (.Compare e [op] [.Name x p1] pos) (gr k ds f):=by
 subst hK
 refine⟨λenv st r hr=>?_⟩
 simp only [gr,Option.bind_eq_some_iff] at hr
 obtain⟨⟨w,s1⟩,hx,hr⟩:=hr
 match w,hr with
 | .d z,hr=>
  dsimp only at hr
  by_cases hz:cf z=true
  case neg=>rw [if_neg hz] at hr;cases hr
  rw [if_pos hz] at hr
  cases hr
  refine (iJ ho (ha.run _ _ _ hx) (d3 (v:=.ref p) hg hm rfl hd) hb).imp ?_
  rintro σ H Q ⟨φ,hE,hS,q⟩
  refine⟨φ,hE,hS,λy H1 φ1 f1 S1 w1=>?_⟩
  obtain⟨e1,e2⟩:=dy hz w1
  have e4:(ds.map vOf).all cU=true:=(gj (K:=X.K) (H:=H1) (φ:=φ1) g.1 (fM g.1)).2
  refine⟨p,ds.map vOf,rfl,.inr (g.2 H1),e2,e4,_,rfl,?_⟩
  rw [e1,iL hz g.1]
  have hb2:(if k=true then !inD z ds else inD z ds)=(k != inD z ds):=by cases k<;>cases inD z ds<;>rfl
  rw [hb2]
  exact q H1 φ1 f1 S1
noncomputable def io:Sf
 | _,_=>none
theorem d4:IS K X s io:=⟨λenv st r hr=>by cases hr⟩
end
end L2
namespace L2
open PySem PySem.Spec PyProof.Rows
inductive EPs (w:World):List DictEntry->List (Str×D)->List (Key×Value)->Prop
 | nil:EPs w [] [] []
 | cons {x:Str}{t:Tok}{d:D}{v:V}{u:Value}{es:List DictEntry}{kvs:List (Str×D)}{vs:List (Key×Value)} (h:ir d=some v) (r:aB v u) (q:EPs w es kvs vs) :
   EPs w (⟨PyData.keyHash w.params x,.str x t,u⟩::es) ((x,d)::kvs) ((.inr x,u)::vs)
theorem EPs.kps {w:World}:∀ {es:List DictEntry}{kvs:List (Str×D)}{vs:List (Key×Value)},EPs w es kvs vs->KPs kvs vs
 | _,_,_,.nil=>.nil
 | _,_,_,.cons h r q=>.cons h r q.kps
theorem EPs.keys {P:Program}{w:World}:∀ {es:List DictEntry}{kvs:List (Str×D)}{vs:List (Key×Value)},EPs w es kvs vs->(∀ e ∈ es,∃ k,(bo P w).is k e.key=true/\e.hash=(bo P w).hash k)/\Pairs (bo P w) es vs/\vs.map (·.1)=kvs.map λkv=>Sum.inr kv.1
 | _,_,_,.nil=>⟨λe he=>(nomatch he),.nil,rfl⟩
 | _,_,_,.cons (x:=x) (t:=t) h r q=>by
  obtain⟨h1,h2,h3⟩:=q.keys (P:=P)
  refine⟨λe he=>?_,.cons (bw P w x t) rfl h2,by rw [List.map_cons,List.map_cons,h3]⟩
  rcases List.mem_cons.mp he with rfl | he
  ·exact⟨.inr x,bw P w x t,rfl⟩
  ·exact h1 e he
theorem kdc_mk {P:Program}{w:World}{es:List DictEntry}{ep:Nat}{kvs:List (Str×D)}{vs:List (Key×Value)} (h:EPs w es kvs vs) (hn:(kvs.map (·.1)).Nodup) :
  ∃ vs,Obj.IsDictOf (bo P w) { cls:=.type "dict",data:=.dict es.toArray ep } vs/\KPs kvs vs:=by
 obtain⟨h1,h2,h3⟩:=h.keys (P:=P)
 refine⟨vs,⟨es.toArray,ep,⟨rfl,rfl,rfl⟩,rfl,λe he=>h1 e (by simpa using he),h2,?_⟩,h.kps⟩
 rw [h3]
 have:(kvs.map λkv=>(Sum.inr kv.1:Key))=(kvs.map (·.1)).map Sum.inr:=by rw [List.map_map];rfl
 rw [this]
 rw [List.nodup_iff_pairwise_ne,List.pairwise_map]
 exact (List.nodup_iff_pairwise_ne.mp hn).imp λh e=>h (Sum.inr.inj e)
end L2
namespace L2
open PySem PySem.Spec PyProof.Rows
section
variable {b:Bool}{t:SetTable}{m d k:Nat}
end
end L2
namespace L2
open PySem PySem.Spec PyProof.Rows
section
variable {prog:Program}{w:World}{A:Around}{E:Value->Shared->Prop}{s:Shared}{a:Addr}{m d k:Nat}
end
end L2
namespace L2
open PySem PySem.Spec PyProof.Rows
section
variable {prog:Program}{w:World}{A:Around}{E:Value->Shared->Prop}{s:Shared}{a it:Addr}{m d ep i:Nat}{f:Nat->Tok}
end
end L2
namespace L2
open PySem PySem.Spec PyProof.Rows
section
variable {prog:Program}{w:World}{A:Around}{E:Value->Shared->Prop}{s:Shared}{a it:Addr}{m d ep i:Nat}{f:Nat->Tok}
end
end L2
namespace L2
open PySem PySem.Spec PyProof.Rows
section
variable {prog:Program}{w:World}{A:Around}{E:Value->Shared->Prop}{s:Shared}
end
section
variable {prog:Program}{w:World}{A:Around}{R:Result->Shared->Prop}{I:Addr}{fp wr:List Addr}{G:Array GenState->Array GenState->Prop}{P:Nat->Value->Prop}{St:Nat->Shared->Prop}
end
section
variable {prog:Program}{w:World}{A:Around}{E:Value->Shared->Prop}{s:Shared}
end
end L2
namespace L2
open PySem PySem.Spec PyProof.Rows
section
variable {prog:Program}{w:World}{A:Around}{E:Value->Shared->Prop}{s:Shared}{a r o:Addr}{m m1 m2 d k ep:Nat}{f:Nat->Tok}
end
end L2
namespace L2
open PySem PySem.Spec PyProof.Rows
section
variable {prog:Program}{w:World}{A:Around}{E:Value->Shared->Prop}{s:Shared}{a b r o:Addr}{m m1 m2 d k ep:Nat}{f:Nat->Tok}
end
end L2
namespace L2
open PySem PySem.Spec PyProof.Rows
section
variable {prog:Program}{w:World}{A:Around}{E:Value->Shared->Prop}{s:Shared}{a b r o:Addr}{m m1 m2 d k ep:Nat}{f:Nat->Tok}
end
end L2
namespace L2
open PySem PySem.Spec PyProof.Rows
section
variable {prog:Program}{w:World}{A:Around}{E:Value->Shared->Prop}{s:Shared}{a:Addr}{m d ep:Nat}{f:Nat->Tok}
end
section
variable {K:PySem.W.Frag}{X:Cx}{pos p:Pos}{e a b:Expr}{fe:Ef}{fa fb:Xf}
end
end L2
namespace L2
open PySem PySem.Spec PyProof.Rows
section
variable {prog:Program}{w:World}{A:Around}{E:Value->Shared->Prop}{s:Shared}{d it:Addr}{es:Array DictEntry}{i ep:Nat}
end
end L2
namespace L2
open PySem PySem.Spec PyProof.Rows
section
variable {prog:Program}{w:World}{A:Around}{E:Value->Shared->Prop}{s:Shared}{d:Addr}{es:Array DictEntry}{ep:Nat}
end
section
variable {K:PySem.W.Frag}{X:Cx}{pos:Pos}{e a b o f:Expr}{fe fa fb fo ff:Ef}
end
end L2
namespace L2
open PySem PySem.Spec PyProof.Rows
mutual
noncomputable def toP:D->PyData
 | .non=>.none
 | .bl b=>.bool b
 | .int i=>.int i
 | .str x=>.str x
 | .tup ds=>.tuple (d9 ds)
 | .lst ds=>.list (d9 ds)
 | _=>.none
noncomputable def d9:List D->List PyData
 | []=>[]
 | d::ds=>toP d::d9 ds
end
mutual
noncomputable def rpD:D->Bool
 | .non=>true
 | .bl _=>true
 | .int i=>decide (i.natAbs.log2 < 1920)
 | .str _=>true
 | .tup ds=>fq ds
 | .lst ds=>fq ds
 | _=>false
noncomputable def fq:List D->Bool
 | []=>true
 | d::ds=>rpD d && fq ds
end
mutual
noncomputable def wtD:D->Nat
 | .non=>10
 | .bl _=>10
 | .int _=>2000
 | .str x=>(reprText x).length
 | .tup ds=>gX ds+5
 | .lst ds=>gX ds+5
 | _=>0
noncomputable def gX:List D->Nat
 | []=>0
 | d::ds=>wtD d+2+gX ds
end
mutual
noncomputable def dpD:D->Nat
 | .tup ds=>gZ ds+1
 | .lst ds=>gZ ds+1
 | _=>1
noncomputable def gZ:List D->Nat
 | []=>0
 | d::ds=>max (dpD d) (gZ ds)
end
noncomputable def fA (st:Sto):List W->Option D
 | [w]=>match w with
  | .d d=>if rpD d=true/\wtD d<=16000000/\dpD d<=50 then some (.str (toP d).shown) else none
  | .h _=>none
 | _=>none
theorem fN:∀ (ts:List Str) (k:Nat) (acc:Str),(textFrom k acc ts).length<=acc.length+piled ts
 | [],k,acc=>by show acc.length<=_;lia
 | t::r,k,acc=>by
  have h:=fN r (k+1) (acc++(if k > 0 then ", " else "" : String)++t)
  have e:(acc++(if k > 0 then ", " else "" : String)++t).length<=acc.length+2+t.length:=by
   rw [strLen_append,strLen_append]
   have:((if k > 0 then ", " else "" : String):Str).length<=2:=by split<;>decide
   lia
  rw [piled_cons]
  show (textFrom (k+1) _ r).length<=_
  lia
theorem mU (ts:List Str):(tupleText ts).length<=piled ts+3:=by
 have hz:(Str.join ", " ts).length<=piled ts:=by
  cases ts with
  | nil=>exact Nat.zero_le _
  | cons x r=>
   have:=join_length_add (x::r) (by simp)
   lia
 unfold tupleText
 rw [strLen_append,strLen_append]
 have h2:((if ts.length==1 then ",)" else ")" : String):Str).length<=2:=by split<;>decide
 have h1:((("(" : String):Str)).length=1:=rfl
 lia
theorem oy (ts:List Str):(listText ts).length<=piled ts+2:=by
 have h:=fN ts 0 "["
 unfold listText
 rw [strLen_append]
 have h1:((("[" : String):Str)).length=1:=rfl
 have h2:((("]" : String):Str)).length=1:=rfl
 lia
mutual
theorem jw:∀ d:D,rpD d=true->(toP d).shown.length<=wtD d
 | .non,_=>by rw [toP,wtD];decide
 | .bl b,_=>by rw [toP,wtD];cases b<;>decide
 | .int i,h=>by
  rw [rpD,decide_eq_true_eq] at h
  rw [toP,wtD,PyData.shown]
  have:=int_text_length_le (k:=1920) (by decide) h
  rw [PySem.ofString_length]
  lia
 | .str x,_=>by rw [toP,wtD,PyData.shown];exact Nat.le_refl _
 | .tup ds,h=>by
  rw [rpD] at h
  rw [toP,wtD,PyData.shown]
  have:=ft ds h
  have:=mU (PyData.shownAll (d9 ds))
  lia
 | .lst ds,h=>by
  rw [rpD] at h
  rw [toP,wtD,PyData.shown]
  have:=ft ds h
  have:=oy (PyData.shownAll (d9 ds))
  lia
 | .ty _,h=>by simp [rpD] at h
 | .dct,h=>by simp [rpD] at h
 | .scr _,h=>by simp [rpD] at h
theorem ft:∀ ds:List D,fq ds=true->piled (PyData.shownAll (d9 ds))<=gX ds
 | [],_=>by rw [d9,gX,PyData.shownAll];exact Nat.le_refl _
 | d::ds,h=>by
  rw [fq,Bool.and_eq_true] at h
  rw [d9,gX,PyData.shownAll,piled_cons]
  have:=jw d h.1
  have:=ft ds h.2
  lia
end
mutual
theorem km:∀ d:D,rpD d=true->(toP d).showable=true/\(toP d).hasDict=false/\(toP d).depth<=dpD d
 | .non,_=>⟨rfl,rfl,by decide⟩
 | .bl b,_=>⟨rfl,rfl,by rw [toP,PyData.depth];exact Nat.zero_le _⟩
 | .int i,h=>by
  rw [rpD] at h
  rw [toP]
  exact⟨h,rfl,by rw [PyData.depth];exact Nat.zero_le _⟩
 | .str x,_=>⟨rfl,rfl,by rw [toP,PyData.depth];exact Nat.zero_le _⟩
 | .tup ds,h=>by
  rw [rpD] at h
  rw [toP,dpD,PyData.showable,PyData.hasDict,PyData.depth]
  obtain⟨a,b,c⟩:=gp ds h
  exact⟨a,b,by lia⟩
 | .lst ds,h=>by
  rw [rpD] at h
  rw [toP,dpD,PyData.showable,PyData.hasDict,PyData.depth]
  obtain⟨a,b,c⟩:=gp ds h
  exact⟨a,b,by lia⟩
 | .ty _,h=>by simp [rpD] at h
 | .dct,h=>by simp [rpD] at h
 | .scr _,h=>by simp [rpD] at h
theorem gp:∀ ds:List D,fq ds=true->PyData.showableAll (d9 ds)=true/\PyData.hasDictAll (d9 ds)=false/\PyData.depthAll (d9 ds)<=gZ ds
 | [],_=>by rw [d9,gZ];exact⟨rfl,rfl,by simp [PyData.depthAll]⟩
 | d::ds,h=>by
  rw [fq,Bool.and_eq_true] at h
  obtain⟨a,b,c⟩:=km d h.1
  obtain⟨a',b',c'⟩:=gp ds h.2
  rw [d9,gZ,PyData.showableAll,PyData.hasDictAll,PyData.depthAll,a,b,a',b']
  exact⟨rfl,rfl,by lia⟩
end
section
variable {K:PySem.W.Frag}{X:Cx}{pins:List (Addr×Obj)}{σ:St}{H:Hp}{s:Shared}{φ:List Addr}
mutual
theorem ji (I:Inv X pins σ H s):∀ (d:D) (v:V) (u:Value),rpD d=true->Rl X.K H φ d v->aB v u->∃ as,Reads s.heap u (toP d) as
 | .non,v,u,_,r,q=>by cases (show v=.non from r);cases q;exact⟨_,by rw [toP];exact .none⟩
 | .bl b,v,u,_,r,q=>by cases (show v=.bl b from r);cases q;exact⟨_,by rw [toP];exact .bool b⟩
 | .int i,v,u,_,r,q=>by cases (show v=.int i from r);obtain⟨t,rfl⟩:=q;exact⟨_,by rw [toP];exact .int i t⟩
 | .str x,v,u,_,r,q=>by cases (show v=.str x from r);obtain⟨t,rfl⟩:=q;exact⟨_,by rw [toP];exact .str x t⟩
 | .tup ds,v,u,h,r,q=>by
  rw [rpD] at h
  obtain⟨a,vs,rfl,h1,h2⟩:=r
  cases q
  obtain⟨its,rv,⟨o,ho,hc,n,hd⟩,_⟩:=I.tuple (SqT.of h1)
  obtain⟨as,ra⟩:=fC I ds vs its h h2 rv
  exact⟨as,by rw [toP];exact .tuple ho hc hd (by simpa using ra)⟩
 | .lst ds,v,u,h,r,q=>by
  rw [rpD] at h
  obtain⟨a,vs,rfl,_,h1,h2⟩:=r
  cases q
  obtain⟨its,rv,⟨o,n,ho,hc,hdd,hd⟩,_⟩:=I.list (.inl h1)
  obtain⟨as,ra⟩:=fC I ds vs its h h2 rv
  exact⟨a::as,by rw [toP];exact .list ho hc hd (by simpa using ra)⟩
 | .ty _,_,_,h,_,_=>by simp [rpD] at h
 | .dct,_,_,h,_,_=>by simp [rpD] at h
 | .scr _,_,_,h,_,_=>by simp [rpD] at h
theorem fC (I:Inv X pins σ H s):∀ (ds:List D) (vs:List V) (us:List Value),fq ds=true->Rls X.K H φ ds vs->aD vs us->∃ as,ReadsAll s.heap us (d9 ds) as
 | [],vs,us,_,r,q=>by cases r;cases q;exact⟨[],by rw [d9];exact .nil⟩
 | d::ds,vs,us,h,r,q=>by
  rw [fq,Bool.and_eq_true] at h
  obtain⟨v,r',rfl,h1,h2⟩:=r
  cases q with
  | cons q1 q2=>
   obtain⟨as,a1⟩:=ji I d v _ h.1 h1 q1
   obtain⟨bs,a2⟩:=fC I ds r' _ h.2 h2 q2
   exact⟨as++bs,by rw [d9];exact .cons a1 a2⟩
end
end
noncomputable def lT (st:Sto):List W->Option D
 | [.d (.tup ds)]=>fA st [.d (.tup ds)]
 | [.d (.lst ds)]=>fA st [.d (.lst ds)]
 | _=>none
theorem mr {K:PySem.W.Frag}{X:Cx}{k:Nat} (hr:bM k X.A) (hK:X.K=K:=by rfl):dI K X (.builtin "repr") lT:=by
 subst hK
 refine⟨λst ws d h=>?_⟩
 have key:∀ x:D,(∀ (H:Hp) (φ:List Addr) v,Rl X.K H φ x v->∃ a,v=.ref a)->fA st [.d x]=some d->cp X (.builtin "repr") (rCD X.K st [.d x] d):=by
  intro x hx h
  simp only [fA] at h
  split at h
  ·rename_i hc
   cases h
   intro pins s σ H xs us Q I rv q
   obtain⟨φ,S,⟨v,r,rfl,r1,rfl⟩,q⟩:=q
   obtain⟨u,rfl,ru⟩:=fF rv
   obtain⟨as,rd⟩:=ji I x v u hc.1 r1 ru
   obtain⟨a,rfl⟩:=hx H φ v r1
   cases ru
   obtain⟨b1,b2,b3⟩:=km x hc.1
   have hl:=jw x hc.1
   have hun:=hr.units
   refine repr_of_reads' rd b1 (PyData.noDict_hsm b2) hr.gd (by lia) (λ_ _ e=>e) (λh' u tk hk=>⟨.str _,H,I.kept (t':=tk) hk,⟨u,rfl⟩,q _ H (aM.refl H) rfl⟩) ?_
   rw [sizeLine_eq];lia
  ·cases h
 match ws,h with
 | [.d (.tup ds)],h=>exact key (.tup ds) (λH φ v ⟨a,vs,e,_⟩=>⟨a,e⟩) h
 | [.d (.lst ds)],h=>exact key (.lst ds) (λH φ v ⟨a,vs,e,_⟩=>⟨a,e⟩) h
end L2
namespace L2
open PySem PySem.Spec PyProof.Rows
section
variable {K:PySem.W.Frag}{X:Cx}
end
end L2
namespace L2
open PySem PySem.Spec PyProof.Rows
theorem mv (n:Nat) (d:Nat) (hd:d<=n) (o:Option Int):HT.sIx n d o<=n:=by
 cases o with
 | none=>exact hd
 | some i=>unfold HT.sIx;split<;>lia
noncomputable def lw (z:Str) (lo hi:Option Int):Str:=⟨((z.cps.toList.drop (HT.sIx z.length 0 lo)).take (HT.sIx z.length z.length hi - HT.sIx z.length 0 lo)).toArray⟩
theorem mI (lo hi:Option Int) (n:Nat):Builtin.Str.strSliceIndices lo hi 1 n=sliceRange ((HT.sIx n 0 lo:Nat):Int) ((HT.sIx n n hi:Nat):Int) 1:=by
 unfold Builtin.Str.strSliceIndices
 dsimp only
 simp only [show (1:Int) > 0 by decide,if_true]
 congr 1
 ·cases lo with
  | none=>simp [HT.sIx]
  | some i=>
   simp only [HT.sIx]
   by_cases h:i < 0
   ·simp only [h,if_true]<;>lia
   ·simp only [h,if_false]<;>lia
 ·cases hi with
  | none=>simp [HT.sIx]
  | some i=>
   simp only [HT.sIx]
   by_cases h:i < 0
   ·simp only [h,if_true]<;>lia
   ·simp only [h,if_false]<;>lia
theorem lC (z:Str) (lo hi:Option Int):Txt.slice z lo hi=lw z lo hi:=by
 have h1:=mv z.length 0 (Nat.zero_le _) lo
 have h2:=mv z.length z.length (Nat.le_refl _) hi
 unfold Txt.slice lw
 rw [mI,sliceRange_one]
 generalize HT.sIx z.length 0 lo=a at *
 generalize HT.sIx z.length z.length hi=b at *
 split
 ·rename_i hc
  have hl:b - a=z.length:=by simpa using hc
  have ha:a=0:=by lia
  subst ha
  have hz:z.length=z.cps.toList.length:=by simp [Str.length]
  rw [hl,hz,List.drop_zero,List.take_length]
 ·rw [pick_run]
noncomputable def sZ:V->Option Int->Option Int->Hp->VK->Prop:=λx lo hi H Q=>∃ z,x=.str z/\z.length<=sizeLine/\Q (.str (lw z lo hi)) H
section
variable {K:PySem.W.Frag}{X:Cx}{pos p2:Pos}{a e:Expr}{f fa:Ef}{af:Af}
theorem pv:SlR X sZ:=by
 intro pins s σ H x v vl vu lo hi sl Q I rx hs pl pu h
 obtain⟨z,rfl,hz,q⟩:=h
 obtain⟨t,rfl⟩:=rx
 refine⟨"str",_,PySem.F.slot_str_getitem.lookup,typeIs_str _ _ _,?_⟩
 have key:∀ (l u:Option (Int×Tok)),vl=partValue l->vu=partValue u->lo=l.map (·.1)->hi=u.map (·.1)->wpAny (model X.prog X.w) X.A (getItem (.str z t) (.ref sl)) (EP X pins σ Q) X.xe s:=by
  rintro l u rfl rfl rfl rfl
  rw [<-lC] at q
  exact wpAny_getItem_str_slice (l:=l) (u:=u) (st:=none) hs rfl (post_val_or_str ⟨Nat.le_trans (Txt.slice_le z _ _) hz,λt' k=>⟨.str _,H,I.tok k,⟨_,rfl⟩,q⟩⟩)
 cases pl with
 | none=>cases pu with
  | none=>exact key none none rfl rfl rfl rfl
  | int j u=>exact key none (some (j,u)) rfl rfl rfl rfl
 | int i t=>cases pu with
  | none=>exact key (some (i,t)) none rfl rfl rfl rfl
  | int j u=>exact key (some (i,t)) (some (j,u)) rfl rfl rfl rfl
noncomputable def jn (f:Ef) (lo hi:Pf):Ef
 | env,st=>(f env st).bind λx=>(lo env x.2).bind λl=>(hi env l.2).bind λu=>match x.1 with
 | .d (.str z)=>if z.length<=1000000 then some (.d (.str (lw z l.1 u.1)),u.2) else none
 | _=>none
theorem ke {lo hi:Option Expr}{fl fh:Pf} (h:IE K X e f) (hl:IO K X lo fl) (hh:IO K X hi fh) (hK:X.K=K:=by rfl):IE K X (.Subscript e (.Slice lo hi none p2) pos) (jn f fl fh):=by
 subst hK
 refine⟨λenv st r hr=>?_⟩
 simp only [jn,Option.bind_eq_some_iff] at hr
 obtain⟨⟨x,s1⟩,hx,l,hl',u,hu',hr⟩:=hr
 match x,hr with
 | .d (.str z),hr=>
  dsimp only at hr
  by_cases hz:z.length<=1000000
  case neg=>rw [if_neg hz] at hr;cases hr
  rw [if_pos hz] at hr
  cases hr
  refine (lG pv (h.run _ _ _ hx) (hl.run _ _ _ hl') (hh.run _ _ _ hu')).imp ?_
  rintro σ H Q ⟨φ,hE,hS,q⟩
  refine⟨φ,hE,hS,λv H1 φ1 f1 s1 w1=>⟨φ1,hE.fw hS f1,s1,λH2 φ2 f2 s2=>⟨φ2,(hE.fw hS f1).fw s1 f2,s2,λH3 φ3 f3 s3=>?_⟩⟩⟩
  exact⟨z,w1,by rw [sizeLine_eq];lia,q _ _ φ3 ((f1.trans f2).trans f3) s3 rfl⟩
noncomputable def iTm (g:Str->Str->Option D) (o:Ef) (a:Af):Ef
 | env,st=>(o env st).bind λx=>(a env x.2).bind λr=>match x.1,r.1 with
 | .d (.str s),[.d (.str t)]=>(g s t).map λd=>(.d d,r.2)
 | _,_=>none
noncomputable def rTm (g:Str->Str->Option D):V->List V->Hp->VK->Prop:=λx xs H Q=>∃ z y d v,x=.str z/\xs=[.str y]/\g z y=some d/\ir d=some v/\Q v H
theorem sE {apos:Pos}{name:Str}{id:String}{g:Str->Str->Option D} (slot:Slot "str" name id) (hty:typeOf (.builtin id)=pure (.type "method_descriptor")) (hm:MtR X id (rTm g)) (hf:∀ x y d,g x y=some d->∃ v,ir d=some v)
  (ho:IE K X a fa) (ha:IA K X [e] af) (hbase:attributeBase a name X.env (eval a X.env)=eval a X.env:=by rfl)
  (hall:[e].all ar=true:=by rfl) (hline:(apos.endLine==pos.line)=true:=by rfl) (hK:X.K=K:=by rfl) :
  IE K X (.Call (.Attribute a name apos) [e] [] pos) (iTm g fa af):=by
 subst hK
 have hall2:ar e=true:=by rw [List.all_cons,Bool.and_eq_true] at hall;exact hall.1
 refine⟨λenv st r hr'=>?_⟩
 simp only [iTm,Option.bind_eq_some_iff] at hr'
 obtain⟨⟨x,s1⟩,hx,⟨ws,s2⟩,hw,hr'⟩:=hr'
 match x,ws,hr' with
 | .d (.str z),[.d (.str y)],hr'=>
  obtain⟨d,hd,rfl⟩:=Option.map_eq_some_iff.mp hr'
  obtain⟨v,hv⟩:=hf _ _ _ hd
  refine (lK PySem.F.plainAttrs_str slot hty hm (ho.run _ _ _ hx) (ha.run _ _ _ hw) hbase (eR hall (by show 1 < 30;decide)) hline (aT hall2) (bt rfl)).imp ?_
  rintro σ H Q ⟨φ,hE,hS,q⟩
  refine⟨φ,hE,hS,λv' H1 φ1 f1 S1 w1=>?_⟩
  have w1:v'=.str z:=w1
  subst w1
  refine⟨rfl,φ1,hE.fw hS f1,S1,λus H2 φ2 f2 S2 w2=>?_⟩
  obtain⟨y',us',rfl,ry,rfl⟩:=w2
  have ry:y'=.str y:=ry
  subst ry
  exact⟨z,y,d,v,rfl,rfl,hd,hv,q _ H2 φ2 (f1.trans f2) S2 (ky hv)⟩
noncomputable def gQ (st:Sto) (ws:List W):Option D:=match ws with
 | [.d (.str x)]=>if (reprText x).length<=sizeLine then some (.str (reprText x)) else none
 | ws=>lT st ws
theorem jx {k:Nat} (hr:bM k X.A) (hK:X.K=K:=by rfl):dI K X (.builtin "repr") gQ:=by
 refine⟨λst ws d h=>?_⟩
 unfold gQ at h
 split at h
 ·rename_i x
  by_cases hl:(reprText x).length<=sizeLine
  case neg=>rw [if_neg hl] at h;cases h
  rw [if_pos hl] at h
  cases h
  refine jT.imp ?_
  rintro vs H Q ⟨φ,S,⟨v,r,rfl,r1,rfl⟩,q⟩
  exact⟨x,by rw [show v=.str x from r1],hl,q _ H (aM.refl H) rfl⟩
 ·exact (mr hr hK).run st ws d h
end
end L2
namespace L2
open PySem PySem.Spec PyProof.Rows
section
variable {K:PySem.W.Frag}{X:Cx}
noncomputable def dA (x y:Str):Option D:=if x.length<=1000000 then some (.str (Txt.stripChars x y)) else none
theorem mi:MtR X "str.strip" (rTm dA):=by
 intro pins s σ H x xs v us Q I rx rv h
 obtain⟨z,y,d,v',rfl,rfl,hd,hv,q⟩:=h
 unfold dA at hd
 split at hd
 ·rename_i hz
  cases hd
  cases hv
  obtain⟨t,rfl⟩:=rx
  obtain⟨u,rfl,ru⟩:=rv.one
  obtain⟨t2,rfl⟩:=ru
  exact SC.stripChars (λt' k=>⟨.str _,H,I.tok k,⟨_,rfl⟩,q⟩) (by rw [sizeLine_eq];lia)
 ·cases hd
theorem jG:∀ x y d,dA x y=some d->∃ v,ir d=some v:=λx y d h=>by
 unfold dA at h
 split at h
 ·cases h;exact⟨_,rfl⟩
 ·cases h
noncomputable def eW (st:Sto) (x y:W):Option D:=match x,y with
 | .d (.str a),.d (.str b)=>some (.bl (!Txt.contains b a))
 | x,y=>eI st x y
theorem lc:OpR X (compareOp .NotIn) (λx y H Q=>∃ a b,x=.str a/\y=.str b/\Q (.bl (!Txt.contains b a)) H):=by
 intro pins s σ H x y v u Q I rx ry h
 obtain⟨a,b,rfl,rfl,q⟩:=h
 obtain⟨t,rfl⟩:=rx
 obtain⟨t',rfl⟩:=ry
 exact PyProof.Rows.notIn_str ⟨.bl _,H,I,rfl,q⟩
theorem kX (hK:X.K=K:=by rfl):OpD K X (compareOp .NotIn) eW:=by
 refine⟨λst x y d h=>?_⟩
 unfold eW at h
 split at h
 ·rename_i a b
  cases h
  refine lc.imp ?_
  rintro vx vy H Q ⟨φ,S,r1,r2,q⟩
  exact⟨a,b,r1,r2,q _ H (aM.refl H) rfl⟩
 ·exact (jg hK).run st x y d h
end
theorem pU (a b:Value):merged [] [((Sum.inr "0" : Key),a),(Sum.inr "1",b)]=[((Sum.inr "0" : Key),a),(Sum.inr "1",b)]:=by
 have m12:¬ (Sum.inr ("0" : Str):Key)=Sum.inr ("1" : Str):=by decide
 simp [merged,stored,m12]
theorem sS (a b:Value) (z:Str):valueAt [((Sum.inr "0" : Key),a),(Sum.inr "1",b)] (Sum.inr z)=if z = "0" then some a else if z = "1" then some b else none:=by
 have n:∀ k:Str,(decide ((Sum.inr k:Key)=Sum.inr z))=decide (z=k):=λk=>by
  by_cases e:z=k
  ·subst e;simp
  ·have:¬ (Sum.inr k:Key)=Sum.inr z:=λq=>e (Sum.inr.inj q).symm
   simp [e,this]
 simp only [valueAt,List.find?_cons,n,List.find?_nil]
 by_cases e1:z = "0"
 ·rw [if_pos e1,decide_eq_true e1];rfl
 rw [if_neg e1,decide_eq_false e1]
 by_cases e2:z = "1"
 ·rw [if_pos e2,decide_eq_true e2];rfl
 rw [if_neg e2,decide_eq_false e2];rfl
section
variable {X:Cx}{e:Expr}{ty:TE}{p1 p2 p3 p4 dpos apos cpos:Pos}{j1 j2 j3 j4:Nat}
noncomputable def sv (ty:TE):TE:=λσ H Q=>ty σ H λy H1=>∃ z,y=.str z/\(z = "0"->Q (.int 0) H1)/\(z = "1"->Q (.int 1) H1)/\(z≠"0"->z≠"1"->Q .non H1)
set_option maxHeartbeats 2000000 in
theorem nK {D:Expr} (he:PE X e ty) (hD:D=.Dict [some (.Constant (.str "0") j1 p1),some (.Constant (.str "1") j2 p2)] [.Constant (.int 0) j3 p3,.Constant (.int 1) j4 p4] dpos:=by rfl)
  (base:attributeBase D "get" X.env (eval D X.env)=eval D X.env:=by rfl)
  (few:((backTo cpos (starEach [e] X.env)).all (λx=>!x.1) && (backToKw cpos (keywordEach [] X.env)).all (λx=>x.1.isSome)
    && decide (([e]:List Expr).length+([]:List Keyword).length+(if ([]:List Keyword).isEmpty then 0 else 1) < 30))=true:=by rfl)
  (line:(apos.endLine==cpos.line)=true:=by rfl) (trees:backTo cpos (starEach [e] X.env)=[(false,eval e X.env)]:=by rfl) :
  PE X (.Call (.Attribute D "get" apos) [e] [] cpos) (sv ty):=by
 intro pins s σ H Q I h
 refine wpAny_Call_method base few line PySem.F.plainAttrs_dict PySem.F.slot_dict_get PySem.F.type_dict_get ?_
 rw [hD]
 refine wpAny_Dict_walk (knd:=bo X.prog X.w) rfl rfl (by simp) (by simp) ?_
 refine pairTrees_cons_walk (Calls.Constant_str (wpAny_Constant_int ?_))
 refine pairTrees_cons_walk (Calls.Constant_str (wpAny_Constant_int (pairTrees_nil_walk ?_)))
 refine⟨[(.inr "0",_),(.inr "1",_)],⟨bw _ _ _ _,rfl,bw _ _ _ _,rfl,trivial⟩,Heap.DictOf.new s.heap,λh' dd hs=>?_⟩
 have hdn:(s.heap.objs.size==sysModules)=false:=beq_eq_false_iff_ne.mpr (Ne.symm (Nat.ne_of_lt I.bigG))
 have hk:∀ b o,s.heap.get? b=some o->h'.get? b=some o:=λb o q=>(hs.2 b (Nat.ne_of_lt (Heap.lt_size q))).trans (Heap.get?_push_of_some _ q)
 rw [pU] at dd
 obtain⟨ta,tb,dd⟩:∃ ta tb,h'.DictOf (bo X.prog X.w) s.heap.objs.size [((Sum.inr "0" : Key),.int 0 ta),(Sum.inr "1",.int 1 tb)]:=⟨_,_,dd⟩
 obtain⟨o,es,ep,ho,hc,hd,hr⟩:=id dd
 refine⟨dd.typeIs,λb q=>?_,?_⟩
 ·cases q
  exact⟨o,ho,hc.2.1⟩
 rw [trees]
 generalize hs2:({ s with heap:=h',toks:=_ }:Shared)=s2
 have I2:Inv X pins σ H s2:=by rw [<-hs2];exact I.kept hk
 have h2:s2.heap=h':=by rw [<-hs2]
 have I3:Inv X (pins++[(s.heap.objs.size,o)]) σ H s2:=I2.pins_of λp hp=>by
  rcases List.mem_append.mp hp with z | z
  ·exact I2.pin p (List.mem_append_right _ z)
  ·have:=List.mem_singleton.mp z
   subst this
   exact⟨by rw [h2];exact ho,I.hok.fresh (Nat.le_refl _),Nat.ne_of_gt I.lt,I.nofs (Nat.le_refl _),λv q=>by rw [hd] at q;cases q⟩
 refine Calls.callWith_builtin rfl (Calls.evalArgs_plain (Calls.spliced_cons (thn (he _ s2 σ H _ I3 h) λiv s4 ⟨y,H4,I4,ry,z,ez,q1,q2,q0⟩=>Calls.spliced_nil ?_)))
 subst ez
 obtain⟨t,rfl⟩:=ry
 have pD:=(I4.pin (s.heap.objs.size,o) (List.mem_append_right _ (List.mem_append_right _ List.mem_cons_self))).1
 have dd4:s4.heap.DictOf (bo X.prog X.w) s.heap.objs.size _:=⟨o,es,ep,pD,hc,hd,hr⟩
 have I4':Inv X pins σ H4 s4:=I4.unpinned
 refine call_meetsIn PySem.F.slot_dict_get dd4.typeIs PySem.F.entry_dict_get (PySem.F.args_dict_get_2 _ _) (meets_dict_get (bo X.prog X.w) (k:=.inr z) s.heap.objs.size (bw _ _ _ _) hdn) ⟨_,dd4.mapOf,?_⟩
 rw [sS]
 by_cases e1:z = "0"
 ·rw [if_pos e1]
  exact⟨.int 0,H4,I4'.tok _,⟨_,rfl⟩,q1 e1⟩
 rw [if_neg e1]
 by_cases e2:z = "1"
 ·rw [if_pos e2]
  exact⟨.int 1,H4,I4'.tok _,⟨_,rfl⟩,q2 e2⟩
 rw [if_neg e2]
 exact⟨.non,H4,I4'.tok _,rfl,q0 e1 e2⟩
end
section
variable {K:PySem.W.Frag}{X:Cx}{e:Expr}{f:Ef}
noncomputable def oU:W->Option D
 | .d (.str z)=>some (if z = "0" then .int 0 else if z = "1" then .int 1 else .non)
 | _=>none
noncomputable def jj (a:Ef):Ef
 | env,st=>(a env st).bind λx=>(oU x.1).map λd=>(.d d,x.2)
theorem oo {p1 p2 p3 p4 dpos apos cpos:Pos}{j1 j2 j3 j4:Nat}{D':Expr} (he:IE K X e f) (hD:D'=.Dict [some (.Constant (.str "0") j1 p1),some (.Constant (.str "1") j2 p2)] [.Constant (.int 0) j3 p3,.Constant (.int 1) j4 p4] dpos:=by rfl)
  (base:attributeBase D' "get" X.env (eval D' X.env)=eval D' X.env:=by rfl)
  (hs:ar e=true:=by rfl) (line:(apos.endLine==cpos.line)=true:=by rfl):IE K X (.Call (.Attribute D' "get" apos) [e] [] cpos) (jj f):=by
 refine⟨λenv st r hr=>?_⟩
 simp only [jj,Option.bind_eq_some_iff,Option.map_eq_some_iff] at hr
 obtain⟨⟨x,s1⟩,hx,d,hd,rfl⟩:=hr
 refine (nK (he.run _ _ _ hx) hD base (eR (es:=[e]) (by simp [hs]) (by simp)) line (kf hs)).imp ?_
 rintro σ H Q ⟨φ,hE,hS,q⟩
 refine⟨φ,hE,hS,λv H1 φ1 f1 s1 w1=>?_⟩
 cases x with
 | h n=>cases hd
 | d x=>
  cases x with
  | str z=>
   cases hd
   have w1:v=.str z:=w1
   refine⟨z,w1,λez=>?_,λez=>?_,λh1 h2=>?_⟩
   ·subst ez;exact q _ H1 φ1 f1 s1 rfl
   ·subst ez;exact q _ H1 φ1 f1 s1 rfl
   ·refine q _ H1 φ1 f1 s1 ?_
    show Rl _ _ _ (if z = "0" then D.int 0 else if z = "1" then D.int 1 else D.non) _
    rw [if_neg h1,if_neg h2];rfl
  | _=>cases hd
end
end L2
namespace L2
open PySem PySem.Spec PyProof.Rows
noncomputable def ExT (N:Addr->Prop) (H:Hp) (h:Heap) (C:Value) (e:Addr):Prop:=
 N e/\H e=none/\∃ oe vs T oT ts fl,h.get? e=some oe/\oe.cls=C/\oe.data=.fields vs/\vs[1]?=some (.ref T)/\N T/\H T=none/\T≠e/\h.get? T=some oT/\oT.data=.fields ts/\ts[3]?=some fl
noncomputable def Ex (N:Addr->Prop) (H:Hp) (h:Heap) (C:Value) (e:Addr):Prop:=
 (N e/\H e=none/\∃ oe vs,h.get? e=some oe/\oe.cls=C/\oe.data=.fields vs/\vs[1]?=some .none)\/ExT N H h C e
theorem ExT.ex {N:Addr->Prop}{H:Hp}{h:Heap}{C:Value}{e:Addr} (x:ExT N H h C e):Ex N H h C e:=.inr x
theorem ExT.imp {N N':Addr->Prop}{H:Hp}{h:Heap}{C:Value}{e:Addr} (f:∀ a,N a->N' a) (x:ExT N H h C e):ExT N' H h C e:=by
 obtain⟨a,b,oe,vs,T,oT,ts,fl,h1,h2,h3,h4,h5,h6⟩:=x
 exact⟨f _ a,b,oe,vs,T,oT,ts,fl,h1,h2,h3,h4,f _ h5,h6⟩
theorem Ex.imp {N N':Addr->Prop}{H:Hp}{h:Heap}{C:Value}{e:Addr} (f:∀ a,N a->N' a) (x:Ex N H h C e):Ex N' H h C e:=by
 rcases x with⟨a,b,x⟩ | x
 ·exact .inl ⟨f _ a,b,x⟩
 ·exact .inr (x.imp f)
structure Chg (N:Addr->Prop) (H:Hp) (fs:List Addr) (h h':Heap):Prop where
 keep:∀ b o,h.get? b=some o->b ∉ fs->(N b->(∀ vs,o.data≠.fields vs)\/H b≠none)->h'.get? b=some o
 slot:∀ b o,h.get? b=some o->b ∈ fs->∃ sl,h'.get? b=some { o with slots:=sl }
 there:∀ b o,h.get? b=some o->∃ o',h'.get? b=some o'
theorem Chg.refl {N:Addr->Prop}{H:Hp}{fs:List Addr}{h:Heap}:Chg N H fs h h:=⟨λ_ _ e _ _=>e,λ_ o e _=>⟨o.slots,e⟩,λ_ o e=>⟨o,e⟩⟩
theorem Chg.trans {N:Addr->Prop}{H:Hp}{fs:List Addr}{h h1 h2:Heap} (a:Chg N H fs h h1) (b:Chg N H fs h1 h2):Chg N H fs h h2:=
 ⟨λc o e hf hn=>b.keep c o (a.keep c o e hf hn) hf hn,λc o e hf=>by
  obtain⟨sl,e1⟩:=a.slot c o e hf
  obtain⟨sl',e2⟩:=b.slot c _ e1 hf
  exact⟨sl',e2⟩,λc o e=>by
  obtain⟨o',e1⟩:=a.there c o e
  exact b.there c o' e1⟩
section
variable {M:Model}{A:Around}{E:Value->Shared->Prop}{s:Shared}{N:Addr->Prop}{H:Hp}{C:Value}{e:Addr}{fs:List Addr}
theorem d5 {fr:Option Addr}{Q:Unit->Shared->Prop} (hfs:∀ b ∈ fs,∃ o,s.heap.get? b=some o/\∀ vs,o.data≠.fields vs) (x:ExT N H s.heap C e)
  (hQ:∀ h',Chg N H fs s.heap h'->ExT N H h' C e->Q () { s with heap:=h' }):wpAny M A (setFlight (.ref e) fr) Q E s:=by
 obtain⟨nE,tE,oe,vs,T,oT,ts,fl,he,hc,hd,h1,nT,tT,hTe,hT,hdT,h3⟩:=x
 have hsz:3 < ts.size:=(Array.getElem?_eq_some_iff.mp h3).1
 unfold setFlight
 refine wpAny_bind (wpAny_field he hd h1 ?_)
 rw [if_pos (show (Value.ref T != Value.none)=true from by simp)]
 generalize (fr.elim Value.none λf=>rawInt f)=fv
 refine wpAny_setField hT hdT hsz (hQ _ ⟨λb o hb hf hn=>?_,λb o hb hf=>?_,λb o hb=>?_⟩ ?_)
 ·have:b≠T:=λz=>by
   subst z
   rw [hT] at hb;cases hb
   rcases hn nT with q | q
   ·exact q ts hdT
   ·exact q tT
  rw [Heap.get?_update_other _ _ (Ne.symm this)];exact hb
 ·have:b≠T:=λz=>by
   subst z
   obtain⟨o',e1,e2⟩:=hfs b hf
   rw [hT] at e1;cases e1
   exact e2 ts hdT
  exact⟨o.slots,by rw [Heap.get?_update_other _ _ (Ne.symm this)];exact hb⟩
 ·by_cases hbT:b=T
  ·subst hbT
   exact⟨_,Heap.get?_update_self _ hT (Obj.isFreed_of_fields (Obj.data_mapFields hdT _))⟩
  ·exact⟨o,by rw [Heap.get?_update_other _ _ (Ne.symm hbT)];exact hb⟩
 ·refine⟨nE,tE,oe,vs,T,_,_,fv,by rw [Heap.get?_update_other _ _ hTe];exact he,hc,hd,h1,nT,tT,hTe,Heap.get?_update_self _ hT (Obj.isFreed_of_fields (Obj.data_mapFields hdT _)),Obj.data_mapFields hdT _,?_⟩
  simp [hsz]
theorem iE {env:Env}{outer:List Env}{base:Heap}{L:Addr}{Q:Unit->Shared->Prop} (hfr:A.frames=some (env::outer)) (hl:s.heap.FunFrames base (env::outer)) (hf:env.frame=some L)
  (hN:∀ a,s.heap.get? a=none->N a) (hH:H s.heap.objs.size=none) (x:Ex N H s.heap C e)
  (hQ:∀ h',Chg N H (frs (env::outer)) s.heap h'->ExT N H h' C e->Q () { s with heap:=h' }):wpAny M A (noteFrame (.ref e) env) Q E s:=by
 have hfs:∀ b ∈ frs (env::outer),∃ o,s.heap.get? b=some o/\∀ vs,o.data≠.fields vs:=λb hb=>(hl.mem hb).2
 -- a new head of the trace
 have go:∀ (s1:Shared) (head:Value) (hn:Bool) (oe:Obj) (vs:Array Value),s1.heap.FunFrames base (env::outer)->s1.heap.objs.size=s.heap.objs.size->Chg N H (frs (env::outer)) s.heap s1.heap->{ s1 with heap:=s.heap }=s->N e->H e=none->
   s1.heap.get? e=some oe->oe.cls=C->oe.data=.fields vs->1 < vs.size->
   wpAny M A (do let a <-frameOf env;let pl <-entryPlaceOf L hn;let b <-EntryCells.newEntry head a .none (rawInt L) .none pl;setField (.ref e) 1 b) Q E s1:=by
  intro s1 head hn oe vs hl1 hsz0 c1 hs1 nE tE he hc hd hsz
  refine wpAny_bind (wpAny_frameOf_fun hfr hl1 hf λh₁ hs₁=>?_)
  refine wpAny_bind (wpAny_entryPlaceOf λpl hpl=>?_)
  unfold EntryCells.newEntry newFields
  refine wpAny_bind (wpAny_newObj_type ?_ (hpl.sizeOk5 _ _ _ _ _))
  have hene:e ∉ (env::outer).filterMap (·.frame):=λhm=>by
   obtain⟨_,o,ho,hnf⟩:=hl1.mem hm
   rw [he] at ho;cases ho;exact hnf vs hd
  have he₁:h₁.get? e=some oe:=(hs₁.2.1 e hene).trans he
  have hsz1:h₁.objs.size=s.heap.objs.size:=hs₁.1.trans hsz0
  generalize hnew:({ cls:=.type "traceback",dict:=none,data:=.fields ([head,.ref L,.none,rawInt L,.none]++(if pl.isEmpty then List.replicate 6 Value.none else pl)).toArray }:Obj)=ob
  have he₂:=Heap.get?_push_of_some (h:=h₁) ob he₁
  refine wpAny_setField he₂ hd hsz ?_
  have hTe:h₁.objs.size≠e:=Nat.ne_of_gt (Heap.lt_size he₁)
  have hd₃:=Obj.data_mapFields hd (·.setIfInBounds 1 (Value.ref h₁.objs.size))
  have he₃:=Heap.get?_update_self (Obj.mapFields (·.setIfInBounds 1 (Value.ref h₁.objs.size))) he₂ (Obj.isFreed_of_fields hd₃)
  have hT₃:((h₁.push ob).update e (Obj.mapFields (·.setIfInBounds 1 (Value.ref h₁.objs.size)))).get? h₁.objs.size=some ob:=by
   rw [Heap.get?_update_other _ _ (Ne.symm hTe)]
   exact Heap.get?_push_size h₁ (by rw [<-hnew];rfl)
  have other:∀ b o,b≠e->h₁.get? b=some o->((h₁.push ob).update e (Obj.mapFields (·.setIfInBounds 1 (Value.ref h₁.objs.size)))).get? b=some o:=λb o hbe hb=>by
   rw [Heap.get?_update_other _ _ (Ne.symm hbe)];exact Heap.get?_push_of_some _ hb
  have hTn:s.heap.get? h₁.objs.size=none:=by
   rw [hsz1]
   cases q:s.heap.get? s.heap.objs.size with
   | none=>rfl
   | some o=>exact absurd (Heap.lt_size q) (Nat.lt_irrefl _)
  have hst:∀ h',{ s1 with heap:=h' }={ s with heap:=h' }:=λh'=>by rw [<-hs1]
  rw [hst]
  refine hQ _ ⟨λb o hb hfb hnb=>?_,λb o hb hfb=>?_,λb o hb=>?_⟩ ⟨nE,tE,_,_,h₁.objs.size,_,_,rawInt L,he₃,by rw [Obj.cls_mapFields];exact hc,hd₃,by simp [hsz],hN _ hTn,by rw [hsz1];exact hH,hTe,hT₃,by rw [<-hnew],?_⟩
  ·have b1:=c1.keep b o hb hfb hnb
   refine other b o (λz=>?_) ((hs₁.2.1 b hfb).trans b1)
   subst z
   rw [he] at b1;cases b1
   rcases hnb nE with q | q
   ·exact q vs hd
   ·exact q tE
  ·obtain⟨sl,b1⟩:=c1.slot b o hb hfb
   obtain⟨sl',b2⟩:=hs₁.2.2 b _ b1
   exact⟨sl',other b _ (λz=>hene (z ▸ hfb)) b2⟩
  ·obtain⟨o1,b1⟩:=c1.there b o hb
   obtain⟨sl',b2⟩:=hs₁.2.2 b _ b1
   by_cases hbe:b=e
   ·subst hbe;exact⟨_,he₃⟩
   ·exact⟨_,other b _ hbe b2⟩
  ·first | (simp;done) | (rcases hpl with rfl | ⟨_,_,_,_,_,_,_,rfl⟩<;>simp)
 rcases x with⟨nE,tE,oe,vs,he,hc,hd,h1⟩ | ⟨nE,tE,oe,vs,T,oT,ts,fl,he,hc,hd,h1,nT,tT,hTe,hT,hdT,h3⟩
 ·unfold noteFrame
  simp only [hf]
  refine wpAny_bind (wpAny_field he hd h1 ?_)
  rw [if_neg (by decide)]
  exact go s _ _ oe vs hl rfl .refl rfl nE tE he hc hd (Array.getElem?_eq_some_iff.mp h1).1
 ·have hsz:3 < ts.size:=(Array.getElem?_eq_some_iff.mp h3).1
  unfold noteFrame
  simp only [hf]
  refine wpAny_bind (wpAny_field he hd h1 ?_)
  rw [if_pos (show (Value.ref T != Value.none)=true from by simp)]
  refine wpAny_bind (wpAny_field hT hdT h3 ?_)
  by_cases hfl:(fl==rawInt L)=true
  ·rw [if_pos hfl]
   exact wpAny_pure (hQ _ .refl ⟨nE,tE,oe,vs,T,oT,ts,fl,he,hc,hd,h1,nT,tT,hTe,hT,hdT,h3⟩)
  ·rw [if_neg hfl]
   refine wpAny_bind (wpAny_setField hT hdT hsz ?_)
   have other:∀ b,b≠T->(s.heap.update T (Obj.mapFields (·.setIfInBounds 3 Value.none))).get? b=s.heap.get? b:=λb hb=>Heap.get?_update_other _ _ (Ne.symm hb)
   have nfT:∀ b o,s.heap.get? b=some o->(∀ vs,o.data≠.fields vs)->b≠T:=λb o hb hnf z=>by
    subst z;rw [hT] at hb;cases hb;exact hnf ts hdT
   refine go _ _ _ oe vs (hl.of_keeps λb o hb hnf=>⟨o,(other b (nfT b o hb hnf)).trans hb,rfl⟩) ?_ ⟨λb o hb hfb hnb=>?_,λb o hb hfb=>?_,λb o hb=>?_⟩ rfl nE tE ((other e (Ne.symm hTe)).trans he) hc hd (Array.getElem?_eq_some_iff.mp h1).1
   ·exact Heap.size_after_update ..
   ·refine (other b λz=>?_).trans hb
    subst z
    rw [hT] at hb;cases hb
    rcases hnb nT with q | q
    ·exact q ts hdT
    ·exact q tT
   ·obtain⟨o',e1,e2⟩:=hfs b hfb
    rw [hb] at e1;cases e1
    exact⟨o.slots,(other b (nfT b o hb e2)).trans hb⟩
   ·by_cases hbT:b=T
    ·subst hbT
     exact⟨_,Heap.get?_update_self _ hT (Obj.isFreed_of_fields (Obj.data_mapFields hdT _))⟩
    ·exact⟨o,(other b hbT).trans hb⟩
theorem nk {env:Env}{outer:List Env}{base:Heap}{L:Addr}{Q:Unit->Shared->Prop} (hfr:A.frames=some (env::outer)) (hl:s.heap.FunFrames base (env::outer)) (hf:env.frame=some L)
  (hN:∀ a,s.heap.get? a=none->N a) (hH:H s.heap.objs.size=none) (x:Ex N H s.heap C e)
  (hQ:∀ h',Chg N H (frs (env::outer)) s.heap h'->ExT N H h' C e->Q () { s with heap:=h' }):wpAny M A (leaving env (.ref e)) Q E s:=by
 unfold leaving
 refine wpAny_bind (iE hfr hl hf hN hH x λh1 c1 x1=>?_)
 refine d5 (s:={ s with heap:=h1 }) (fs:=frs (env::outer)) (λb hb=>?_) x1 λh2 c2 x2=>hQ h2 (c1.trans c2) x2
 obtain⟨o,ho,hd⟩:=(hl.mem hb).2
 obtain⟨sl,e1⟩:=c1.slot b o ho hb
 exact⟨_,e1,hd⟩
end
end L2
namespace L2
open PySem PySem.Spec PyProof.Rows
noncomputable def gM (X:Cx) (a:Addr):Prop:=(X.s₀.heap.get? a=none\/a ∈ X.ex)/\∀ p ∈ X.pn,p.1≠a
theorem Inv.new {X:Cx}{pins:List (Addr×Obj)}{σ:St}{H:Hp}{s:Shared} (I:Inv X pins σ H s) {a:Addr} (h:s.heap.get? a=none):gM X a:=by
 refine⟨?_,λp hp z=>?_⟩
 ·by_cases hx:a ∈ X.ex
  ·exact .inr hx
  ·refine .inl ?_
   cases q:X.s₀.heap.get? a with
   | none=>rfl
   | some o=>
    obtain⟨o',e⟩:=I.base.there a o q hx
    rw [h] at e;cases e
 ·have:=(I.pin p (List.mem_append_left _ hp)).1
  rw [z,h] at this;cases this
noncomputable def XE (X:Cx) (C:Value) (H':Hp):Prop:=∀ e pins σ' s',Inv X pins σ' H' s'->Ex (gM X) H' s'.heap C e->X.xe (.ref e) s'
noncomputable def CX1 (P:Program) (w:World) (C:Value):CXT:=λouter H s E e s'=>∃ a H',e=.ref a/\s'.os=s.os/\AllBare s'.gens/\Un (frs outer) [] H H' s.heap s'.heap/\HOk P w H' s'.heap/\Ex (λb=>s.heap.get? b=none) H' s'.heap C a/\E e none H'
noncomputable def EX (X:Cx) (C:Value):XK:=λ_ _ H'=>XE X C H'
theorem qO {X:Cx}{C:Value}:iG (CX1 X.prog X.w C) X (EX X C):=λpins σ H s e s' I h=>by
 obtain⟨a,H',rfl,os,bare,un,hok,x,q⟩:=h
 exact q a pins σ s' (I.call' (ch:=[]) os un hok bare (λb z=>absurd z (by simp))) (x.imp λb hb=>I.new hb)
theorem Chg.hok {P:Program}{w:World}{N:Addr->Prop}{H:Hp}{fs:List Addr}{h h':Heap} (x:HOk P w H h) (hf:∀ b ∈ fs,H b=none) (c:Chg N H fs h h'):HOk P w H h':=λa o e=>by
 refine (x a o e).stay (λb u hb q=>c.keep b u q (λz=>?_) λ_=>.inr ?_) (λ_ q=>q) λ_ _ q=>q
 ·have:=hf b z
  rcases hb with rfl | hb
  ·rw [e] at this;cases this
  ·rw [hb] at this;cases this
 ·rcases hb with rfl | hb
  ·rw [e];intro z;cases z
  ·rw [hb];intro z;cases z
theorem rQ {P:Program}{w:World}{K:PySem.W.Frag}{mg:Str->Option Value}{base:Heap}{N:List Str}{qual:Str}{scope:Scope}{f:Addr}{cd:Value}{A:Around}{outer:List Env}{s:Shared}{H H':Hp}{E:XK}{C:Value}
  (hE:∀ a,E (.ref a) none H'):XE (fm (CX1 P w C) P w K mg base N qual scope f cd A outer s H E) C H':=by
 intro e pins σ' s' I x
 show wpAny (model P w) (A.deeper (envOfC qual scope s.heap.objs.size f cd)) (leaving (envOfC qual scope s.heap.objs.size f cd) (.ref e)) _ _ s'
 refine nk (base:=base) I.ok.frames I.stack rfl (λa h=>I.new h) (I.hok.fresh (Nat.le_refl _)) x λh' c x'=>?_
 have old:∀ b o,s.heap.get? b=some o->¬ gM (fm (CX1 P w C) P w K mg base N qual scope f cd A outer s H E) b:=λb o q z=>by
  rcases z.1 with z | z
  ·have z':s.heap.get? b=none:=z
   rw [q] at z';cases z'
  ·exact absurd (show b ∈ ([]:List Addr) from z) (by simp)
 have nL:∀ b o,s.heap.get? b=some o->b ∉ frs outer->b ∉ frs (envOfC qual scope s.heap.objs.size f cd::outer):=λb o q hb z=>by
  unfold frs at z
  rw [List.filterMap_cons] at z
  rcases List.mem_cons.mp z with z | z
  ·exact absurd (Heap.lt_size q) (by rw [z];exact Nat.lt_irrefl _)
  ·exact hb z
 have inL:∀ b,b ∈ frs outer->b ∈ frs (envOfC qual scope s.heap.objs.size f cd::outer):=λb hb=>by
  unfold frs
  rw [List.filterMap_cons]
  exact List.mem_cons_of_mem _ hb
 refine⟨e,H',rfl,I.os,I.bare,⟨λb o q n hb hx=>?_,λb o q n hb hx=>?_,I.base.free,λb o q hx=>?_,I.base.tups,I.base.frzs,I.base.tbls⟩,c.hok I.hok I.stkFree,x'.ex.imp λa z=>?_,hE e⟩
 ·exact c.keep b o (I.base.keep b o q n hb hx) (nL b o q hb) λz=>absurd z (old b o q)
 ·obtain⟨sl,q1⟩:=I.base.slot b o q n hb hx
  obtain⟨sl',q2⟩:=c.slot b _ q1 (inL b hb)
  exact⟨sl',q2⟩
 ·obtain⟨o1,q1⟩:=I.base.there b o q hx
  exact c.there b o1 q1
 ·rcases z.1 with z | z
  ·exact z
  ·exact absurd (show a ∈ ([]:List Addr) from z) (by simp)
abbrev Rf:=Ev->Sto->Option Sto
abbrev Rn:=List W->Sto->Option Sto
noncomputable def tX (K:PySem.W.Frag) (X:Cx) (C:Value) (env:Ev) (st st':Sto) (σ:St) (H:Hp):Prop:=∃ φ,Er K H φ env σ/\Sr K H φ st/\∀ H' φ',Fw φ φ' H H'->Sr K H' φ' st'->XE X C H'
structure RE (K:PySem.W.Frag) (X:Cx) (C:Value) (e:Expr) (f:Rf):Prop where
 run:∀ env st st',f env st=some st'->PE X e (λσ H _=>tX K X C env st st' σ H)
structure RA (K:PySem.W.Frag) (X:Cx) (C:Value) (es:List Expr) (f:Rf):Prop where
 run:∀ env st st',f env st=some st'->PA X es (λσ H _=>tX K X C env st st' σ H)
structure RS (K:PySem.W.Frag) (X:Cx) (C:Value) (s:Stmt) (f:Rf):Prop where
 run:∀ env st st',f env st=some st'->PS X s (λ_ σ H=>tX K X C env st st' σ H)
structure RSs (K:PySem.W.Frag) (X:Cx) (C:Value) (s:List Stmt) (f:Rf):Prop where
 run:∀ env st st',f env st=some st'->PSs X s (λ_ σ H=>tX K X C env st st' σ H)
noncomputable def xNo:Rf
 | _,_=>none
noncomputable def gB (xa:Rf) (a:Sf) (xb:Rf):Rf
 | env,st=>match xa env st with
 | some s=>some s
 | none=>(a env st).bind λr=>match r with
  | .nx e s=>xb e s
  | _=>none
noncomputable def xIf (c:Tf) (xa xb:Rf):Rf
 | env,st=>(c env st).bind λr=>if r.1=true then xa env r.2 else xb env r.2
noncomputable def fj (m:Rn) (a:Af):Rf
 | env,st=>(a env st).bind λr=>m r.1 r.2
noncomputable def mj (n k:Nat) (b:Rf):Rn
 | ws,st=>if ws.length=k then (b (ws.map some++List.replicate (n - k) none) st).map λs=>s.take st.length else none
noncomputable def spX (K:PySem.W.Frag) (m:Rn):Sp:=λvs H _ E=>∃ φ st ws st',m ws st=some st'/\Rws K H φ ws vs/\Sr K H φ st/\∀ e H' φ',Fw φ φ' H H'->Sr K H' φ' st'->E (.ref e) none H'
section
variable {K:PySem.W.Frag}{X:Cx}{C:Value}{e a b c:Expr}{es:List Expr}{s:Stmt}{ss rest:List Stmt}{pos:Pos}{f fa fb:Rf}{af:Af}{ef:Ef}{sf:Sf}{tc:Tf}
theorem PA.nox {t:TA} (h:PA X.nox es t):PA X es t:=λpos pins s σ H Q I hw=>
 wpAny_mono (h pos pins s σ H Q (I.wish _) hw) (λ_ _ ⟨v,H',I',r,q⟩=>⟨v,H',I'.unwish,r,q⟩) λ_ _ z=>False.elim z
theorem PS.nox {t:TS} (h:PS X.nox s t):PS X s t:=λpins s σ H D I hw=>
 wpAny_mono (h pins s σ H D (I.wish _) hw) (λ_ _ q=>q.unwish) λ_ _ z=>False.elim z
theorem PI.nox {tg iter:Expr}{wi:TI} (h:PI X.nox tg iter wi):PI X tg iter wi:=λpins s σ H R I hw=>
 wpAny_mono (h pins s σ H R (I.wish _) hw) (λ_ _ q=>wpAny_mono q (λ_ _ ⟨it,fp,tn,J,H',e,I',T,st,fp',r⟩=>⟨it,fp,tn,J,H',e,I'.unwish,T,st,fp',r⟩) λ_ _ z=>False.elim z) λ_ _ z=>False.elim z
theorem nj:PA X es (λ_ _ _=>False):=λ_ _ _ _ _ _ _ q=>q.elim
theorem gx:RSs K X C ss xNo:=⟨λ_ _ _ h=>nomatch h⟩
theorem kK {x:Str}{k j:Nat}{ff:Addr}{fd:FuncData}{ps:List Str}{m:Rn}{p:Pos} (F:cb X.prog X.w X.K X.mg X.base (CX1 X.prog X.w C) j ff fd ps (spX K m)) (hjk:j<=k) (hr:bM k X.A) (hg:Gl X x) (hm:X.mg x=some (.ref ff)) (hk:PySem.W.keepIn X.K (.ref ff)=true) (hb:cm X.K fd ps [])
  (ha:IA K X.nox (e::es) af) (hdb:(x==("__debug__" : Str))=false:=by decide) (hs:ar e=true:=by rfl) (hp:es.all ar=true:=by rfl) :
  RE K X C (.Call (.Name x p) (e::es) [] pos) (fj m af):=by
 refine⟨λenv st st' h=>?_⟩
 simp only [fj,Option.bind_eq_some_iff] at h
 obtain⟨y,hy,h⟩:=h
 refine (kI (F.mono hjk) hr hg hm hk hb .nil qO (ha.run _ _ _ hy).nox hdb (aT hs) (bt hp)).imp ?_
 rintro σ H Q ⟨φ,hE,hS,q⟩
 refine⟨φ,hE,hS,λvs H1 φ1 f1 s1 w1=>?_⟩
 show spX K m (vs++[]) H1 Q (EX X C)
 rw [List.append_nil]
 exact⟨φ1,y.2,y.1,st',h,w1,s1,λ_ H2 φ2 f2 s2=>q H2 φ2 (f1.trans f2) s2⟩
theorem kC (h:RE K X C e f) (hs:ar e=true:=by rfl):RA K X C (e::es) f:=
 ⟨λenv st st' hf=>(cF (h.run _ _ _ hf) nj (aT hs)).imp λσ H Q q=>q⟩
theorem qB (h:RA K X C es f):RE K X C (.List es pos) f:=⟨λenv st st' hf=>(mO (h.run _ _ _ hf)).imp λσ H Q q=>q⟩
theorem rn {x:Str}{T:String}{p:Pos} (hg:Gl X x) (hm:X.mg x=none) (hv:bootBuiltins x=some (.type T)) (ha:RA K X C (e::es) f)
  (hn:x≠"__name__":=by decide) (hdb:(x==("__debug__" : Str))=false:=by decide) (hs:ar e=true:=by rfl) (hp:es.all ar=true:=by rfl) :
  RE K X C (.Call (.Name x p) (e::es) [] pos) f:=
 ⟨λenv st st' hf=>(ie (r:=λ_ _ _=>False) (λ_ _ _ _ _ _ _ _ _ q=>q.elim) hg hm hv (ha.run _ _ _ hf) hn hdb (aT hs) (bt hp)).imp λσ H Q q=>q⟩
theorem qe {i:Nat}{x:Str}{pos':Pos} (hN:X.N.Nodup) (hi:X.N[i]?=some x) (hx:Loc X.env.scope x) (he:RE K X C e f) (hs:swapsWith e (some (.Name x pos')) pos.line X.env=pure false:=by rfl) (hf:X.fn x=true\/X.env.scope.names.lookup x=some .local:=by first | exact .inl rfl | exact .inr rfl | assumption) :
  RS K X C (.Assign [.Name x pos'] e pos) f:=⟨λenv st st' h=>(mq hN hi hx (he.run _ _ _ h) hs hf).imp λD σ H q=>q⟩
theorem qh (he:RE K X C e f):RS K X C (.Return (some e) pos) f:=⟨λenv st st' h=>(iX (he.run _ _ _ h)).imp λD σ H q=>q⟩
theorem lM (hc:IT K X.nox c tc) (ha:RSs K X C ss fa) (hb:RSs K X C rest fb):RS K X C (.If c ss rest pos) (xIf tc fa fb):=by
 refine⟨λenv st st' hf=>?_⟩
 simp only [xIf,Option.bind_eq_some_iff] at hf
 obtain⟨⟨k,s1⟩,hx,hf⟩:=hf
 cases k with
 | true=>
  rw [if_pos rfl] at hf
  refine (i8 (hc.run _ _ _ hx).nox (ha.run _ _ _ hf) bY).imp ?_
  rintro D σ H ⟨φ,hE,hS,q⟩
  refine⟨φ,hE,hS,λH1 φ1 f1 s1=>?_⟩
  refine nv ?_
  exact⟨φ1,hE.fw hS f1,s1,λH2 φ2 f2 s2=>q H2 φ2 (f1.trans f2) s2⟩
 | false=>
  rw [if_neg Bool.false_ne_true] at hf
  refine (i8 (hc.run _ _ _ hx).nox bY (hb.run _ _ _ hf)).imp ?_
  rintro D σ H ⟨φ,hE,hS,q⟩
  refine⟨φ,hE,hS,λH1 φ1 f1 s1=>?_⟩
  refine jW ?_
  exact⟨φ1,hE.fw hS f1,s1,λH2 φ2 f2 s2=>q H2 φ2 (f1.trans f2) s2⟩
theorem fU (h:RS K X C s f):RSs K X C [s] f:=⟨λenv st st' hf=>(fZ (h.run _ _ _ hf)).imp λD σ H q=>q⟩
theorem eU (hx:RS K X C s fa) (h:IS K X.nox s sf) (hr:RSs K X C rest fb):RSs K X C (s::rest) (gB fa sf fb):=by
 refine⟨λenv st st' hf=>?_⟩
 simp only [gB] at hf
 cases ha:fa env st with
 | some s1=>
  rw [ha] at hf
  cases hf
  exact (cW (hx.run _ _ _ ha) bY).imp λD σ H q=>q
 | none=>
  rw [ha] at hf
  obtain⟨r,h1,hf⟩:=Option.bind_eq_some_iff.mp hf
  cases r with
  | nx e1 s1=>
   refine (cW (h.run _ _ _ h1).nox (hr.run _ _ _ hf)).imp ?_
   rintro D σ H ⟨φ,hE,hS,q⟩
   exact⟨φ,hE,hS,λσ' H' φ' f' e' s'=>⟨φ',e',s',λH2 φ2 f2 s2=>q H2 φ2 (f'.trans f2) s2⟩⟩
  | rt w s1=>cases hf
  | bk w s1=>cases hf
  | ct w s1=>cases hf
theorem PE.or {t u:TE} (h:PE X e t) (h':PE X e u):PE X e (λσ H Q=>t σ H Q\/u σ H Q):=λpins s σ H Q I q=>q.elim (h pins s σ H Q I) (h' pins s σ H Q I)
noncomputable def tXa (K:PySem.W.Frag) (X:Cx) (C:Value) (x:Rf) (σ:St) (H:Hp):Prop:=∃ env st st',x env st=some st'/\tX K X C env st st' σ H
theorem RSs.any (h:RSs K X C ss f):PSs X ss (λ_ σ H=>tXa K X C f σ H):=λpins s σ H D I ⟨env,st,st',e,q⟩=>h.run env st st' e pins s σ H D I q
theorem RE.any (h:RE K X C e f):PE X e (λσ H _=>tXa K X C f σ H):=λpins s σ H D I ⟨env,st,st',e,q⟩=>h.run env st st' e pins s σ H D I q
end
theorem qL {P:Program}{w:World}{K:PySem.W.Frag}{mg:Str->Option Value}{base:Heap}{C:Value}{x qual:Str}{st:Stmt}{f:Addr}{fd:FuncData}{N ps:List Str}{k:Nat}{b:Rf} (F:Fun K x qual st f fd) (S:aY N ps (ai st))
  (hb:∀ (cdv:Value) (A:Around) (outer:List Env) (s:Shared) (H:Hp) (E:XK),bM k (A.deeper (envOfC qual (ai st) s.heap.objs.size f cdv))->RSs K (fm (CX1 P w C) P w K mg base N qual (ai st) f cdv A outer s H E) C (aJ st) b) :
  cb P w K mg base (CX1 P w C) (k+1) f fd ps (spX K (mj N.length ps.length b)):=by
 obtain⟨oc,od,kV,doc,pm,an,cdv,ct,osl,rfl,lk,hcd⟩:=F.ex
 refine oM lk hcd S (λvs H Q E h=>?_) λA outer s H vs Q E hr h=>?_
 ·obtain⟨φ,st,ws,r,e,rw,_⟩:=h
  rw [mj] at e
  by_cases hl:ws.length=ps.length
  ·rw [<-rw.length,hl]
  ·rw [if_neg hl] at e;cases e
 ·obtain⟨φ,st',ws,r,e,rw,S',q⟩:=h
  rw [mj] at e
  by_cases hl:ws.length=ps.length
  ·rw [if_pos hl] at e
   obtain⟨s1,e1,rfl⟩:=Option.map_eq_some_iff.mp e
   refine⟨_,(hb cdv A outer s H E hr).run _ _ _ e1,φ,gu rw hl,S',λH' φ' f' s'=>rQ λa=>?_⟩
   refine q a H' φ f'.less ?_
   obtain⟨ψ,rfl,_⟩:=f'.ext
   rw [<-S'.len]
   exact s'.less
  ·rw [if_neg hl] at e;cases e
end L2
namespace L2
open PySem PySem.Spec PyProof.Rows
theorem bK.there {P:Program}{w:World}{H:Hp}{h:Heap}{a:Addr}{o:HO} (x:bK P w H h a o):∃ ob,h.get? a=some ob:=by
 cases o with
 | lst xs=>obtain⟨_,_,_,_,e⟩:=x;exact⟨_,e⟩
 | tup xs=>obtain⟨_,_,_,_,e,_⟩:=x;exact⟨_,e⟩
 | dK kvs=>obtain⟨_,_,_,_,o,_,_,e,_⟩:=x;exact⟨_,e⟩
 | dT kvs=>obtain⟨_,_,_,_,o,_,_,e,_⟩:=x;exact⟨_,e⟩
 | set S n=>obtain⟨o,_,_,_,e,_⟩:=x;exact⟨_,e⟩
 | ins C dx fs=>obtain⟨_,_,_,e,_⟩:=x;exact⟨_,e⟩
 | own y=>obtain⟨_,e⟩:=x;exact⟨_,e⟩
 | xd fs=>obtain⟨_,⟨_,_,_,e,_⟩,_⟩:=x;exact⟨_,e⟩
 | rng lo hi=>obtain⟨_,_,_,e⟩:=x;exact⟨_,e⟩
 | frz ob u=>obtain⟨e,_⟩:=x;exact⟨_,e⟩
 | tbl ps=>exact⟨_,show h.get? a=some _ from x⟩
 | met f y=>exact⟨_,show h.get? a=some _ from x⟩
 | ext φ=>obtain⟨_,⟨_,e⟩,_⟩:=x;exact⟨_,e⟩
theorem HOk.none_of {P:Program}{w:World}{H:Hp}{h:Heap}{a:Addr} (x:HOk P w H h) (e:h.get? a=none):H a=none:=by
 cases q:H a with
 | none=>rfl
 | some o=>
  obtain⟨ob,z⟩:=(x a o q).there
  rw [e] at z;cases z
noncomputable def eJ (a:Af):Rf
 | env,st=>(a env st).bind λr=>if r.1.length<=1000 then some r.2 else none
section
variable {K:PySem.W.Frag}{X:Cx}{C:Addr}{e:Expr}{es:List Expr}{pos np cpos:Pos}{af:Af}
theorem nn {x:Str}{B newId initId:String}{bm:List Value} (O:OwnCls x C bm newId X.mg X.base) (FB:ExcBaseFacts B newId initId bm) (hc:X.calm=true) (hg:Gl X x) (ha:IA K X.nox (e::es) af)
  (hd:(x==("__debug__" : Str))=false:=by decide) (hs:ar e=true:=by rfl) (hp:es.all ar=true:=by rfl) :
  RS K X (.ref C) (.Raise (some (.Call (.Name x np) (e::es) [] cpos)) none pos) (eJ af):=by
 refine⟨λenv st st' hf=>?_⟩
 simp only [eJ,Option.bind_eq_some_iff] at hf
 obtain⟨y,hy,hf⟩:=hf
 by_cases hnl:¬ y.1.length<=1000
 ·rw [if_neg hnl] at hf;cases hf
 have hl:y.1.length<=1000:=Decidable.not_not.mp hnl
 rw [if_pos hl] at hf
 cases hf
 rintro pins s σ H D I ⟨φ,hE,hS,q⟩
 obtain⟨tl,N,nm,qn,bs,hdct,sn,sub,ab,col,dd,k0,k1,k2,k3,k5,mN,hC,hN,hni,T⟩:=O.obj
 refine wpAny_Raise_call_subT (C:=C) (nm:=nm) (q:=qn) (N:=N) (bs:=bs) (bm:=tl) (hdct:=hdct) (sn:=sn) (sub:=sub) (ab:=ab) (col:=col) (dd:=dd) (k0:=k0) (k1:=k1) (k2:=k2) (k3:=k3) (k5:=k5)
  FB (mN:=mN) (T.hasType FB.hasBase) (I.ok.hd hc) (bt (by rw [List.all_cons,hs,hp];rfl)) hni (fS I hg O.bound ⟨rfl,?_⟩ hd)
 have pa:=(ha.run _ _ _ hy).nox cpos pins s σ H (λvs H1=>y.1.length=vs.length/\XE X (.ref C) H1) I ⟨φ,hE,hS,λvs H1 φ1 f1 s1 w1=>⟨w1.length,q H1 φ1 f1 s1⟩⟩
 rw [aT hs] at pa ⊢
 refine Calls.evalArgs_plain (thn pa λus s1 ⟨vs,H1,I1,r1,q1⟩=>?_)
 have kb:∀ b o,X.base.get? b=some o->s1.heap.get? b=some o:=I1.bk
 refine⟨rfl,?_,kb _ _ hC,hN.keeps kb,T.keeps kb,λh' ex hm=>?_⟩
 ·show us.length<=sizeLine
  rw [<-r1.length,<-q1.1]
  exact Nat.le_of_lt (hX hl)
 ·obtain⟨t,ht,_⟩:=hm.there
  exact q1.2 ex pins σ { s1 with heap:=h' } (I1.kept (t':=s1.toks) hm.keeps) (.inl ⟨I1.new hm.new,I1.hok.none_of hm.new,_,_,ht,rfl,rfl,rfl⟩)
end
end L2
namespace L2
open PySem PySem.Spec PyProof.Rows
theorem dD {prog:Program}{w:World}{A:Around}{R:Result->Shared->Prop}{s:Shared}{elt target iter:Expr}{scope:Scope}{pos:Pos}{it acc:Value}{env:Env} (I:Nat->Shared->Prop)
  (turn:∀ n s,I n s->wpAny (model prog w) A (pyNext it) (λr s₁=>match r with
    | none=>False
    | some v=>wpAny (model prog w) A (letOwnedTupleGo target it v) (λ_ s₁'=>wpAny (model prog w) A (assign target env v) (λ_ s₂=>
       wpAny (model prog w) A (eval elt env) (λx s₄=>
        wpAny (model prog w) A (call (.builtin "list.append") [acc,x]) (λ_ s₅=>∃ m,m < n/\I m s₅) (λ_ _=>False) s₄) (notedBy (model prog w) A env λx s'=>R (.error x) s') s₂) (λ_ _=>False) s₁') (λ_ _=>False) s₁) (λ_ _=>False) s)
  (n:Nat) (h:I n s) :
  codeAny (model prog w) A (.compLoop (.ListComp elt [⟨target,iter,[],0⟩] scope pos) 0 it acc env) R s:=by
 refine codeAny_loop rfl I (λn s hI=>?_) n h
 show wpAny _ A ((compTurn (.ListComp elt [⟨target,iter,[],0⟩] scope pos) 0 it acc env).onRaise (λx=>do noteFrame x env;theTreesLotGoes x)) _ _ s
 refine wpAny_noted ?_
 rw [compTurn_list]
 refine wpAny_bind (wpAny_standAt (wpAny_bind (wpAny_mono (turn n s hI) (λr s₁ h₁=>?_) λ_ _ h'=>h'.elim)))
 cases r with
 | none=>exact h₁.elim
 | some v=>
  refine wpAny_bind (wpAny_mono h₁ (λ_ s₁' h₁'=>?_) λ_ _ h'=>h'.elim)
  refine wpAny_bind (wpAny_mono h₁' (λ_ s₂ h₂=>wpAny_bind (wpAny_tests_nil ?_)) λ_ _ h'=>h'.elim)
  exact wpAny_bind (wpAny_bind (wpAny_mono h₂ (λx s₄ h₄=>wpAny_bind (wpAny_mono h₄ (λ_ s₅ h₅=>wpAny_pure (wpAny_pure ⟨rfl,h₅⟩)) λ_ _ h'=>h'.elim)) λ_ _ h'=>h'))
abbrev Cx.zx (X:Cx) (C:Value) (Z:Hp->Prop):Cx:=X.wish (λu s'=>∃ e H' pins σ',u=.ref e/\Inv X pins σ' H' s'/\Ex (gM X) H' s'.heap C e/\Z H')
theorem rK {X:Cx}{C:Value}{Z:Hp->Prop}{H':Hp} (hz:Z H'):XE (X.zx C Z) C H':=λe pins σ' s' I x=>⟨e,H',pins,σ',rfl,I.unwish,x,hz⟩
theorem fO {e:Value}{env env':Env} (h:env.frame=env'.frame):noteFrame e env=noteFrame e env':=by
 unfold noteFrame PySem.frameOf
 rw [h]
noncomputable def pM (J:It) (σe:St) (g:TG) (te:TE) (H1:Hp):Prop:=∃ W:Nat->Nat->List V->Hp->Prop,(∃ m,W 0 m [] H1)/\∀ i m ys H,W i m ys H->
 J.go i H/\ys.length < sizeLine/\∃ N:List V->Hp->Prop,(∀ ys' H',N ys' H'->∃ m',m' < m/\W (i+1) m' ys' H')/\∀ x H',J.yld i H x H'->g x σe H' λσ2 H2=>Sub σe σ2/\te σ2 H2 λv H4=>N (ys++[v]) H4
section
variable {X:Cx}{scope:Scope}{Nc:List Str}{emb:St->St}{elt iter tg:Expr}{pos:Pos}{wi:TI}{g:TG}{te:TE}{Cv:Value}
theorem qE (S:dc X scope Nc emb) (hc:X.calm=true) (hst:X.stack=X.env::X.outer) (hi:PI X tg iter wi)
  (hg:∀ cells s H C fp,PG (lcX X scope cells Nc s H C fp) tg g) (he:∀ cells s H C fp,PE ((lcX X scope cells Nc s H C fp).zx Cv (XE X Cv)) elt te)
  (hs:∀ x,foldedSetIterable iter X.env x=pure x:=by intro _;rfl):PE X (.ListComp elt [⟨tg,iter,[],0⟩] scope pos) (λσ H _=>wi σ H λJ H1=>pM J (emb σ) g te H1):=by
 intro pins s σ H Q I h
 rw [eval_ListComp]
 refine wpAny_comprehension_free (use:=none) rfl hs (eg (S.clos I.ok)) S.kind (λx hx hl=>cP S.nd (by rw [<-hl];exact hx)) ?_
 refine thn (hi pins s σ H _ I h) λv s1 h1=>thn h1 λitv s2 h2=>?_
 obtain⟨it,fp,tn,J,H2,e,I2,T,st2,f2,W,⟨m0,w0⟩,turn⟩:=h2
 subst e
 refine wpAny_newObj_type (eL ?_)
 rw [show (s2.heap.push { cls:=.type "list",dict:=none,data:=.seq ([]:List Value).toArray }).objs.size=s2.heap.objs.size+1 from Heap.size_push ..]
 generalize hD:s2.heap.objs.size=D
 generalize hlo:({ cls:=.type "list",dict:=none,data:=.seq ([]:List Value).toArray }:Obj)=lo
 have fplt:∀ b ∈ fp,b < s2.heap.objs.size:=λb hb=>by obtain⟨o,e,_⟩:=T.obj _ _ st2 b hb;exact Heap.lt_size e
 have I3:=jC (lo:=lo) S I2 f2 (λb hb=>by obtain⟨o,e,_⟩:=T.obj _ _ st2 b hb;exact⟨o,e⟩) (by rw [<-hlo];intro v z;cases z) (by rw [<-hlo];rfl)
 rw [hD] at I3
 generalize hcells:cellsFrom (D+2) scope.names (ba X.env.cells scope.names [])=cells at I3
 generalize hX':lcX X scope cells Nc s2 H2 (D+1) fp=X' at I3
 have hfpX:∀ {H':Hp}{ps:List (Addr×Obj)},(∀ b ∈ fp,H' b=none)->(∀ p ∈ ps,p.1=D)->∀ b ∈ fp,im X' ps H' b:=λ{H' ps} hn hps b hb=>by
  have ok:=I3.ok
  refine⟨hn b hb,?_,?_,.inl (by rw [<-hX'];exact hb),?_,λp hp=>?_⟩
  ·exact (ok.exf b (by rw [<-hX'];exact hb)).1
  ·exact ok.exfs b (by rw [<-hX'];exact hb)
  ·exact (ok.exf b (by rw [<-hX'];exact hb)).2
  ·have hp':p ∈ ([]:List (Addr×Obj))++ps:=by rw [<-hX'] at hp;exact hp
   have e:p.1=D:=hps p (by simpa using hp')
   rw [e,<-hD]
   exact Nat.ne_of_gt (fplt b hb)
 have Dex:D ∈ X'.ex\/X'.s₀.heap.objs.size<=D:=.inr (by rw [<-hX',<-hD];exact Nat.le_refl _)
 have Dloc:D≠X'.env.locals:=by rw [<-hX'];exact Nat.ne_of_lt (Nat.lt_succ_self _)
 have pD:=I3.pin (D,lo) (by rw [<-hX'];exact List.mem_append_right _ List.mem_cons_self)
 have Dfs:D ∉ X'.fs:=pD.2.2.2.1
 have Dcell:∀ x c,X'.env.cells.lookup x=some c->c≠D:=λx c hc' e=>by
  obtain⟨v,o,ho,hd⟩:=I3.cell x c hc'
  rw [e,pD.1] at ho
  cases ho
  exact pD.2.2.2.2 v hd
 have hA:X'.A=X.A:=by rw [<-hX'];rfl
 have hP:X'.prog=X.prog:=by rw [<-hX'];rfl
 have hw:X'.w=X.w:=by rw [<-hX'];rfl
 have hE:X'.env=compEnvC scope cells (D+1) X.env:=by rw [<-hX'];rfl
 have hxe:X'.xe=λ_ _=>False:=by rw [<-hX'];rfl
 have eC:X'.env.locals=D+1:=by rw [hE];rfl
 have hfr:X.env.frame=some X.env.locals:=by
  rcases I.ok.stk with q | q
  ·rw [hst] at q
   exact absurd (congrArg List.length q) (by rw [List.length_cons];exact Nat.succ_ne_self _)
  ·exact q.2
 have old_ne:∀ b o,s2.heap.get? b=some o->b≠D/\b≠D+1:=λb o e=>by
  have q:=Heap.lt_size e
  rw [hD] at q
  exact⟨Nat.ne_of_lt q,Nat.ne_of_lt (Nat.lt_succ_of_lt q)⟩
 have newN:∀ a,gM X' a->gM X a:=λa hn=>by
  have hn1:s2.heap.get? a=none\/a ∈ fp:=by have:=hn.1;rw [<-hX'] at this;exact this
  rcases hn1 with q | q
  ·exact I2.new q
  ·obtain⟨_,_,_,q3,_,q5⟩:=f2 a q
   refine⟨?_,λp hp=>q5 p (List.mem_append_left _ hp)⟩
   rcases q3 with q3 | q3
   ·exact .inr q3
   ·exact .inl (Heap.get?_none_of_le q3)
 -- the exception goes out of the block
 have out:∀ (s9:Shared) (u:Value),(X'.zx Cv (XE X Cv)).xe u s9->notedBy (model X.prog X.w) X.A (compEnvC scope cells (D+1) X.env) (λx s'=>compPost (model X.prog X.w) X.A X.xe none (EP X pins σ Q) (.ref D) (D+1) (.error x) s') u s9:=by
  rintro s9 u ⟨e,H9,pins9,σ9,rfl,I9,x9,z9⟩
  show wpAny (model X.prog X.w) X.A (noteFrame (.ref e) (compEnvC scope cells (D+1) X.env)) _ _ s9
  rw [fO (env:=compEnvC scope cells (D+1) X.env) (env':=X.env) rfl]
  have fr9:X.A.frames=some (X.env::X.outer):=by rw [I.ok.frames,hst]
  have ff9:s9.heap.FunFrames X.base (X.env::X.outer):=by
   have q:=I9.stack
   rw [<-hX'] at q
   have q':s9.heap.FunFrames X.base X.stack:=q
   rwa [hst] at q'
  have un9:Un (frs X.stack) fp H2 H9 s2.heap s9.heap:=by have q:=I9.base;rw [<-hX'] at q;exact q
  have stkF:∀ b ∈ frs X.stack,H9 b=none:=by have q:=I9.stkFree;rw [<-hX'] at q;exact q
  have hok9:HOk X.prog X.w H9 s9.heap:=by have q:=I9.hok;rw [<-hX'] at q;exact q
  obtain⟨m9,⟨oC,es9,ep9,hoC,hdC,hrC⟩,_⟩:=id I9.loc
  rw [eC] at hoC
  have CnF:D+1 ∉ frs X.stack:=λz=>by
   obtain⟨_,o,ho,_⟩:=I2.stack.mem z
   exact (old_ne _ o ho).2 rfl
  refine iE (base:=X.base) fr9 ff9 hfr (λa ha=>I9.new ha) (hok9.fresh (Nat.le_refl _)) x9 λh1 c1 x1=>?_
  rw [<-hst] at c1
  have hC1:h1.get? (D+1)=some oC:=c1.keep _ _ hoC CnF λ_=>.inl (by rw [hdC];intro vs z;cases z)
  refine⟨m9,⟨oC,es9,ep9,hC1,hdC,hrC⟩,λh2 hsb cenv hcl=>?_⟩
  have neC:∀ b,H9 b≠none->b≠D+1:=λb hb z=>by
   have q:=I9.free
   rw [eC,<-z] at q
   exact hb q
  have eT:∀ a o vs,h1.get? a=some o->o.data=.fields vs->a≠D+1:=λa o vs ha hd z=>by
   rw [z,hC1] at ha;cases ha
   rw [hdC] at hd;cases hd
  have x2:ExT (gM X') H9 h2 Cv e:=by
   obtain⟨nE,tE,oe,vs,T',oT,ts,fl,q1,q2,q3,q4,q5,q6,q7,q8,q9,q10⟩:=x1
   exact⟨nE,tE,oe,vs,T',oT,ts,fl,(hsb.2 _ (eT _ _ _ q1 q3)).trans q1,q2,q3,q4,q5,q6,q7,(hsb.2 _ (eT _ _ _ q8 q9)).trans q8,q9,q10⟩
  have fs2:∀ b ∈ frs X.stack,∃ o,h2.get? b=some o/\∀ vs,o.data≠.fields vs:=λb hb=>by
   rw [hst] at hb
   obtain⟨_,o,ho,hd⟩:=ff9.mem hb
   rw [<-hst] at hb
   have hb':b ∈ frs X.stack:=hb
   obtain⟨sl,q⟩:=c1.slot b o ho hb'
   exact⟨_,(hsb.2 b λz=>CnF (z ▸ hb')).trans q,hd⟩
  unfold PySem.passOn
  obtain⟨nE,tE,oe,vs,T',oT,ts,fl,q1,q2,q3,q4,q5⟩:=id x2
  refine wpAny_bind (wpAny_field q1 q3 q4 ?_)
  rw [if_neg (show ¬ ((Value.ref T'==Value.none)=true) from by simp)]
  have step:∀ h3,Chg (gM X') H9 (frs X.stack) h2 h3->ExT (gM X') H9 h3 Cv e->X.xe (.ref e) { s9 with heap:=h3 }:=λh3 c3 x3=>by
   have keepT:∀ b o,s9.heap.get? b=some o->H9 b≠none->h3.get? b=some o:=λb o hb hn=>by
    have nb:b ∉ frs X.stack:=λz=>hn (stkF b z)
    exact c3.keep b o ((hsb.2 b (neC b hn)).trans (c1.keep b o hb nb λ_=>.inr hn)) nb λ_=>.inr hn
   have oldN:∀ b o,s2.heap.get? b=some o->b ∉ fp->¬ gM X' b:=λb o q hb z=>by
    have z1:s2.heap.get? b=none\/b ∈ fp:=by have:=z.1;rw [<-hX'] at this;exact this
    rcases z1 with z1 | z1
    ·rw [q] at z1;cases z1
    ·exact hb z1
   have hok3:HOk X.prog X.w H9 h3:=λa o q=>by
    refine (hok9 a o q).stay (λb u hb r=>keepT b u r ?_) (λ_ r=>r) λ_ _ r=>r
    rcases hb with rfl | hb
    ·rw [q];intro z;cases z
    ·rw [hb];intro z;cases z
   refine z9 e pins σ _ (I2.call' (s':={ s9 with heap:=h3 }) (ch:=fp) ?_ ⟨λb o q nb hb hx=>?_,λb o q nb hb hx=>?_,un9.free,λb o q hx=>?_,un9.tups,un9.frzs,un9.tbls⟩ hok3 I9.bare λb hb=>?_) (x3.ex.imp newN)
   ·have:=I9.os
    rw [<-hX'] at this
    exact this
   ·have q9:=un9.keep b o q nb hb hx
    exact c3.keep b o ((hsb.2 b (old_ne b o q).2).trans (c1.keep b o q9 hb λz=>absurd z (oldN b o q hx))) hb λz=>absurd z (oldN b o q hx)
   ·obtain⟨sl,q9⟩:=un9.slot b o q nb hb hx
    obtain⟨sl1,r1⟩:=c1.slot b _ q9 hb
    obtain⟨sl3,r3⟩:=c3.slot b _ ((hsb.2 b (old_ne b o q).2).trans r1) hb
    exact⟨sl3,r3⟩
   ·obtain⟨o9,q9⟩:=un9.there b o q hx
    obtain⟨o1,r1⟩:=c1.there b _ q9
    exact c3.there b o1 ((hsb.2 b (old_ne b o q).2).trans r1)
   ·obtain⟨q0,q1,q2,q3,q4,q5⟩:=f2 b hb
    exact⟨q3,q1,q4,q5⟩
  have fly:wpAny (model X.prog X.w) X.A (setFlight (.ref e) cenv.frame >>= λ_=>(throw (Value.ref e):Sem Value)) (λ_ _=>False) X.xe { s9 with heap:=h2 }:=
   wpAny_bind (d5 (s:={ s9 with heap:=h2 }) (fs:=frs X.stack) fs2 x2 λh3 c3 x3=>wpAny_throw (step h3 c3 x3))
  first
   | exact fly
   | exact wpAny_bind (wpAny_pure fly)
 -- the loop
 have loop:∀ s3:Shared,s3={ s2 with heap:=pushCells ((s2.heap.push lo).push { cls:=.type "dict",data:=.dict #[] }) scope.names }->
   codeAny (model X.prog X.w) X.A (.compLoop (.ListComp elt [⟨tg,iter,[],0⟩] scope pos) 0 (.ref it) (.ref D) (compEnvC scope cells (D+1) X.env))
    (compPost (model X.prog X.w) X.A X.xe none (EP X pins σ Q) (.ref D) (D+1)) s3:=by
  rintro s3 rfl
  refine dD (λn s'=>∃ i ys its k H',Inv X' [(D,{ cls:=.type "list",data:=.seq its.toArray k })] (emb σ) H' s'/\aD ys its/\tn i s'.heap/\(∀ b ∈ fp,H' b=none)/\ys.length<=sizeLine/\W i n ys H') ?_ m0
   ⟨0,[],[],0,H2,?_,.nil,?_,λb hb=>(f2 b hb).1,Nat.zero_le _,w0⟩
  ·rintro n s4 ⟨i,ys,its,k,H4,I4,rv,st4,fr4,hlen,w4⟩
   have hps:∀ p ∈ [(D,({ cls:=.type "list",data:=.seq its.toArray k }:Obj))],p.1=D:=λp hp=>by
    have:=List.mem_singleton.mp hp
    rw [this]
   obtain⟨go,hlt,N,hN,step⟩:=turn i n ys H4 w4
   have TI':=T.item X' hP hw (by rw [<-hX'];rfl) (by rw [<-hX'];exact hc) i _ s4 (emb σ) H4 (λ_ _=>False) I4 (hfpX fr4 hps) st4 go
   rw [hA] at TI'
   refine thn TI' λr s5 ⟨u,hr,h5⟩=>?_
   subst hr
   refine thn h5 λ_ s6 ⟨x,H6,I6,r6,y6,st6,fr6⟩=>?_
   have I6':=I6.pinned (hfpX fr6 hps) (T.obj _ _ st6)
   have G:=hg cells s2 H2 (D+1) fp
   have EE:=he cells s2 H2 (D+1) fp
   rw [hX'] at G EE
   have G':=G _ s6 (emb σ) H6 x u _ I6' r6 (step x H6 y6)
   rw [hA,hP,hw,hE,hxe] at G'
   refine thn G' λ_ s7 ⟨σ7,H7,I7,sb7,q7⟩=>?_
   -- what is pinned
   have pin_fp:∀ {σ9:St}{H9:Hp}{s9:Shared},Inv X' ([(D,({ cls:=.type "list",data:=.seq its.toArray k }:Obj))]++eu fp s6.heap) σ9 H9 s9->tn (i+1) s9.heap/\∀ b ∈ fp,H9 b=none:=λ{σ9 H9 s9} I9=>
    ⟨T.keep _ _ _ st6 λb hb o e=>(I9.pin (b,o) (List.mem_append_right _ (List.mem_append_right _ (cD hb e)))).1,λb hb=>by
     obtain⟨o,e,_⟩:=T.obj _ _ st6 b hb
     exact (I9.pin (b,o) (List.mem_append_right _ (List.mem_append_right _ (cD hb e)))).2.1⟩
   have E':wpAny (model X.prog X.w) X.A (eval elt (compEnvC scope cells (D+1) X.env)) (EP (X'.zx Cv (XE X Cv)) ([(D,({ cls:=.type "list",data:=.seq its.toArray k }:Obj))]++eu fp s6.heap) σ7 λv H4=>N (ys++[v]) H4) (X'.zx Cv (XE X Cv)).xe s7:=by
    have q:=EE _ s7 σ7 H7 _ (I7.wish _) q7
    have q':wpAny (model X'.prog X'.w) X'.A (eval elt X'.env) _ (X'.zx Cv (XE X Cv)).xe s7:=q
    rw [hA,hP,hw,hE] at q'
    exact q'
   refine wpAny_mono E' (λy s9 ⟨v9,H9,I9z,r9,n9⟩=>?_) λu s9 hx=>out s9 u hx
   have I9:=I9z.unwish
   obtain⟨m',hm,w9⟩:=hN _ _ n9
   have pD9:=I9.pin (D,{ cls:=.type "list",data:=.seq its.toArray k }) (List.mem_append_right _ (List.mem_append_left _ List.mem_cons_self))
   have hl:=rv.length
   have I9n:Inv X' [] σ7 H9 s9:=I9.pins_of λp hp=>nomatch hp
   refine call_meets F.slot_list_append ⟨_,pD9.1,rfl⟩ F.entry_list_append (F.args_list_append_2 _ _) (PySem.list_append D its.toArray k y (by rw [List.size_toArray];lia)) ⟨pD9.1,?_⟩
   have up:∃ k':Nat,(s9.heap.update D (Obj.mapSeq λxs=>xs.push y)).get? D=some { cls:=.type "list",data:=.seq (its++[y]).toArray k' }:=by
    have q:=PySem.IsL.update pD9.1 (λxs:Array Value=>xs.push y)
    simp only [List.push_toArray] at q
    exact⟨_,q⟩
   obtain⟨k',up⟩:=up
   have hoth:∀ b o,b≠D->s9.heap.get? b=some o->(s9.heap.update D (Obj.mapSeq λxs=>xs.push y)).get? b=some o:=λb o hb e=>(Heap.get?_update_other s9.heap _ (Ne.symm hb)).trans e
   have I10:=I9n.turned (t':=s9.toks) hoth pD9.2.1 Dloc Dex Dcell (λp hp=>absurd (show p ∈ ([]:List (Addr×Obj)) by rw [<-hX'] at hp;exact hp) (by simp))
   refine⟨m',hm,i+1,ys++[v9],its++[y],k',H9,(I10.weak sb7.1 sb7.2).pins_of (λp hp=>?_),rv.append (.cons r9 .nil),T.keep _ _ _ (pin_fp I9).1 (λb hb o e=>hoth b o (by rw [<-hD];exact Nat.ne_of_lt (fplt b hb)) e),(pin_fp I9).2,?_,w9⟩
   ·have:=List.mem_singleton.mp hp
    subst this
    exact⟨up,pD9.2.1,Dloc,Dfs,λv z=>by cases z⟩
   ·rw [List.length_append,List.length_singleton]
    lia
  ·have q:lo={ cls:=.type "list",data:=.seq ([]:List Value).toArray 0 }:=hlo.symm
   rw [<-q]
   exact I3
  ·exact T.keep _ _ _ st2 λb hb o e=>pushCells_keeps _ _ b o (Heap.get?_push_of_some _ (Heap.get?_push_of_some _ e))
 refine codeAny_compStart_list ?_ ?_
 ·exact loop _ rfl
 ·refine T.self X.A 0 _ _ _ (T.keep _ _ _ st2 λb hb o e=>pushCells_keeps _ _ b o (Heap.get?_push_of_some _ (Heap.get?_push_of_some _ e))) ?_
  exact loop _ rfl
end
noncomputable def gS (g:Tg) (te:Ef) (xe:Rf) (env:Ev):List D->Sto->Option Sto
 | [],_=>none
 | d::ds,st=>(dq g (.d d) env).bind λe=>match xe e st with
  | some s=>some s
  | none=>(te e st).bind λx=>(gO [x.1]).bind λ_=>gS g te xe env ds x.2
noncomputable def xLc (k:Nat) (js:List Nat) (fi:Lf) (g:Tg) (te:Ef) (xe:Rf):Rf
 | env,st=>(fi env st).bind λr=>if r.1.length<=1000000 then gS g te xe (eA k js env) r.1 r.2 else none
section
variable {K:PySem.W.Frag}{X:Cx}{scope:Scope}{Nc:List Str}{k:Nat}{js:List Nat}{elt iter tg:Expr}{pos:Pos}{fi:Lf}{g:Tg}{te:Ef}{xe:Rf}{C:Value}
theorem sG (S:dc X scope Nc (dC k js)) (hc:X.calm=true) (hgi:∀ j ∈ nM g,j < k) (hst:X.stack=X.env::X.outer) (hi:II K X.nox tg iter fi)
  (hg:∀ cells s H Ca fp,PG (lcX X scope cells Nc s H Ca fp) tg (tG K g)) (he:∀ cells s H Ca fp,IE K (lcX X scope cells Nc s H Ca fp) elt te)
  (hx:∀ cells s H Ca fp,RE K ((lcX X scope cells Nc s H Ca fp).zx C (XE X C)) C elt xe)
  (hs:∀ x,foldedSetIterable iter X.env x=pure x:=by intro _;rfl):RE K X C (.ListComp elt [⟨tg,iter,[],0⟩] scope pos) (xLc k js fi g te xe):=by
 refine⟨λenv st st' hr=>?_⟩
 simp only [xLc,Option.bind_eq_some_iff] at hr
 obtain⟨⟨ds,s1⟩,hy,hr⟩:=hr
 have hr':(if ds.length<=1000000 then gS g te xe (eA k js env) ds s1 else none)=some st':=hr
 by_cases hdn:¬ ds.length<=1000000
 ·rw [if_neg hdn] at hr';cases hr'
 have hdl:ds.length<=1000000:=by lia
 rw [if_pos hdl] at hr'
 refine (qE (Cv:=C) (te:=λσ H Q=>kO K te σ H Q\/∃ env st s',xe env st=some s'/\∃ φ,Er K H φ env σ/\Sr K H φ st/\∀ H' φ',Fw φ φ' H H'->Sr K H' φ' s'->XE X C H') S hc hst (hi.run _ _ _ hy).nox hg (λcells s H Ca fp=>?_) hs).imp ?_
 ·have n1:PE ((lcX X scope cells Nc s H Ca fp).zx C (XE X C)) elt (kO K te):=PE.nox (X:=(lcX X scope cells Nc s H Ca fp).zx C (XE X C)) (he cells s H Ca fp).any
  refine n1.or ((hx cells s H Ca fp).any.imp ?_)
  rintro σ H Q ⟨env,st,s',e,φ,hE,hS,q⟩
  exact⟨env,st,s',e,φ,hE,hS,λH' φ' f' S'=>rK (q H' φ' f' S')⟩
 rintro σ H Q ⟨φ,hE,hS,q⟩
 refine⟨φ,hE,hS,λJ H1 φ1 f1 S1 yl=>?_⟩
 have hE1:=(hE.fw hS f1).emb k js
 refine⟨λi m ys H2=>m=ds.length - i/\i<=ds.length/\ys.length<=i/\∃ st φ2,Fw φ1 φ2 H1 H2/\Sr K H2 φ2 st/\gS g te xe (eA k js env) (ds.drop i) st=some st',⟨ds.length,by simp,Nat.zero_le _,Nat.le_refl _,s1,φ1,Fw.refl _ _,S1,hr'⟩,?_⟩
 rintro i m ys H2 ⟨rfl,hi,hle,st2,φ2,f2,S2,h2⟩
 obtain⟨y1,y2⟩:=yl H2 φ2 st2 i f2 S2
 have hlt:i < ds.length:=by
  rcases Nat.lt_or_ge i ds.length with h | h
  ·exact h
  ·rw [List.drop_eq_nil_of_le h] at h2;cases h2
 obtain⟨go,yld⟩:=y1 ds[i] (List.getElem?_eq_getElem hlt)
 rw [List.drop_eq_getElem_cons hlt] at h2
 simp only [gS,Option.bind_eq_some_iff] at h2
 obtain⟨e3,he3,h3⟩:=h2
 have hz:ys.length < sizeLine:=by
  have:sizeLine=16777216:=sizeLine_eq
  lia
 refine⟨go,hz,λys' H'=>i+1<=ds.length/\ys'.length<=i+1/\∃ st φ2,Fw φ1 φ2 H1 H'/\Sr K H' φ2 st/\gS g te xe (eA k js env) (ds.drop (i+1)) st=some st',λys' H' ⟨hn,p'⟩=>⟨ds.length - (i+1),by lia,rfl,hn,p'⟩,λx H' y=>?_⟩
 obtain⟨sm,rx⟩:=yld x H' y
 have S3:=S2.same sm
 have f3:=f2.trans (Fw.same (φ:=φ2) sm)
 refine⟨φ2,st2,eA k js env,.d ds[i],e3,hE1.fw S1 f3,S3,rx,he3,λσ' e' stay=>⟨Sub.stay stay hgi,?_⟩⟩
 cases hxx:xe e3 st2 with
 | some s4=>
  rw [hxx] at h3
  cases h3
  exact .inr ⟨e3,st2,_,hxx,φ2,e',S3,λH4 φ4 f4 S4=>q H4 φ4 (f1.trans (f3.trans f4)) S4⟩
 | none=>
  rw [hxx] at h3
  obtain⟨x5,hx5,h3⟩:=Option.bind_eq_some_iff.mp h3
  obtain⟨zs,hzs,h3⟩:=Option.bind_eq_some_iff.mp h3
  refine .inl ⟨e3,st2,x5,hx5,φ2,e',S3,λv H5 φ5 f5 S5 w5=>?_⟩
  exact⟨hlt,by rw [List.length_append,List.length_singleton];lia,x5.2,φ5,f3.trans f5,S5,h3⟩
end
end L2
namespace L2
open PySem PySem.Spec PyProof.Rows PySem.W Builtin Builtin.ObjectAttr Builtin.Getset_descriptor
noncomputable def ExH (e C:Addr) (h:Heap):Prop:=∃ oe vs,h.get? e=some oe/\oe.cls=.ref C/\oe.data=.fields vs
noncomputable def gv (K:Frag) (C:Addr):Bool:=(clsIn K C).isSome && findIn K (.ref C) "__getattribute__"==some (some (.builtin "BaseException.__getattribute__")) && findIn K (.ref C) "__getattr__"==some none
 && findIn K (.ref C) "__class__"==some (some (.builtin "object.__class__")) && subIn K (.ref C) (.type "BaseException")==some true && mroIn K C (.type "object")==some true
section
variable {prog:Program}{w:World}{A:Around}{E:Value->Shared->Prop}{K:Frag}{h:Heap}{g:Array GenState}{d:Drawn}{t:Nat}{os:OsState}{a C:Addr}{o:Obj}{vs:Array Value}
theorem pB {R:Result->Shared->Prop}{tp:Value} (X:K.In h) (hm:mroIn K C (.type "object")=some true) (hx:h.get? a=some o) (hc:o.cls=.ref C)
  (hq:R (.ok (.ret (.ref C))) ⟨h,g,d,t,os⟩):codeAny (model prog w) A (.call (.builtin "getset_descriptor.__get__") ⟨[.builtin "object.__class__",.ref a,tp],[]⟩) R ⟨h,g,d,t,os⟩:=by
 have L0:Looks (model prog w) h (typeOf (.ref a)) (.ref C):=hc ▸ (Looks.ld hx).andThen .now
 have L1:=looks_mroIn (M:=model prog w) X hm
 refine codeAny_call_builtin KF.slot_gs.plain KF.entry_gs (KF.slot_gs.check _ _ _ _ _ _ _ _ KF.type_class (KF.args_gs _ _ _) ?_)
 unfold Builtin.«getset_descriptor.__get__» descrGet
 rw [dga_obj]
 refine wpAny_bind (wpAny_pure ?_)
 unfold descrGetter descrCheckInstance descrNameAndClass isInstance
 simp only [KF.owner_class]
 repeat lk
 refine⟨Code.quiet_builtin _ (by decide +kernel),codeAny_builtin KF.entry_class ?_⟩
 unfold Builtin.«object.__class__» shownTypeOf
 repeat lk
 exact hq
theorem lV {M:Model}{nameV:Value}{Q:Unit->Shared->Prop} (X:K.In h) (hb:subIn K (.ref C) (.type "BaseException")=some true)
  (hx:h.get? a=some o) (hc:o.cls=.ref C) (hq:Q () ⟨h,g,d,t,os⟩):wpAny M A (checkBuiltinCall "BaseException.__getattribute__" ⟨[.ref a,nameV],[]⟩) Q E ⟨h,g,d,t,os⟩:=by
 have hk:builtinKind "BaseException.__getattribute__" = some .slot:=by decide +kernel
 have hsplit:splitId "BaseException.__getattribute__" = some ("BaseException","__getattribute__"):=by decide +kernel
 have ha:=F.args_bexc_ga (.ref a) nameV
 simp only [checkBuiltinCall,hk,hsplit]
 refine wpAny_bind ?_
 ·unfold isInstance
  repeat (first | (with_reducible refine wpAny_loadPart_at hx ?_;rw [hc]) | with_reducible refine (looks_subIn X hb).at ?_ | wp_step)
  exact hq
theorem lZ {tk:Tok}{Q:Fin->Shared->Prop} (X:K.In h) (hm:mroIn K C (.type "object")=some true) (hcl:findIn K (.ref C) "__class__" = some (some (.builtin "object.__class__")))
  (hx:h.get? a=some o) (hc:o.cls=.ref C) (hq:Q (.done (.ret (.ref C))) ⟨h,g,d,t,os⟩) :
  wpAny (model prog w) A (Builtin.«object.__getattribute__» ⟨[.ref a,.str "__class__" tk],[]⟩) Q E ⟨h,g,d,t,os⟩:=by
 have hT5:(⟨h,g,d,t,os⟩:Shared).TypeIs (.builtin "object.__class__") "getset_descriptor":=F.typeOf_object_class
 have f5:=F.typeOf_object_class
 have f6:=F.slot_gs_get.lookup
 have f7:=F.slot_gs_set.lookup
 repeat (any_goals (first | assumption | (with_reducible refine wpAny_loadPart_at hx ?_;rw [hc]) | with_reducible refine (looks_findIn X hcl).at ?_ | wp_step))
 refine pB X hm hx hc ?_
 repeat (any_goals (first | assumption | wp_step))
theorem rE {tk:Tok}{fill expr:Bool}{Q:Value->Shared->Prop} (X:K.In h) (hk:gv K C=true) (hx:h.get? a=some o) (hc:o.cls=.ref C) (hq:Q (.ref C) ⟨h,g,d,t,os⟩) :
  wpAny (model prog w) A (getAttrBy (.ref a) (.str "__class__" tk) fill expr) Q E ⟨h,g,d,t,os⟩:=by
 unfold gv at hk
 simp only [Bool.and_eq_true,beq_iff_eq] at hk
 obtain⟨⟨⟨⟨⟨k0,k1⟩,k2⟩,k3⟩,k4⟩,k5⟩:=hk
 have FB:=PySem.F.attrBase_ValueError
 have f3:=FB.ga.bind (.ref a)
 have hx0:(expr && onTheHeap (Value.builtin "BaseException.__getattribute__"))=false:=by cases expr<;>rfl
 have hx2:(Value.builtin "BaseException.__getattribute__"==Value.builtin "object.__getattribute__")=false:=by decide +kernel
 have hx1:(onTheHeap (Value.ref C) && Value.builtin "BaseException.__getattribute__"==Value.builtin "object.__getattribute__")=false:=by rw [hx2];rfl
 repeat (any_goals (first | assumption | (with_reducible refine wpAny_loadPart_at hx ?_;rw [hc]) | with_reducible refine (looks_findIn X k1).at ?_ | with_reducible refine (looks_findIn X k2).at ?_ | wp_step))
 refine codeAny_call_builtin FB.ga.plain F.entry_bexc_ga (lV X k4 hx hc (lZ X k5 k3 hx hc ?_))
 repeat (any_goals (first | assumption | wp_step))
theorem oE {Q:Option Value->Shared->Prop} (X:K.In h) (hk:gv K C=true) (hx:h.get? a=some o) (hc:o.cls=.ref C) (hq:Q (some (.ref C)) ⟨h,g,d,t+1,os⟩) :
  wpAny (model prog w) A (getAttr? (.ref a) "__class__") Q E ⟨h,g,d,t,os⟩:=by
 unfold getAttr? getAttrBy?
 repeat (any_goals (first | assumption | with_reducible apply rE X hk hx hc | wp_step))
end
theorem je {K:Frag}{e C:Addr} (hk:gv K C=true):KitX K (.ref e) (.ref C) (ExH e C) where
 ty:=λM h _ p=>by
  obtain⟨oe,vs,h1,h2,_⟩:=p
  exact h2 ▸ (Looks.ld h1).andThen .now
 it:=λ_ _ X _=>by
  unfold gv at hk
  simp only [Bool.and_eq_true,beq_iff_eq] at hk
  have k0:=hk.1.1.1.1.1
  unfold clsIn at k0
  split at k0
  ·rename_i c' d' cd' sl' ho
   intro A' Q' E' s' k q
   unfold isType loadHead
   exact wpAny_bind (wpAny_loadPart (k _ _ (X _ _ ho)) (wpAny_pure q))
  ·cases k0
 ne:=λh tp dd its n sl X htp=>by
  unfold gv at hk
  simp only [Bool.and_eq_true,beq_iff_eq] at hk
  have k0:=hk.1.1.1.1.1
  refine Bool.eq_false_iff.mpr λq=>?_
  have e:C=tp:=Value.ref.inj (beq_iff_eq.mp q)
  subst e
  unfold clsIn at k0
  split at k0
  ·rename_i ho
   have:=X _ _ ho
   rw [htp] at this
   cases this
  ·cases k0
 ca:=λ{_ _ _ _ _ s} X p k=>by
  obtain⟨h,g,d,t,os⟩:=s
  obtain⟨oe,vs,h1,h2,_⟩:=p
  exact oE X hk h1 h2 k
end L2
namespace L2
open PySem PySem.Spec PyProof.Rows PySem.W
section
variable {X:Cx}{pins:List (Addr×Obj)}{σ:St}{H:Hp}{s:Shared}{h':Heap}
theorem Inv.chg {N:Addr->Prop} (I:Inv X pins σ H s) (c:Chg N H (frs X.stack) s.heap h') (hN:∀ b,N b->(X.s₀.heap.get? b=none\/b ∈ X.ex)/\∀ p ∈ X.pn++pins,p.1≠b):Inv X pins σ H { s with heap:=h' }:=by
 have any:∀ b o,s.heap.get? b=some o->(∀ vs,o.data≠.fields vs)->∃ sl,h'.get? b=some { o with slots:=sl }:=λb o e d=>by
  by_cases hb:b ∈ frs X.stack
  ·exact c.slot b o e hb
  ·exact⟨o.slots,c.keep b o e hb λ_=>.inl d⟩
 have old:∀ b o,X.s₀.heap.get? b=some o->b ∉ X.ex->¬ N b:=λb o e hx z=>by
  rcases (hN b z).1 with q | q
  ·rw [e] at q;cases q
  ·exact hx q
 have neL:∀ b o,X.s₀.heap.get? b=some o->b≠X.env.locals:=λb o e=>Nat.ne_of_lt (Nat.lt_of_lt_of_le (Heap.lt_size e) I.ok.above)
 have cellK:∀ cc v,s.heap.IsCell cc v->h'.IsCell cc v:=λcc v ⟨o,ho,hd⟩=>by
  obtain⟨sl,q⟩:=any cc o ho (λvs z=>by rw [hd] at z;cases z)
  exact⟨_,q,hd⟩
 refine⟨I.ok,I.os,I.bare,⟨λb o e n hb hx=>?_,λb o e n hb hx=>?_,I.base.free,λb o e hx=>?_,I.base.tups,I.base.frzs,I.base.tbls⟩,?_,λx cc e=>?_,I.free,I.freeC,λp hp=>?_,c.hok I.hok I.stkFree,I.len⟩
 ·refine c.keep b o (I.base.keep b o e n hb hx) (λz=>?_) λz=>absurd z (old b o e hx)
  rcases List.mem_cons.mp (I.stkSub b z) with q | q
  ·exact neL b o e q
  ·exact hb q
 ·obtain⟨sl,e1⟩:=I.base.slot b o e n hb hx
  by_cases hs:b ∈ frs X.stack
  ·obtain⟨sl',e2⟩:=c.slot b _ e1 hs
   exact⟨sl',e2⟩
  ·exact⟨sl,c.keep b _ e1 hs λz=>absurd z (old b o e hx)⟩
 ·obtain⟨o',e1⟩:=I.base.there b o e hx
  exact c.there b o' e1
 ·obtain⟨m,⟨o,es,ep,ho,hd,hr⟩,hl⟩:=I.loc
  obtain⟨sl,q⟩:=any _ o ho (λvs z=>by rw [hd] at z;cases z)
  refine⟨m,⟨_,es,ep,q,hd,hr⟩,λi x v e1 e2 e3=>?_⟩
  obtain⟨u,r,l⟩:=hl i x v e1 e2 e3
  refine⟨u,r,?_⟩
  rcases l with l | ⟨k,cc,e,z⟩
  ·exact .inl l
  ·exact .inr ⟨k,cc,e,cellK cc _ z⟩
 ·obtain⟨v,z⟩:=I.cell x cc e
  exact⟨v,cellK cc v z⟩
 ·obtain⟨e,n,ne,nf,d⟩:=I.pin p hp
  refine⟨c.keep p.1 p.2 e (λz=>?_) (λz=>absurd rfl ((hN p.1 z).2 p hp)),n,ne,nf,d⟩
  rcases List.mem_cons.mp (I.stkSub p.1 z) with q | q
  ·exact ne q
  ·exact nf q
theorem Inv.goes {m':Str->Option Value}{t':Nat} (I:Inv X pins σ H s) (hn:h'.Ns X.env.locals m') (hsb:Heap.SameBut X.env.locals s.heap h'):Inv X pins (List.replicate X.N.length none) H { s with heap:=h',toks:=t' }:=by
 have neL:∀ b o,X.s₀.heap.get? b=some o->b≠X.env.locals:=λb o e=>Nat.ne_of_lt (Nat.lt_of_lt_of_le (Heap.lt_size e) I.ok.above)
 refine⟨I.ok,I.os,I.bare,⟨λb o e n hb hx=>?_,λb o e n hb hx=>?_,I.base.free,λb o e hx=>?_,I.base.tups,I.base.frzs,I.base.tbls⟩,⟨m',hn,λi x v e1 e2 _=>?_⟩,λx cc e=>?_,I.free,I.freeC,λp hp=>?_,λa o e=>?_,by rw [List.length_replicate]⟩
 ·exact (hsb.2 b (neL b o e)).trans (I.base.keep b o e n hb hx)
 ·obtain⟨sl,e1⟩:=I.base.slot b o e n hb hx
  exact⟨sl,(hsb.2 b (neL b o e)).trans e1⟩
 ·obtain⟨o',e1⟩:=I.base.there b o e hx
  exact⟨o',(hsb.2 b (neL b o e)).trans e1⟩
 ·rw [List.getElem?_replicate] at e2
  split at e2<;>cases e2
 ·obtain⟨v,o,ho,hd⟩:=I.cell x cc e
  exact⟨v,o,(hsb.2 cc (I.cne x cc e)).trans ho,hd⟩
 ·obtain⟨e,n,ne,nf,d⟩:=I.pin p hp
  exact⟨(hsb.2 p.1 ne).trans e,n,ne,nf,d⟩
 ·have nL:∀ b,H b≠none->b≠X.env.locals:=λb hb z=>hb (z ▸ I.free)
  refine (I.hok a o e).stay (λb u hb q=>(hsb.2 b (nL b ?_)).trans q) (λ_ q=>q) λ_ _ q=>q
  rcases hb with rfl | hb
  ·rw [e];intro z;cases z
  ·rw [hb];intro z;cases z
end
theorem jp {M:Model}{A:Around}{E:Value->Shared->Prop}{K:Frag}{h:Heap}{g:Array GenState}{d:Drawn}{t:Nat}{os:OsState}{e C S:Addr}{oe:Obj}{Q:Bool->Shared->Prop} (X:K.In h)
  (he:h.get? e=some oe) (hcls:oe.cls=.ref C) (hty:typeIn K (.ref S)=some (.type "type")) (hcl:(clsIn K S).isSome=true) (hB:subIn K (.ref S) (.type "BaseException")=some true) (hs:subIn K (.ref C) (.ref S)=some true)
  (hq:Q true ⟨h,g,d,t,os⟩):wpAny M A (excMatches (.ref e) (.ref S)) Q E ⟨h,g,d,t,os⟩:=by
 have f:=tc_notTuple
 have L1:=looks_typeIn (M:=M) X hty
 have LC:Looks M h (isType (.ref S)) true:=by
  unfold clsIn at hcl
  split at hcl
  ·rename_i c' d' cd' sl' ho
   intro A' Q' E' s' k q
   unfold isType loadHead
   exact wpAny_bind (wpAny_loadPart (k _ _ (X _ _ ho)) (wpAny_pure q))
  ·cases hcl
 have L0:Looks M h (typeOf (.ref e)) (.ref C):=hcls ▸ (Looks.ld he).andThen .now
 have LB:=looks_subIn (M:=M) X hB
 have LS:=looks_subIn (M:=M) X hs
 unfold excMatches isInstance isExcClass
 repeat (first | with_reducible refine L1.at ?_ | with_reducible refine L0.at ?_ | with_reducible refine LC.at ?_ | with_reducible refine LB.at ?_ | with_reducible refine LS.at ?_ | wp_step)
 exact hq
end L2
namespace L2
open PySem PySem.Spec PyProof.Rows PySem.W
abbrev Cx.pw (X:Cx) (pn:List (Addr×Obj)) (E:Value->Shared->Prop):Cx:={ X with pn:=pn,xe:=E }
abbrev Cx.hdl (X:Cx) (e:Addr) (oe:Obj):Cx:={ X with A:=X.A.mark (some (.ref e)),calm:=false,pn:=X.pn++[(e,oe)],xe:=λ_ _=>False }
theorem Cx.Ok.pw {X:Cx} (ok:X.Ok) (pn:List (Addr×Obj)) (E:Value->Shared->Prop):(X.pw pn E).Ok:=
 ⟨ok.mod,ok.kind,ok.glob,ok.blt,ok.above,ok.inj,ok.has,ok.cab,ok.hd,ok.frames,ok.stk,ok.exf,ok.bs,ok.bsz,ok.noex,ok.exfs,ok.funs,ok.frf⟩
theorem Cx.Ok.hdl {X:Cx} (ok:X.Ok) (e:Addr) (oe:Obj):(X.hdl e oe).Ok:=
 ⟨ok.mod,ok.kind,ok.glob,ok.blt,ok.above,ok.inj,ok.has,ok.cab,(λz=>nomatch z),ok.frames,ok.stk,ok.exf,ok.bs,ok.bsz,ok.noex,ok.exfs,ok.funs,ok.frf⟩
theorem Inv.pw {X:Cx}{pins:List (Addr×Obj)}{σ:St}{H:Hp}{s:Shared} (I:Inv X pins σ H s) (E:Value->Shared->Prop):Inv (X.pw (X.pn++pins) E) [] σ H s:=
 ⟨I.ok.pw _ E,I.os,I.bare,I.base,I.loc,I.cell,I.free,I.freeC,λp hp=>I.pin p (by simpa using hp),I.hok,I.len⟩
theorem Inv.unpw {X:Cx}{pins ps:List (Addr×Obj)}{σ:St}{H:Hp}{s:Shared}{E:Value->Shared->Prop} (I:Inv (X.pw (X.pn++pins) E) ps σ H s) (ok:X.Ok):Inv X pins σ H s:=
 ⟨ok,I.os,I.bare,I.base,I.loc,I.cell,I.free,I.freeC,λp hp=>I.pin p (List.mem_append_left _ hp),I.hok,I.len⟩
theorem Inv.hdl {X:Cx}{pins:List (Addr×Obj)}{σ:St}{H:Hp}{s:Shared} (I:Inv X pins σ H s) {e:Addr}{oe:Obj} (h1:s.heap.get? e=some oe) (h2:H e=none) (h3:e≠X.env.locals) (h4:e ∉ X.fs) (h5:∀ v,oe.data≠.cell v):Inv (X.hdl e oe) pins σ H s:=
 ⟨I.ok.hdl e oe,I.os,I.bare,I.base,I.loc,I.cell,I.free,I.freeC,λp hp=>by
  rcases List.mem_append.mp hp with hp | hp
  ·rcases List.mem_append.mp hp with hp | hp
   ·exact I.pin p (List.mem_append_left _ hp)
   ·have:=List.mem_singleton.mp hp
    subst this
    exact⟨h1,h2,h3,h4,h5⟩
  ·exact I.pin p (List.mem_append_right _ hp),I.hok,I.len⟩
theorem Inv.unhdl {X:Cx}{pins:List (Addr×Obj)}{σ:St}{H:Hp}{s:Shared}{e:Addr}{oe:Obj} (I:Inv (X.hdl e oe) pins σ H s) (ok:X.Ok):Inv X pins σ H s:=
 ⟨ok,I.os,I.bare,I.base,I.loc,I.cell,I.free,I.freeC,λp hp=>I.pin p (by
  rcases List.mem_append.mp hp with hp | hp
  ·exact List.mem_append_left _ (List.mem_append_left _ hp)
  ·exact List.mem_append_right _ hp),I.hok,I.len⟩
noncomputable def mJ (gb:Sf) (xb:Rf) (w:D):Sf
 | env,st=>match gb env st with
 | some r=>some r
 | none=>(xb env st).map λs=>.rt (.d w) s
noncomputable def ox (K:Frag) (C S:Addr):Bool:=typeIn K (.ref S)==some (.type "type") && (clsIn K S).isSome && subIn K (.ref S) (.type "BaseException")==some true && subIn K (.ref C) (.ref S)==some true
section
variable {K:Frag}{X:Cx}{C S:Addr}{x n:Str}{i:Nat}{np hpos pos:Pos}{body suite:List Stmt}{b₀:Stmt}{gb:Sf}{xb:Rf}{w:D}{v:V}
theorem qc (hst:X.stack=X.env::X.outer) (hN:X.N.Nodup) (hi:X.N[i]?=some n) (hl:X.env.scope.names.lookup n=some .local) (hb:ISs K X.nox body gb) (hx:∀ pn E,RSs K (X.pw pn E) (.ref C) body xb)
  (hg:Gl X x) (hm:X.mg x=some (.ref S)) (hk:ox X.K C S=true) (hh:∀ e oe vs,oe.cls=.ref C->oe.data=.fields vs->PSs (X.hdl e oe) (b₀::suite) (λD σ H=>σ[i]?=some (some (.ref e))/\∀ H1,aM H H1->D.rt v H1))
  (hv:∀ H φ,Rl K H φ w v) (hd:(x==("__debug__" : Str))=false:=by decide) :
  IS K X (.Try body [.ExceptHandler (some (.Name x np)) (some n) (b₀::suite) hpos] [] [] pos) (mJ gb xb w):=by
 refine⟨λenv st r hr=>?_⟩
 simp only [mJ] at hr
 rintro pins s σ H D I ⟨φ,hE,hS,q⟩
 refine wpAny_Try_except ?_
 cases hgb:gb env st with
 | some r0=>
  rw [hgb] at hr
  cases hr
  refine wpAny_mono (hb.run _ _ _ hgb pins s σ H D (I.wish _) ⟨φ,hE,hS,q⟩) (λf s1 z=>?_) λ_ _ z=>False.elim z
  cases f with
  | next=>exact wpAny_execs_nil (SP.unwish (f:=.next) z)
  | brk=>exact SP.unwish (f:=.brk) z
  | cont=>exact SP.unwish (f:=.cont) z
  | ret u=>exact SP.unwish (f:=.ret u) z
 | none=>
  rw [hgb] at hr
  obtain⟨st',hxb,rfl⟩:=Option.map_eq_some_iff.mp hr
  generalize hEE:(λ(u:Value) (s1:Shared)=>wpAny (model X.prog X.w) X.A (noteFrame u X.env) (λ_ s₂=>wpAny (model X.prog X.w) X.A (setFlight u none) (λ_ s₃=>wpAny (model X.prog X.w) X.A (handleBy u X.env [.ExceptHandler (some (.Name x np)) (some n) (b₀::suite) hpos]) (SP X pins D) X.xe s₃) X.xe s₂) X.xe s1)=EE
  refine wpAny_mono ((hx (X.pn++pins) EE).run _ _ _ hxb [] s σ H { nx:=λ_ _=>False,rt:=λ_ _=>False } (I.pw EE) ⟨φ,hE,hS,λH' φ' f' S'=>?_⟩) (λf s1 z=>?_) λu s1 z=>?_
  ·intro e pins' σ' s1 I1 x1
   show EE (.ref e) s1
   rw [<-hEE]
   have IX:=I1.unpw I.ok
   have hfr:X.env.frame=some X.env.locals:=by
    rcases I.ok.stk with z | z
    ·rw [hst] at z
     exact absurd (congrArg List.length z) (by rw [List.length_cons];exact Nat.succ_ne_self _)
    ·exact z.2
   have fr9:X.A.frames=some (X.env::X.outer):=by rw [I.ok.frames,hst]
   have ff9:s1.heap.FunFrames X.base (X.env::X.outer):=by have z:=IX.stack;rwa [hst] at z
   have hNN:∀ b,gM (X.pw (X.pn++pins) EE) b->(X.s₀.heap.get? b=none\/b ∈ X.ex)/\∀ p ∈ X.pn++pins,p.1≠b:=λb z=>z
   refine iE (base:=X.base) fr9 ff9 hfr (λa ha=>I1.new ha) (IX.hok.fresh (Nat.le_refl _)) x1 λh2 c2 x2=>?_
   rw [<-hst] at c2
   have I2:=IX.chg c2 hNN
   refine d5 (s:={ s1 with heap:=h2 }) (fs:=frs X.stack) (λb hb=>(I2.stack.mem hb).2) x2 λh3 c3 x3=>?_
   have I3:Inv X pins σ' H' { s1 with heap:=h3 }:=I2.chg c3 hNN
   unfold ox at hk
   simp only [Bool.and_eq_true,beq_iff_eq] at hk
   obtain⟨⟨⟨k1,k2⟩,k3⟩,k4⟩:=hk
   have apart:∀ {h:Heap}{oe:Obj}{vs:Array Value},Inv X pins σ' H' { s1 with heap:=h }->h.get? e=some oe->oe.data=.fields vs->e≠X.env.locals/\e ∉ X.fs:=λ{h oe vs} J he hd'=>by
    constructor
    ·rintro rfl
     obtain⟨m,⟨o,es,ep,ho,hdd,_⟩,_⟩:=J.loc
     have ho':h.get? X.env.locals=some o:=ho
     rw [he] at ho';cases ho'
     rw [hdd] at hd';cases hd'
    ·intro z
     obtain⟨_,o,ho,hnf⟩:=J.funs.mem z
     have ho':h.get? e=some o:=ho
     rw [he] at ho';cases ho'
     exact hnf vs hd'
   have x3':=x3
   obtain⟨nE,tE,oe,vs,T,oT,ts,fl,he,hc,hdt,hrest⟩:=x3'
   have ap:=apart I3 he hdt
   have I3h:Inv (X.hdl e oe) pins σ' H' { s1 with heap:=h3 }:=I3.hdl he tE ap.1 ap.2 (by intro v z;rw [hdt] at z;cases z)
   refine wpAny_handleBy_cons (codeAny_handlers_test (fS (X:=X.hdl e oe) I3h hg hm ?_ hd)) (by intro z;cases z)
   have KX:X.K.In h3:=I3.kIn
   refine jp (K:=X.K) KX he hc k1 k2 k3 k4 ?_
   show codeAny (model X.prog X.w) (X.A.mark (some (.ref e))) (.handlers (.ref e) [.ExceptHandler none (some n) (b₀::suite) hpos] X.env) _ _
   refine codeAny_handlers_suite_as ?_
   refine d5 (s:={ s1 with heap:=h3 }) (fs:=frs X.stack) (λb hb=>(I3.stack.mem hb).2) x3 λh4 c4 x4=>?_
   have I4:Inv X pins σ' H' { s1 with heap:=h4 }:=I3.chg c4 hNN
   obtain⟨nE4,tE4,oe4,vs4,T4,oT4,ts4,fl4,he4,hc4,hdt4,hrest4⟩:=x4
   have ap4:=apart I4 he4 hdt4
   have I4h:Inv (X.hdl e oe4) pins σ' H' { s1 with heap:=h4 }:=I4.hdl he4 tE4 ap4.1 ap4.2 (by intro v z;rw [hdt4] at z;cases z)
   refine dN (X:=X.hdl e oe4) (v:=.ref e) I4h hN hi (.inl hl) rfl (λs5 I5=>?_) (.inr hl)
   have hil:i < σ'.length:=by rw [I4.len];exact (List.getElem?_eq_some_iff.mp hi).1
   refine wpAny_mono (hh e oe4 vs4 hc4 hdt4 pins s5 _ H' { nx:=λ_ _=>False,rt:=D.rt } I5 ⟨by rw [List.getElem?_set_self hil],λH1 sm=>q v H1 φ' (f'.trans (Fw.same sm)) (S'.same sm) (hv H1 φ')⟩) (λf s6 z=>?_) λ_ _ z=>False.elim z
   have gone:∀ {σ6:St}{H6:Hp},Inv (X.hdl e oe4) pins σ6 H6 s6->(∀ s7,Inv X pins (List.replicate X.N.length none) H6 s7->SP X pins D f s7)->wpAny (model X.prog X.w) X.A (do bindName X.env n .none;unbindBehindTheSuite X.env n hpos) (λ_ s₃=>SP X pins D f s₃) X.xe s6:=λ{σ6 H6} I6 k=>by
    have I6':=I6.unhdl I.ok
    obtain⟨m,hn,_⟩:=id I6'.loc
    refine wpAny_nameGoes hl hn (by rw [I.ok.kind];rfl) λh7 m7 hn7 hs7=>k _ (I6'.goes hn7 hs7)
   cases f with
   | next=>obtain⟨σ6,H6,I6,z⟩:=z;exact False.elim z
   | brk=>obtain⟨σ6,H6,I6,z⟩:=z;exact False.elim z
   | cont=>obtain⟨σ6,H6,I6,z⟩:=z;exact False.elim z
   | ret u=>obtain⟨v6,σ6,H6,I6,r6,z⟩:=z;exact gone I6 λs7 I7=>⟨v6,_,H6,I7,r6,z⟩
  ·cases f with
   | next=>obtain⟨σ6,H6,I6,z⟩:=z;exact z.elim
   | brk=>obtain⟨σ6,H6,I6,z⟩:=z;exact False.elim z
   | cont=>obtain⟨σ6,H6,I6,z⟩:=z;exact False.elim z
   | ret u=>obtain⟨v6,σ6,H6,I6,r6,z⟩:=z;exact z.elim
  ·exact z
end
end L2
namespace L2
open PySem PySem.Spec PyProof.Rows PySem.W
theorem nB:bootBuiltins "ValueError" = some (.type "ValueError"):=by decide +kernel
section
variable {X:Cx}{e C L O:Addr}{oe:Obj}{vs:Array Value}{i:Nat}{b:Bool}
theorem kP {c:Value}{cv:V} (hcls:oe.cls=.ref C) (hdat:oe.data=.fields vs) (hk:gv X.K C=true) (rc:∀ u,aB cv u->u=c) (he:kitOne X.K (.ref C) c=some b) :
  cp (X.hdl e oe) (.builtin "isinstance") (λvs H Q=>vs=[.ref e,cv]/\Q (.bl b) H):=by
 rintro pins s σ H xs us Q I r ⟨rfl,q⟩
 cases r with
 | cons r1 r=>
  cases r with
  | cons r2 r=>
   cases r
   cases rc _ r2
   have e1:=r1
   cases (show _=Value.ref e from r1)
   have pn:=I.pin (e,oe) (List.mem_append_left _ (List.mem_append_right _ List.mem_cons_self))
   exact kia_one (je hk) I.kIn ⟨oe,vs,pn.1,hcls,hdat⟩ he (by intro z;cases z) λtk=>⟨.bl b,H,I.tok tk,rfl,q⟩
theorem n5 {c1 c2:Addr} (hcls:oe.cls=.ref C) (hdat:oe.data=.fields vs) (hk:gv X.K C=true) (he:kitAny X.K (.ref C) [.ref c1,.ref c2]=some b) :
  cp (X.hdl e oe) (.builtin "isinstance") (λvs H Q=>(∃ a,vs=[.ref e,.ref a]/\H a=some (.tup [.ref c1,.ref c2]))/\Q (.bl b) H):=by
 rintro pins s σ H xs us Q I r ⟨⟨a,rfl,ha⟩,q⟩
 cases r with
 | cons r1 r=>
  cases r with
  | cons r2 r=>
   cases r
   cases (show _=Value.ref e from r1)
   cases (show _=Value.ref a from r2)
   have pn:=I.pin (e,oe) (List.mem_append_left _ (List.mem_append_right _ List.mem_cons_self))
   obtain⟨_,its,rv,o,ho,hoc,⟨n,hon⟩,hdd⟩:=I.hok a _ ha
   have hits:its=[.ref c1,.ref c2]:=by
    cases rv with
    | cons q1 rv=>
     cases rv with
     | cons q2 rv=>
      cases rv
      cases (show _=Value.ref c1 from q1)
      cases (show _=Value.ref c2 from q2)
      rfl
   subst hits
   obtain⟨oc,od,odt,osl⟩:=o
   cases hoc
   cases hon
   exact kia_tup (je hk) I.kIn ⟨oe,vs,pn.1,hcls,hdat⟩ ho he (by intro z;cases z) λtk=>⟨.bl b,H,I.tok tk,rfl,q⟩
theorem kc {p1 p2 p3 p4 p5 p6 p7 p8 p9 p10 p11 p12 p13 p14 p15 p16 p17 p18 p19 p20 p21 p22:Pos}{k j1 j2} (hcls:oe.cls=.ref C) (hdat:oe.data=.fields vs) (hi:X.N[i]?=some ("error" : Str)) (hv:Vis X.env.scope "error")
  (hgI:Gl X "isinstance") (hmI:X.mg "isinstance" = none) (hgC:Gl X "NoText") (hmC:X.mg "NoText" = some (.ref C)) (hgL:Gl X "NoLine") (hmL:X.mg "NoLine" = some (.ref L)) (hgO:Gl X "OnNought") (hmO:X.mg "OnNought" = some (.ref O))
  (hgV:Gl X "ValueError") (hmV:X.mg "ValueError" = none) (hk:gv X.K C=true) (hkT:kitAny X.K (.ref C) [.ref L,.ref O]=some false) (hkV:kitOne X.K (.ref C) (.type "ValueError")=some true) :
  PSs (X.hdl e oe) [.If (.BoolOp .Or [.UnaryOp .Not (.Call (.Name "isinstance" p1) [.Name "error" p2,.Name "NoText" p3] [] p4) p5,.Call (.Name "isinstance" p6) [.Name "error" p7,.Tuple [.Name "NoLine" p8,.Name "OnNought" p9] k p10] [] p11,
   .UnaryOp .Not (.Call (.Name "isinstance" p12) [.Name "error" p13,.Name "ValueError" p14] [] p15) p16] p17) [.Return (some (.Constant .none j1 p18)) p19] [] p20,.Return (some (.Constant (.str "no text") j2 p21)) p22]
   (λD σ H=>σ[i]?=some (some (.ref e))/\∀ H1,aM H H1->D.rt (.str "no text") H1):=by
 have k1:kitOne X.K (.ref C) (.ref C)=some true:=by unfold kitOne;rw [if_pos (by simp)]
 have ev:∀ {p:Pos},PE (X.hdl e oe) (.Name "error" p) (nD i):=λ{p}=>nh hi hv
 have c1:=kP (X:=X) (e:=e) (oe:=oe) (b:=true) (cv:=.ref C) hcls hdat hk (λu r=>r) k1
 have c3:=kP (X:=X) (e:=e) (oe:=oe) (b:=true) (cv:=.ty "ValueError") hcls hdat hk (λu r=>r) hkV
 have c2:=n5 (X:=X) (e:=e) (oe:=oe) hcls hdat hk hkT
 have a1:PT (X.hdl e oe) (.Call (.Name "isinstance" p1) [.Name "error" p2,.Name "NoText" p3] [] p4) _:=jN (e9 c1 hgI hmI PyProof.Rows.boot_isinstance (cF ev (cF (d3 (v:=.ref C) hgC hmC rfl) gF)))
 have a2:PT (X.hdl e oe) (.Call (.Name "isinstance" p6) [.Name "error" p7,.Tuple [.Name "NoLine" p8,.Name "OnNought" p9] k p10] [] p11) _:=jN (e9 c2 hgI hmI PyProof.Rows.boot_isinstance (cF ev (cF (mF (cF (d3 (v:=.ref L) hgL hmL rfl) (cF (d3 (v:=.ref O) hgO hmO rfl) gF))) gF)))
 have a3:PT (X.hdl e oe) (.Call (.Name "isinstance" p12) [.Name "error" p13,.Name "ValueError" p14] [] p15) _:=jN (e9 c3 hgI hmI PyProof.Rows.boot_isinstance (cF ev (cF (ko (v:=.ty "ValueError") hgV hmV nB rfl) gF)))
 refine (cW (i8 (PW.pt (kL (jZ a1) (kL a2 (lW (jZ a3))))) (fZ (iX mm)) kE) (fZ (iX lS))).imp ?_
 rintro D σ H ⟨hσ,q⟩
 refine⟨_,hσ,⟨rfl,true,rfl,?_⟩⟩
 refine jW ⟨_,hσ,?_⟩
 refine⟨by show 2<=sizeLine;rw [sizeLine_eq];decide,λt ht=>⟨⟨t,rfl,aW⟩,false,rfl,?_⟩⟩
 refine jW ⟨_,hσ,⟨rfl,true,rfl,?_⟩⟩
 refine jW ?_
 exact q _ (aM.new ht _)
end
theorem n8 {K:Frag}{h:Heap}{mg:Str->Option Value}{x:Str}{C:Addr}{bmB:List Value}{newId:String} (X:K.In h) (hm:mg x=some (.ref C)) (q:excIn K C bmB newId=true):OwnCls x C bmB newId mg h:=by
 refine⟨hm,?_⟩
 unfold excIn at q
 split at q
 ·rename_i dd cd sl ho
  split at q
  ·rename_i C' bm k0 k1 k2 k3 n k5 hm hs
   simp only [Bool.and_eq_true,beq_iff_eq,Bool.not_eq_true'] at q
   obtain⟨⟨⟨⟨⟨rfl,rfl⟩,hdel⟩,ht⟩,hok⟩,hni⟩:=q
   obtain⟨nm,bs,mro,ns,qn,hd,sn,sub,ab,col,del⟩:=cd
   dsimp only at hm hdel hok hni
   subst hm hdel
   have hsl:sl=#[k0,k1,k2,k3,some (.builtin n),k5]:=by
    obtain⟨l⟩:=sl
    simp only at hs
    rw [hs]
   subst hsl
   exact⟨bm,ns,nm,qn,bs,hd,sn,sub,ab,col,dd,k0,k1,k2,k3,k5,_,X _ _ ho,.of_isNs (isNs_of_in X hok),nsMap_none_of_in X hok hni,tail_of_in X ht⟩
  ·cases q
 ·cases q
abbrev pW:List Value:=[.type "ValueError",.type "Exception",.type "BaseException",.type "object"]
theorem fz {K:Frag}{X:Cx}{C:Addr}{e:Expr}{es:List Expr}{pos np cpos:Pos}{af:Af}{x:Str} (hq:excIn X.K C pW "ValueError.__new__" = true) (hm:X.mg x=some (.ref C)) (hc:X.calm=true) (hg:Gl X x) (ha:IA K X.nox (e::es) af)
  (hd:(x==("__debug__" : Str))=false:=by decide) (hs:ar e=true:=by rfl) (hp:es.all ar=true:=by rfl) :
  RS K X (.ref C) (.Raise (some (.Call (.Name x np) (e::es) [] cpos)) none pos) (eJ af):=
 ⟨λenv st st' hf pins s σ H D I h=>(nn (n8 I.ok.mod.kin hm hq) PySem.F.excBase_ValueError hc hg ha hd hs hp).run env st st' hf pins s σ H D I h⟩
end L2
namespace Own
open PySem L2
noncomputable def eF:Sf:=(bJ (ku (iCB eE (ac (iV 0) (ac (iC (.ty "int")) ag))) (lI (iCB eE (ac (iV 0) (ac (iC (.ty "bool")) ag))))))
noncomputable def gt:Fn:=db 1 1 eF
noncomputable def dM:Sf:=(bJ (ku (ao gt (ac (iV 0) ag)) (ki dLe dLe (iV 1) (iV 0) (iV 2))))
noncomputable def fJ:Fn:=db 3 3 dM
noncomputable def bP:Ef:=(oY (iOp rA (iV 0) (iC .non)) (ao fJ (ac (iV 0) (ac (iC (.int 0)) (ac (iC (.int 1)) ag)))))
noncomputable def bc:Sf:=(aA (bR (i5 (bO (di dn (iCB eE (ac (iV 0) (ac (iC (.ty "tuple")) ag))))) (gr true [(.int 1),(.int 2),(.int 4),(.int 8),(.int 16),(.int 32),(.int 64)] (iCB cL (ac (iV 0) ag)))) (bJ (iC (.bl false))) bX) (bJ (iCB jl (ac (au (iLc 1 [] (cw (iV 0)) (.nm 0) cq bP)) ag))))
noncomputable def bd:Fn:=db 1 1 bc
noncomputable def bF:Sf:=(aA (bR (gK true [("1",(.int 1)),("0",(.int 0)),("-",.non)] (iV 0)) io bX) (bJ (mo [("1",(.int 1)),("0",(.int 0)),("-",.non)] (iV 0))))
noncomputable def aV:Fn:=db 1 1 bF
noncomputable def bZ:Rf:=(gB (xIf (gK true [("1",(.int 1)),("0",(.int 0)),("-",.non)] (iV 0)) (eJ (ac (iC (.str "no value of a function is written so")) ag)) xNo) (bR (gK true [("1",(.int 1)),("0",(.int 0)),("-",.non)] (iV 0)) io bX) xNo)
noncomputable def bT:Rn:=mj 1 1 bZ
noncomputable def bq:Ef:=(ao aV (ac (iV 0) ag))
noncomputable def bp:Sf:=(aA (bR (bO (di dn (iCB eE (ac (iV 0) (ac (iC (.ty "str")) ag))))) io bX) (aA (br (.nm 1) (iCB j6 (ac (au (iLc 1 [] (cC (iV 0)) (.nm 0) cq bq)) ag))) (aA (bR (bO (di dn (ao bd (ac (iV 1) ag)))) io bX) (bJ (iV 1)))))
noncomputable def aG:Fn:=db 2 1 bp
noncomputable def aK:Ef:=(ao aV (ac (iV 0) ag))
noncomputable def aH:Rf:=(fj bT (ac (iV 0) ag))
noncomputable def cY:Ef:=(ao aV (ac (iV 0) ag))
noncomputable def bh:Rf:=(gB (xIf (bO (di dn (iCB eE (ac (iV 0) (ac (iC (.ty "str")) ag))))) (eJ (ac (iC (.str "no text")) ag)) xNo) (bR (bO (di dn (iCB eE (ac (iV 0) (ac (iC (.ty "str")) ag))))) io bX) (gB (xLc 1 [] (cC (iV 0)) (.nm 0) aK aH) (br (.nm 1) (iCB j6 (ac (au (iLc 1 [] (cC (iV 0)) (.nm 0) cq cY)) ag))) (gB (xIf (bO (di dn (ao bd (ac (iV 1) ag)))) (eJ (ac (iC (.str "no function has so many values")) ag)) xNo) (bR (bO (di dn (ao bd (ac (iV 1) ag)))) io bX) xNo)))
noncomputable def aI:Rn:=mj 2 1 bh
noncomputable def cH:Sf:=(aA (br (.nm 2) (iC (.int 0))) (aA (bR (du dLt (iV 1) (iCB cL (ac (iV 0) ag))) (br (.nm 2) (iOp dIx (iV 0) (iV 1))) bX) (aA (br (.nm 3) (iOp dP (iOp dP (iOp dP (iOp iR (iC (.int 10)) (iC (.int 60))) (iOp iR (iC (.int 10)) (iC (.int 60)))) (iOp iR (iC (.int 10)) (iC (.int 60)))) (iOp iR (iC (.int 10)) (iC (.int 60))))) (aA (br (.nm 4) (iOp eV (iOp dP (iOp bj (iOp bj (iOp eV (iV 2) (iC (.int 2147483629))) (iOp dP (iC (.int 7919)) (iV 1))) (iC (.int 11))) (iC (.int 48271))) (iC (.int 2147483647)))) (bJ (jH (bi (ac (iOp dP (iOp eV (iCB nc (ac (iV 2) ag)) (iV 3)) (iCB nY (ac (iOp dGe (iCB nc (ac (iV 2) ag)) (iOp iR (iC (.int 10)) (iC (.int 18)))) ag))) (ac (iV 4) (ac (iC (.int 0)) ag))))))))))
noncomputable def bW:Fn:=db 5 2 cH
noncomputable def cI:Sf:=(aA (bR (du dGt (iOp dIx (iV 0) (iC (.int 0))) (iC (.int 0))) (aA (br (.nm 2) (iOp eV (iOp dIx (iV 0) (iC (.int 0))) (iV 1))) (aA (eH (iV 0) (iC (.int 0)) (iOp eM (iOp dIx (iV 0) (iC (.int 0))) (iV 1))) (bJ (iV 2)))) bX) (aA (eH (iV 0) (iC (.int 2)) (iOp bj (iOp dIx (iV 0) (iC (.int 2))) (iC (.int 1)))) (aA (eH (iV 0) (iC (.int 1)) (iOp eV (iOp bj (iOp bj (iOp dP (iOp dIx (iV 0) (iC (.int 1))) (iC (.int 39373))) (iC (.int 12345))) (iOp dP (iC (.int 31)) (iOp dIx (iV 0) (iC (.int 2))))) (iC (.int 2147483647)))) (bJ (iOp eV (iOp eM (iOp eV (iOp dP (iOp dIx (iV 0) (iC (.int 1))) (iOp bj (iOp eV (iOp dIx (iV 0) (iC (.int 1))) (iC (.int 40009))) (iC (.int 3)))) (iC (.int 2147483629))) (iC (.int 64))) (iV 1))))))
noncomputable def am:Fn:=db 3 2 cI
noncomputable def de:Sf:=(bJ (iOp dIx (iV 1) (ao am (ac (iV 0) (ac (iCB cL (ac (iV 1) ag)) ag)))))
noncomputable def bn:Fn:=db 2 2 de
noncomputable def da:Sf:=(aA (mn 5 6 (ac (ao am (ac (iV 0) (ac (iOp bj (iCB cL (ac (iV 1) ag)) (iC (.int 1))) ag))) (ac (ao am (ac (iV 0) (ac (iC (.int 3)) ag))) ag))) (aA (br (.nm 7) (iOp dIx (iV 3) (ao am (ac (iV 0) (ac (iCB cL (ac (iV 3) ag)) ag))))) (br (.nm 1) (iOp bj (iOp bj (jn (iV 1) iPn (iPs (iV 5))) (iOp dIx (au (bi (ac (ao bn (ac (iV 0) (ac (iV 2) ag))) (ac (iV 7) ag)))) (ao am (ac (iV 0) (ac (iC (.int 2)) ag))))) (jn (iV 1) (iPs (iOp bj (iV 5) (iV 6))) iPn)))))
noncomputable def bH:Sf:=(aA (br (.nm 3) (iC (.str " !\"#$&'()*+,-./0123456789:;<=>?@ABCDEFGHIJKLMNOPQRSTUVWXYZ[\\]^_`abcdefghijklmnopqrstuvwxyz{|}~\n"))) (aA (ka (cJ (ac (iOp bj (iC (.int 1)) (ao am (ac (iV 0) (ac (iC (.int 2)) ag)))) ag)) (.nm 4) da) (bJ (iV 1))))
noncomputable def cB:Fn:=db 8 3 bH
noncomputable def bC:Sf:=(mJ (bJ (au (bi (ac (ao aG (ac (iV 0) ag)) ag)))) (fj aI (ac (iV 0) ag)) (.str "no text"))
noncomputable def cG:Fn:=db 2 1 bC
noncomputable def aQ:Sf:=(aA (bR (du eW (iV 2) (iC (.str "01-"))) (bJ (iC (.str "no text"))) bX) (jE (ig d0 (iV 1) (ac (jj (iV 2)) ag))))
noncomputable def cZ:Sf:=(aA (bR (i5 (du eI (iCB cL (ac (iV 0) ag)) (cy (ac (iC (.int 1)) (ac (iC (.int 2)) (ac (iC (.int 4)) (ac (iC (.int 8)) (ac (iC (.int 16)) (ac (iC (.int 32)) (ac (iC (.int 64)) ag))))))))) (du dNe (iTm dA (iV 0) (ac (iC (.str "01-")) ag)) (iC (.str "")))) (bJ (iC (.str "no text"))) bX) (aA (br (.nm 1) (jH (bi ag))) (aA (ka (cC (iV 0)) (.nm 2) aQ) (bJ (au (bi (ac (iCB j6 (ac (iV 1) ag)) ag)))))))
noncomputable def cA:Fn:=jO 3 1 cZ
noncomputable def eK:Ef:=(iOp dEq (ao cG (ac (iV 0) ag)) (iC (.str "no text")))
noncomputable def eP:Ef:=(iOp dEq (iCB gQ (ac (ao cG (ac (iV 0) ag)) ag)) (iCB gQ (ac (ao cA (ac (iV 0) ag)) ag)))
noncomputable def fV:Ef:=(ao cB (ac (iV 1) (ac (iV 2) (ac (au (bi (ac (iC (.str "")) (ac (iC (.str "0")) (ac (iC (.str "1")) (ac (iC (.str "-")) (ac (iC (.str "01")) (ac (iC (.str "2")) (ac (iC (.str " ")) (ac (iC (.str "None")) ag)))))))))) ag))))
noncomputable def fX:Ef:=(ao bn (ac (iV 1) (ac (au (bi (ac (iC (.str "0")) (ac (iC (.str "1")) (ac (iC (.str "-")) ag))))) ag)))
noncomputable def kr:Sf:=(aA (br (.nm 2) (ao bW (ac (iV 0) (ac (iV 1) ag)))) (aA (br (.nm 3) (iOp dIx (au (bi (ac (iOp kd (iC (.int 1)) (ao am (ac (iV 2) (ac (iC (.int 7)) ag)))) (ac (ao am (ac (iV 2) (ac (iC (.int 67)) ag))) ag)))) (iOp eM (ao am (ac (iV 2) (ac (iC (.int 3)) ag))) (iC (.int 2))))) (aA (br (.nm 4) (jz (iC (.str "")) (ac (au (iLc 1 [2] (cJ (ac (iV 3) ag)) (.nm 0) cq fX)) ag))) (aA (br (.nm 5) (au (bi (ac (iV 4) (ac (iOp bj (iV 4) (iV 4)) (ac (jn (iV 4) iPn (iPs (iUn om (iC (.int 1))))) (ac (iOp bj (iV 4) (iC (.str "\n"))) (ac (iOp bj (iC (.str " ")) (iV 4)) ag)))))))) (aA (br (.nm 5) (iOp bj (iV 5) (au (iLc 1 [2,4] (cJ (ac (iC (.int 6)) ag)) (.nm 0) cq fV)))) (bR (bO (di dn (iCB jl (ac (au (iLc 1 [] (cw (iV 5)) (.nm 0) cq eP)) ag)))) (bJ (iC (.bl false))) bX))))))
noncomputable def kj:Sf:=(aA (ka (cJ (ac (iOp bj (iC (.int 1)) (iCB pL (ac (iC (.int 8)) (ac (iCB cL (ac (iV 0) ag)) ag)))) ag)) (.nm 1) kr) (aA (br (.nm 6) (au (bi (ac (iC .non) (ac (iC (.int 0)) (ac (iC (.int 1)) (ac (iC (.bl true)) (ac (cy (ac (iC (.int 1)) (ac (iC (.int 0)) ag))) (ac (au (bi (ac (iC (.str "0")) ag))) (ac (cy (ac (iC (.str "0")) (ac (iC (.str "1")) ag))) (ac (iC .dct) (ac (cy ag) (ac (au (bi ag)) (ac (cy (ac (iC (.str "01")) ag)) ag)))))))))))))) (bJ (iCB jl (ac (au (iLc 1 [] (cw (iOp bj (iV 6) (au (bi (ac (iC (.str "")) (ac (iC (.str "\n")) (ac (iC (.str "--\n")) (ac (iC (.str "O")) (ac (iC (.str "l")) ag))))))))) (.nm 0) cq eK)) ag)))))
noncomputable def jo:Fn:=jO 7 1 kj
end Own
section
set_option maxHeartbeats 2000000
namespace Own
open PySem L2
noncomputable def top (i:Nat):Stmt:=PySem.Challenge.pw_signpoly_k76_texts_of_no_functions.main.body.getD i (.Pass ⟨0,0,0,0⟩)
abbrev bS:Stmt:=top 6
abbrev bD:Stmt:=top 7
abbrev aS:Stmt:=top 10
abbrev bE:Stmt:=top 13
abbrev av:Stmt:=top 14
abbrev bG:Stmt:=top 16
abbrev bx:Stmt:=top 17
abbrev bu:Stmt:=top 18
abbrev aL:Stmt:=top 19
abbrev bB:Stmt:=top 20
abbrev bU:Stmt:=top 21
abbrev dO:Stmt:=top 22
theorem jk:aY ["thing"] ["thing"] (ai bS):=⟨rfl,rfl,rfl,by decide +kernel,rfl,by decide +kernel,by decide +kernel⟩
theorem iU:aY ["thing","low","high"] ["thing","low","high"] (ai bD):=⟨rfl,rfl,rfl,by decide +kernel,rfl,by decide +kernel,by decide +kernel⟩
theorem gi:aY ["thing"] ["thing"] (ai aS):=⟨rfl,rfl,rfl,by decide +kernel,rfl,by decide +kernel,by decide +kernel⟩
theorem fH:aY ["sign"] ["sign"] (ai bE):=⟨rfl,rfl,rfl,by decide +kernel,rfl,by decide +kernel,by decide +kernel⟩
theorem bg:aY ["thing","f"] ["thing"] (ai av):=⟨rfl,rfl,rfl,by decide +kernel,rfl,by decide +kernel,by decide +kernel⟩
theorem cr:aY ["_law_script","_law_k","_law_cell","_law_far","_law_seed"] ["_law_script","_law_k"] (ai bG):=⟨rfl,rfl,rfl,by decide +kernel,rfl,by decide +kernel,by decide +kernel⟩
theorem eO:aY ["_law_hand_here","_law_many","_law_digit"] ["_law_hand_here","_law_many"] (ai bx):=⟨rfl,rfl,rfl,by decide +kernel,rfl,by decide +kernel,by decide +kernel⟩
theorem iK:aY ["_law_hand_here","_law_some"] ["_law_hand_here","_law_some"] (ai bu):=⟨rfl,rfl,rfl,by decide +kernel,rfl,by decide +kernel,by decide +kernel⟩
theorem aN:aY ["_law_hand_here","_law_text","_law_near","_law_signs","_law_turn","_law_at","_law_cut","_law_one"] ["_law_hand_here","_law_text","_law_near"] (ai aL):=⟨rfl,rfl,rfl,by decide +kernel,rfl,by decide +kernel,by decide +kernel⟩
theorem fg:aY ["_law_text","error"] ["_law_text"] (ai bB):=⟨rfl,rfl,rfl,by decide +kernel,rfl,by decide +kernel,by decide +kernel⟩
theorem dR:aY ["_law_text","_law_values","_law_sign"] ["_law_text"] (ai bU):=⟨rfl,rfl,rfl,by decide +kernel,rfl,by decide +kernel,by decide +kernel⟩
theorem dE:aY ["_law_script","_law_k","_law_hand_here","_law_many","_law_text","_law_some","_law_things"] ["_law_script"] (ai dO):=⟨rfl,rfl,rfl,by decide +kernel,rfl,by decide +kernel,by decide +kernel⟩
set_option genSizeOf false in
set_option genInjectivity false in
structure Adr where
 f0:Addr
 g0:FuncData
 f1:Addr
 g1:FuncData
 f2:Addr
 g2:FuncData
 f3:Addr
 g3:FuncData
 f4:Addr
 g4:FuncData
 f5:Addr
 g5:FuncData
 f6:Addr
 g6:FuncData
 f7:Addr
 g7:FuncData
 f8:Addr
 g8:FuncData
 f9:Addr
 g9:FuncData
 f10:Addr
 g10:FuncData
 f11:Addr
 g11:FuncData
 ga_LENGTHS:Addr
 ga_VALUES:Addr
 ca_SignError:Addr
 ca_NoText:Addr
 ca_NoLine:Addr
 ca_OnNought:Addr
structure Txt (P:Program) (w:World) (K:PySem.W.Frag) (mg:Str->Option Value) (t:Adr):Prop where
 cm_SignError:mg "SignError" = some (.ref t.ca_SignError)
 cm_NoText:mg "NoText" = some (.ref t.ca_NoText)
 cm_NoLine:mg "NoLine" = some (.ref t.ca_NoLine)
 cm_OnNought:mg "OnNought" = some (.ref t.ca_OnNought)
 ck:PySem.W.excIn K t.ca_NoText pW "ValueError.__new__" = true
 cx:gv K t.ca_NoText=true
 ch:ox K t.ca_NoText t.ca_SignError=true
 cT:PySem.W.kitAny K (.ref t.ca_NoText) [.ref t.ca_NoLine,.ref t.ca_OnNought]=some false
 cV:PySem.W.kitOne K (.ref t.ca_NoText) (.type "ValueError")=some true
 F0:Fun K "is_whole" "is_whole" bS t.f0 t.g0
 m0:mg "is_whole" = some (.ref t.f0)
 b0:cm K t.g0 ["thing"] []
 F1:Fun K "is_within" "is_within" bD t.f1 t.g1
 m1:mg "is_within" = some (.ref t.f1)
 b1:cm K t.g1 ["thing","low","high"] []
 F2:Fun K "is_function" "is_function" aS t.f2 t.g2
 m2:mg "is_function" = some (.ref t.f2)
 b2:cm K t.g2 ["thing"] []
 F3:Fun K "value_by" "value_by" bE t.f3 t.g3
 m3:mg "value_by" = some (.ref t.f3)
 b3:cm K t.g3 ["sign"] []
 F4:Fun K "read_function" "read_function" av t.f4 t.g4
 m4:mg "read_function" = some (.ref t.f4)
 b4:cm K t.g4 ["thing"] []
 F5:Fun K "_law_hand" "_law_hand" bG t.f5 t.g5
 m5:mg "_law_hand" = some (.ref t.f5)
 b5:cm K t.g5 ["_law_script","_law_k"] []
 F6:Fun K "_law_take" "_law_take" bx t.f6 t.g6
 m6:mg "_law_take" = some (.ref t.f6)
 b6:cm K t.g6 ["_law_hand_here","_law_many"] []
 F7:Fun K "_law_pick" "_law_pick" bu t.f7 t.g7
 m7:mg "_law_pick" = some (.ref t.f7)
 b7:cm K t.g7 ["_law_hand_here","_law_some"] []
 F8:Fun K "_law_text_bent" "_law_text_bent" aL t.f8 t.g8
 m8:mg "_law_text_bent" = some (.ref t.f8)
 b8:cm K t.g8 ["_law_hand_here","_law_text","_law_near"] []
 F9:Fun K "_law_told" "_law_told" bB t.f9 t.g9
 m9:mg "_law_told" = some (.ref t.f9)
 b9:cm K t.g9 ["_law_text"] []
 F10:Fun K "_law_due" "_law_due" bU t.f10 t.g10
 m10:mg "_law_due" = some (.ref t.f10)
 b10:cm K t.g10 ["_law_text"] []
 F11:Fun K "law" "law" dO t.f11 t.g11
 m11:mg "law" = some (.ref t.f11)
 b11:cm K t.g11 ["_law_script"] []
 z_ValueError:mg "ValueError" = none
 z_abs:mg "abs" = none
 z_all:mg "all" = none
 z_bool:mg "bool" = none
 z_int:mg "int" = none
 z_isinstance:mg "isinstance" = none
 z_len:mg "len" = none
 z_min:mg "min" = none
 z_range:mg "range" = none
 z_repr:mg "repr" = none
 z_str:mg "str" = none
 z_tuple:mg "tuple" = none
 g_LENGTHS:mg "LENGTHS" = some (.ref t.ga_LENGTHS)
 gk_LENGTHS:KTp K t.ga_LENGTHS [(.int 1),(.int 2),(.int 4),(.int 8),(.int 16),(.int 32),(.int 64)]
 g_VALUES:mg "VALUES" = some (.ref t.ga_VALUES)
 gk_VALUES:KDc K P w t.ga_VALUES [("1",(.int 1)),("0",(.int 0)),("-",.non)]
abbrev Bdy (P:Program) (w:World) (K:PySem.W.Frag) (mg:Str->Option Value) (base:Heap) (k:Nat) (N:List Str) (x:Str) (sd:Stmt) (f:Addr) (b:Sf):Prop:=∀ (cdv:Value) (A:Around) (outer:List Env) (s:Shared) (H:Hp) (E:XK),bM k (A.deeper (PyProof.Rows.envOfC x (ai sd) s.heap.objs.size f cdv))->ISs K (fm CX0 P w K mg base N x (ai sd) f cdv A outer s H E).nox (aJ sd) b
abbrev sH (P:Program) (w:World) (K:PySem.W.Frag) (mg:Str->Option Value) (base:Heap) (C:Value) (k:Nat) (N:List Str) (x:Str) (sd:Stmt) (f:Addr) (b:Rf):Prop:=∀ (cdv:Value) (A:Around) (outer:List Env) (s:Shared) (H:Hp) (E:XK),bM k (A.deeper (PyProof.Rows.envOfC x (ai sd) s.heap.objs.size f cdv))->RSs K (fm (CX1 P w C) P w K mg base N x (ai sd) f cdv A outer s H E) C (aJ sd) b
section
variable {P:Program}{w:World}{K:PySem.W.Frag}{mg:Str->Option Value}{base:Heap}{t:Adr}
theorem hJ (T:Txt P w K mg t):Bdy P w K mg base 0 ["thing"] "is_whole" bS t.f0 eF:=
 λ_ _ _ _ _ _ hr=>(ax (bv (lR (bL (fE rfl) rfl T.z_isinstance PyProof.Rows.boot_isinstance (ae (iv 0) (ae (hW rfl T.z_int PyProof.Rows.boot_int (by decide) (by decide)) ah rfl) rfl) (by decide) (by decide) rfl rfl) (j8 (pH (bL (fE rfl) rfl T.z_isinstance PyProof.Rows.boot_isinstance (ae (iv 0) (ae (hW rfl T.z_bool PyProof.Rows.boot_bool (by decide) (by decide)) ah rfl) rfl) (by decide) (by decide) rfl rfl))))))
theorem jq (T:Txt P w K mg t):cb P w K mg base CX0 1 t.f0 t.g0 ["thing"] (spI K gt):=
 gT (N:=["thing"]) (b:=eF) T.F0 jk (hJ T)
theorem gL (T:Txt P w K mg t):Bdy P w K mg base 1 ["thing","low","high"] "is_within" bD t.f1 dM:=
 λ_ _ _ _ _ _ hr=>(ax (bv (lR (aF (jq T) (by decide) hr rfl T.m0 T.F0.kp T.b0 (ae (iv 0) ah rfl) (by decide) rfl rfl) (j8 (nr oP oP (iv 1) (iv 0) (iv 2) (by with_unfolding_all rfl))))))
theorem iz (T:Txt P w K mg t):cb P w K mg base CX0 2 t.f1 t.g1 ["thing","low","high"] (spI K fJ):=
 gT (N:=["thing","low","high"]) (b:=dM) T.F1 iU (gL T)
theorem fk (T:Txt P w K mg t):Bdy P w K mg base 2 ["thing"] "is_function" aS t.f2 bc:=
 λ_ _ _ _ _ _ hr=>(aq (dB (mS (lH (dS (dU (bL (fE rfl) rfl T.z_isinstance PyProof.Rows.boot_isinstance (ae (iv 0) (ae (hW rfl T.z_tuple PyProof.Rows.boot_tuple (by decide) (by decide)) ah rfl) rfl) (by decide) (by decide) rfl rfl) rfl rfl)) (kN (o7 eX rfl T.g_LENGTHS T.gk_LENGTHS (bL (eB rfl) rfl T.z_len PySem.boot_len (ae (iv 0) ah rfl) (by decide) (by decide) rfl rfl) (by decide) rfl rfl)))) (ax (bv mX)) bQ) (ax (bv (bL (jM rfl rfl) rfl T.z_all PyProof.Rows.boot_all (ae (aX (gs (fG (ai aS).names ["thing"] ["value"] 1 [] rfl rfl rfl (by decide +kernel)) rfl (by decide) (jI (iv 0) rfl) (λ_ _ _ _ _=>(cj (ci (i:=0) (show List.Nodup (α:=Str) ["value"] by decide +kernel) rfl (.inl rfl)))) (λ_ _ _ _ _=>dr) (λ_ _ _ _ _=>(qN (iu qd (iv 0) mB (er _)) (j8 (aF (iz T) (by decide) hr rfl T.m1 T.F1.kp T.b1 (ae (iv 0) (ae aj (ae aj ah rfl) rfl) rfl) (by decide) rfl rfl)))) (λ_=>rfl))) ah rfl) (by decide) (by decide) rfl rfl))))
theorem cR (T:Txt P w K mg t):cb P w K mg base CX0 3 t.f2 t.g2 ["thing"] (spI K bd):=
 gT (N:=["thing"]) (b:=bc) T.F2 gi (fk T)
theorem hR (T:Txt P w K mg t):Bdy P w K mg base 0 ["sign"] "value_by" bE t.f3 bF:=
 λ_ _ _ _ _ _ hr=>(aq (dB (jP iq rfl T.g_VALUES T.gk_VALUES (iv 0) (by decide) rfl) (ax d4) bQ) (ax (bv (qi rfl T.g_VALUES T.gk_VALUES (iv 0) rfl (by decide)))))
theorem dZ (T:Txt P w K mg t):cb P w K mg base CX0 1 t.f3 t.g3 ["sign"] (spI K aV):=
 gT (N:=["sign"]) (b:=bF) T.F3 fH (hR T)
theorem gk (T:Txt P w K mg t):sH P w K mg base (.ref t.ca_NoText) 0 ["sign"] "value_by" bE t.f3 bZ:=
 λ_ _ _ _ _ _ hr=>(eU (lM (jP iq rfl T.g_VALUES T.gk_VALUES (iv 0) (by decide) rfl) (fU (fz T.ck T.cm_NoText rfl rfl (ae aC ah rfl) (by decide) rfl rfl)) gx) (dB (jP iq rfl T.g_VALUES T.gk_VALUES (iv 0) (by decide) rfl) (ax d4) bQ) gx)
theorem iP (T:Txt P w K mg t):cb P w K mg base (CX1 P w (.ref t.ca_NoText)) 1 t.f3 t.g3 ["sign"] (spX K bT):=
 qL (N:=["sign"]) (b:=bZ) T.F3 fH (gk T)
theorem en (T:Txt P w K mg t):Bdy P w K mg base 3 ["thing","f"] "read_function" av t.f4 bp:=
 λ_ _ _ _ _ _ hr=>(aq (dB (dS (dU (bL (fE rfl) rfl T.z_isinstance PyProof.Rows.boot_isinstance (ae (iv 0) (ae (hW rfl T.z_str PyProof.Rows.boot_str (by decide) (by decide)) ah rfl) rfl) (by decide) (by decide) rfl rfl) rfl rfl)) (ax d4) bQ) (aq (bA (i:=1) bg.nd rfl (.inl rfl) (kB (jV rfl) rfl T.z_tuple PyProof.Rows.boot_tuple (ae (aX (gs (fG (ai av).names ["thing","f"] ["sign"] 1 [] rfl rfl rfl (by decide +kernel)) rfl (by decide) (iY (iv 0)) (λ_ _ _ _ _=>(cj (ci (i:=0) (show List.Nodup (α:=Str) ["sign"] by decide +kernel) rfl (.inl rfl)))) (λ_ _ _ _ _=>dr) (λ_ _ _ _ _=>(aF (dZ T) (by decide) hr rfl T.m3 T.F3.kp T.b3 (ae (iv 0) ah rfl) (by decide) rfl rfl)) (λ_=>rfl))) ah rfl) (by decide) (by decide) rfl rfl) rfl (.inl rfl)) (aq (dB (dS (dU (aF (cR T) (by decide) hr rfl T.m2 T.F2.kp T.b2 (ae (iv 1) ah rfl) (by decide) rfl rfl) rfl rfl)) (ax d4) bQ) (ax (bv (iv 1))))))
theorem fB (T:Txt P w K mg t):cb P w K mg base CX0 4 t.f4 t.g4 ["thing"] (spI K aG):=
 gT (N:=["thing","f"]) (b:=bp) T.F4 bg (en T)
theorem ec (T:Txt P w K mg t):sH P w K mg base (.ref t.ca_NoText) 3 ["thing","f"] "read_function" av t.f4 bh:=
 λ_ _ _ _ _ _ hr=>(eU (lM (dS (dU (bL (fE rfl) rfl T.z_isinstance PyProof.Rows.boot_isinstance (ae (iv 0) (ae (hW rfl T.z_str PyProof.Rows.boot_str (by decide) (by decide)) ah rfl) rfl) (by decide) (by decide) rfl rfl) rfl rfl)) (fU (fz T.ck T.cm_NoText rfl rfl (ae aC ah rfl) (by decide) rfl rfl)) gx) (dB (dS (dU (bL (fE rfl) rfl T.z_isinstance PyProof.Rows.boot_isinstance (ae (iv 0) (ae (hW rfl T.z_str PyProof.Rows.boot_str (by decide) (by decide)) ah rfl) rfl) (by decide) (by decide) rfl rfl) rfl rfl)) (ax d4) bQ) (eU (qe (i:=1) bg.nd rfl (.inl rfl) (rn rfl T.z_tuple PyProof.Rows.boot_tuple (kC (sG (fG (ai av).names ["thing","f"] ["sign"] 1 [] rfl rfl rfl (by decide +kernel)) rfl (by decide) rfl (iY (iv 0)) (λ_ _ _ _ _=>(cj (ci (i:=0) (show List.Nodup (α:=Str) ["sign"] by decide +kernel) rfl (.inl rfl)))) (λ_ _ _ _ _=>(aF (dZ T) (by decide) hr rfl T.m3 T.F3.kp T.b3 (ae (iv 0) ah rfl) (by decide) rfl rfl)) (λ_ _ _ _ _=>(kK (iP T) (by decide) hr rfl T.m3 T.F3.kp T.b3 (ae (iv 0) ah rfl) (by decide) rfl rfl)) (λ_=>rfl)) rfl) (by decide) (by decide) rfl rfl) rfl (.inl rfl)) (bA (i:=1) bg.nd rfl (.inl rfl) (kB (jV rfl) rfl T.z_tuple PyProof.Rows.boot_tuple (ae (aX (gs (fG (ai av).names ["thing","f"] ["sign"] 1 [] rfl rfl rfl (by decide +kernel)) rfl (by decide) (iY (iv 0)) (λ_ _ _ _ _=>(cj (ci (i:=0) (show List.Nodup (α:=Str) ["sign"] by decide +kernel) rfl (.inl rfl)))) (λ_ _ _ _ _=>dr) (λ_ _ _ _ _=>(aF (dZ T) (by decide) hr rfl T.m3 T.F3.kp T.b3 (ae (iv 0) ah rfl) (by decide) rfl rfl)) (λ_=>rfl))) ah rfl) (by decide) (by decide) rfl rfl) rfl (.inl rfl)) (eU (lM (dS (dU (aF (cR T) (by decide) hr rfl T.m2 T.F2.kp T.b2 (ae (iv 1) ah rfl) (by decide) rfl rfl) rfl rfl)) (fU (fz T.ck T.cm_NoText rfl rfl (ae aC ah rfl) (by decide) rfl rfl)) gx) (dB (dS (dU (aF (cR T) (by decide) hr rfl T.m2 T.F2.kp T.b2 (ae (iv 1) ah rfl) (by decide) rfl rfl) rfl rfl)) (ax d4) bQ) gx)))
theorem eY (T:Txt P w K mg t):cb P w K mg base (CX1 P w (.ref t.ca_NoText)) 4 t.f4 t.g4 ["thing"] (spX K aI):=
 qL (N:=["thing","f"]) (b:=bh) T.F4 bg (ec T)
theorem gP (T:Txt P w K mg t):Bdy P w K mg base 0 ["_law_script","_law_k","_law_cell","_law_far","_law_seed"] "_law_hand" bG t.f5 cH:=
 λ_ _ _ _ _ _ hr=>(aq (bA (i:=2) cr.nd rfl (.inl rfl) aj rfl (.inl rfl)) (aq (dB (gG sr (iv 1) (bL (eB rfl) rfl T.z_len PySem.boot_len (ae (iv 0) ah rfl) (by decide) (by decide) rfl rfl) (er _)) (ax (bA (i:=2) cr.nd rfl (.inl rfl) (dl (iv 0) (iv 1) rfl rfl) rfl (.inl rfl))) bQ) (aq (bA (i:=3) cr.nd rfl (.inl rfl) (aE (dv rfl) (aE (dv rfl) (aE (dv rfl) (aE gI aj aj) (aE gI aj aj)) (aE gI aj aj)) (aE gI aj aj)) rfl (.inl rfl)) (aq (bA (i:=4) cr.nd rfl (.inl rfl) (aE dX (aE (dv rfl) (aE (bz rfl) (aE (bz rfl) (aE dX (iv 2) aj) (aE (dv rfl) aj (iv 1))) aj) aj) aj) rfl (.inl rfl)) (ax (bv (lD (cz (ae (aE (dv rfl) (aE dX (bL ms rfl T.z_abs PyProof.Rows.boot_abs (ae (iv 2) ah rfl) (by decide) (by decide) rfl rfl) (iv 3)) (kB o5 rfl T.z_int PyProof.Rows.boot_int (ae (iu sB (bL ms rfl T.z_abs PyProof.Rows.boot_abs (ae (iv 2) ah rfl) (by decide) (by decide) rfl rfl) (aE gI aj aj) (er _)) ah rfl) (by decide) (by decide) rfl rfl)) (ae (iv 4) (ae aj ah rfl) rfl) rfl)))))))))
theorem iM (T:Txt P w K mg t):cb P w K mg base CX0 1 t.f5 t.g5 ["_law_script","_law_k"] (spI K bW):=
 gT (N:=["_law_script","_law_k","_law_cell","_law_far","_law_seed"]) (b:=cH) T.F5 cr (gP T)
theorem gq (T:Txt P w K mg t):Bdy P w K mg base 0 ["_law_hand_here","_law_many","_law_digit"] "_law_take" bx t.f6 cI:=
 λ_ _ _ _ _ _ hr=>(aq (dB (gG rX (dl (iv 0) aj rfl rfl) aj (er _)) (aq (bA (i:=2) eO.nd rfl (.inl rfl) (aE dX (dl (iv 0) aj rfl rfl) (iv 1)) rfl (.inl rfl)) (aq (gf (iv 0) aj (aE iZ (dl (iv 0) aj rfl rfl) (iv 1)) rfl rfl rfl) (ax (bv (iv 2))))) bQ) (aq (gf (iv 0) aj (aE (bz rfl) (dl (iv 0) aj rfl rfl) aj) rfl rfl rfl) (aq (gf (iv 0) aj (aE dX (aE (bz rfl) (aE (bz rfl) (aE (dv rfl) (dl (iv 0) aj rfl rfl) aj) aj) (aE (dv rfl) aj (dl (iv 0) aj rfl rfl))) aj) rfl rfl rfl) (ax (bv (aE dX (aE iZ (aE dX (aE (dv rfl) (dl (iv 0) aj rfl rfl) (aE (bz rfl) (aE dX (dl (iv 0) aj rfl rfl) aj) aj)) aj) aj) (iv 1)))))))
theorem aR (T:Txt P w K mg t):cb P w K mg base CX0 1 t.f6 t.g6 ["_law_hand_here","_law_many"] (spI K am):=
 gT (N:=["_law_hand_here","_law_many","_law_digit"]) (b:=cI) T.F6 eO (gq T)
theorem gw (T:Txt P w K mg t):Bdy P w K mg base 1 ["_law_hand_here","_law_some"] "_law_pick" bu t.f7 de:=
 λ_ _ _ _ _ _ hr=>(ax (bv (dl (iv 1) (aF (aR T) (by decide) hr rfl T.m6 T.F6.kp T.b6 (ae (iv 0) (ae (bL (eB rfl) rfl T.z_len PySem.boot_len (ae (iv 1) ah rfl) (by decide) (by decide) rfl rfl) ah rfl) rfl) (by decide) rfl rfl) rfl rfl)))
theorem eQ (T:Txt P w K mg t):cb P w K mg base CX0 2 t.f7 t.g7 ["_law_hand_here","_law_some"] (spI K bn):=
 gT (N:=["_law_hand_here","_law_some"]) (b:=de) T.F7 iK (gw T)
theorem ed (T:Txt P w K mg t):Bdy P w K mg base 2 ["_law_hand_here","_law_text","_law_near","_law_signs","_law_turn","_law_at","_law_cut","_law_one"] "_law_text_bent" aL t.f8 bH:=
 λ_ _ _ _ _ _ hr=>(aq (bA (i:=3) aN.nd rfl (.inl rfl) aC rfl (.inl rfl)) (aq (jK (fW rfl T.z_range (ae (aE (bz rfl) aj (aF (aR T) (by decide) hr rfl T.m6 T.F6.kp T.b6 (ae (iv 0) (ae aj ah rfl) rfl) (by decide) rfl rfl)) ah rfl) rfl) (cj (ci (i:=4) aN.nd rfl (.inl rfl))) (aq (oA (i:=5) (j:=6) (λ_ h=>oX rfl aN.nd rfl rfl (by decide) rfl rfl h rfl) (ae (aF (aR T) (by decide) hr rfl T.m6 T.F6.kp T.b6 (ae (iv 0) (ae (aE (bz rfl) (bL (eB rfl) rfl T.z_len PySem.boot_len (ae (iv 1) ah rfl) (by decide) (by decide) rfl rfl) aj) ah rfl) rfl) (by decide) rfl rfl) (ae (aF (aR T) (by decide) hr rfl T.m6 T.F6.kp T.b6 (ae (iv 0) (ae aj ah rfl) rfl) (by decide) rfl rfl) ah rfl) rfl)) (aq (bA (i:=7) aN.nd rfl (.inl rfl) (dl (iv 3) (aF (aR T) (by decide) hr rfl T.m6 T.F6.kp T.b6 (ae (iv 0) (ae (bL (eB rfl) rfl T.z_len PySem.boot_len (ae (iv 3) ah rfl) (by decide) (by decide) rfl rfl) ah rfl) rfl) (by decide) rfl rfl) rfl rfl) rfl (.inl rfl)) (ax (bA (i:=1) aN.nd rfl (.inl rfl) (aE (bz rfl) (aE (bz rfl) (ke (iv 1) ix (i6 (iv 5)) rfl) (dl (aX (cz (ae (aF (eQ T) (by decide) hr rfl T.m7 T.F7.kp T.b7 (ae (iv 0) (ae (iv 2) ah rfl) rfl) (by decide) rfl rfl) (ae (iv 7) ah rfl) rfl))) (aF (aR T) (by decide) hr rfl T.m6 T.F6.kp T.b6 (ae (iv 0) (ae aj ah rfl) rfl) (by decide) rfl rfl) rfl rfl)) (ke (iv 1) (i6 (aE (bz rfl) (iv 5) (iv 6))) ix rfl)) rfl (.inl rfl))))) PassesOwn.never rfl (λ_=>rfl)) (ax (bv (iv 1)))))
theorem e8 (T:Txt P w K mg t):cb P w K mg base CX0 3 t.f8 t.g8 ["_law_hand_here","_law_text","_law_near"] (spI K cB):=
 gT (N:=["_law_hand_here","_law_text","_law_near","_law_signs","_law_turn","_law_at","_law_cut","_law_one"]) (b:=bH) T.F8 aN (ed T)
theorem gD (T:Txt P w K mg t):Bdy P w K mg base 4 ["_law_text","error"] "_law_told" bB t.f9 bC:=
 λ_ _ _ _ _ _ hr=>(ax (qc (i:=1) (x:="SignError") rfl fg.nd rfl rfl (ax (bv (aX (cz (ae (aF (fB T) (by decide) hr rfl T.m4 T.F4.kp T.b4 (ae (iv 0) ah rfl) (by decide) rfl rfl) ah rfl))))) (λ_ _=>(fU (qh (qB (kC (kK (eY T) (by decide) hr rfl T.m4 T.F4.kp T.b4 (ae (iv 0) ah rfl) (by decide) rfl rfl) rfl))))) rfl T.cm_SignError T.ch (λ_ _ _ hc hd=>kc hc hd rfl (Or.inl rfl) rfl T.z_isinstance rfl T.cm_NoText rfl T.cm_NoLine rfl T.cm_OnNought rfl T.z_ValueError T.cx T.cT T.cV) (λ_ _=>rfl) (by decide)))
theorem eZ (T:Txt P w K mg t):cb P w K mg base CX0 5 t.f9 t.g9 ["_law_text"] (spI K cG):=
 gT (N:=["_law_text","error"]) (b:=bC) T.F9 fg (gD T)
theorem hG (T:Txt P w K mg t):Bdy P w K mg base 0 ["_law_text","_law_values","_law_sign"] "_law_due" bU t.f10 cZ:=
 λ_ _ _ _ _ _ hr=>(aq (dB (mS (lH (gG (jg rfl) (bL (eB rfl) rfl T.z_len PySem.boot_len (ae (iv 0) ah rfl) (by decide) (by decide) rfl rfl) (gN (ae aj (ae aj (ae aj (ae aj (ae aj (ae aj (ae aj ah rfl) rfl) rfl) rfl) rfl) rfl) rfl)) rfl) (kN (gG (sF hr rfl) (sE PySem.F.slot_str_strip PySem.F.type_str_strip mi jG (iv 0) (ae aC ah rfl) rfl rfl rfl rfl) aC (er _))))) (ax (bv aC)) bQ) (aq (bA (i:=1) dR.nd rfl (.inl rfl) (lD (cz ah)) rfl (.inl rfl)) (aq (jK (iY (iv 0)) (cj (ci (i:=2) dR.nd rfl (.inl rfl))) (aq (dB (gG (kX rfl) (iv 2) aC rfl) (ax (bv aC)) bQ) (ax (n6 (ln (iv 1) (ae (oo (iv 2) rfl rfl rfl rfl) ah rfl) rfl rfl (by decide) rfl rfl) rfl))) PassesOwn.never rfl (λ_=>rfl)) (ax (bv (aX (cz (ae (kB (jV rfl) rfl T.z_tuple PyProof.Rows.boot_tuple (ae (iv 1) ah rfl) (by decide) (by decide) rfl rfl) ah rfl))))))))
theorem jy (T:Txt P w K mg t):cb P w K mg base CX0 1 t.f10 t.g10 ["_law_text"] (spI K cA):=
 sC (N:=["_law_text","_law_values","_law_sign"]) (b:=cZ) T.F10 dR (hG T)
theorem lE (T:Txt P w K mg t):Bdy P w K mg base 5 ["_law_script","_law_k","_law_hand_here","_law_many","_law_text","_law_some","_law_things"] "law" dO t.f11 kj:=
 λ_ _ _ _ _ _ hr=>(aq (jK (fW rfl T.z_range (ae (aE (bz rfl) aj (bL (qy rfl) rfl T.z_min PyProof.Rows.boot_min (ae aj (ae (bL (eB rfl) rfl T.z_len PySem.boot_len (ae (iv 0) ah rfl) (by decide) (by decide) rfl rfl) ah rfl) rfl) (by decide) (by decide) rfl rfl)) ah rfl) rfl) (cj (ci (i:=1) dE.nd rfl (.inl rfl))) (aq (bA (i:=2) dE.nd rfl (.inr rfl) (aF (iM T) (by decide) hr rfl T.m5 T.F5.kp T.b5 (ae (iv 0) (ae (iv 1) ah rfl) rfl) (by decide) rfl rfl) rfl (.inl rfl)) (aq (bA (i:=3) dE.nd rfl (.inl rfl) (dl (aX (cz (ae (aE pN aj (aF (aR T) (by decide) hr rfl T.m6 T.F6.kp T.b6 (ae (iv 2) (ae aj ah rfl) rfl) (by decide) rfl rfl)) (ae (aF (aR T) (by decide) hr rfl T.m6 T.F6.kp T.b6 (ae (iv 2) (ae aj ah rfl) rfl) (by decide) rfl rfl) ah rfl) rfl))) (aE iZ (aF (aR T) (by decide) hr rfl T.m6 T.F6.kp T.b6 (ae (iv 2) (ae aj ah rfl) rfl) (by decide) rfl rfl) aj) rfl rfl) rfl (.inl rfl)) (aq (bA (i:=4) dE.nd rfl (.inr rfl) (nV aC (ae (aX (gs (fG (ai dO).names ["_law_script","_law_k","_law_hand_here","_law_many","_law_text","_law_some","_law_things"] ["_law_turn","_law_hand_here"] 1 [2] rfl rfl rfl (by decide +kernel)) rfl (by decide) (fW rfl T.z_range (ae (iv 3) ah rfl) rfl) (λ_ _ _ _ _=>(cj (ci (i:=0) (show List.Nodup (α:=Str) ["_law_turn","_law_hand_here"] by decide +kernel) rfl (.inl rfl)))) (λ_ _ _ _ _=>dr) (λ_ _ _ _ _=>(aF (eQ T) (by decide) hr rfl T.m7 T.F7.kp T.b7 (ae (iv 1) (ae (aX (cz (ae aC (ae aC (ae aC ah rfl) rfl) rfl))) ah rfl) rfl) (by decide) rfl rfl)) (λ_=>rfl))) ah rfl) rfl rfl rfl rfl) rfl (.inl rfl)) (aq (bA (i:=5) dE.nd rfl (.inl rfl) (aX (cz (ae (iv 4) (ae (aE (bz rfl) (iv 4) (iv 4)) (ae (ke (iv 4) ix (i6 (pG aj)) rfl) (ae (aE (bz rfl) (iv 4) aC) (ae (aE (bz rfl) aC (iv 4)) ah rfl) rfl) rfl) rfl) rfl))) rfl (.inl rfl)) (aq (bA (i:=5) dE.nd rfl (.inl rfl) (aE (bz rfl) (iv 5) (aX (gs (fG (ai dO).names ["_law_script","_law_k","_law_hand_here","_law_many","_law_text","_law_some","_law_things"] ["_law_turn","_law_hand_here","_law_text"] 1 [2,4] rfl rfl rfl (by decide +kernel)) rfl (by decide) (fW rfl T.z_range (ae aj ah rfl) rfl) (λ_ _ _ _ _=>(cj (ci (i:=0) (show List.Nodup (α:=Str) ["_law_turn","_law_hand_here","_law_text"] by decide +kernel) rfl (.inl rfl)))) (λ_ _ _ _ _=>dr) (λ_ _ _ _ _=>(aF (e8 T) (by decide) hr rfl T.m8 T.F8.kp T.b8 (ae (iv 1) (ae (iv 2) (ae (aX (cz (ae aC (ae aC (ae aC (ae aC (ae aC (ae aC (ae aC (ae aC ah rfl) rfl) rfl) rfl) rfl) rfl) rfl) rfl))) ah rfl) rfl) rfl) (by decide) rfl rfl)) (λ_=>rfl)))) rfl (.inl rfl)) (ax (dB (dS (dU (bL (jM rfl rfl) rfl T.z_all PyProof.Rows.boot_all (ae (aX (gs (fG (ai dO).names ["_law_script","_law_k","_law_hand_here","_law_many","_law_text","_law_some","_law_things"] ["_law_one"] 1 [] rfl rfl rfl (by decide +kernel)) rfl (by decide) (jI (iv 5) rfl) (λ_ _ _ _ _=>(cj (ci (i:=0) (show List.Nodup (α:=Str) ["_law_one"] by decide +kernel) rfl (.inl rfl)))) (λ_ _ _ _ _=>dr) (λ_ _ _ _ _=>(iu (oR hr rfl) (bL (jx hr rfl) rfl T.z_repr PyProof.Rows.boot_repr (ae (aF (eZ T) (by decide) hr rfl T.m9 T.F9.kp T.b9 (ae (iv 0) ah rfl) (by decide) rfl rfl) ah rfl) (by decide) (by decide) rfl rfl) (bL (jx hr rfl) rfl T.z_repr PyProof.Rows.boot_repr (ae (aF (jy T) (by decide) hr rfl T.m10 T.F10.kp T.b10 (ae (iv 0) ah rfl) (by decide) rfl rfl) ah rfl) (by decide) (by decide) rfl rfl) (er _))) (λ_=>rfl))) ah rfl) (by decide) (by decide) rfl rfl) rfl rfl)) (ax (bv mX)) bQ))))))) PassesOwn.never rfl (λ_=>rfl)) (aq (bA (i:=6) dE.nd rfl (.inl rfl) (aX (cz (ae mB (ae aj (ae aj (ae mX (ae (gN (ae aj (ae aj ah rfl) rfl)) (ae (aX (cz (ae aC ah rfl))) (ae (gN (ae aC (ae aC ah rfl) rfl)) (ae rh (ae (gN ah) (ae (aX (cz ah)) (ae (gN (ae aC ah rfl)) ah rfl) rfl) rfl) rfl) rfl) rfl) rfl) rfl) rfl) rfl) rfl))) rfl (.inl rfl)) (ax (bv (bL (jM rfl rfl) rfl T.z_all PyProof.Rows.boot_all (ae (aX (gs (fG (ai dO).names ["_law_script","_law_k","_law_hand_here","_law_many","_law_text","_law_some","_law_things"] ["_law_thing"] 1 [] rfl rfl rfl (by decide +kernel)) rfl (by decide) (jI (aE (bz rfl) (iv 6) (aX (cz (ae aC (ae aC (ae aC (ae aC (ae aC ah rfl) rfl) rfl) rfl) rfl)))) rfl) (λ_ _ _ _ _=>(cj (ci (i:=0) (show List.Nodup (α:=Str) ["_law_thing"] by decide +kernel) rfl (.inl rfl)))) (λ_ _ _ _ _=>dr) (λ_ _ _ _ _=>(iu (oR hr rfl) (aF (eZ T) (by decide) hr rfl T.m9 T.F9.kp T.b9 (ae (iv 0) ah rfl) (by decide) rfl rfl) aC (er _))) (λ_=>rfl))) ah rfl) (by decide) (by decide) rfl rfl)))))
theorem pe (T:Txt P w K mg t):cb P w K mg base CX0 6 t.f11 t.g11 ["_law_script"] (spI K jo):=
 sC (N:=["_law_script","_law_k","_law_hand_here","_law_many","_law_text","_law_some","_law_things"]) (b:=kj) T.F11 dE (lE T)
end
end Own
end
namespace L2
open PySem
end L2
namespace L2
end L2
namespace L2
end L2
namespace L2
open PySem
end L2
namespace L2
open PySem
end L2
namespace L2
open PySem
theorem bV {g:Sto->W->W->Option D}{a b:Ef}{env:Ev}{st s1 s2:Sto}{x y:W}{d:D} (ha:a env st=some (x,s1)) (hb:b env s1=some (y,s2)) (hg:g s2 x y=some d):iOp g a b env st=some (.d d,s2):=by
 simp only [iOp,ha,hb,hg,Option.bind_some,Option.map_some]
theorem kA {a b:Sf}{env e:Ev}{st s:Sto}{r:Fl} (ha:a env st=some (.nx e s)) (hb:b e s=some r):aA a b env st=some r:=by
 simp only [aA,ha,hb,Option.bind_some]
theorem dm {i:Nat}{f:Ef}{env:Ev}{st s:Sto}{w:W} (h:f env st=some (w,s)):br (.nm i) f env st=some (.nx (env.set i (some w)) s):=by
 simp only [br,h,Option.bind_some,dq,Option.map_some]
theorem aP {m:Fn}{a:Af}{env:Ev}{st s:Sto}{ws:List W}{r:W×Sto} (ha:a env st=some (ws,s)) (hm:m ws s=some r):ao m a env st=some r:=by
 simp only [ao,ha,hm,Option.bind_some]
theorem dw {g:Sto->List W->Option D}{a:Af}{env:Ev}{st s:Sto}{ws:List W}{d:D} (ha:a env st=some (ws,s)) (hm:g s ws=some d):iCB g a env st=some (.d d,s):=by
 simp only [iCB,ha,hm,Option.bind_some,Option.map_some]
theorem az {a:Ef}{b:Af}{env:Ev}{st s1 s2:Sto}{x:W}{y:List W} (ha:a env st=some (x,s1)) (hb:b env s1=some (y,s2)):ac a b env st=some (x::y,s2):=by
 simp only [ac,ha,hb,Option.bind_some,Option.map_some]
theorem fY {fi:Lf}{g:Tg}{b:Sf}{env:Ev}{st s:Sto}{ds:List D}{r:Fl} (h:fi env st=some (ds,s)) (hf:dJ g b ds env s=some r):ka fi g b env st=some r:=by
 simp only [ka,h,hf,Option.bind_some]
theorem iS {f:Ef}{env:Ev}{st s:Sto}{w:W} (h:f env st=some (w,s)):bJ f env st=some (.rt w s):=by
 simp only [bJ,h,Option.map_some]
theorem rN {c:Tf}{a b:Sf}{env:Ev}{st s:Sto}{r:Option Fl} (h:c env st=some (true,s)) (ha:a env s=r):bR c a b env st=r:=by
 simp only [bR,h,Option.bind_some,if_true,ha]
theorem oN {c:Tf}{a b:Sf}{env:Ev}{st s:Sto}{r:Option Fl} (h:c env st=some (false,s)) (hb:b env s=r):bR c a b env st=r:=by
 simp only [bR,h,Option.bind_some,Bool.false_eq_true,if_false,hb]
theorem gR {k:Nat}{js:List Nat}{fi:Lf}{g:Tg}{tt:Tf}{te:Ef}{env:Ev}{st s s2:Sto}{ds ys:List D} (h:fi env st=some (ds,s)) (hl:ds.length<=1000000) (hc:lcI g tt te (eA k js env) ds s=some (ys,s2)):iLc k js fi g tt te env st=some (ys,s2):=by
 simp only [iLc,h,hc,hl,Option.bind_some,if_true]
theorem dQ {a:Lf}{env:Ev}{st s:Sto}{ds:List D} (h:a env st=some (ds,s)):au a env st=some (.d (.lst ds),s):=by
 simp only [au,h,Option.map_some]
theorem eN {n k:Nat}{b:Sf}{ws:List W}{st s:Sto}{w:W} (hl:ws.length=k) (h:b (ws.map some++List.replicate (n - k) none) st=some (.rt w s)):db n k b ws st=some (w,s):=by
 simp only [db,hl,if_true,h,Option.bind_some]
theorem ng {n k:Nat}{b:Sf}{ws:List W}{st s:Sto}{x:D} (hl:ws.length=k) (h:b (ws.map some++List.replicate (n - k) none) st=some (.rt (.d x) s)):jO n k b ws st=some (.d x,s.take st.length):=by
 simp only [jO,hl,if_true,h,Option.bind_some,lB]
end L2
section
set_option maxHeartbeats 1000000
namespace Own
open PySem L2
noncomputable def S (l:List Nat):Str:=⟨l.toArray⟩
theorem sy (a b:List Nat):S a++S b=S (a++b):=by
 show (⟨a.toArray++b.toArray⟩:Str)=⟨(a++b).toArray⟩
 congr 1
 simp
theorem fK (a:List Nat):(S a).length=a.length:=by show a.toArray.size=_;simp
theorem jU (a:List Nat):(S a).cps.toList=a:=rfl
theorem cO {st:Sto}{n:Nat}{m:Int} (h:cX st n) (m0:0 < m) (m1:m < 1073741824):∃ r st',0<=r/\r < m/\Stp n st st'/\am [.h n,.d (.int m)] st=some (.d (.int r),st'):=by
 have hn:=h.lt
 obtain⟨x,y,z,h0,h⟩:=h
 by_cases hx:0 < x
 ·refine⟨x % m,st.set n (.l [.int (x / m),.int y,.int z]),Int.emod_nonneg _ (by lia),Int.emod_lt_of_pos _ m0,⟨⟨_,rfl⟩,_,_,_,Int.ediv_nonneg h0 (by lia),ip hn⟩,?_⟩
  simp only [am,cI,iV,iC,iOp,du,bX,aA,br,jh,eH,bJ,bR,db,dq,jQ,d8,lsD,dIx,bj,dP,eM,eV,dGt,Option.bind_some,Option.map_some,List.getD_cons_zero,List.getD_cons_succ,List.set_cons_zero,List.set_cons_succ,List.map_cons,List.map_nil,List.length_cons,List.length_nil,List.replicate_succ,List.replicate_zero,List.cons_append,List.nil_append,Nat.reduceAdd,Nat.reduceSub,if_true,rJ,sh,Nat.zero_add,and_self,decide_true,lg,Int.reduceNeg,h,hx,m0,m1,decide_true,and_self]
 ·have hy0:0<=(y*39373+12345+31*(z+1)) % 2147483647:=Int.emod_nonneg _ (by decide)
  have hy1:(y*39373+12345+31*(z+1)) % 2147483647 < 2147483647:=Int.emod_lt_of_pos _ (by decide)
  have k1:PySem.IntMulOk y 39373:=iT (by decide)
  have k2:PySem.IntMulOk 31 (z+1):=iB (by decide)
  have k3:∀ q,PySem.IntMulOk ((y*39373+12345+31*(z+1)) % 2147483647) q:=λq=>iB (by lia)
  refine⟨(y*39373+12345+31*(z+1)) % 2147483647*((y*39373+12345+31*(z+1)) % 2147483647 % 40009+3) % 2147483629 / 64 % m,st.set n (.l [.int x,.int ((y*39373+12345+31*(z+1)) % 2147483647),.int (z+1)]),Int.emod_nonneg _ (by lia),Int.emod_lt_of_pos _ m0,⟨⟨_,rfl⟩,_,_,_,h0,ip hn⟩,?_⟩
  simp only [am,cI,iV,iC,iOp,du,bX,aA,br,jh,eH,bJ,bR,db,dq,jQ,d8,lsD,dIx,bj,dP,eM,eV,dGt,Option.bind_some,Option.map_some,List.getD_cons_zero,List.getD_cons_succ,List.set_cons_zero,List.set_cons_succ,List.map_cons,List.map_nil,List.length_cons,List.length_nil,List.replicate_succ,List.replicate_zero,List.cons_append,List.nil_append,Nat.reduceAdd,Nat.reduceSub,if_true,if_false,Bool.false_eq_true,rJ,sP,sJ,sh,sN,sR,Nat.zero_add,and_self,decide_false,lg,Int.reduceNeg,h,hx,m0,m1,decide_false,and_self,ip hn,List.set_set,k1,k2,k3,show (0:Int) < 2147483647 by decide,show (0:Int) < 40009 by decide,show (0:Int) < 2147483629 by decide,show (0:Int) < 64 by decide,show (64:Int) < 1073741824 by decide]
theorem ow {st:Sto}{ns:List Int}{k:Nat}:∃ x y:Int,0<=x/\bW [.d (.scr ns),.d (.int k)] st=some (.h st.length,st++[.l [.int x,.int y,.int 0]]):=by
 have p60':gW 10 60:=p60
 have p18':gW 10 18:=p18
 have k1:∀ q,PySem.IntMulOk 7919 q:=λq=>iB (by decide)
 have k2:∀ q,PySem.IntMulOk q 48271:=λq=>iT (by decide)
 have k3:∀ (q:Int) (b:Bool),PySem.IntMulOk q (if b=true then 1 else 0):=λq b=>iT ⟨rF b,rm b⟩
 have hf:=iH
 by_cases hk:(k:Int) < ((ns.map D.int).length:Nat)
 ·have hk':k < ns.length:=by rw [List.length_map] at hk;lia
  have e:atI (ns.map D.int) (k:Int)=some (.int ns[k]):=d2 (by rw [List.getElem?_map,List.getElem?_eq_getElem hk'];rfl)
  refine⟨(if ns[k] < 0 then -ns[k] else ns[k]) % (10 ^ Int.toNat 60*10 ^ Int.toNat 60*10 ^ Int.toNat 60*10 ^ Int.toNat 60)*(if decide (10 ^ Int.toNat 18<=(if ns[k] < 0 then -ns[k] else ns[k]))=true then 1 else 0),(ns[k] % 2147483629+7919*(k:Int)+11)*48271 % 2147483647,Int.mul_nonneg (Int.emod_nonneg _ (Int.ne_of_gt iH)) (oS _),?_⟩
  ·simp only [bW,cH,iV,iC,iOp,du,ag,ac,iCB,bi,jH,bX,aA,br,bJ,bR,db,dq,gO,jQ,d8,lsD,dIx,bj,dP,eV,iR,dLt,dGe,cL,nc,nY,Option.bind_some,Option.map_some,List.getD_cons_zero,List.getD_cons_succ,List.set_cons_zero,List.set_cons_succ,List.map_cons,List.map_nil,List.length_cons,List.length_nil,List.replicate_succ,List.replicate_zero,List.cons_append,List.nil_append,Nat.reduceAdd,Nat.reduceSub,if_true,Nat.zero_add,decide_true,lg,Int.reduceNeg,hk,e,decide_true,p60',p18',k1,k2,k3,rz,qW,rM,hf,show (0:Int) < 2147483647 by decide,show (0:Int) < 2147483629 by decide,show (3:Nat)<=1000 by decide]
 ·refine⟨(if (0:Int) < 0 then -0 else 0) % (10 ^ Int.toNat 60*10 ^ Int.toNat 60*10 ^ Int.toNat 60*10 ^ Int.toNat 60)*(if decide (10 ^ Int.toNat 18<=(if (0:Int) < 0 then -0 else (0:Int)))=true then 1 else 0),(0 % 2147483629+7919*(k:Int)+11)*48271 % 2147483647,Int.mul_nonneg (Int.emod_nonneg _ (Int.ne_of_gt iH)) (oS _),?_⟩
  ·simp only [bW,cH,iV,iC,iOp,du,ag,ac,iCB,bi,jH,bX,aA,br,bJ,bR,db,dq,gO,jQ,d8,lsD,dIx,bj,dP,eV,iR,dLt,dGe,cL,nc,nY,Option.bind_some,Option.map_some,List.getD_cons_zero,List.getD_cons_succ,List.set_cons_zero,List.set_cons_succ,List.map_cons,List.map_nil,List.length_cons,List.length_nil,List.replicate_succ,List.replicate_zero,List.cons_append,List.nil_append,Nat.reduceAdd,Nat.reduceSub,if_true,if_false,Bool.false_eq_true,Nat.zero_add,decide_false,lg,Int.reduceLT,Int.reduceNeg,hk,decide_false,p60',p18',k1,k2,k3,rz,qW,rM,hf,show (0:Int) < 2147483647 by decide,show (0:Int) < 2147483629 by decide,show (3:Nat)<=1000 by decide]
end Own
end
section
set_option maxHeartbeats 1000000
namespace Own
open PySem L2
theorem kz {st:Sto}{n:Nat}{ds:List D} (h:cX st n) (h0:ds≠[]) (h1:ds.length < 1000000):∃ d st',d ∈ ds/\Stp n st st'/\bn [.h n,.d (.lst ds)] st=some (.d d,st'):=by
 have hp:0 < ds.length:=List.length_pos_iff.mpr h0
 obtain⟨r,s1,r0,r1,t1,e1⟩:=cO h (m:=(ds.length:Int)) (by lia) (by lia)
 obtain⟨j,rfl⟩:=Int.eq_ofNat_of_zero_le r0
 have hj:j < ds.length:=by lia
 have e2:atI ds (j:Int)=some ds[j]:=d2 (List.getElem?_eq_getElem hj)
 refine⟨ds[j],s1,List.getElem_mem hj,t1,?_⟩
 simp only [bn,de,iV,iOp,ag,ac,iCB,ao,bJ,db,d8,dIx,cL,Option.bind_some,Option.map_some,List.getD_cons_zero,List.getD_cons_succ,List.map_cons,List.map_nil,List.length_cons,List.length_nil,List.replicate_zero,List.cons_append,List.nil_append,Nat.reduceAdd,Nat.reduceSub,if_true,Nat.zero_add,lg,e1,e2]
theorem i7 {e:Ef}{z:Int}{m:Nat}{env:Ev}{st s:Sto} (he:e env st=some (.d (.int z),s)) (h0:0<=z) (h1:z<=1000) (hm:z.toNat=m):cJ (ac e ag) env st=some (et 0 m,s):=by
 have hb:-(2 ^ 62)<=z/\z < 2 ^ 62:=⟨Int.le_trans (by decide) h0,Int.lt_of_le_of_lt h1 (by decide)⟩
 have h2:=az (b:=ag) he rfl
 simp only [cJ,h2,Option.bind_some,hb,and_self,if_true,hm]
theorem li {f:Ef}{env:Ev}{st s:Sto}{ds:List D} (h:f env st=some (.d (.lst ds),s)):cw f env st=some (ds,s):=by
 simp only [cw,h,Option.bind_some]
theorem lr {f:Ef}{env:Ev}{st s:Sto}{ds:List D} (h:f env st=some (.d (.tup ds),s)):cw f env st=some (ds,s):=by
 simp only [cw,h,Option.bind_some]
theorem kG {xa xb:Rf}{a:Sf}{env:Ev}{st s:Sto} (h:xa env st=some s):gB xa a xb env st=some s:=by simp only [gB,h]
theorem fR {xa xb:Rf}{a:Sf}{env e:Ev}{st s:Sto}{r:Option Sto} (h:xa env st=none) (ha:a env st=some (.nx e s)) (hb:xb e s=r):gB xa a xb env st=r:=by simp only [gB,h,ha,Option.bind_some,hb]
theorem pj {c:Tf}{xa xb:Rf}{env:Ev}{st s:Sto}{r:Option Sto} (h:c env st=some (true,s)) (ha:xa env s=r):xIf c xa xb env st=r:=by simp only [xIf,h,Option.bind_some,if_true,ha]
theorem mh {c:Tf}{xa xb:Rf}{env:Ev}{st s:Sto}{r:Option Sto} (h:c env st=some (false,s)) (hb:xb env s=r):xIf c xa xb env st=r:=by simp only [xIf,h,Option.bind_some,Bool.false_eq_true,if_false,hb]
theorem kJ {a b:Sf}{env:Ev}{st:Sto} (h:a env st=none):aA a b env st=none:=by simp only [aA,h,Option.bind_none]
theorem mP {a b:Sf}{env:Ev}{st s:Sto}{w:W} (h:a env st=some (.rt w s)):aA a b env st=some (.rt w s):=by simp only [aA,h,Option.bind_some]
theorem bN {a b:Sf}{env e:Ev}{st s:Sto}{r:Option Fl} (h:a env st=some (.nx e s)) (hb:b e s=r):aA a b env st=r:=by simp only [aA,h,Option.bind_some,hb]
theorem oZ {c:Tf}{a b:Sf}{env:Ev}{st s:Sto}{r:Option Fl} (h:c env st=some (true,s)) (ha:a env s=r):bR c a b env st=r:=by simp only [bR,h,Option.bind_some,if_true,ha]
theorem jf {c:Tf}{a b:Sf}{env:Ev}{st s:Sto}{r:Option Fl} (h:c env st=some (false,s)) (hb:b env s=r):bR c a b env st=r:=by simp only [bR,h,Option.bind_some,Bool.false_eq_true,if_false,hb]
noncomputable def ce (c:Nat):Option D:=if 49=c then some (.int 1) else if 48=c then some (.int 0) else if 45=c then some .non else none
noncomputable def aZ:List Nat->Option (List D)
 | []=>some []
 | c::l=>(ce c).bind λd=>(aZ l).map λr=>d::r
noncomputable def okV (d:D):Prop:=d=.non\/d=.int 0\/d=.int 1
theorem nU {c:Nat}{d:D} (h:ce c=some d):okV d:=by
 unfold ce at h
 split at h
 ·cases h;exact .inr (.inr rfl)
 ·split at h
  ·cases h;exact .inr (.inl rfl)
  ·split at h
   ·cases h;exact .inl rfl
   ·cases h
theorem dj:∀ {l:List Nat}{f:List D},aZ l=some f->f.length=l.length/\∀ d ∈ f,okV d
 | [],f,h=>by cases h;exact⟨rfl,λd hd=>nomatch hd⟩
 | c::l,f,h=>by
  unfold aZ at h
  obtain⟨d,hd,h⟩:=Option.bind_eq_some_iff.mp h
  obtain⟨r,hr,rfl⟩:=Option.map_eq_some_iff.mp h
  obtain⟨h1,h2⟩:=dj hr
  refine⟨by rw [List.length_cons,List.length_cons,h1],λx hx=>?_⟩
  rcases List.mem_cons.mp hx with rfl | hx
  ·exact nU hd
  ·exact h2 x hx
theorem nP {a b:Nat}:aw a=aw b↔a=b:=⟨λh=>by
 have:=congrArg (λs:Str=>s.cps.toList) h
 simpa [aw] using this,λh=>by rw [h]⟩
theorem kq (c:Nat):atS (aw c) [("1",(.int 1)),("0",(.int 0)),("-",.non)]=ce c:=by
 have e1:("1" : Str)=aw 49:=rfl
 have e0:("0" : Str)=aw 48:=rfl
 have em:("-" : Str)=aw 45:=rfl
 simp only [atS,e1,e0,em,nP,ce]
theorem my {c:Nat}{st:Sto}:gK true [("1",(.int 1)),("0",(.int 0)),("-",.non)] (iV 0) [some (.d (.str (aw c)))] st=some (!(ce c).isSome,st):=by
 have hv:iV 0 [some (.d (.str (aw c)))] st=some (.d (.str (aw c)),st):=rfl
 simp only [gK,hv,Option.bind_some,kq]
 cases (ce c).isSome<;>rfl
theorem r8 {c:Nat}{st:Sto}:mo [("1",(.int 1)),("0",(.int 0)),("-",.non)] (iV 0) [some (.d (.str (aw c)))] st=(ce c).map λd=>(.d d,st):=by
 have hv:iV 0 [some (.d (.str (aw c)))] st=some (.d (.str (aw c)),st):=rfl
 simp only [mo,hv,Option.bind_some,kq]
theorem oQ {c:Nat}{st:Sto}:aV [.d (.str (aw c))] st=(ce c).map λd=>(.d d,st):=by
 show db 1 1 bF [.d (.str (aw c))] st=_
 have hb:bF [some (.d (.str (aw c)))] st=(ce c).map λd=>Fl.rt (.d d) st:=by
  cases h:ce c with
  | none=>
   have hi:=my (c:=c) (st:=st)
   rw [h] at hi
   simp only [bF,aA,bR,hi,Option.bind_some];rfl
  | some d=>
   have hi:=my (c:=c) (st:=st)
   have hx:=r8 (c:=c) (st:=st)
   rw [h] at hi hx
   exact kA (oN hi rfl) (iS hx)
 have hr:db 1 1 bF [.d (.str (aw c))] st=(bF [some (.d (.str (aw c)))] st).bind λr=>match r with | .nx _ s=>some (.d .non,s) | .rt w s=>some (w,s) | _=>none:=rfl
 rw [hr,hb]
 cases ce c<;>rfl
theorem pc {c:Nat}{st:Sto}:bT [.d (.str (aw c))] st=if (ce c).isSome=true then none else some st:=by
 have hb:bZ [some (.d (.str (aw c)))] st=if (ce c).isSome=true then none else some st:=by
  simp only [bZ,gB,xIf,bR,my,Option.bind_some]
  cases h:(ce c).isSome<;>rfl
 have hr:bT [.d (.str (aw c))] st=(bZ [some (.d (.str (aw c)))] st).map λs=>s.take st.length:=rfl
 rw [hr,hb]
 cases (ce c).isSome
 ·show some (st.take st.length)=_
  rw [List.take_length];rfl
 ·rfl
noncomputable def chs (l:List Nat):List D:=l.map λc=>D.str (aw c)
theorem lcR (st:Sto):∀ l:List Nat,lcI (.nm 0) cq bq [none] (chs l) st=(aZ l).map λr=>(r,st)
 | []=>rfl
 | c::l=>by
  have ih:=lcR st l
  have he:bq [some (.d (.str (aw c)))] st=(ce c).map λd=>(.d d,st):=by
   show ao aV (ac (iV 0) ag) _ st=_
   rw [show ao aV (ac (iV 0) ag) [some (.d (.str (aw c)))] st=aV [.d (.str (aw c))] st from rfl,oQ]
  have hs:dq (.nm 0) (.d (.str (aw c))) [none]=some [some (.d (.str (aw c)))]:=rfl
  have hy:∀ e,cq e st=some (true,st):=λ_=>rfl
  show lcI (.nm 0) cq bq [none] (D.str (aw c)::chs l) st=_
  simp only [lcI,hs,hy,he,Option.bind_some,if_true,aZ]
  cases ce c with
  | none=>rfl
  | some d=>
   simp only [Option.map_some,Option.bind_some,gO,ih]
   cases aZ l<;>rfl
theorem rf (st:Sto):∀ l:List Nat,gS (.nm 0) aK aH [none] (chs l) st=if (aZ l).isSome=true then none else some st
 | []=>rfl
 | c::l=>by
  have ih:=rf st l
  have he:aK [some (.d (.str (aw c)))] st=(ce c).map λd=>(.d d,st):=by
   show ao aV (ac (iV 0) ag) _ st=_
   rw [show ao aV (ac (iV 0) ag) [some (.d (.str (aw c)))] st=aV [.d (.str (aw c))] st from rfl,oQ]
  have hx:aH [some (.d (.str (aw c)))] st=if (ce c).isSome=true then none else some st:=by
   show fj bT (ac (iV 0) ag) _ st=_
   rw [show fj bT (ac (iV 0) ag) [some (.d (.str (aw c)))] st=bT [.d (.str (aw c))] st from rfl,pc]
  have hs:dq (.nm 0) (.d (.str (aw c))) [none]=some [some (.d (.str (aw c)))]:=rfl
  show gS (.nm 0) aK aH [none] (D.str (aw c)::chs l) st=_
  cases hv:ce c with
  | none=>
   rw [hv] at hx
   simp only [gS,hs,hx,Option.bind_some,aZ,hv];rfl
  | some d=>
   rw [hv] at hx he
   have hx':aH [some (.d (.str (aw c)))] st=none:=hx
   have he':aK [some (.d (.str (aw c)))] st=some (.d d,st):=he
   simp only [gS,hs,hx',he',Option.bind_some,aZ,hv,gO,Option.map_some,ih]
   cases aZ l<;>rfl
noncomputable def dk (n:Nat):Bool:=inD (.int (n:Nat)) [(.int 1),(.int 2),(.int 4),(.int 8),(.int 16),(.int 32),(.int 64)]
theorem s0 {st:Sto}{d:D} (h:okV d):bP [some (.d d)] st=some (.d (.bl true),st):=by
 rcases h with rfl | rfl | rfl<;>rfl
theorem d6:∀ f:List D,dF (f.map λ_=>D.bl true)=some (f.map λ_=>true)
 | []=>rfl
 | d::f=>by rw [List.map_cons,dF,d6 f];rfl
theorem eS:∀ f:List D,(f.map λ_=>true).all id=true
 | []=>rfl
 | d::f=>by rw [List.map_cons,List.all_cons,eS f];rfl
theorem pE {st:Sto}{f:List D} (hf:∀ d ∈ f,okV d) (hz:f.length<=1000000):bd [.d (.tup f)] st=some (.d (.bl (dk f.length)),st):=by
 have k:lcI (.nm 0) cq bP [none] f st=some (f.map λ_=>D.bl true,st):=iO (λ_=>D.bl true) λd hd=>⟨_,rfl,s0 (hf d hd)⟩
 have hd:iCB jl (ac (au (iLc 1 [] (cw (iV 0)) (.nm 0) cq bP)) ag) [some (.d (.tup f))] st=some (.d (.bl true),st):=by
  refine dw (az (dQ (gR (lr rfl) hz k)) rfl) ?_
  show (dF (f.map λ_=>D.bl true)).map (λns=>D.bl (ns.all id))=_
  rw [d6,Option.map_some,eS]
 have hl2:iCB cL (ac (iV 0) ag) [some (.d (.tup f))] st=some (.d (.int (f.length:Nat)),st):=rfl
 have ht:gr true [(.int 1),(.int 2),(.int 4),(.int 8),(.int 16),(.int 32),(.int 64)] (iCB cL (ac (iV 0) ag)) [some (.d (.tup f))] st=some (!dk f.length,st):=by
  have e:∀ z:Int,cf (.int z)=true:=λ_=>rfl
  simp only [gr,hl2,Option.bind_some,e,if_true]
  show some (true != dk f.length,st)=_
  cases dk f.length<;>rfl
 have h1:bO (di dn (iCB eE (ac (iV 0) (ac (iC (.ty "tuple")) ag)))) [some (.d (.tup f))] st=some (false,st):=rfl
 have ho:i5 (bO (di dn (iCB eE (ac (iV 0) (ac (iC (.ty "tuple")) ag))))) (gr true [(.int 1),(.int 2),(.int 4),(.int 8),(.int 16),(.int 32),(.int 64)] (iCB cL (ac (iV 0) ag))) [some (.d (.tup f))] st=some (!dk f.length,st):=by
  simp only [i5,h1,ht,Option.bind_some];rfl
 cases hb:dk f.length with
 | true=>
  rw [hb] at ho
  exact eN (n:=1) (k:=1) (b:=bc) rfl (kA (oN ho rfl) (iS hd))
 | false=>
  rw [hb] at ho
  have hq:bR (i5 (bO (di dn (iCB eE (ac (iV 0) (ac (iC (.ty "tuple")) ag))))) (gr true [(.int 1),(.int 2),(.int 4),(.int 8),(.int 16),(.int 32),(.int 64)] (iCB cL (ac (iV 0) ag)))) (bJ (iC (.bl false))) bX [some (.d (.tup f))] st=some (.rt (.d (.bl false)) st):=rN ho rfl
  have hs:bc [some (.d (.tup f))] st=some (.rt (.d (.bl false)) st):=by
   simp only [bc,aA,hq,Option.bind_some]
  exact eN (n:=1) (k:=1) (b:=bc) rfl hs
noncomputable def cg (l:List Nat):Option (List D):=(aZ l).bind λf=>if dk f.length=true then some f else none
theorem kM {l:List Nat}{st:Sto}{x:Option W} (ha:asc (S l)=true):cC (iV 0) [some (.d (.str (S l))),x] st=some (chs l,st):=by
 have hv:iV 0 [some (.d (.str (S l))),x] st=some (.d (.str (S l)),st):=rfl
 simp only [cC,hv,Option.bind_some,ha,if_true];rfl
theorem kH (l:List Nat):(chs l).length=l.length:=by unfold chs;rw [List.length_map]
theorem mE {l:List Nat}{st:Sto}{x:Option W}:bO (di dn (iCB eE (ac (iV 0) (ac (iC (.ty "str")) ag)))) [some (.d (.str (S l))),x] st=some (false,st):=rfl
theorem sA {l:List Nat}{st:Sto} (ha:asc (S l)=true) (hz:l.length<=1000000) {te:Ef} (hk:lcI (.nm 0) cq te [none] (chs l) st=(aZ l).map λr=>(r,st)):br (.nm 1) (iCB j6 (ac (au (iLc 1 [] (cC (iV 0)) (.nm 0) cq te)) ag)) [some (.d (.str (S l))),none] st=(aZ l).map λf=>.nx [some (.d (.str (S l))),some (.d (.tup f))] st:=by
 have hc:=kM (st:=st) (x:=none) ha
 have hl:iLc 1 [] (cC (iV 0)) (.nm 0) cq te [some (.d (.str (S l))),none] st=(aZ l).map λr=>(r,st):=by
  simp only [iLc,hc,Option.bind_some]
  rw [if_pos (by rw [kH];exact hz)]
  exact hk
 simp only [br,iCB,ac,au,hl]
 cases aZ l<;>rfl
theorem isn {l:List Nat}{f:List D}{st:Sto} (hf:∀ d ∈ f,okV d) (hz:f.length<=1000000):bO (di dn (ao bd (ac (iV 1) ag))) [some (.d (.str (S l))),some (.d (.tup f))] st=some (!dk f.length,st):=by
 have hi:ao bd (ac (iV 1) ag) [some (.d (.str (S l))),some (.d (.tup f))] st=some (.d (.bl (dk f.length)),st):=aP (ws:=[.d (.tup f)]) rfl (pE hf hz)
 simp only [bO,di,hi,Option.bind_some];rfl
theorem n3 {l:List Nat}{st:Sto} (ha:asc (S l)=true) (hz:l.length<=1000000):aG [.d (.str (S l))] st=(cg l).map λf=>(.d (.tup f),st):=by
 have hb:bp [some (.d (.str (S l))),none] st=(cg l).map λf=>Fl.rt (.d (.tup f)) st:=by
  have s1:=sA (st:=st) ha hz (lcR st l)
  unfold cg
  have n1:bR (bO (di dn (iCB eE (ac (iV 0) (ac (iC (.ty "str")) ag))))) io bX [some (.d (.str (S l))),none] st=some (.nx [some (.d (.str (S l))),none] st):=jf mE rfl
  cases hv:aZ l with
  | none=>
   rw [hv] at s1
   exact bN n1 (kJ s1)
  | some f=>
   rw [hv] at s1
   obtain⟨h1,h2⟩:=dj hv
   have hi:=isn (l:=l) (st:=st) h2 (by lia)
   refine bN n1 (bN s1 ?_)
   cases hb:dk f.length with
   | true=>
    rw [hb] at hi
    rw [Option.bind_some,hb]
    exact bN (jf hi rfl) rfl
   | false=>
    rw [hb] at hi
    rw [Option.bind_some,hb]
    exact kJ (oZ hi rfl)
 have hr:aG [.d (.str (S l))] st=(bp [some (.d (.str (S l))),none] st).bind λr=>match r with | .nx _ s=>some (.d .non,s) | .rt w s=>some (w,s) | _=>none:=rfl
 rw [hr,hb]
 cases cg l<;>rfl
theorem mV {l:List Nat}{st:Sto} (ha:asc (S l)=true) (hz:l.length<=1000000):aI [.d (.str (S l))] st=if (cg l).isSome=true then none else some st:=by
 have hb:bh [some (.d (.str (S l))),none] st=if (cg l).isSome=true then none else some st:=by
  have s1:=sA (st:=st) ha hz (te:=cY) (lcR st l)
  have hc:=kM (st:=st) (x:=none) ha
  have hl:xLc 1 [] (cC (iV 0)) (.nm 0) aK aH [some (.d (.str (S l))),none] st=if (aZ l).isSome=true then none else some st:=by
   simp only [xLc,hc,Option.bind_some]
   rw [if_pos (by rw [kH];exact hz)]
   exact rf st l
  have q1:xIf (bO (di dn (iCB eE (ac (iV 0) (ac (iC (.ty "str")) ag))))) (eJ (ac (iC (.str "no text")) ag)) xNo [some (.d (.str (S l))),none] st=none:=mh mE rfl
  have q2:bR (bO (di dn (iCB eE (ac (iV 0) (ac (iC (.ty "str")) ag))))) io bX [some (.d (.str (S l))),none] st=some (.nx [some (.d (.str (S l))),none] st):=jf mE rfl
  unfold cg
  cases hv:aZ l with
  | none=>
   rw [hv] at hl
   exact fR q1 q2 (kG hl)
  | some f=>
   rw [hv] at s1 hl
   obtain⟨h1,h2⟩:=dj hv
   have hi:=isn (l:=l) (st:=st) h2 (by lia)
   refine fR q1 q2 (fR hl s1 ?_)
   cases hb:dk f.length with
   | true=>
    rw [hb] at hi
    rw [Option.bind_some,hb]
    exact fR (mh hi rfl) (jf hi rfl) rfl
   | false=>
    rw [hb] at hi
    rw [Option.bind_some,hb]
    exact kG (pj hi rfl)
 have hr:aI [.d (.str (S l))] st=(bh [some (.d (.str (S l))),none] st).map λs=>s.take st.length:=rfl
 rw [hr,hb]
 cases (cg l).isSome
 ·show some (st.take st.length)=_
  rw [List.take_length];rfl
 ·rfl
noncomputable def cu (l:List Nat):D:=match cg l with
 | some f=>.lst [.tup f]
 | none=>.str "no text"
theorem kn {l:List Nat}{st:Sto} (ha:asc (S l)=true) (hz:l.length<=1000000):cG [.d (.str (S l))] st=some (.d (cu l),st):=by
 have h1:ao aG (ac (iV 0) ag) [some (.d (.str (S l))),none] st=(cg l).map λf=>(.d (.tup f),st):=by
  rw [show ao aG (ac (iV 0) ag) [some (.d (.str (S l))),none] st=aG [.d (.str (S l))] st from rfl,n3 ha hz]
 have h2:fj aI (ac (iV 0) ag) [some (.d (.str (S l))),none] st=if (cg l).isSome=true then none else some st:=by
  rw [show fj aI (ac (iV 0) ag) [some (.d (.str (S l))),none] st=aI [.d (.str (S l))] st from rfl,mV ha hz]
 have hb:bC [some (.d (.str (S l))),none] st=some (.rt (.d (cu l)) st):=by
  cases hv:cg l with
  | none=>
   rw [hv] at h1 h2
   have h1':bJ (au (bi (ac (ao aG (ac (iV 0) ag)) ag))) [some (.d (.str (S l))),none] st=none:=by
    simp only [bJ,au,bi,ac,h1];rfl
   have h2':fj aI (ac (iV 0) ag) [some (.d (.str (S l))),none] st=some st:=h2
   simp only [bC,mJ,h1',h2',cu,hv];rfl
  | some f=>
   rw [hv] at h1
   have h1':bJ (au (bi (ac (ao aG (ac (iV 0) ag)) ag))) [some (.d (.str (S l))),none] st=some (.rt (.d (.lst [.tup f])) st):=by
    simp only [bJ,au,bi,ac,h1];rfl
   simp only [bC,mJ,h1',cu,hv]
 exact eN (n:=2) (k:=1) (b:=bC) rfl hb
end Own
end
section
set_option maxHeartbeats 1000000
namespace Own
open PySem L2
theorem sY {o a:Ef}{env:Ev}{st s1 s2:Sto}{n:Nat}{d:D}{ds0 ds:List D} (ho:o env st=some (.h n,s1)) (ha:a env s1=some (.d d,s2)) (h0:lg s1 n=some ds0) (hg:lg s2 n=some ds) (hz:ds.length < 1000000):jE (ig d0 o (ac a ag)) env st=some (.nx env (s2.set n (.l (ds++[d])))):=by
 have hc:=az (b:=ag) ha rfl
 simp only [jE,ig,ho,hc,h0,hg,d0,hz,if_true,Option.bind_some,Option.map_some]
theorem mT (st:Sto) (a b:C):(st++[a]).set st.length b=st++[b]:=by
 rw [List.set_append];simp
theorem oH:∀ c,c < 128->PySem.Txt.contains "01-" (aw c)=(ce c).isSome:=by decide +kernel
theorem mD:∀ c,c < 128->("01-" : Str).cps.contains c=(ce c).isSome:=by decide +kernel
theorem jS {l:List Nat} (h:∀ c ∈ l,c < 128):asc (S l)=true:=by
 unfold asc S
 rw [List.all_toArray,List.all_eq_true]
 exact λc hc=>decide_eq_true (h c hc)
theorem hZ:∀ {l:List Nat},(aZ l).isSome=true->∀ c ∈ l,(ce c).isSome=true
 | [],_,c,hc=>nomatch hc
 | d::l,h,c,hc=>by
  unfold aZ at h
  cases hv:ce d with
  | none=>rw [hv] at h;cases h
  | some x=>
   rw [hv] at h
   rcases List.mem_cons.mp hc with rfl | hc
   ·rw [hv];rfl
   ·refine hZ (l:=l) ?_ c hc
    cases hr:aZ l with
    | none=>rw [hr] at h;cases h
    | some r=>rfl
theorem eh {p:Nat->Bool}:∀ {l:List Nat},(∀ c ∈ l,p c=true)->l.takeWhile p=l
 | [],_=>rfl
 | c::l,h=>by rw [List.takeWhile_cons,h c List.mem_cons_self,if_pos rfl,eh λx hx=>h x (List.mem_cons_of_mem _ hx)]
theorem lz {l:List Nat} (h:∀ c ∈ l,("01-" : Str).cps.contains c=true):PySem.Txt.stripChars (S l) "01-" = "":=by
 show PySem.Txt.stripBy ("01-" : Str).cps.contains true true (S l)=_
 have hlo:PySem.stripLo ("01-" : Str).cps.contains true (S l)=l.length:=by
  show (((S l).cps.toList).takeWhile ("01-" : Str).cps.contains).length=_
  rw [jU,eh h]
 have hhi:PySem.stripHi ("01-" : Str).cps.contains true (S l) l.length=l.length:=by
  show (S l).length - ((((S l).cps.toList).drop l.length).reverse.takeWhile ("01-" : Str).cps.contains).length=_
  rw [jU,List.drop_length,fK];rfl
 unfold PySem.Txt.stripBy PySem.stripSame PySem.stripped
 rw [hlo,hhi,fK]
 cases l with
 | nil=>rfl
 | cons c l=>
  have hb:(((c::l).length==0) && ((c::l).length==(c::l).length))=false:=rfl
  rw [hb,if_neg (by decide)]
  show (⟨((c::l).toArray).extract (c::l).length (c::l).length⟩:Str)=⟨#[]⟩
  congr 1
  apply Array.toList_inj.mp
  simp
theorem lY {c:Nat}{d:D} (h:ce c=some d):oU (.d (.str (aw c)))=some d:=by
 unfold ce at h
 split at h
 ·rename_i e;subst e;cases h;rfl
 ·split at h
  ·rename_i e;subst e;cases h;rfl
  ·split at h
   ·rename_i e;subst e;cases h;rfl
   ·cases h
theorem jc (st:Sto) (z:Option W):∀ (l:List Nat) (acc:List D) (x:Option W),(∀ c ∈ l,c < 128)->acc.length+l.length<=1000->
  (∃ f y,aZ l=some f/\dJ (.nm 2) aQ (chs l) [z,some (.h st.length),x] (st++[.l acc])=some (.nx [z,some (.h st.length),y] (st++[.l (acc++f)])))\/
  (aZ l=none/\∃ s,s.take st.length=st/\dJ (.nm 2) aQ (chs l) [z,some (.h st.length),x] (st++[.l acc])=some (.rt (.d (.str "no text")) s))
 | [],acc,x,_,_=>.inl ⟨[],x,rfl,by rw [List.append_nil];rfl⟩
 | c::l,acc,x,hc,hl=>by
  rw [List.length_cons] at hl
  have hs:dq (.nm 2) (.d (.str (aw c))) [z,some (.h st.length),x]=some [z,some (.h st.length),some (.d (.str (aw c)))]:=rfl
  have hn:du eW (iV 2) (iC (.str "01-")) [z,some (.h st.length),some (.d (.str (aw c)))] (st++[.l acc])=some (!(ce c).isSome,st++[.l acc]):=by
   have e:eW (st++[.l acc]) (.d (.str (aw c))) (.d (.str "01-"))=some (.bl (!(ce c).isSome)):=by
    show some (D.bl (!PySem.Txt.contains "01-" (aw c)))=_
    rw [oH c (hc c List.mem_cons_self)]
   have v:iV 2 [z,some (.h st.length),some (.d (.str (aw c)))] (st++[.l acc])=some (.d (.str (aw c)),st++[.l acc]):=rfl
   have w:iC (.str "01-") [z,some (.h st.length),some (.d (.str (aw c)))] (st++[.l acc])=some (.d (.str "01-"),st++[.l acc]):=rfl
   simp only [du,v,w,Option.bind_some,e];rfl
  show (∃ f y,aZ (c::l)=some f/\dJ (.nm 2) aQ (.str (aw c)::chs l) _ _=_)\/(aZ (c::l)=none/\∃ s,_/\dJ (.nm 2) aQ (.str (aw c)::chs l) _ _=_)
  cases hv:ce c with
  | none=>
   rw [hv] at hn
   have hb:aQ [z,some (.h st.length),some (.d (.str (aw c)))] (st++[.l acc])=some (.rt (.d (.str "no text")) (st++[.l acc])):=mP (oZ hn rfl)
   refine .inr ⟨by simp only [aZ,hv,Option.bind_none],st++[.l acc],by rw [List.take_left],?_⟩
   simp only [dJ,hs,hb,Option.bind_some]
  | some d=>
   rw [hv] at hn
   have hg:lg (st++[.l acc]) st.length=some acc:=by unfold lg;simp
   have g:jj (iV 2) [z,some (.h st.length),some (.d (.str (aw c)))] (st++[.l acc])=some (.d d,st++[.l acc]):=by
    have v:iV 2 [z,some (.h st.length),some (.d (.str (aw c)))] (st++[.l acc])=some (.d (.str (aw c)),st++[.l acc]):=rfl
    simp only [jj,v,Option.bind_some,lY hv,Option.map_some]
   have hm:=sY (o:=iV 1) (env:=[z,some (.h st.length),some (.d (.str (aw c)))]) (st:=st++[.l acc]) (n:=st.length) rfl g hg hg (by lia)
   rw [mT] at hm
   have hb:aQ [z,some (.h st.length),some (.d (.str (aw c)))] (st++[.l acc])=some (.nx [z,some (.h st.length),some (.d (.str (aw c)))] (st++[.l (acc++[d])])):=bN (jf hn rfl) hm
   have hf:dJ (.nm 2) aQ (.str (aw c)::chs l) [z,some (.h st.length),x] (st++[.l acc])=dJ (.nm 2) aQ (chs l) [z,some (.h st.length),some (.d (.str (aw c)))] (st++[.l (acc++[d])]):=by
    simp only [dJ,hs,hb,Option.bind_some]
   rw [hf]
   rcases jc st z l (acc++[d]) (some (.d (.str (aw c)))) (λy hy=>hc y (List.mem_cons_of_mem _ hy)) (by rw [List.length_append];simp;lia) with⟨f,y,h1,h2⟩ | ⟨h1,s,h2,h3⟩
   ·refine .inl ⟨d::f,y,by simp only [aZ,hv,Option.bind_some,h1,Option.map_some],?_⟩
    rw [h2,List.append_assoc,List.singleton_append]
   ·exact .inr ⟨by simp only [aZ,hv,Option.bind_some,h1,Option.map_none],s,h2,h3⟩
theorem qo {l:List Nat}{st:Sto} (hc:∀ c ∈ l,c < 128) (hl:l.length<=1000):cA [.d (.str (S l))] st=some (.d (cu l),st):=by
 have ha:=jS hc
 have hlen:iCB cL (ac (iV 0) ag) [some (.d (.str (S l))),none,none] st=some (.d (.int (l.length:Nat)),st):=by
  refine dw (ws:=[.d (.str (S l))]) rfl ?_
  show (if (S l).length<=1000000 then some (D.int ((S l).length:Nat)) else none)=_
  rw [fK,if_pos (by lia)]
 have htup:cy (ac (iC (.int 1)) (ac (iC (.int 2)) (ac (iC (.int 4)) (ac (iC (.int 8)) (ac (iC (.int 16)) (ac (iC (.int 32)) (ac (iC (.int 64)) ag))))))) [some (.d (.str (S l))),none,none] st=some (.d (.tup [.int 1,.int 2,.int 4,.int 8,.int 16,.int 32,.int 64]),st):=rfl
 have h1:du eI (iCB cL (ac (iV 0) ag)) (cy (ac (iC (.int 1)) (ac (iC (.int 2)) (ac (iC (.int 4)) (ac (iC (.int 8)) (ac (iC (.int 16)) (ac (iC (.int 32)) (ac (iC (.int 64)) ag)))))))) [some (.d (.str (S l))),none,none] st=some (!dk l.length,st):=by
  have e:eI st (.d (.int (l.length:Nat))) (.d (.tup [.int 1,.int 2,.int 4,.int 8,.int 16,.int 32,.int 64]))=some (.bl (!dk l.length)):=rfl
  simp only [du,hlen,htup,Option.bind_some,e];rfl
 have hst:iTm dA (iV 0) (ac (iC (.str "01-")) ag) [some (.d (.str (S l))),none,none] st=some (.d (.str (PySem.Txt.stripChars (S l) "01-")),st):=by
  have v:iV 0 [some (.d (.str (S l))),none,none] st=some (.d (.str (S l)),st):=rfl
  have w:ac (iC (.str "01-")) ag [some (.d (.str (S l))),none,none] st=some ([.d (.str "01-")],st):=rfl
  simp only [iTm,v,w,Option.bind_some,dA]
  rw [if_pos (by rw [fK];lia)];rfl
 have h2:du dNe (iTm dA (iV 0) (ac (iC (.str "01-")) ag)) (iC (.str "")) [some (.d (.str (S l))),none,none] st=some (!(PySem.Txt.stripChars (S l) "01-"==""),st):=by
  have e:∀ a:Str,dNe st (.d (.str a)) (.d (.str ""))=some (.bl (!(a==""))):=λa=>rfl
  have w:iC (.str "") [some (.d (.str (S l))),none,none] st=some (.d (.str ""),st):=rfl
  simp only [du,hst,w,Option.bind_some,e];rfl
 have hor:i5 (du eI (iCB cL (ac (iV 0) ag)) (cy (ac (iC (.int 1)) (ac (iC (.int 2)) (ac (iC (.int 4)) (ac (iC (.int 8)) (ac (iC (.int 16)) (ac (iC (.int 32)) (ac (iC (.int 64)) ag))))))))) (du dNe (iTm dA (iV 0) (ac (iC (.str "01-")) ag)) (iC (.str ""))) [some (.d (.str (S l))),none,none] st=some (!dk l.length || !(PySem.Txt.stripChars (S l) "01-"==""),st):=by
  simp only [i5,h1,Option.bind_some]
  cases dk l.length with
  | false=>rfl
  | true=>simp only [Bool.not_true,Bool.false_eq_true,if_false,h2,Bool.false_or]
 have fin:∀ {w:W}{s:Sto},cZ [some (.d (.str (S l))),none,none] st=some (.rt w s)->lB st.length w s=some (.d (cu l),st)->cA [.d (.str (S l))] st=some (.d (cu l),st):=λ{w s} hb hf=>by
  have hr:cA [.d (.str (S l))] st=(cZ [some (.d (.str (S l))),none,none] st).bind λr=>match r with | .nx _ s=>some (.d .non,s.take st.length) | .rt w s=>lB st.length w s | _=>none:=rfl
  rw [hr,hb]
  exact hf
 by_cases hb:(!dk l.length || !(PySem.Txt.stripChars (S l) "01-"==""))=true
 ·rw [hb] at hor
  have hn:cg l=none:=by
   unfold cg
   cases hv:aZ l with
   | none=>rfl
   | some f=>
    obtain⟨e1,_⟩:=dj hv
    rw [Option.bind_some,e1]
    rcases Bool.or_eq_true_iff.mp hb with q | q
    ·rw [if_neg (by intro z;rw [z] at q;cases q)]
    ·have:PySem.Txt.stripChars (S l) "01-" = "":=lz λc hc'=>by
      rw [mD c (hc c hc')]
      exact hZ (by rw [hv];rfl) c hc'
     rw [this] at q
     cases q
  refine fin (w:=.d (.str "no text")) (s:=st) (mP (oZ hor rfl)) ?_
  show some (W.d (.str "no text"),st.take st.length)=_
  rw [List.take_length]
  unfold cu
  rw [hn]
 ·have hb':(!dk l.length || !(PySem.Txt.stripChars (S l) "01-"==""))=false:=by
   cases q:(!dk l.length || !(PySem.Txt.stripChars (S l) "01-"=="")) with
   | true=>exact absurd q hb
   | false=>rfl
  rw [hb'] at hor
  have hln:dk l.length=true:=by
   cases q:dk l.length with
   | true=>rfl
   | false=>rw [q] at hb';cases hb'
  have hch:cC (iV 0) [some (.d (.str (S l))),some (.h st.length),none] (st++[.l []])=some (chs l,st++[.l []]):=by
   have hv:iV 0 [some (.d (.str (S l))),some (.h st.length),none] (st++[.l []])=some (.d (.str (S l)),st++[.l []]):=rfl
   simp only [cC,hv,Option.bind_some,ha,if_true];rfl
  have hset:br (.nm 1) (jH (bi ag)) [some (.d (.str (S l))),none,none] st=some (.nx [some (.d (.str (S l))),some (.h st.length),none] (st++[.l []])):=rfl
  rcases jc st (some (.d (.str (S l)))) l [] none hc (by simpa using hl) with⟨f,y,h3,h4⟩ | ⟨h3,s,h4,h5⟩
  ·rw [List.nil_append] at h4
   obtain⟨e1,_⟩:=dj h3
   have hg:lg (st++[.l f]) st.length=some f:=by unfold lg;simp
   have ht:iCB j6 (ac (iV 1) ag) [some (.d (.str (S l))),some (.h st.length),y] (st++[.l f])=some (.d (.tup f),st++[.l f]):=by
    refine dw (ws:=[.h st.length]) rfl ?_
    show (d8 (st++[.l f]) (.h st.length)).map D.tup=_
    show (lg (st++[.l f]) st.length).map D.tup=_
    rw [hg];rfl
   have hrt:bJ (au (bi (ac (iCB j6 (ac (iV 1) ag)) ag))) [some (.d (.str (S l))),some (.h st.length),y] (st++[.l f])=some (.rt (.d (.lst [.tup f])) (st++[.l f])):=by
    simp only [bJ,au,bi,ac,ht];rfl
   refine fin (bN (jf hor rfl) (bN hset (bN (fY hch h4) hrt))) ?_
   show some (W.d (.lst [.tup f]),(st++[C.l f]).take st.length)=_
   rw [List.take_left]
   unfold cu cg
   rw [h3,Option.bind_some,e1,hln];rfl
  ·refine fin (bN (jf hor rfl) (bN hset (mP (fY hch h5)))) ?_
   show some (W.d (.str "no text"),s.take st.length)=_
   rw [h4]
   unfold cu cg
   rw [h3];rfl
end Own
end
section
set_option maxHeartbeats 1000000
namespace Own
open PySem L2
theorem qJ:∀ {f:List D},(∀ d ∈ f,okV d)->fq f=true/\gX f<=2002*f.length/\gZ f<=1
 | [],_=>by rw [fq,gX,gZ];exact⟨rfl,Nat.zero_le _,Nat.zero_le _⟩
 | d::f,h=>by
  obtain⟨a,b,c⟩:=qJ (f:=f) λx hx=>h x (List.mem_cons_of_mem _ hx)
  have hd:rpD d=true/\wtD d<=2000/\dpD d<=1:=by rcases h d List.mem_cons_self with rfl | rfl | rfl<;>decide +kernel
  rw [fq,gX,gZ,hd.1,a,List.length_cons]
  exact⟨rfl,by lia,by lia⟩
theorem lq {l:List Nat}{st:Sto} (hl:l.length<=1000):∃ r,gQ st [.d (cu l)]=some (.str r):=by
 cases hr:cg l with
 | none=>
  have e:cu l=.str "no text":=by unfold cu;rw [hr]
  rw [e]
  refine⟨PySem.reprText "no text",?_⟩
  show (if (PySem.reprText "no text").length<=sizeLine then some (D.str (PySem.reprText "no text")) else none)=_
  rw [if_pos (by decide +kernel)]
 | some f=>
  have e:cu l=.lst [.tup f]:=by unfold cu;rw [hr]
  rw [e]
  have hv:aZ l=some f:=by
   unfold cg at hr
   obtain⟨g,hg,hr⟩:=Option.bind_eq_some_iff.mp hr
   split at hr
   ·cases hr;exact hg
   ·cases hr
  obtain⟨e1,e2⟩:=dj hv
  obtain⟨a,b,c⟩:=qJ e2
  have hc:rpD (.lst [.tup f])=true/\wtD (.lst [.tup f])<=16000000/\dpD (.lst [.tup f])<=50:=by
   simp only [rpD,fq,wtD,gX,dpD,gZ,a,Bool.and_true]
   exact⟨trivial,by lia,by lia⟩
  refine⟨(toP (.lst [.tup f])).shown,?_⟩
  show fA st [.d (.lst [.tup f])]=_
  simp only [fA]
  rw [if_pos hc]
theorem eqs (st:Sto) (r:Str):dEq st (.d (.str r)) (.d (.str r))=some (.bl true):=by
 show ((eqK (.fl (.str r)) (.fl (.str r))).map λk=>D.bl k)=_
 show some (D.bl (r==r))=_
 rw [beq_self_eq_true]
theorem pF {l:List Nat}{st:Sto} (hc:∀ c ∈ l,c < 128) (hl:l.length<=1000):eP [some (.d (.str (S l)))] st=some (.d (.bl true),st):=by
 obtain⟨r,hr⟩:=lq (st:=st) hl
 have h1:ao cG (ac (iV 0) ag) [some (.d (.str (S l)))] st=some (.d (cu l),st):=aP (ws:=[.d (.str (S l))]) rfl (kn (jS hc) (by lia))
 have h2:ao cA (ac (iV 0) ag) [some (.d (.str (S l)))] st=some (.d (cu l),st):=aP (ws:=[.d (.str (S l))]) rfl (qo hc hl)
 exact bV (dw (az h1 rfl) hr) (dw (az h2 rfl) hr) (eqs st r)
noncomputable def SG:Str:=" !\"#$&'()*+,-./0123456789:;<=>?@ABCDEFGHIJKLMNOPQRSTUVWXYZ[\\]^_`abcdefghijklmnopqrstuvwxyz{|}~\n"
theorem kg:SG.cps.toList.length=95/\SG.length=95:=by decide +kernel
theorem qv:∀ c ∈ SG.cps.toList,c < 128:=by decide +kernel
theorem rS {r:Int} (r0:0<=r) (r1:r < 95) (st:Sto):∃ c,c < 128/\dIx st (.d (.str SG)) (.d (.int r))=some (.str (S [c])):=by
 obtain⟨j,rfl⟩:=Int.eq_ofNat_of_zero_le r0
 have hj:j < SG.cps.toList.length:=by rw [kg.1];lia
 refine⟨SG.cps.toList[j],qv _ (List.getElem_mem hj),?_⟩
 show (if SG.length<=1000000 then (atI SG.cps.toList (j:Int)).map λc=>D.str ⟨#[c]⟩ else none)=_
 rw [if_pos (by rw [kg.2];decide),d2 (List.getElem?_eq_getElem hj)];rfl
theorem oJ (st:Sto):cL st [.d (.str SG)]=some (.int 95):=by
 show (if SG.length<=1000000 then some (D.int (SG.length:Nat)) else none)=_
 rw [kg.2];rfl
noncomputable def Asc (l:List Nat) (n:Nat):Prop:=(∀ c ∈ l,c < 128)/\l.length<=n
theorem Asc.app {a b:List Nat}{m n:Nat} (ha:Asc a m) (hb:Asc b n):Asc (a++b) (m+n):=
 ⟨λc hc=>(List.mem_append.mp hc).elim (ha.1 c) (hb.1 c),by rw [List.length_append];have:=ha.2;have:=hb.2;lia⟩
theorem Asc.cut {l:List Nat}{n:Nat} (h:Asc l n) (lo hi:Option Int):∃ k,lw (S l) lo hi=S k/\Asc k n:=
 ⟨_,rfl,λc hc=>h.1 c (List.mem_of_mem_drop (List.mem_of_mem_take hc)),by
  rw [List.length_take,List.length_drop]
  have:=h.2
  rw [jU];lia⟩
theorem ni (st:Sto) {a b:List Nat} (h:a.length+b.length<=1000000):bj st (.d (.str (S a))) (.d (.str (S b)))=some (.str (S (a++b))):=by
 show (if (S a).length+(S b).length<=1000000 then some (D.str (S a++S b)) else none)=_
 rw [fK,fK,if_pos h,sy]
theorem pI {l:List Nat}{e:Ef}{lo hi:Pf}{env:Ev}{st s1 s2 s3:Sto}{a b:Option Int} (hl:l.length<=1000000) (he:e env st=some (.d (.str (S l)),s1)) (h1:lo env s1=some (a,s2)) (h2:hi env s2=some (b,s3)):jn e lo hi env st=some (.d (.str (lw (S l) a b)),s3):=by
 simp only [jn,he,h1,h2,Option.bind_some]
 rw [if_pos (by rw [fK];exact hl)]
noncomputable def sD (near:List D):Prop:=near≠[]/\near.length < 1000/\∀ d ∈ near,∃ k,d=.str (S k)/\Asc k 4
theorem oz {st:Sto}{h:Nat}{l:List Nat}{near:List D} (hh:cX st h) (ha:Asc l 66) (hn:sD near):∃ l' st',Asc l' 1000/\Stp h st st'/\cB [.h h,.d (.str (S l)),.d (.lst near)] st=some (.d (.str (S l')),st'):=by
 obtain⟨t,s1,t0,t1,q1,e1⟩:=cO hh (m:=2) (by decide) (by decide)
 have hrng:cJ (ac (iOp bj (iC (.int 1)) (ao am (ac (iV 0) (ac (iC (.int 2)) ag)))) ag) [some (.h h),some (.d (.str (S l))),some (.d (.lst near)),some (.d (.str SG)),none,none,none,none] st=some (et 0 (1+t).toNat,s1):=
  i7 (z:=1+t) (bV rfl (aP rfl e1) rfl) (by lia) (by lia) rfl
 obtain⟨env',st',hF,l',x4,x5,x6,x7,rfl,hb',q'⟩:=gm (g:=.nm 4) (body:=da) (ds:=et 0 (1+t).toNat)
  (λi env s=>∃ l' x4 x5 x6 x7,env=[some (.h h),some (.d (.str (S l'))),some (.d (.lst near)),some (.d (.str SG)),x4,x5,x6,x7]/\Asc l' (2 ^ i*70 - 4)/\Stp h st s)
  (env:=[some (.h h),some (.d (.str (S l))),some (.d (.lst near)),some (.d (.str SG)),none,none,none,none]) (st:=s1) ⟨l,_,_,_,_,rfl,ha,q1⟩ (by
  rintro i d env s hd ⟨l',x4,x5,x6,x7,rfl,hb,q⟩
  have hi2:i < 2:=by
   rw [gy] at hd
   split at hd
   ·rename_i z;lia
   ·cases hd
  have hpow:2 ^ i*70<=140:=by
   have:i=0\/i=1:=by lia
   rcases this with rfl | rfl<;>decide
  have hlen':=hb.2
  have hz:l'.length<=136:=by lia
  have hdl:cL s [.d (.str (S l'))]=some (.int (l'.length:Nat)):=by
   show (if (S l').length<=1000000 then some (D.int ((S l').length:Nat)) else none)=_
   rw [fK,if_pos (by lia)]
  generalize hw4:some (W.d d)=w4
  obtain⟨p,s2,p0,p1,t2,e2⟩:=cO q.hand (m:=((l'.length:Nat):Int)+1) (by lia) (by lia)
  obtain⟨u,s3,u0,u1,t3,e3⟩:=cO t2.hand (m:=3) (by decide) (by decide)
  obtain⟨r,s4,r0,r1,t4,e4⟩:=cO t3.hand (m:=95) (by decide) (by decide)
  obtain⟨c,c1,hc⟩:=rS r0 r1 s4
  obtain⟨y,s5,hy,t5,e5⟩:=kz (ds:=near) t4.hand hn.1 (by have:=hn.2.1;lia)
  obtain⟨yk,rfl,ay⟩:=hn.2.2 y hy
  obtain⟨v,s6,v0,v1,t6,e6⟩:=cO t5.hand (m:=2) (by decide) (by decide)
  have hpick:∃ k,atI [D.str (S yk),.str (S [c])] v=some (.str (S k))/\Asc k 4:=by
   have:v=0\/v=1:=by lia
   rcases this with rfl | rfl
   ·exact⟨yk,rfl,ay⟩
   ·exact⟨[c],rfl,λz hz=>by rw [List.mem_singleton.mp hz];exact c1,by simp⟩
  obtain⟨k,hk,ak⟩:=hpick
  obtain⟨a,ea,aa⟩:=hb.cut none (some p)
  obtain⟨b,eb,ab⟩:=hb.cut (some (p+u)) none
  have la:=aa.2
  have lb:=ab.2
  have lk:=ak.2
  refine⟨[some (.h h),some (.d (.str (S l'))),some (.d (.lst near)),some (.d (.str SG)),w4,x5,x6,x7],[some (.h h),some (.d (.str (S (a++k++b)))),some (.d (.lst near)),some (.d (.str SG)),w4,some (.d (.int p)),some (.d (.int u)),some (.d (.str (S [c])))],s6,by rw [<-hw4];rfl,.inl ?_,a++k++b,_,_,_,_,rfl,⟨((aa.app ak).app ab).1,?_⟩,((((q.trans t2).trans t3).trans t4).trans t5).trans t6⟩
  ·have g1:mn 5 6 (ac (ao am (ac (iV 0) (ac (iOp bj (iCB cL (ac (iV 1) ag)) (iC (.int 1))) ag))) (ac (ao am (ac (iV 0) (ac (iC (.int 3)) ag))) ag)) [some (.h h),some (.d (.str (S l'))),some (.d (.lst near)),some (.d (.str SG)),w4,x5,x6,x7] s=some (.nx [some (.h h),some (.d (.str (S l'))),some (.d (.lst near)),some (.d (.str SG)),w4,some (.d (.int p)),some (.d (.int u)),x7] s3):=by
    have a1:ac (ao am (ac (iV 0) (ac (iOp bj (iCB cL (ac (iV 1) ag)) (iC (.int 1))) ag))) (ac (ao am (ac (iV 0) (ac (iC (.int 3)) ag))) ag) [some (.h h),some (.d (.str (S l'))),some (.d (.lst near)),some (.d (.str SG)),w4,x5,x6,x7] s=some ([.d (.int p),.d (.int u)],s3):=
     az (aP (az rfl (az (bV (dw (ws:=[.d (.str (S l'))]) rfl hdl) rfl rfl) rfl)) e2) (az (aP rfl e3) rfl)
    simp only [mn,a1,Option.bind_some];rfl
   have g2:br (.nm 7) (iOp dIx (iV 3) (ao am (ac (iV 0) (ac (iCB cL (ac (iV 3) ag)) ag)))) [some (.h h),some (.d (.str (S l'))),some (.d (.lst near)),some (.d (.str SG)),w4,some (.d (.int p)),some (.d (.int u)),x7] s3=some (.nx [some (.h h),some (.d (.str (S l'))),some (.d (.lst near)),some (.d (.str SG)),w4,some (.d (.int p)),some (.d (.int u)),some (.d (.str (S [c])))] s4):=
    dm (bV rfl (aP (az rfl (az (dw (ws:=[.d (.str SG)]) rfl (oJ s3)) rfl)) e4) hc)
   have lst:au (bi (ac (ao bn (ac (iV 0) (ac (iV 2) ag))) (ac (iV 7) ag))) [some (.h h),some (.d (.str (S l'))),some (.d (.lst near)),some (.d (.str SG)),w4,some (.d (.int p)),some (.d (.int u)),some (.d (.str (S [c])))] s4=some (.d (.lst [.str (S yk),.str (S [c])]),s5):=by
    have a1:=az (a:=ao bn (ac (iV 0) (ac (iV 2) ag))) (b:=ac (iV 7) ag) (env:=[some (.h h),some (.d (.str (S l'))),some (.d (.lst near)),some (.d (.str SG)),w4,some (.d (.int p)),some (.d (.int u)),some (.d (.str (S [c])))]) (aP (st:=s4) (ws:=[.h h,.d (.lst near)]) rfl e5) (az (x:=.d (.str (S [c]))) rfl rfl)
    simp only [au,bi,a1,Option.bind_some];rfl
   have g3:=bV (g:=dIx) (a:=au (bi (ac (ao bn (ac (iV 0) (ac (iV 2) ag))) (ac (iV 7) ag)))) (b:=ao am (ac (iV 0) (ac (iC (.int 2)) ag))) lst (aP (ws:=[.h h,.d (.int 2)]) rfl e6) hk
   have sa:=pI (l:=l') (e:=iV 1) (lo:=iPn) (hi:=iPs (iV 5)) (env:=[some (.h h),some (.d (.str (S l'))),some (.d (.lst near)),some (.d (.str SG)),w4,some (.d (.int p)),some (.d (.int u)),some (.d (.str (S [c])))]) (st:=s4) (a:=none) (b:=some p) (by lia) rfl rfl rfl
   have sb:=pI (l:=l') (e:=iV 1) (lo:=iPs (iOp bj (iV 5) (iV 6))) (hi:=iPn) (env:=[some (.h h),some (.d (.str (S l'))),some (.d (.lst near)),some (.d (.str SG)),w4,some (.d (.int p)),some (.d (.int u)),some (.d (.str (S [c])))]) (st:=s6) (a:=some (p+u)) (b:=none) (by lia) rfl rfl rfl
   rw [ea] at sa
   rw [eb] at sb
   exact bN g1 (bN g2 (dm (bV (bV sa g3 (ni s6 (by lia))) sb (ni s6 (by rw [List.length_append];lia)))))
  ·rw [List.length_append,List.length_append,Nat.pow_succ]
   have h70:70<=2 ^ i*70:=by have:1<=2 ^ i:=Nat.one_le_two_pow;lia
   lia)
 rw [dG] at hb'
 have hlen:=hb'.2
 refine⟨l',st',⟨hb'.1,?_⟩,q',?_⟩
 ·have:(1+t).toNat=1\/(1+t).toNat=2:=by lia
  rcases this with z | z<;>rw [z] at hlen<;>lia
 ·exact eN (n:=8) (k:=3) (b:=bH) rfl (bN (show br (.nm 3) _ _ st=_ from rfl) (bN (fY hrng hF) rfl))
end Own
end
section
set_option maxHeartbeats 1000000
namespace Own
open PySem L2
theorem jd:∀ cs:List Nat,gA (chs cs)=some (cs.map aw)
 | []=>rfl
 | c::cs=>by
  show (gA (chs cs)).map (aw c::·)=_
  rw [jd cs];rfl
theorem jb:∀ (cs:List Nat) (a:Array Nat),List.foldl (λacc (p:Str)=>acc++("" : Str).cps++p.cps) a (cs.map aw)=a++cs.toArray
 | [],a=>by simp
 | c::cs,a=>by
  rw [List.map_cons,List.foldl_cons,jb cs]
  have:("" : Str).cps=#[]:=rfl
  rw [this]
  simp [aw]
theorem mt (cs:List Nat):PySem.Txt.join "" (cs.map aw)=S cs:=by
 unfold PySem.Txt.join PySem.Builtin.Str.glued S
 cases cs with
 | nil=>rfl
 | cons c cs=>
  rw [List.map_cons,List.drop_one,List.tail_cons,List.headD_cons,jb]
  simp [aw]
theorem mM {cs:List Nat} (h:cs.length<=1000):PySem.JoinOk "" (cs.map aw)=true:=by
 unfold PySem.JoinOk PySem.Builtin.Str.tooLong
 rw [PySem.StrLaws.joinTotal,List.map_map]
 have e:(cs.map ((λx:Str=>x.length) ∘ aw)).sum=cs.length:=by
  clear h
  induction cs with
  | nil=>rfl
  | cons c cs ih=>rw [List.map_cons,List.sum_cons,ih,List.length_cons];show 1+cs.length=_;lia
 have e2:("" : Str).length=0:=rfl
 rw [e,e2]
 have:1000<=sizeLine:=by decide
 simp;lia
theorem sO {j:Int} (h0:0<=j) (h1:j < 7) (st:Sto):∃ N:Int,0<=N/\N<=66/\kd st (.d (.int 1)) (.d (.int j))=some (.int N):=by
 have:j=0\/j=1\/j=2\/j=3\/j=4\/j=5\/j=6:=by lia
 rcases this with rfl | rfl | rfl | rfl | rfl | rfl | rfl
 ·exact⟨1,by decide,by decide,rfl⟩
 ·exact⟨2,by decide,by decide,rfl⟩
 ·exact⟨4,by decide,by decide,rfl⟩
 ·exact⟨8,by decide,by decide,rfl⟩
 ·exact⟨16,by decide,by decide,rfl⟩
 ·exact⟨32,by decide,by decide,rfl⟩
 ·exact⟨64,by decide,by decide,rfl⟩
theorem oa {st:Sto}{h:Nat}{M:Int} (hh:cX st h) (m0:0<=M) (m1:M<=66) {a b x4 x5 x6:Option W}:∃ l st',Asc l 66/\Stp h st st'/\
  jz (iC (.str "")) (ac (au (iLc 1 [2] (cJ (ac (iV 3) ag)) (.nm 0) cq fX)) ag) [a,b,some (.h h),some (.d (.int M)),x4,x5,x6] st=some (.d (.str (S l)),st'):=by
 obtain⟨ys,s2,hL,cs,hcs,hl,hc,t2⟩:=ge (g:=.nm 0) (tt:=cq) (te:=fX) (env:=[none,some (.h h)]) (ds:=et 0 M.toNat) (λi ys s=>∃ cs,ys=chs cs/\cs.length=i/\(∀ c ∈ cs,c < 128)/\Stp h st s) (st:=st) (ys0:=[]) ⟨[],rfl,rfl,λc hc=>(nomatch hc),.refl hh⟩ (by
  rintro i d ys s hd ⟨cs,rfl,hl,hc,t⟩
  obtain⟨x,s',hx,t',e'⟩:=kz (ds:=[.str "0",.str "1",.str "-"]) t.hand (by simp) (by decide)
  have hx':∃ c,x=.str (aw c)/\c < 128:=by
   simp only [List.mem_cons,List.not_mem_nil,or_false] at hx
   rcases hx with rfl | rfl | rfl
   ·exact⟨48,rfl,by decide⟩
   ·exact⟨49,rfl,by decide⟩
   ·exact⟨45,rfl,by decide⟩
  obtain⟨c,rfl,c1⟩:=hx'
  refine⟨_,rfl,.inl ⟨s,.str (aw c),s',rfl,aP (ws:=[.h h,.d (.lst [.str "0",.str "1",.str "-"])]) rfl e',cs++[c],by unfold chs;rw [List.map_append];rfl,by rw [List.length_append,hl];rfl,λy hy=>?_,t.trans t'⟩⟩
  rcases List.mem_append.mp hy with hy | hy
  ·exact hc y hy
  ·rw [List.mem_singleton.mp hy];exact c1)
 rw [List.nil_append] at hcs
 subst hcs
 rw [dG] at hl
 have hz:(et 0 M.toNat).length<=1000000:=by rw [dG];lia
 refine⟨cs,s2,⟨hc,by lia⟩,t2,?_⟩
 have ha:ac (au (iLc 1 [2] (cJ (ac (iV 3) ag)) (.nm 0) cq fX)) ag [a,b,some (.h h),some (.d (.int M)),x4,x5,x6] st=some ([.d (.lst (chs cs))],s2):=az (dQ (gR (i7 rfl m0 (by lia) rfl) hz hL)) rfl
 have hc0:iC (.str "") [a,b,some (.h h),some (.d (.int M)),x4,x5,x6] st=some (.d (.str ""),st):=rfl
 simp only [jz,hc0,ha,Option.bind_some,jd,mM (show cs.length<=1000 by lia),if_true,mt]
noncomputable def ju:List D:=[.str "",.str "0",.str "1",.str "-",.str "01",.str "2",.str " ",.str "None"]
theorem nu:sD ju:=by
 refine⟨by simp [ju],by simp [ju],λd hd=>?_⟩
 simp only [ju,List.mem_cons,List.not_mem_nil,or_false] at hd
 rcases hd with rfl | rfl | rfl | rfl | rfl | rfl | rfl | rfl
 ·exact⟨[],rfl,by simp,by simp⟩
 ·exact⟨[48],rfl,by decide,by simp⟩
 ·exact⟨[49],rfl,by decide,by simp⟩
 ·exact⟨[45],rfl,by decide,by simp⟩
 ·exact⟨[48,49],rfl,by decide,by simp⟩
 ·exact⟨[50],rfl,by decide,by simp⟩
 ·exact⟨[32],rfl,by decide,by simp⟩
 ·exact⟨[78,111,110,101],rfl,by decide,by simp⟩
noncomputable def nZ (ds:List D):Prop:=∀ d ∈ ds,∃ k,d=.str (S k)/\Asc k 1000
theorem lQ {st:Sto}{h:Nat}{l:List Nat} (hh:cX st h) (ha:Asc l 66):∃ ys st',nZ ys/\ys.length=6/\Stp h st st'/\lcI (.nm 0) cq fV [none,some (.h h),some (.d (.str (S l)))] (et 0 6) st=some (ys,st'):=by
 obtain⟨ys,s2,hL,hl,ht,t2⟩:=ge (g:=.nm 0) (tt:=cq) (te:=fV) (env:=[none,some (.h h),some (.d (.str (S l)))]) (ds:=et 0 6) (λi ys s=>ys.length=i/\nZ ys/\Stp h st s) (st:=st) (ys0:=[]) ⟨rfl,λd hd=>(nomatch hd),.refl hh⟩ (by
  rintro i d ys s hd ⟨hl,ht,t⟩
  obtain⟨l',s',hl',t',e'⟩:=oz t.hand ha nu
  refine⟨_,rfl,.inl ⟨s,.str (S l'),s',rfl,aP (ws:=[.h h,.d (.str (S l)),.d (.lst ju)]) rfl e',by rw [List.length_append,hl];rfl,λy hy=>?_,t.trans t'⟩⟩
  rcases List.mem_append.mp hy with hy | hy
  ·exact ht y hy
  ·rw [List.mem_singleton.mp hy];exact⟨l',rfl,hl'⟩)
 rw [List.nil_append] at hl ht
 exact⟨ys,s2,ht,hl,t2,hL⟩
theorem o8 {st:Sto}{ds:List D}{a b c e x4 x6:Option W} (ht:nZ ds) (hz:ds.length<=1000000):bO (di dn (iCB jl (ac (au (iLc 1 [] (cw (iV 5)) (.nm 0) cq eP)) ag))) [a,b,c,e,x4,some (.d (.lst ds)),x6] st=some (false,st):=by
 have k:lcI (.nm 0) cq eP [none] ds st=some (ds.map λ_=>D.bl true,st):=iO (λ_=>D.bl true) λd hd=>by
  obtain⟨l,rfl,hl⟩:=ht d hd
  exact⟨_,rfl,pF hl.1 hl.2⟩
 have hd:iCB jl (ac (au (iLc 1 [] (cw (iV 5)) (.nm 0) cq eP)) ag) [a,b,c,e,x4,some (.d (.lst ds)),x6] st=some (.d (.bl true),st):=by
  refine dw (az (dQ (gR (li rfl) hz k)) rfl) ?_
  show (dF (ds.map λ_=>D.bl true)).map (λns=>D.bl (ns.all id))=_
  rw [d6,Option.map_some,eS]
 simp only [bO,di,hd,Option.bind_some];rfl
noncomputable def cN:List D:=[.non,.int 0,.int 1,.bl true,.tup [.int 1,.int 0],.lst [.str "0"],.tup [.str "0",.str "1"],.dct,.tup [],.lst [],.tup [.str "01"],.str "",.str "\n",.str "--\n",.str "O",.str "l"]
theorem gh {l:List Nat}{st:Sto} (hc:∀ c ∈ l,c < 128) (hl:l.length<=1000) (hn:cg l=none):eK [some (.d (.str (S l)))] st=some (.d (.bl true),st):=by
 have e:cu l=.str "no text":=by unfold cu;rw [hn]
 have h1:=kn (st:=st) (jS hc) (show l.length<=1000000 by lia)
 rw [e] at h1
 exact bV (aP (ws:=[.d (.str (S l))]) rfl h1) rfl (eqs st _)
theorem nq {st:Sto}:∀ d ∈ cN,eK [some (.d d)] st=some (.d (.bl true),st):=by
 intro d hd
 have tk:∀ {x:Option (W×Sto)},x=some (.d (.bl true),st.take st.length)->x=some (.d (.bl true),st):=λ{x} h=>by rw [h,List.take_length]
 simp only [cN,List.mem_cons,List.not_mem_nil,or_false] at hd
 rcases hd with rfl | rfl | rfl | rfl | rfl | rfl | rfl | rfl | rfl | rfl | rfl | rfl | rfl | rfl | rfl | rfl
 ·exact tk rfl
 ·exact tk rfl
 ·exact tk rfl
 ·exact tk rfl
 ·exact tk rfl
 ·exact tk rfl
 ·exact tk rfl
 ·exact tk rfl
 ·exact tk rfl
 ·exact tk rfl
 ·exact tk rfl
 ·exact gh (l:=[]) (by simp) (by simp) rfl
 ·exact gh (l:=[10]) (by decide) (by simp) rfl
 ·exact gh (l:=[45,45,10]) (by decide) (by simp) rfl
 ·exact gh (l:=[79]) (by decide) (by simp) rfl
 ·exact gh (l:=[108]) (by decide) (by simp) rfl
end Own
end
section
set_option maxHeartbeats 1000000
namespace Own
open PySem L2
theorem qR (s:Sto) (v:Int):eM s (.d (.int v)) (.d (.int 2))=some (.int (v / 2)):=rfl
theorem ou {st:Sto}{a b c e x4 x5 x6:Option W}:∃ env',aA (br (.nm 6) (au (bi (ac (iC .non) (ac (iC (.int 0)) (ac (iC (.int 1)) (ac (iC (.bl true)) (ac (cy (ac (iC (.int 1)) (ac (iC (.int 0)) ag))) (ac (au (bi (ac (iC (.str "0")) ag))) (ac (cy (ac (iC (.str "0")) (ac (iC (.str "1")) ag))) (ac (iC .dct) (ac (cy ag) (ac (au (bi ag)) (ac (cy (ac (iC (.str "01")) ag)) ag)))))))))))))) (bJ (iCB jl (ac (au (iLc 1 [] (cw (iOp bj (iV 6) (au (bi (ac (iC (.str "")) (ac (iC (.str "\n")) (ac (iC (.str "--\n")) (ac (iC (.str "O")) (ac (iC (.str "l")) ag))))))))) (.nm 0) cq eK)) ag))) [a,b,c,e,x4,x5,x6] st=some (.rt (.d (.bl true)) st)/\env'=x6:=by
 refine⟨x6,?_,rfl⟩
 have k:lcI (.nm 0) cq eK [none] cN st=some (cN.map λ_=>D.bl true,st):=iO (λ_=>D.bl true) λd hd=>⟨_,rfl,nq d hd⟩
 have hset:br (.nm 6) (au (bi (ac (iC .non) (ac (iC (.int 0)) (ac (iC (.int 1)) (ac (iC (.bl true)) (ac (cy (ac (iC (.int 1)) (ac (iC (.int 0)) ag))) (ac (au (bi (ac (iC (.str "0")) ag))) (ac (cy (ac (iC (.str "0")) (ac (iC (.str "1")) ag))) (ac (iC .dct) (ac (cy ag) (ac (au (bi ag)) (ac (cy (ac (iC (.str "01")) ag)) ag))))))))))))) [a,b,c,e,x4,x5,x6] st=some (.nx [a,b,c,e,x4,x5,some (.d (.lst (cN.take 11)))] st):=rfl
 have hit:cw (iOp bj (iV 6) (au (bi (ac (iC (.str "")) (ac (iC (.str "\n")) (ac (iC (.str "--\n")) (ac (iC (.str "O")) (ac (iC (.str "l")) ag)))))))) [a,b,c,e,x4,x5,some (.d (.lst (cN.take 11)))] st=some (cN,st):=rfl
 refine bN hset (iS (dw (az (dQ (gR hit (by simp [cN]) k)) rfl) ?_))
 show (dF (cN.map λ_=>D.bl true)).map (λns=>D.bl (ns.all id))=_
 rw [d6,Option.map_some,eS]
theorem mz (ns:List Int) (hl:ns.length<=63):∃ st,jo [.d (.scr ns)] []=some (.d (.bl true),st):=by
 have hz:∃ z:Int,0<=z/\z<=1000/\∀ st,iOp bj (iC (.int 1)) (iCB pL (ac (iC (.int 8)) (ac (iCB cL (ac (iV 0) ag)) ag))) [some (.d (.scr ns)),none,none,none,none,none,none] st=some (.d (.int z),st):=
  ⟨_,(by show (0:Int)<=1+(if (((ns.map D.int).length:Nat):Int) < 8 then (((ns.map D.int).length:Nat):Int) else 8);rw [List.length_map];split<;>lia),(by show 1+(if (((ns.map D.int).length:Nat):Int) < 8 then (((ns.map D.int).length:Nat):Int) else 8)<=1000;rw [List.length_map];split<;>lia),λ_=>rfl⟩
 obtain⟨z,z0,z1,hz⟩:=hz
 obtain⟨env',st',hF,y1,y2,y3,y4,y5,y6,rfl⟩:=gm (g:=.nm 1) (body:=kr) (ds:=et 0 z.toNat) (λ_ env _=>∃ x1 x2 x3 x4 x5 x6,env=[some (.d (.scr ns)),x1,x2,x3,x4,x5,x6]) (env:=[some (.d (.scr ns)),none,none,none,none,none,none]) (st:=[]) ⟨_,_,_,_,_,_,rfl⟩ (by
  rintro i d env st hd ⟨x1,x2,x3,x4,x5,x6,rfl⟩
  rw [gy] at hd
  split at hd
  case isFalse=>cases hd
  cases hd
  have hi0:(0:Int)+(i:Int)=(i:Int):=by lia
  rw [hi0]
  obtain⟨x,y,hx,e1⟩:=ow (st:=st) (ns:=ns) (k:=i)
  have hh:cX (st++[.l [.int x,.int y,.int 0]]) st.length:=⟨x,y,0,hx,by simp⟩
  obtain⟨j,s2,j0,j1,t2,e2⟩:=cO hh (m:=7) (by decide) (by decide)
  obtain⟨N,n0,n1,e3⟩:=sO j0 j1 s2
  obtain⟨t,s4,u0,u1,t4,e4⟩:=cO t2.hand (m:=67) (by decide) (by decide)
  obtain⟨v,s5,v0,v1,t5,e5⟩:=cO t4.hand (m:=3) (by decide) (by decide)
  have hM:∃ M:Int,0<=M/\M<=66/\atI [D.int N,.int t] (v / 2)=some (.int M):=by
   have:v / 2=0\/v / 2=1:=by lia
   rcases this with q | q<;>rw [q]
   ·exact⟨N,n0,n1,rfl⟩
   ·exact⟨t,u0,by lia,rfl⟩
  obtain⟨M,m0,m1,hM⟩:=hM
  obtain⟨l,s6,al,t6,e6⟩:=oa (a:=some (.d (.scr ns))) (b:=some (.d (.int (i:Int)))) (x4:=x4) (x5:=x5) (x6:=x6) t5.hand m0 m1
  obtain⟨ys,s7,hys,ly,t7,e7⟩:=lQ t6.hand al
  obtain⟨k,ek,ak⟩:=al.cut none (some (-1))
  have ll:=al.2
  generalize hE:some (W.d (.scr ns))=wN at *
  have q1:br (.nm 2) (ao bW (ac (iV 0) (ac (iV 1) ag))) [wN,some (.d (.int (i:Int))),x2,x3,x4,x5,x6] st=some (.nx [wN,some (.d (.int (i:Int))),some (.h st.length),x3,x4,x5,x6] (st++[.l [.int x,.int y,.int 0]])):=by
   subst hE
   exact dm (aP rfl e1)
  have qlst:au (bi (ac (iOp kd (iC (.int 1)) (ao am (ac (iV 2) (ac (iC (.int 7)) ag)))) (ac (ao am (ac (iV 2) (ac (iC (.int 67)) ag))) ag))) [wN,some (.d (.int (i:Int))),some (.h st.length),x3,x4,x5,x6] (st++[.l [.int x,.int y,.int 0]])=some (.d (.lst [.int N,.int t]),s4):=by
   have a1:=az (a:=iOp kd (iC (.int 1)) (ao am (ac (iV 2) (ac (iC (.int 7)) ag)))) (b:=ac (ao am (ac (iV 2) (ac (iC (.int 67)) ag))) ag) (env:=[wN,some (.d (.int (i:Int))),some (.h st.length),x3,x4,x5,x6]) (st:=st++[.l [.int x,.int y,.int 0]]) (bV rfl (aP rfl e2) e3) (az (aP rfl e4) rfl)
   simp only [au,bi,a1,Option.bind_some];rfl
  have q2:br (.nm 3) (iOp dIx (au (bi (ac (iOp kd (iC (.int 1)) (ao am (ac (iV 2) (ac (iC (.int 7)) ag)))) (ac (ao am (ac (iV 2) (ac (iC (.int 67)) ag))) ag)))) (iOp eM (ao am (ac (iV 2) (ac (iC (.int 3)) ag))) (iC (.int 2)))) [wN,some (.d (.int (i:Int))),some (.h st.length),x3,x4,x5,x6] (st++[.l [.int x,.int y,.int 0]])=some (.nx [wN,some (.d (.int (i:Int))),some (.h st.length),some (.d (.int M)),x4,x5,x6] s5):=
   dm (bV qlst (bV (aP rfl e5) rfl (qR s5 v)) hM)
  have sl:=pI (l:=l) (e:=iV 4) (lo:=iPn) (hi:=iPs (iUn om (iC (.int 1)))) (env:=[wN,some (.d (.int (i:Int))),some (.h st.length),some (.d (.int M)),some (.d (.str (S l))),x5,x6]) (st:=s6) (a:=none) (b:=some (-1)) (by lia) rfl rfl rfl
  rw [ek] at sl
  have q4:br (.nm 5) (au (bi (ac (iV 4) (ac (iOp bj (iV 4) (iV 4)) (ac (jn (iV 4) iPn (iPs (iUn om (iC (.int 1))))) (ac (iOp bj (iV 4) (iC (.str "\n"))) (ac (iOp bj (iC (.str " ")) (iV 4)) ag))))))) [wN,some (.d (.int (i:Int))),some (.h st.length),some (.d (.int M)),some (.d (.str (S l))),x5,x6] s6=some (.nx [wN,some (.d (.int (i:Int))),some (.h st.length),some (.d (.int M)),some (.d (.str (S l))),some (.d (.lst [.str (S l),.str (S (l++l)),.str (S k),.str (S (l++[10])),.str (S ([32]++l))])),x6] s6):=by
   refine dm ?_
   have a1:=az (a:=iV 4) (env:=[wN,some (.d (.int (i:Int))),some (.h st.length),some (.d (.int M)),some (.d (.str (S l))),x5,x6]) (st:=s6) (x:=.d (.str (S l))) rfl (az (a:=iOp bj (iV 4) (iV 4)) (bV rfl rfl (ni s6 (a:=l) (b:=l) (by lia))) (az sl (az (a:=iOp bj (iV 4) (iC (.str "\n"))) (bV rfl rfl (ni s6 (a:=l) (b:=[10]) (by simp;lia))) (az (a:=iOp bj (iC (.str " ")) (iV 4)) (b:=ag) (bV rfl rfl (ni s6 (a:=[32]) (b:=l) (by simp;lia))) rfl))))
   simp only [au,bi,a1,Option.bind_some];rfl
  have tx:nZ ([.str (S l),.str (S (l++l)),.str (S k),.str (S (l++[10])),.str (S ([32]++l))]++ys):=λd hd=>by
   rcases List.mem_append.mp hd with hd | hd
   ·simp only [List.mem_cons,List.not_mem_nil,or_false] at hd
    have up:∀ {q:List Nat}{m:Nat},Asc q m->m<=1000->Asc q 1000:=λ{q m} h hm=>⟨h.1,Nat.le_trans h.2 hm⟩
    have a10:Asc [10] 1:=⟨by decide,by simp⟩
    have a32:Asc [32] 1:=⟨by decide,by simp⟩
    rcases hd with rfl | rfl | rfl | rfl | rfl
    ·exact⟨l,rfl,up al (by decide)⟩
    ·exact⟨l++l,rfl,up (al.app al) (by decide)⟩
    ·exact⟨k,rfl,up ak (by decide)⟩
    ·exact⟨l++[10],rfl,up (al.app a10) (by decide)⟩
    ·exact⟨[32]++l,rfl,up (a32.app al) (by decide)⟩
   ·exact hys d hd
  have q5:br (.nm 5) (iOp bj (iV 5) (au (iLc 1 [2,4] (cJ (ac (iC (.int 6)) ag)) (.nm 0) cq fV))) [wN,some (.d (.int (i:Int))),some (.h st.length),some (.d (.int M)),some (.d (.str (S l))),some (.d (.lst [.str (S l),.str (S (l++l)),.str (S k),.str (S (l++[10])),.str (S ([32]++l))])),x6] s6=some (.nx [wN,some (.d (.int (i:Int))),some (.h st.length),some (.d (.int M)),some (.d (.str (S l))),some (.d (.lst ([.str (S l),.str (S (l++l)),.str (S k),.str (S (l++[10])),.str (S ([32]++l))]++ys))),x6] s7):=
   dm (bV rfl (dQ (gR (i7 (z:=6) (m:=6) rfl (by decide) (by decide) rfl) (by rw [dG];decide) e7)) (show bj s7 (.d (.lst _)) (.d (.lst ys))=_ from if_pos (by rw [ly];simp)))
  have q6:=o8 (st:=s7) (a:=wN) (b:=some (.d (.int (i:Int)))) (c:=some (.h st.length)) (e:=some (.d (.int M))) (x4:=some (.d (.str (S l)))) (x6:=x6) tx (by rw [List.length_append,ly];simp)
  exact⟨_,_,_,rfl,.inl (bN q1 (bN q2 (bN (dm e6) (bN q4 (bN q5 (jf q6 rfl)))))),_,_,_,_,_,_,rfl⟩)
 obtain⟨_,hlast,_⟩:=ou (st:=st') (a:=some (.d (.scr ns))) (b:=y1) (c:=y2) (e:=y3) (x4:=y4) (x5:=y5) (x6:=y6)
 exact⟨_,ng (n:=7) (k:=1) (b:=kj) rfl (bN (fY (i7 (hz []) z0 z1 rfl) hF) hlast)⟩
end Own
end
namespace Own
open PySem L2
theorem j9 {us:List Value} (h:us.length=1):∃ a0,us=[a0]:=match us,h with | [a0],_=>⟨a0,rfl⟩
theorem pf {us:List Value} (h:us.length=2):∃ a0 a1,us=[a0,a1]:=match us,h with | [a0,a1],_=>⟨a0,a1,rfl⟩
theorem rR {us:List Value} (h:us.length=3):∃ a0 a1 a2,us=[a0,a1,a2]:=match us,h with | [a0,a1,a2],_=>⟨a0,a1,a2,rfl⟩
theorem txt_mk {P:Program}{w:World}{K:PySem.W.Frag}{h:Heap}{mg:Str->Option Value} (X:K.In h) (G:h.Ns mainGlobals mg)
  {f0:Addr}{od0 an0:Option Addr}{sl0:Array (Option Value)}{oc0 kV0 dc0 pm0 cd0 ct0:Value}
  (a0:PySem.W.nsIn K mainGlobals "is_whole" = some (some (.ref f0))) (l0:K.lookup f0=some ⟨oc0,od0,.func (PySem.W.fnOf "is_whole" "is_whole" (bf bS) (aJ bS) (ai bS) .none kV0 dc0 pm0 an0 cd0 ct0),sl0⟩) (c0:PySem.W.codeIn K cd0 "is_whole" = true) (k0:PySem.W.keepIn K (.ref f0)=true)
  {f1:Addr}{od1 an1:Option Addr}{sl1:Array (Option Value)}{oc1 kV1 dc1 pm1 cd1 ct1:Value}
  (a1:PySem.W.nsIn K mainGlobals "is_within" = some (some (.ref f1))) (l1:K.lookup f1=some ⟨oc1,od1,.func (PySem.W.fnOf "is_within" "is_within" (bf bD) (aJ bD) (ai bD) .none kV1 dc1 pm1 an1 cd1 ct1),sl1⟩) (c1:PySem.W.codeIn K cd1 "is_within" = true) (k1:PySem.W.keepIn K (.ref f1)=true)
  {f2:Addr}{od2 an2:Option Addr}{sl2:Array (Option Value)}{oc2 kV2 dc2 pm2 cd2 ct2:Value}
  (a2:PySem.W.nsIn K mainGlobals "is_function" = some (some (.ref f2))) (l2:K.lookup f2=some ⟨oc2,od2,.func (PySem.W.fnOf "is_function" "is_function" (bf aS) (aJ aS) (ai aS) .none kV2 dc2 pm2 an2 cd2 ct2),sl2⟩) (c2:PySem.W.codeIn K cd2 "is_function" = true) (k2:PySem.W.keepIn K (.ref f2)=true)
  {f3:Addr}{od3 an3:Option Addr}{sl3:Array (Option Value)}{oc3 kV3 dc3 pm3 cd3 ct3:Value}
  (a3:PySem.W.nsIn K mainGlobals "value_by" = some (some (.ref f3))) (l3:K.lookup f3=some ⟨oc3,od3,.func (PySem.W.fnOf "value_by" "value_by" (bf bE) (aJ bE) (ai bE) .none kV3 dc3 pm3 an3 cd3 ct3),sl3⟩) (c3:PySem.W.codeIn K cd3 "value_by" = true) (k3:PySem.W.keepIn K (.ref f3)=true)
  {f4:Addr}{od4 an4:Option Addr}{sl4:Array (Option Value)}{oc4 kV4 dc4 pm4 cd4 ct4:Value}
  (a4:PySem.W.nsIn K mainGlobals "read_function" = some (some (.ref f4))) (l4:K.lookup f4=some ⟨oc4,od4,.func (PySem.W.fnOf "read_function" "read_function" (bf av) (aJ av) (ai av) .none kV4 dc4 pm4 an4 cd4 ct4),sl4⟩) (c4:PySem.W.codeIn K cd4 "read_function" = true) (k4:PySem.W.keepIn K (.ref f4)=true)
  {f5:Addr}{od5 an5:Option Addr}{sl5:Array (Option Value)}{oc5 kV5 dc5 pm5 cd5 ct5:Value}
  (a5:PySem.W.nsIn K mainGlobals "_law_hand" = some (some (.ref f5))) (l5:K.lookup f5=some ⟨oc5,od5,.func (PySem.W.fnOf "_law_hand" "_law_hand" (bf bG) (aJ bG) (ai bG) .none kV5 dc5 pm5 an5 cd5 ct5),sl5⟩) (c5:PySem.W.codeIn K cd5 "_law_hand" = true) (k5:PySem.W.keepIn K (.ref f5)=true)
  {f6:Addr}{od6 an6:Option Addr}{sl6:Array (Option Value)}{oc6 kV6 dc6 pm6 cd6 ct6:Value}
  (a6:PySem.W.nsIn K mainGlobals "_law_take" = some (some (.ref f6))) (l6:K.lookup f6=some ⟨oc6,od6,.func (PySem.W.fnOf "_law_take" "_law_take" (bf bx) (aJ bx) (ai bx) .none kV6 dc6 pm6 an6 cd6 ct6),sl6⟩) (c6:PySem.W.codeIn K cd6 "_law_take" = true) (k6:PySem.W.keepIn K (.ref f6)=true)
  {f7:Addr}{od7 an7:Option Addr}{sl7:Array (Option Value)}{oc7 kV7 dc7 pm7 cd7 ct7:Value}
  (a7:PySem.W.nsIn K mainGlobals "_law_pick" = some (some (.ref f7))) (l7:K.lookup f7=some ⟨oc7,od7,.func (PySem.W.fnOf "_law_pick" "_law_pick" (bf bu) (aJ bu) (ai bu) .none kV7 dc7 pm7 an7 cd7 ct7),sl7⟩) (c7:PySem.W.codeIn K cd7 "_law_pick" = true) (k7:PySem.W.keepIn K (.ref f7)=true)
  {f8:Addr}{od8 an8:Option Addr}{sl8:Array (Option Value)}{oc8 kV8 dc8 pm8 cd8 ct8:Value}
  (a8:PySem.W.nsIn K mainGlobals "_law_text_bent" = some (some (.ref f8))) (l8:K.lookup f8=some ⟨oc8,od8,.func (PySem.W.fnOf "_law_text_bent" "_law_text_bent" (bf aL) (aJ aL) (ai aL) .none kV8 dc8 pm8 an8 cd8 ct8),sl8⟩) (c8:PySem.W.codeIn K cd8 "_law_text_bent" = true) (k8:PySem.W.keepIn K (.ref f8)=true)
  {f9:Addr}{od9 an9:Option Addr}{sl9:Array (Option Value)}{oc9 kV9 dc9 pm9 cd9 ct9:Value}
  (a9:PySem.W.nsIn K mainGlobals "_law_told" = some (some (.ref f9))) (l9:K.lookup f9=some ⟨oc9,od9,.func (PySem.W.fnOf "_law_told" "_law_told" (bf bB) (aJ bB) (ai bB) .none kV9 dc9 pm9 an9 cd9 ct9),sl9⟩) (c9:PySem.W.codeIn K cd9 "_law_told" = true) (k9:PySem.W.keepIn K (.ref f9)=true)
  {f10:Addr}{od10 an10:Option Addr}{sl10:Array (Option Value)}{oc10 kV10 dc10 pm10 cd10 ct10:Value}
  (a10:PySem.W.nsIn K mainGlobals "_law_due" = some (some (.ref f10))) (l10:K.lookup f10=some ⟨oc10,od10,.func (PySem.W.fnOf "_law_due" "_law_due" (bf bU) (aJ bU) (ai bU) .none kV10 dc10 pm10 an10 cd10 ct10),sl10⟩) (c10:PySem.W.codeIn K cd10 "_law_due" = true) (k10:PySem.W.keepIn K (.ref f10)=true)
  {f11:Addr}{od11 an11:Option Addr}{sl11:Array (Option Value)}{oc11 kV11 dc11 pm11 cd11 ct11:Value}
  (a11:PySem.W.nsIn K mainGlobals "law" = some (some (.ref f11))) (l11:K.lookup f11=some ⟨oc11,od11,.func (PySem.W.fnOf "law" "law" (bf dO) (aJ dO) (ai dO) .none kV11 dc11 pm11 an11 cd11 ct11),sl11⟩) (c11:PySem.W.codeIn K cd11 "law" = true) (k11:PySem.W.keepIn K (.ref f11)=true)
  (z_ValueError:PySem.W.nsIn K mainGlobals "ValueError" = some none)
  (z_abs:PySem.W.nsIn K mainGlobals "abs" = some none)
  (z_all:PySem.W.nsIn K mainGlobals "all" = some none)
  (z_bool:PySem.W.nsIn K mainGlobals "bool" = some none)
  (z_int:PySem.W.nsIn K mainGlobals "int" = some none)
  (z_isinstance:PySem.W.nsIn K mainGlobals "isinstance" = some none)
  (z_len:PySem.W.nsIn K mainGlobals "len" = some none)
  (z_min:PySem.W.nsIn K mainGlobals "min" = some none)
  (z_range:PySem.W.nsIn K mainGlobals "range" = some none)
  (z_repr:PySem.W.nsIn K mainGlobals "repr" = some none)
  (z_str:PySem.W.nsIn K mainGlobals "str" = some none)
  (z_tuple:PySem.W.nsIn K mainGlobals "tuple" = some none)
  {ga_LENGTHS:Addr}{ob_LENGTHS:Obj} (ga_LENGTHS_:PySem.W.nsIn K mainGlobals "LENGTHS" = some (some (.ref ga_LENGTHS))) (gl_LENGTHS:K.lookup ga_LENGTHS=some ob_LENGTHS) (gq_LENGTHS:iQ [(.int 1),(.int 2),(.int 4),(.int 8),(.int 16),(.int 32),(.int 64)] ob_LENGTHS=true)
  {ga_VALUES:Addr}{ob_VALUES:Obj} (ga_VALUES_:PySem.W.nsIn K mainGlobals "VALUES" = some (some (.ref ga_VALUES))) (gl_VALUES:K.lookup ga_VALUES=some ob_VALUES) (gq_VALUES:(ga_VALUES==sysModules)=false/\∃ vs,Obj.IsDictOf (bo P w) ob_VALUES vs/\KPs [("1",(.int 1)),("0",(.int 0)),("-",.non)] vs)
  {ca_SignError:Addr} (cm_SignError:PySem.W.nsIn K mainGlobals "SignError" = some (some (.ref ca_SignError)))
  {ca_NoText:Addr} (cm_NoText:PySem.W.nsIn K mainGlobals "NoText" = some (some (.ref ca_NoText)))
  {ca_NoLine:Addr} (cm_NoLine:PySem.W.nsIn K mainGlobals "NoLine" = some (some (.ref ca_NoLine)))
  {ca_OnNought:Addr} (cm_OnNought:PySem.W.nsIn K mainGlobals "OnNought" = some (some (.ref ca_OnNought)))
  (ck:PySem.W.excIn K ca_NoText pW "ValueError.__new__" = true)
  (cx:gv K ca_NoText=true)
  (ch:ox K ca_NoText ca_SignError=true)
  (cT:PySem.W.kitAny K (.ref ca_NoText) [.ref ca_NoLine,.ref ca_OnNought]=some false)
  (cV:PySem.W.kitOne K (.ref ca_NoText) (.type "ValueError")=some true)
  : ∃ t,Txt P w K mg t/\t.f11=f11:=by
 have F0:=cM (st:=bS) l0 c0 k0
 have F1:=cM (st:=bD) l1 c1 k1
 have F2:=cM (st:=aS) l2 c2 k2
 have F3:=cM (st:=bE) l3 c3 k3
 have F4:=cM (st:=av) l4 c4 k4
 have F5:=cM (st:=bG) l5 c5 k5
 have F6:=cM (st:=bx) l6 c6 k6
 have F7:=cM (st:=bu) l7 c7 k7
 have F8:=cM (st:=aL) l8 c8 k8
 have F9:=cM (st:=bB) l9 c9 k9
 have F10:=cM (st:=bU) l10 c10 k10
 have F11:=cM (st:=dO) l11 c11 k11
 refine⟨⟨f0,_,f1,_,f2,_,f3,_,f4,_,f5,_,f6,_,f7,_,f8,_,f9,_,f10,_,f11,_,ga_LENGTHS,ga_VALUES,ca_SignError,ca_NoText,ca_NoLine,ca_OnNought⟩,⟨PySem.W.mg_of X G cm_SignError,PySem.W.mg_of X G cm_NoText,PySem.W.mg_of X G cm_NoLine,PySem.W.mg_of X G cm_OnNought,ck,cx,ch,cT,cV,F0,PySem.W.mg_of X G a0,F0.binds λ_ _ _ _ _ _ us hl=>(by obtain⟨_,rfl⟩:=j9 hl;rfl),F1,PySem.W.mg_of X G a1,F1.binds λ_ _ _ _ _ _ us hl=>(by obtain⟨_,_,_,rfl⟩:=rR hl;rfl),F2,PySem.W.mg_of X G a2,F2.binds λ_ _ _ _ _ _ us hl=>(by obtain⟨_,rfl⟩:=j9 hl;rfl),F3,PySem.W.mg_of X G a3,F3.binds λ_ _ _ _ _ _ us hl=>(by obtain⟨_,rfl⟩:=j9 hl;rfl),F4,PySem.W.mg_of X G a4,F4.binds λ_ _ _ _ _ _ us hl=>(by obtain⟨_,rfl⟩:=j9 hl;rfl),F5,PySem.W.mg_of X G a5,F5.binds λ_ _ _ _ _ _ us hl=>(by obtain⟨_,_,rfl⟩:=pf hl;rfl),F6,PySem.W.mg_of X G a6,F6.binds λ_ _ _ _ _ _ us hl=>(by obtain⟨_,_,rfl⟩:=pf hl;rfl),F7,PySem.W.mg_of X G a7,F7.binds λ_ _ _ _ _ _ us hl=>(by obtain⟨_,_,rfl⟩:=pf hl;rfl),F8,PySem.W.mg_of X G a8,F8.binds λ_ _ _ _ _ _ us hl=>(by obtain⟨_,_,_,rfl⟩:=rR hl;rfl),F9,PySem.W.mg_of X G a9,F9.binds λ_ _ _ _ _ _ us hl=>(by obtain⟨_,rfl⟩:=j9 hl;rfl),F10,PySem.W.mg_of X G a10,F10.binds λ_ _ _ _ _ _ us hl=>(by obtain⟨_,rfl⟩:=j9 hl;rfl),F11,PySem.W.mg_of X G a11,F11.binds λ_ _ _ _ _ _ us hl=>(by obtain⟨_,rfl⟩:=j9 hl;rfl),PySem.W.mg_none_of X G z_ValueError,PySem.W.mg_none_of X G z_abs,PySem.W.mg_none_of X G z_all,PySem.W.mg_none_of X G z_bool,PySem.W.mg_none_of X G z_int,PySem.W.mg_none_of X G z_isinstance,PySem.W.mg_none_of X G z_len,PySem.W.mg_none_of X G z_min,PySem.W.mg_none_of X G z_range,PySem.W.mg_none_of X G z_repr,PySem.W.mg_none_of X G z_str,PySem.W.mg_none_of X G z_tuple,PySem.W.mg_of X G ga_LENGTHS_,qj gl_LENGTHS gq_LENGTHS,PySem.W.mg_of X G ga_VALUES_,let ⟨a,vs,b,c⟩:=gq_VALUES;⟨a,_,vs,gl_VALUES,b,c⟩⟩,rfl⟩
theorem txt_ex {P:Program}{w:World}{K:PySem.W.Frag}{mg:Str->Option Value}{f:Addr} (h:∃ t,Txt P w K mg t/\t.f11=f):∃ t,Txt P w K mg t:=let ⟨t,a,_⟩:=h;⟨t,a⟩
theorem walk {l:PySem.W.OpenLaw}{q:Program}{loose:List Str}{XP:(Str->Option Value)->Heap->Prop}{YP:World->Heap->Prop}{d:DefRec}{K:Params->PySem.W.Frag} (hn:l.most=some 63) (hdf:d.params.defaults=[])
  (hY:∀ (w:World) (h:Heap),YP w h->(K w.params).In h)
  (F:∀ (w:World) (mg:Str->Option Value) (fa:Addr) (h:Heap),(K w.params).In h->h.Ns mainGlobals mg->mg d.name=some (.ref fa)->
    ∃ fd:FuncData,(∀ (s:Shared) (u:Value),BindsTo s fd ⟨[u],[]⟩ [("_law_script",u)])/\∀ base:Heap,(K w.params).In base->base.Ns mainGlobals mg->cb l.prog w (K w.params) mg base CX0 6 fa fd ["_law_script"] (spI (K w.params) jo)) :
  PySem.W.WalkO q loose XP YP l.row.toRowW d [] (λf vs=>PySem.call f vs):=
 L2.walk_of (n:=63) (k:=6) (x:="_law_script") (CX:=λ_=>CX0) (sp:=λw=>spI (K w.params) jo) hn (by decide) hdf ⟨rfl,by decide,by decide,rfl⟩ hY F (λ_ _ a ns hl hO hS=>nt hO hS (mz ns hl)) λ_ _ _ _ _ z=>z
theorem law_mk {l:PySem.W.OpenLaw}{w:World}{K:PySem.W.Frag}{h:Heap}{mg:Str->Option Value}{fa:Addr} (hfa:mg "law" = some (.ref fa)) (T0:∃ t,Txt l.prog w K mg t) :
  ∃ fd:FuncData,(∀ (s:Shared) (v:Value),BindsTo s fd ⟨[v],[]⟩ [("_law_script",v)])/\∀ base:Heap,K.In base->base.Ns mainGlobals mg->cb l.prog w K mg base CX0 6 fa fd ["_law_script"] (spI K jo):=by
 obtain⟨t,T⟩:=T0
 have e:=hfa.symm.trans T.m11
 cases e
 refine⟨t.g11,λs v=>?_,λbase _ _=>pe T⟩
 obtain⟨oc,od,kV,doc,pm,an,cdv,ct,osl,e,_⟩:=T.F11.ex
 rw [e]
 exact .of_eq rfl
end Own
open PySem PySem.W PyProof.Rows
set_option maxRecDepth 100000 in
set_option maxHeartbeats 0 in
theorem PySem.Challenge.cw_signpoly_k76_texts_of_no_functions_holds : PySem.Challenge.rw_signpoly_k76_texts_of_no_functions.Holds := by
 w_on;o_law;k_head;(case hw=>w_witness2)
 k_fill
 refine Own.walk (l:=PySem.Challenge.rw_signpoly_k76_texts_of_no_functions) rfl rfl (λw h Y=>PySem.W.kIn_of Y) ?F
 case F=>
  intro w mg fa h KX G hmg
  refine Own.law_mk (h:=h) hmg ?T
  case T=>
   refine' Own.txt_ex (Own.txt_mk KX G ?a0 ?l0 ?c0 ?k0 ?a1 ?l1 ?c1 ?k1 ?a2 ?l2 ?c2 ?k2 ?a3 ?l3 ?c3 ?k3 ?a4 ?l4 ?c4 ?k4 ?a5 ?l5 ?c5 ?k5 ?a6 ?l6 ?c6 ?k6 ?a7 ?l7 ?c7 ?k7 ?a8 ?l8 ?c8 ?k8 ?a9 ?l9 ?c9 ?k9 ?a10 ?l10 ?c10 ?k10 ?a11 ?l11 ?c11 ?k11 ?z_ValueError ?z_abs ?z_all ?z_bool ?z_int ?z_isinstance ?z_len ?z_min ?z_range ?z_repr ?z_str ?z_tuple ?ga_LENGTHS_ ?gl_LENGTHS ?gq_LENGTHS ?ga_VALUES_ ?gl_VALUES ?gq_VALUES ?cm_SignError ?cm_NoText ?cm_NoLine ?cm_OnNought ?ck ?cx ?ch ?cT ?cV)
   case a0=>k_is
   case l0=>k_is
   case c0=>k_is
   case k0=>k_is
   case a1=>k_is
   case l1=>k_is
   case c1=>k_is
   case k1=>k_is
   case a2=>k_is
   case l2=>k_is
   case c2=>k_is
   case k2=>k_is
   case a3=>k_is
   case l3=>k_is
   case c3=>k_is
   case k3=>k_is
   case a4=>k_is
   case l4=>k_is
   case c4=>k_is
   case k4=>k_is
   case a5=>k_is
   case l5=>k_is
   case c5=>k_is
   case k5=>k_is
   case a6=>k_is
   case l6=>k_is
   case c6=>k_is
   case k6=>k_is
   case a7=>k_is
   case l7=>k_is
   case c7=>k_is
   case k7=>k_is
   case a8=>k_is
   case l8=>k_is
   case c8=>k_is
   case k8=>k_is
   case a9=>k_is
   case l9=>k_is
   case c9=>k_is
   case k9=>k_is
   case a10=>k_is
   case l10=>k_is
   case c10=>k_is
   case k10=>k_is
   case a11=>k_is
   case l11=>k_is
   case c11=>k_is
   case k11=>k_is
   case z_ValueError=>k_is
   case z_abs=>k_is
   case z_all=>k_is
   case z_bool=>k_is
   case z_int=>k_is
   case z_isinstance=>k_is
   case z_len=>k_is
   case z_min=>k_is
   case z_range=>k_is
   case z_repr=>k_is
   case z_str=>k_is
   case z_tuple=>k_is
   case ga_LENGTHS_=>k_is
   case gl_LENGTHS=>k_is
   case gq_LENGTHS=>rfl
   case ga_VALUES_=>k_is
   case gl_VALUES=>k_is
   case gq_VALUES=>exact⟨rfl,L2.kdc_mk (.cons rfl ⟨_,rfl⟩ (.cons rfl ⟨_,rfl⟩ (.cons rfl rfl .nil))) (by decide)⟩
   case cm_SignError=>k_is
   case cm_NoText=>k_is
   case cm_NoLine=>k_is
   case cm_OnNought=>k_is
   case ck=>kernel_rfl
   case cx=>kernel_rfl
   case ch=>kernel_rfl
   case cT=>kernel_rfl
   case cV=>kernel_rfl
