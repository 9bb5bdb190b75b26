import PyProof.Rows.All
import Wide.All
import OpenK.AllK
import Wide.FinOn
import Lean
import PyProof.EqAt
import PyProof.EqKinds
import PyProof.TupleCall
import PyProof.ListRange
import PyProof.NeKinds
import KE.KUnpack
import KE.KSortTup
import PyProof.ZipIter
import PyProof.Rows.CallKwBuiltin
import OpenK.KOwn
import PyProof.ExcBaseAll.ValueError
import PyProof.ExcInit
import PyProof.InstStoreFacts
import KE.KIsAll
import PyProof.ExcArgsOwn
import PyProof.ExcAttrAll.ValueError
import PyProof.RulesAs
import PyProof.NsDelKeeps
import PySem.Challenge.RW_signpoly_k18_signs_and_noughts
set_option Elab.async false
set_option linter.all false
set_option maxRecDepth 100000
set_option genSizeOf false
noncomputable section
namespace L2
open PySem PySem.Spec PyProof.Rows
abbrev Key:=Sum Int Str
noncomputable def uG:Key->Value->Bool
 | .inl k,v=>Value.isInt k v
 | .inr x,v=>Value.isStrOf x v
noncomputable def xR (w:World):Key->Int
 | .inl k=>hashInt k
 | .inr x=>hashStr w x
theorem bw:∀ {k:Key}{v:Value},uG k v=true->(∃ i t,k=Sum.inl i/\v=Value.int i t)\/(∃ x t,k=Sum.inr x/\v=Value.str x t)
 | .inl i,v,h=>by
  obtain⟨t,e⟩:=Value.isInt_shape (k:=i) (v:=v) h
  exact .inl ⟨i,t,rfl,e⟩
 | .inr x,v,h=>by
  obtain⟨t,e⟩:=Value.isStrOf_shape (x:=x) (v:=v) h
  exact .inr ⟨x,t,rfl,e⟩
theorem vi (a b:Int):decide ((Sum.inl a:Key)=Sum.inl b)=(a==b):=by
 by_cases e:a=b
 ·subst e;simp
 ·have h:¬ (Sum.inl a:Key)=Sum.inl b:=λq=>e (Sum.inl.inj q)
  rw [decide_eq_false h]
  exact (beq_eq_false_iff_ne.mpr e).symm
theorem vl (a b:Str):decide ((Sum.inr a:Key)=Sum.inr b)=decide (a=b):=by
 by_cases e:a=b
 ·subst e;simp
 ·have h:¬ (Sum.inr a:Key)=Sum.inr b:=λq=>e (Sum.inr.inj q)
  rw [decide_eq_false h,decide_eq_false e]
theorem vj (a:Int) (b:Str):decide ((Sum.inl a:Key)=Sum.inr b)=false:=decide_eq_false (λq=>nomatch q)
theorem vk (a:Str) (b:Int):decide ((Sum.inr a:Key)=Sum.inl b)=false:=decide_eq_false (λq=>nomatch q)
noncomputable def ml (prog:Program) (w:World):PySem.KeyKind prog w Key where
 is:=uG
 hash:=xR w
 inj:=λv a b ha hb=>by
  rcases bw ha with⟨i,t,rfl,rfl⟩ | ⟨x,t,rfl,rfl⟩
  ·rcases bw hb with⟨j,u,rfl,e⟩ | ⟨y,u,rfl,e⟩
   ·injection e with e1 _;rw [e1]
   ·exact nomatch e
  ·rcases bw hb with⟨j,u,rfl,e⟩ | ⟨y,u,rfl,e⟩
   ·exact nomatch e
   ·injection e with e1 _;rw [e1]
 byValue:=λk v h=>by
  rcases bw h with⟨i,t,rfl,rfl⟩ | ⟨x,t,rfl,rfl⟩<;>rfl
 pyHash:=λhv h=>by
  rcases bw hv with⟨i,t,rfl,rfl⟩ | ⟨x,t,rfl,rfl⟩
  ·exact wpAny_pyHash_int h
  ·exact wpAny_pyHash_str h
 eqBool:=λhu hv h=>by
  rcases bw hu with⟨i,t,rfl,rfl⟩ | ⟨x,t,rfl,rfl⟩
  ·rcases bw hv with⟨j,u,rfl,rfl⟩ | ⟨y,u,rfl,rfl⟩
   ·rw [vi] at h;exact wpAny_eqBool_int h
   ·rw [vj] at h;exact SeqAt.EqAt.int_str i t y u _ _ _ _ h
  ·rcases bw hv with⟨j,u,rfl,rfl⟩ | ⟨y,u,rfl,rfl⟩
   ·rw [vk] at h;exact SeqAt.EqAt.str_int x t j u _ _ _ _ h
   ·rw [vl] at h;exact wpAny_eqBool_str h
 «strs»:=λk x t v h=>by
  rcases bw h with⟨i,u,rfl,e⟩ | ⟨y,u,rfl,e⟩
  ·exact nomatch e
  ·injection e with e1 _
   subst e1
   cases v<;>rfl
end L2
namespace L2
open PySem PySem.Spec PyProof.Rows
inductive V where
 | non | bl (b:Bool) | int (i:Int) | str (x:Str) | byt (b:Array UInt8) | flt (b:UInt64) | ref (a:Addr) | ty (n:String)
 deriving DecidableEq
noncomputable def aQ:V->Value->Prop
 | .non,u=>u=Value.none
 | .bl b,u=>u=Value.bool b
 | .int i,u=>∃ t,u=Value.int i t
 | .str x,u=>∃ t,u=Value.str x t
 | .byt b,u=>∃ t,u=Value.bytes b t
 | .flt b,u=>∃ t,u=Value.float b t
 | .ref a,u=>u=Value.ref a
 | .ty n,u=>u=Value.type n
abbrev aN:List V->List Value->Prop:=Paired aQ
theorem aN.length {xs:List V}{us:List Value} (r:aN xs us):xs.length=us.length:=Paired.length r
theorem aN.get:∀ {xs:List V}{us:List Value}{i:Nat}{x:V},aN xs us->xs[i]?=some x->∃ u,us[i]?=some u/\aQ x u
 | _,_,_,_,.nil,e=>by simp at e
 | _,_,0,_,.cons r _,e=>by simp at e;subst e;exact⟨_,rfl,r⟩
 | _,_,i+1,x,.cons _ t,e=>by
  obtain⟨u,h1,h2⟩:=aN.get (i:=i) (x:=x) t (by simpa using e)
  exact⟨u,by simpa using h1,h2⟩
theorem aN.set {x:V}{u:Value} (r:aQ x u):∀ {xs:List V}{us:List Value} (i:Nat),aN xs us->aN (xs.set i x) (us.set i u)
 | _,_,_,.nil=>.nil
 | _,_,0,.cons _ t=>.cons r t
 | _,_,i+1,.cons q t=>.cons q (aN.set r i t)
theorem aN.append:∀ {xs ys:List V}{us ws:List Value},aN xs us->aN ys ws->aN (xs++ys) (us++ws)
 | _,_,_,_,.nil,s=>s
 | _,_,_,_,.cons r t,s=>.cons r (aN.append t s)
noncomputable def qw:Option V->Option Value->Prop
 | some v,some u=>aQ v u
 | none,none=>True
 | _,_=>False
noncomputable def KV {κ:Type}:List (κ×V)->List (κ×Value)->Prop:=Paired λ(p:κ×V) (q:κ×Value)=>p.1=q.1/\aQ p.2 q.2
noncomputable def kV:Key->V
 | .inl i=>.int i
 | .inr x=>.str x
inductive HO where
 | lst (xs:List V)
 | tup (xs:List V)
 | dK (kvs:List (Key×V)) | dT (kvs:List (List Key×V))
 | set (S:Int->Bool) (n:Nat)
 | ins (C dx:Addr) (fs:List (Str×V))
 | own (x:Addr)
 | xd (fs:List (Str×V))
 | met (f x:Addr)
 | rng (lo hi:Int)
 | frz (o:Obj) (u:HO)
 | tbl (ps:Array Value)
 | ext (φ:Heap->Prop)
abbrev Hp:=Addr->Option HO
noncomputable def upd (H:Hp) (a:Addr) (o:HO):Hp:=λb=>if b=a then some o else H b
theorem ay {H:Hp}{a:Addr}{o:HO}:upd H a o a=some o:=by unfold upd;rw [if_pos rfl]
theorem am {H:Hp}{a b:Addr}{o:HO} (h:b≠a):upd H a o b=H b:=by unfold upd;rw [if_neg h]
theorem ar {H:Hp}{a b:Addr}{o:HO} (h:H a=some o) (h':H b=none):a≠b:=by
 intro e;subst e;rw [h] at h';cases h'
noncomputable def db (h:Heap) (a:Addr) (its:Array Value):Prop:=∃ o:Obj,h.get? a=some o/\o.cls=.type "tuple"/\(∃ n,o.data=.seq its n)/\o.dict=none
theorem db.tup {h:Heap}{a:Addr}{its:Array Value} (x:db h a its):IsTup h a its:=let ⟨o,e,c,n,_⟩:=x;⟨o,e,c,n⟩
theorem db.new (h:Heap) (its:Array Value):db (h.push { cls:=.type "tuple",data:=.seq its }) h.objs.size its:=⟨_,Heap.get?_push_size _ rfl,rfl,⟨_,rfl⟩,rfl⟩
section
variable (P:Program) (w:World)
noncomputable def bL (H:Hp) (h:Heap) (a:Addr):HO->Prop
 | .lst xs=>xs.length<=sizeLine/\∃ (its:List Value) (n:Nat),aN xs its/\h.get? a=some { cls:=.type "list",data:=.seq its.toArray n }
 | .tup xs=>xs.length<=sizeLine/\∃ its:List Value,aN xs its/\db h a its.toArray
 | .dK kvs=>kvs.length<=sizeLine/\(a==sysModules)=false/\∃ vs,KV kvs vs/\h.DictOf (ml P w) a vs
 | .dT kvs=>kvs.length<=sizeLine/\(a==sysModules)=false/\∃ xs:List (List Key×Addr×Value),
   Paired (λ(p:List Key×V) (q:List Key×Addr×Value)=>p.1=q.1/\H q.2.1=some (.tup (p.1.map kV))/\aQ p.2 q.2.2) kvs xs/\
   ∃ o es ep,h.get? a=some o/\o.ExactDict/\o.data=.dict es ep/\es.toList=xs.map (entryOfKey (tupleKind (ml P w)))/\(xs.map (·.1)).Nodup
 | .set S n=>h.SetOf (intKind P w) a S n
 | .ins C dx fs=>H dx=some (.own a)/\fs.length<=1000/\dx≠a/\h.get? a=some (PySem.W.instObj C dx)/\
   ∃ mA,h.Ns1 dx mA/\(∀ f,qw (fs.lookup f) (mA f))/\PySem.Within mA (fs.map (·.1))
 | .own _=>∃ o,h.get? a=some o
 | .xd fs=>∃ mA,h.Ns1 a mA/\∀ f,qw (fs.lookup f) (mA f)
 | .rng lo hi=>∃ t u v,h.get? a=some { cls:=.type "range",data:=.fields #[.int lo t,.int hi u,.int 1 v] }
 | .frz o u=>h.get? a=some o/\bL H h a u
 | .tbl ps=>h.get? a=some { cls:=.none,data:=.fields ps }
 | .met f x=>h.get? a=some (PySem.W.methodObj (.ref f) (.ref x))
 | .ext φ=>φ h/\(∃ o,h.get? a=some o)/\∀ h1 h2:Heap,φ h1->(∀ o,h1.get? a=some o->h2.get? a=some o)->φ h2
noncomputable def HOk (H:Hp) (h:Heap):Prop:=∀ a o,H a=some o->bL P w H h a o
end
section
variable {P:Program}{w:World}{H H':Hp}{h h':Heap}{a:Addr}{o:HO}
theorem bL.lt (x:bL P w H h a o):a < h.objs.size:=by
 cases o with
 | lst xs=>obtain⟨_,_,_,_,e⟩:=x;exact Heap.lt_size e
 | tup xs=>obtain⟨_,_,_,p⟩:=x;exact p.tup.lt
 | dK kvs=>obtain⟨_,_,_,_,o,_,_,e,_⟩:=x;exact Heap.lt_size e
 | dT kvs=>obtain⟨_,_,_,_,o,_,_,e,_⟩:=x;exact Heap.lt_size e
 | set S n=>obtain⟨o,_,_,_,e,_⟩:=x;exact Heap.lt_size e
 | ins C dx fs=>obtain⟨_,_,_,e,_⟩:=x;exact Heap.lt_size e
 | own y=>obtain⟨_,e⟩:=x;exact Heap.lt_size e
 | xd fs=>obtain⟨_,⟨_,_,_,e,_⟩,_⟩:=x;exact Heap.lt_size e
 | rng lo hi=>obtain⟨_,_,_,e⟩:=x;exact Heap.lt_size e
 | frz ob u=>obtain⟨e,_⟩:=x;exact Heap.lt_size e
 | tbl ps=>exact Heap.lt_size (show h.get? a=some _ from x)
 | met f y=>exact Heap.lt_size (show h.get? a=some _ from x)
 | ext φ=>obtain⟨_,⟨_,e⟩,_⟩:=x;exact Heap.lt_size e
theorem Paired.mapP {α β:Type}{F G:α->β->Prop}:∀ {l₁:List α}{l₂:List β},Paired F l₁ l₂->(∀ a b,F a b->G a b)->Paired G l₁ l₂
 | _,_,.nil,_=>.nil
 | _,_,.cons r t,f=>.cons (f _ _ r) (Paired.mapP t f)
theorem bL.stay (x:bL P w H h a o) (k:∀ b u,(b=a\/H b=some (.own a))->h.get? b=some u->h'.get? b=some u)
  (ho:∀ b,H b=some (.own a)->H' b=some (.own a)) (ht:∀ b xs,H b=some (.tup xs)->H' b=some (.tup xs)):bL P w H' h' a o:=by
 induction o with
 | lst xs=>obtain⟨z,its,n,r,e⟩:=x;exact⟨z,its,n,r,k _ _ (.inl rfl) e⟩
 | tup xs=>obtain⟨z,its,r,ob,e,c⟩:=x;exact⟨z,its,r,ob,k _ _ (.inl rfl) e,c⟩
 | dK kvs=>obtain⟨z,y,vs,r,ob,es,ep,e,c⟩:=x;exact⟨z,y,vs,r,ob,es,ep,k _ _ (.inl rfl) e,c⟩
 | dT kvs=>
  obtain⟨z,y,xs,r,ob,es,ep,e,c⟩:=x
  exact⟨z,y,xs,Paired.mapP r λp q z=>⟨z.1,ht _ _ z.2.1,z.2.2⟩,ob,es,ep,k _ _ (.inl rfl) e,c⟩
 | set S n=>obtain⟨ob,es,ep,t,e,c⟩:=x;exact⟨ob,es,ep,t,k _ _ (.inl rfl) e,c⟩
 | ins C dx fs=>
  obtain⟨d,z,ne,e,mA,⟨od,es,ep,e2,c⟩,r⟩:=x
  exact⟨ho _ d,z,ne,k _ _ (.inl rfl) e,mA,⟨od,es,ep,k _ _ (.inr d) e2,c⟩,r⟩
 | own y=>obtain⟨ob,e⟩:=x;exact⟨ob,k _ _ (.inl rfl) e⟩
 | xd fs=>obtain⟨mA,⟨od,es,ep,e,c⟩,r⟩:=x;exact⟨mA,⟨od,es,ep,k _ _ (.inl rfl) e,c⟩,r⟩
 | rng lo hi=>obtain⟨t,u,v,e⟩:=x;exact⟨t,u,v,k _ _ (.inl rfl) e⟩
 | frz ob u ih=>obtain⟨e,q⟩:=x;exact⟨k _ _ (.inl rfl) e,ih q⟩
 | tbl ps=>
  have e:h.get? a=some { cls:=.none,data:=.fields ps }:=x
  show h'.get? a=some { cls:=.none,data:=.fields ps }
  exact k a _ (.inl rfl) e
 | met f y=>
  have e:h.get? a=some (PySem.W.methodObj (.ref f) (.ref y)):=x
  show h'.get? a=some (PySem.W.methodObj (.ref f) (.ref y))
  exact k a _ (.inl rfl) e
 | ext φ=>obtain⟨p,⟨o,e⟩,st⟩:=x;exact⟨st _ _ p λo q=>k _ _ (.inl rfl) q,⟨o,k _ _ (.inl rfl) e⟩,st⟩
theorem HOk.lt (x:HOk P w H h) (e:H a=some o):a < h.objs.size:=(x a o e).lt
theorem HOk.fresh (x:HOk P w H h) (e:h.objs.size<=a):H a=none:=by
 cases q:H a with
 | none=>rfl
 | some u=>exact absurd (Nat.lt_of_lt_of_le (x.lt q) e) (Nat.lt_irrefl _)
theorem HOk.kept (x:HOk P w H h) (k:∀ b u,h.get? b=some u->h'.get? b=some u):HOk P w H h':=λa o e=>
 (x a o e).stay (λb u _ q=>k b u q) (λ_ q=>q) λ_ _ q=>q
theorem HOk.laid (x:HOk P w H h) (k:∀ b u,h.get? b=some u->h'.get? b=some u) (hp:h.objs.size<=a) (new:bL P w (upd H a o) h' a o):HOk P w (upd H a o) h':=λb u e=>by
 have hn:=x.fresh hp
 by_cases hb:b=a
 ·subst hb;rw [ay] at e;cases e;exact new
 ·rw [am hb] at e
  exact (x b u e).stay (λc v _ q=>k c v q) (λc q=>by rw [am (ar q hn)];exact q) λc xs q=>by rw [am (ar q hn)];exact q
end
noncomputable def Rd (H:Hp) (a:Addr) (u:HO):Prop:=H a=some u\/∃ o,H a=some (.frz o u)
theorem Rd.of {H:Hp}{a:Addr}{u:HO} (h:H a=some u):Rd H a u:=.inl h
theorem Rd.ok {P:Program}{w:World}{H:Hp}{h:Heap}{a:Addr}{u:HO} (r:Rd H a u) (x:HOk P w H h):bL P w H h a u:=by
 rcases r with r | ⟨o,r⟩
 ·exact x a u r
 ·obtain⟨_,q⟩:=x a _ r
  exact q
noncomputable def Mut:Option HO->Prop
 | some (.lst _)=>True
 | some (.dK _)=>True
 | some (.dT _)=>True
 | some (.set _ _)=>True
 | some (.ins _ _ _)=>True
 | some (.ext _)=>True
 | _=>False
section
variable {P:Program}{w:World}{H:Hp}{h h':Heap}{x e:Addr}{o':HO}
theorem HOk.write (ok:HOk P w H h) (mu:Mut (H x)) (he:e=x\/H e=some (.own x)) (k:∀ b u,b≠e->h.get? b=some u->h'.get? b=some u) (heo:∃ u,h'.get? e=some u)
  (new:bL P w (upd H x o') h' x o'):HOk P w (upd H x o') h':=λb u q=>by
 have nown:∀ c y,H c=some (.own y)->c≠x:=λc y r z=>by subst z;rw [r] at mu;exact mu
 have ntup:∀ c xs,H c=some (.tup xs)->c≠x:=λc xs r z=>by subst z;rw [r] at mu;exact mu
 by_cases hb:b=x
 ·subst hb;rw [ay] at q;cases q;exact new
 ·rw [am hb] at q
  by_cases hbe:b=e
  ·have q':H b=some (.own x):=by
    rcases he with z | z
    ·exact absurd (hbe.trans z) hb
    ·rw [hbe];exact z
   rw [q] at q';cases q'
   obtain⟨v,hv⟩:=heo
   exact⟨v,by rw [hbe];exact hv⟩
  ·refine (ok b u q).stay (λc v hc r=>k c v ?_ r) (λc r=>by rw [am (nown c b r)];exact r) λc xs r=>by rw [am (ntup c xs r)];exact r
   rcases hc with rfl | hc
   ·exact hbe
   ·rintro rfl
    rcases he with z | z
    ·exact nown c b hc z
    ·rw [hc] at z;cases z;exact hb rfl
end
structure Un (fs ex:List Addr) (H H':Hp) (h h':Heap):Prop where
 keep:∀ b o,h.get? b=some o->H b=none->b ∉ fs->b ∉ ex->h'.get? b=some o
 slot:∀ b o,h.get? b=some o->H b=none->b ∈ fs->b ∉ ex->∃ sl,h'.get? b=some { o with slots:=sl }
 free:∀ b o,h.get? b=some o->H b=none->b ∉ ex->H' b=none
 there:∀ b o,h.get? b=some o->b ∉ ex->∃ o',h'.get? b=some o'
 tups:∀ b xs,H b=some (.tup xs)->H' b=some (.tup xs)
 frzs:∀ b o u,H b=some (.frz o u)->H' b=some (.frz o u)
 tbls:∀ b ps,H b=some (.tbl ps)->∃ more,H' b=some (.tbl (ps++more))
section
variable {fs fs' ex ex':List Addr}{H H1 H2:Hp}{h h1 h2 h':Heap}{a x e:Addr}{o:HO}
theorem Un.any (u:Un fs ex H H1 h h1) {b:Addr}{ob:Obj} (q:h.get? b=some ob) (n:H b=none) (hx:b ∉ ex):∃ sl,h1.get? b=some { ob with slots:=sl }:=by
 by_cases hb:b ∈ fs
 ·exact u.slot b ob q n hb hx
 ·exact⟨ob.slots,u.keep b ob q n hb hx⟩
theorem Un.trans (a:Un fs ex H H1 h h1) (b:Un fs ex H1 H2 h1 h2):Un fs ex H H2 h h2 where
 keep:=λc ob q n hc hx=>b.keep c ob (a.keep c ob q n hc hx) (a.free c ob q n hx) hc hx
 slot:=λc ob q n hc hx=>by
  obtain⟨sl,e1⟩:=a.slot c ob q n hc hx
  obtain⟨sl',e2⟩:=b.slot c _ e1 (a.free c ob q n hx) hc hx
  exact⟨sl',e2⟩
 free:=λc ob q n hx=>by
  obtain⟨o',e1⟩:=a.there c ob q hx
  exact b.free c o' e1 (a.free c ob q n hx) hx
 there:=λc ob q hx=>by
  obtain⟨o',e1⟩:=a.there c ob q hx
  exact b.there c o' e1 hx
 tups:=λc xs q=>b.tups c xs (a.tups c xs q)
 frzs:=λc ob xs q=>b.frzs c ob xs (a.frzs c ob xs q)
 tbls:=λc ps q=>by
  obtain⟨m1,e1⟩:=a.tbls c ps q
  obtain⟨m2,e2⟩:=b.tbls c _ e1
  exact⟨m1++m2,by rw [e2,Array.append_assoc]⟩
theorem Un.kept (k:∀ b u,h.get? b=some u->h'.get? b=some u):Un fs ex H H h h':=
 ⟨λb ob q _ _ _=>k b ob q,λb ob q _ _ _=>⟨ob.slots,k b ob q⟩,λ_ _ _ n _=>n,λb ob q _=>⟨ob,k b ob q⟩,λ_ _ q=>q,λ_ _ _ q=>q,λ_ ps q=>⟨#[],by rw [q];simp⟩⟩
theorem Un.refl:Un fs ex H H h h:=Un.kept λ_ _ q=>q
theorem Un.laid (k:∀ b u,h.get? b=some u->h'.get? b=some u) (hp:h.objs.size<=a) (hn:H a=none):Un fs ex H (upd H a o) h h' where
 keep:=λb u q _ _ _=>k b u q
 slot:=λb u q _ _ _=>⟨u.slots,k b u q⟩
 free:=λb u q n _=>by rw [am (Nat.ne_of_lt (Nat.lt_of_lt_of_le (Heap.lt_size q) hp))];exact n
 there:=λb u q _=>⟨u,k b u q⟩
 tups:=λb xs q=>by rw [am (ar q hn)];exact q
 frzs:=λb u xs q=>by rw [am (ar q hn)];exact q
 tbls:=λb ps q=>⟨#[],by rw [am (ar q hn),q];simp⟩
theorem Un.write (mu:Mut (H x)) (he:e=x\/H e=some (.own x)) (k:∀ b u,b≠e->h.get? b=some u->h'.get? b=some u) (heo:∃ u,h'.get? e=some u):Un fs ex H (upd H x o) h h':=by
 have hx:∀ b,H b=none->b≠x:=λb n z=>by subst z;rw [n] at mu;exact mu
 have hb:∀ b,H b=none->b≠e:=λb n z=>by
  subst z
  rcases he with r | r
  ·exact hx b n r
  ·rw [n] at r;cases r
 have hm:∀ b u,H b=some u->¬ Mut (some u)->b≠x:=λb u q nm z=>by subst z;rw [q] at mu;exact nm mu
 refine⟨λb u q n _ _=>k b u (hb b n) q,λb u q n _ _=>⟨u.slots,k b u (hb b n) q⟩,λb u q n _=>by rw [am (hx b n)];exact n,λb u q _=>?_,
  λb xs q=>by rw [am (hm b _ q λz=>z)];exact q,λb u xs q=>by rw [am (hm b _ q λz=>z)];exact q,λb ps q=>⟨#[],by rw [am (hm b _ q λz=>z),q];simp⟩⟩
 by_cases hbe:b=e
 ·subst hbe;exact heo
 ·exact⟨u,k b u hbe q⟩
end
noncomputable def trk (h:Heap) (H:Hp):List Addr:=(List.range h.objs.size).filter λa=>(H a).isSome
noncomputable def l5 (h:Heap) (H:Hp):Heap:=PySem.W.hideAll h (trk h H)
theorem pR (h:Heap) (H:Hp):(l5 h H).objs.size=h.objs.size:=PySem.W.hideAll_size _ _
theorem qJ {h:Heap}{H:Hp}{b:Addr}{o:Obj} (e:h.get? b=some o) (n:H b=none):(l5 h H).get? b=some o:=
 PySem.W.hideAll_get _ e λhm=>by
  have q:(H b).isSome=true:=(List.mem_filter.mp hm).2
  rw [n] at q;simp at q
theorem tQ {h:Heap}{H:Hp}{b:Addr}{o:Obj} (e:(l5 h H).get? b=some o):h.get? b=some o/\H b=none:=by
 have e':h.get? b=some o:=PySem.W.of_hideAll (trk h H) e
 refine⟨e',?_⟩
 cases q:H b with
 | none=>rfl
 | some x=>
  have hm:b ∈ trk h H:=List.mem_filter.mpr ⟨List.mem_range.mpr (Heap.lt_size e'),by simp [q]⟩
  have z:(l5 h H).get? b=none:=PySem.W.hideAll_none (trk h H) hm
  rw [z] at e;cases e
end L2
namespace L2
open PySem PySem.Spec PyProof.Rows
structure Mod (K:PySem.W.Frag) (mg:Str->Option Value) (base:Heap):Prop where
 kin:K.In base
 glob:base.Ns mainGlobals mg
 blt:∃ mb,base.Ns builtinsNs mb/\∀ x:Str,x≠"__name__"->mb x=bootBuiltins x
 nolimit:base.NoLimit
structure Cx where
 prog:Program
 w:World
 K:PySem.W.Frag
 mg:Str->Option Value
 base:Heap
 A:Around
 N:List Str
 s₀:Shared
 H₀:Hp
 env:Env
 outer:List Env
 stack:List Env
 ex:List Addr
 fn:Str->Bool
 calm:Bool
 pn:List (Addr×Obj)
 xe:Value->Shared->Prop
noncomputable def frs (l:List Env):List Addr:=l.filterMap (·.frame)
abbrev Cx.fs (X:Cx):List Addr:=frs X.outer
noncomputable def Vis (sc:Scope) (x:Str):Prop:=sc.names.lookup x=some .local\/sc.names.lookup x=some .cell\/sc.names.lookup x=some .free
noncomputable def Loc (sc:Scope) (x:Str):Prop:=sc.names.lookup x=some .local\/sc.names.lookup x=some .cell
noncomputable def wl (env:Env) (h:Heap) (m:Str->Option Value) (x:Str) (u:Value):Prop:=
 (env.kindOf x=some .local/\m x=some u)\/((env.kindOf x=some .cell\/env.kindOf x=some .free)/\∃ c,env.cells.lookup x=some c/\h.IsCell c (some u))
structure Cx.Ok (X:Cx):Prop where
 mod:Mod X.K X.mg X.base
 kind:X.env.scope.kind=.function
 glob:X.env.globals=mainGlobals
 blt:X.env.builtins=builtinsNs
 above:X.s₀.heap.objs.size<=X.env.locals
 inj:∀ x y c,X.env.cells.lookup x=some c->X.env.cells.lookup y=some c->x=y
 has:∀ x,(X.env.kindOf x=some .cell\/X.env.kindOf x=some .free)->∃ c,X.env.cells.lookup x=some c
 cab:∀ x c,X.fn x=true->X.env.cells.lookup x=some c->X.s₀.heap.objs.size<=c
 hd:X.calm=true->X.A.handled=none
 frames:X.A.frames=some X.stack
 stk:X.stack=X.outer\/(X.stack=X.env::X.outer/\X.env.frame=some X.env.locals)
 exf:∀ b ∈ X.ex,b≠X.env.locals/\∀ x c,X.env.cells.lookup x=some c->c≠b
 bs:∀ b o,X.base.get? b=some o->X.s₀.heap.get? b=some o/\X.H₀ b=none
 bsz:X.base.objs.size<=X.s₀.heap.objs.size
 noex:∀ b o,X.base.get? b=some o->b ∉ X.ex
 exfs:∀ b ∈ X.ex,b ∉ X.fs
 funs:X.s₀.heap.FunFrames X.base X.outer
 frf:∀ b ∈ X.fs,X.H₀ b=none
structure Inv (X:Cx) (pins:List (Addr×Obj)) (σ:List (Option V)) (H:Hp) (s:Shared):Prop where
 ok:X.Ok
 os:s.os=X.s₀.os
 bare:AllBare s.gens
 base:Un X.fs X.ex X.H₀ H X.s₀.heap s.heap
 loc:∃ m,s.heap.Ns X.env.locals m/\∀ (i:Nat) (x:Str) (v:V),X.N[i]?=some x->σ[i]?=some (some v)->Vis X.env.scope x->∃ u,aQ v u/\wl X.env s.heap m x u
 cell:∀ x c,X.env.cells.lookup x=some c->∃ v,s.heap.IsCell c v
 free:H X.env.locals=none
 freeC:∀ x c,X.env.cells.lookup x=some c->H c=none
 pin:∀ p ∈ X.pn++pins,s.heap.get? p.1=some p.2/\H p.1=none/\p.1≠X.env.locals/\p.1 ∉ X.fs/\∀ v,p.2.data≠.cell v
 hok:HOk X.prog X.w H s.heap
 len:σ.length=X.N.length
section
variable {X:Cx}{pins:List (Addr×Obj)}{σ:List (Option V)}{H H':Hp}{s:Shared}{h':Heap}
theorem Cx.Ok.nofr (ok:X.Ok) {b:Addr}{o:Obj} (e:X.base.get? b=some o):b ∉ X.fs:=λhb=>by
 have:=(ok.funs.mem hb).1
 rw [e] at this;cases this
theorem Inv.bs (I:Inv X pins σ H s):∀ b o,X.base.get? b=some o->s.heap.get? b=some o/\H b=none:=λb o e=>
 ⟨I.base.keep b o (I.ok.bs b o e).1 (I.ok.bs b o e).2 (I.ok.nofr e) (I.ok.noex b o e),I.base.free b o (I.ok.bs b o e).1 (I.ok.bs b o e).2 (I.ok.noex b o e)⟩
theorem Inv.bk (I:Inv X pins σ H s):∀ b o,X.base.get? b=some o->s.heap.get? b=some o:=λb o e=>(I.bs b o e).1
theorem Inv.mod (I:Inv X pins σ H s):Mod X.K X.mg X.base:=I.ok.mod
theorem Inv.kIn (I:Inv X pins σ H s):X.K.In s.heap:=I.ok.mod.kin.keeps I.bk
theorem Inv.fr (I:Inv X pins σ H s):∃ m,Fr X.base X.env.locals s.heap m:=
 let ⟨m,hn,_⟩:=I.loc
 ⟨m,hn,I.bk,Nat.le_trans I.ok.bsz I.ok.above⟩
theorem Inv.lt (I:Inv X pins σ H s):X.env.locals < s.heap.objs.size:=let ⟨_,hn,_⟩:=I.loc;hn.lt
theorem Inv.sz (I:Inv X pins σ H s):X.s₀.heap.objs.size<=s.heap.objs.size:=Nat.le_trans I.ok.above (Nat.le_of_lt I.lt)
theorem Inv.nofs (I:Inv X pins σ H s) {a:Addr} (h:s.heap.objs.size<=a):a ∉ X.fs:=λhb=>by
 obtain⟨_,o,ho,_⟩:=I.ok.funs.mem hb
 exact absurd (Nat.lt_of_lt_of_le (Heap.lt_size ho) (Nat.le_trans I.sz h)) (Nat.lt_irrefl _)
theorem Inv.cne (I:Inv X pins σ H s):∀ x c,X.env.cells.lookup x=some c->c≠X.env.locals:=λx c e z=>by
 obtain⟨v,o,ho,hd⟩:=I.cell x c e
 obtain⟨m,⟨o',es,ep,ho',hd',_⟩,_⟩:=I.loc
 rw [z,ho'] at ho;cases ho;rw [hd'] at hd;cases hd
theorem Inv.funs (I:Inv X pins σ H s):s.heap.FunFrames X.base X.outer:=by
 have all:∀ (l:List Env),(∀ b ∈ frs l,b ∈ X.fs)->X.s₀.heap.FunFrames X.base l->s.heap.FunFrames X.base l:=by
  intro l
  induction l with
  | nil=>intro _ _;trivial
  | cons env r ih=>
   intro hs hl
   obtain⟨hk,⟨L,o,hf,hn,ho,hd⟩,hr⟩:=hl
   have hL:L ∈ X.fs:=hs L (by unfold frs;rw [List.filterMap_cons,hf];exact List.mem_cons_self)
   obtain⟨sl,e⟩:=I.base.slot L o ho (I.ok.frf L hL) hL λz=>I.ok.exfs L z hL
   exact⟨hk,⟨L,_,hf,hn,e,hd⟩,ih (λb hb=>hs b (by unfold frs;rw [List.filterMap_cons,hf];exact List.mem_cons_of_mem _ hb)) hr⟩
 exact all X.outer (λ_ hb=>hb) I.ok.funs
theorem Inv.stack (I:Inv X pins σ H s):s.heap.FunFrames X.base X.stack:=by
 rcases I.ok.stk with e | ⟨e,hf⟩
 ·rw [e];exact I.funs
 ·rw [e]
  obtain⟨m,hn,_⟩:=I.loc
  refine .cons (by rw [I.ok.kind];decide) hf hn ?_ I.funs
  exact Heap.get?_none_of_le (Nat.le_trans I.ok.bsz I.ok.above)
theorem Inv.stkSub (I:Inv X pins σ H s):∀ b ∈ frs X.stack,b ∈ X.env.locals::X.fs:=λb hb=>by
 rcases I.ok.stk with e | ⟨e,hf⟩
 ·rw [e] at hb;exact List.mem_cons_of_mem _ hb
 ·rw [e] at hb
  unfold frs at hb
  rw [List.filterMap_cons,hf] at hb
  exact hb
theorem Inv.stkFree (I:Inv X pins σ H s):∀ b ∈ frs X.stack,H b=none:=λb hb=>by
 rcases List.mem_cons.mp (I.stkSub b hb) with e | hb
 ·rw [e];exact I.free
 ·obtain⟨_,o,ho,_⟩:=I.ok.funs.mem hb
  exact I.base.free b o ho (I.ok.frf b hb) λz=>I.ok.exfs b z hb
theorem Inv.step {g':Array GenState}{t':Nat}{d':Drawn}{ch:List Addr} (I:Inv X pins σ H s)
  (hch:∀ b ∈ ch,(b ∈ X.ex\/X.s₀.heap.objs.size<=b)/\b≠X.env.locals/\(∀ x c,X.env.cells.lookup x=some c->c≠b)/\∀ p ∈ X.pn++pins,p.1≠b)
  (keep:∀ b o,b≠X.env.locals->b ∉ X.fs->b ∉ ch->s.heap.get? b=some o->H b=none->h'.get? b=some o)
  (slot:∀ b o,b≠X.env.locals->b ∈ X.fs->b ∉ ch->s.heap.get? b=some o->H b=none->∃ sl,h'.get? b=some { o with slots:=sl }) (free:∀ b o,b ∉ ch->s.heap.get? b=some o->H b=none->H' b=none)
  (there:∀ b o,b ∉ ch->s.heap.get? b=some o->∃ o',h'.get? b=some o')
  (tups:∀ b xs,H b=some (.tup xs)->H' b=some (.tup xs)) (frzs:∀ b o u,H b=some (.frz o u)->H' b=some (.frz o u)) (tbls:∀ b ps,H b=some (.tbl ps)->∃ more,H' b=some (.tbl (ps++more)))
  (ns:∀ m,s.heap.Ns X.env.locals m->h'.Ns X.env.locals m) (hok:HOk X.prog X.w H' h') (hg:AllBare g') :
  Inv X pins σ H' { s with heap:=h',gens:=g',drawn:=d',toks:=t' }:=by
 have neL:∀ b o,X.s₀.heap.get? b=some o->b≠X.env.locals:=λb o e=>Nat.ne_of_lt (Nat.lt_of_lt_of_le (Heap.lt_size e) I.ok.above)
 have neC:∀ b o,X.s₀.heap.get? b=some o->b ∉ X.ex->b ∉ ch:=λb o e hx hb=>by
  rcases (hch b hb).1 with z | z
  ·exact hx z
  ·exact absurd (Nat.lt_of_lt_of_le (Heap.lt_size e) z) (Nat.lt_irrefl _)
 have cellK:∀ x c,X.env.cells.lookup x=some c->∀ v,s.heap.IsCell c v->h'.IsCell c v:=λx c e v ⟨o,ho,hd⟩=>by
  have nch:c ∉ ch:=λz=>(hch c z).2.2.1 x c e rfl
  by_cases hc:c ∈ X.fs
  ·obtain⟨sl,q⟩:=slot c o (I.cne x c e) hc nch ho (I.freeC x c e)
   exact⟨_,q,hd⟩
  ·exact⟨o,keep c o (I.cne x c e) hc nch ho (I.freeC x c e),hd⟩
 refine⟨I.ok,I.os,hg,⟨λb o e n hb hx=>?_,λb o e n hb hx=>?_,λb o e n hx=>?_,λb o e hx=>?_,λb xs e=>tups b xs (I.base.tups b xs e),λb o xs e=>frzs b o xs (I.base.frzs b o xs e),λb ps e=>?_⟩,?_,λx c e=>?_,?_,λx c e=>?_,λp hp=>?_,hok,I.len⟩
 ·exact keep b o (neL b o e) hb (neC b o e hx) (I.base.keep b o e n hb hx) (I.base.free b o e n hx)
 ·obtain⟨sl,e1⟩:=I.base.slot b o e n hb hx
  obtain⟨sl',e2⟩:=slot b _ (neL b o e) hb (neC b o e hx) e1 (I.base.free b o e n hx)
  exact⟨sl',e2⟩
 ·obtain⟨o',e1⟩:=I.base.there b o e hx
  exact free b o' (neC b o e hx) e1 (I.base.free b o e n hx)
 ·obtain⟨o',e1⟩:=I.base.there b o e hx
  exact there b o' (neC b o e hx) e1
 ·obtain⟨m1,e1⟩:=I.base.tbls b ps e
  obtain⟨m2,e2⟩:=tbls b _ e1
  exact⟨m1++m2,by rw [e2,Array.append_assoc]⟩
 ·obtain⟨m,hn,hl⟩:=I.loc
  refine⟨m,ns m hn,λi x v e1 e2 e3=>?_⟩
  obtain⟨u,r,l⟩:=hl i x v e1 e2 e3
  refine⟨u,r,?_⟩
  rcases l with l | ⟨k,c,e,z⟩
  ·exact .inl l
  ·exact .inr ⟨k,c,e,cellK x c e _ z⟩
 ·obtain⟨v,z⟩:=I.cell x c e
  exact⟨v,cellK x c e v z⟩
 ·obtain⟨m,⟨o,_,_,ho,_⟩,_⟩:=I.loc
  exact free _ o (λz=>(hch _ z).2.1 rfl) ho I.free
 ·obtain⟨v,o,ho,hd⟩:=I.cell x c e
  exact free c o (λz=>(hch c z).2.2.1 x c e rfl) ho (I.freeC x c e)
 ·obtain⟨e,n,ne,nf,d⟩:=I.pin p hp
  have nch:p.1 ∉ ch:=λz=>(hch p.1 z).2.2.2 p hp rfl
  exact⟨keep p.1 p.2 ne nf nch e n,free p.1 p.2 nch e n,ne,nf,d⟩
theorem Inv.un {t':Nat} (I:Inv X pins σ H s) (u:Un X.fs [] H H' s.heap h') (hok:HOk X.prog X.w H' h'):Inv X pins σ H' { s with heap:=h',toks:=t' }:=by
 obtain⟨m,⟨o,es,ep,ho,r⟩,_⟩:=id I.loc
 obtain⟨sl,hL⟩:=u.any ho I.free (by simp)
 exact I.step (g':=s.gens) (d':=s.drawn) (ch:=[]) (λ_ z=>nomatch z) (λb o _ hb _ e n=>u.keep b o e n hb (by simp)) (λb o _ hb _ e n=>u.slot b o e n hb (by simp)) (λb o _ e n=>u.free b o e n (by simp)) (λb o _ e=>u.there b o e (by simp)) u.tups u.frzs u.tbls (λm' hm=>by
  obtain⟨o',es',ep',ho',r'⟩:=hm
  rw [ho] at ho';cases ho'
  exact⟨_,es',ep',hL,r'⟩) hok I.bare
theorem Inv.call {g':Array GenState}{t':Nat}{d':Drawn}{ch:List Addr} (I:Inv X pins σ H s) (u:Un (frs X.stack) ch H H' s.heap h') (hok:HOk X.prog X.w H' h') (hg:AllBare g')
  (hch:∀ b ∈ ch,(b ∈ X.ex\/X.s₀.heap.objs.size<=b)/\b≠X.env.locals/\(∀ x c,X.env.cells.lookup x=some c->c≠b)/\∀ p ∈ X.pn++pins,p.1≠b) :
  Inv X pins σ H' { s with heap:=h',gens:=g',drawn:=d',toks:=t' }:=by
 obtain⟨m,⟨o,es,ep,ho,r⟩,_⟩:=id I.loc
 obtain⟨sl,hL⟩:=u.any ho I.free λz=>(hch _ z).2.1 rfl
 exact I.step (ch:=ch) hch (λb o hL hb hc e n=>u.keep b o e n (λz=>(List.mem_cons.mp (I.stkSub b z)).elim hL hb) hc) (λb o _ _ hc e n=>u.any e n hc) (λb o hc e n=>u.free b o e n hc) (λb o hc e=>u.there b o e hc) u.tups u.frzs u.tbls (λm' hm=>by
  obtain⟨o',es',ep',ho',r'⟩:=hm
  rw [ho] at ho';cases ho'
  exact⟨_,es',ep',hL,r'⟩) hok hg
theorem Inv.turned {t':Nat}{it:Addr} (I:Inv X pins σ H s) (k:∀ b o,b≠it->s.heap.get? b=some o->h'.get? b=some o) (hn:H it=none) (hL:it≠X.env.locals)
  (h1:it ∈ X.ex\/X.s₀.heap.objs.size<=it) (h2:∀ x c,X.env.cells.lookup x=some c->c≠it) (h3:∀ p ∈ X.pn++pins,p.1≠it):Inv X pins σ H { s with heap:=h',toks:=t' }:=by
 have nit:∀ b u,H b=some u->b≠it:=λb u e z=>by rw [z,hn] at e;cases e
 refine I.step (g':=s.gens) (d':=s.drawn) (ch:=[it]) (λb hb=>?_) (λb o _ _ hc e _=>k b o (λz=>hc (by simp [z])) e) (λb o _ _ hc e _=>⟨o.slots,k b o (λz=>hc (by simp [z])) e⟩) (λ_ _ _ _ n=>n)
  (λb o hc e=>⟨o,k b o (λz=>hc (by simp [z])) e⟩) (λ_ _ e=>e) (λ_ _ _ e=>e) (λb ps e=>⟨#[],by rw [e];simp⟩) (λm hm=>?_) (λb u e=>?_) I.bare
 ·have e:b=it:=by simpa using hb
  subst e
  exact⟨h1,hL,h2,h3⟩
 ·obtain⟨o,es,ep,ho,r⟩:=hm
  exact⟨o,es,ep,k _ o (Ne.symm hL) ho,r⟩
 ·refine (I.hok b u e).stay (λc v hc q=>k c v ?_ q) (λ_ q=>q) λ_ _ q=>q
  rcases hc with z | z
  ·rw [z];exact nit b u e
  ·exact nit c _ z
theorem Inv.tok (I:Inv X pins σ H s) (t:Nat):Inv X pins σ H { s with toks:=t }:=I.un (h':=s.heap) (t':=t) Un.refl I.hok
theorem Inv.kept {t':Nat} (I:Inv X pins σ H s) (k:∀ b u,s.heap.get? b=some u->h'.get? b=some u):Inv X pins σ H { s with heap:=h',toks:=t' }:=I.un (Un.kept k) (I.hok.kept k)
theorem Inv.laid {a:Addr}{o:HO}{t':Nat} (I:Inv X pins σ H s) (k:∀ b u,s.heap.get? b=some u->h'.get? b=some u) (hp:s.heap.objs.size<=a) (new:bL X.prog X.w (upd H a o) h' a o) :
  Inv X pins σ (upd H a o) { s with heap:=h',toks:=t' }:=I.un (Un.laid k hp (I.hok.fresh hp)) (I.hok.laid k hp new)
theorem Inv.write {x e:Addr}{o:HO}{t':Nat} (I:Inv X pins σ H s) (mu:Mut (H x)) (he:e=x\/H e=some (.own x)) (k:∀ b u,b≠e->s.heap.get? b=some u->h'.get? b=some u) (heo:∃ u,h'.get? e=some u)
  (new:bL X.prog X.w (upd H x o) h' x o):Inv X pins σ (upd H x o) { s with heap:=h',toks:=t' }:=I.un (Un.write mu he k heo) (I.hok.write mu he k heo new)
theorem Inv.weak {σ':List (Option V)} (I:Inv X pins σ H s) (hl:σ'.length=σ.length) (w:∀ (i:Nat) v,σ'[i]?=some (some v)->σ[i]?=some (some v)):Inv X pins σ' H s:=
 ⟨I.ok,I.os,I.bare,I.base,let ⟨m,hn,hl'⟩:=I.loc;⟨m,hn,λi x v e1 e2 e3=>hl' i x v e1 (w i v e2) e3⟩,I.cell,I.free,I.freeC,I.pin,I.hok,hl.trans I.len⟩
theorem Inv.pins_of {pins':List (Addr×Obj)} (I:Inv X pins σ H s) (h:∀ p ∈ pins',s.heap.get? p.1=some p.2/\H p.1=none/\p.1≠X.env.locals/\p.1 ∉ X.fs/\∀ v,p.2.data≠.cell v):Inv X pins' σ H s:=
 ⟨I.ok,I.os,I.bare,I.base,I.loc,I.cell,I.free,I.freeC,λp hp=>(List.mem_append.mp hp).elim (λz=>I.pin p (List.mem_append_left _ z)) (h p),I.hok,I.len⟩
theorem nr {N:List Str} (hN:N.Nodup) {i j:Nat}{x:Str} (a:N[i]?=some x) (b:N[j]?=some x):i=j:=by
 obtain⟨h1,e1⟩:=List.getElem?_eq_some_iff.mp a
 obtain⟨h2,e2⟩:=List.getElem?_eq_some_iff.mp b
 exact (List.getElem_inj hN).mp (e1.trans e2.symm)
theorem qo {M:Model}{A:Around}{E:Value->Shared->Prop}{i:Nat}{x:Str}{v:V}{u:Value}{Q:Unit->Shared->Prop} (I:Inv X pins σ H s) (hN:X.N.Nodup) (hi:X.N[i]?=some x) (hx:Loc X.env.scope x) (r:aQ v u)
  (h:∀ s',Inv X pins (σ.set i (some v)) H s'->(∃ a,Heap.SameBut a s.heap s'.heap/\(a=X.env.locals\/X.env.cells.lookup x=some a))->Q () s') (hf:X.fn x=true\/X.env.scope.names.lookup x=some .local:=by first | exact .inl rfl | exact .inr rfl | assumption):wpAny M A (storeName X.env x u) Q E s:=by
 obtain⟨m,hn,hl⟩:=id I.loc
 have hcls:(X.env.scope.kind==.class || (X.env.scope.kind==.module && X.env.locals != X.env.globals))=false:=by rw [I.ok.kind];rfl
 have hiσ:i < σ.length:=by rw [I.len];exact (List.getElem?_eq_some_iff.mp hi).1
 have cne:=I.cne
 have tracked:∀ {a:Addr}{h':Heap},(∃ o,s.heap.get? a=some o/\H a=none)->Heap.SameBut a s.heap h'->HOk X.prog X.w H h':=λ{a h'} ha hs b ob e=>by
  obtain⟨_,_,hfree⟩:=ha
  refine (I.hok b ob e).stay (λc w' hc q=>(hs.2 c ?_).trans q) (λ_ q=>q) λ_ _ q=>q
  rintro rfl
  rcases hc with rfl | hc
  ·rw [hfree] at e;cases e
  ·rw [hfree] at hc;cases hc
 rcases hx with hk | hk
 ·refine wpAny_storeName_local hk hn (λh' hn' hs=>?_) hcls
  obtain⟨oL,_,_,hoL,_⟩:=id hn
  refine h _ ⟨I.ok,I.os,I.bare,⟨λb o e n hb hx=>?_,λb o e n hb hx=>?_,I.base.free,λb o e hx=>?_,I.base.tups,I.base.frzs,I.base.tbls⟩,⟨_,hn',λj y v' e1 e2 e3=>?_⟩,λy c e=>?_,I.free,I.freeC,λp hp=>?_,tracked ⟨oL,hoL,I.free⟩ hs,by simpa using I.len⟩ ⟨_,hs,.inl rfl⟩
  ·exact (hs.2 b (Nat.ne_of_lt (Nat.lt_of_lt_of_le (Heap.lt_size e) I.ok.above))).trans (I.base.keep b o e n hb hx)
  ·obtain⟨sl,e1⟩:=I.base.slot b o e n hb hx
   exact⟨sl,(hs.2 b (Nat.ne_of_lt (Nat.lt_of_lt_of_le (Heap.lt_size e) I.ok.above))).trans e1⟩
  ·obtain⟨o',e1⟩:=I.base.there b o e hx
   exact⟨o',(hs.2 b (Nat.ne_of_lt (Nat.lt_of_lt_of_le (Heap.lt_size e) I.ok.above))).trans e1⟩
  ·by_cases hj:j=i
   ·subst hj
    rw [hi] at e1;cases e1
    rw [List.getElem?_set_self hiσ] at e2
    cases e2
    exact⟨u,r,.inl ⟨hk,by simp⟩⟩
   ·rw [List.getElem?_set_ne (Ne.symm hj)] at e2
    obtain⟨u',r',q⟩:=hl j y v' e1 e2 e3
    refine⟨u',r',?_⟩
    rcases q with⟨k,e⟩ | ⟨k,c,e,z⟩
    ·refine .inl ⟨k,?_⟩
     have:y≠x:=λe=>hj (nr hN e1 (e ▸ hi))
     simp [this,e]
    ·exact .inr ⟨k,c,e,z.sameBut hs (cne y c e)⟩
  ·obtain⟨w',z⟩:=I.cell y c e
   exact⟨w',z.sameBut hs (cne y c e)⟩
  ·obtain⟨e,n,ne,nf,d⟩:=I.pin p hp
   exact⟨(hs.2 p.1 ne).trans e,n,ne,nf,d⟩
 ·have hfn:X.fn x=true:=by
   rcases hf with z | z
   ·exact z
   ·rw [z] at hk;cases hk
  obtain⟨c,hc⟩:=I.ok.has x (.inl hk)
  obtain⟨w',z⟩:=I.cell x c hc
  refine wpAny_storeName_cell I.ok.kind hk hc z (λh' hc' hs=>?_)
  obtain⟨oc,hoc,hocd⟩:=id z
  refine h { s with heap:=h' } ⟨I.ok,I.os,I.bare,⟨λb o e n hb hx=>?_,λb o e n hb hx=>?_,I.base.free,λb o e hx=>?_,I.base.tups,I.base.frzs,I.base.tbls⟩,⟨m,hn.sameBut hs (Ne.symm (cne x c hc)),λj y v' e1 e2 e3=>?_⟩,λy c' e=>?_,I.free,I.freeC,λp hp=>?_,tracked ⟨oc,hoc,I.freeC x c hc⟩ hs,by simpa using I.len⟩ ⟨c,hs,.inr hc⟩
  ·exact (hs.2 b (Nat.ne_of_lt (Nat.lt_of_lt_of_le (Heap.lt_size e) (I.ok.cab x c hfn hc)))).trans (I.base.keep b o e n hb hx)
  ·obtain⟨sl,e1⟩:=I.base.slot b o e n hb hx
   exact⟨sl,(hs.2 b (Nat.ne_of_lt (Nat.lt_of_lt_of_le (Heap.lt_size e) (I.ok.cab x c hfn hc)))).trans e1⟩
  ·obtain⟨o',e1⟩:=I.base.there b o e hx
   exact⟨o',(hs.2 b (Nat.ne_of_lt (Nat.lt_of_lt_of_le (Heap.lt_size e) (I.ok.cab x c hfn hc)))).trans e1⟩
  ·by_cases hj:j=i
   ·subst hj
    rw [hi] at e1;cases e1
    rw [List.getElem?_set_self hiσ] at e2
    cases e2
    exact⟨u,r,.inr ⟨.inl hk,c,hc,hc'⟩⟩
   ·rw [List.getElem?_set_ne (Ne.symm hj)] at e2
    obtain⟨u',r',q⟩:=hl j y v' e1 e2 e3
    refine⟨u',r',?_⟩
    rcases q with q | ⟨k,c',e,z'⟩
    ·exact .inl q
    ·refine .inr ⟨k,c',e,z'.sameBut hs ?_⟩
     rintro rfl
     exact hj (nr hN e1 (I.ok.inj _ _ _ e hc ▸ hi))
  ·by_cases hcc:c'=c
   ·subst hcc;exact⟨_,hc'⟩
   ·obtain⟨w2,z2⟩:=I.cell y c' e
    exact⟨w2,z2.sameBut hs hcc⟩
  ·obtain⟨e,n,ne,nf,d⟩:=I.pin p hp
   refine⟨(hs.2 p.1 ?_).trans e,n,ne,nf,d⟩
   intro q
   rw [q,hoc] at e
   have q':oc=p.2:=Option.some.inj e
   exact d w' (by rw [<-q'];exact hocd)
theorem iO {M:Model}{A:Around}{E:Value->Shared->Prop}{i:Nat}{x:Str}{v:V}{u:Value}{Q:Unit->Shared->Prop} (I:Inv X pins σ H s) (hN:X.N.Nodup) (hi:X.N[i]?=some x) (hx:Loc X.env.scope x) (r:aQ v u)
  (h:∀ s',Inv X pins (σ.set i (some v)) H s'->Q () s') (hf:X.fn x=true\/X.env.scope.names.lookup x=some .local:=by first | exact .inl rfl | exact .inr rfl | assumption):wpAny M A (storeName X.env x u) Q E s:=
 qo I hN hi hx r (λs' I' _=>h s' I') hf
theorem Inv.call' {s':Shared}{ch:List Addr} (I:Inv X pins σ H s) (ho:s'.os=s.os) (u:Un (frs X.stack) ch H H' s.heap s'.heap) (hok:HOk X.prog X.w H' s'.heap) (hg:AllBare s'.gens)
  (hch:∀ b ∈ ch,(b ∈ X.ex\/X.s₀.heap.objs.size<=b)/\b≠X.env.locals/\(∀ x c,X.env.cells.lookup x=some c->c≠b)/\∀ p ∈ X.pn++pins,p.1≠b):Inv X pins σ H' s':=by
 obtain⟨h',g',d',t',o'⟩:=s'
 have e:o'=s.os:=ho
 subst e
 exact I.call (g':=g') (t':=t') (d':=d') u hok hg hch
end
abbrev XK:=Value->Option Addr->Hp->Prop
abbrev St:=List (Option V)
abbrev VK:=V->Hp->Prop
abbrev TE:=St->Hp->VK->Prop
abbrev TT:=St->Hp->(Bool->Hp->Prop)->Prop
abbrev TA:=St->Hp->(List V->Hp->Prop)->Prop
structure mO where
 nx:St->Hp->Prop
 rt:VK
 bk:St->Hp->Prop:=λ_ _=>False
 ct:St->Hp->Prop:=λ_ _=>False
abbrev TS:=mO->St->Hp->Prop
noncomputable def EP (X:Cx) (pins:List (Addr×Obj)) (σ:St) (Q:VK) (u:Value) (s':Shared):Prop:=∃ v H',Inv X pins σ H' s'/\aQ v u/\Q v H'
noncomputable def TP (X:Cx) (pins:List (Addr×Obj)) (σ:St) (Q:Bool->Hp->Prop) (b:Bool) (s':Shared):Prop:=∃ H',Inv X pins σ H' s'/\Q b H'
noncomputable def AP (X:Cx) (pins:List (Addr×Obj)) (σ:St) (Q:List V->Hp->Prop) (us:List Value) (s':Shared):Prop:=∃ vs H',Inv X pins σ H' s'/\aN vs us/\Q vs H'
noncomputable def SP (X:Cx) (pins:List (Addr×Obj)) (D:mO) (f:Flow) (s':Shared):Prop:=
 match f with
 | .next=>∃ σ' H',Inv X pins σ' H' s'/\D.nx σ' H'
 | .brk=>∃ σ' H',Inv X pins σ' H' s'/\D.bk σ' H'
 | .cont=>∃ σ' H',Inv X pins σ' H' s'/\D.ct σ' H'
 | .ret u=>∃ v σ' H',Inv X pins σ' H' s'/\aQ v u/\D.rt v H'
noncomputable def PE (X:Cx) (e:Expr) (t:TE):Prop:=
 ∀ (pins:List (Addr×Obj)) (s:Shared) (σ:St) (H:Hp) (Q:VK),Inv X pins σ H s->t σ H Q->wpAny (model X.prog X.w) X.A (eval e X.env) (EP X pins σ Q) X.xe s
noncomputable def PT (X:Cx) (e:Expr) (t:TT):Prop:=
 ∀ (pins:List (Addr×Obj)) (s:Shared) (σ:St) (H:Hp) (Q:Bool->Hp->Prop),Inv X pins σ H s->t σ H Q->wpAny (model X.prog X.w) X.A (isTrue e X.env (eval e X.env)) (TP X pins σ Q) X.xe s
noncomputable def PW (X:Cx) (e:Expr) (t:TT):Prop:=
 ∀ (whole:Sem Value) (pins:List (Addr×Obj)) (s:Shared) (σ:St) (H:Hp) (Q:Bool->Hp->Prop),Inv X pins σ H s->t σ H Q->wpAny (model X.prog X.w) X.A (isTrue e X.env whole) (TP X pins σ Q) X.xe s
theorem PW.pt {X:Cx}{e:Expr}{t:TT} (h:PW X e t):PT X e t:=h _
noncomputable def PA (X:Cx) (es:List Expr) (t:TA):Prop:=
 ∀ (pos:Pos) (pins:List (Addr×Obj)) (s:Shared) (σ:St) (H:Hp) (Q:List V->Hp->Prop),Inv X pins σ H s->t σ H Q->wpAny (model X.prog X.w) X.A (spliced (backTo pos (starEach es X.env))) (AP X pins σ Q) X.xe s
noncomputable def PS (X:Cx) (st:Stmt) (t:TS):Prop:=
 ∀ (pins:List (Addr×Obj)) (s:Shared) (σ:St) (H:Hp) (D:mO),Inv X pins σ H s->t D σ H->wpAny (model X.prog X.w) X.A (exec st X.env) (SP X pins D) X.xe s
noncomputable def PSs (X:Cx) (st:List Stmt) (t:TS):Prop:=
 ∀ (pins:List (Addr×Obj)) (s:Shared) (σ:St) (H:Hp) (D:mO),Inv X pins σ H s->t D σ H->wpAny (model X.prog X.w) X.A (execs st X.env) (SP X pins D) X.xe s
theorem thn {α:Type}{t:Sem α}{Q Q':α->Shared->Prop}{M:Model}{A:Around}{E:Value->Shared->Prop}{s:Shared} (h:wpAny M A t Q E s) (hQ:∀ a s,Q a s->Q' a s):wpAny M A t Q' E s:=wpAny_mono h hQ λ_ _ x=>x
end L2
namespace L2
open PySem PySem.Spec PyProof.Rows
section
variable {X:Cx}
theorem bin {a b:Expr}{ta tb:TE} (ha:PE X a ta) (hb:PE X b tb) {pins:List (Addr×Obj)}{s:Shared}{σ:St}{H:Hp}{R:V->V->Hp->Prop} (I:Inv X pins σ H s) (h:ta σ H λx H1=>tb σ H1 λy H2=>R x y H2)
  {α:Type}{Q:α->Shared->Prop}{f:Value->Value->Sem α}
  (hf:∀ v u s2 x y H2,Inv X pins σ H2 s2->aQ x v->aQ y u->R x y H2->wpAny (model X.prog X.w) X.A (f v u) Q X.xe s2) :
  wpAny (model X.prog X.w) X.A (eval a X.env) (λv s₁=>wpAny (model X.prog X.w) X.A (eval b X.env) (λu s₂=>wpAny (model X.prog X.w) X.A (f v u) Q X.xe s₂) X.xe s₁) X.xe s:=by
 refine thn (ha pins s σ H _ I h) λv s1 ⟨x,H1,I1,r1,q1⟩=>?_
 refine thn (hb pins s1 σ H1 _ I1 q1) λu s2 ⟨y,H2,I2,r2,q2⟩=>?_
 exact hf v u s2 x y H2 I2 r1 r2 q2
noncomputable def qp (i:Nat):TE:=λσ H Q=>∃ v,σ[i]?=some (some v)/\Q v H
noncomputable def tC (v:V):TE:=λ_ H Q=>Q v H
theorem kB {i:Nat}{x:Str}{pos:Pos} (hN:X.N[i]?=some x) (hv:Vis X.env.scope x) (hd:(x==("__debug__" : Str))=false:=by decide) (hcd:(x==("__classdict__" : Str))=false:=by decide):PE X (.Name x pos) (qp i):=by
 intro pins s σ H Q I h
 obtain⟨v,e,h⟩:=h
 obtain⟨m,hn,hl⟩:=I.loc
 obtain⟨u,r,l⟩:=hl i x v hN e hv
 have fin:EP X pins σ Q u s:=⟨v,H,I,r,h⟩
 rcases l with⟨hk,hm⟩ | ⟨hk,c,hc,hcell⟩
 ·exact wpAny_Name (wpAny_loadName_local I.ok.kind hk hn hm fin) hd
 ·rcases hk with hk | hk
  ·exact wpAny_Name (wpAny_loadName_cell I.ok.kind hk hc hcell fin) hd
  ·exact wpAny_Name (wpAny_loadName_free I.ok.kind hk hc hcell fin hcd) hd
theorem vE {i j pos}:PE X (.Constant (.int i) j pos) (tC (.int i)):=λ_ _ _ H _ I h=>wpAny_Constant_int ⟨.int i,H,I.tok _,⟨_,rfl⟩,h⟩
theorem wS {b j pos}:PE X (.Constant (.bool b) j pos) (tC (.bl b)):=λ_ _ _ H _ I h=>Constant_bool ⟨.bl b,H,I,rfl,h⟩
theorem vF {j pos}:PE X (.Constant .none j pos) (tC .non):=λ_ _ _ H _ I h=>Constant_none ⟨.non,H,I,rfl,h⟩
theorem rF {x j pos}:PE X (.Constant (.str x) j pos) (tC (.str x)):=λ_ _ _ H _ I h=>Calls.Constant_str ⟨.str x,H,I.tok _,⟨_,rfl⟩,h⟩
noncomputable def Gl (X:Cx) (x:Str):Prop:=X.env.kindOf x=some .globalImplicit
theorem jG {E:Value->Shared->Prop}{pins:List (Addr×Obj)}{s:Shared}{σ:St}{H:Hp}{x:Str}{u:Value}{pos:Pos}{Q:Value->Shared->Prop} (I:Inv X pins σ H s) (hg:Gl X x) (hm:X.mg x=some u) (h:Q u s)
  (hd:(x==("__debug__" : Str))=false:=by decide):wpAny (model X.prog X.w) X.A (eval (.Name x pos) X.env) Q E s:=
 Calls.Name_function_global I.ok.kind hg (Calls.loadGlobal_global (by rw [I.ok.glob];exact I.mod.glob.keeps I.bk) hm h) hd
theorem ig {E:Value->Shared->Prop}{pins:List (Addr×Obj)}{s:Shared}{σ:St}{H:Hp}{x:Str}{u:Value}{pos:Pos}{Q:Value->Shared->Prop} (I:Inv X pins σ H s) (hg:Gl X x) (hm:X.mg x=none) (hv:bootBuiltins x=some u) (h:Q u s)
  (hn:x≠"__name__":=by decide) (hd:(x==("__debug__" : Str))=false:=by decide):wpAny (model X.prog X.w) X.A (eval (.Name x pos) X.env) Q E s:=by
 obtain⟨mb,h1,h2⟩:=I.mod.blt
 exact Calls.Name_function_global I.ok.kind hg (Calls.loadGlobal_builtin (by rw [I.ok.glob];exact I.mod.glob.keeps I.bk) hm (by rw [I.ok.blt];exact h1.keeps I.bk) ((h2 x hn).trans hv) h) hd
theorem ms {x:Str}{v:V}{u:Value}{pos:Pos} (hg:Gl X x) (hm:X.mg x=some u) (r:aQ v u) (hd:(x==("__debug__" : Str))=false:=by decide):PE X (.Name x pos) (tC v):=
 λ_ _ _ H _ I h=>jG I hg hm ⟨v,H,I,r,h⟩ hd
theorem pp {x:Str}{v:V}{u:Value}{pos:Pos} (hg:Gl X x) (hm:X.mg x=none) (hv:bootBuiltins x=some u) (r:aQ v u) (hn:x≠"__name__":=by decide) (hd:(x==("__debug__" : Str))=false:=by decide):PE X (.Name x pos) (tC v):=
 λ_ _ _ H _ I h=>ig I hg hm hv ⟨v,H,I,r,h⟩ hn hd
variable {a b:Expr}{ta tb:TE}{pos:Pos}
noncomputable def tB (t:TE):TT:=λσ H Q=>t σ H λx H1=>∃ c,x=.bl c/\Q c H1
theorem rO {e:Expr}{t:TE} (h:PE X e t) (he:∀ whole,isTrue e X.env whole=(do let v <-whole;standAt e.pos;holding [v] (truthy v)):=by intro _;rfl):PT X e (tB t):=by
 intro pins s σ H Q I hw
 refine isTrue_plain (thn (h pins s σ H _ I hw) λv s1 ⟨x,H1,I1,r1,q1⟩=>?_) (he _)
 obtain⟨d,rfl,q⟩:=q1
 cases r1
 exact wpAny_truthy_bool ⟨H1,I1,q⟩
variable {tA tB':TT}{rest:List Expr}
noncomputable def xT (t u:TT):TT:=λσ H Q=>t σ H λc H1=>if c=true then u σ H1 Q else Q false H1
noncomputable def tOr (t u:TT):TT:=λσ H Q=>t σ H λc H1=>if c=true then Q true H1 else u σ H1 Q
noncomputable def xY (t:TT):TT:=λσ H Q=>t σ H λc H1=>Q (!c) H1
theorem ue (ha:PT X a tA):PW X (.BoolOp .And [a] pos) tA:=by
 intro wh pins s σ H Q I h
 refine isTrue_and (thn (ha pins s σ H Q I h) λc s1 e=>?_)
 cases c with
 | true=>exact isTrue_and_nil e
 | false=>exact e
theorem vS (ha:PT X a tA):PW X (.BoolOp .Or [a] pos) tA:=by
 intro wh pins s σ H Q I h
 refine isTrue_or (thn (ha pins s σ H Q I h) λc s1 e=>?_)
 cases c with
 | false=>exact isTrue_or_nil e
 | true=>exact e
theorem vQ (ha:PT X a tA) (hb:PW X (.BoolOp .And (b::rest) pos) tB'):PW X (.BoolOp .And (a::b::rest) pos) (xT tA tB'):=by
 intro wh pins s σ H Q I h
 refine isTrue_and (thn (ha pins s σ H _ I h) λc s1 ⟨H1,I1,q1⟩=>?_)
 cases c with
 | true=>exact hb wh pins s1 σ H1 Q I1 q1
 | false=>exact⟨H1,I1,q1⟩
theorem uL (ha:PT X a tA) (hb:PW X (.BoolOp .Or (b::rest) pos) tB'):PW X (.BoolOp .Or (a::b::rest) pos) (tOr tA tB'):=by
 intro wh pins s σ H Q I h
 refine isTrue_or (thn (ha pins s σ H _ I h) λc s1 ⟨H1,I1,q1⟩=>?_)
 cases c with
 | true=>exact⟨H1,I1,q1⟩
 | false=>exact hb wh pins s1 σ H1 Q I1 q1
theorem rM (ha:PT X a tA):PT X (.UnaryOp .Not a pos) (xY tA):=by
 intro pins s σ H Q I h
 exact isTrue_not (ha pins s σ H (λc H1=>Q (!c) H1) I h)
noncomputable def xq (ta tb:TE):TE:=λσ H Q=>ta σ H λx H1=>∃ c,x=.bl c/\if c=true then tb σ H1 Q else Q (.bl false) H1
noncomputable def xZ (ta tb:TE):TE:=λσ H Q=>ta σ H λx H1=>∃ c,x=.bl c/\if c=true then Q (.bl true) H1 else tb σ H1 Q
noncomputable def xw (ta:TE):TE:=λσ H Q=>ta σ H λx H1=>∃ c,x=.bl c/\Q (.bl (!c)) H1
theorem rE {op}{t:TE} (h:PE X a t):PE X (.BoolOp op [a] pos) t:=λpins s σ H Q I hw=>BoolOp_one (h pins s σ H Q I hw)
theorem rA (ha:PE X a ta) (hb:PE X (.BoolOp .And (b::rest) pos) tb):PE X (.BoolOp .And (a::b::rest) pos) (xq ta tb):=by
 intro pins s σ H Q I h
 refine BoolOp_and (thn (ha pins s σ H _ I h) λv s1 ⟨x,H1,I1,r1,q1⟩=>?_)
 obtain⟨c,rfl,q1⟩:=q1
 cases r1
 refine wpAny_truthy_bool ?_
 cases c with
 | true=>exact hb pins s1 σ H1 Q I1 q1
 | false=>exact⟨.bl false,H1,I1,rfl,q1⟩
theorem uK (ha:PE X a ta) (hb:PE X (.BoolOp .Or (b::rest) pos) tb):PE X (.BoolOp .Or (a::b::rest) pos) (xZ ta tb):=by
 intro pins s σ H Q I h
 refine BoolOp_or (thn (ha pins s σ H _ I h) λv s1 ⟨x,H1,I1,r1,q1⟩=>?_)
 obtain⟨c,rfl,q1⟩:=q1
 cases r1
 refine wpAny_truthy_bool ?_
 cases c with
 | false=>exact hb pins s1 σ H1 Q I1 q1
 | true=>exact⟨.bl true,H1,I1,rfl,q1⟩
theorem rC (ha:PE X a ta):PE X (.UnaryOp .Not a pos) (xw ta):=by
 intro pins s σ H Q I h
 refine UnaryOp_ (thn (ha pins s σ H _ I h) λv s1 ⟨x,H1,I1,r1,q1⟩=>?_)
 obtain⟨c,rfl,q1⟩:=q1
 cases r1
 exact not_of (wpAny_truthy_bool ⟨.bl (!c),H1,I1,rfl,q1⟩)
noncomputable def tIf (t:TT) (ta tb:TE):TE:=λσ H Q=>t σ H λc H1=>if c=true then ta σ H1 Q else tb σ H1 Q
theorem nA {c:Expr} (hc:PT X c tA) (ha:PE X a ta) (hb:PE X b tb):PE X (.IfExp c a b pos) (tIf tA ta tb):=by
 intro pins s σ H Q I h
 refine wpAny_IfExp (thn (hc pins s σ H _ I h) λd s1 ⟨H1,I1,q1⟩=>?_)
 cases d with
 | true=>exact ha pins s1 σ H1 Q I1 q1
 | false=>exact hb pins s1 σ H1 Q I1 q1
end
end L2
namespace L2
open PySem PySem.Spec PyProof.Rows
noncomputable def SqL (K:PySem.W.Frag) (H:Hp) (a:Addr) (xs:List V):Prop:=
 Rd H a (.lst xs)\/
  ∃ (o:Obj) (its:Array Value) (n:Nat),K.lookup a=some o/\o.cls=.type "list"/\o.dict=none/\o.data=.seq its n/\its.size<=sizeLine/\aN xs its.toList
noncomputable def SqT (K:PySem.W.Frag) (H:Hp) (a:Addr) (xs:List V):Prop:=
 H a=some (.tup xs)\/
  ∃ (o:Obj) (its:Array Value) (n:Nat),K.lookup a=some o/\o.cls=.type "tuple"/\o.data=.seq its n/\its.size<=sizeLine/\aN xs its.toList/\o.dict=none
noncomputable def xH:Value->Option V
 | .none=>some .non
 | .bool b=>some (.bl b)
 | .int i _=>some (.int i)
 | .str x _=>some (.str x)
 | .bytes b _=>some (.byt b)
 | .float b _=>some (.flt b)
 | .ref a=>some (.ref a)
 | .type n=>some (.ty n)
 | _=>none
theorem aQ.abs {x:V}{u:Value} (r:aQ x u):xH u=some x:=by
 cases x with
 | non=>cases r;rfl
 | bl _=>cases r;rfl
 | int _=>obtain⟨t,rfl⟩:=r;rfl
 | str _=>obtain⟨t,rfl⟩:=r;rfl
 | byt _=>obtain⟨t,rfl⟩:=r;rfl
 | flt _=>obtain⟨t,rfl⟩:=r;rfl
 | ref _=>cases r;rfl
 | ty _=>cases r;rfl
theorem aQ.inj {x y:V}{u:Value} (r:aQ x u) (q:aQ y u):x=y:=Option.some.inj (r.abs.symm.trans q.abs)
theorem aN.inj:∀ {xs ys:List V}{us:List Value},aN xs us->aN ys us->xs=ys
 | _,_,_,.nil,.nil=>rfl
 | _,_,_,.cons r t,.cons r' t'=>by rw [r.inj r',aN.inj t t']
section
variable {X:Cx}{pins:List (Addr×Obj)}{σ:St}{H:Hp}{s:Shared}{a:Addr}{xs ys:List V}
theorem SqL.of {K:PySem.W.Frag} (h:H a=some (.lst xs)):SqL K H a xs:=.inl (.inl h)
theorem SqT.of {K:PySem.W.Frag} (h:H a=some (.tup xs)):SqT K H a xs:=.inl h
theorem Inv.list (I:Inv X pins σ H s) (h:SqL X.K H a xs):∃ its:List Value,aN xs its/\PlainL s.heap a its.toArray/\xs.length<=sizeLine:=by
 rcases h with h | ⟨o,its,n,hk,hc,hd,hs,hz,r⟩
 ·obtain⟨z,its,n,r,e⟩:=h.ok I.hok
  exact⟨its,r,⟨_,n,e,rfl,rfl,rfl⟩,z⟩
 ·refine⟨its.toList,r,⟨o,n,I.kIn a o hk,hc,hd,by simpa using hs⟩,?_⟩
  have e:=r.length
  simp only [Array.length_toList] at e
  lia
theorem Inv.tuple (I:Inv X pins σ H s) (h:SqT X.K H a xs):∃ its:List Value,aN xs its/\IsTup s.heap a its.toArray/\xs.length<=sizeLine:=by
 rcases h with h | ⟨o,its,n,hk,hc,hs,hz,r,_⟩
 ·obtain⟨z,its,r,p⟩:=(Rd.of h).ok I.hok
  exact⟨its,r,p.tup,z⟩
 ·refine⟨its.toList,r,⟨o,I.kIn a o hk,hc,n,by simpa using hs⟩,?_⟩
  have e:=r.length
  simp only [Array.length_toList] at e
  lia
theorem Inv.list_inj (I:Inv X pins σ H s) (h:SqL X.K H a xs) (h':SqL X.K H a ys):xs=ys:=by
 obtain⟨its,r,⟨o,n,e,_,_,d⟩,_⟩:=I.list h
 obtain⟨its',r',⟨o',n',e',_,_,d'⟩,_⟩:=I.list h'
 rw [e] at e';cases e'
 rw [d] at d'
 injection d' with d1 _
 have:its=its':=by simpa using congrArg Array.toList d1
 subst this
 exact r.inj r'
theorem Inv.tuple_inj (I:Inv X pins σ H s) (h:SqT X.K H a xs) (h':SqT X.K H a ys):xs=ys:=by
 obtain⟨its,r,⟨o,e,_,n,d⟩,_⟩:=I.tuple h
 obtain⟨its',r',⟨o',e',_,n',d'⟩,_⟩:=I.tuple h'
 rw [e] at e';cases e'
 rw [d] at d'
 injection d' with d1 _
 have:its=its':=by simpa using congrArg Array.toList d1
 subst this
 exact r.inj r'
end
abbrev Cx.wish (X:Cx) (E:Value->Shared->Prop):Cx:={ X with xe:=E }
abbrev Cx.nox (X:Cx):Cx:=X.wish λ_ _=>False
theorem Cx.Ok.wish {X:Cx} (ok:X.Ok) (E:Value->Shared->Prop):(X.wish E).Ok:=
 ⟨ok.mod,ok.kind,ok.glob,ok.blt,ok.above,ok.inj,ok.has,ok.cab,ok.hd,ok.frames,ok.stk,ok.exf,ok.bs,ok.bsz,ok.noex,ok.exfs,ok.funs,ok.frf⟩
theorem Cx.Ok.unwish {X:Cx}{E:Value->Shared->Prop} (ok:(X.wish E).Ok):X.Ok:=
 ⟨ok.mod,ok.kind,ok.glob,ok.blt,ok.above,ok.inj,ok.has,ok.cab,ok.hd,ok.frames,ok.stk,ok.exf,ok.bs,ok.bsz,ok.noex,ok.exfs,ok.funs,ok.frf⟩
section
variable {X:Cx}{pins:List (Addr×Obj)}{σ:St}{H:Hp}{s:Shared}{E:Value->Shared->Prop}
theorem Inv.wish (I:Inv X pins σ H s) (E:Value->Shared->Prop):Inv (X.wish E) pins σ H s:=⟨I.ok.wish E,I.os,I.bare,I.base,I.loc,I.cell,I.free,I.freeC,I.pin,I.hok,I.len⟩
theorem Inv.unwish (I:Inv (X.wish E) pins σ H s):Inv X pins σ H s:=⟨I.ok.unwish,I.os,I.bare,I.base,I.loc,I.cell,I.free,I.freeC,I.pin,I.hok,I.len⟩
theorem SP.unwish {D:mO}{f:Flow}{s':Shared} (h:SP (X.wish E) pins D f s'):SP X pins D f s':=by
 cases f with
 | next=>obtain⟨σ',H',I,q⟩:=h;exact⟨σ',H',I.unwish,q⟩
 | brk=>obtain⟨σ',H',I,q⟩:=h;exact⟨σ',H',I.unwish,q⟩
 | cont=>obtain⟨σ',H',I,q⟩:=h;exact⟨σ',H',I.unwish,q⟩
 | ret u=>obtain⟨v,σ',H',I,r,q⟩:=h;exact⟨v,σ',H',I.unwish,r,q⟩
theorem PT.nox {e:Expr}{t:TT} (h:PT X.nox e t):PT X e t:=λpins s σ H Q I hw=>
 wpAny_mono (h pins s σ H Q (I.wish _) hw) (λ_ _ ⟨H',I',q⟩=>⟨H',I'.unwish,q⟩) λ_ _ z=>False.elim z
theorem PSs.nox {st:List Stmt}{t:TS} (h:PSs X.nox st t):PSs X st t:=λpins s σ H D I hw=>
 wpAny_mono (h pins s σ H D (I.wish _) hw) (λ_ _ q=>q.unwish) λ_ _ z=>False.elim z
end
section
variable {X:Cx}{st:Stmt}{rest:List Stmt}{t u:TS}{e:Expr}{te:TE}{pos:Pos}
noncomputable def xv:TS:=λD σ H=>D.nx σ H
noncomputable def x8 (t u:TS):TS:=λD σ H=>t { D with nx:=u D } σ H
theorem pu:PSs X [] xv:=λ_ _ σ H _ I h=>wpAny_execs_nil ⟨σ,H,I,h⟩
theorem dB (h1:PS X st t) (h2:PSs X rest u):PSs X (st::rest) (x8 t u):=by
 intro pins s σ H D I h
 refine wpAny_execs_cons (thn (h1 pins s σ H { D with nx:=u D } I h) λf s1 q=>?_)
 cases f with
 | next=>
  obtain⟨σ',H',I',q⟩:=q
  exact h2 pins s1 σ' H' D I' q
 | ret v=>exact q
 | brk=>exact q
 | cont=>exact q
theorem iK (h1:PS X st t):PSs X [st] t:=by
 intro pins s σ H D I h
 refine wpAny_execs_cons (thn (h1 pins s σ H D I h) λf s1 q=>?_)
 cases f with
 | next=>exact wpAny_execs_nil q
 | ret v=>exact q
 | brk=>exact q
 | cont=>exact q
noncomputable def x6 (te:TE):TS:=λD σ H=>te σ H D.rt
theorem vO (he:PE X e te):PS X (.Return (some e) pos) (x6 te):=by
 intro pins s σ H D I h
 exact wpAny_Return_some (thn (he pins s σ H _ I h) λv s1 ⟨x,H1,I1,r1,q1⟩=>⟨x,σ,H1,I1,r1,q1⟩)
noncomputable def xV (c:TT) (t u:TS):TS:=λD σ H=>c σ H λb H1=>if b=true then t D σ H1 else u D σ H1
theorem nD {c:Expr}{a b:List Stmt}{tc:TT} (hc:PT X c tc) (ha:PSs X a t) (hb:PSs X b u):PS X (.If c a b pos) (xV tc t u):=by
 intro pins s σ H D I h
 refine wpAny_If (thn (hc pins s σ H _ I h) λd s1 ⟨H1,I1,q1⟩=>?_)
 cases d with
 | true=>exact ha pins s1 σ H1 D I1 q1
 | false=>exact hb pins s1 σ H1 D I1 q1
noncomputable def wa:TS:=λ_ _ _=>False
theorem cO {sts:List Stmt}:PSs X sts wa:=λ_ _ _ _ _ _ h=>h.elim
end
abbrev TG:=V->St->Hp->(St->Hp->Prop)->Prop
abbrev TGs:=List V->St->Hp->(St->Hp->Prop)->Prop
noncomputable def PG (X:Cx) (target:Expr) (t:TG):Prop:=
 ∀ (pins:List (Addr×Obj)) (s:Shared) (σ:St) (H:Hp) (v:V) (u:Value) (Q:St->Hp->Prop),Inv X pins σ H s->aQ v u->t v σ H Q->
  wpAny (model X.prog X.w) X.A (assign target X.env u) (λ_ s'=>∃ σ' H',Inv X pins σ' H' s'/\Q σ' H') X.xe s
noncomputable def PGs (X:Cx) (ts:List Expr) (t:TGs):Prop:=
 ∀ (pins:List (Addr×Obj)) (s:Shared) (σ:St) (H:Hp) (vs:List V) (us:List Value) (Q:St->Hp->Prop),Inv X pins σ H s->aN vs us->t vs σ H Q->
  wpAny (model X.prog X.w) X.A (assignInOrder ((assignEach ts X.env).map (·.2)) us) (λ_ s'=>∃ σ' H',Inv X pins σ' H' s'/\Q σ' H') X.xe s
abbrev uS:=V->V->V->Hp->(Hp->Prop)->Prop
noncomputable def wm (X:Cx) (t:uS):Prop:=
 ∀ (pins:List (Addr×Obj)) (s:Shared) (σ:St) (H:Hp) (o i v:V) (ov iv u:Value) (Q:Hp->Prop),Inv X pins σ H s->aQ o ov->aQ i iv->aQ v u->t o i v H Q->
  wpAny (model X.prog X.w) X.A (setItem ov iv u) (λ_ s'=>∃ H',Inv X pins σ H' s'/\Q H') X.xe s
section
variable {X:Cx}{pos:Pos}
noncomputable def mW (i:Nat):TG:=λv σ H Q=>Q (σ.set i (some v)) H
theorem aA {i:Nat}{x:Str} (hN:X.N.Nodup) (hi:X.N[i]?=some x) (hx:Loc X.env.scope x) (hf:X.fn x=true\/X.env.scope.names.lookup x=some .local:=by first | exact .inl rfl | exact .inr rfl | assumption):PG X (.Name x pos) (mW i):=by
 intro pins s σ H v u Q I r h
 exact wpAny_assign_Name (iO I hN hi hx r (λs' I'=>⟨_,H,I',h⟩) hf)
noncomputable def xL:TGs:=λvs σ H Q=>vs=[]/\Q σ H
noncomputable def wq (t:TG) (u:TGs):TGs:=λvs σ H Q=>∃ v r,vs=v::r/\t v σ H λσ' H'=>u r σ' H' Q
theorem t6:PGs X [] xL:=by
 intro pins s σ H vs us Q I r h
 obtain⟨e,h⟩:=h
 subst e
 cases r
 exact assignInOrder_nil ⟨σ,H,I,h⟩
theorem rG {e:Expr}{es:List Expr}{t:TG}{u:TGs} (h1:PG X e t) (h2:PGs X es u)
  (hs:(assignEach (e::es) X.env).map (·.2)=assign e X.env::(assignEach es X.env).map (·.2):=by rfl):PGs X (e::es) (wq t u):=by
 intro pins s σ H vs us Q I r h
 obtain⟨v,vr,e1,h⟩:=h
 subst e1
 cases r with
 | cons r rr=>
  rw [hs]
  refine assignInOrder_cons (thn (h1 pins s σ H _ _ _ I r h) λ_ s1 ⟨σ1,H1,I1,q1⟩=>?_)
  exact h2 pins s1 σ1 H1 _ _ Q I1 rr q1
noncomputable def xN (K:PySem.W.Frag) (n:Nat) (t:TGs):TG:=λv σ H Q=>∃ a xs,v=.ref a/\SqT K H a xs/\xs.length=n/\t xs σ H Q
theorem vK {es:List Expr}{k:Nat}{t:TGs}{n:Nat} (hc:X.calm=true) (h:PGs X es t)
  (hn:(assignEach es X.env).length=n:=by rfl) (hst:(assignEach es X.env).findIdx? (·.1)=none:=by rfl):PG X (.Tuple es k pos) (xN X.K n t):=by
 intro pins s σ H v u Q I r hw
 obtain⟨a,xs,e1,hq,hl,hw⟩:=hw
 subst e1
 cases r
 obtain⟨its,rv,ht,hz⟩:=I.tuple hq
 refine assign_Tuple_tuple (I.ok.hd hc) ht (by simp [hn,<-hl,rv.length]) hst λh' hx=>?_
 have I1:Inv X pins σ H { s with heap:=h' }:=I.kept (t':=s.toks) λb o e=>hx b o (Nat.ne_of_lt (Heap.lt_size e)) e
 exact h pins _ σ H xs _ Q I1 (by simpa using rv) hw
noncomputable def xM (to ti:TE) (t:uS):TG:=λv σ H Q=>to σ H λo H1=>ti σ H1 λi H2=>t o i v H2 λH3=>Q σ H3
theorem vJ {o i:Expr}{to ti:TE}{t:uS} (ho:PE X o to) (hi:PE X i ti) (hs:wm X t)
  (ha:∀ v,assign (.Subscript o i pos) X.env v=(do
    let ov <-holding [v] (eval o X.env)
    let iv <-holding [v,ov] (eval i X.env)
    standAt pos
    holding [v,ov,iv] (setItem ov iv v)
    release [v,ov,iv] []):=by intro _;rfl):PG X (.Subscript o i pos) (xM to ti t):=by
 intro pins s σ H v u Q I r h
 rw [ha]
 refine wpAny_bind (wpAny_holding (thn (ho pins s σ H _ I h) λov s1 ⟨x,H1,I1,r1,q1⟩=>?_))
 refine wpAny_bind (wpAny_holding (thn (hi pins s1 σ H1 _ I1 q1) λiv s2 ⟨y,H2,I2,r2,q2⟩=>?_))
 refine wpAny_bind (wpAny_standAt (wpAny_bind (wpAny_holding (thn (hs pins s2 σ H2 x y v ov iv u _ I2 r1 r2 r q2) λ_ s3 ⟨H3,I3,q3⟩=>?_))))
 exact wpAny_release ⟨σ,H3,I3,q3⟩
noncomputable def v8 (te:TE) (g:TG):TS:=λD σ H=>te σ H λx H1=>g x σ H1 D.nx
theorem vN {tg e:Expr}{te:TE}{g:TG} (he:PE X e te) (hg:PG X tg g) (hs:swapsWithSole [tg] e pos.line X.env=pure false:=by rfl) (hw:swappedStores [tg] e X.env=pure none:=by rfl)
  (h1:(assignEach [tg] X.env).map (·.2)=[assign tg X.env]:=by rfl):PS X (.Assign [tg] e pos) (v8 te g):=by
 intro pins s σ H D I h
 refine wpAny_Assign_stores (thn (he pins s σ H _ I h) λv s1 ⟨x,H1,I1,r1,q1⟩=>?_) hs hw
 rw [h1]
 exact thn (hg pins s1 σ H1 x v _ I1 r1 q1) λ_ s2 q=>q
theorem kD {i:Nat}{x:Str}{e:Expr}{te:TE}{pos':Pos} (hN:X.N.Nodup) (hi:X.N[i]?=some x) (hx:Loc X.env.scope x) (he:PE X e te) (hs:swapsWith e (some (.Name x pos')) pos.line X.env=pure false:=by rfl) (hf:X.fn x=true\/X.env.scope.names.lookup x=some .local:=by first | exact .inl rfl | exact .inr rfl | assumption) :
  PS X (.Assign [.Name x pos'] e pos) (v8 te (mW i)):=by
 intro pins s σ H D I h
 refine wpAny_Assign_Name (thn (he pins s σ H _ I h) λv s1 ⟨y,H1,I1,r1,q1⟩=>?_) hs
 exact iO I1 hN hi hx r1 (λs2 I2=>⟨_,H1,I2,q1⟩) hf
end
section
variable {X:Cx}{pos:Pos}
end
structure It where
 go:Nat->Hp->Prop
 yld:Nat->Hp->V->Hp->Prop
 stop:Nat->Hp->Prop
noncomputable def gK (X:Cx) (pins:List (Addr×Obj)) (H:Hp) (b:Addr):Prop:=
 H b=none/\b≠X.env.locals/\b ∉ X.fs/\(b ∈ X.ex\/X.s₀.heap.objs.size<=b)/\(∀ x c,X.env.cells.lookup x=some c->c≠b)/\∀ p ∈ X.pn++pins,p.1≠b
theorem Inv.fpOk {X:Cx}{pins:List (Addr×Obj)}{σ:St}{H H':Hp}{s:Shared}{b:Addr} (I:Inv X pins σ H s) (hb:s.heap.objs.size<=b) (hn:H' b=none):gK X pins H' b:=by
 refine⟨hn,Nat.ne_of_gt (Nat.lt_of_lt_of_le I.lt hb),I.nofs hb,.inr (Nat.le_trans I.sz hb),λx c e z=>?_,λp hp z=>?_⟩
 ·obtain⟨v,q⟩:=I.cell x c e
  exact absurd (Nat.lt_of_lt_of_le q.lt (by rw [z];exact hb)) (Nat.lt_irrefl _)
 ·exact absurd (Nat.lt_of_lt_of_le (Heap.lt_size (I.pin p hp).1) (by rw [z];exact hb)) (Nat.lt_irrefl _)
structure nZ (P:Program) (w:World) (K:PySem.W.Frag) (tg:Expr) (J:It) (fp:List Addr) (it:Addr) (tn:Nat->Heap->Prop):Prop where
 mem:it ∈ fp
 obj:∀ i h,tn i h->∀ b ∈ fp,∃ o,h.get? b=some o/\∀ v,o.data≠.cell v
 keep:∀ i h h',tn i h->(∀ b ∈ fp,∀ o,h.get? b=some o->h'.get? b=some o)->tn i h'
 item:∀ (X:Cx),X.prog=P->X.w=w->X.K=K->X.calm=true->∀ (i:Nat) (pins:List (Addr×Obj)) (s:Shared) (σ:St) (H:Hp) (E:Value->Shared->Prop),Inv X pins σ H s->(∀ b ∈ fp,gK X pins H b)->tn i s.heap->J.go i H->
  wpAny (model P w) X.A (pyNext (.ref it)) (λr s1=>∃ u,r=some u/\
   wpAny (model P w) X.A (letOwnedTupleGo tg (.ref it) u) (λ_ s2=>∃ x H',Inv X pins σ H' s2/\aQ x u/\J.yld i H x H'/\tn (i+1) s2.heap/\∀ b ∈ fp,H' b=none) E s1) E s
 done:∀ (X:Cx),X.prog=P->X.w=w->X.K=K->X.calm=true->∀ (i:Nat) (pins:List (Addr×Obj)) (s:Shared) (σ:St) (H:Hp) (E:Value->Shared->Prop),Inv X pins σ H s->(∀ b ∈ fp,gK X pins H b)->tn i s.heap->J.stop i H->
  wpAny (model P w) X.A (pyNext (.ref it)) (λr s1=>r=none/\Inv X pins σ H s1) E s
 self:∀ (A:Around) (i:Nat) (s:Shared) (Q:Value->Shared->Prop) (E:Value->Shared->Prop),tn i s.heap->Q (.ref it) s->wpAny (model P w) A (pyIter (.ref it)) Q E s
abbrev TI:=St->Hp->(It->Hp->Prop)->Prop
noncomputable def PIE (X:Cx) (pins:List (Addr×Obj)) (σ:St) (tg:Expr) (R:It->Hp->Prop) (itv:Value) (s2:Shared):Prop:=
 ∃ (it:Addr) (fp:List Addr) (tn:Nat->Heap->Prop) (J:It) (H':Hp),itv=.ref it/\Inv X pins σ H' s2/\nZ X.prog X.w X.K tg J fp it tn/\tn 0 s2.heap/\(∀ b ∈ fp,gK X pins H' b)/\R J H'
noncomputable def PI (X:Cx) (tg iter:Expr) (wi:TI):Prop:=
 ∀ (pins:List (Addr×Obj)) (s:Shared) (σ:St) (H:Hp) (R:It->Hp->Prop),Inv X pins σ H s->wi σ H R->
  wpAny (model X.prog X.w) X.A (eval iter X.env) (λv s1=>wpAny (model X.prog X.w) X.A (pyIter v) (PIE X pins σ tg R) X.xe s1) X.xe s
theorem qI {M:Model}{A:Around}{E:Value->Shared->Prop}{s:Shared}{tg:Expr}{it:Addr}{u:Value}{o:Obj}{n:String}{vs:Array Value}{Q:Unit->Shared->Prop} (ho:s.heap.get? it=some o) (hc:o.cls=.type n) (hd:o.data=.fields vs)
  (hn:["enumerate","zip","dict_itemiterator","dict_reverseitemiterator","odict_iterator","itertools.zip_longest","itertools.pairwise"].contains n=false) (hQ:Q () s):wpAny M A (letOwnedTupleGo tg (.ref it) u) Q E s:=by
 unfold letOwnedTupleGo
 cases tg<;>first
  | exact wpAny_pure hQ
  | (cases u<;>first
      | exact wpAny_pure hQ
      | (refine wpAny_bind (wpAny_load ho ?_)
         rw [hc,hd]
         show wpAny M A (if (["enumerate","zip","dict_itemiterator","dict_reverseitemiterator","odict_iterator","itertools.zip_longest","itertools.pairwise"].contains n && vs[0]?==some (rawInt _))=true then _ else _) Q E s
         rw [if_neg (by intro h;rw [hn,Bool.false_and] at h;cases h)]
         exact wpAny_pure hQ))
noncomputable def Itl (K:PySem.W.Frag) (a:Addr):It:=
 ⟨λi H=>∃ xs x,SqL K H a xs/\xs[i]?=some x,λi H x H'=>H'=H/\∀ xs,SqL K H a xs->xs[i]?=some x,λi H=>∃ xs,SqL K H a xs/\xs.length<=i⟩
noncomputable def Itt (K:PySem.W.Frag) (a:Addr):It:=
 ⟨λi H=>∃ xs x,SqT K H a xs/\xs[i]?=some x,λi H x H'=>H'=H/\∀ xs,SqT K H a xs->xs[i]?=some x,λi H=>∃ xs,SqT K H a xs/\xs.length<=i⟩
noncomputable def Itr (lo:Int) (n:Nat):It:=⟨λi _=>i < n,λi H x H'=>H'=H/\x=.int (lo+i),λi _=>n<=i⟩
theorem qt {P:Program}{w:World}{K:PySem.W.Frag}{tg:Expr} (a it:Addr):nZ P w K tg (Itl K a) [it] it (λi h=>h.IsListIter it a i) where
 mem:=by simp
 obj:=λi h st b hb=>by
  have e:b=it:=by simpa using hb
  subst e
  obtain⟨o,e,c,d⟩:=st
  exact⟨o,e,λv z=>by rw [d] at z;cases z⟩
 keep:=λi h h' st k=>st.at λo e=>k it (by simp) o e
 item:=by
  intro X hP hw hK hc i pins s σ H E I hf st hg
  subst hP hw hK
  obtain⟨xs,x,hq,hx⟩:=hg
  obtain⟨its,rv,p,hz⟩:=I.list hq
  obtain⟨u,hu,ru⟩:=rv.get hx
  obtain⟨f0,f1,f2,f3,f4,f5⟩:=hf it (by simp)
  refine wpAny_pyNext_list_item st p.isList (x:=u) (by simpa using hu) λh' st' sb=>?_
  have I1:Inv X pins σ H { s with heap:=h' }:=I.turned (t':=s.toks) (λb o hb e=>(sb.2 b hb).trans e) f0 f1 f3 f4 f5
  obtain⟨o,e,c,d⟩:=id st'
  exact⟨u,rfl,qI (s:={ s with heap:=h' }) e c d (by decide) ⟨x,H,I1,ru,⟨rfl,λys hy=>by rw [I.list_inj hy hq];exact hx⟩,st',λb hb=>(hf b hb).1⟩⟩
 done:=by
  intro X hP hw hK hc i pins s σ H E I hf st hg
  subst hP hw hK
  obtain⟨xs,hq,hx⟩:=hg
  obtain⟨its,rv,p,hz⟩:=I.list hq
  obtain⟨f0,f1,f2,f3,f4,f5⟩:=hf it (by simp)
  have hl:=rv.length
  exact wpAny_pyNext_list_end (I.ok.hd hc) st p.isList (by simp;lia) λh' eb=>⟨rfl,I.turned (t':=s.toks) (λb o hb e=>eb b o hb e) f0 f1 f3 f4 f5⟩
 self:=λ_ _ _ _ _ st h=>wpAny_pyIter_listiter st h
theorem oS {P:Program}{w:World}{K:PySem.W.Frag}{tg:Expr} (a it:Addr):nZ P w K tg (Itt K a) [it] it (λi h=>h.IsTupleIter it a i) where
 mem:=by simp
 obj:=λi h st b hb=>by
  have e:b=it:=by simpa using hb
  subst e
  obtain⟨o,e,c,d⟩:=st
  exact⟨o,e,λv z=>by rw [d] at z;cases z⟩
 keep:=λi h h' st k=>st.at λo e=>k it (by simp) o e
 item:=by
  intro X hP hw hK hc i pins s σ H E I hf st hg
  subst hP hw hK
  obtain⟨xs,x,hq,hx⟩:=hg
  obtain⟨its,rv,p,hz⟩:=I.tuple hq
  obtain⟨u,hu,ru⟩:=rv.get hx
  obtain⟨f0,f1,f2,f3,f4,f5⟩:=hf it (by simp)
  refine wpAny_pyNext_tuple_item st (show s.heap.IsTuple a its.toArray from p) (x:=u) (by simpa using hu) λh' st' sb=>?_
  have I1:Inv X pins σ H { s with heap:=h' }:=I.turned (t':=s.toks) (λb o hb e=>(sb.2 b hb).trans e) f0 f1 f3 f4 f5
  obtain⟨o,e,c,d⟩:=id st'
  exact⟨u,rfl,qI (s:={ s with heap:=h' }) e c d (by decide) ⟨x,H,I1,ru,⟨rfl,λys hy=>by rw [I.tuple_inj hy hq];exact hx⟩,st',λb hb=>(hf b hb).1⟩⟩
 done:=by
  intro X hP hw hK hc i pins s σ H E I hf st hg
  subst hP hw hK
  obtain⟨xs,hq,hx⟩:=hg
  obtain⟨its,rv,p,hz⟩:=I.tuple hq
  obtain⟨f0,f1,f2,f3,f4,f5⟩:=hf it (by simp)
  have hl:=rv.length
  exact wpAny_pyNext_tuple_end (I.ok.hd hc) st (show s.heap.IsTuple a its.toArray from p) (by simp;lia) λh' eb=>⟨rfl,I.turned (t':=s.toks) (λb o hb e=>eb b o hb e) f0 f1 f3 f4 f5⟩
 self:=λ_ _ _ _ _ st h=>wpAny_pyIter_tupleiter st h
theorem oR {P:Program}{w:World}{K:PySem.W.Frag}{tg:Expr} (it:Addr) (lo:Int) (n:Nat):nZ P w K tg (Itr lo n) [it] it (λi h=>IsRangeIter h it (lo+(i:Nat)*1) ((n:Int) - (i:Nat)) 1) where
 mem:=by simp
 obj:=λi h st b hb=>by
  have e:b=it:=by simpa using hb
  subst e
  exact⟨_,st,λv z=>by
   have z':Data.fields _=Data.cell v:=z
   cases z'⟩
 keep:=λi h h' st k=>k it (by simp) _ st
 item:=by
  intro X hP hw hK hc i pins s σ H E I hf st hg
  subst hP hw hK
  obtain⟨f0,f1,f2,f3,f4,f5⟩:=hf it (by simp)
  have W:=Walks.range (prog:=X.prog) (w:=X.w) (I.ok.hd hc) it lo 1 n
  refine W.item i s _ _ hg st λv h' tk hv st' kk=>?_
  obtain⟨t,rfl⟩:=hv
  have I1:Inv X pins σ H { s with heap:=h',toks:=tk }:=I.turned (λb o hb e=>kk b o (by simpa using hb) e) f0 f1 f3 f4 f5
  refine⟨_,rfl,qI (s:={ s with heap:=h',toks:=tk }) (n:="range_iterator") st' rfl rfl (by decide) ⟨.int (lo+i),H,I1,⟨t,?_⟩,⟨rfl,rfl⟩,st',λb hb=>(hf b hb).1⟩⟩
  rw [Int.mul_one]
 done:=by
  intro X hP hw hK hc i pins s σ H E I hf st hg
  subst hP hw hK
  obtain⟨f0,f1,f2,f3,f4,f5⟩:=hf it (by simp)
  exact wpAny_pyNext_range_end (I.ok.hd hc) st (by have:n<=i:=hg;lia) λh' eb=>⟨rfl,I.turned (t':=s.toks) (λb o hb e=>eb b o hb e) f0 f1 f3 f4 f5⟩
 self:=λ_ _ _ _ _ st h=>wpAny_pyIter_rangeiter st h
end L2
namespace L2
open PySem PySem.Spec PyProof.Rows
section
variable {X:Cx}{tg:Expr}
noncomputable def ww (K:PySem.W.Frag) (tl:TE):TI:=λσ H R=>tl σ H λx H1=>∃ a,x=.ref a/\(∃ xs,SqL K H1 a xs)/\R (Itl K a) H1
noncomputable def xP (K:PySem.W.Frag) (tl:TE):TI:=λσ H R=>tl σ H λx H1=>∃ a,x=.ref a/\(∃ xs,SqT K H1 a xs)/\R (Itt K a) H1
theorem t7 {l:Expr}{tl:TE} (hl:PE X l tl):PI X tg l (ww X.K tl):=by
 intro pins s σ H R I h
 refine thn (hl pins s σ H _ I h) λv s1 ⟨x,H1,I1,r1,q1⟩=>?_
 obtain⟨a,e,⟨xs,hq⟩,q⟩:=q1
 subst e
 cases r1
 obtain⟨its,rv,p,hz⟩:=I1.list hq
 refine wpAny_pyIter_list p.isList ?_
 refine⟨s1.heap.objs.size,[s1.heap.objs.size],_,_,H1,rfl,I1.kept (t':=s1.toks) λb o e=>Heap.get?_push_of_some _ e,qt a _,⟨_,Heap.get?_push_size _ rfl,rfl,rfl⟩,λb hb=>?_,q⟩
 have e:b=s1.heap.objs.size:=by simpa using hb
 subst e
 exact I1.fpOk (Nat.le_refl _) (I1.hok.fresh (Nat.le_refl _))
theorem vL {l:Expr}{tl:TE} (hl:PE X l tl):PI X tg l (xP X.K tl):=by
 intro pins s σ H R I h
 refine thn (hl pins s σ H _ I h) λv s1 ⟨x,H1,I1,r1,q1⟩=>?_
 obtain⟨a,e,⟨xs,hq⟩,q⟩:=q1
 subst e
 cases r1
 obtain⟨its,rv,p,hz⟩:=I1.tuple hq
 refine wpAny_pyIter_tuple (show s1.heap.IsTuple a its.toArray from p) ?_
 refine⟨s1.heap.objs.size,[s1.heap.objs.size],_,_,H1,rfl,I1.kept (t':=s1.toks) λb o e=>Heap.get?_push_of_some _ e,oS a _,⟨_,Heap.get?_push_size _ rfl,rfl,rfl⟩,λb hb=>?_,q⟩
 have e:b=s1.heap.objs.size:=by simpa using hb
 subst e
 exact I1.fpOk (Nat.le_refl _) (I1.hok.fresh (Nat.le_refl _))
theorem rV {pins:List (Addr×Obj)}{σ:St}{H:Hp}{s:Shared}{R:It->Hp->Prop}{E:Value->Shared->Prop}{lo hi:Int}{t u v:Tok}{tk:Nat} (I:Inv X pins σ H s) (h1:-(2 ^ 62)<=lo) (h2:lo < 2 ^ 62) (h3:-(2 ^ 62)<=hi) (h4:hi < 2 ^ 62)
  (q:R (Itr lo (hi - lo).toNat) H):wpAny (model X.prog X.w) X.A (pyIter (.ref s.heap.objs.size)) (PIE X pins σ tg R) E { s with heap:=s.heap.push { cls:=.type "range",data:=.fields #[.int lo t,.int hi u,.int 1 v] },toks:=tk }:=by
 refine wpAny_pyIter_range (IsRange.new ..) (small_one h1 h2 h3 h4) ?_
 have I1:Inv X pins σ H { s with heap:=s.heap.push { cls:=.type "range",data:=.fields #[.int lo t,.int hi u,.int 1 v] },toks:=tk }:=I.kept λb o e=>Heap.get?_push_of_some _ e
 refine⟨(s.heap.push { cls:=.type "range",data:=.fields #[.int lo t,.int hi u,.int 1 v] }).objs.size,[(s.heap.push { cls:=.type "range",data:=.fields #[.int lo t,.int hi u,.int 1 v] }).objs.size],_,_,H,rfl,
  I1.kept (t':=tk) λb o e=>Heap.get?_push_of_some _ e,oR _ lo (hi - lo).toNat,?_,λb hb=>?_,q⟩
 ·have e1:lo+((0:Nat):Int)*1=lo:=by simp
  have e2:(((hi - lo).toNat:Nat):Int) - ((0:Nat):Int)=Builtin.Range.rangeSize lo hi 1:=by rw [rangeSize_one];split<;>lia
  show IsRangeIter _ _ (lo+((0:Nat):Int)*1) ((((hi - lo).toNat:Nat):Int) - ((0:Nat):Int)) 1
  rw [e1,e2]
  exact Heap.get?_push_size _ rfl
 ·have e:b=(s.heap.push { cls:=.type "range",data:=.fields #[.int lo t,.int hi u,.int 1 v] }).objs.size:=by simpa using hb
  subst e
  exact I1.fpOk (Nat.le_refl _) (I1.hok.fresh (Nat.le_refl _))
noncomputable def wx (ta:TA):TI:=λσ H R=>ta σ H λvs H1=>∃ j:Int,vs=[.int j]/\-(2 ^ 62)<=j/\j < 2 ^ 62/\R (Itr 0 j.toNat) H1
theorem qe {a:Expr}{ta:TA}{p pos:Pos} (hg:Gl X "range") (hm:X.mg "range" = none) (ha:PA X [a] ta) (hs:starEach [a] X.env=[(false,eval a X.env)]:=by rfl):PI X tg (.Call (.Name "range" p) [a] [] pos) (wx ta):=by
 intro pins s σ H R I h
 refine Call_ (ig I hg hm boot_range (PyProof.Rows.callWith_type1 (thn (ha pos pins s σ H _ I h) λus s1 ⟨vs,H1,I1,r1,q1⟩=>?_) hs rfl))
 obtain⟨j,e,q1,q2,q⟩:=q1
 subst e
 cases r1 with
 | cons r rr=>
  cases rr
  obtain⟨t,rfl⟩:=r
  exact call_range_1 (rV I1 (by lia) (by lia) q1 q2 (by simpa using q))
noncomputable def xU (wi:TI) (g:TG) (tb:TS):TS:=λD σ H=>wi σ H λJ H1=>∃ W:Nat->Nat->St->Hp->Prop,(∃ m,W 0 m σ H1)/\∀ i m σ H,W i m σ H->
 (J.stop i H/\D.nx σ H)\/(J.go i H/\∃ N:St->Hp->Prop,(∀ σ' H',N σ' H'->∃ m',m' < m/\W (i+1) m' σ' H')/\∀ x H',J.yld i H x H'->g x σ H' λσ2 H2=>tb { D with nx:=N,ct:=N,bk:=D.nx } σ2 H2)
noncomputable def jj (fp:List Addr) (h:Heap):List (Addr×Obj):=fp.filterMap λb=>(h.get? b).map λo=>(b,o)
theorem cI {fp:List Addr}{h:Heap}{b:Addr}{o:Obj} (hb:b ∈ fp) (e:h.get? b=some o):(b,o) ∈ jj fp h:=List.mem_filterMap.mpr ⟨b,hb,by rw [e];rfl⟩
theorem p9 {fp:List Addr}{h:Heap}{p:Addr×Obj} (hp:p ∈ jj fp h):p.1 ∈ fp/\h.get? p.1=some p.2:=by
 obtain⟨b,hb,e⟩:=List.mem_filterMap.mp hp
 cases q:h.get? b with
 | none=>rw [q] at e;cases e
 | some o=>
  rw [q] at e
  have e':(b,o)=p:=Option.some.inj e
  subst e'
  exact⟨hb,q⟩
theorem Inv.pinned {pins:List (Addr×Obj)}{σ:St}{H:Hp}{s:Shared}{fp:List Addr} (I:Inv X pins σ H s) (hf:∀ b ∈ fp,gK X pins H b) (ho:∀ b ∈ fp,∃ o,s.heap.get? b=some o/\∀ v,o.data≠.cell v):Inv X (pins++jj fp s.heap) σ H s:=
 I.pins_of λp hp=>(List.mem_append.mp hp).elim (λz=>I.pin p (List.mem_append_right _ z)) λz=>by
  obtain⟨hb,e⟩:=p9 z
  obtain⟨f0,f1,f2,_⟩:=hf p.1 hb
  obtain⟨o,e',d⟩:=ho p.1 hb
  rw [e] at e';cases e'
  exact⟨e,f0,f1,f2,d⟩
theorem Inv.unpinned {pins pl:List (Addr×Obj)}{σ:St}{H:Hp}{s:Shared} (I:Inv X (pins++pl) σ H s):Inv X pins σ H s:=I.pins_of λp hp=>I.pin p (List.mem_append_right _ (List.mem_append_left _ hp))
theorem rL {iter:Expr}{body:List Stmt}{wi:TI}{g:TG}{tb:TS}{pos:Pos} (hp:PassesOwn (model X.prog X.w) X.A X.env X.xe) (hc:X.calm=true) (hi:PI X tg iter wi) (hg:PG X tg g) (hb:PSs X body tb)
  (hs:∀ x,foldedSetIterable iter X.env x=pure x:=by intro _;rfl):PS X (.For tg iter body [] pos) (xU wi g tb):=by
 intro pins s σ H D I h
 refine wpAny_For (thn (hi pins s σ H _ I h) λv s1 h1=>thn h1 λitv s2 h2=>?_) hs
 obtain⟨it,fp,tn,J,H2,e,I2,T,st2,f2,W,⟨m0,w0⟩,turn⟩:=h2
 subst e
 -- what stays true of the iterator's objects through the loop
 have stat:∀ {H':Hp},(∀ b ∈ fp,H' b=none)->∀ b ∈ fp,gK X pins H' b:=λhn b hb=>⟨hn b hb,(f2 b hb).2⟩
 refine codeAny_forLoop_any (λn s'=>∃ i σ' H',Inv X pins σ' H' s'/\tn i s'.heap/\(∀ b ∈ fp,H' b=none)/\W i n σ' H') ?_ m0 ⟨0,σ,H2,I2,st2,λb hb=>(f2 b hb).1,w0⟩
 rintro n s3 ⟨i,σ3,H3,I3,st3,fr3,w3⟩
 rcases turn i n σ3 H3 w3 with⟨stop,qn⟩ | ⟨go,N,hN,step⟩
 ·refine wpAny_passesOwn hp (thn (T.done X rfl rfl rfl hc i pins s3 σ3 H3 X.xe I3 (stat fr3) st3 stop) λr s4 ⟨hr,I4⟩=>?_)
  subst hr
  exact wpAny_execs_nil ⟨σ3,H3,I4,qn⟩
 ·refine wpAny_passesOwn hp (thn (T.item X rfl rfl rfl hc i pins s3 σ3 H3 X.xe I3 (stat fr3) st3 go) λr s4 ⟨u,hr,h4⟩=>?_)
  subst hr
  refine wpAny_passesOwn hp (thn h4 λ_ s5 ⟨x,H5,I5,r5,y5,st5,fr5⟩=>?_)
  have I5':=I5.pinned (stat fr5) (T.obj _ _ st5)
  refine wpAny_passesOwn hp (thn (hg _ s5 σ3 H5 x u _ I5' r5 (step x H5 y5)) λ_ s6 ⟨σ6,H6,I6,q6⟩=>?_)
  refine wpAny_passesOwn hp (thn (hb _ s6 σ6 H6 _ I6 q6) λf s7 q7=>?_)
  have again:∀ {σ7:St}{H7:Hp},Inv X (pins++jj fp s5.heap) σ7 H7 s7->N σ7 H7->∃ m,m < n/\∃ i σ' H',Inv X pins σ' H' s7/\tn i s7.heap/\(∀ b ∈ fp,H' b=none)/\W i m σ' H':=λ{σ7 H7} I7 n7=>by
   obtain⟨m',hm,w7⟩:=hN σ7 H7 n7
   refine⟨m',hm,i+1,σ7,H7,I7.unpinned,T.keep _ _ _ st5 λb hb o e=>(I7.pin (b,o) (List.mem_append_right _ (List.mem_append_right _ (cI hb e)))).1,λb hb=>?_,w7⟩
   obtain⟨o,e,d⟩:=T.obj _ _ st5 b hb
   exact (I7.pin (b,o) (List.mem_append_right _ (List.mem_append_right _ (cI hb e)))).2.1
  cases f with
  | next=>obtain⟨σ7,H7,I7,n7⟩:=q7;exact again I7 n7
  | cont=>obtain⟨σ7,H7,I7,n7⟩:=q7;exact again I7 n7
  | brk=>obtain⟨σ7,H7,I7,q7⟩:=q7;exact⟨σ7,H7,I7.unpinned,q7⟩
  | ret v=>obtain⟨x7,σ7,H7,I7,r7,q7⟩:=q7;exact⟨x7,σ7,H7,I7.unpinned,r7,q7⟩
end
end L2
namespace L2
open PySem PySem.Spec PyProof.Rows
abbrev R2:=V->V->Hp->VK->Prop
noncomputable def OpR (X:Cx) (f:Value->Value->Sem Value) (r:R2):Prop:=
 ∀ (pins:List (Addr×Obj)) (s:Shared) (σ:St) (H:Hp) (x y:V) (v u:Value) (Q:VK),Inv X pins σ H s->aQ x v->aQ y u->r x y H Q->
  wpAny (model X.prog X.w) X.A (f v u) (EP X pins σ Q) X.xe s
noncomputable def UnR (X:Cx) (f:Value->Sem Value) (r:V->Hp->VK->Prop):Prop:=
 ∀ (pins:List (Addr×Obj)) (s:Shared) (σ:St) (H:Hp) (x:V) (v:Value) (Q:VK),Inv X pins σ H s->aQ x v->r x H Q->
  wpAny (model X.prog X.w) X.A (f v) (EP X pins σ Q) X.xe s
noncomputable def cJ (X:Cx) (f:Value) (r:List V->Hp->VK->Prop):Prop:=
 ∀ (pins:List (Addr×Obj)) (s:Shared) (σ:St) (H:Hp) (xs:List V) (us:List Value) (Q:VK),Inv X pins σ H s->aN xs us->r xs H Q->
  wpAny (model X.prog X.w) X.A (call f us) (EP X pins σ Q) X.xe s
noncomputable def xG (X:Cx) (r:V->Hp->(Bool->Hp->Prop)->Prop):Prop:=
 ∀ (pins:List (Addr×Obj)) (s:Shared) (σ:St) (H:Hp) (x:V) (v:Value) (Q:Bool->Hp->Prop),Inv X pins σ H s->aQ x v->r x H Q->
  wpAny (model X.prog X.w) X.A (truthy v) (TP X pins σ Q) X.xe s
noncomputable def tOp (r:R2) (ta tb:TE):TE:=λσ H Q=>ta σ H λx H1=>tb σ H1 λy H2=>r x y H2 Q
noncomputable def tUn (r:V->Hp->VK->Prop) (ta:TE):TE:=λσ H Q=>ta σ H λx H1=>r x H1 Q
noncomputable def rI (C:Int->Int->Prop) (g:Int->Int->V):R2:=λx y H Q=>∃ i j,x=.int i/\y=.int j/\C i j/\Q (g i j) H
noncomputable def rI0 (g:Int->Int->V):R2:=λx y H Q=>∃ i j,x=.int i/\y=.int j/\Q (g i j) H
noncomputable def rU (g:Int->V):V->Hp->VK->Prop:=λx H Q=>∃ i,x=.int i/\Q (g i) H
section
variable {X:Cx}{a b c:Expr}{ta tb tc:TE}{pos:Pos}
theorem uX (ha:PE X a ta) (hb:PE X b tb) {pins:List (Addr×Obj)}{s:Shared}{σ:St}{H:Hp}{R:V->V->Hp->Prop} (I:Inv X pins σ H s)
  (h:ta σ H λx H1=>tb σ H1 λy H2=>R x y H2) {Q:Value->Shared->Prop}{f:Value->Value->Sem Value}
  (hf:∀ v u s2 x y H2,Inv X pins σ H2 s2->aQ x v->aQ y u->R x y H2->wpAny (model X.prog X.w) X.A (f v u) Q X.xe s2) :
  wpAny (model X.prog X.w) X.A (eval a X.env) (λv s₁=>wpAny (model X.prog X.w) X.A (eval b X.env) (λu s₂=>wpAny (model X.prog X.w) X.A (f v u) Q X.xe s₂) X.xe s₁) X.xe s:=by
 refine thn (ha pins s σ H _ I h) λv s1 ⟨x,H1,I1,r1,q1⟩=>?_
 refine thn (hb pins s1 σ H1 _ I1 q1) λu s2 ⟨y,H2,I2,r2,q2⟩=>?_
 exact hf v u s2 x y H2 I2 r1 r2 q2
theorem wV {op:Operator}{r:R2} (ho:OpR X (binaryOp op) r) (ha:PE X a ta) (hb:PE X b tb):PE X (.BinOp a op b pos) (tOp r ta tb):=by
 intro pins s σ H Q I h
 exact wpAny_BinOp (uX ha hb I h λv u s2 x y H2 I2 rx ry q=>ho pins s2 σ H2 x y v u Q I2 rx ry q)
theorem wW {op:UnaryOp}{r:V->Hp->VK->Prop} (ho:UnR X (unaryOp op) r) (ha:PE X a ta):PE X (.UnaryOp op a pos) (tUn r ta):=by
 intro pins s σ H Q I h
 exact UnaryOp_ (thn (ha pins s σ H _ I h) λv s1 ⟨x,H1,I1,r1,q1⟩=>ho pins s1 σ H1 x v Q I1 r1 q1)
theorem opI {f:Value->Value->Sem Value}{C:Int->Int->Prop}{g:Int->Int->Int}
  (rule:∀ (i j:Int) (t u:Tok) (s:Shared) (Q:Value->Shared->Prop) (E:Value->Shared->Prop),C i j->Q (.int (g i j) s.toks) { s with toks:=s.toks+1 }->wpAny (model X.prog X.w) X.A (f (.int i t) (.int j u)) Q E s) :
  OpR X f (rI C λi j=>.int (g i j)):=by
 intro pins s σ H x y v u Q I rx ry h
 obtain⟨i,j,rfl,rfl,hc,q⟩:=h
 obtain⟨t,rfl⟩:=rx
 obtain⟨t',rfl⟩:=ry
 exact rule i j t t' s _ _ hc ⟨.int (g i j),H,I.tok _,⟨_,rfl⟩,q⟩
theorem wM {f:Value->Value->Sem Value}{g:Int->Int->Int}
  (rule:∀ (i j:Int) (t u:Tok) (s:Shared) (Q:Value->Shared->Prop) (E:Value->Shared->Prop),Q (.int (g i j) s.toks) { s with toks:=s.toks+1 }->wpAny (model X.prog X.w) X.A (f (.int i t) (.int j u)) Q E s) :
  OpR X f (rI0 λi j=>.int (g i j)):=by
 intro pins s σ H x y v u Q I rx ry h
 obtain⟨i,j,rfl,rfl,q⟩:=h
 obtain⟨t,rfl⟩:=rx
 obtain⟨t',rfl⟩:=ry
 exact rule i j t t' s _ _ ⟨.int (g i j),H,I.tok _,⟨_,rfl⟩,q⟩
theorem vu {f:Value->Value->Sem Value}{g:Int->Int->Bool}
  (rule:∀ (i j:Int) (t u:Tok) (s:Shared) (Q:Value->Shared->Prop) (E:Value->Shared->Prop),Q (.bool (g i j)) s->wpAny (model X.prog X.w) X.A (f (.int i t) (.int j u)) Q E s) :
  OpR X f (rI0 λi j=>.bl (g i j)):=by
 intro pins s σ H x y v u Q I rx ry h
 obtain⟨i,j,rfl,rfl,q⟩:=h
 obtain⟨t,rfl⟩:=rx
 obtain⟨t',rfl⟩:=ry
 exact rule i j t t' s _ _ ⟨.bl (g i j),H,I,rfl,q⟩
noncomputable def xF (i j:Int):Prop:=0 < j/\j < 1073741824
noncomputable def lK (i j:Int):Prop:=0<=j/\j<=1000000/\i.natAbs < 2 ^ 64
noncomputable def sN (i j:Int):Prop:=(-(2 ^ 64) < i/\i < 2 ^ 64)\/(-(2 ^ 64) < j/\j < 2 ^ 64)
theorem sN.ok {i j:Int} (h:sN i j):IntMulOk i j:=by
 rcases h with⟨h1,h2⟩ | ⟨h1,h2⟩
 ·exact .of_left (intBits_le_64 h1 h2)
 ·exact .of_right (intBits_le_64 h1 h2)
theorem oU (k:Nat):(0:Int)<=2 ^ k:=by
 rw [two_pow_cast]
 exact Int.natCast_nonneg _
theorem vw:OpR X (binaryOp .Add) (rI0 λi j=>.int (i+j)):=wM λ_ _ _ _ _ _ _ q=>add_int q
theorem vD:OpR X (binaryOp .Sub) (rI0 λi j=>.int (i - j)):=wM λ_ _ _ _ _ _ _ q=>sub_int q
theorem tW:OpR X (binaryOp .FloorDiv) (rI xF λi j=>.int (i / j)):=opI λi j _ _ _ _ _ hc q=>by
 have h1:(0:Int) < j:=hc.1
 have h2:j < 1073741824:=hc.2
 exact floordiv_int (by lia) (by rw [Int.fdiv_eq_ediv_of_nonneg i (by lia)];exact q) (.inl (PyProof.noPylong_small (by lia)))
theorem vz:OpR X (binaryOp .Mod) (rI (λ_ j=>0 < j) λi j=>.int (i % j)):=opI λi j _ _ _ _ _ hc q=>by
 have h1:(0:Int) < j:=hc
 exact mod_int' (by lia) (by rw [Int.fmod_eq_emod_of_nonneg i (by lia)];exact q)
theorem vA:OpR X (binaryOp .Pow) (rI lK λi j=>.int (i ^ j.toNat)):=opI λ_ _ _ _ _ _ _ hc q=>pow_int_small hc.1 hc.2.1 hc.2.2 q
theorem vB:OpR X (binaryOp .LShift) (rI lK λi j=>.int (i*2 ^ j.toNat)):=opI λ_ _ _ _ _ _ _ hc q=>lshift_int_small hc.1 hc.2.1 hc.2.2 q
theorem vC:OpR X (binaryOp .RShift) (rI (λ_ j=>0<=j) λi j=>.int (i / 2 ^ j.toNat)):=opI λi j _ _ _ _ _ hc q=>
 rshift_int hc (by rw [Int.fdiv_eq_ediv_of_nonneg i (oU _)];exact q)
theorem unI {f:Value->Sem Value}{g:Int->Int}
  (rule:∀ (i:Int) (t:Tok) (s:Shared) (Q:Value->Shared->Prop) (E:Value->Shared->Prop),Q (.int (g i) s.toks) { s with toks:=s.toks+1 }->wpAny (model X.prog X.w) X.A (f (.int i t)) Q E s) :
  UnR X f (rU λi=>.int (g i)):=by
 intro pins s σ H x v Q I rx h
 obtain⟨i,rfl,q⟩:=h
 obtain⟨t,rfl⟩:=rx
 exact rule i t s _ _ ⟨.int (g i),H,I.tok _,⟨_,rfl⟩,q⟩
theorem wc:UnR X (unaryOp .USub) (rU λi=>.int (-i)):=unI λ_ _ _ _ _ q=>neg_int q
end
section
variable {X:Cx}{a b c:Expr}{ta tb tc:TE}{pos:Pos}
theorem wP:OpR X (compareOp .Lt) (rI0 λi j=>.bl (decide (i < j))):=vu λ_ _ _ _ _ _ _ q=>lt_int q
theorem wO:OpR X (compareOp .Gt) (rI0 λi j=>.bl (decide (j < i))):=vu λ_ _ _ _ _ _ _ q=>gt_int q
theorem wN:OpR X (compareOp .GtE) (rI0 λi j=>.bl (decide (j<=i))):=vu λ_ _ _ _ _ _ _ q=>ge_int q
theorem aX (b:Expr) {op:CmpOp} (h:op≠.In:=by decide) (h2:op≠.NotIn:=by decide):behindInMarks op b=false:=by
 have e1:(op==CmpOp.In)=false:=by cases op<;>first | rfl | exact absurd rfl h
 have e2:(op==CmpOp.NotIn)=false:=by cases op<;>first | rfl | exact absurd rfl h2
 cases b<;>simp [behindInMarks,e1,e2]
theorem t4 {op:CmpOp}{r:R2} (ho:OpR X (compareOp op) r) (ha:PE X a ta) (hb:PE X b tb) (hm:behindInMarks op b=false):PE X (.Compare a [op] [b] pos) (tOp r ta tb):=by
 intro pins s σ H Q I h
 exact wpAny_Compare1 (uX ha hb I h λv u s2 x y H2 I2 rx ry q=>ho pins s2 σ H2 x y v u Q I2 rx ry q) hm
noncomputable def xy (t:TE):TT:=λσ H Q=>t σ H λx H'=>∃ k,x=.bl k/\Q k H'
theorem t9 {op:CmpOp}{r:R2} (ho:OpR X (compareOp op) r) (ha:PE X a ta) (hb:PE X b tb) (hm:behindInMarks op b=false):PT X (.Compare a [op] [b] pos) (xy (tOp r ta tb)):=by
 intro pins s σ H Q I h
 refine wpAny_isTrue_Compare1 (thn (ha pins s σ H _ I h) λv s1 ⟨x,H1,I1,r1,q1⟩=>thn (hb pins s1 σ H1 _ I1 q1) λu s2 ⟨y,H2,I2,r2,q2⟩=>
  thn (ho pins s2 σ H2 x y v u _ I2 r1 r2 q2) λc s3 ⟨z,H3,I3,r3,k,e,q3⟩=>?_) hm
 subst e
 cases r3
 exact wpAny_truthy_bool ⟨H3,I3,q3⟩
noncomputable def sS (K:PySem.W.Frag) (x:V) (H:Hp) (k:Bool):Prop:=
 match x with
 | .non=>k=false
 | .bl b=>k=b
 | .int i=>k=(i != 0)
 | .str y=>y.length<=sizeLine/\k=((y.length:Int) != 0)
 | .byt y=>y.size<=sizeLine/\k=((y.size:Int) != 0)
 | .ref p=>(∃ xs,SqL K H p xs/\k=!xs.isEmpty)\/(∃ xs,SqT K H p xs/\k=!xs.isEmpty)\/∃ kvs,H p=some (.dK kvs)/\k=!kvs.isEmpty
 | _=>False
theorem oo {κ:Type}{kvs:List (κ×V)}{vs:List (κ×Value)} (r:KV kvs vs):(!vs.isEmpty)=!kvs.isEmpty:=by
 cases r<;>rfl
theorem kg {xs:List V}{its:List Value} (r:aN xs its):(!its.toArray.isEmpty)=!xs.isEmpty:=by
 cases r<;>simp
theorem ii:(sizeLine:Nat) < 2 ^ 63:=by rw [sizeLine_eq];decide
theorem wb:xG X (λx H Q=>∃ k,sS X.K x H k/\Q k H):=by
 intro pins s σ H x v Q I rx h
 obtain⟨k,e,q⟩:=h
 have hl:=ii
 have hs:sizeLine=16777216:=sizeLine_eq
 cases x with
 | non=>
  cases rx
  have e':k=false:=e
  subst e'
  exact truthy_none ⟨H,I,q⟩
 | bl b=>
  cases rx
  have e':k=b:=e
  subst e'
  exact wpAny_truthy_bool ⟨H,I,q⟩
 | int i=>
  obtain⟨t,rfl⟩:=rx
  have e':k=(i != 0):=e
  subst e'
  exact PySem.P.truthy_int ⟨H,I,q⟩
 | str y=>
  obtain⟨t,rfl⟩:=rx
  obtain⟨hy,e'⟩:y.length<=sizeLine/\k=((y.length:Int) != 0):=e
  subst e'
  exact PySem.P.truthy_str (by lia) ⟨H,I.tok _,q⟩
 | byt y=>
  obtain⟨t,rfl⟩:=rx
  obtain⟨hy,e'⟩:y.size<=sizeLine/\k=((y.size:Int) != 0):=e
  subst e'
  exact PySem.W.truthy_bytes (by lia) ⟨H,I.tok _,q⟩
 | ref p=>
  cases rx
  have e':(∃ xs,SqL X.K H p xs/\k=!xs.isEmpty)\/(∃ xs,SqT X.K H p xs/\k=!xs.isEmpty)\/∃ kvs,H p=some (.dK kvs)/\k=!kvs.isEmpty:=e
  rcases e' with⟨xs,hx,e'⟩ | ⟨xs,hx,e'⟩ | ⟨kvs,hx,e'⟩
  ·subst e'
   obtain⟨its,r,pl,hz⟩:=I.list hx
   have hlen:=r.length
   exact wpAny_truthy_list pl.isList (by simp only [List.size_toArray];lia) ⟨H,I.tok _,by rw [kg r];exact q⟩
  ·subst e'
   obtain⟨its,r,pl,hz⟩:=I.tuple hx
   have hlen:=r.length
   exact truthy_tuple pl (by simp only [List.size_toArray];lia) ⟨H,I.tok _,by rw [kg r];exact q⟩
  ·subst e'
   obtain⟨hz,hS,vs,r,m⟩:kvs.length<=sizeLine/\(p==sysModules)=false/\∃ vs,KV kvs vs/\s.heap.DictOf (ml X.prog X.w) p vs:=I.hok p _ hx
   have hlen:kvs.length=vs.length:=Paired.length r
   exact wpAny_truthy_dict hS m (by lia) ⟨H,I.tok _,by rw [oo r];exact q⟩
 | _=>exact (show False from e).elim
theorem rN (ha:PE X a ta) (he:∀ whole,isTrue a X.env whole=(do let v <-whole;standAt a.pos;holding [v] (truthy v))) :
  PT X a (λσ H Q=>ta σ H λx H'=>∃ k,sS X.K x H' k/\Q k H'):=by
 intro pins s σ H Q I h
 exact isTrue_plain (thn (ha pins s σ H _ I h) λv s1 ⟨x,H1,I1,r1,q1⟩=>wb pins s1 σ H1 x v Q I1 r1 q1) (he _)
theorem oG:OpR X (binaryOp .Add) (λx y H Q=>∃ i j,x=.str i/\y=.str j/\i.length+j.length<=sizeLine/\Q (.str (i++j)) H):=by
 intro pins s σ H x y v u Q I rx ry h
 obtain⟨i,j,rfl,rfl,hz,q⟩:=h
 obtain⟨t,rfl⟩:=rx
 obtain⟨t',rfl⟩:=ry
 exact add_str (λt' tk=>⟨.str (i++j),H,I.tok _,⟨_,rfl⟩,q⟩) hz
theorem kL {x:V}{us:List Value} (r:aN [x] us):∃ u,us=[u]/\aQ x u:=by
 cases r with
 | cons r1 r2=>cases r2;exact⟨_,rfl,r1⟩
theorem uO {x y:V}{us:List Value} (r:aN [x,y] us):∃ u w',us=[u,w']/\aQ x u/\aQ y w':=by
 cases r with
 | cons r1 r2=>
  cases r2 with
  | cons r3 r4=>cases r4;exact⟨_,_,rfl,r1,r3⟩
theorem pM (hc:X.calm=true):cJ X (.builtin "max") (λxs H Q=>∃ i j,xs=[.int i,.int j]/\Q (.int (if j > i then j else i)) H):=by
 intro pins s σ H xs us Q I r h
 obtain⟨i,j,rfl,q⟩:=h
 obtain⟨u,w',rfl,⟨t,rfl⟩,⟨t',rfl⟩⟩:=uO r
 refine max_two_ints (I.ok.hd hc) λh' tk k=>⟨_,H,I.kept k,?_,q⟩
 by_cases hj:j > i
 ·rw [if_pos hj,if_pos hj];exact⟨_,rfl⟩
 ·rw [if_neg hj,if_neg hj];exact⟨_,rfl⟩
theorem pO (hc:X.calm=true):cJ X (.builtin "min") (λxs H Q=>∃ i j,xs=[.int i,.int j]/\Q (.int (if j < i then j else i)) H):=by
 intro pins s σ H xs us Q I r h
 obtain⟨i,j,rfl,q⟩:=h
 obtain⟨u,w',rfl,⟨t,rfl⟩,⟨t',rfl⟩⟩:=uO r
 refine min_two_ints (I.ok.hd hc) λh' tk k=>⟨_,H,I.kept k,?_,q⟩
 by_cases hj:j < i
 ·rw [if_pos hj,if_pos hj];exact⟨_,rfl⟩
 ·rw [if_neg hj,if_neg hj];exact⟨_,rfl⟩
theorem lv:cJ X (.type "int") (λxs H Q=>(∃ i,xs=[.int i]/\Q (.int i) H)\/∃ k,xs=[.bl k]/\Q (.int (if k then 1 else 0)) H):=by
 intro pins s σ H xs us Q I r h
 rcases h with⟨i,rfl,q⟩ | ⟨k,rfl,q⟩
 ·obtain⟨u,rfl,t,rfl⟩:=kL r
  exact call_int_int ⟨.int i,H,I,⟨_,rfl⟩,q⟩
 ·obtain⟨u,rfl,r1⟩:=kL r
  cases r1
  exact call_int_bool ⟨.int (if k then 1 else 0),H,I.tok _,⟨_,rfl⟩,q⟩
end
end L2
namespace L2
open PySem PySem.Spec PyProof.Rows
structure uP (h:Heap) (x dx C:Addr) (mA:Str->Option Value):Prop where
 obj:h.get? x=some (PySem.W.instObj C dx)
 ns:h.Ns1 dx mA
 ne:dx≠x
theorem pW {h:Heap}{dx:Addr}{mA:Str->Option Value} (n:h.Ns1 dx mA):∃ od,h.get? dx=some od/\∀ name,PySem.W.lookIn name od=some (mA name):=by
 obtain⟨o,es,ep,ho,hd,hk,_,hm⟩:=n
 refine⟨o,ho,λname=>?_⟩
 have e:=hm name
 unfold nsFind findBy at e
 rw [<-Array.find?_toList] at e
 unfold PySem.W.lookIn
 rw [hd]
 dsimp only
 split
 ·rename_i y q
  rw [q] at e
  exact congrArg some e
 ·rename_i q
  rw [q] at e
  have a:es.toList.any (·.refKey)=false:=by
   rw [List.any_eq_false]
   intro y hy
   obtain⟨z,t,hkey⟩:=hk y (Array.mem_toList_iff.mp hy)
   simp [DictEntry.refKey,hkey]
  have a':¬ es.toList.any (·.refKey)=true:=by rw [a];exact Bool.false_ne_true
  rw [if_neg a']
  exact congrArg some e
theorem uP.look {h:Heap}{x dx C:Addr}{mA:Str->Option Value} (I:uP h x dx C mA):∃ od,PySem.W.InstAt h x (PySem.W.instObj C dx) C (some od)/\∀ name,PySem.W.lookIn name od=some (mA name):=
 let ⟨od,ho,hl⟩:=pW I.ns
 ⟨od,⟨I.obj,rfl,rfl,ho⟩,hl⟩
section
variable {prog:Program}{w:World}{A:Around}{E:Value->Shared->Prop}{s:Shared}{K:PySem.W.Frag}{x dx C f:Addr}{mA:Str->Option Value}{name:Str}{v:Value}
end
section
variable {P:Program}{w:World}{H H':Hp}{h h':Heap}{a C dx:Addr}{fs fs':List (Str×V)}
theorem tL (hok:HOk P w H h) (e:H a=some (.ins C dx fs)):∃ mA,uP h a dx C mA/\(∀ f,qw (fs.lookup f) (mA f))/\PySem.Within mA (fs.map (·.1))/\fs.length<=1000/\H dx=some (.own a):=by
 obtain⟨d,z,ne,ob,mA,n,r,q⟩:=(show bL P w H h a (.ins C dx fs) from hok a _ e)
 exact⟨mA,⟨ob,n,ne⟩,r,q,z,d⟩
end
structure Cls (K:PySem.W.Frag) (C:Addr):Prop where
 pg:PySem.W.plainGet K C Str.empty=true
 hd:PySem.W.hasDictIn K C=true
 po:PySem.W.plainOver K C=true
 sa:PySem.W.findIn K (.ref C) "__setattr__" = some (some (.builtin "object.__setattr__"))
theorem Cls.get {K:PySem.W.Frag}{C:Addr} (c:Cls K C) (f:Str):PySem.W.plainGet K C f=true:=c.pg
noncomputable def qv (K:PySem.W.Frag) (C:Addr) (f:Str):Prop:=PySem.W.findIn K (.ref C) f=some none
section
variable {X:Cx}{pins:List (Addr×Obj)}{σ:St}{H:Hp}{s:Shared}{a C dx:Addr}{fs:List (Str×V)}{f:Str}{v:V}{A:Around}{E:Value->Shared->Prop}
theorem sV {prog:Program}{w:World}{env:Env}{e:Expr}{f:Str}{pos:Pos}{s:Shared}{Q:Value->Shared->Prop} (hb:attributeBase e f env (eval e env)=eval e env)
  (h:wpAny (model prog w) A (eval e env) (λo s₁=>wpAny (model prog w) A (getAttr o f true) Q E s₁) E s):wpAny (model prog w) A (eval (.Attribute e f pos) env) Q E s:=
 Attribute_any_ h (by rw [arm_eval_Attribute,hb])
end
section
variable {X:Cx}{o e value:Expr}{f:Str}{pos pos' tpos:Pos}{ta tv:TE}
end
section
variable {X:Cx}{pins:List (Addr×Obj)}{σ:St}{H:Hp}{s:Shared}{A:Around}{E:Value->Shared->Prop}{Q:Value->Shared->Prop}{c:Value}{b:Bool}
inductive jt (K:PySem.W.Frag) (H:Hp):V->Value->Prop where
 | non:jt K H .non (.type "NoneType")
 | bl (x:Bool):jt K H (.bl x) (.type "bool")
 | int (i:Int):jt K H (.int i) (.type "int")
 | str (x:Str):jt K H (.str x) (.type "str")
 | flt (x:UInt64):jt K H (.flt x) (.type "float")
 | lst {a:Addr}{xs:List V} (e:H a=some (.lst xs)):jt K H (.ref a) (.type "list")
 | frz {a:Addr}{o:Obj}{xs:List V} (e:H a=some (.frz o (.lst xs))):jt K H (.ref a) (.type "list")
 | tup {a:Addr}{xs:List V} (e:H a=some (.tup xs)):jt K H (.ref a) (.type "tuple")
 | dK {a:Addr}{kvs:List (Key×V)} (e:H a=some (.dK kvs)):jt K H (.ref a) (.type "dict")
 | dT {a:Addr}{kvs:List (List Key×V)} (e:H a=some (.dT kvs)):jt K H (.ref a) (.type "dict")
 | ins {a C dx:Addr}{fs:List (Str×V)} (e:H a=some (.ins C dx fs)) (cl:Cls K C) (ha:PySem.W.findIn K (.ref C) "__class__" = some (some (.builtin "object.__class__")))
   (hn:PySem.W.specialIn K (.builtin "object.__class__") "__get__" = some (some (.builtin "getset_descriptor.__get__"))) (htk:PySem.W.takesIn K (.builtin "object.__class__")=some true)
   (hm:PySem.W.mroIn K C (.type "object")=some true):jt K H (.ref a) (.ref C)
theorem cg {x:V}{u t:Value} (I:Inv X pins σ H s) (rx:aQ x u) (ty:jt X.K H x t) (e:PySem.W.kitOne X.K t c=some b) (h:∀ tk,Q (.bool b) { s with toks:=tk }) :
  wpAny (model X.prog X.w) A (call (.builtin "isinstance") [u,c]) Q E s:=by
 cases ty with
 | non=>cases (show u=Value.none from rx);exact PySem.W.kia_one PySem.W.kitx_none I.kIn True.intro e (λz=>nomatch z) h
 | bl y=>cases (show u=Value.bool y from rx);exact PySem.W.kia_one PySem.W.kitx_bool I.kIn True.intro e (λz=>nomatch z) h
 | int i=>obtain⟨t,q⟩:=(show ∃ t,u=Value.int i t from rx);cases q;exact PySem.W.kia_one PySem.W.kitx_int I.kIn True.intro e (λz=>nomatch z) h
 | str y=>obtain⟨t,q⟩:=(show ∃ t,u=Value.str y t from rx);cases q;exact PySem.W.kia_one PySem.W.kitx_str I.kIn True.intro e (λz=>nomatch z) h
 | flt y=>obtain⟨t,q⟩:=(show ∃ t,u=Value.float y t from rx);cases q;exact PySem.W.kia_one PySem.W.kitx_float I.kIn True.intro e (λz=>nomatch z) h
 | @lst a xs ea=>
  cases (show u=Value.ref a from rx)
  obtain⟨_,_,n,_,h1⟩:=(show bL X.prog X.w H s.heap a (.lst xs) from I.hok a _ ea)
  exact PySem.W.kia_one PySem.W.kitx_list I.kIn ⟨_,h1,rfl⟩ e (λz=>nomatch z) h
 | @frz a ob xs ea=>
  cases (show u=Value.ref a from rx)
  obtain⟨_,_,_,n,_,h1⟩:=(show bL X.prog X.w H s.heap a (.frz ob (.lst xs)) from I.hok a _ ea)
  exact PySem.W.kia_one PySem.W.kitx_list I.kIn ⟨_,h1,rfl⟩ e (λz=>nomatch z) h
 | @tup a xs ea=>
  cases (show u=Value.ref a from rx)
  obtain⟨_,_,_,p⟩:=(show bL X.prog X.w H s.heap a (.tup xs) from I.hok a _ ea)
  obtain⟨o,h1,h2,_⟩:=p
  exact PySem.W.kia_one PySem.W.kitx_tuple I.kIn ⟨o,h1,h2⟩ e (λz=>nomatch z) h
 | @dK a kvs ea=>
  cases (show u=Value.ref a from rx)
  obtain⟨_,_,vs,_,p⟩:=(show bL X.prog X.w H s.heap a (.dK kvs) from I.hok a _ ea)
  obtain⟨o,es,ep,h1,h2,_⟩:=p
  exact PySem.W.kia_one PySem.W.kitx_dict I.kIn ⟨o,h1,h2.1⟩ e (λz=>nomatch z) h
 | @dT a kvs ea=>
  cases (show u=Value.ref a from rx)
  obtain⟨_,_,xs,_,o,es,ep,h1,h2,_⟩:=(show bL X.prog X.w H s.heap a (.dT kvs) from I.hok a _ ea)
  exact PySem.W.kia_one PySem.W.kitx_dict I.kIn ⟨o,h1,h2.1⟩ e (λz=>nomatch z) h
 | @ins a C dx fs ea cl ha hn htk hm=>
  cases (show u=Value.ref a from rx)
  obtain⟨mA,O,_⟩:=tL I.hok ea
  obtain⟨od,J,_⟩:=O.look
  exact PySem.W.kia_one (PySem.W.kitx_own (cl.get _) cl.hd ha hn htk hm) I.kIn J e (λz=>nomatch z) h
end
end L2
namespace L2
open PySem PySem.Spec PyProof.Rows
structure bY (k:Nat) (A:Around):Prop where
 hd:A.handled=none
 dp:A.depth+3*k+5 < recursionLimit
 un:A.units+16*k+200 < cLine
 gd:A.guards=some []
theorem bY.mono {j k:Nat}{A:Around} (r:bY k A) (h:j<=k):bY j A:=⟨r.hd,by have:=r.dp;lia,by have:=r.un;lia,r.gd⟩
theorem bY.deeper {k:Nat}{A:Around} (r:bY (k+1) A) (env:Env):bY k (A.deeper env):=
 ⟨r.hd,by have:=r.dp;show A.depth+1+3*k+5 < _;lia,by have:=r.un;show A.units+3+16*k+200 < _;lia,r.gd⟩
theorem ox {A:Around}{C:Addr}{us:List Value}{kw:List (Str×Value)}:(A.under (.builtin "type.__call__" ⟨.ref C::us,kw⟩)).depth=A.depth+1:=by
 first | rfl | simp [Around.under,Code.weight,Code.isCreation,Code.isGuard,Code.isCaller,Code.frames,Code.isFrame,guardIds]
theorem oy {A:Around}{C:Addr}{us:List Value}{kw:List (Str×Value)}:(A.under (.builtin "type.__call__" ⟨.ref C::us,kw⟩)).units=A.units+1:=by
 first | rfl | simp [Around.under,Code.cUnits,Code.frames,Code.isFrame]
theorem bY.make {k:Nat}{A:Around} (r:bY (k+1) A) (C:Addr) (us:List Value) (kw:List (Str×Value)):bY k (A.under (.builtin "type.__call__" ⟨.ref C::us,kw⟩)):=
 ⟨r.hd,by have:=r.dp;rw [ox];lia,by have:=r.un;rw [oy];lia,by
  unfold Around.under
  simp [r.gd,pushGuards,Code.guards,Code.isGuard,guardIds]⟩
theorem bY.depth {k:Nat}{A:Around} (r:bY k A):A.depth < recursionLimit:=by have:=r.dp;lia
theorem bY.units0 {k:Nat}{A:Around} (r:bY k A):A.units < cLine:=by have:=r.un;lia
noncomputable def xX:TA:=λ_ H Q=>Q [] H
noncomputable def xu (ta:TE) (tr:TA):TA:=λσ H Q=>ta σ H λx H1=>tr σ H1 λxs H2=>Q (x::xs) H2
section
variable {X:Cx}{e:Expr}{es:List Expr}{te:TE}{t:TA}{pos:Pos}
theorem ji:PA X [] xX:=λ_ _ _ _ H Q I h=>Calls.spliced_nil ⟨[],H,I,.nil,h⟩
theorem di (ha:PE X e te) (hr:PA X es t) (hs:starEach (e::es) X.env=(false,eval e X.env)::starEach es X.env:=by rfl):PA X (e::es) (xu te t):=by
 intro pos pins s σ H Q I h
 rw [hs]
 show wpAny _ _ (spliced ((false,eval e X.env)::backTo pos (starEach es X.env))) _ _ s
 refine Calls.spliced_cons (thn (ha pins s σ H _ I h) λu s1 ⟨x,H1,I1,r1,q1⟩=>?_)
 exact thn (hr pos pins s1 σ H1 _ I1 q1) λus s2 ⟨xs,H2,I2,r2,q2⟩=>⟨x::xs,H2,I2,.cons r1 r2,q2⟩
noncomputable def x9 (t:TA):TE:=λσ H Q=>t σ H λxs H1=>xs.length<=sizeLine/\∀ p,H1 p=none->Q (.ref p) (upd H1 p (.tup xs))
noncomputable def xW (t:TA):TE:=λσ H Q=>t σ H λxs H1=>xs.length<=sizeLine/\∀ p,H1 p=none->Q (.ref p) (upd H1 p (.lst xs))
theorem vH {x1} (h:PA X es t):PE X (.Tuple es x1 pos) (x9 t):=by
 intro pins s σ H Q I hq
 refine wpAny_Tuple_spliced (thn (h pos pins s σ H _ I hq) λus s1 ⟨xs,H1,I1,r,z,q⟩=>⟨by rw [<-r.length];exact z,?_⟩)
 have hf:H1 s1.heap.objs.size=none:=I1.hok.fresh (Nat.le_refl _)
 refine⟨.ref s1.heap.objs.size,upd H1 s1.heap.objs.size (.tup xs),I1.laid (t':=s1.toks) (λb u e=>Heap.get?_push_of_some _ e) (Nat.le_refl _) ?_,rfl,q _ hf⟩
 exact⟨z,us,r,db.new _ _⟩
theorem rB (h:PA X es t):PE X (.List es pos) (xW t):=by
 intro pins s σ H Q I hq
 refine wpAny_List_spliced (thn (h pos pins s σ H _ I hq) λus s1 ⟨xs,H1,I1,r,z,q⟩=>⟨by rw [<-r.length];exact z,?_⟩)
 have hf:H1 s1.heap.objs.size=none:=I1.hok.fresh (Nat.le_refl _)
 refine⟨.ref s1.heap.objs.size,upd H1 s1.heap.objs.size (.lst xs),I1.laid (t':=s1.toks) (λb u e=>Heap.get?_push_of_some _ e) (Nat.le_refl _) ?_,rfl,q _ hf⟩
 exact⟨z,us,0,r,Heap.get?_push_size _ rfl⟩
end
abbrev Sp:=List V->Hp->VK->XK->Prop
abbrev CXT:=List Env->Hp->Shared->XK->Value->Shared->Prop
structure nY (P:Program) (w:World) (K:PySem.W.Frag) (mg:Str->Option Value) (base:Heap) (A:Around) (outer:List Env) (s:Shared) (H:Hp):Prop where
 frames:A.frames=some outer
 mod:Mod K mg base
 bs:∀ b o,base.get? b=some o->s.heap.get? b=some o/\H b=none
 bsz:base.objs.size<=s.heap.objs.size
 funs:s.heap.FunFrames base outer
 frf:∀ b ∈ frs outer,H b=none
 hok:HOk P w H s.heap
 bare:AllBare s.gens
noncomputable def CE (outer:List Env) (P:Program) (w:World) (H:Hp) (s:Shared) (Q:VK) (u:Value) (s':Shared):Prop:=
 ∃ v H',s'.os=s.os/\AllBare s'.gens/\Un (frs outer) [] H H' s.heap s'.heap/\HOk P w H' s'.heap/\aQ v u/\Q v H'
noncomputable def CR (CX:CXT) (outer:List Env) (P:Program) (w:World) (H:Hp) (s:Shared) (Q:VK) (E:XK) (r:Result) (s':Shared):Prop:=
 match r with
 | .ok (.ret u)=>CE outer P w H s Q u s'
 | .ok _=>False
 | .error e=>CX outer H s E e s'
structure bv (P:Program) (w:World) (K:PySem.W.Frag) (mg:Str->Option Value) (base:Heap) (CX:CXT) (k:Nat) (f:Addr) (fd:FuncData) (ps:List Str) (sp:Sp):Prop where
 len:∀ vs H Q E,sp vs H Q E->vs.length=ps.length
 run:∀ (A:Around) (outer:List Env) (s:Shared) (H:Hp) (args:Args) (us:List Value) (vs:List V) (Q:VK) (E:XK),bY k A->nY P w K mg base A outer s H->BindsTo s fd args (ps.zip us)->aN vs us->sp vs H Q E->
  codeAny (model P w) A (.call (.ref f) args) (CR CX outer P w H s Q E) s
theorem bv.mono {P:Program}{w:World}{K:PySem.W.Frag}{mg:Str->Option Value}{base:Heap}{CX:CXT}{j k:Nat}{f:Addr}{fd:FuncData}{ps:List Str}{sp:Sp} (F:bv P w K mg base CX j f fd ps sp) (h:j<=k) :
  bv P w K mg base CX k f fd ps sp:=⟨F.len,λA outer s H args us vs Q E hr=>F.run A outer s H args us vs Q E (hr.mono h)⟩
theorem nY.make {P:Program}{w:World}{K:PySem.W.Frag}{mg:Str->Option Value}{base:Heap}{A:Around}{outer:List Env}{s:Shared}{H:Hp} (e:nY P w K mg base A outer s H) (C:Addr) (us:List Value) (kw:List (Str×Value)) :
  nY P w K mg base (A.under (.builtin "type.__call__" ⟨.ref C::us,kw⟩)) outer s H:=⟨by first | exact e.frames | (simpa [Around.under,Code.envs,Code.isFrame,pushEnvs] using e.frames),e.mod,e.bs,e.bsz,e.funs,e.frf,e.hok,e.bare⟩
section
variable {X:Cx}{pins:List (Addr×Obj)}{σ:St}{H:Hp}{s s':Shared}
theorem Inv.env0 (I:Inv X pins σ H s):nY X.prog X.w X.K X.mg X.base X.A X.stack s H:=
 ⟨I.ok.frames,I.ok.mod,I.bs,Nat.le_trans I.ok.bsz I.sz,I.stack,I.stkFree,I.hok,I.bare⟩
theorem Inv.after {Q:VK}{u:Value} (I:Inv X pins σ H s) (h:CE X.stack X.prog X.w H s Q u s'):EP X pins σ Q u s':=by
 obtain⟨v,H',os,bare,un,hok,r,q⟩:=h
 obtain⟨hh,g,d,t,os'⟩:=s'
 obtain rfl:os'=s.os:=os
 exact⟨v,H',I.call (h':=hh) (g':=g) (d':=d) (t':=t) (ch:=[]) un hok bare (λb z=>absurd z (by simp)),r,q⟩
end
noncomputable def xt (sp:Sp) (dvs:List V) (E:XK) (t:TA):TE:=λσ H Q=>t σ H λvs H1=>sp (vs++dvs) H1 Q E
noncomputable def bp (K:PySem.W.Frag) (fd:FuncData) (ps:List Str) (ds:List Value):Prop:=
 ∀ (s:Shared) (us:List Value),K.In s.heap->(us++ds).length=ps.length->BindsTo s fd ⟨us,[]⟩ (ps.zip (us++ds))
theorem bp.all {K:PySem.W.Frag}{fd:FuncData}{ps:List Str} (h:∀ us:List Value,us.length=ps.length->bindArgs fd ⟨us,[]⟩=pure (ps.zip us)):bp K fd ps []:=λs us _ hl=>by
 rw [List.append_nil] at hl ⊢
 exact .of_eq (h us hl)
noncomputable def lL (CX:CXT) (X:Cx) (E:XK):Prop:=∀ (pins:List (Addr×Obj)) (σ:St) (H:Hp) (s:Shared) (e:Value) (s':Shared),Inv X pins σ H s->CX X.stack H s E e s'->X.xe e s'
section
variable {X:Cx}{CX:CXT}{k:Nat}{f C:Addr}{fd:FuncData}{ps:List Str}{sp:Sp}{dvs:List V}{ds:List Value}{E:XK}{x m:Str}{p pos apos:Pos}{e o:Expr}{es:List Expr}{ta:TE}{t:TA}
theorem vY {pins:List (Addr×Obj)}{σ:St}{H:Hp}{s:Shared}{Q:VK}{us:List Value}{vs:List V} (F:bv X.prog X.w X.K X.mg X.base CX k f fd ps sp) (hr:bY k X.A) (hb:bp X.K fd ps ds) (hd:aN dvs ds) (hx:lL CX X E)
  (I:Inv X pins σ H s) (r:aN vs us) (h:sp (vs++dvs) H Q E):wpAny (model X.prog X.w) X.A (call (.ref f) us) (EP X pins σ Q) X.xe s:=by
 have r2:aN (vs++dvs) (us++ds):=r.append hd
 have hl:(us++ds).length=ps.length:=by rw [<-r2.length];exact F.len _ _ _ _ h
 refine wpAny_call (codeAny_mono (F.run X.A X.stack s H ⟨us,[]⟩ (us++ds) (vs++dvs) Q E hr I.env0 (hb s us I.kIn hl) r2 h) λr s' hq=>?_)
 cases r with
 | error e=>exact hx pins σ H s e s' I hq
 | ok fl=>
  cases fl with
  | ret u=>exact I.after hq
  | next=>exact False.elim hq
  | brk=>exact False.elim hq
  | cont=>exact False.elim hq
theorem pq (F:bv X.prog X.w X.K X.mg X.base CX k f fd ps sp) (hr:bY k X.A) (hg:Gl X x) (hm:X.mg x=some (.ref f)) (hk:PySem.W.keepIn X.K (.ref f)=true) (hb:bp X.K fd ps ds) (hd:aN dvs ds) (hx:lL CX X E)
  (ha:PA X (e::es) t) (hdb:(x==("__debug__" : Str))=false:=by decide) (he:starEach (e::es) X.env=(false,eval e X.env)::starEach es X.env:=by rfl) (hpl:(backTo pos (starEach es X.env)).any (·.1)=false:=by rfl) :
  PE X (.Call (.Name x p) (e::es) [] pos) (xt sp dvs E t):=by
 intro pins s σ H Q I h
 refine wpAny_Call_Name_kw (jG I hg hm ?_ hdb)
 refine PySem.W.callWith_K (h₀:=X.base) I.ok.mod.kin hk (thn (ha pos pins s σ H _ I h) λus s1 ⟨vs,H1,I1,r,q⟩=>⟨I1.kIn,?_⟩) he hpl
 exact vY F hr hb hd hx I1 r q
end
section
variable {X:Cx}{CX:CXT}{k:Nat}{f C:Addr}{fd:FuncData}{ps ks:List Str}{sp:Sp}{E:XK}{x m:Str}{p pos apos kpos:Pos}{e o:Expr}{es:List Expr}{kws:List Keyword}{te ta:TE}{t tk:TA}{nm:Option Str}
variable {g:List Value->List Value->List Value}{gV:List V->List V->List V}
end
structure aB (N P:List Str) (sc:Scope):Prop where
 kind:sc.kind=.function
 co:sc.isCoroutine=false
 gen:sc.isGenerator=false
 nd:N.Nodup
 pre:N.take P.length=P
 par:∀ x ∈ P,sc.names.lookup x=some .local\/sc.names.lookup x=some .cell
 nofree:∀ y ∈ sc.names,y.2≠.free
theorem lu {kindOf:Str->Option NameKind}{x:Str}:∀ {binds:List (Str×Value)}{m:Str->Option Value},(∀ v,(x,v) ∉ binds)->bindL kindOf binds m x=m x
 | [],_,_=>rfl
 | (n,v)::r,m,h=>by
  unfold bindL
  rw [lu λw hw=>h w (List.mem_cons_of_mem _ hw)]
  split
  ·have:x≠n:=by rintro rfl;exact h v List.mem_cons_self
   simp [this]
  ·rfl
theorem lq {kindOf:Str->Option NameKind}{x:Str}:∀ {binds:List (Str×Value)}{m:Str->Option Value},(∀ v,(x,v) ∉ binds)->bindC kindOf binds m x=m x
 | [],_,_=>rfl
 | (n,v)::r,m,h=>by
  unfold bindC
  rw [lq λw hw=>h w (List.mem_cons_of_mem _ hw)]
  split
  ·rfl
  ·have:x≠n:=by rintro rfl;exact h v List.mem_cons_self
   simp [this]
theorem lr {kindOf:Str->Option NameKind}{x:Str}{v:Value}:∀ {P:List Str}{vs:List Value}{i:Nat}{m:Str->Option Value},P.Nodup->P[i]?=some x->vs[i]?=some v->kindOf x=some .local->
  bindL kindOf (P.zip vs) m x=some v
 | [],_,_,_,_,h,_,_=>by simp at h
 | _::_,[],_,_,_,_,h,_=>by simp at h
 | p::P,w::vs,0,m,nd,h1,h2,hk=>by
  simp at h1 h2;subst h1;subst h2
  show bindL kindOf ((p,w)::P.zip vs) m p=_
  unfold bindL
  rw [lu λv hv=>(List.nodup_cons.mp nd).1 (List.of_mem_zip hv).1,if_pos hk]
  simp
 | p::P,w::vs,i+1,m,nd,h1,h2,hk=>by
  show bindL kindOf ((p,w)::P.zip vs) m x=_
  unfold bindL
  exact lr (i:=i) (List.nodup_cons.mp nd).2 (by simpa using h1) (by simpa using h2) hk
theorem lp {kindOf:Str->Option NameKind}{x:Str}{v:Value}:∀ {P:List Str}{vs:List Value}{i:Nat}{m:Str->Option Value},P.Nodup->P[i]?=some x->vs[i]?=some v->kindOf x≠some .local->
  bindC kindOf (P.zip vs) m x=some v
 | [],_,_,_,_,h,_,_=>by simp at h
 | _::_,[],_,_,_,_,h,_=>by simp at h
 | p::P,w::vs,0,m,nd,h1,h2,hk=>by
  simp at h1 h2;subst h1;subst h2
  show bindC kindOf ((p,w)::P.zip vs) m p=_
  unfold bindC
  rw [lq λv hv=>(List.nodup_cons.mp nd).1 (List.of_mem_zip hv).1,if_neg hk]
  simp
 | p::P,w::vs,i+1,m,nd,h1,h2,hk=>by
  show bindC kindOf ((p,w)::P.zip vs) m x=_
  unfold bindC
  exact lp (i:=i) (List.nodup_cons.mp nd).2 (by simpa using h1) (by simpa using h2) hk
noncomputable def start (N:List Str) (vs:List V):St:=vs.map some++List.replicate (N.length - vs.length) none
noncomputable def ip (CX:CXT) (P:Program) (w:World) (K:PySem.W.Frag) (mg:Str->Option Value) (base:Heap) (N:List Str) (qual:Str) (scope:Scope) (f:Addr) (cd:Value) (A:Around) (outer:List Env) (s:Shared) (H:Hp) (E:XK):Cx where
 prog:=P
 w:=w
 K:=K
 mg:=mg
 base:=base
 A:=A.deeper (envOfC qual scope s.heap.objs.size f cd)
 N:=N
 s₀:=s
 H₀:=H
 env:=envOfC qual scope s.heap.objs.size f cd
 outer:=outer
 stack:=envOfC qual scope s.heap.objs.size f cd::outer
 ex:=[]
 calm:=true
 fn:=λ_=>true
 pn:=[]
 xe:=λe s'=>wpAny (model P w) (A.deeper (envOfC qual scope s.heap.objs.size f cd)) (leaving (envOfC qual scope s.heap.objs.size f cd) e) (λ_ s''=>CX outer H s E e s'') (λe' s''=>CX outer H s E e' s'') s'
theorem mR {sc:Scope}{n:Nat}{x:Str} (h:sc.names.lookup x=some .cell):∃ c,(cellsFrom n sc.names []).lookup x=some c:=by
 have q:=PySem.W.cellsFrom_some sc.names n [] (.inl h)
 exact Option.isSome_iff_exists.mp q
theorem pU {CX:CXT}{P:Program}{w:World}{K:PySem.W.Frag}{mg:Str->Option Value}{base:Heap}{N ps:List Str}{qual:Str}{scope:Scope}{f:Addr}{cd:Value}{A:Around}{outer:List Env}{s s1:Shared}{H:Hp}{E:XK}{us:List Value}{vs:List V}
  (S:aB N ps scope) (hd:A.handled=none) (e0:nY P w K mg base A outer s H) (hl:vs.length=ps.length) (r:aN vs us)
  (x:InCallC s s.heap.objs.size (bindL (envOfC qual scope s.heap.objs.size f cd).kindOf (ps.zip us) λ_=>none) (cellsFrom (s.heap.objs.size+1) scope.names []) (bindC (envOfC qual scope s.heap.objs.size f cd).kindOf (ps.zip us) λ_=>none) s1) :
  Inv (ip CX P w K mg base N qual scope f cd A outer s H E) [] (start N vs) H s1:=by
 have hpl:ps.length<=N.length:=by have:=congrArg List.length S.pre;rw [List.length_take] at this;lia
 obtain⟨h1,tk,rfl,hk⟩:=x.done
 have noA:∀ b:Addr,b ∉ (ip CX P w K mg base N qual scope f cd A outer s H E).ex:=λb z=>absurd (show b ∈ ([]:List Addr) from z) (by simp)
 refine⟨⟨e0.mod,S.kind,rfl,rfl,Nat.le_refl _,λy z c h1 h2=>?_,λy hy=>?_,λy c _ h=>?_,λ_=>hd,Around.frames_deeper e0.frames,.inr ⟨rfl,rfl⟩,λb z=>absurd z (noA b),e0.bs,e0.bsz,λb _ _=>noA b,λb z=>absurd z (noA b),e0.funs,e0.frf⟩,
  rfl,e0.bare,Un.kept hk,⟨_,x.toInCall.ns,λi y v h1 h2 h3=>?_⟩,λy c h=>⟨_,x.cell y c h⟩,e0.hok.fresh (Nat.le_refl _),λy c h=>?_,λp hp=>absurd (show p ∈ ([]:List (Addr×Obj)) from hp) (by simp),e0.hok.kept hk,?_⟩
 ·exact name_of_addr x.apart (PySem.mem_of_lookup h1) (PySem.mem_of_lookup h2)
 ·have hy:scope.names.lookup y=some .cell\/scope.names.lookup y=some .free:=hy
  rcases hy with hy | hy
  ·exact mR hy
  ·exact absurd rfl (S.nofree _ (PySem.mem_of_lookup hy))
 ·exact Nat.le_of_lt (x.above y c (PySem.mem_of_lookup h))
 ·have hi:i < vs.length:=by
   unfold start at h2
   by_cases hi:i < vs.length
   ·exact hi
   ·rw [List.getElem?_append_right (by simpa using hi)] at h2
    rw [List.getElem?_replicate] at h2
    split at h2<;>cases h2
  have ha:vs[i]?=some v:=by
   unfold start at h2
   rw [List.getElem?_append_left (by simpa using hi),List.getElem?_map] at h2
   cases e:vs[i]? with
   | none=>rw [e] at h2;cases h2
   | some a=>rw [e] at h2;cases h2;rfl
  obtain⟨u,hu,rv⟩:=r.get ha
  have hp:ps[i]?=some y:=by
   rw [<-S.pre,List.getElem?_take_of_lt (by lia)];exact h1
  have ndP:ps.Nodup:=by rw [<-S.pre];exact S.nd.sublist (List.take_sublist _ _)
  refine⟨u,rv,?_⟩
  rcases S.par y (List.mem_of_getElem? hp) with k | k
  ·exact .inl ⟨k,lr ndP hp hu k⟩
  ·obtain⟨c,e⟩:=mR (n:=s.heap.objs.size+1) k
   refine .inr ⟨.inl k,c,e,?_⟩
   have q:=x.cell y c e
   rw [lp ndP hp hu (by show scope.names.lookup y≠_;rw [k];decide)] at q
   exact q
 ·exact e0.hok.fresh (Nat.le_of_lt (x.above y c (PySem.mem_of_lookup h)))
 ·unfold start
  show _=N.length
  rw [List.length_append,List.length_map,List.length_replicate]
  lia
theorem uF {CX:CXT}{P:Program}{w:World}{K:PySem.W.Frag}{mg:Str->Option Value}{base:Heap}{k:Nat}{f:Addr}{name qual:Str}{params:Arguments}{body:List Stmt}{scope:Scope}{dV kV doc pm cdv ct oc:Value}{an od:Option Addr}
  {osl:Array (Option Value)}{N ps:List Str}{sp:Sp} (lk:K.lookup f=some ⟨oc,od,.func (PySem.W.fnOf name qual params body scope dV kV doc pm an cdv ct),osl⟩) (hcd:PySem.W.codeIn K cdv qual=true) (S:aB N ps scope)
  (len:∀ vs H Q E,sp vs H Q E->vs.length=ps.length)
  (hbody:∀ (A:Around) (outer:List Env) (s:Shared) (H:Hp) (vs:List V) (Q:VK) (E:XK),bY k (A.deeper (envOfC qual scope s.heap.objs.size f cdv))->sp vs H Q E->
    ∃ t,PSs (ip CX P w K mg base N qual scope f cdv A outer s H E) body t/\t { nx:=λ_ H'=>Q .non H',rt:=Q } (start N vs) H) :
  bv P w K mg base CX (k+1) f (PySem.W.fnOf name qual params body scope dV kV doc pm an cdv ct) ps sp:=by
 refine⟨len,λA outer s H args us vs Q E hr e0 hb r hsp=>?_⟩
 have hl:=len _ _ _ _ hsp
 have KX:K.In s.heap:=e0.mod.kin.keeps λb o e=>(e0.bs b o e).1
 have lim:s.heap.NoLimit:=e0.mod.nolimit.keeps λb o e=>(e0.bs b o e).1
 have hkind:∀ y ∈ ps.zip us,scope.names.lookup y.1=some .local\/(scope.names.lookup y.1=some .cell/\((cellsFrom (s.heap.objs.size+1) scope.names []).lookup y.1).isSome=true):=λ⟨n,v⟩ hy=>by
  rcases S.par n (List.of_mem_zip hy).1 with q | q
  ·exact .inl q
  ·exact .inr ⟨q,PySem.W.cellsFrom_some _ _ _ (.inl q)⟩
 refine codeAny_call_function hr.depth (KX _ _ lk) rfl S.co S.gen rfl (PySem.W.codeRec_of KX hcd) (hb _ _ _ _ ?_)
 refine wpAny_newFunctionEnv_cells S.kind hkind λenv he s1 x=>?_
 subst he
 refine⟨lim.keeps x.toInCall.keep,codeAny_func ?_⟩
 obtain⟨t,ht,hq⟩:=hbody A outer s H vs Q E (hr.deeper _) hsp
 have I:Inv (ip CX P w K mg base N qual scope f cdv A outer s H E) [] (start N vs) H s1:=pU S hr.hd e0 hl r x
 refine wpAny_mono (ht [] s1 (start N vs) H _ I hq) (λfl s' hs=>?_) λe s' hs=>hs
 have fin:∀ {σ':St}{H':Hp}{v:V}{u:Value},Inv (ip CX P w K mg base N qual scope f cdv A outer s H E) [] σ' H' s'->aQ v u->Q v H'->CE outer P w H s Q u s':=
  λ{σ' H' v u} J rv q=>⟨v,H',J.os,J.bare,J.base,J.hok,rv,q⟩
 cases fl with
 | ret u=>
  obtain⟨v,σ',H',J,rv,q⟩:=hs
  exact fin J rv q
 | next=>
  obtain⟨σ',H',J,q⟩:=hs
  exact fin (v:=V.non) (u:=Value.none) J rfl q
 | brk=>
  obtain⟨_,_,_,q⟩:=hs
  exact False.elim q
 | cont=>
  obtain⟨_,_,_,q⟩:=hs
  exact False.elim q
end L2
namespace L2
open PySem PySem.Spec PyProof.Rows
section
variable {X:Cx}{x:Str}{p pos:Pos}{e:Expr}{es:List Expr}{t:TA}{id T:String}{r:List V->Hp->VK->Prop}
noncomputable def tCB (r:List V->Hp->VK->Prop) (t:TA):TE:=λσ H Q=>t σ H λvs H1=>r vs H1 Q
theorem fA (hc:cJ X (.builtin id) r) (hg:Gl X x) (hm:X.mg x=none) (hv:bootBuiltins x=some (.builtin id)) (ha:PA X (e::es) t) (hn:x≠"__name__":=by decide) (hdb:(x==("__debug__" : Str))=false:=by decide)
  (he:starEach (e::es) X.env=(false,eval e X.env)::starEach es X.env:=by rfl) (hpl:(backTo pos (starEach es X.env)).any (·.1)=false:=by rfl):PE X (.Call (.Name x p) (e::es) [] pos) (tCB r t):=by
 intro pins s σ H Q I h
 refine wpAny_Call_Name_kw (ig I hg hm hv ?_ hn hdb)
 exact PyProof.Rows.callWith_builtin1 (thn (ha pos pins s σ H _ I h) λus s1 ⟨vs,H1,I1,r1,q1⟩=>hc pins s1 σ H1 vs us Q I1 r1 q1) he hpl
theorem qd (hc:cJ X (.type T) r) (hg:Gl X x) (hm:X.mg x=none) (hv:bootBuiltins x=some (.type T)) (ha:PA X (e::es) t) (hn:x≠"__name__":=by decide) (hdb:(x==("__debug__" : Str))=false:=by decide)
  (he:starEach (e::es) X.env=(false,eval e X.env)::starEach es X.env:=by rfl) (hpl:(backTo pos (starEach es X.env)).any (·.1)=false:=by rfl):PE X (.Call (.Name x p) (e::es) [] pos) (tCB r t):=by
 intro pins s σ H Q I h
 refine wpAny_Call_Name_kw (ig I hg hm hv ?_ hn hdb)
 exact PyProof.Rows.callWith_type1 (thn (ha pos pins s σ H _ I h) λus s1 ⟨vs,H1,I1,r1,q1⟩=>hc pins s1 σ H1 vs us Q I1 r1 q1) he hpl
end
end L2
namespace HT
open PySem PyProof.Rows
section
open PySem.SeqAt
open PySem.AutoSeq1 (wpAny_loadPart')
open PySem.MeetsSeq PySem.MeetsSeq2 PySem.MeetsSeq3
end
section
variable {prog:Program}{w:World}{A:Around}{E:Value->Shared->Prop}{s:Shared}
theorem cat_tup {t b:Addr}{vs ws:List Value}{Q:Value->Shared->Prop} (ht:IsTup s.heap t vs.toArray) (hb:IsTup s.heap b ws.toArray) (hv:vs≠[])
  (h1:ws=[]->Q (.ref t) s) (h2:ws≠[]->Q (.ref s.heap.objs.size) { s with heap:=s.heap.push { cls:=.type "tuple",data:=.seq (vs++ws).toArray } })
  (hsz:vs.length+ws.length<=sizeLine):wpAny (model prog w) A (binaryOp .Add (.ref t) (.ref b)) Q E s:=by
 obtain⟨⟨cls,dd,data,sl⟩,ho,hc,n,hd⟩:=id ht
 obtain⟨⟨cls2,dd2,data2,sl2⟩,ho2,hc2,n2,hd2⟩:=id hb
 simp only at hc hd hc2 hd2
 subst hc hd hc2 hd2
 have e:vs.toArray++ws.toArray=(vs++ws).toArray:=by simp
 by_cases hw:ws=[]
 ·exact concat_meets ⟨_,ho,rfl⟩ ⟨_,ho2,rfl⟩ noFill_tuple_add seq_tuple_add PySem.F.slot_tuple_add PySem.F.entry_tuple_add (PySem.F.args_tuple_add_2 _ _)
   (tuple_addW1 t b vs.toArray ws.toArray n n2 dd dd2 sl sl2 (by simpa using hv) (by simp [hw])) ⟨ho,ho2,h1 hw⟩
 ·refine concat_meets ⟨_,ho,rfl⟩ ⟨_,ho2,rfl⟩ noFill_tuple_add seq_tuple_add PySem.F.slot_tuple_add PySem.F.entry_tuple_add (PySem.F.args_tuple_add_2 _ _)
   (tuple_addW2 t b vs.toArray ws.toArray n n2 dd dd2 sl sl2 (by simpa using hv) (by simpa using hw) (by rw [List.size_toArray,List.size_toArray];exact hsz)) ⟨ho,ho2,?_⟩
  rw [e]
  exact h2 hw
end
end HT
namespace L2
open PySem PySem.Spec PyProof.Rows
theorem h9 {ns:List Int}:∀ {us:List Value},aN (ns.map V.int) us->IntsAre us ns:=by
 induction ns with
 | nil=>intro us r;rw [List.map_nil] at r;cases r;exact .nil
 | cons n ns ih=>
  intro us r
  rw [List.map_cons] at r
  cases r with
  | cons r1 r2=>
   obtain⟨t,e⟩:=r1
   subst e
   exact .cons n t (ih r2)
section
variable {X:Cx}{e:Expr}{te:TE}{lo hi:Option Expr}{tl th:TO}{pos p2:Pos}
noncomputable def w6 (K:PySem.W.Frag):R2:=λx y H Q=>∃ a b xs ys,x=.ref a/\y=.ref b/\SqT K H a xs/\SqT K H b ys/\xs≠[]/\xs.length+ys.length<=sizeLine/\
 (ys=[]->Q (.ref a) H)/\(ys≠[]->∀ p,H p=none->Q (.ref p) (upd H p (.tup (xs++ys))))
theorem aN.nil_iff {xs:List V}{us:List Value} (r:aN xs us):us=[]↔xs=[]:=by
 cases r with
 | nil=>simp
 | cons _ _=>simp
theorem tV:OpR X (binaryOp .Add) (w6 X.K):=by
 intro pins s σ H x y v u Q I rx ry h
 obtain⟨a,b,xs,ys,rfl,rfl,ha,hb,hx,hz,q1,q2⟩:=h
 cases rx
 cases ry
 obtain⟨its,r1,p1,_⟩:=I.tuple ha
 obtain⟨its2,r2,p2,_⟩:=I.tuple hb
 refine HT.cat_tup p1 p2 (λz=>hx (r1.nil_iff.mp z)) (λz=>⟨.ref a,H,I,rfl,q1 (r2.nil_iff.mp z)⟩) (λz=>?_) (by rw [<-r1.length,<-r2.length];exact hz)
 refine⟨.ref s.heap.objs.size,_,I.laid (t':=s.toks) (o:=.tup (xs++ys)) (λb ob q=>Heap.get?_push_of_some _ q) (Nat.le_refl _) ?_,rfl,q2 (λw=>z (r2.nil_iff.mpr w)) _ (I.hok.fresh (Nat.le_refl _))⟩
 exact⟨by rw [List.length_append];exact hz,_,r1.append r2,db.new _ _⟩
end
end L2
namespace L2
open PySem PySem.Spec PyProof.Rows
noncomputable def ixN (n:Nat) (i:Int):Option Nat:=if 0<=i then (if i < n then some i.toNat else none) else if -(n:Int)<=i then some (i+n).toNat else none
noncomputable def atI {α:Type} (xs:List α) (i:Int):Option α:=(ixN xs.length i).bind λj=>xs[j]?
theorem pd {n:Nat}{i:Int}{j:Nat} (h:ixN n i=some j):seqIndex? i n=some j/\j < n/\-(n:Int)<=i/\i < n:=by
 unfold ixN at h
 by_cases h0:0<=i
 ·rw [if_pos h0] at h
  by_cases h1:i < n
  ·rw [if_pos h1] at h
   have e:i.toNat=j:=Option.some.inj h
   exact⟨by rw [seqIndex_of h0 h1,e],by lia,by lia,h1⟩
  ·rw [if_neg h1] at h;cases h
 ·rw [if_neg h0] at h
  by_cases h1:-(n:Int)<=i
  ·rw [if_pos h1] at h
   have e:(i+n).toNat=j:=Option.some.inj h
   exact⟨by rw [seqIndex_neg (by lia) h1,e],by lia,h1,by lia⟩
  ·rw [if_neg h1] at h;cases h
theorem lN {α:Type}{xs:List α}{i:Int}{v:α} (h:atI xs i=some v):∃ j,seqIndex? i xs.length=some j/\xs[j]?=some v/\j < xs.length/\-(xs.length:Int)<=i/\i < xs.length:=by
 unfold atI at h
 cases e:ixN xs.length i with
 | none=>rw [e] at h;cases h
 | some j=>
  rw [e] at h
  obtain⟨h1,h2,h3,h4⟩:=pd e
  exact⟨j,h1,h,h2,h3,h4⟩
theorem gD {α:Type}{xs:List α}{j:Nat}{v:α} (h:xs[j]?=some v):atI xs (j:Int)=some v:=by
 have hj:j < xs.length:=(List.getElem?_eq_some_iff.mp h).1
 have e:ixN xs.length (j:Int)=some j:=by
  unfold ixN
  rw [if_pos (by lia),if_pos (by lia)];simp
 unfold atI;rw [e];exact h
theorem qz {α:Type} (xs:List α) (v:α):atI (xs++[v]) (-1)=some v:=by
 have hl:(xs++[v]).length=xs.length+1:=by simp
 have e:ixN (xs++[v]).length (-1)=some xs.length:=by
  unfold ixN
  rw [hl,if_neg (by decide),if_pos (by lia)]
  congr 1
  lia
 unfold atI
 rw [e]
 show (xs++[v])[xs.length]?=some v
 simp
noncomputable def oX (b:Expr):Prop:=∀ o i,subscripted b false o i=operate [o,i] (getItem o i)
noncomputable def IxR (X:Cx) (r:R2):Prop:=
 ∀ (value slice:Expr) (pins:List (Addr×Obj)) (s:Shared) (σ:St) (H:Hp) (x y:V) (v u:Value) (Q:VK),Inv X pins σ H s->aQ x v->aQ y u->r x y H Q->
  subscripted slice false v u=operate [v,u] (getItem v u)->wpAny (model X.prog X.w) X.A (subscriptTail value slice v u) (EP X pins σ Q) X.xe s
section
variable {X:Cx}{a b:Expr}{ta tb:TE}{pos:Pos}
theorem IxR.or {r r':R2} (h:IxR X r) (h':IxR X r'):IxR X (λx y H Q=>r x y H Q\/r' x y H Q):=by
 intro value slice pins s σ H x y v u Q I rx ry q hs
 rcases q with q | q
 ·exact h value slice pins s σ H x y v u Q I rx ry q hs
 ·exact h' value slice pins s σ H x y v u Q I rx ry q hs
theorem wT {r:R2} (hr:IxR X r) (ha:PE X a ta) (hb:PE X b tb) (hs:oX b):PE X (.Subscript a b pos) (tOp r ta tb):=by
 intro pins s σ H Q I h
 exact Subscript_ (uX ha hb I h λv u s2 x y H2 I2 rx ry q=>hr a b pins s2 σ H2 x y v u Q I2 rx ry q (hs _ _))
noncomputable def xc (K:PySem.W.Frag):R2:=λx y H Q=>∃ p xs i v,x=.ref p/\y=.int i/\SqL K H p xs/\atI xs i=some v/\Q v H
noncomputable def xh (K:PySem.W.Frag):R2:=λx y H Q=>∃ p xs i v,x=.ref p/\y=.int i/\SqT K H p xs/\atI xs i=some v/\Q v H
noncomputable def xg:R2:=λx y H Q=>∃ z i c,x=.str z/\y=.int i/\z.length<=sizeLine/\atI z.cps.toList i=some c/\Q (.str ⟨#[c]⟩) H
theorem tN:IxR X (xc X.K):=by
 intro value slice pins s σ H x y v u Q I rx ry h hs
 obtain⟨p,xs,i,z,rfl,rfl,hq,he,q⟩:=h
 cases rx
 obtain⟨t,rfl⟩:=ry
 obtain⟨its,r,pl,hz⟩:=I.list hq
 obtain⟨j,h1,h2,h3,h4,h5⟩:=lN he
 obtain⟨w,ew,rw'⟩:=r.get h2
 have hl:=r.length
 have hn:=ii
 have fin:EP X pins σ Q w s:=⟨z,H,I,rw',q⟩
 by_cases h0:0<=i
 ·have hj:i.toNat=j:=by
   rw [seqIndex_of h0 h5] at h1
   exact Option.some.inj h1
  exact item_listR pl.isList h0 (by lia) (by rw [hj];simpa using ew) fin hs
 ·have hj:(i+(its.toArray.size:Int)).toNat=j:=by
   rw [seqIndex_neg (by lia) h4] at h1
   rw [List.size_toArray,<-hl]
   exact Option.some.inj h1
  exact subscriptTail_builtinR (x:=w) pl.isList.typeIs slot_list_getitem.lookup
   (wpAny_getItem_list_neg (Q:=λr s'=>r=w/\EP X pins σ Q r s') pl.isList (by lia) (by rw [List.size_toArray]<;>lia) (by lia) (by rw [hj];simpa using ew) ⟨rfl,fin⟩) hs
theorem vh:IxR X (xh X.K):=by
 intro value slice pins s σ H x y v u Q I rx ry h hs
 obtain⟨p,xs,i,z,rfl,rfl,hq,he,q⟩:=h
 cases rx
 obtain⟨t,rfl⟩:=ry
 obtain⟨its,r,pl,hz⟩:=I.tuple hq
 obtain⟨j,h1,h2,h3,h4,h5⟩:=lN he
 obtain⟨w,ew,rw'⟩:=r.get h2
 have hl:=r.length
 have hn:=ii
 have fin:EP X pins σ Q w s:=⟨z,H,I,rw',q⟩
 exact subscriptTail_builtinR (x:=w) pl.typeIs slot_tuple_getitem.lookup
  (getItem_tuple (j:=j) (Q:=λr s'=>r=w/\EP X pins σ Q r s') pl (by lia) (by lia) (by rw [List.size_toArray,<-hl];exact h1) (by simpa using ew) ⟨rfl,fin⟩) hs
theorem vg:IxR X xg:=by
 intro value slice pins s σ H x y v u Q I rx ry h hs
 obtain⟨z,i,c,rfl,rfl,hz,he,q⟩:=h
 obtain⟨t,rfl⟩:=rx
 obtain⟨t',rfl⟩:=ry
 obtain⟨j,h1,h2,h3,h4,h5⟩:=lN he
 have hl:z.cps.toList.length=z.length:=by simp [Str.length]
 rw [hl] at h1 h4 h5
 have hn:=ii
 exact tail_any (typeIs_str s z t) slot_str_getitem.lookup (getItem_str (c:=c) (by
  have e1:decide (i < -(2 ^ 63:Int))=false:=decide_eq_false (by lia)
  have e2:decide (i>=2 ^ 63)=false:=decide_eq_false (by lia)
  rw [e1,e2,Bool.or_false]) (by rw [h1];simpa using h2) ⟨.str ⟨#[c]⟩,H,I.tok _,⟨_,rfl⟩,q⟩) hs
noncomputable def rIx (K:PySem.W.Frag):R2:=λx y H Q=>xc K x y H Q\/xh K x y H Q\/xg x y H Q
theorem qP:IxR X (rIx X.K):=tN.or (vh.or vg)
theorem oz (its:List Value) (n j:Nat) (u:Value):Obj.mapSeq (·.setIfInBounds j u) { cls:=.type "list",data:=.seq its.toArray n }={ cls:=.type "list",data:=.seq (its.set j u).toArray n }:=by
 simp [Obj.mapSeq]
theorem Inv.lst {pins:List (Addr×Obj)}{σ:St}{H:Hp}{s:Shared}{p:Addr}{xs:List V} (I:Inv X pins σ H s) (h:H p=some (.lst xs)) :
  ∃ (its:List Value) (n:Nat),aN xs its/\s.heap.get? p=some { cls:=.type "list",data:=.seq its.toArray n }/\xs.length<=sizeLine:=by
 obtain⟨z,its,n,r,e⟩:=I.hok p _ h
 exact⟨its,n,r,e,z⟩
theorem Inv.lstUpd {pins:List (Addr×Obj)}{σ:St}{H:Hp}{s:Shared}{p:Addr}{xs ys:List V}{its its':List Value}{n n':Nat}{f:Obj->Obj} (I:Inv X pins σ H s) (h:H p=some (.lst xs))
  (ho:s.heap.get? p=some { cls:=.type "list",data:=.seq its.toArray n }) (hf:f { cls:=.type "list",data:=.seq its.toArray n }={ cls:=.type "list",data:=.seq its'.toArray n' }) (r:aN ys its') (hz:ys.length<=sizeLine) (t:Nat) :
  Inv X pins σ (upd H p (.lst ys)) { s with heap:=s.heap.update p f,toks:=t }:=by
 have e:(s.heap.update p f).get? p=some { cls:=.type "list",data:=.seq its'.toArray n' }:=by
  rw [Heap.get?_update_self f ho (by rw [hf]<;>rfl),hf]
 refine I.write (x:=p) (e:=p) (by rw [h];trivial) (.inl rfl) (λb u hb q=>(Heap.get?_update_other _ _ (Ne.symm hb)).trans q) ⟨_,e⟩ ?_
 exact⟨hz,its',n',r,e⟩
noncomputable def xj:V->V->V->Hp->(Hp->Prop)->Prop:=λo i v H Q=>∃ p xs k j,o=.ref p/\i=.int k/\H p=some (.lst xs)/\ixN xs.length k=some j/\Q (upd H p (.lst (xs.set j v)))
theorem sk:wm X xj:=by
 intro pins s σ H o i v ov iv u Q I ro ri rv h
 obtain⟨p,xs,k,j,rfl,rfl,hp,hj,q⟩:=h
 cases ro
 obtain⟨t,rfl⟩:=ri
 obtain⟨its,n,r,ho,hz⟩:=I.lst hp
 obtain⟨h1,h2,h3,h4⟩:=pd hj
 have hl:=r.length
 have hn:=ii
 have I':Inv X pins σ (upd H p (.lst (xs.set j v))) { s with heap:=s.heap.update p (Obj.mapSeq (·.setIfInBounds j u)) }:=
  I.lstUpd hp ho (oz its n j u) (r.set rv j) (by rw [List.length_set];exact hz) s.toks
 by_cases h0:0<=k
 ·have hk:k.toNat=j:=by
   rw [seqIndex_of h0 h4] at h1
   exact Option.some.inj h1
  exact PySem.W.ki_setAt ho h0 (by lia) (by rw [List.size_toArray,<-hl];exact h4) (by rw [hk];exact⟨_,I',q⟩)
 ·have hk:(k+(its.toArray.size:Int)).toNat=j:=by
   rw [seqIndex_neg (by lia) h3] at h1
   rw [List.size_toArray,<-hl]
   exact Option.some.inj h1
  exact PySem.W.ki_setBack ho (by lia) (by rw [List.size_toArray,<-hl];exact h3) (by lia) (by rw [hk];exact⟨_,I',q⟩)
noncomputable def j6:V->Bool
 | .non=>true
 | .bl _=>true
 | .int _=>true
 | .str _=>true
 | _=>false
noncomputable def eqV:V->V->Bool
 | .non,.non=>true
 | .bl a,.bl b=>a==b
 | .bl a,.int b=>(if a then 1 else 0)==b
 | .int a,.bl b=>a==(if b then 1 else 0)
 | .int a,.int b=>a==b
 | .str a,.str b=>a==b
 | _,_=>false
theorem qF {A:Around}{s:Shared}{y x:V}{u v:Value} (ry:aQ y u) (rx:aQ x v) (fy:j6 y=true) (fx:j6 x=true):SeqAt.EqAt A s u v (eqV y x):=by
 cases y with
 | non=>
  cases ry
  cases x with
  | non=>cases rx;exact SeqAt.EqAt.same _
  | bl b=>cases rx;exact SeqAt.EqAt.none_bool b
  | int b=>obtain⟨t,rfl⟩:=rx;exact SeqAt.EqAt.none_int b t
  | str b=>obtain⟨t,rfl⟩:=rx;exact SeqAt.EqAt.none_str b t
  | _=>exact absurd (show false=true from fx) Bool.false_ne_true
 | bl a=>
  cases ry
  cases x with
  | non=>cases rx;exact SeqAt.EqAt.bool_none a
  | bl b=>cases rx;exact SeqAt.EqAt.bool_bool a b
  | int b=>obtain⟨t,rfl⟩:=rx;exact SeqAt.EqAt.bool_int a b t
  | str b=>obtain⟨t,rfl⟩:=rx;exact SeqAt.EqAt.bool_str a b t
  | _=>exact absurd (show false=true from fx) Bool.false_ne_true
 | int a=>
  obtain⟨t',rfl⟩:=ry
  cases x with
  | non=>cases rx;exact SeqAt.EqAt.int_none a t'
  | bl b=>cases rx;exact SeqAt.EqAt.int_bool a t' b
  | int b=>obtain⟨t,rfl⟩:=rx;exact SeqAt.EqAt.int_int a t' b t
  | str b=>obtain⟨t,rfl⟩:=rx;exact SeqAt.EqAt.int_str a t' b t
  | _=>exact absurd (show false=true from fx) Bool.false_ne_true
 | str a=>
  obtain⟨t',rfl⟩:=ry
  cases x with
  | non=>cases rx;exact SeqAt.EqAt.str_none a t'
  | bl b=>cases rx;exact SeqAt.EqAt.str_bool a t' b
  | int b=>obtain⟨t,rfl⟩:=rx;exact SeqAt.EqAt.str_int a t' b t
  | str b=>obtain⟨t,rfl⟩:=rx;exact SeqAt.EqAt.str_str a t' b t
  | _=>exact absurd (show false=true from fx) Bool.false_ne_true
 | _=>exact absurd (show false=true from fy) Bool.false_ne_true
theorem lQ:cJ X (.builtin "len") (λxs H Q=>∃ p ys,xs=[.ref p]/\(SqL X.K H p ys\/SqT X.K H p ys)/\Q (.int ys.length) H):=by
 intro pins s σ H xs us Q I r h
 obtain⟨p,ys,rfl,hq,q⟩:=h
 obtain⟨u,rfl,rx⟩:=kL r
 cases rx
 have hn:=ii
 rcases hq with hq | hq
 ·obtain⟨its,r',pl,hz⟩:=I.list hq
  have hlen:=r'.length
  exact Calls.call_len_list pl.isList (by simp only [List.size_toArray]<;>lia) ⟨.int ys.length,H,I.tok _,⟨s.toks+1,by rw [List.size_toArray,hlen]⟩,q⟩
 ·obtain⟨its,r',pl,hz⟩:=I.tuple hq
  have hlen:=r'.length
  exact len_tuple pl (by simp only [List.size_toArray]<;>lia) ⟨.int ys.length,H,I.tok _,⟨s.toks+1,by rw [List.size_toArray,hlen]⟩,q⟩
theorem lR:cJ X (.builtin "len") (λxs H Q=>∃ z,xs=[.str z]/\z.length<=sizeLine/\Q (.int z.length) H):=by
 intro pins s σ H xs us Q I r h
 obtain⟨z,rfl,hz,q⟩:=h
 obtain⟨u,rfl,t,rfl⟩:=kL r
 have hn:=ii
 exact len_str (by lia) ⟨.int z.length,H,I.tok _,⟨_,rfl⟩,q⟩
theorem kT:cJ X (.type "tuple") (λxs H Q=>∃ p ys,xs=[.ref p]/\((SqL X.K H p ys/\∀ l,H l=none->Q (.ref l) (upd H l (.tup ys)))\/(SqT X.K H p ys/\Q (.ref p) H))):=by
 intro pins s σ H xs us Q I r h
 obtain⟨p,ys,rfl,h⟩:=h
 obtain⟨u,rfl,rx⟩:=kL r
 cases rx
 rcases h with⟨hq,q⟩ | ⟨hq,q⟩
 ·obtain⟨its,r',pl,hz⟩:=I.list hq
  have hlen:=r'.length
  refine call_tuple_list pl.isList (λh' kp=>?_) (by simp only [List.size_toArray]<;>lia)
  have I1:Inv X pins σ H { s with heap:=h' }:=I.kept (t':=s.toks) kp
  have I2:Inv X pins σ (upd H h'.objs.size (.tup ys)) { s with heap:=h'.push { cls:=.type "tuple",data:=.seq its.toArray } }:=
   I1.laid (t':=s.toks) (λb o e=>Heap.get?_push_of_some _ e) (Nat.le_refl _) (show bL X.prog X.w _ _ _ (.tup ys) from ⟨hz,its,r',db.new _ _⟩)
  exact⟨.ref h'.objs.size,_,I2,rfl,q _ (I1.hok.fresh (Nat.le_refl _))⟩
 ·obtain⟨its,r',pl,hz⟩:=I.tuple hq
  exact call_tuple_same pl ⟨.ref p,H,I,rfl,q⟩
variable {o e:Expr}{es:List Expr}{to:TE}{t:TA}{name:Str}{apos cpos:Pos}{T id:String}{r:V->List V->Hp->VK->Prop}
end
end L2
namespace L2
open PySem PySem.Spec PyProof.Rows
theorem aN.two {x y:V}{us:List Value} (h:aN [x,y] us):∃ u v,us=[u,v]/\aQ x u/\aQ y v:=by
 cases h with
 | cons r t=>cases t with
  | cons q t2=>cases t2;exact⟨_,_,rfl,r,q⟩
theorem aN.rep {xs:List V}{us:List Value} (h:aN xs us):∀ k:Nat,aN (List.replicate k xs).flatten (List.replicate k us).flatten
 | 0=>.nil
 | k+1=>by
  rw [List.replicate_succ,List.replicate_succ,List.flatten_cons,List.flatten_cons]
  exact aN.append h (aN.rep h k)
theorem iZ (its:List Value):∀ (k:Nat) (acc:List Value),
  List.foldl (λx1 x2=>x1++x2) acc.toArray (List.replicate k its.toArray)=(acc++(List.replicate k its).flatten).toArray
 | 0,acc=>by simp
 | k+1,acc=>by
  have e:acc.toArray++its.toArray=(acc++its).toArray:=by simp
  have e2:(acc++its)++(List.replicate k its).flatten=acc++(List.replicate (k+1) its).flatten:=by
   rw [List.replicate_succ,List.flatten_cons,List.append_assoc]
  rw [<-e2,<-iZ its k (acc++its),<-e,List.replicate_succ,List.foldl_cons]
section
variable {X:Cx}{pins:List (Addr×Obj)}{σ:St}{H:Hp}{s:Shared}{l b:Addr}{xs ys zs:List V}
theorem Inv.lnew {its:List Value}{t':Nat} (I:Inv X pins σ H s) (hv:aN ys its) (hz:ys.length<=sizeLine) :
  Inv X pins σ (upd H s.heap.objs.size (.lst ys)) { s with heap:=s.heap.push { cls:=.type "list",data:=.seq its.toArray },toks:=t' }:=
 I.laid (λ_ _ q=>Heap.get?_push_of_some _ q) (Nat.le_refl _) ⟨hz,its,0,hv,Heap.get?_push_size _ rfl⟩
theorem Inv.fresh (I:Inv X pins σ H s):H s.heap.objs.size=none:=I.hok.fresh (Nat.le_refl _)
theorem rj {n:Nat} (h:n<=sizeLine):Builtin.List.listTooLong n=false:=by
 unfold Builtin.List.listTooLong
 exact decide_eq_false (by lia)
end
section
variable {X:Cx}
theorem mf {α:Type} (xs:List α) (k:Nat):(List.replicate k xs).flatten.length=k*xs.length:=by
 induction k with
 | zero=>simp
 | succ k ih=>rw [List.replicate_succ,List.flatten_cons,List.length_append,ih,Nat.succ_mul,Nat.add_comm]
end
section
variable {prog:Program}{w:World}{A:Around}{E:Value->Shared->Prop}{s:Shared}
end
section
variable {X:Cx}
end
end L2
namespace Att
open PySem PySem.W PySem.Calls PyProof.Rows
theorem jy {P:Params}{h:Heap}:∀ (ns:List Int) (vs:List Value),WellAll P h vs (ns.map WData.int)->IntsAre vs ns:=by
 intro ns
 induction ns with
 | nil=>
  intro vs w
  rw [List.map_nil] at w
  cases w
  exact .nil
 | cons n ns ih=>
  intro vs w
  rw [List.map_cons] at w
  cases w with
  | cons a b=>
   cases a
   exact .cons _ _ (ih _ b)
theorem qk {l:OpenLaw}{n:Nat} (hn:l.most=some n) {P:Params}{h:Heap}{args:List WData}{vals:List Value}
  (hpre:l.row.toRowW.claim.pre args=true) (hwl:WellAll P h vals args) :
  ∃ a vs ns,vals=[Value.ref a]/\args=[WData.list (ns.map WData.int)]/\h.get? a=some { cls:=.type "list",data:=.seq vs.toArray }/\IntsAre vs ns/\ns.length<=n:=by
 have hsh:WShape.hasAll [] args [.list .int]=true:=(pre_splitW hpre).1
 have hc:l.pre.holds [] { args:=args }=true:=(pre_splitW hpre).2
 obtain⟨d,r,rfl,h1,h2⟩:=hasAllW_cons hsh
 obtain rfl:=hasAllW_nil h2
 obtain⟨xs,rfl,h3⟩:=hasW_list h1
 obtain⟨ns,rfl⟩:=items_int h3
 have hlen:ns.length<=n:=by
  unfold OpenLaw.pre at hc
  have h4:(WTm.not (.lt (.lit (.int (n:Int))) (.len (.arg 0)))).holds [] { args:=[.list (ns.map .int)] }=true:=by
   have h4:=(holds_andW hc).1
   rw [hn] at h4
   exact h4
  have h5:=condW_of h4 (w_not (w_lt w_lit (w_len_list (w_arg rfl))))
  rw [List.length_map] at h5
  refine Nat.le_of_not_lt λq=>?_
  have q':(n:Int) < ((ns.length:Nat):Int):=by lia
  first
   | (rw [decide_eq_true q'] at h5;exact absurd h5 (by decide))
   | (simp at h5;lia)
 cases hwl with
 | cons w1 w2=>
  cases w2
  cases w1 with
  | list ho hall=>exact⟨_,_,ns,rfl,rfl,ho,jy ns _ hall,hlen⟩
theorem qf (l:OpenLaw) (args:List WData):l.row.toRowW.claim.post args (.bool true) args=true:=
 postW_of (r:=l.row.toRowW) (X:=(true==true))
  (show WShape.has [] (.bool true) .bool=true by first | rfl | decide | simp [WShape.has,WShape.arms,WShape.armsAll])
  (show (WTm.eq .res (.lit (.bool true))).value [] { args:=args,res:=some (.bool true),after:=args }=some (.bool (true==true)) from w_eq_bool (w_res rfl) w_lit) rfl
theorem attach_call {l:OpenLaw}{n:Nat}{q:Program}{loose:List Str}{XP:(Str->Option Value)->Heap->Prop}{YP:World->Heap->Prop}{d:DefRec}
  (hn:l.most=some n) (hdf:d.params.defaults=[])
  (call:∀ (w:World) (s₀ s₁:Shared) (mg mb:Str->Option Value) (fa:Addr) (o:Obj) (pm cd doc:Value) (a:Addr) (vs:List Value) (ns:List Int),
    Ground q loose [] XP w s₀ mg mb s₁.heap->YP w s₁.heap->
    s₁.heap.get? fa=some o->o.data=.func (docDef d.name d.params d.body d.scope pm cd doc)->s₁.heap.CodeRec cd d.name->mg d.name=some (.ref fa)->
    s₁.heap.get? a=some { cls:=.type "list",data:=.seq vs.toArray }->IntsAre vs ns->ns.length<=n->s₁.gens=#[]->
    codeAny (model l.prog w) callerA (.call (.ref fa) ⟨[.ref a],[]⟩) (λr s'=>r=.ok (.ret (.bool true))/\OldK s₁.heap s'.heap/\s'.os=s₁.os/\AllBare s'.gens) s₁) :
  WalkO q loose XP YP l.row.toRowW d [] (λf vs=>PySem.call f vs):=by
 intro w s₀ s₁ mg mb G Y fa o pm cd doc dV kV ho hd hcd hD hmg hg args vals as hpre hlay hrd hwl hlo
 obtain rfl:dV=.none:=Dflts.none hD hdf
 obtain rfl:kV=.none:=Dflts.noKw hD
 obtain⟨a,vs,ns,rfl,rfl,hobj,hints,hlen⟩:=qk hn hpre hwl
 refine enter_call (codeAny_mono (call w s₀ s₁ mg mb fa o pm cd doc a vs ns G Y ho (fd_plain hd) hcd hmg hobj hints hlen hg) λr s' hq=>?_)
 obtain⟨rfl,h2,h3,h4⟩:=hq
 exact⟨.inl ⟨.bool true,.bool true,[],rfl,λ_=>rfl,.bool true,qf l _,λ_=>⟨List.Pairwise.nil,λ_ hm=>(nomatch hm)⟩⟩,h2,h3,h4⟩
section
variable {prog:Program}{w:World}{A:Around}{E:Value->Shared->Prop}{s:Shared}{K:Frag}
end
end Att
namespace L2
open PySem PySem.Spec PyProof.Rows
theorem lI:∀ {vs:List Value}{ns:List Int},IntsAre vs ns->aN (ns.map V.int) vs
 | _,_,.nil=>.nil
 | _,_,.cons n t h=>.cons ⟨t,rfl⟩ (lI h)
noncomputable def sP (H:Hp):Prop:=∀ b,H b=none\/∃ o xs,H b=some (.frz o (.lst xs))
theorem qW {P:Program}{w:World}{K:PySem.W.Frag}{mg mb:Str->Option Value}{CX:CXT}{k:Nat}{fa a:Addr}{fd:FuncData}{x:Str}{sp:Sp}{s₁:Shared}{vs:List Value}{ns:List Int}
  (KX:K.In s₁.heap) (hns:s₁.heap.Ns mainGlobals mg) (hb:s₁.heap.Ns builtinsNs mb) (hbb:∀ x:Str,x≠"__name__"->mb x=bootBuiltins x) (hlim:s₁.heap.NoLimit) (hg:s₁.gens=#[])
  (ha:s₁.heap.get? a=some { cls:=.type "list",data:=.seq vs.toArray }) (hi:IntsAre vs ns) (hl:ns.length<=sizeLine) (hr:bY k callerA)
  (F:∀ base:Heap,K.In base->base.Ns mainGlobals mg->bv P w K mg base CX k fa fd [x] sp) (hbind:∀ (s:Shared) (u:Value),BindsTo s fd ⟨[u],[]⟩ [(x,u)])
  (hsp:∀ H:Hp,sP H->SqL K H a (ns.map V.int)->sp [.ref a] H (λv _=>v=.bl true) λ_ _ _=>False)
  (hCX:∀ H e s',CX [] H s₁ (λ_ _ _=>False) e s'->False) :
  codeAny (model P w) callerA (.call (.ref fa) ⟨[.ref a],[]⟩) (λr s'=>r=.ok (.ret (.bool true))/\OldK s₁.heap s'.heap/\s'.os=s₁.os/\AllBare s'.gens) s₁:=by
 have rv:=lI hi
 have lenV:=hi.length
 -- from an abstract heap in which nothing but the script may be tracked
 have core:∀ H:Hp,sP H->SqL K H a (ns.map V.int)->HOk P w H s₁.heap->(∀ b,H b≠none->b=a)->(H a≠none->K.lookup a=none)->
   codeAny (model P w) callerA (.call (.ref fa) ⟨[.ref a],[]⟩) (λr s'=>r=.ok (.ret (.bool true))/\OldK s₁.heap s'.heap/\s'.os=s₁.os/\AllBare s'.gens) s₁:=by
  intro H hO hS hok hA hK
  have base_of:∀ {b:Addr}{o:Obj},s₁.heap.get? b=some o->H b=none->(l5 s₁.heap H).get? b=some o:=λe n=>qJ e n
  have noA:∀ {b:Addr}{o:Obj}{es:Array DictEntry}{ep:Nat},s₁.heap.get? b=some o->o.data=.dict es ep->H b=none:=λ{b o es ep} e d=>by
   cases q:H b with
   | none=>rfl
   | some u=>
    have e':b=a:=hA b (by rw [q];simp)
    subst e'
    rw [ha] at e;cases e
    have d':Data.seq vs.toArray _=Data.dict es ep:=d
    cases d'
  have nsK:∀ {b:Addr}{m:Str->Option Value},s₁.heap.Ns b m->(l5 s₁.heap H).Ns b m:=λ{b m} ⟨o,es,ep,e,d,r⟩=>⟨o,es,ep,base_of e (noA e d),d,r⟩
  have hKb:K.In (l5 s₁.heap H):=λb o e=>base_of (KX b o e) (by
   cases q:H b with
   | none=>rfl
   | some u=>
    have e':b=a:=hA b (by rw [q];simp)
    subst e'
    rw [hK (by rw [q];simp)] at e;cases e)
  have hM:Mod K mg (l5 s₁.heap H):=⟨hKb,nsK hns,⟨mb,nsK hb,hbb⟩,let ⟨mc,h1,h2⟩:=hlim;⟨mc,nsK h1,h2⟩⟩
  have e0:nY P w K mg (l5 s₁.heap H) callerA [] s₁ H:=⟨rfl,hM,λb o e=>tQ e,Nat.le_of_eq (pR _ _),trivial,λb hb=>absurd (show b ∈ ([]:List Addr) from hb) (by simp),hok,.of_eq hg⟩
  refine codeAny_mono ((F _ hKb (nsK hns)).run callerA [] s₁ H ⟨[.ref a],[]⟩ [.ref a] [.ref a] _ _ hr e0 (hbind s₁ (.ref a)) (.cons rfl .nil) (hsp H hO hS)) λr s' h=>?_
  cases r with
  | error e=>exact (hCX H e s' h).elim
  | ok fl=>
   cases fl with
   | next=>exact False.elim h
   | brk=>exact False.elim h
   | cont=>exact False.elim h
   | ret u=>
    obtain⟨v,H',os,bare,un,hok',r',q⟩:=h
    have q':v=.bl true:=q
    subst q'
    obtain rfl:u=Value.bool true:=r'
    refine⟨rfl,OldK.of_keep λb o e=>?_,os,bare⟩
    cases q:H b with
    | none=>exact un.keep b o e q (by intro z;exact absurd (show b ∈ ([]:List Addr) from z) (by simp)) (by simp)
    | some u=>
     rcases hO b with z | ⟨ob,xs,z⟩
     ·rw [q] at z;cases z
     ·have z2:=un.frzs b ob _ z
      obtain⟨e1,_⟩:=hok b _ z
      obtain⟨e2,_⟩:=hok' b _ z2
      rw [e] at e1;cases e1
      exact e2
 cases hk:K.lookup a with
 | some o=>
  -- the script is one of the module's own objects
  have e:=KX a o hk
  rw [ha] at e
  cases e
  refine core (λ_=>none) (λ_=>.inl rfl) (.inr ⟨_,vs.toArray,_,hk,rfl,rfl,rfl,by rw [List.size_toArray,lenV];exact hl,by simpa using rv⟩) (λb u z=>by have z':(none:Option HO)=some u:=z;cases z') (λb z=>absurd rfl z) λz=>absurd rfl z
 | none=>
  refine core (λb=>if b=a then some (.frz { cls:=.type "list",data:=.seq vs.toArray } (.lst (ns.map V.int))) else none) (λb=>?_) (.inl (.inr ⟨{ cls:=.type "list",data:=.seq vs.toArray },if_pos rfl⟩)) (λb u z=>?_) (λb z=>?_) λ_=>hk
  ·by_cases hb:b=a
   ·exact .inr ⟨_,_,if_pos hb⟩
   ·exact .inl (if_neg hb)
  ·by_cases hb:b=a
   ·have z':=(if_pos hb).symm.trans z
    cases z'
    subst hb
    exact⟨ha,by rw [List.length_map];exact hl,vs,_,rv,ha⟩
   ·have z':=(if_neg hb).symm.trans z
    cases z'
  ·by_cases hb:b=a
   ·exact hb
   ·exact absurd (if_neg hb) z
end L2
namespace L2
open PySem PySem.Spec PyProof.Rows
theorem walk_of {l:PySem.W.OpenLaw}{n k:Nat}{q:Program}{loose:List Str}{XP:(Str->Option Value)->Heap->Prop}{YP:World->Heap->Prop}{d:DefRec}{K:Params->PySem.W.Frag}{CX:World->CXT}{sp:World->Sp}{x:Str}
  (hn:l.most=some n) (hn2:n<=sizeLine) (hdf:d.params.defaults=[]) (hr:bY k callerA)
  (hY:∀ (w:World) (h:Heap),YP w h->(K w.params).In h)
  (F:∀ (w:World) (mg:Str->Option Value) (fa:Addr) (h:Heap),(K w.params).In h->h.Ns mainGlobals mg->mg d.name=some (.ref fa)->
    ∃ fd:FuncData,(∀ (s:Shared) (u:Value),BindsTo s fd ⟨[u],[]⟩ [(x,u)])/\
     ∀ base:Heap,(K w.params).In base->base.Ns mainGlobals mg->bv l.prog w (K w.params) mg base (CX w) k fa fd [x] (sp w))
  (hsp:∀ (w:World) (H:Hp) (a:Addr) (ns:List Int),ns.length<=n->sP H->SqL (K w.params) H a (ns.map V.int)->sp w [.ref a] H (λv _=>v=.bl true) λ_ _ _=>False)
  (hCX:∀ (w:World) (H:Hp) (s:Shared) (e:Value) (s':Shared),CX w [] H s (λ_ _ _=>False) e s'->False) :
  PySem.W.WalkO q loose XP YP l.row.toRowW d [] (λf vs=>PySem.call f vs):=by
 refine Att.attach_call hn hdf λw s₀ s₁ mg mb fa o pm cd doc a vs ns G Y ho hd hcd hmg hobj hints hlen hg=>?_
 have KX:=hY w _ Y
 obtain⟨fd,hb,hF⟩:=F w mg fa _ KX G.T.g hmg
 exact qW KX G.T.g G.T.b G.T.builtins G.T.nolimit hg hobj hints (Nat.le_trans hlen hn2) hr hF hb (λH hO hS=>hsp w H a ns hlen hO hS) λH e s'=>hCX w H s₁ e s'
end L2
namespace L2
open PySem PySem.Spec PyProof.Rows
noncomputable def jB (s:Stmt):Arguments:=match s with
 | .FunctionDef _ a _ _ _ _ _ _ _ _=>a
 | _=>{ posonlyargs:=[],args:=[],vararg:=none,kwonlyargs:=[],kw_defaults:=[],kwarg:=none,defaults:=[] }
noncomputable def cE (s:Stmt):List Stmt:=match s with
 | .FunctionDef _ _ b _ _ _ _ _ _ _=>b
 | _=>[]
noncomputable def aj (s:Stmt):Scope:=match s with
 | .FunctionDef _ _ _ _ _ _ sc _ _ _=>sc
 | _=>{ kind:=.function,names:=[],isGenerator:=false,isCoroutine:=false }
abbrev CX0:CXT:=λ_ _ _ _ _ _=>False
abbrev E0:XK:=λ_ _ _=>False
theorem wQ {X:Cx}:lL CX0 X E0:=λ_ _ _ _ _ _ _ h=>h.elim
structure Fun (K:PySem.W.Frag) (x qual:Str) (st:Stmt) (f:Addr) (fd:FuncData):Prop where
 ex:∃ (oc:Value) (od:Option Addr) (kV doc pm:Value) (an:Option Addr) (cdv ct:Value) (osl:Array (Option Value)),
  fd=PySem.W.fnOf x qual (jB st) (cE st) (aj st) .none kV doc pm an cdv ct/\K.lookup f=some ⟨oc,od,.func fd,osl⟩/\PySem.W.codeIn K cdv qual=true
 kp:PySem.W.keepIn K (.ref f)=true
section
variable {P:Program}{w:World}{K:PySem.W.Frag}{mg:Str->Option Value}{base:Heap}
theorem Fun.ok {x qual:Str}{st:Stmt}{f:Addr}{fd:FuncData}{N ps:List Str}{k:Nat}{sp:Sp} (F:Fun K x qual st f fd) (S:aB N ps (aj st)) (len:∀ vs H Q E,sp vs H Q E->vs.length=ps.length)
  (hbody:∀ (cdv:Value) (A:Around) (outer:List Env) (s:Shared) (H:Hp) (vs:List V) (Q:VK) (E:XK),bY k (A.deeper (envOfC qual (aj st) s.heap.objs.size f cdv))->sp vs H Q E->
    ∃ t,PSs (ip CX0 P w K mg base N qual (aj st) f cdv A outer s H E).nox (cE st) t/\t { nx:=λ_ H'=>Q .non H',rt:=Q } (start N vs) H):bv P w K mg base CX0 (k+1) f fd ps sp:=by
 obtain⟨oc,od,kV,doc,pm,an,cdv,ct,osl,rfl,lk,hcd⟩:=F.ex
 refine uF lk hcd S len λA outer s H vs Q E hr hsp=>?_
 obtain⟨t,h,q⟩:=hbody cdv A outer s H vs Q E hr hsp
 exact⟨t,h.nox,q⟩
theorem Fun.binds {x qual:Str}{st:Stmt}{f:Addr}{fd:FuncData}{ps:List Str} (F:Fun K x qual st f fd)
  (h:∀ (kV doc pm:Value) (an:Option Addr) (cdv ct:Value) (us:List Value),us.length=ps.length->bindArgs (PySem.W.fnOf x qual (jB st) (cE st) (aj st) .none kV doc pm an cdv ct) ⟨us,[]⟩=pure (ps.zip us)):bp K fd ps []:=by
 obtain⟨oc,od,kV,doc,pm,an,cdv,ct,osl,rfl,lk,hcd⟩:=F.ex
 exact .all (h kV doc pm an cdv ct)
theorem fun_mk {x qual:Str}{st:Stmt}{f:Addr}{oc:Value}{od an:Option Addr}{osl:Array (Option Value)}{kV doc pm cdv ct:Value} (l:K.lookup f=some ⟨oc,od,.func (PySem.W.fnOf x qual (jB st) (cE st) (aj st) .none kV doc pm an cdv ct),osl⟩)
  (c:PySem.W.codeIn K cdv qual=true) (k:PySem.W.keepIn K (.ref f)=true):Fun K x qual st f (PySem.W.fnOf x qual (jB st) (cE st) (aj st) .none kV doc pm an cdv ct):=⟨⟨oc,od,kV,doc,pm,an,cdv,ct,osl,rfl,l,c⟩,k⟩
end
theorem ql {n:Nat} (h:n<=1000):n < sizeLine:=Nat.lt_of_le_of_lt h (by decide)
section
variable {X:Cx}
end
theorem oq {A B:Prop} (h:B):if false=true then A else B:=by
 rw [if_neg Bool.false_ne_true]
 exact h
theorem ot {A B:Prop} (h:A):if true=true then A else B:=by
 rw [if_pos rfl]
 exact h
noncomputable def aZ (H H':Hp):Prop:=∀ b o,H b=some o->H' b=some o
theorem aZ.refl (H:Hp):aZ H H:=λ_ _ h=>h
end L2
namespace L2
open PySem PySem.Spec PyProof.Rows
noncomputable def bu (cells:List (Str×Addr)):List (Str×NameKind)->List (Str×Addr)->List (Str×Addr)
 | [],acc=>acc
 | (n,k)::r,acc=>if k==.free then bu cells r ((n,(cells.lookup n).getD 0)::acc) else bu cells r acc
theorem hW {env:Env} (f:Str×NameKind->List (Str×Addr)->Sem (ForInStep (List (Str×Addr))))
  (hf:∀ n k cs,f (n,k) cs=if k==.free then (do let c <-cellOf env n;pure (.yield ((n,c)::cs))) else pure (.yield cs)) :
  ∀ (names:List (Str×NameKind)) (acc:List (Str×Addr)),(∀ x ∈ names,x.2=.free->∃ c,env.cells.lookup x.1=some c)->
   forIn names acc f=pure (bu env.cells names acc)
 | [],acc,_=>by rw [List.forIn_nil];rfl
 | (n,k)::r,acc,h=>by
  rw [List.forIn_cons,hf]
  unfold bu
  by_cases hk:(k==.free)=true
  ·obtain⟨c,hc⟩:=h (n,k) List.mem_cons_self (beq_iff_eq.mp hk)
   have hc':env.cells.lookup n=some c:=hc
   rw [if_pos hk,if_pos hk]
   have:cellOf env n=pure c:=by unfold cellOf;rw [hc']
   rw [this,hc']
   simp only [pure_bind,Option.getD_some]
   exact hW f hf r _ λx hx=>h x (List.mem_cons_of_mem _ hx)
  ·rw [if_neg hk,if_neg hk]
   simp only [pure_bind]
   exact hW f hf r _ λx hx=>h x (List.mem_cons_of_mem _ hx)
theorem gP {scope:Scope}{env:Env} (h:∀ x ∈ scope.names,x.2=.free->∃ c,env.cells.lookup x.1=some c) :
  closureFor scope env=pure (bu env.cells scope.names []):=by
 simp only [closureFor]
 rw [hW (env:=env) _ (λn k cs=>by cases hk:k==NameKind.free<;>simp [hk]) scope.names [] h]
 simp
theorem fe {cells:List (Str×Addr)}:∀ (names:List (Str×NameKind)) (acc:List (Str×Addr)) {x:Str}{c:Addr},(bu cells names acc).lookup x=some c->
  acc.lookup x=some c\/((x,NameKind.free) ∈ names/\c=(cells.lookup x).getD 0)
 | [],_,_,_,h=>.inl h
 | (n,k)::r,acc,x,c,h=>by
  unfold bu at h
  by_cases hk:(k==.free)=true
  ·rw [if_pos hk] at h
   rcases fe r _ h with q | ⟨q1,q2⟩
   ·rw [List.lookup_cons] at q
    cases hx:x==n with
    | true=>
     rw [hx] at q
     have e:=beq_iff_eq.mp hx
     subst e
     exact .inr ⟨by rw [<-beq_iff_eq.mp hk];exact List.mem_cons_self,(Option.some.inj q).symm⟩
    | false=>rw [hx] at q;exact .inl q
   ·exact .inr ⟨List.mem_cons_of_mem _ q1,q2⟩
  ·rw [if_neg hk] at h
   rcases fe r _ h with q | ⟨q1,q2⟩
   ·exact .inl q
   ·exact .inr ⟨List.mem_cons_of_mem _ q1,q2⟩
theorem eJ {cells:List (Str×Addr)}{x:Str}:∀ (names:List (Str×NameKind)) (acc:List (Str×Addr)),((x,NameKind.free) ∈ names\/(acc.lookup x).isSome=true)->((bu cells names acc).lookup x).isSome=true
 | [],_,h=>h.elim (λz=>nomatch z) id
 | (n,k)::r,acc,h=>by
  unfold bu
  by_cases hk:(k==.free)=true
  ·rw [if_pos hk]
   refine eJ r _ ?_
   rcases h with h | h
   ·rcases List.mem_cons.mp h with e | h
    ·cases e
     exact .inr (by rw [List.lookup_cons,beq_self_eq_true];rfl)
    ·exact .inl h
   ·refine .inr ?_
    rw [List.lookup_cons]
    cases x==n
    ·exact h
    ·rfl
  ·rw [if_neg hk]
   refine eJ r _ ?_
   rcases h with h | h
   ·rcases List.mem_cons.mp h with e | h
    ·cases e;exact absurd rfl hk
    ·exact .inl h
   ·exact .inr h
theorem dc:∀ (names:List (Str×NameKind)) (n:Nat) (acc:List (Str×Addr)) {x:Str}{c:Addr},(cellsFrom n names acc).lookup x=some c->acc.lookup x=some c\/((x,NameKind.cell) ∈ names/\n<=c)
 | [],_,_,_,_,h=>.inl h
 | (m,k)::r,n,acc,x,c,h=>by
  unfold cellsFrom at h
  by_cases hk:(k==.cell)=true
  ·rw [if_pos hk] at h
   rcases dc r _ _ h with q | ⟨q1,q2⟩
   ·rw [List.lookup_cons] at q
    cases hx:x==m with
    | true=>
     rw [hx] at q
     have e:=beq_iff_eq.mp hx
     subst e
     exact .inr ⟨by rw [<-beq_iff_eq.mp hk];exact List.mem_cons_self,by rw [Option.some.inj q];exact Nat.le_refl _⟩
    | false=>rw [hx] at q;exact .inl q
   ·exact .inr ⟨List.mem_cons_of_mem _ q1,Nat.le_of_succ_le q2⟩
  ·rw [if_neg hk] at h
   rcases dc r _ _ h with q | ⟨q1,q2⟩
   ·exact .inl q
   ·exact .inr ⟨List.mem_cons_of_mem _ q1,q2⟩
theorem kU:∀ (names:List (Str×NameKind)) (n:Nat) (acc:List (Str×Addr)),(∀ p ∈ acc,p.2 < n)->∀ {x y:Str}{c:Addr},(cellsFrom n names acc).lookup x=some c->(cellsFrom n names acc).lookup y=some c->n<=c->x=y:=by
 have key:∀ (names:List (Str×NameKind)) (n:Nat) (acc:List (Str×Addr)) (lo:Nat),lo<=n->(∀ p ∈ acc,p.2 < n)->(∀ p ∈ acc,∀ q ∈ acc,lo<=p.2->p.2=q.2->p.1=q.1)->
   ∀ p ∈ cellsFrom n names acc,∀ q ∈ cellsFrom n names acc,lo<=p.2->p.2=q.2->p.1=q.1:=by
  intro names
  induction names with
  | nil=>intro n acc lo _ _ h;exact h
  | cons z r ih=>
   intro n acc lo hlo hlt h
   obtain⟨m,k⟩:=z
   unfold cellsFrom
   by_cases hk:(k==.cell)=true
   ·rw [if_pos hk]
    refine ih _ _ lo (Nat.le_succ_of_le hlo) (λp hp=>?_) (λp hp q hq l e=>?_)
    ·rcases List.mem_cons.mp hp with e | hp
     ·rw [e];exact Nat.lt_succ_self _
     ·exact Nat.lt_succ_of_lt (hlt p hp)
    ·rcases List.mem_cons.mp hp with e1 | hp<;>rcases List.mem_cons.mp hq with e2 | hq
     ·rw [e1,e2]
     ·rw [e1] at e;exact absurd (hlt q hq) (by rw [<-e];exact Nat.lt_irrefl _)
     ·rw [e2] at e;exact absurd (hlt p hp) (by rw [e];exact Nat.lt_irrefl _)
     ·exact h p hp q hq l e
   ·rw [if_neg hk]
    exact ih _ _ lo hlo hlt h
 intro names n acc hlt x y c hx hy hc
 exact key names n acc n (Nat.le_refl _) hlt (λp hp q hq l _=>absurd (hlt p hp) (Nat.not_lt.mpr l)) _ (PySem.mem_of_lookup hx) _ (PySem.mem_of_lookup hy) hc rfl
theorem dF:∀ (names:List (Str×NameKind)) (h:Heap) (acc:List (Str×Addr)),(∀ p ∈ acc,∃ v,h.IsCell p.2 v)->∀ p ∈ cellsFrom h.objs.size names acc,∃ v,(pushCells h names).IsCell p.2 v
 | [],_,_,h=>h
 | (m,k)::r,h,acc,hc=>by
  unfold cellsFrom pushCells
  by_cases hk:(k==.cell)=true
  ·rw [if_pos hk,if_pos hk]
   have:=dF r (h.push { cls:=.type "cell",data:=.cell none }) ((m,h.objs.size)::acc) (λp hp=>by
    rcases List.mem_cons.mp hp with e | hp
    ·rw [e];exact⟨none,_,Heap.get?_push_size _ rfl,rfl⟩
    ·obtain⟨v,z⟩:=hc p hp
     exact⟨v,z.keeps λb o e=>Heap.get?_push_of_some _ e⟩)
   rwa [Heap.size_push] at this
  ·rw [if_neg hk,if_neg hk]
   exact dF r h acc hc
theorem dP {names:List (Str×NameKind)} (nd:(names.map (·.1)).Nodup):∀ {x:Str}{k:NameKind},(x,k) ∈ names->names.lookup x=some k:=by
 induction names with
 | nil=>intro x k h;cases h
 | cons z r ih=>
  intro x k h
  obtain⟨m,k'⟩:=z
  rw [List.map_cons,List.nodup_cons] at nd
  rw [List.lookup_cons]
  rcases List.mem_cons.mp h with e | h
  ·cases e;rw [beq_self_eq_true]
  ·have:(x==m)=false:=beq_eq_false_iff_ne.mpr λe=>nd.1 (e ▸ List.mem_map.mpr ⟨(x,k),by assumption,rfl⟩)
   rw [this]
   exact ih nd.2 h
theorem c7 {env:Env}:∀ {names:List (Str×NameKind)}{x:Str}{k:NameKind},
  (names.map λ(n,k)=>if (k==NameKind.free && env.scope.kind==.function && env.kindOf n==some .cell) then (n,NameKind.cell) else (n,k)).lookup x=some k->
  ∃ k0,names.lookup x=some k0/\(k=k0\/(k0=.free/\k=.cell))
 | [],_,_,h=>by cases h
 | (n,k0)::r,x,k,h=>by
  rw [List.map_cons] at h
  dsimp only at h
  rw [List.lookup_cons]
  by_cases hc:(k0==NameKind.free && env.scope.kind==.function && env.kindOf n==some .cell)=true
  ·rw [if_pos hc,List.lookup_cons] at h
   cases hx:x==n with
   | true=>
    rw [hx] at h
    refine⟨k0,rfl,.inr ⟨?_,(Option.some.inj h).symm⟩⟩
    simp only [Bool.and_eq_true] at hc
    exact beq_iff_eq.mp hc.1.1
   | false=>rw [hx] at h;exact c7 h
  ·rw [if_neg hc,List.lookup_cons] at h
   cases hx:x==n with
   | true=>rw [hx] at h;exact⟨k0,rfl,.inl (Option.some.inj h).symm⟩
   | false=>rw [hx] at h;exact c7 h
theorem fV {env:Env}:∀ {names:List (Str×NameKind)}{x:Str},names.lookup x=some .free->
  (names.map λ(n,k)=>if (k==NameKind.free && env.scope.kind==.function && env.kindOf n==some .cell) then (n,NameKind.cell) else (n,k)).lookup x=some .free\/
  (names.map λ(n,k)=>if (k==NameKind.free && env.scope.kind==.function && env.kindOf n==some .cell) then (n,NameKind.cell) else (n,k)).lookup x=some .cell
 | [],_,h=>by cases h
 | (n,k0)::r,x,h=>by
  rw [List.map_cons]
  dsimp only
  rw [List.lookup_cons] at h
  by_cases hc:(k0==NameKind.free && env.scope.kind==.function && env.kindOf n==some .cell)=true
  ·rw [if_pos hc,List.lookup_cons]
   cases hx:x==n with
   | true=>exact .inr rfl
   | false=>rw [hx] at h;exact fV h
  ·rw [if_neg hc,List.lookup_cons]
   cases hx:x==n with
   | true=>rw [hx] at h;exact .inl h
   | false=>rw [hx] at h;exact fV h
theorem iH {M:Model}{A:Around}{E:Value->Shared->Prop}{s:Shared}{scope:Scope}{env:Env}{cl:List (Str×Addr)}{Q:Env->Shared->Prop}
  (hQ:Q (newEnv scope s.heap.objs.size env.globals (cellsFrom (s.heap.objs.size+1) scope.names cl) env.qual none .none (some env) builtinsNs)
    { s with heap:=pushCells (s.heap.push { cls:=.type "dict",data:=.dict #[] }) scope.names }) :
  wpAny M A (newFunctionEnv scope env.globals cl [] env.qual none .none (some env)) Q E s:=by
 simp only [newFunctionEnv,Option.isSome_some,if_true]
 refine wpAny_bind (wpAny_alloc ?_)
 refine wpAny_bind (wpAny_layCells _ (λname kind cells=>by cases hkc:kind==NameKind.cell<;>simp [hkc]) _ _ _ _ ?_)
 rw [show ({ s with heap:=s.heap.push { cls:=.type "dict",data:=.dict #[] } }:Shared).heap.objs.size=s.heap.objs.size+1 from Heap.size_push ..]
 refine wpAny_bind ?_
 rw [List.forIn_nil]
 exact wpAny_pure (wpAny_pure hQ)
theorem dq {prog:Program}{w:World}{A:Around}{R:Result->Shared->Prop}{s:Shared}{elt target iter:Expr}{ifs:List Expr}{scope:Scope}{pos:Pos}{it acc:Value}{env:Env} (I:Nat->Shared->Prop)
  (turn:∀ n s,I n s->wpAny (model prog w) A (pyNext it) (λr s₁=>match r with
    | none=>R (.ok .next) s₁
    | some v=>wpAny (model prog w) A (letOwnedTupleGo target it v) (λ_ s₁'=>wpAny (model prog w) A (assign target env v) (λ_ s₂=>
      wpAny (model prog w) A (forIn ifs true λc r=>if r=true then do let ok <-isTrue c env (eval c env);pure (ForInStep.yield ok) else pure (ForInStep.yield r)) (λok s₃=>
       if ok=true then wpAny (model prog w) A (eval elt env) (λx s₄=>
        wpAny (model prog w) A (call (.builtin "list.append") [acc,x]) (λ_ s₅=>∃ m,m < n/\I m s₅) (λ_ _=>False) s₄) (λ_ _=>False) s₃
       else ∃ m,m < n/\I m s₃) (λ_ _=>False) s₂) (λ_ _=>False) s₁') (λ_ _=>False) s₁) (λ_ _=>False) s)
  (n:Nat) (h:I n s) :
  codeAny (model prog w) A (.compLoop (.ListComp elt [⟨target,iter,ifs,0⟩] scope pos) 0 it acc env) R s:=by
 refine codeAny_loop rfl I (λn s hI=>?_) n h
 show wpAny _ A ((compTurn (.ListComp elt [⟨target,iter,ifs,0⟩] scope pos) 0 it acc env).onRaise (λx=>do noteFrame x env;theTreesLotGoes x)) _ _ s
 refine wpAny_noted ?_
 rw [compTurn_list]
 refine wpAny_bind (wpAny_standAt (wpAny_bind (wpAny_mono (turn n s hI) (λr s₁ h₁=>?_) λ_ _ h'=>h'.elim)))
 cases r with
 | none=>exact wpAny_pure h₁
 | some v=>
  refine wpAny_bind (wpAny_mono h₁ (λ_ s₁' h₁'=>?_) λ_ _ h'=>h'.elim)
  refine wpAny_bind (wpAny_mono h₁' (λ_ s₂ h₂=>wpAny_bind (wpAny_mono h₂ (λok s₃ h₃=>?_) λ_ _ h'=>h'.elim)) λ_ _ h'=>h'.elim)
  cases ok with
  | false=>exact wpAny_pure ⟨rfl,h₃⟩
  | true=>
   exact wpAny_bind (wpAny_bind (wpAny_mono h₃ (λx s₄ h₄=>wpAny_bind (wpAny_mono h₄ (λ_ s₅ h₅=>wpAny_pure (wpAny_pure ⟨rfl,h₅⟩)) λ_ _ h'=>h'.elim)) λ_ _ h'=>h'.elim))
noncomputable def lcX (X:Cx) (scope:Scope) (cells:List (Str×Addr)) (Nc:List Str) (s:Shared) (H:Hp) (C:Addr) (fp:List Addr):Cx where
 prog:=X.prog
 w:=X.w
 K:=X.K
 mg:=X.mg
 base:=X.base
 A:=X.A
 N:=Nc
 s₀:=s
 H₀:=H
 env:=compEnvC scope cells C X.env
 outer:=X.stack
 stack:=X.stack
 ex:=fp
 fn:=λx=>scope.names.lookup x==some .cell
 calm:=X.calm
 pn:=[]
 xe:=λ_ _=>False
structure eE (X:Cx) (scope:Scope) (Nc:List Str) (emb:St->St):Prop where
 kind:scope.kind=.function
 nd:(scope.names.map (·.1)).Nodup
 nN:Nc.Nodup
 free:∀ x ∈ scope.names,x.2=.free->X.env.kindOf x.1=some .cell\/X.env.kindOf x.1=some .free
 len:∀ σ:St,σ.length=X.N.length->(emb σ).length=Nc.length
 emb:∀ σ:St,σ.length=X.N.length->∀ (i:Nat) (x:Str) (v:V),Nc[i]?=some x->(emb σ)[i]?=some (some v)->∃ j:Nat,X.N[j]?=some x/\σ[j]?=some (some v)/\scope.names.lookup x=some .free
section
variable {X:Cx}{pins:List (Addr×Obj)}{σ:St}{H:Hp}{s:Shared}{scope:Scope}{Nc:List Str}{emb:St->St}
theorem eE.clos (S:eE X scope Nc emb) (ok:X.Ok):∀ x ∈ scope.names,x.2=.free->∃ c,X.env.cells.lookup x.1=some c:=λx hx h=>ok.has x.1 (S.free x hx h)
theorem no (S:eE X scope Nc emb) (I:Inv X pins σ H s) {fp:List Addr} (hf:∀ b ∈ fp,gK X pins H b) (hfo:∀ b ∈ fp,∃ o,s.heap.get? b=some o) {lo:Obj} (hlo:∀ v,lo.data≠.cell v) (hfr:lo.isFreed=false) :
  Inv (lcX X scope (cellsFrom (s.heap.objs.size+2) scope.names (bu X.env.cells scope.names [])) Nc s H (s.heap.objs.size+1) fp) [(s.heap.objs.size,lo)] (emb σ) H
   { s with heap:=pushCells ((s.heap.push lo).push { cls:=.type "dict",data:=.dict #[] }) scope.names }:=by
 have hsz2:((s.heap.push lo).push { cls:=.type "dict",data:=.dict #[] }).objs.size=s.heap.objs.size+2:=by rw [Heap.size_push,Heap.size_push]
 have hsz1:(s.heap.push lo).objs.size=s.heap.objs.size+1:=by rw [Heap.size_push]
 have hk:∀ b o,s.heap.get? b=some o->(pushCells ((s.heap.push lo).push { cls:=.type "dict",data:=.dict #[] }) scope.names).get? b=some o:=λb o e=>
  pushCells_keeps _ _ b o (Heap.get?_push_of_some _ (Heap.get?_push_of_some _ e))
 have has:=S.clos I.ok
 have cl_old:∀ {x:Str}{c:Addr},(bu X.env.cells scope.names []).lookup x=some c->X.env.cells.lookup x=some c/\(x,NameKind.free) ∈ scope.names:=λ{x c} h=>by
  rcases fe _ _ h with q | ⟨q1,q2⟩
  ·cases q
  ·obtain⟨c',hc'⟩:=has _ q1 rfl
   have hc'':X.env.cells.lookup x=some c':=hc'
   rw [hc''] at q2
   exact⟨by rw [hc'',q2];rfl,q1⟩
 have cells_cases:∀ {x:Str}{c:Addr},(cellsFrom (s.heap.objs.size+2) scope.names (bu X.env.cells scope.names [])).lookup x=some c->
   (X.env.cells.lookup x=some c/\(x,NameKind.free) ∈ scope.names)\/((x,NameKind.cell) ∈ scope.names/\s.heap.objs.size+2<=c):=λ{x c} h=>by
  rcases dc _ _ _ h with q | q
  ·exact .inl (cl_old q)
  ·exact .inr q
 have oldlt:∀ {x:Str}{c:Addr},X.env.cells.lookup x=some c->c < s.heap.objs.size:=λ{x c} h=>by
  obtain⟨v,z⟩:=I.cell x c h
  exact z.lt
 have fplt:∀ b ∈ fp,b < s.heap.objs.size:=λb hb=>by obtain⟨o,e⟩:=hfo b hb;exact Heap.lt_size e
 have accmem:∀ p ∈ bu X.env.cells scope.names [],∃ x,X.env.cells.lookup x=some p.2:=by
  have key:∀ (names:List (Str×NameKind)) (acc:List (Str×Addr)),(∀ x ∈ names,x.2=.free->∃ c,X.env.cells.lookup x.1=some c)->(∀ p ∈ acc,∃ x,X.env.cells.lookup x=some p.2)->∀ p ∈ bu X.env.cells names acc,∃ x,X.env.cells.lookup x=some p.2:=by
   intro names
   induction names with
   | nil=>intro acc _ h;exact h
   | cons z r ih=>
    intro acc hn h
    obtain⟨m,k⟩:=z
    unfold bu
    by_cases hk:(k==.free)=true
    ·rw [if_pos hk]
     refine ih _ (λx hx=>hn x (List.mem_cons_of_mem _ hx)) λp hp=>?_
     rcases List.mem_cons.mp hp with e | hp
     ·obtain⟨c,hc⟩:=hn _ List.mem_cons_self (beq_iff_eq.mp hk)
      have hc':X.env.cells.lookup m=some c:=hc
      exact⟨m,by rw [e,hc'];rfl⟩
     ·exact h p hp
    ·rw [if_neg hk]
     exact ih _ (λx hx=>hn x (List.mem_cons_of_mem _ hx)) h
  exact key _ _ has λp hp=>nomatch hp
 refine⟨⟨I.ok.mod,S.kind,I.ok.glob,I.ok.blt,Nat.le_succ _,λx y c h1 h2=>?_,λx hx=>?_,λx c hx h=>?_,I.ok.hd,I.ok.frames,.inl rfl,λb hb=>?_,I.bs,Nat.le_trans I.ok.bsz I.sz,λb o e hb=>?_,λb hb=>?_,I.stack,I.stkFree⟩,
  rfl,I.bare,Un.kept hk,⟨_,(Heap.Ns.new (s.heap.push lo) (.type "dict")).keeps (pushCells_keeps _ _) |> λq=>by rw [hsz1] at q;exact q,λi x v h1 h2 _=>?_⟩,λx c h=>?_,I.hok.fresh (Nat.le_succ _),λx c h=>?_,λp hp=>?_,I.hok.kept hk,S.len σ I.len⟩
 ·-- inj
  have h1':(cellsFrom (s.heap.objs.size+2) scope.names (bu X.env.cells scope.names [])).lookup x=some c:=h1
  have h2':(cellsFrom (s.heap.objs.size+2) scope.names (bu X.env.cells scope.names [])).lookup y=some c:=h2
  rcases cells_cases h1' with⟨q1,_⟩ | ⟨_,q1⟩
  ·rcases cells_cases h2' with⟨q2,_⟩ | ⟨_,q2⟩
   ·exact I.ok.inj x y c q1 q2
   ·exact absurd (Nat.lt_of_lt_of_le (Nat.lt_succ_of_lt (Nat.lt_succ_of_lt (oldlt q1))) q2) (Nat.lt_irrefl _)
  ·refine kU scope.names _ _ (λp hp=>?_) h1' h2' q1
   obtain⟨z,hz⟩:=accmem p hp
   exact Nat.lt_succ_of_lt (Nat.lt_succ_of_lt (oldlt hz))
 ·-- has
  have hx':(relabel scope X.env).names.lookup x=some .cell\/(relabel scope X.env).names.lookup x=some .free:=hx
  have:∃ k0,scope.names.lookup x=some k0/\(k0=.cell\/k0=.free):=by
   rcases hx' with q | q
   ·obtain⟨k0,h1,h2⟩:=c7 q
    exact⟨k0,h1,h2.elim (λe=>.inl e.symm) λe=>.inr e.1⟩
   ·obtain⟨k0,h1,h2⟩:=c7 q
    exact⟨k0,h1,h2.elim (λe=>.inr e.symm) λe=>by cases e.2⟩
  obtain⟨k0,h1,h2⟩:=this
  refine Option.isSome_iff_exists.mp (PySem.W.cellsFrom_some scope.names _ _ ?_)
  rcases h2 with rfl | rfl
  ·exact .inl h1
  ·exact .inr (eJ _ _ (.inl (PySem.mem_of_lookup h1)))
 ·-- cab
  have hx':scope.names.lookup x=some .cell:=beq_iff_eq.mp hx
  rcases cells_cases h with⟨_,q⟩ | ⟨_,q⟩
  ·have:=dP S.nd q
   rw [hx'] at this;cases this
  ·exact Nat.le_trans (Nat.le_add_right _ 2) q
 ·-- exf
  refine⟨Nat.ne_of_lt (Nat.lt_succ_of_lt (fplt b hb)),λx c h=>?_⟩
  rcases cells_cases h with⟨q,_⟩ | ⟨_,q⟩
  ·exact (hf b hb).2.2.2.2.1 x c q
  ·intro e
   exact absurd (Nat.lt_of_lt_of_le (Nat.lt_succ_of_lt (Nat.lt_succ_of_lt (fplt b hb))) (e ▸ q)) (Nat.lt_irrefl _)
 ·-- noex
  have hb':b ∈ fp:=hb
  rcases (hf b hb').2.2.2.1 with q | q
  ·exact I.ok.noex b o e q
  ·exact absurd (Nat.lt_of_lt_of_le (Heap.lt_size (I.ok.bs b o e).1) q) (Nat.lt_irrefl _)
 ·-- exfs
  intro hb2
  rcases List.mem_cons.mp (I.stkSub b hb2) with q | q
  ·exact (hf b hb).2.1 q
  ·exact (hf b hb).2.2.1 q
 ·-- loc
  obtain⟨j,e1,e2,e3⟩:=S.emb σ I.len i x v h1 h2
  have kx:=S.free (x,.free) (PySem.mem_of_lookup e3) rfl
  have kx':X.env.kindOf x=some .cell\/X.env.kindOf x=some .free:=kx
  obtain⟨m,hn,hl⟩:=I.loc
  obtain⟨u,ru,lk⟩:=hl j x v e1 e2 (.inr kx')
  refine⟨u,ru,.inr ⟨?_,?_⟩⟩
  ·rcases fV (env:=X.env) e3 with q | q
   ·exact .inr q
   ·exact .inl q
  ·rcases lk with⟨z,_⟩ | ⟨_,c,hc,hcell⟩
   ·rcases kx' with q | q<;>(rw [z] at q;cases q)
   ·obtain⟨c',hc'⟩:=Option.isSome_iff_exists.mp (PySem.W.cellsFrom_some scope.names (s.heap.objs.size+2) (bu X.env.cells scope.names []) (x:=x) (.inr (eJ _ _ (.inl (PySem.mem_of_lookup e3)))))
    rcases cells_cases hc' with⟨q,_⟩ | ⟨q,_⟩
    ·rw [hc] at q
     cases q
     exact⟨c,hc',hcell.keeps hk⟩
    ·have:=dP S.nd q
     rw [e3] at this;cases this
 ·-- cell
  have h':(cellsFrom (s.heap.objs.size+2) scope.names (bu X.env.cells scope.names [])).lookup x=some c:=h
  have:=dF scope.names ((s.heap.push lo).push { cls:=.type "dict",data:=.dict #[] }) (bu X.env.cells scope.names []) (λp hp=>by
   obtain⟨z,hz⟩:=accmem p hp
   obtain⟨v,q⟩:=I.cell z p.2 hz
   exact⟨v,q.keeps λb o e=>Heap.get?_push_of_some _ (Heap.get?_push_of_some _ e)⟩) (x,c) (by rw [hsz2];exact PySem.mem_of_lookup h')
  exact this
 ·-- freeC
  rcases cells_cases h with⟨q,_⟩ | ⟨_,q⟩
  ·exact I.freeC x c q
  ·exact I.hok.fresh (Nat.le_trans (Nat.le_add_right _ 2) q)
 ·-- pin
  have hp':p=(s.heap.objs.size,lo):=by
   have:p ∈ ([]:List (Addr×Obj))++[(s.heap.objs.size,lo)]:=hp
   simpa using this
  subst hp'
  refine⟨pushCells_keeps _ _ _ _ (Heap.get?_push_of_some _ (Heap.get?_push_size _ hfr)),I.hok.fresh (Nat.le_refl _),Nat.ne_of_lt (Nat.lt_succ_self _),λhb=>?_,hlo⟩
  rcases List.mem_cons.mp (I.stkSub _ hb) with q | q
  ·exact absurd I.lt (by rw [<-q];exact Nat.lt_irrefl _)
  ·exact I.nofs (Nat.le_refl _) q
end
end L2
namespace L2
open PySem PySem.Spec PyProof.Rows
noncomputable def PTs (X:Cx) (ifs:List Expr) (t:TT):Prop:=
 ∀ (pins:List (Addr×Obj)) (s:Shared) (σ:St) (H:Hp) (Q:Bool->Hp->Prop),Inv X pins σ H s->t σ H Q->
  wpAny (model X.prog X.w) X.A (forIn ifs true λc r=>if r=true then do let ok <-isTrue c X.env (eval c X.env);pure (ForInStep.yield ok) else pure (ForInStep.yield r)) (TP X pins σ Q) X.xe s
noncomputable def ya:TT:=λ_ H Q=>Q true H
theorem uc {X:Cx}:PTs X [] ya:=λ_ _ _ H _ I h=>wpAny_tests_nil ⟨H,I,h⟩
theorem ud {X:Cx}{c:Expr}{t:TT} (hc:PT X c t):PTs X [c] t:=λpins s σ H Q I h=>wpAny_tests_one (hc pins s σ H Q I h)
noncomputable def Sub (σ σ':St):Prop:=σ.length=σ'.length/\∀ (i:Nat) (v:V),σ[i]?=some (some v)->σ'[i]?=some (some v)
noncomputable def wk (J:It) (σe:St) (g:TG) (tt:TT) (te:TE) (H1:Hp) (Q:VK):Prop:=∃ W:Nat->Nat->List V->Hp->Prop,(∃ m,W 0 m [] H1)/\∀ i m ys H,W i m ys H->
 (J.stop i H/\∀ D,H D=none->Q (.ref D) (upd H D (.lst ys)))\/
 (J.go i H/\ys.length < sizeLine/\∃ N:List V->Hp->Prop,(∀ ys' H',N ys' H'->∃ m',m' < m/\W (i+1) m' ys' H')/\∀ x H',J.yld i H x H'->g x σe H' λσ2 H2=>Sub σe σ2/\tt σ2 H2 λb H3=>if b=true then te σ2 H3 λv H4=>N (ys++[v]) H4 else N ys H3)
noncomputable def tLc (emb:St->St) (wi:TI) (g:TG) (tt:TT) (te:TE):TE:=λσ H Q=>wi σ H λJ H1=>wk J (emb σ) g tt te H1 Q
section
variable {X:Cx}{scope:Scope}{Nc:List Str}{emb:St->St}{elt iter tg:Expr}{ifs:List Expr}{pos:Pos}{wi:TI}{g:TG}{tt:TT}{te:TE}
theorem wU (S:eE X scope Nc emb) (hc:X.calm=true) (hi:PI X tg iter wi)
  (hg:∀ cells s H C fp,PG (lcX X scope cells Nc s H C fp) tg g) (ht:∀ cells s H C fp,PTs (lcX X scope cells Nc s H C fp) ifs tt) (he:∀ cells s H C fp,PE (lcX X scope cells Nc s H C fp) elt te)
  (hs:∀ x,foldedSetIterable iter X.env x=pure x:=by intro _;rfl):PE X (.ListComp elt [⟨tg,iter,ifs,0⟩] scope pos) (tLc emb wi g tt te):=by
 intro pins s σ H Q I h
 rw [eval_ListComp]
 refine wpAny_comprehension_free (use:=none) rfl hs (gP (S.clos I.ok)) S.kind (λx hx hl=>dP S.nd (by rw [<-hl];exact hx)) ?_
 refine thn (hi pins s σ H _ I h) λv s1 h1=>thn h1 λitv s2 h2=>?_
 obtain⟨it,fp,tn,J,H2,e,I2,T,st2,f2,W,⟨m0,w0⟩,turn⟩:=h2
 subst e
 refine wpAny_newObj_type (iH ?_)
 rw [show (s2.heap.push { cls:=.type "list",dict:=none,data:=.seq ([]:List Value).toArray }).objs.size=s2.heap.objs.size+1 from Heap.size_push ..]
 generalize hD:s2.heap.objs.size=D
 generalize hlo:({ cls:=.type "list",dict:=none,data:=.seq ([]:List Value).toArray }:Obj)=lo
 have fplt:∀ b ∈ fp,b < s2.heap.objs.size:=λb hb=>by obtain⟨o,e,_⟩:=T.obj _ _ st2 b hb;exact Heap.lt_size e
 have I3:=no (lo:=lo) S I2 f2 (λb hb=>by obtain⟨o,e,_⟩:=T.obj _ _ st2 b hb;exact⟨o,e⟩) (by rw [<-hlo];intro v z;cases z) (by rw [<-hlo];rfl)
 rw [hD] at I3
 generalize hcells:cellsFrom (D+2) scope.names (bu X.env.cells scope.names [])=cells at I3
 generalize hX':lcX X scope cells Nc s2 H2 (D+1) fp=X' at I3
 have hfpX:∀ {H':Hp}{ps:List (Addr×Obj)},(∀ b ∈ fp,H' b=none)->(∀ p ∈ ps,p.1=D)->∀ b ∈ fp,gK X' ps H' b:=λ{H' ps} hn hps b hb=>by
  have ok:=I3.ok
  refine⟨hn b hb,?_,?_,.inl (by rw [<-hX'];exact hb),?_,λp hp=>?_⟩
  ·exact (ok.exf b (by rw [<-hX'];exact hb)).1
  ·exact ok.exfs b (by rw [<-hX'];exact hb)
  ·exact (ok.exf b (by rw [<-hX'];exact hb)).2
  ·have hp':p ∈ ([]:List (Addr×Obj))++ps:=by rw [<-hX'] at hp;exact hp
   have e:p.1=D:=hps p (by simpa using hp')
   rw [e,<-hD]
   exact Nat.ne_of_gt (fplt b hb)
 have Dex:D ∈ X'.ex\/X'.s₀.heap.objs.size<=D:=.inr (by rw [<-hX',<-hD];exact Nat.le_refl _)
 have Dloc:D≠X'.env.locals:=by rw [<-hX'];exact Nat.ne_of_lt (Nat.lt_succ_self _)
 have pD:=I3.pin (D,lo) (by rw [<-hX'];exact List.mem_append_right _ List.mem_cons_self)
 have Dfs:D ∉ X'.fs:=pD.2.2.2.1
 have Dcell:∀ x c,X'.env.cells.lookup x=some c->c≠D:=λx c hc' e=>by
  obtain⟨v,o,ho,hd⟩:=I3.cell x c hc'
  rw [e,pD.1] at ho
  cases ho
  exact pD.2.2.2.2 v hd
 -- the loop
 have loop:∀ s3:Shared,s3={ s2 with heap:=pushCells ((s2.heap.push lo).push { cls:=.type "dict",data:=.dict #[] }) scope.names }->
   codeAny (model X.prog X.w) X.A (.compLoop (.ListComp elt [⟨tg,iter,ifs,0⟩] scope pos) 0 (.ref it) (.ref D) (compEnvC scope cells (D+1) X.env))
    (compPost (model X.prog X.w) X.A X.xe none (EP X pins σ Q) (.ref D) (D+1)) s3:=by
  rintro s3 rfl
  refine dq (λn s'=>∃ i ys its k H',Inv X' [(D,{ cls:=.type "list",data:=.seq its.toArray k })] (emb σ) H' s'/\aN ys its/\tn i s'.heap/\(∀ b ∈ fp,H' b=none)/\ys.length<=sizeLine/\W i n ys H') ?_ m0
   ⟨0,[],[],0,H2,?_,.nil,?_,λb hb=>(f2 b hb).1,Nat.zero_le _,w0⟩
  ·rintro n s4 ⟨i,ys,its,k,H4,I4,rv,st4,fr4,hlen,w4⟩
   have hps:∀ p ∈ [(D,({ cls:=.type "list",data:=.seq its.toArray k }:Obj))],p.1=D:=λp hp=>by
    have:=List.mem_singleton.mp hp
    rw [this]
   rcases turn i n ys H4 w4 with⟨stop,qn⟩ | ⟨go,hlt,N,hN,step⟩
   ·-- the end
    have TD:=T.done X' (by rw [<-hX'];rfl) (by rw [<-hX'];rfl) (by rw [<-hX'];rfl) (by rw [<-hX'];exact hc) i _ s4 (emb σ) H4 (λ_ _=>False) I4 (hfpX fr4 hps) st4 stop
    rw [show X'.A=X.A by rw [<-hX'];rfl] at TD
    refine thn TD λr s5 ⟨hr,I5⟩=>?_
    subst hr
    obtain⟨m5,hn5,_⟩:=id I5.loc
    have eC:X'.env.locals=D+1:=by rw [<-hX'];rfl
    rw [eC] at hn5
    refine⟨m5,hn5,λh' hsb=>?_⟩
    have pD5:=I5.pin (D,{ cls:=.type "list",data:=.seq its.toArray k }) (by rw [<-hX'];exact List.mem_append_right _ List.mem_cons_self)
    have neC:∀ b u,H4 b=some u->b≠D+1:=λb u e z=>by
     have:=I5.free
     rw [eC,<-z,e] at this
     cases this
    have hD4:H4 D=none:=pD5.2.1
    have un:=I5.base
    have un':Un (frs X.stack) fp H2 H4 s2.heap s5.heap:=by rw [<-hX'] at un;exact un
    have old_ne:∀ b o,s2.heap.get? b=some o->b≠D/\b≠D+1:=λb o e=>by
     have q:=Heap.lt_size e
     rw [hD] at q
     exact⟨Nat.ne_of_lt q,Nat.ne_of_lt (Nat.lt_succ_of_lt q)⟩
    have h2D:H2 D=none:=by rw [<-hD];exact I2.fresh
    have hok':HOk X.prog X.w H4 h':=λb u e=>by
     have ob:bL X.prog X.w H4 s5.heap b u:=by have:=I5.hok b u e;rw [<-hX'] at this;exact this
     refine ob.stay (λc v hcv q=>(hsb.2 c ?_).trans q) (λ_ q=>q) λ_ _ q=>q
     rcases hcv with z | z
     ·rw [z];exact neC b u e
     ·exact neC c _ z
    have hokD:HOk X.prog X.w (upd H4 D (.lst ys)) h':=λb u e=>by
     by_cases hb:b=D
     ·subst hb
      rw [ay] at e
      cases e
      exact⟨hlen,its,k,rv,(hsb.2 b (Nat.ne_of_lt (Nat.lt_succ_self _))).trans pD5.1⟩
     ·rw [am hb] at e
      refine (hok' b u e).stay (λ_ _ _ q=>q) (λc q=>?_) λc z q=>?_
      all_goals first
       | (rw [am (ar q hD4)];exact q)
       | (rw [am (ar z hD4)];exact z)
    refine⟨.ref D,upd H4 D (.lst ys),?_,rfl,qn D hD4⟩
    refine I2.call' (s':={ s5 with heap:=h' }) (ch:=fp) ?_ ⟨λb o e nb hb hx=>?_,λb o e nb hb hx=>?_,λb o e nb hx=>?_,λb o e hx=>?_,λb xs e=>?_,λb o u e=>?_,λb ps e=>?_⟩ hokD I5.bare (λb hb=>?_)
    ·have:=I5.os
     rw [<-hX'] at this
     exact this
    ·exact (hsb.2 b (old_ne b o e).2).trans (un'.keep b o e nb hb hx)
    ·obtain⟨sl,q⟩:=un'.slot b o e nb hb hx
     exact⟨sl,(hsb.2 b (old_ne b o e).2).trans q⟩
    ·rw [am (old_ne b o e).1]
     exact un'.free b o e nb hx
    ·obtain⟨o',q⟩:=un'.there b o e hx
     exact⟨o',(hsb.2 b (old_ne b o e).2).trans q⟩
    ·rw [am (ar e h2D)]
     exact un'.tups b xs e
    ·rw [am (ar e h2D)]
     exact un'.frzs b o u e
    ·obtain⟨m,q⟩:=un'.tbls b ps e
     exact⟨m,by rw [am (ar e h2D)];exact q⟩
    ·obtain⟨q0,q1,q2,q3,q4,q5⟩:=f2 b hb
     exact⟨q3,q1,q4,q5⟩
   ·-- a turn
    have hA:X'.A=X.A:=by rw [<-hX'];rfl
    have hP:X'.prog=X.prog:=by rw [<-hX'];rfl
    have hw:X'.w=X.w:=by rw [<-hX'];rfl
    have hE:X'.env=compEnvC scope cells (D+1) X.env:=by rw [<-hX'];rfl
    have hxe:X'.xe=λ_ _=>False:=by rw [<-hX'];rfl
    have TI':=T.item X' hP hw (by rw [<-hX'];rfl) (by rw [<-hX'];exact hc) i _ s4 (emb σ) H4 (λ_ _=>False) I4 (hfpX fr4 hps) st4 go
    rw [hA] at TI'
    refine thn TI' λr s5 ⟨u,hr,h5⟩=>?_
    subst hr
    refine thn h5 λ_ s6 ⟨x,H6,I6,r6,y6,st6,fr6⟩=>?_
    have I6':=I6.pinned (hfpX fr6 hps) (T.obj _ _ st6)
    have G:=hg cells s2 H2 (D+1) fp
    have TT':=ht cells s2 H2 (D+1) fp
    have EE:=he cells s2 H2 (D+1) fp
    rw [hX'] at G TT' EE
    have G':=G _ s6 (emb σ) H6 x u _ I6' r6 (step x H6 y6)
    rw [hA,hP,hw,hE,hxe] at G'
    refine thn G' λ_ s7 ⟨σ7,H7,I7,sb7,q7⟩=>?_
    have T':=TT' _ s7 σ7 H7 _ I7 q7
    rw [hA,hP,hw,hE,hxe] at T'
    refine thn T' λok s8 ⟨H8,I8,q8⟩=>?_
    -- what is pinned
    have pin_fp:∀ {σ9:St}{H9:Hp}{s9:Shared},Inv X' ([(D,({ cls:=.type "list",data:=.seq its.toArray k }:Obj))]++jj fp s6.heap) σ9 H9 s9->tn (i+1) s9.heap/\∀ b ∈ fp,H9 b=none:=λ{σ9 H9 s9} I9=>
     ⟨T.keep _ _ _ st6 λb hb o e=>(I9.pin (b,o) (List.mem_append_right _ (List.mem_append_right _ (cI hb e)))).1,λb hb=>by
      obtain⟨o,e,_⟩:=T.obj _ _ st6 b hb
      exact (I9.pin (b,o) (List.mem_append_right _ (List.mem_append_right _ (cI hb e)))).2.1⟩
    cases ok with
    | false=>
     rw [if_neg (by decide)] at q8
     rw [if_neg (by decide)]
     obtain⟨m',hm,w8⟩:=hN _ _ q8
     exact⟨m',hm,i+1,ys,its,k,H8,I8.unpinned.weak sb7.1 sb7.2,rv,(pin_fp I8).1,(pin_fp I8).2,hlen,w8⟩
    | true=>
     rw [if_pos rfl] at q8
     rw [if_pos rfl]
     have E':=EE _ s8 σ7 H8 _ I8 q8
     rw [hA,hP,hw,hE,hxe] at E'
     refine thn E' λy s9 ⟨v9,H9,I9,r9,n9⟩=>?_
     obtain⟨m',hm,w9⟩:=hN _ _ n9
     have pD9:=I9.pin (D,{ cls:=.type "list",data:=.seq its.toArray k }) (List.mem_append_right _ (List.mem_append_left _ List.mem_cons_self))
     have hl:=rv.length
     have I9n:Inv X' [] σ7 H9 s9:=I9.pins_of λp hp=>nomatch hp
     refine call_meets F.slot_list_append ⟨_,pD9.1,rfl⟩ F.entry_list_append (F.args_list_append_2 _ _) (PySem.list_append D its.toArray k y (by rw [List.size_toArray];lia)) ⟨pD9.1,?_⟩
     have up:∃ k':Nat,(s9.heap.update D (Obj.mapSeq λxs=>xs.push y)).get? D=some { cls:=.type "list",data:=.seq (its++[y]).toArray k' }:=by
      have q:=PySem.IsL.update pD9.1 (λxs:Array Value=>xs.push y)
      simp only [List.push_toArray] at q
      exact⟨_,q⟩
     obtain⟨k',up⟩:=up
     have hoth:∀ b o,b≠D->s9.heap.get? b=some o->(s9.heap.update D (Obj.mapSeq λxs=>xs.push y)).get? b=some o:=λb o hb e=>(Heap.get?_update_other s9.heap _ (Ne.symm hb)).trans e
     have I10:=I9n.turned (t':=s9.toks) hoth pD9.2.1 Dloc Dex Dcell (λp hp=>absurd (show p ∈ ([]:List (Addr×Obj)) by rw [<-hX'] at hp;exact hp) (by simp))
     refine⟨m',hm,i+1,ys++[v9],its++[y],k',H9,(I10.weak sb7.1 sb7.2).pins_of (λp hp=>?_),rv.append (.cons r9 .nil),T.keep _ _ _ (pin_fp I9).1 (λb hb o e=>hoth b o (by rw [<-hD];exact Nat.ne_of_lt (fplt b hb)) e),(pin_fp I9).2,?_,w9⟩
     ·have:=List.mem_singleton.mp hp
      subst this
      exact⟨up,pD9.2.1,Dloc,Dfs,λv z=>by cases z⟩
     ·rw [List.length_append,List.length_singleton]
      lia
  ·have q:lo={ cls:=.type "list",data:=.seq ([]:List Value).toArray 0 }:=hlo.symm
   rw [<-q]
   exact I3
  ·exact T.keep _ _ _ st2 λb hb o e=>pushCells_keeps _ _ b o (Heap.get?_push_of_some _ (Heap.get?_push_of_some _ e))
 refine codeAny_compStart_list ?_ ?_
 ·exact loop _ rfl
 ·refine T.self X.A 0 _ _ _ (T.keep _ _ _ st2 λb hb o e=>pushCells_keeps _ _ b o (Heap.get?_push_of_some _ (Heap.get?_push_of_some _ e))) ?_
  exact loop _ rfl
end
end L2
namespace L2
open PySem PySem.Spec PyProof.Rows
open PySem.AutoSeq1 (wpAny_loadPart')
section
variable {prog:Program}{w:World}{A:Around}{E:Value->Shared->Prop}{s:Shared}
theorem eU {it l:Addr}{i:Nat}{items}{x:Value}{Q:Value->Shared->Prop} (hit:s.heap.IsTupleIter it l i)
  (hl:s.heap.IsTuple l items) (hx:items[i]?=some x)
  (hQ:∀ h',h'.IsTupleIter it l (i+1)->Heap.SameBut it s.heap h'->Q x { s with heap:=h' }) :
  wpAny (model prog w) A (Builtin.SmallTypes.nextOf (.ref it)) Q E s:=by
 obtain⟨o,ho,hc,hd⟩:=id hit
 obtain⟨ol,hol,_,nl,hdl⟩:=hl
 unfold Builtin.SmallTypes.nextOf
 refine wpAny_bind (wpAny_callSpecial?_slot (name:=Str.ofString "__next__") hit.typeIs F.slot_tuple_iterator_next
  (wpAny_call_entry F.slot_tuple_iterator_next hit.typeIs F.entry_tuple_iterator_next ?_ (F.args_tuple_iterator_next_1 _)))
 show wpAny _ _ (field (.ref it) 0 >>= _) _ _ s
 refine wpAny_bind (wpAny_field ho hd (x:=.ref l) rfl ?_)
 show wpAny _ _ (if (Value.ref l==Value.none)=true then _ else _) _ _ s
 rw [if_neg (show ¬ ((Value.ref l==Value.none)=true) from Bool.false_ne_true)]
 show wpAny _ _ (field (.ref it) 1 >>= _) _ _ s
 refine wpAny_bind (wpAny_field ho hd (x:=.int i 0) rfl ?_)
 show wpAny _ _ (seqItems? (.ref l) >>= _) _ _ s
 refine wpAny_bind (wpAny_seqItems hol hdl ?_)
 simp only [Int.toNat_natCast,hx]
 refine wpAny_bind (wpAny_setField ho hd (by simp) (wpAny_pure ⟨x,rfl,wpAny_pure (hQ _ ?_ (Heap.SameBut.update ..))⟩))
 exact⟨_,Heap.get?_update_self _ ho (Obj.isFreed_of_fields (Obj.data_mapFields hd _)),(Obj.cls_mapFields ..).trans hc,by
  rw [Obj.data_mapFields hd];simp [rawInt]⟩
theorem fz {it l:Addr}{i:Nat}{items}{Q:Value->Shared->Prop} (hh:A.handled=none)
  (hit:s.heap.IsTupleIter it l i) (hl:s.heap.IsTuple l items) (hx:items[i]?=none)
  (hE:∀ h' e,Heap.ExtBut it s.heap h'->(∃ o,h'.get? e=some o/\o.cls=.type "StopIteration")->E (.ref e) { s with heap:=h' }) :
  wpAny (model prog w) A (Builtin.SmallTypes.nextOf (.ref it)) Q E s:=by
 obtain⟨o,ho,hc,hd⟩:=id hit
 obtain⟨ol,hol,_,nl,hdl⟩:=hl
 unfold Builtin.SmallTypes.nextOf
 refine wpAny_bind (wpAny_callSpecial?_slot (name:=Str.ofString "__next__") hit.typeIs F.slot_tuple_iterator_next
  (wpAny_call_entry F.slot_tuple_iterator_next hit.typeIs F.entry_tuple_iterator_next ?_ (F.args_tuple_iterator_next_1 _)))
 show wpAny _ _ (field (.ref it) 0 >>= _) _ _ s
 refine wpAny_bind (wpAny_field ho hd (x:=.ref l) rfl ?_)
 show wpAny _ _ (if (Value.ref l==Value.none)=true then _ else _) _ _ s
 rw [if_neg (show ¬ ((Value.ref l==Value.none)=true) from Bool.false_ne_true)]
 show wpAny _ _ (field (.ref it) 1 >>= _) _ _ s
 refine wpAny_bind (wpAny_field ho hd (x:=.int i 0) rfl ?_)
 show wpAny _ _ (seqItems? (.ref l) >>= _) _ _ s
 refine wpAny_bind (wpAny_seqItems hol hdl ?_)
 simp only [Int.toNat_natCast,hx]
 refine wpAny_bind (wpAny_rule (wpAny_bind (wpAny_setField ho hd (by simp) ?_)))
 show wpAny _ _ (newExc (.type "StopIteration") [] >>= _) _ _ _
 refine wpAny_bind ?_
 simp only [newExc,newTuple]
 refine wpAny_bind (wpAny_newObj_type ?_ (by size_fits))
 refine wpAny_bind (m:=firstArgMember _ _) (wpAny_of_eq (a:=Value.none) (by first | rfl | (simp only [firstArgMember];rfl)) ?_)
 refine wpAny_newObj_type ?_ (by size_fits)
 simp only [raiseNew]
 refine wpAny_bind (wpAny_handled ?_)
 first | rw [show A.in1.handled=none from hh] | rw [hh]
 refine wpAny_bind (wpAny_pure (wpAny_throw ?_))
 exact hE _ _ (((Heap.SameBut.update ..).extBut.push _).push _) ⟨_,Heap.get?_push_size _ rfl,rfl⟩
theorem gn (hh:A.handled=none) (it l:Addr) (hne:l≠it) (items:Array Value) :
  Draws prog w A it [it,l] items.size (λi v=>items[i]?=some v) (λi h=>h.IsTupleIter it l i/\h.IsTuple l items) where
 live:=λ_ _ st=>let ⟨o,ho,_⟩:=st.1;⟨o,ho⟩
 frame:=λ_ _ _ st hk=>⟨st.1.at λo e=>hk it (by simp) o e,by
  obtain⟨o,e,r⟩:=st.2
  exact⟨o,hk l (by simp) o e,r⟩⟩
 item:=λi s Q E hi st hQ=>by
  refine eU st.1 st.2 (x:=items[i]) (by simp [hi]) λh' hit' hs'=>?_
  refine hQ _ h' s.toks (by simp [hi]) ⟨hit',?_⟩ hs'
  obtain⟨o,e,r⟩:=st.2
  exact⟨o,(hs'.2 l hne).trans e,r⟩
 done:=λs Q E st hE=>fz hh st.1 st.2 (by simp) hE
end
theorem gx (l:Addr) (items:Array Value) (n:Nat) (dct:Option Addr) (sl:Array (Option Value)) :
  Meets (Builtin.«enumerate.__new__» ⟨[.type "enumerate",.ref l],[]⟩) (λ_ R s=>s.heap.get? l=some { cls:=.type "tuple",dict:=dct,data:=.seq items n,slots:=sl }/\
   R (.ok (.ret (.ref (s.heap.push { cls:=.type "tuple_iterator",data:=.fields #[.ref l,.int 0 0] }).objs.size)))
    { s with heap:=(s.heap.push { cls:=.type "tuple_iterator",data:=.fields #[.ref l,.int 0 0] }).push { cls:=.type "enumerate",data:=.fields #[.none,.bool false,.ref s.heap.objs.size,rawInt 0,.none,.none] } }):=
 .of_wp λprog w A R s h=>by
  obtain⟨hp,g,d,tk,os⟩:=s;obtain⟨hl,h⟩:=h
  have hsub:=sub_enumerate
  have hL:Heap.IsTuple (Shared.heap ⟨hp,g,d,tk,os⟩) l items:=⟨_,hl,rfl,n,rfl⟩
  wp_walk using wpAny_loadPart' hl
  refine wpAny_stack_any λst=>wpAny_pure ?_
  split
  ·rename_i c _ _ _ _ _
   cases (c==Value.type "enumerate")
   ·wp_walk using wpAny_loadPart' hl,wpAny_pyIter_tuple hL
    exact⟨_,rfl,h⟩
   ·wp_walk using wpAny_loadPart' hl,wpAny_pyIter_tuple hL
    exact⟨_,rfl,h⟩
  ·wp_walk using wpAny_loadPart' hl,wpAny_pyIter_tuple hL
   exact⟨_,rfl,h⟩
theorem gj {prog:Program}{w:World}{A:Around}{E:Value->Shared->Prop}{s:Shared}{l:Addr}{items:Array Value}{Q:Value->Shared->Prop} (hL:s.heap.IsTuple l items)
  (h:∀ h',IsEnum h' (s.heap.objs.size+1) s.heap.objs.size 0 .none->h'.IsTupleIter s.heap.objs.size l 0->h'.objs.size=s.heap.objs.size+2->
    (∀ b o,s.heap.get? b=some o->h'.get? b=some o)->Q (.ref (s.heap.objs.size+1)) { s with heap:=h' }) :
  wpAny (model prog w) A (call (.type "enumerate") [.ref l]) Q E s:=by
 obtain⟨⟨c,dct,dt,sl⟩,hl,hc,n,hd⟩:=hL
 replace hc:c=.type "tuple":=hc
 replace hd:dt=.seq items n:=hd
 subst hc hd
 refine callType_new F.called_enumerate (by decide) (F.typeCall_enumerate_1 _) (F.newCall_enumerate_1 _) (λobj=>F.args_object_init_2 obj _) F.entry_enumerate_new
  (gx l items n dct sl) ⟨hl,?_⟩
 have hz:(s.heap.push { cls:=.type "tuple_iterator",data:=.fields #[.ref l,.int 0 0] }).objs.size=s.heap.objs.size+1:=Heap.size_push ..
 show _/\_
 rw [hz]
 have he:IsEnum ((s.heap.push { cls:=.type "tuple_iterator",data:=.fields #[.ref l,.int 0 0] }).push
   { cls:=.type "enumerate",data:=.fields #[.none,.bool false,.ref s.heap.objs.size,rawInt 0,.none,.none] }) (s.heap.objs.size+1) s.heap.objs.size 0 .none:=by
  have:=Heap.get?_push_size (s.heap.push { cls:=.type "tuple_iterator",data:=.fields #[.ref l,.int 0 0] })
   (o:={ cls:=.type "enumerate",data:=.fields #[.none,.bool false,.ref s.heap.objs.size,rawInt 0,.none,.none] }) rfl
  rw [hz] at this;exact this
 refine⟨⟨_,he,rfl⟩,h _ he ⟨_,Heap.get?_push_of_some _ (Heap.get?_push_size _ rfl),rfl,rfl⟩ (by rw [Heap.size_push,hz]) λb o x=>Heap.get?_push_of_some _ (Heap.get?_push_of_some _ x)⟩
section
variable {X:Cx}{pins:List (Addr×Obj)}{σ:St}{H:Hp}{s:Shared}{h':Heap}{fp:List Addr}
theorem gK.ch (hf:∀ b ∈ fp,gK X pins H b):∀ b ∈ fp,(b ∈ X.ex\/X.s₀.heap.objs.size<=b)/\b≠X.env.locals/\(∀ x c,X.env.cells.lookup x=some c->c≠b)/\∀ p ∈ X.pn++pins,p.1≠b:=λb hb=>
 let ⟨_,f1,_,f3,f4,f5⟩:=hf b hb
 ⟨f3,f1,f4,f5⟩
theorem Inv.turns {t':Nat} (I:Inv X pins σ H s) (hf:∀ b ∈ fp,gK X pins H b) (k:∀ b o,b ∉ fp->s.heap.get? b=some o->h'.get? b=some o):Inv X pins σ H { s with heap:=h',toks:=t' }:=by
 have nit:∀ b u,H b=some u->b ∉ fp:=λb u e z=>by have:=(hf b z).1;rw [e] at this;cases this
 refine I.step (g':=s.gens) (d':=s.drawn) (ch:=fp) (gK.ch hf) (λb o _ _ hc e _=>k b o hc e) (λb o _ _ hc e _=>⟨o.slots,k b o hc e⟩) (λ_ _ _ _ n=>n)
  (λb o hc e=>⟨o,k b o hc e⟩) (λ_ _ e=>e) (λ_ _ _ e=>e) (λb ps e=>⟨#[],by rw [e];simp⟩) (λm hm=>?_) (λb u e=>?_) I.bare
 ·obtain⟨o,es,ep,ho,r⟩:=hm
  exact⟨o,es,ep,k _ o (λz=>(hf _ z).2.1 rfl) ho,r⟩
 ·refine (I.hok b u e).stay (λc v hc q=>k c v ?_ q) (λ_ q=>q) λ_ _ q=>q
  rcases hc with z | z
  ·rw [z];exact nit b u e
  ·exact nit c _ z
theorem Inv.turnsT {t':Nat}{T:Addr}{xs:List V}{its:Array Value} (I:Inv X pins σ H s) (hf:∀ b ∈ fp,gK X pins H b) (k:∀ b o,b ∉ fp->s.heap.get? b=some o->h'.get? b=some o)
  (hT:s.heap.objs.size<=T) (ht:db h' T its) (rv:aN xs its.toList) (hz:xs.length<=sizeLine):Inv X pins σ (upd H T (.tup xs)) { s with heap:=h',toks:=t' }:=by
 have nit:∀ b u,H b=some u->b ∉ fp:=λb u e z=>by have:=(hf b z).1;rw [e] at this;cases this
 have hTn:H T=none:=I.hok.fresh hT
 have lt:∀ b o,s.heap.get? b=some o->b≠T:=λb o e=>Nat.ne_of_lt (Nat.lt_of_lt_of_le (Heap.lt_size e) hT)
 refine I.step (g':=s.gens) (d':=s.drawn) (ch:=fp) (gK.ch hf) (λb o _ _ hc e _=>k b o hc e) (λb o _ _ hc e _=>⟨o.slots,k b o hc e⟩) (λb o _ e n=>by rw [am (lt b o e)];exact n)
  (λb o hc e=>⟨o,k b o hc e⟩) (λb _ e=>by rw [am (ar e hTn)];exact e) (λb _ _ e=>by rw [am (ar e hTn)];exact e) (λb ps e=>⟨#[],by rw [am (ar e hTn),e];simp⟩) (λm hm=>?_) (λb u e=>?_) I.bare
 ·obtain⟨o,es,ep,ho,r⟩:=hm
  exact⟨o,es,ep,k _ o (λz=>(hf _ z).2.1 rfl) ho,r⟩
 ·by_cases hb:b=T
  ·subst hb
   rw [ay] at e
   cases e
   refine⟨hz,its.toList,rv,?_⟩
   show db h' b its.toList.toArray
   simpa using ht
  ·rw [am hb] at e
   refine (I.hok b u e).stay (λc v hc q=>k c v ?_ q) (λc q=>?_) λc z q=>?_
   ·rcases hc with z | z
    ·rw [z];exact nit b u e
    ·exact nit c _ z
   all_goals first
    | (rw [am (ar q hTn)];exact q)
    | (rw [am (ar z hTn)];exact z)
end
noncomputable def Ite (S:Hp->List V->Prop):It:=
 ⟨λi H=>∃ xs x,S H xs/\xs[i]?=some x,λi H x H'=>∃ T v,(∀ xs,S H xs->xs[i]?=some v)/\H T=none/\x=.ref T/\H'=upd H T (.tup [.int i,v]),λi H=>∃ xs,S H xs/\xs.length=i⟩
theorem oP {P:Program}{w:World}{K:PySem.W.Frag}{elts:List Expr}{k:Nat}{pos:Pos} (a it e:Addr) (hei:e≠it) (hae:a≠e) (hai:a≠it) :
  nZ P w K (.Tuple elts k pos) (Ite λH xs=>SqL K H a xs) [e,it] e (λi h=>(∃ old,IsEnum h e it i old)/\h.IsListIter it a i) where
 mem:=by simp
 obj:=λi h st b hb=>by
  rcases List.mem_cons.mp hb with rfl | hb
  ·obtain⟨⟨old,q⟩,_⟩:=st
   exact⟨_,q,λv z=>by cases z⟩
  ·rw [List.mem_singleton.mp hb]
   obtain⟨_,o,e,c,d⟩:=st
   exact⟨o,e,λv z=>by rw [d] at z;cases z⟩
 keep:=λi h h' st kk=>⟨let ⟨old,q⟩:=st.1;⟨old,kk e (by simp) _ q⟩,st.2.at λo q=>kk it (by simp) o q⟩
 item:=by
  intro X hP hw hK hc i pins s σ H E I hf st hg
  subst hP hw hK
  obtain⟨xs,x,hq,hx⟩:=hg
  obtain⟨its,rv,p,hz⟩:=I.list hq
  obtain⟨u,hu,ru⟩:=rv.get hx
  have W:=WalksT.enumerateD (Draws.list (prog:=X.prog) (w:=X.w) (A:=X.A.in1) (I.ok.hd hc) it a hai its.toArray) e hei (by simp [hei,Ne.symm hae]) (by simp)
  have hi:i < its.toArray.size:=by
   have:=(List.getElem?_eq_some_iff.mp hu).1
   simpa using this
  obtain⟨⟨ol,he0⟩,hit0⟩:=st
  refine wpAny_pyNext_enum_itemD (Draws.list (prog:=X.prog) (w:=X.w) (A:=X.A.in1) (I.ok.hd hc) it a hai its.toArray) he0 ⟨hit0,p.isList⟩ hi hei (by simp [hei,Ne.symm hae]) λy h1 t hy ho hs' ht hsz hk=>⟨_,rfl,?_⟩
  have hm:(λ(i:Nat) (T:Addr) (h:Heap)=>(∃ x,IsEnumOut h e it ((i:Int)+1) x T)/\_/\T≠e/\T≠it) i s.heap.objs.size h1:=⟨⟨_,ho⟩,hs',Nat.ne_of_gt (Heap.lt_size he0),Nat.ne_of_gt (let ⟨_,q,_⟩:=hit0;Heap.lt_size q)⟩
  have kk:∀ b o,b ∉ [e,it]->s.heap.get? b=some o->h1.get? b=some o:=λb o hb q=>hk b o (λz=>hb (by simp [z])) (λz=>hb (by simp [z])) q
  generalize eT:s.heap.objs.size=T at ht ho hm ⊢
  have hT:s.heap.objs.size<=T:=Nat.le_of_eq eT
  have etk:∃ tk,tk=t+1:=⟨_,rfl⟩
  obtain⟨tk,etk⟩:=etk
  rw [<-etk]
  have ey:y=u:=by
   have hy':its[i]?=some y:=by simpa using hy
   rw [hu] at hy'
   exact (Option.some.inj hy').symm
  subst ey
  refine W.go elts k pos i T _ _ _ hm λh2 hst kk2=>?_
  have nT:T ∉ [e,it]:=W.apart i T _ hm
  refine⟨.ref T,upd H T (.tup [.int i,x]),?_,rfl,⟨T,x,λys hy=>by rw [I.list_inj hy hq];exact hx,I.hok.fresh hT,rfl,rfl⟩,⟨hst.1,hst.2.1⟩,λb hb=>?_⟩
  ·have ht2:db h2 T #[.int i t,y]:=⟨_,kk2 T _ nT ht,rfl,⟨_,rfl⟩,rfl⟩
   have I2:Inv X pins σ (upd H T (.tup [.int i,x])) { s with heap:=h2,toks:=tk }:=
    I.turnsT (fp:=[e,it]) (h':=h2) (t':=tk) (its:=#[.int i t,y]) hf (λb o hb q=>kk2 b o hb (kk b o hb q)) hT ht2 (.cons ⟨t,rfl⟩ (.cons ru .nil)) (by show 2<=sizeLine;decide)
   exact I2
  ·rw [am (show b≠T from λz=>nT (z ▸ hb))]
   exact (hf b hb).1
 done:=by
  intro X hP hw hK hc i pins s σ H E I hf st hg
  subst hP hw hK
  obtain⟨xs,hq,hx⟩:=hg
  obtain⟨its,rv,p,hz⟩:=I.list hq
  have hl:=rv.length
  have hx':its.toArray[i]?=none:=by simp;lia
  obtain⟨⟨old,he⟩,hit⟩:=st
  -- the end at place i
  obtain⟨f0,f1,f2,f3,f4,f5⟩:=hf e (by simp)
  refine wpAny_pyNext_enum_end (I.ok.hd hc) he hit p.isList hx' λh' eb=>⟨rfl,?_⟩
  exact I.turns (t':=s.toks) (fp:=[e,it]) hf λb o hb q=>eb b o (by simp at hb;exact hb.2) q
 self:=λ_ _ _ _ _ st h=>let ⟨⟨_,he⟩,_⟩:=st;wpAny_pyIter_enum he h
theorem oQ {P:Program}{w:World}{K:PySem.W.Frag}{elts:List Expr}{k:Nat}{pos:Pos} (a it e:Addr) (hei:e≠it) (hae:a≠e) (hai:a≠it) :
  nZ P w K (.Tuple elts k pos) (Ite λH xs=>SqT K H a xs) [e,it] e (λi h=>(∃ old,IsEnum h e it i old)/\h.IsTupleIter it a i) where
 mem:=by simp
 obj:=λi h st b hb=>by
  rcases List.mem_cons.mp hb with rfl | hb
  ·obtain⟨⟨old,q⟩,_⟩:=st
   exact⟨_,q,λv z=>by cases z⟩
  ·rw [List.mem_singleton.mp hb]
   obtain⟨_,o,e,c,d⟩:=st
   exact⟨o,e,λv z=>by rw [d] at z;cases z⟩
 keep:=λi h h' st kk=>⟨let ⟨old,q⟩:=st.1;⟨old,kk e (by simp) _ q⟩,st.2.at λo q=>kk it (by simp) o q⟩
 item:=by
  intro X hP hw hK hc i pins s σ H E I hf st hg
  subst hP hw hK
  obtain⟨xs,x,hq,hx⟩:=hg
  obtain⟨its,rv,p,hz⟩:=I.tuple hq
  obtain⟨u,hu,ru⟩:=rv.get hx
  have W:=WalksT.enumerateD (gn (prog:=X.prog) (w:=X.w) (A:=X.A.in1) (I.ok.hd hc) it a hai its.toArray) e hei (by simp [hei,Ne.symm hae]) (by simp)
  have hi:i < its.toArray.size:=by
   have:=(List.getElem?_eq_some_iff.mp hu).1
   simpa using this
  obtain⟨⟨ol,he0⟩,hit0⟩:=st
  refine wpAny_pyNext_enum_itemD (gn (prog:=X.prog) (w:=X.w) (A:=X.A.in1) (I.ok.hd hc) it a hai its.toArray) he0 ⟨hit0,p⟩ hi hei (by simp [hei,Ne.symm hae]) λy h1 t hy ho hs' ht hsz hk=>⟨_,rfl,?_⟩
  have hm:(λ(i:Nat) (T:Addr) (h:Heap)=>(∃ x,IsEnumOut h e it ((i:Int)+1) x T)/\_/\T≠e/\T≠it) i s.heap.objs.size h1:=⟨⟨_,ho⟩,hs',Nat.ne_of_gt (Heap.lt_size he0),Nat.ne_of_gt (let ⟨_,q,_⟩:=hit0;Heap.lt_size q)⟩
  have kk:∀ b o,b ∉ [e,it]->s.heap.get? b=some o->h1.get? b=some o:=λb o hb q=>hk b o (λz=>hb (by simp [z])) (λz=>hb (by simp [z])) q
  generalize eT:s.heap.objs.size=T at ht ho hm ⊢
  have hT:s.heap.objs.size<=T:=Nat.le_of_eq eT
  have etk:∃ tk,tk=t+1:=⟨_,rfl⟩
  obtain⟨tk,etk⟩:=etk
  rw [<-etk]
  have ey:y=u:=by
   have hy':its[i]?=some y:=by simpa using hy
   rw [hu] at hy'
   exact (Option.some.inj hy').symm
  subst ey
  refine W.go elts k pos i T _ _ _ hm λh2 hst kk2=>?_
  have nT:T ∉ [e,it]:=W.apart i T _ hm
  refine⟨.ref T,upd H T (.tup [.int i,x]),?_,rfl,⟨T,x,λys hy=>by rw [I.tuple_inj hy hq];exact hx,I.hok.fresh hT,rfl,rfl⟩,⟨hst.1,hst.2.1⟩,λb hb=>?_⟩
  ·have ht2:db h2 T #[.int i t,y]:=⟨_,kk2 T _ nT ht,rfl,⟨_,rfl⟩,rfl⟩
   have I2:Inv X pins σ (upd H T (.tup [.int i,x])) { s with heap:=h2,toks:=tk }:=
    I.turnsT (fp:=[e,it]) (h':=h2) (t':=tk) (its:=#[.int i t,y]) hf (λb o hb q=>kk2 b o hb (kk b o hb q)) hT ht2 (.cons ⟨t,rfl⟩ (.cons ru .nil)) (by show 2<=sizeLine;decide)
   exact I2
  ·rw [am (show b≠T from λz=>nT (z ▸ hb))]
   exact (hf b hb).1
 done:=by
  intro X hP hw hK hc i pins s σ H E I hf st hg
  subst hP hw hK
  obtain⟨xs,hq,hx⟩:=hg
  obtain⟨its,rv,p,hz⟩:=I.tuple hq
  have hl:=rv.length
  have W:=WalksT.enumerateD (gn (prog:=X.prog) (w:=X.w) (A:=X.A.in1) (I.ok.hd hc) it a hai its.toArray) e hei (by simp [hei,Ne.symm hae]) (by simp)
  have hi:i=its.toArray.size:=by simp;lia
  subst hi
  refine W.done s _ _ ⟨st.1,st.2,p⟩ λh' tk kk=>⟨rfl,I.turns (fp:=[e,it]) hf kk⟩
 self:=λ_ _ _ _ _ st h=>let ⟨⟨_,he⟩,_⟩:=st;wpAny_pyIter_enum he h
end L2
namespace L2
open PySem PySem.Spec PyProof.Rows
section
variable {X:Cx}
noncomputable def u8 (K:PySem.W.Frag) (ta:TA):TI:=λσ H R=>ta σ H λvs H1=>∃ a,vs=[.ref a]/\(∃ xs,SqL K H1 a xs)/\R (Ite λH xs=>SqL K H a xs) H1
theorem rH {elts:List Expr}{k:Nat}{tpos:Pos}{a:Expr}{ta:TA}{p pos:Pos} (hg:Gl X "enumerate") (hm:X.mg "enumerate" = none) (ha:PA X [a] ta) (hs:starEach [a] X.env=[(false,eval a X.env)]:=by rfl) :
  PI X (.Tuple elts k tpos) (.Call (.Name "enumerate" p) [a] [] pos) (u8 X.K ta):=by
 intro pins s σ H R I h
 refine Call_ (ig I hg hm boot_enumerate (PyProof.Rows.callWith_type1 (thn (ha pos pins s σ H _ I h) λus s1 ⟨vs,H1,I1,r1,q1⟩=>?_) hs rfl))
 obtain⟨l,e,⟨xs,hq⟩,q⟩:=q1
 subst e
 cases r1 with
 | cons r rr=>
  cases rr
  cases r
  obtain⟨its,rv,p',hz⟩:=I1.list hq
  refine call_enumerate_list p'.isList λh' he hit hsz hk=>wpAny_pyIter_enum he ?_
  have hlt:l < s1.heap.objs.size:=by obtain⟨_,_,e,_⟩:=p';exact Heap.lt_size e
  refine⟨_,[s1.heap.objs.size+1,s1.heap.objs.size],_,_,H1,rfl,I1.kept (t':=s1.toks) hk,oP l s1.heap.objs.size (s1.heap.objs.size+1) (Nat.succ_ne_self _) (Nat.ne_of_lt (Nat.lt_succ_of_lt hlt)) (Nat.ne_of_lt hlt),⟨⟨_,he⟩,hit⟩,λb hb=>?_,q⟩
  have hb':s1.heap.objs.size<=b:=by
   rcases List.mem_cons.mp hb with e | hb
   ·rw [e];exact Nat.le_succ _
   ·rw [List.mem_singleton.mp hb];exact Nat.le_refl _
  exact I1.fpOk hb' (I1.hok.fresh hb')
noncomputable def u9 (K:PySem.W.Frag) (ta:TA):TI:=λσ H R=>ta σ H λvs H1=>∃ a,vs=[.ref a]/\(∃ xs,SqT K H1 a xs)/\R (Ite λH xs=>SqT K H a xs) H1
theorem rJ {elts:List Expr}{k:Nat}{tpos:Pos}{a:Expr}{ta:TA}{p pos:Pos} (hg:Gl X "enumerate") (hm:X.mg "enumerate" = none) (ha:PA X [a] ta) (hs:starEach [a] X.env=[(false,eval a X.env)]:=by rfl) :
  PI X (.Tuple elts k tpos) (.Call (.Name "enumerate" p) [a] [] pos) (u9 X.K ta):=by
 intro pins s σ H R I h
 refine Call_ (ig I hg hm boot_enumerate (PyProof.Rows.callWith_type1 (thn (ha pos pins s σ H _ I h) λus s1 ⟨vs,H1,I1,r1,q1⟩=>?_) hs rfl))
 obtain⟨l,e,⟨xs,hq⟩,q⟩:=q1
 subst e
 cases r1 with
 | cons r rr=>
  cases rr
  cases r
  obtain⟨its,rv,p',hz⟩:=I1.tuple hq
  refine gj p' λh' he hit hsz hk=>wpAny_pyIter_enum he ?_
  have hlt:l < s1.heap.objs.size:=by obtain⟨_,e,_⟩:=p';exact Heap.lt_size e
  refine⟨_,[s1.heap.objs.size+1,s1.heap.objs.size],_,_,H1,rfl,I1.kept (t':=s1.toks) hk,oQ l s1.heap.objs.size (s1.heap.objs.size+1) (Nat.succ_ne_self _) (Nat.ne_of_lt (Nat.lt_succ_of_lt hlt)) (Nat.ne_of_lt hlt),⟨⟨_,he⟩,hit⟩,λb hb=>?_,q⟩
  have hb':s1.heap.objs.size<=b:=by
   rcases List.mem_cons.mp hb with e | hb
   ·rw [e];exact Nat.le_succ _
   ·rw [List.mem_singleton.mp hb];exact Nat.le_refl _
  exact I1.fpOk hb' (I1.hok.fresh hb')
theorem oV {ns:List Int}:∀ {us:List Value},aN (ns.map V.int) us->∃ xs:Array (Int×Tok),us.toArray=intItems xs/\xs.toList.map (·.1)=ns:=by
 induction ns with
 | nil=>intro us r;cases r;exact⟨#[],by simp [intItems],rfl⟩
 | cons n ns ih=>
  intro us r
  rw [List.map_cons] at r
  cases r with
  | cons r rr=>
   obtain⟨t,rfl⟩:=r
   obtain⟨xs,e,e2⟩:=ih rr
   refine⟨#[(n,t)]++xs,?_,by simp [e2]⟩
   apply Array.toList_inj.mp
   have e':=congrArg Array.toList e
   simp [intItems] at e' ⊢
   exact e'
theorem qC:cJ X (.builtin "sum") (λxs H Q=>X.calm=true/\∃ (a:Addr) (ns:List Int),xs=[.ref a]/\SqL X.K H a (ns.map V.int)/\Q (.int ns.sum) H):=by
 intro pins s σ H xs us Q I rv h
 obtain⟨hc,a,ns,rfl,hq,q⟩:=h
 cases rv with
 | cons r rr=>
  cases rr
  cases r
  obtain⟨its,rv,p,hz⟩:=I.list hq
  obtain⟨ps,e1,e2⟩:=oV rv
  have hl:=p.isList
  rw [e1] at hl
  refine sum_intListG (I.ok.hd hc) hl λh' tk t' hk=>?_
  refine⟨.int ns.sum,H,I.kept (t':=tk) hk,⟨t',?_⟩,q⟩
  rw [preSum_eq,List.take_of_length_le (by simp),e2]
theorem qB:cJ X (.builtin "all") (λxs H Q=>X.calm=true/\∃ (a:Addr) (bs:List Bool),xs=[.ref a]/\SqL X.K H a (bs.map V.bl)/\Q (.bl (bs.all id)) H):=by
 intro pins s σ H xs us Q I rv h
 obtain⟨hc,a,bs,rfl,hq,q⟩:=h
 cases rv with
 | cons r rr=>
  cases rr
  cases r
  obtain⟨its,rv,p,hz⟩:=I.list hq
  have hlt:a < s.heap.objs.size:=by obtain⟨_,_,e,_⟩:=p;exact Heap.lt_size e
  have hlen:its.length=bs.length:=by have:=rv.length;simpa using this.symm
  refine call_all_walk (wpAny_pyIter_list p.isList ?_)
  refine⟨s.heap.objs.size,_,_,_,_,_,λi=>(bs[i]?).getD true,rfl,Walks.list (A:=X.A.in1) (I.ok.hd hc) s.heap.objs.size a (Nat.ne_of_lt hlt) its.toArray,⟨⟨_,Heap.get?_push_size _ rfl,rfl,rfl⟩,p.isList.push _⟩,?_,λh' tk hk=>?_⟩
  ·intro i v s' Q' E' hv hQ'
   have hv':its[i]?=some v:=by simpa using hv
   have hi:i < its.length:=(List.getElem?_eq_some_iff.mp hv').1
   obtain⟨b,hb⟩:∃ b,bs[i]?=some b:=⟨bs[i]'(by lia),by simp [show i < bs.length by lia]⟩
   have:(bs.map V.bl)[i]?=some (.bl b):=by rw [List.getElem?_map,hb];rfl
   obtain⟨u,hu,ru⟩:=rv.get this
   rw [hv'] at hu
   cases hu
   cases ru
   have hQ2:Q' ((bs[i]?).getD true) s':=hQ'
   rw [hb] at hQ2
   exact wpAny_truthy_bool hQ2
  ·refine⟨.bl (bs.all id),H,I.kept (t':=tk) (λb o e=>hk b o (λz=>absurd (Heap.lt_size e) (by rw [List.mem_singleton.mp z];exact Nat.lt_irrefl _)) (Heap.get?_push_of_some _ e)),?_,q⟩
   show Value.bool _=Value.bool _
   congr 1
   have:∀ n,n=bs.length->((List.range n).all λi=>(bs[i]?).getD true)=bs.all id:=by
    intro n hn
    rw [Bool.eq_iff_iff,List.all_eq_true,List.all_eq_true]
    constructor
    ·intro h b hb
     obtain⟨i,hi,e⟩:=List.mem_iff_getElem.mp hb
     have:=h i (List.mem_range.mpr (by lia))
     simp [hi,e] at this
     exact this
    ·intro h i hi
     have hi':=List.mem_range.mp hi
     have hlt':i < bs.length:=by lia
     simp [hlt']
     exact h _ (List.getElem_mem _)
   exact this _ (by simpa using hlen)
end
end L2
namespace L2
open PySem PySem.Spec PyProof.Rows
noncomputable def gc (k:Nat) (js:List Nat) (σ:St):St:=List.replicate k none++js.map λj=>(σ[j]?).getD none
noncomputable def wD (scope:Scope) (ns:List (Str×NameKind)) (N Nc:List Str) (k:Nat) (js:List Nat):Bool:=
 decide ((scope.names.map (·.1)).Nodup) && decide Nc.Nodup && decide (Nc.length=k+js.length) &&
 (scope.names.all λx=>x.2 != .free || ns.lookup x.1==some .cell || ns.lookup x.1==some .free) &&
 ((List.range js.length).all λi=>match Nc[k+i]?,js[i]? with | some x,some j=>N[j]?==some x && scope.names.lookup x==some .free | _,_=>false)
theorem ec {X:Cx}{scope:Scope} (ns:List (Str×NameKind)) (N Nc:List Str) (k:Nat) (js:List Nat) (hns:X.env.scope.names=ns) (hN:X.N=N) (hk:scope.kind=.function) (h:wD scope ns N Nc k js=true):eE X scope Nc (gc k js):=by
 unfold wD at h
 simp only [Bool.and_eq_true,decide_eq_true_eq] at h
 obtain⟨⟨⟨⟨h1,h2⟩,h3⟩,h4⟩,h5⟩:=h
 refine⟨hk,h1,h2,λx hx hf=>?_,λσ _=>?_,λσ _ i x v e1 e2=>?_⟩
 ·have:=List.all_eq_true.mp h4 x hx
  rw [hf] at this
  simp only [Bool.or_eq_true,beq_iff_eq,bne_self_eq_false,Bool.false_eq_true,false_or] at this
  unfold Env.kindOf
  rw [hns]
  exact this
 ·unfold gc
  rw [List.length_append,List.length_replicate,List.length_map,h3]
 ·unfold gc at e2
  by_cases hi:i < k
  ·rw [List.getElem?_append_left (by simpa using hi),List.getElem?_replicate,if_pos hi] at e2
   cases e2
  ·rw [List.getElem?_append_right (by simpa using hi),List.length_replicate,List.getElem?_map] at e2
   cases ej:js[i - k]? with
   | none=>rw [ej] at e2;cases e2
   | some j=>
    rw [ej] at e2
    have hlt:=(List.getElem?_eq_some_iff.mp ej).1
    have:=List.all_eq_true.mp h5 (i - k) (List.mem_range.mpr hlt)
    rw [show k+(i - k)=i by lia,e1,ej] at this
    simp only [Bool.and_eq_true,beq_iff_eq] at this
    refine⟨j,by rw [hN];exact this.1,?_,this.2⟩
    have e3:(σ[j]?).getD none=some v:=Option.some.inj e2
    cases eq:σ[j]? with
    | none=>rw [eq] at e3;cases e3
    | some o=>rw [eq] at e3;rw [show o=some v from e3]
section
variable {σe tl:St}{tt:TT}{te:TE}{H:Hp}{Q:VK}
end
section
variable {X:Cx}
theorem tY:OpR X (binaryOp .Mult) (rI IntMulOk λi j=>.int (i*j)):=opI λ_ _ _ _ _ _ _ hc q=>mul_int q hc
end
theorem aZ.new {H:Hp}{p:Addr} (h:H p=none) (o:HO):aZ H (upd H p o):=λb u q=>by rw [am (ar q h)];exact q
end L2
namespace L2
open PySem PySem.Spec PyProof.Rows
theorem mG {n:Nat} (h:n<=1000):n<=sizeLine:=Nat.le_of_lt (ql h)
end L2
namespace L2
open PySem PySem.Spec PyProof.Rows
theorem p18:lK 10 18:=⟨by decide,by decide,by decide⟩
end L2
namespace L2
open PySem PySem.Spec PyProof.Rows
open PySem.AutoSeq1 (wpAny_loadPart')
theorem sw (l:Addr) (items:Array Value) (n:Nat) (dct:Option Addr) (sl:Array (Option Value)) (u:Tok) :
  Meets (Builtin.«tuple.__mul__» ⟨[.ref l,.int 1 u],[]⟩) (λ_ R s=>s.heap.get? l=some { cls:=.type "tuple",dict:=dct,data:=.seq items n,slots:=sl }/\R (.ok (.ret (.ref l))) s):=
 .of_wp λprog w A R s h=>by
  obtain⟨hp,g,d,tk,os⟩:=s;obtain⟨hl,h⟩:=h
  wp_walk using wpAny_loadPart' hl
  exact⟨_,rfl,h⟩
theorem qq (l:Addr) (items:Array Value) (n:Nat) (dct:Option Addr) (sl:Array (Option Value)) (x:Int) (u:Tok) (h2:2<=x) (h3:x < 1000) (he:items.isEmpty=false) (hz:items.size<=1000)
  (hsz:((List.replicate x.toNat items).foldl (λx1 x2=>x1++x2) #[]).size<=sizeLine) :
  Meets (Builtin.«tuple.__mul__» ⟨[.ref l,.int x u],[]⟩) (λ_ R s=>s.heap.get? l=some { cls:=.type "tuple",dict:=dct,data:=.seq items n,slots:=sl }/\
   R (.ok (.ret (.ref s.heap.objs.size))) { s with heap:=s.heap.push { cls:=.type "tuple",data:=.seq ((List.replicate x.toNat items).foldl (λx1 x2=>x1++x2) #[]) } }):=
 .of_wp λprog w A R s h=>by
  obtain⟨hp,g,d,tk,os⟩:=s;obtain⟨hl,h⟩:=h
  have c1:(x < -(2 ^ 63) || x>=2 ^ 63)=false:=by simp;lia
  have c2:(items.isEmpty || x==1)=false:=by rw [he];simp;lia
  have c3:(x<=0 || items.isEmpty)=false:=by rw [he];simp;lia
  have hpr:(items.size:Int)*x<=1000000:=by
   have a1:(items.size:Int)*x<=1000*x:=Int.mul_le_mul_of_nonneg_right (by lia) (by lia)
   lia
  have c4:¬ ((items.size:Int)*x > (2 ^ 63 - 1) / 8):=by lia
  have c5:Builtin.Tuple.tupleTooMany ((items.size:Int)*x)=false:=by
   unfold Builtin.Tuple.tupleTooMany
   exact decide_eq_false (by have:(sizeLine:Nat)=16777216:=rfl
                             lia)
  wp_walk using wpAny_loadPart' hl
  refine wpAny_ite_false (decide_eq_false (by rw [c1];exact Bool.false_ne_true)) ?_
  wp_walk using wpAny_loadPart' hl
  refine wpAny_ite_false (decide_eq_false (by rw [c2];exact Bool.false_ne_true)) ?_
  wp_walk using wpAny_loadPart' hl
  refine wpAny_ite_false (decide_eq_false (by rw [c3];exact Bool.false_ne_true)) ?_
  wp_walk using wpAny_loadPart' hl
  refine wpAny_ite_false (decide_eq_false c4) ?_
  wp_walk using wpAny_loadPart' hl
  exact⟨_,rfl,h⟩
theorem qr (l:Addr) (items:Array Value) (n:Nat) (dct:Option Addr) (sl:Array (Option Value)) (u:Tok) (he:items.isEmpty=false) :
  Meets (Builtin.«tuple.__mul__» ⟨[.ref l,.int 0 u],[]⟩) (λ_ R s=>s.heap.get? l=some { cls:=.type "tuple",dict:=dct,data:=.seq items n,slots:=sl }/\R (.ok (.ret (.ref s.heap.objs.size))) { s with heap:=s.heap.push { cls:=.type "tuple",data:=.seq #[] } }):=
 .of_wp λprog w A R s h=>by
  obtain⟨hp,g,d,tk,os⟩:=s;obtain⟨hl,h⟩:=h
  have c2:(items.isEmpty || (0:Int)==1)=false:=by rw [he];decide
  wp_walk using wpAny_loadPart' hl
  exact⟨_,rfl,h⟩
theorem jg:fillsNumberSlot (.type "tuple") "mul" = pure false:=
 PySem.fillsNumberSlot_seq (id:="tuple.__mul__") (r:=some (.builtin "tuple.__rmul__")) F.slot_tuple_mul.lookup (by decide +kernel) F.slot_tuple_rmul.lookup (by decide +kernel)
theorem my:seqRepeat? (.type "tuple")=pure (some (.builtin "tuple.__mul__")):=by
 unfold seqRepeat?
 rw [PySem.seqSlot_of (T:="tuple") (name:="__mul__") (id:="tuple.__mul__") F.slot_tuple_mul.lookup (by decide +kernel),PySem.seqSlot_of (T:="tuple") (name:="__rmul__") (id:="tuple.__rmul__") F.slot_tuple_rmul.lookup (by decide +kernel)]
 rfl
theorem kc (a:Int) (t:Tok) (l:Addr) (items:Array Value) (n:Nat) (dct:Option Addr) (sl:Array (Option Value)) :
  Meets (Builtin.«int.__rmul__» ⟨[.int a t,.ref l],[]⟩) (λ_ R s=>s.heap.get? l=some { cls:=.type "tuple",dict:=dct,data:=.seq items n,slots:=sl }/\R (.ok (.ret Value.notImplemented)) s):=
 .of_wp λprog w A R s h=>by obtain⟨hp,g,d,tk,os⟩:=s;obtain⟨hl,h⟩:=h;wp_walk using wpAny_loadPart' hl;exact⟨_,rfl,h⟩
section
variable {X:Cx}
noncomputable def xi (K:PySem.W.Frag):R2:=λx y H Q=>∃ l k xs,x=.ref l/\y=.int k/\SqT K H l xs/\xs≠[]/\xs.length<=1000/\0<=k/\k < 1000/\(k=1->Q (.ref l) H)/\
 (k≠1->∀ p,H p=none->Q (.ref p) (upd H p (.tup (List.replicate k.toNat xs).flatten)))
theorem t3:OpR X (binaryOp .Mult) (xi X.K):=by
 intro pins s σ H x y v u Q I rx ry h
 obtain⟨l,k,xs,rfl,rfl,hq,hne,hl1,h1,h2,q1,q2⟩:=h
 cases rx
 obtain⟨t,rfl⟩:=ry
 obtain⟨its,rv,p,hz⟩:=I.tuple hq
 obtain⟨⟨c,dct,dt,sl⟩,e,hc,n,hd⟩:=p
 replace hc:c=.type "tuple":=hc
 replace hd:dt=.seq its.toArray n:=hd
 subst hc hd
 have hlen:=rv.length
 refine wpAny_binaryOp_repeat_ref (T:="tuple") (U:="int") (by decide) ⟨_,e,rfl⟩ (λs'=>typeIs_int s' k t) jg F.fills_int_mul F.slot_int_rmul my F.slot_int_index.lookup
  (call_meets F.slot_int_rmul (typeIs_int s k t) F.entry_int_rmul (F.args_int_rmul_2 _ _) (kc k t l its.toArray n dct sl) ⟨e,rfl,⟨_,e,rfl⟩,?_⟩)
 by_cases hk:k=1
 ·subst hk
  exact call_meets F.slot_tuple_mul ⟨_,e,rfl⟩ F.entry_tuple_mul (F.args_tuple_mul_2 _ _) (sw l its.toArray n dct sl t) ⟨e,.ref l,H,I,rfl,q1 rfl⟩
 ·have f0:List.foldl (λx1 x2=>x1++x2) #[] (List.replicate k.toNat its.toArray)=(List.replicate k.toNat its).flatten.toArray:=by
   have:=iZ its k.toNat []
   rw [List.nil_append] at this
   exact this
  have hsz:(List.replicate k.toNat xs).flatten.length<=sizeLine:=by
   rw [mf]
   have:k.toNat*xs.length<=1000*1000:=Nat.mul_le_mul (by lia) hl1
   have hs:sizeLine=16777216:=rfl
   lia
  have hsz2:(List.replicate k.toNat its).flatten.length<=sizeLine:=by
   rw [mf] at hsz ⊢
   rw [<-hlen];exact hsz
  have hemp:its.toArray.isEmpty=false:=by
   cases its with
   | nil=>cases xs with
    | nil=>exact absurd rfl hne
    | cons _ _=>cases hlen
   | cons _ _=>rfl
  by_cases hk0:k=0
  ·subst hk0
   refine call_meets F.slot_tuple_mul ⟨_,e,rfl⟩ F.entry_tuple_mul (F.args_tuple_mul_2 _ _) (qr l its.toArray n dct sl t hemp) ⟨e,?_⟩
   exact⟨.ref _,_,I.laid (t':=s.toks) (o:=.tup []) (λ_ _ q=>Heap.get?_push_of_some _ q) (Nat.le_refl _) ⟨Nat.zero_le _,[],.nil,⟨_,Heap.get?_push_size _ rfl,rfl,⟨0,rfl⟩,rfl⟩⟩,rfl,q2 hk _ I.fresh⟩
  refine call_meets F.slot_tuple_mul ⟨_,e,rfl⟩ F.entry_tuple_mul (F.args_tuple_mul_2 _ _) (qq l its.toArray n dct sl k t (by lia) h2 ?_ (by rw [List.size_toArray];lia) (by rw [f0,List.size_toArray];exact hsz2)) ⟨e,?_⟩
  ·cases its with
   | nil=>cases xs with
    | nil=>exact absurd rfl hne
    | cons _ _=>cases hlen
   | cons _ _=>rfl
  ·rw [f0]
   refine⟨.ref _,_,I.laid (t':=s.toks) (o:=.tup (List.replicate k.toNat xs).flatten) (λ_ _ q=>Heap.get?_push_of_some _ q) (Nat.le_refl _) ⟨hsz,(List.replicate k.toNat its).flatten,rv.rep k.toNat,⟨_,Heap.get?_push_size _ rfl,rfl,⟨0,rfl⟩,rfl⟩⟩,rfl,q2 hk _ I.fresh⟩
end
end L2
namespace L2
open PySem PySem.Spec PyProof.Rows
end L2
namespace L2
open PySem PySem.Spec PyProof.Rows
section
variable {X:Cx}{K:PySem.W.Frag}
theorem wC (hc:X.calm=true:=by rfl) (hK:X.K=K:=by rfl):cJ X (.builtin "sum") (λxs H Q=>∃ (a:Addr) (ns:List Int),xs=[.ref a]/\SqL K H a (ns.map V.int)/\Q (.int ns.sum) H):=by
 subst hK
 intro pins s σ H xs us Q I rv h
 exact qC pins s σ H xs us Q I rv ⟨hc,h⟩
theorem wB (hc:X.calm=true:=by rfl) (hK:X.K=K:=by rfl):cJ X (.builtin "all") (λxs H Q=>∃ (a:Addr) (bs:List Bool),xs=[.ref a]/\SqL K H a (bs.map V.bl)/\Q (.bl (bs.all id)) H):=by
 subst hK
 intro pins s σ H xs us Q I rv h
 exact qB pins s σ H xs us Q I rv ⟨hc,h⟩
end
end L2
namespace L2
open PySem PySem.Spec PyProof.Rows
section
variable {X:Cx}
end
end L2
namespace L2
open PySem PySem.Spec PyProof.Rows
end L2
namespace L2
open PySem PySem.Spec PyProof.Rows
section
variable {X:Cx}{e:Expr}{ty:TE}{p1 p2 p3 p4 dpos apos cpos:Pos}{j1 j2 j3 j4:Nat}
end
end L2
namespace L2
open PySem PySem.Spec PyProof.Rows
end L2
namespace L2
open PySem PySem.Spec PyProof.Rows
open PySem.AutoSeq1 (wpAny_loadPart')
section
variable {prog:Program}{w:World}{A:Around}{E:Value->Shared->Prop}{s:Shared}
end
section
variable {X:Cx}
end
section
variable {prog:Program}{w:World}{A:Around}{E:Value->Shared->Prop}{s:Shared}
end
section
variable {X:Cx}{e:Expr}{te:TE}{p1 p2 p3 pos:Pos}{j:Nat}
end
end L2
namespace L2
open PySem PySem.Spec PyProof.Rows
end L2
namespace L2
open PySem PySem.Spec PyProof.Rows
theorem aN.at {xs:List V}{us:List Value} (r:aN xs us):∀ (j:Nat) (h:j < us.length) ,∃ h':j < xs.length,aQ xs[j] us[j]:=by
 induction r with
 | nil=>intro j h;exact absurd h (Nat.not_lt_zero j)
 | cons a t ih=>
  intro j h
  cases j with
  | zero=>exact⟨Nat.zero_lt_succ _,a⟩
  | succ j=>
   obtain⟨h1,r1⟩:=ih j (Nat.lt_of_succ_lt_succ h)
   exact⟨Nat.succ_lt_succ h1,r1⟩
theorem jN (e:Nat->Bool) (n:Nat):(List.range (n+1)).all e=(e 0 && (List.range n).all λj=>e (j+1)):=by
 rw [List.range_succ_eq_map,List.all_cons,List.all_map];rfl
section
variable {X:Cx}{K:PySem.W.Frag}{pins:List (Addr×Obj)}{σ:St}{H:Hp}{s:Shared}{A:Around}{a b:Addr}{xs ys:List V}
end
end L2
namespace L2
open PySem PySem.Spec PyProof.Rows
section
variable {X:Cx}{pos p1 p2:Pos}{j1 j2:Nat}
end
section
variable {K:PySem.W.Frag}{H:Hp}
end
section
variable {X:Cx}{K:PySem.W.Frag}
end
end L2
namespace HT
open PySem PySem.Spec PyProof.Rows L2
section
variable {prog:Program}{w:World}{A:Around}{E:Value->Shared->Prop}{s:Shared}
end
end HT
namespace L2
open PySem PySem.Spec PyProof.Rows
end L2
namespace L2
open PySem PySem.Spec PyProof.Rows
section
variable {X:Cx}{scope:Scope}{Nc:List Str}{emb:St->St}{elt iter tg:Expr}{ifs:List Expr}{pos:Pos}{wi:TI}{g:TG}{tt:TT}{te:TE}
theorem wX {i0:Nat}{x0:Str}{py spos:Pos} (hN0:X.N.Nodup) (hi0:X.N[i0]?=some x0) (hx0:Loc X.env.scope x0) (S:eE X scope Nc emb) (hc:X.calm=true) (hi:PI X tg iter wi)
  (hg:∀ cells s H C fp,PG (lcX X scope cells Nc s H C fp) tg g) (ht:∀ cells s H C fp,PTs (lcX X scope cells Nc s H C fp) ifs tt) (he:∀ cells s H C fp,PE (lcX X scope cells Nc s H C fp) elt te)
  (hsw:swapsWith (.ListComp elt [⟨tg,iter,ifs,0⟩] scope pos) (some (.Name x0 py)) spos.line X.env=pure true:=by rfl)
  (hf0:X.fn x0=true\/X.env.scope.names.lookup x0=some .local:=by first | exact .inl rfl | exact .inr rfl | assumption)
  (hs:∀ x,foldedSetIterable iter X.env x=pure x:=by intro _;rfl):PS X (.Assign [.Name x0 py] (.ListComp elt [⟨tg,iter,ifs,0⟩] scope pos) spos) (v8 (tLc emb wi g tt te) (mW i0)):=by
 intro pins s σ H DD I h
 rw [exec_Assign_Name_used _ _ _ _ hsw]
 refine wpAny_bind (wpAny_standAt (wpAny_bind ?_))
 show wpAny _ X.A (do let _ <-comprehension (.ListComp elt [⟨tg,iter,ifs,0⟩] scope pos) scope X.env _ (newList []) false (eval iter X.env) (some (assign (.Name x0 py) X.env))) _ _ s
 refine wpAny_bind (wpAny_mono (wpAny_comprehension_free (use:=some (assign (.Name x0 py) X.env)) (Q:=λ_ s'=>SP X pins DD .next s') rfl hs (gP (S.clos I.ok)) S.kind (λx hx hl=>dP S.nd (by rw [<-hl];exact hx)) ?_) (λ_ s' hq=>wpAny_pure (wpAny_pure hq)) λ_ _ e=>e)
 refine thn (hi pins s σ H _ I h) λv s1 h1=>thn h1 λitv s2 h2=>?_
 obtain⟨it,fp,tn,J,H2,e,I2,T,st2,f2,W,⟨m0,w0⟩,turn⟩:=h2
 subst e
 refine wpAny_newObj_type (iH ?_)
 rw [show (s2.heap.push { cls:=.type "list",dict:=none,data:=.seq ([]:List Value).toArray }).objs.size=s2.heap.objs.size+1 from Heap.size_push ..]
 generalize hD:s2.heap.objs.size=D
 generalize hlo:({ cls:=.type "list",dict:=none,data:=.seq ([]:List Value).toArray }:Obj)=lo
 have fplt:∀ b ∈ fp,b < s2.heap.objs.size:=λb hb=>by obtain⟨o,e,_⟩:=T.obj _ _ st2 b hb;exact Heap.lt_size e
 have I3:=no (lo:=lo) S I2 f2 (λb hb=>by obtain⟨o,e,_⟩:=T.obj _ _ st2 b hb;exact⟨o,e⟩) (by rw [<-hlo];intro v z;cases z) (by rw [<-hlo];rfl)
 rw [hD] at I3
 generalize hcells:cellsFrom (D+2) scope.names (bu X.env.cells scope.names [])=cells at I3
 generalize hX':lcX X scope cells Nc s2 H2 (D+1) fp=X' at I3
 have hfpX:∀ {H':Hp}{ps:List (Addr×Obj)},(∀ b ∈ fp,H' b=none)->(∀ p ∈ ps,p.1=D)->∀ b ∈ fp,gK X' ps H' b:=λ{H' ps} hn hps b hb=>by
  have ok:=I3.ok
  refine⟨hn b hb,?_,?_,.inl (by rw [<-hX'];exact hb),?_,λp hp=>?_⟩
  ·exact (ok.exf b (by rw [<-hX'];exact hb)).1
  ·exact ok.exfs b (by rw [<-hX'];exact hb)
  ·exact (ok.exf b (by rw [<-hX'];exact hb)).2
  ·have hp':p ∈ ([]:List (Addr×Obj))++ps:=by rw [<-hX'] at hp;exact hp
   have e:p.1=D:=hps p (by simpa using hp')
   rw [e,<-hD]
   exact Nat.ne_of_gt (fplt b hb)
 have Dex:D ∈ X'.ex\/X'.s₀.heap.objs.size<=D:=.inr (by rw [<-hX',<-hD];exact Nat.le_refl _)
 have Dloc:D≠X'.env.locals:=by rw [<-hX'];exact Nat.ne_of_lt (Nat.lt_succ_self _)
 have pD:=I3.pin (D,lo) (by rw [<-hX'];exact List.mem_append_right _ List.mem_cons_self)
 have Dfs:D ∉ X'.fs:=pD.2.2.2.1
 have Dcell:∀ x c,X'.env.cells.lookup x=some c->c≠D:=λx c hc' e=>by
  obtain⟨v,o,ho,hd⟩:=I3.cell x c hc'
  rw [e,pD.1] at ho
  cases ho
  exact pD.2.2.2.2 v hd
 -- the loop
 have loop:∀ s3:Shared,s3={ s2 with heap:=pushCells ((s2.heap.push lo).push { cls:=.type "dict",data:=.dict #[] }) scope.names }->
   codeAny (model X.prog X.w) X.A (.compLoop (.ListComp elt [⟨tg,iter,ifs,0⟩] scope pos) 0 (.ref it) (.ref D) (compEnvC scope cells (D+1) X.env))
    (compPost (model X.prog X.w) X.A X.xe (some (assign (.Name x0 py) X.env)) (λ_ s'=>SP X pins DD .next s') (.ref D) (D+1)) s3:=by
  rintro s3 rfl
  refine dq (λn s'=>∃ i ys its k H',Inv X' [(D,{ cls:=.type "list",data:=.seq its.toArray k })] (emb σ) H' s'/\aN ys its/\tn i s'.heap/\(∀ b ∈ fp,H' b=none)/\ys.length<=sizeLine/\W i n ys H') ?_ m0
   ⟨0,[],[],0,H2,?_,.nil,?_,λb hb=>(f2 b hb).1,Nat.zero_le _,w0⟩
  ·rintro n s4 ⟨i,ys,its,k,H4,I4,rv,st4,fr4,hlen,w4⟩
   have hps:∀ p ∈ [(D,({ cls:=.type "list",data:=.seq its.toArray k }:Obj))],p.1=D:=λp hp=>by
    have:=List.mem_singleton.mp hp
    rw [this]
   rcases turn i n ys H4 w4 with⟨stop,qn⟩ | ⟨go,hlt,N,hN,step⟩
   ·-- the end
    have TD:=T.done X' (by rw [<-hX'];rfl) (by rw [<-hX'];rfl) (by rw [<-hX'];rfl) (by rw [<-hX'];exact hc) i _ s4 (emb σ) H4 (λ_ _=>False) I4 (hfpX fr4 hps) st4 stop
    rw [show X'.A=X.A by rw [<-hX'];rfl] at TD
    refine thn TD λr s5 ⟨hr,I5⟩=>?_
    subst hr
    obtain⟨m5,hn5,_⟩:=id I5.loc
    have eC:X'.env.locals=D+1:=by rw [<-hX'];rfl
    rw [eC] at hn5
    suffices inv5:∀ h',Heap.SameBut (D+1) s5.heap h'->Inv X pins σ (upd H4 D (.lst ys)) { s5 with heap:=h' } by
     have I5X:Inv X pins σ (upd H4 D (.lst ys)) s5:=inv5 s5.heap ⟨rfl,λ_ _=>rfl⟩
     have hD4':H4 D=none:=(I5.pin (D,{ cls:=.type "list",data:=.seq its.toArray k }) (by rw [<-hX'];exact List.mem_append_right _ List.mem_cons_self)).2.1
     have hC4:upd H4 D (.lst ys) (D+1)=none:=by
      have:=I5.free
      rw [eC] at this
      rw [am (Nat.ne_of_gt (Nat.lt_succ_self D))]
      exact this
     have fpC:∀ b ∈ [D+1],gK X pins (upd H4 D (.lst ys)) b:=λb hb=>by
      have e:=List.mem_singleton.mp hb
      subst e
      exact I2.fpOk (by rw [hD];exact Nat.le_succ D) hC4
     obtain⟨oC,esC,epC,getC,datC,relC⟩:=id hn5
     have I5p:=I5X.pinned fpC λb hb=>by
      have e:=List.mem_singleton.mp hb
      subst e
      exact⟨oC,getC,λv z=>by rw [datC] at z;cases z⟩
     refine wpAny_assign_Name (iO I5p hN0 hi0 hx0 (v:=.ref D) rfl (λs6 I6=>?_) hf0)
     have pC:=(I6.pin (D+1,oC) (List.mem_append_right _ (List.mem_append_right _ (cI List.mem_cons_self getC)))).1
     refine⟨m5,⟨oC,esC,epC,pC,datC,relC⟩,λh' hsb=>?_⟩
     have I6u:=I6.unpinned
     exact⟨_,_,I6u.turns (t':=s6.toks) fpC (λb o hb e=>(hsb.2 b (λz=>hb (by rw [z];exact List.mem_cons_self))).trans e),qn D hD4'⟩
    intro h' hsb
    have pD5:=I5.pin (D,{ cls:=.type "list",data:=.seq its.toArray k }) (by rw [<-hX'];exact List.mem_append_right _ List.mem_cons_self)
    have neC:∀ b u,H4 b=some u->b≠D+1:=λb u e z=>by
     have:=I5.free
     rw [eC,<-z,e] at this
     cases this
    have hD4:H4 D=none:=pD5.2.1
    have un:=I5.base
    have un':Un (frs X.stack) fp H2 H4 s2.heap s5.heap:=by rw [<-hX'] at un;exact un
    have old_ne:∀ b o,s2.heap.get? b=some o->b≠D/\b≠D+1:=λb o e=>by
     have q:=Heap.lt_size e
     rw [hD] at q
     exact⟨Nat.ne_of_lt q,Nat.ne_of_lt (Nat.lt_succ_of_lt q)⟩
    have h2D:H2 D=none:=by rw [<-hD];exact I2.fresh
    have hok':HOk X.prog X.w H4 h':=λb u e=>by
     have ob:bL X.prog X.w H4 s5.heap b u:=by have:=I5.hok b u e;rw [<-hX'] at this;exact this
     refine ob.stay (λc v hcv q=>(hsb.2 c ?_).trans q) (λ_ q=>q) λ_ _ q=>q
     rcases hcv with z | z
     ·rw [z];exact neC b u e
     ·exact neC c _ z
    have hokD:HOk X.prog X.w (upd H4 D (.lst ys)) h':=λb u e=>by
     by_cases hb:b=D
     ·subst hb
      rw [ay] at e
      cases e
      exact⟨hlen,its,k,rv,(hsb.2 b (Nat.ne_of_lt (Nat.lt_succ_self _))).trans pD5.1⟩
     ·rw [am hb] at e
      refine (hok' b u e).stay (λ_ _ _ q=>q) (λc q=>?_) λc z q=>?_
      all_goals first
       | (rw [am (ar q hD4)];exact q)
       | (rw [am (ar z hD4)];exact z)
    refine I2.call' (s':={ s5 with heap:=h' }) (ch:=fp) ?_ ⟨λb o e nb hb hx=>?_,λb o e nb hb hx=>?_,λb o e nb hx=>?_,λb o e hx=>?_,λb xs e=>?_,λb o u e=>?_,λb ps e=>?_⟩ hokD I5.bare (λb hb=>?_)
    ·have:=I5.os
     rw [<-hX'] at this
     exact this
    ·exact (hsb.2 b (old_ne b o e).2).trans (un'.keep b o e nb hb hx)
    ·obtain⟨sl,q⟩:=un'.slot b o e nb hb hx
     exact⟨sl,(hsb.2 b (old_ne b o e).2).trans q⟩
    ·rw [am (old_ne b o e).1]
     exact un'.free b o e nb hx
    ·obtain⟨o',q⟩:=un'.there b o e hx
     exact⟨o',(hsb.2 b (old_ne b o e).2).trans q⟩
    ·rw [am (ar e h2D)]
     exact un'.tups b xs e
    ·rw [am (ar e h2D)]
     exact un'.frzs b o u e
    ·obtain⟨m,q⟩:=un'.tbls b ps e
     exact⟨m,by rw [am (ar e h2D)];exact q⟩
    ·obtain⟨q0,q1,q2,q3,q4,q5⟩:=f2 b hb
     exact⟨q3,q1,q4,q5⟩
   ·-- a turn
    have hA:X'.A=X.A:=by rw [<-hX'];rfl
    have hP:X'.prog=X.prog:=by rw [<-hX'];rfl
    have hw:X'.w=X.w:=by rw [<-hX'];rfl
    have hE:X'.env=compEnvC scope cells (D+1) X.env:=by rw [<-hX'];rfl
    have hxe:X'.xe=λ_ _=>False:=by rw [<-hX'];rfl
    have TI':=T.item X' hP hw (by rw [<-hX'];rfl) (by rw [<-hX'];exact hc) i _ s4 (emb σ) H4 (λ_ _=>False) I4 (hfpX fr4 hps) st4 go
    rw [hA] at TI'
    refine thn TI' λr s5 ⟨u,hr,h5⟩=>?_
    subst hr
    refine thn h5 λ_ s6 ⟨x,H6,I6,r6,y6,st6,fr6⟩=>?_
    have I6':=I6.pinned (hfpX fr6 hps) (T.obj _ _ st6)
    have G:=hg cells s2 H2 (D+1) fp
    have TT':=ht cells s2 H2 (D+1) fp
    have EE:=he cells s2 H2 (D+1) fp
    rw [hX'] at G TT' EE
    have G':=G _ s6 (emb σ) H6 x u _ I6' r6 (step x H6 y6)
    rw [hA,hP,hw,hE,hxe] at G'
    refine thn G' λ_ s7 ⟨σ7,H7,I7,sb7,q7⟩=>?_
    have T':=TT' _ s7 σ7 H7 _ I7 q7
    rw [hA,hP,hw,hE,hxe] at T'
    refine thn T' λok s8 ⟨H8,I8,q8⟩=>?_
    -- what is pinned
    have pin_fp:∀ {σ9:St}{H9:Hp}{s9:Shared},Inv X' ([(D,({ cls:=.type "list",data:=.seq its.toArray k }:Obj))]++jj fp s6.heap) σ9 H9 s9->tn (i+1) s9.heap/\∀ b ∈ fp,H9 b=none:=λ{σ9 H9 s9} I9=>
     ⟨T.keep _ _ _ st6 λb hb o e=>(I9.pin (b,o) (List.mem_append_right _ (List.mem_append_right _ (cI hb e)))).1,λb hb=>by
      obtain⟨o,e,_⟩:=T.obj _ _ st6 b hb
      exact (I9.pin (b,o) (List.mem_append_right _ (List.mem_append_right _ (cI hb e)))).2.1⟩
    cases ok with
    | false=>
     rw [if_neg (by decide)] at q8
     rw [if_neg (by decide)]
     obtain⟨m',hm,w8⟩:=hN _ _ q8
     exact⟨m',hm,i+1,ys,its,k,H8,I8.unpinned.weak sb7.1 sb7.2,rv,(pin_fp I8).1,(pin_fp I8).2,hlen,w8⟩
    | true=>
     rw [if_pos rfl] at q8
     rw [if_pos rfl]
     have E':=EE _ s8 σ7 H8 _ I8 q8
     rw [hA,hP,hw,hE,hxe] at E'
     refine thn E' λy s9 ⟨v9,H9,I9,r9,n9⟩=>?_
     obtain⟨m',hm,w9⟩:=hN _ _ n9
     have pD9:=I9.pin (D,{ cls:=.type "list",data:=.seq its.toArray k }) (List.mem_append_right _ (List.mem_append_left _ List.mem_cons_self))
     have hl:=rv.length
     have I9n:Inv X' [] σ7 H9 s9:=I9.pins_of λp hp=>nomatch hp
     refine call_meets F.slot_list_append ⟨_,pD9.1,rfl⟩ F.entry_list_append (F.args_list_append_2 _ _) (PySem.list_append D its.toArray k y (by rw [List.size_toArray];lia)) ⟨pD9.1,?_⟩
     have up:∃ k':Nat,(s9.heap.update D (Obj.mapSeq λxs=>xs.push y)).get? D=some { cls:=.type "list",data:=.seq (its++[y]).toArray k' }:=by
      have q:=PySem.IsL.update pD9.1 (λxs:Array Value=>xs.push y)
      simp only [List.push_toArray] at q
      exact⟨_,q⟩
     obtain⟨k',up⟩:=up
     have hoth:∀ b o,b≠D->s9.heap.get? b=some o->(s9.heap.update D (Obj.mapSeq λxs=>xs.push y)).get? b=some o:=λb o hb e=>(Heap.get?_update_other s9.heap _ (Ne.symm hb)).trans e
     have I10:=I9n.turned (t':=s9.toks) hoth pD9.2.1 Dloc Dex Dcell (λp hp=>absurd (show p ∈ ([]:List (Addr×Obj)) by rw [<-hX'] at hp;exact hp) (by simp))
     refine⟨m',hm,i+1,ys++[v9],its++[y],k',H9,(I10.weak sb7.1 sb7.2).pins_of (λp hp=>?_),rv.append (.cons r9 .nil),T.keep _ _ _ (pin_fp I9).1 (λb hb o e=>hoth b o (by rw [<-hD];exact Nat.ne_of_lt (fplt b hb)) e),(pin_fp I9).2,?_,w9⟩
     ·have:=List.mem_singleton.mp hp
      subst this
      exact⟨up,pD9.2.1,Dloc,Dfs,λv z=>by cases z⟩
     ·rw [List.length_append,List.length_singleton]
      lia
  ·have q:lo={ cls:=.type "list",data:=.seq ([]:List Value).toArray 0 }:=hlo.symm
   rw [<-q]
   exact I3
  ·exact T.keep _ _ _ st2 λb hb o e=>pushCells_keeps _ _ b o (Heap.get?_push_of_some _ (Heap.get?_push_of_some _ e))
 refine codeAny_compStart_list ?_ ?_
 ·exact loop _ rfl
 ·refine T.self X.A 0 _ _ _ (T.keep _ _ _ st2 λb hb o e=>pushCells_keeps _ _ b o (Heap.get?_push_of_some _ (Heap.get?_push_of_some _ e))) ?_
  exact loop _ rfl
end
end L2
namespace L2
open PySem PySem.Spec PyProof.Rows
noncomputable def aH:Expr->Bool
 | .Starred _ _=>false
 | _=>true
theorem bO {e:Expr}{es:List Expr}{env:Env} (h:aH e=true):starEach (e::es) env=(false,eval e env)::starEach es env:=by
 cases e<;>first | (cases h;done) | rfl
theorem er {pos:Pos}{env:Env}:∀ {es:List Expr},es.all aH=true->(backTo pos (starEach es env)).any (·.1)=false
 | [],_=>by simp [starEach,backTo]
 | e::es,h=>by
  rw [List.all_cons,Bool.and_eq_true] at h
  rw [bO h.1]
  have:=er (pos:=pos) (env:=env) h.2
  unfold backTo at this ⊢
  rw [List.map_cons,List.any_cons,this]
  rfl
theorem gC {e:Expr}{env:Env} (h:aH e=true):starEach [e] env=[(false,eval e env)]:=by rw [bO h];rfl
theorem so {e e2:Expr}{env:Env} (h:aH e=true) (h2:aH e2=true):starEach [e,e2] env=[(false,eval e env),(false,eval e2 env)]:=by rw [bO h,gC h2]
noncomputable def rK:Expr->Bool
 | .UnaryOp .Not _ _=>false
 | .BoolOp _ _ _=>false
 | .IfExp _ _ _ _=>false
 | .Compare _ _ _ _=>false
 | _=>true
theorem qs {a:Expr}{env:Env} (h:rK a=true):∀ whole,PySem.isTrue a env whole=(do let v <-whole;standAt a.pos;holding [v] (truthy v)):=by
 intro whole
 cases a with
 | UnaryOp op x p=>cases op<;>first | (cases h;done) | rfl
 | BoolOp _ _ _=>cases h
 | IfExp _ _ _ _=>cases h
 | Compare _ _ _ _=>cases h
 | _=>rfl
theorem jO {t:Expr}{ts:List Expr}{env:Env} (h:aH t=true):assignEach (t::ts) env=(false,assign t env)::assignEach ts env:=by
 cases t<;>first | (cases h;done) | rfl
theorem lM {env:Env}:∀ {ts:List Expr},ts.all aH=true->(assignEach ts env).length=ts.length
 | [],_=>by simp [assignEach]
 | t::ts,h=>by
  rw [List.all_cons,Bool.and_eq_true] at h
  rw [jO h.1,List.length_cons,lM h.2,List.length_cons]
theorem jP {env:Env}:∀ {ts:List Expr},ts.all aH=true->(assignEach ts env).findIdx? (·.1)=none
 | [],_=>by simp [assignEach]
 | t::ts,h=>by
  rw [List.all_cons,Bool.and_eq_true] at h
  rw [jO h.1,List.findIdx?_cons,jP h.2]
  rfl
theorem oZ {t:Expr}{ts:List Expr}{env:Env} (h:aH t=true):(assignEach (t::ts) env).map (·.2)=assign t env::(assignEach ts env).map (·.2):=by rw [jO h];rfl
theorem sT {t:Expr}{env:Env} (h:aH t=true):(assignEach [t] env).map (·.2)=[assign t env]:=by rw [oZ h];simp [assignEach]
noncomputable def mv:Expr->Bool
 | .Slice _ _ _ _=>false
 | _=>true
theorem sU {o i:Expr}{pos:Pos}{env:Env} (h:mv i=true) (v:Value):assign (.Subscript o i pos) env v=(do
   let ov <-holding [v] (eval o env)
   let iv <-holding [v,ov] (eval i env)
   standAt pos
   holding [v,ov,iv] (setItem ov iv v)
   release [v,ov,iv] []):=by
 cases i<;>first | (cases h;done) | rfl
theorem qO {i:Expr} (h:mv i=true):oX i:=by
 intro o j
 cases i<;>first | (cases h;done) | rfl
end L2
namespace L2
open PySem PySem.Spec PyProof.Rows
inductive D where
 | non | bl (b:Bool) | int (i:Int) | str (x:Str) | ty (n:String) | dct | scr (ns:List Int) | tup (ds:List D) | lst (ds:List D) | ob (ns:List Str) (ds:List D)
 deriving Inhabited
inductive W where
 | d (x:D) | h (n:Nat)
 deriving Inhabited
inductive C where
 | l (ds:List D) | n (ws:List W) | m (kvs:List (List Int×D)) | k (kvs:List (Int×D)) | o (fs:List (Str×W))
 deriving Inhabited
abbrev Sto:=List C
noncomputable def lg (st:Sto) (n:Nat):Option (List D):=match st[n]? with
 | some (.l ds)=>some ds
 | _=>none
noncomputable def xS (l:List Int):List Key:=l.map Sum.inl
abbrev Ev:=List (Option W)
noncomputable def KLs (K:PySem.W.Frag) (a:Addr) (xs:List V):Prop:=
 ∃ (o:Obj) (its:Array Value) (n:Nat),K.lookup a=some o/\o.cls=.type "list"/\o.dict=none/\o.data=.seq its n/\its.size<=sizeLine/\aN xs its.toList
section
variable (K:PySem.W.Frag) (H:Hp) (φ:List Addr)
mutual
noncomputable def Rl:D->V->Prop
 | .non,v=>v=.non
 | .bl b,v=>v=.bl b
 | .int i,v=>v=.int i
 | .str x,v=>v=.str x
 | .ty n,v=>v=.ty n
 | .dct,v=>∃ a,v=.ref a/\a ∉ φ/\((∃ d,H a=some (.dK d))\/∃ d,H a=some (.dT d))
 | .scr ns,v=>∃ a,v=.ref a/\((∃ o,H a=some (.frz o (.lst (ns.map V.int))))\/KLs K a (ns.map V.int))
 | .tup ds,v=>∃ a vs,v=.ref a/\H a=some (.tup vs)/\Rls ds vs
 | .lst ds,v=>∃ a vs,v=.ref a/\a ∉ φ/\Rd H a (.lst vs)/\Rls ds vs
 | .ob ns ds,v=>∃ a Cl dx fs vs,v=.ref a/\a ∉ φ/\H a=some (.ins Cl dx fs)/\fs=ns.zip vs/\ns.length=vs.length/\5 < ns.length/\Cls K Cl/\(∀ f ∈ ns,qv K Cl f)/\Rls ds vs
noncomputable def Rls:List D->List V->Prop
 | [],vs=>vs=[]
 | d::ds,vs=>∃ v r,vs=v::r/\Rl d v/\Rls ds r
end
noncomputable def Rw:W->V->Prop
 | .d x,v=>Rl K H φ x v
 | .h n,v=>∃ a,φ[n]?=some a/\v=.ref a
noncomputable def Rws:List W->List V->Prop
 | [],vs=>vs=[]
 | d::ds,vs=>∃ v r,vs=v::r/\Rw K H φ d v/\Rws ds r
noncomputable def Rkv:List (List Int×D)->List (List Key×V)->Prop
 | [],vs=>vs=[]
 | (k,d)::ds,vs=>∃ v r,vs=(xS k,v)::r/\Rl K H φ d v/\Rkv ds r
noncomputable def Rkk:List (Int×D)->List (Key×V)->Prop
 | [],vs=>vs=[]
 | (k,d)::ds,vs=>∃ v r,vs=(Sum.inl k,v)::r/\Rl K H φ d v/\Rkk ds r
noncomputable def Rfs:List (Str×W)->List (Str×V)->Prop
 | [],vs=>vs=[]
 | (k,d)::ds,vs=>∃ v r,vs=(k,v)::r/\Rw K H φ d v/\Rfs ds r
noncomputable def Rc (k:Nat) (a:Addr):C->Prop
 | .l ds=>∃ vs,H a=some (.lst vs)/\Rls K H φ ds vs
 | .n ws=>∃ vs,H a=some (.lst vs)/\Rws K H φ ws vs/\∀ m,W.h m ∈ ws->m < k
 | .m kvs=>∃ vs,H a=some (.dT vs)/\Rkv K H φ kvs vs
 | .k kvs=>∃ vs,H a=some (.dK vs)/\Rkk K H φ kvs vs
 | .o fs=>∃ Cl dx vs,H a=some (.ins Cl dx vs)/\Rfs K H φ fs vs/\(∀ m,W.h m ∈ fs.map (·.2)->m < k)/\Cls K Cl/\∀ p ∈ fs,qv K Cl p.1
structure Sr (st:Sto):Prop where
 nd:φ.Nodup
 len:φ.length=st.length
 at_:∀ (n:Nat) a c,φ[n]?=some a->st[n]?=some c->Rc K H φ n a c
structure Er (env:Ev) (σ:St):Prop where
 len:env.length=σ.length
 at_:∀ (i:Nat) w,env[i]?=some (some w)->∃ v,σ[i]?=some (some v)/\Rw K H φ w v
end
structure Fw (φ φ':List Addr) (H H':Hp):Prop where
 ext:∃ ψ,φ'=φ++ψ/\∀ a ∈ ψ,H a=none
 keep:∀ b o,b ∉ φ->H b=some o->H' b=some o
 there:∀ b o,H b=some o->∃ o',H' b=some o'
section
variable {K:PySem.W.Frag}{H H1 H2 H':Hp}{φ φ1 φ2 φ':List Addr}{st st':Sto}
theorem Fw.refl (φ:List Addr) (H:Hp):Fw φ φ H H:=⟨⟨[],by simp,by simp⟩,λ_ _ _ h=>h,λ_ o h=>⟨o,h⟩⟩
theorem Fw.trans (a:Fw φ φ1 H H1) (b:Fw φ1 φ2 H1 H2):Fw φ φ2 H H2:=by
 obtain⟨ψ,rfl,e1⟩:=a.ext
 obtain⟨ψ2,rfl,e2⟩:=b.ext
 refine⟨⟨ψ++ψ2,by rw [List.append_assoc],λc hc=>?_⟩,λc o hc h=>?_,λc o h=>?_⟩
 ·rcases List.mem_append.mp hc with z | z
  ·exact e1 c z
  ·cases q:H c with
   | none=>rfl
   | some o=>
    obtain⟨o',q'⟩:=a.there c o q
    rw [e2 c z] at q';cases q'
 ·refine b.keep c o (λz=>?_) (a.keep c o hc h)
  rcases List.mem_append.mp z with z | z
  ·exact hc z
  ·rw [e1 c z] at h;cases h
 ·obtain⟨o',q⟩:=a.there c o h
  exact b.there c o' q
theorem Fw.same (s:aZ H H'):Fw φ φ H H':=⟨⟨[],by simp,by simp⟩,λb o _ h=>s b o h,λb o h=>⟨o,s b o h⟩⟩
theorem Fw.new {p:Addr}{o:HO} (hp:H p=none):Fw φ φ H (upd H p o):=.same (aZ.new hp o)
theorem Fw.get (f:Fw φ φ' H H') {n:Nat}{a:Addr} (h:φ[n]?=some a):φ'[n]?=some a:=by
 obtain⟨ψ,rfl,_⟩:=f.ext
 rw [List.getElem?_append_left (List.getElem?_eq_some_iff.mp h).1];exact h
theorem Fw.nin (f:Fw φ φ' H H') {a:Addr}{o:HO} (h:a ∉ φ) (q:H a=some o):a ∉ φ':=by
 obtain⟨ψ,rfl,e⟩:=f.ext
 intro z
 rcases List.mem_append.mp z with z | z
 ·exact h z
 ·rw [e a z] at q;cases q
noncomputable def wK:HO->Bool
 | .lst _=>true
 | .dT _=>true
 | .dK _=>true
 | .ins _ _ _=>true
 | _=>false
theorem Rc.ob {k:Nat}{a:Addr}{c:C} (h:Rc K H φ k a c):∃ o,H a=some o/\wK o=true:=by
 cases c with
 | l ds=>obtain⟨vs,q,_⟩:=h;exact⟨_,q,rfl⟩
 | n ds=>obtain⟨vs,q,_⟩:=h;exact⟨_,q,rfl⟩
 | m ds=>obtain⟨vs,q,_⟩:=h;exact⟨_,q,rfl⟩
 | k ds=>obtain⟨vs,q,_⟩:=h;exact⟨_,q,rfl⟩
 | o ds=>obtain⟨_,_,vs,q,_⟩:=h;exact⟨_,q,rfl⟩
theorem Sr.lst (S:Sr K H φ st) {a:Addr} (h:a ∈ φ):∃ o,H a=some o/\wK o=true:=by
 obtain⟨n,hn,e⟩:=List.mem_iff_getElem.mp h
 have hs:n < st.length:=by rw [<-S.len];exact hn
 exact (S.at_ n a st[n] (by rw [List.getElem?_eq_getElem hn,e]) (by rw [List.getElem?_eq_getElem hs])).ob
theorem tO {st:Sto}{n:Nat}{ds:List D} (h:lg st n=some ds):st[n]?=some (.l ds):=by
 unfold lg at h
 split at h
 ·rename_i q;cases h;exact q
 ·cases h
theorem Sr.atl (S:Sr K H φ st) (n:Nat) (a:Addr) (ds:List D) (e1:φ[n]?=some a) (e2:lg st n=some ds):∃ vs,H a=some (.lst vs)/\Rls K H φ ds vs:=S.at_ n a _ e1 (tO e2)
theorem Sr.nin (S:Sr K H φ st) {a:Addr} (h:H a=none):a ∉ φ:=λz=>by
 obtain⟨vs,q,_⟩:=S.lst z
 rw [q] at h;cases h
theorem Rd.nin (S:Sr K H φ st) {a:Addr}{vs:List V} (h:Rd H a (.tup vs)):a ∉ φ:=λz=>by
 obtain⟨ws,q,qm⟩:=S.lst z
 rcases h with h | ⟨o,h⟩<;>(rw [q] at h;cases h;cases qm)
theorem Rd.fw (f:Fw φ φ' H H') {a:Addr}{u:HO} (hn:a ∉ φ) (h:Rd H a u):Rd H' a u:=by
 rcases h with h | ⟨o,h⟩
 ·exact .inl (f.keep _ _ hn h)
 ·exact .inr ⟨o,f.keep _ _ hn h⟩
theorem SqT.fw (S:Sr K H φ st) (f:Fw φ φ' H H') {a:Addr}{vs:List V} (h:SqT K H a vs):SqT K H' a vs:=by
 rcases h with h | h
 ·exact .inl (f.keep _ _ (Rd.nin S (.inl h)) h)
 ·exact .inr h
theorem Rd.some {a:Addr}{u:HO} (h:Rd H a u):∃ o,H a=some o:=by
 rcases h with h | ⟨o,h⟩
 ·exact⟨_,h⟩
 ·exact⟨_,h⟩
mutual
theorem Rl.fw (S:Sr K H φ st) (f:Fw φ φ' H H'):∀ {d:D}{v:V},Rl K H φ d v->Rl K H' φ' d v
 | .non,_,h=>h
 | .bl _,_,h=>h
 | .int _,_,h=>h
 | .str _,_,h=>h
 | .ty _,_,h=>h
 | .dct,_,h=>by
  obtain⟨a,rfl,hn,h⟩:=h
  rcases h with⟨d,h⟩ | ⟨d,h⟩
  ·exact⟨a,rfl,f.nin hn h,.inl ⟨d,f.keep _ _ hn h⟩⟩
  ·exact⟨a,rfl,f.nin hn h,.inr ⟨d,f.keep _ _ hn h⟩⟩
 | .scr ns,_,h=>by
  obtain⟨a,rfl,h⟩:=h
  refine⟨a,rfl,?_⟩
  rcases h with⟨o,h⟩ | h
  ·refine .inl ⟨o,f.keep _ _ (λz=>?_) h⟩
   obtain⟨ws,q,qm⟩:=S.lst z
   rw [q] at h;cases h;cases qm
  ·exact .inr h
 | .tup ds,_,h=>by
  obtain⟨a,vs,rfl,h1,h2⟩:=h
  exact⟨a,vs,rfl,f.keep _ _ (Rd.nin S (.inl h1)) h1,Rls.fw S f h2⟩
 | .lst ds,_,h=>by
  obtain⟨a,vs,rfl,h0,h1,h2⟩:=h
  obtain⟨o,e⟩:=h1.some
  exact⟨a,vs,rfl,f.nin h0 e,h1.fw f h0,Rls.fw S f h2⟩
 | .ob ns ds,_,h=>by
  obtain⟨a,Cl,dx,fs,vs,rfl,h0,h1,h2,h3,h4,h5,h7,h6⟩:=h
  exact⟨a,Cl,dx,fs,vs,rfl,f.nin h0 h1,f.keep _ _ h0 h1,h2,h3,h4,h5,h7,Rls.fw S f h6⟩
theorem Rls.fw (S:Sr K H φ st) (f:Fw φ φ' H H'):∀ {ds:List D}{vs:List V},Rls K H φ ds vs->Rls K H' φ' ds vs
 | [],_,h=>h
 | d::ds,_,h=>by
  obtain⟨v,r,rfl,h1,h2⟩:=h
  exact⟨v,r,rfl,Rl.fw S f h1,Rls.fw S f h2⟩
end
theorem Rw.fw (S:Sr K H φ st) (f:Fw φ φ' H H') {w:W}{v:V} (h:Rw K H φ w v):Rw K H' φ' w v:=by
 cases w with
 | d x=>exact Rl.fw S f h
 | h n=>obtain⟨a,e,rfl⟩:=h;exact⟨a,f.get e,rfl⟩
theorem Rws.fw (S:Sr K H φ st) (f:Fw φ φ' H H'):∀ {ws:List W}{vs:List V},Rws K H φ ws vs->Rws K H' φ' ws vs
 | [],_,h=>h
 | d::ds,_,h=>by
  obtain⟨v,r,rfl,h1,h2⟩:=h
  exact⟨v,r,rfl,h1.fw S f,Rws.fw S f h2⟩
theorem Er.fw (S:Sr K H φ st) (f:Fw φ φ' H H') {env:Ev}{σ:St} (h:Er K H φ env σ):Er K H' φ' env σ:=
 ⟨h.len,λi w e=>let ⟨v,e1,r⟩:=h.at_ i w e;⟨v,e1,r.fw S f⟩⟩
theorem Rkv.fw (S:Sr K H φ st) (f:Fw φ φ' H H'):∀ {ds:List (List Int×D)}{vs:List (List Key×V)},Rkv K H φ ds vs->Rkv K H' φ' ds vs
 | [],_,h=>h
 | (k,d)::ds,_,h=>by
  obtain⟨v,r,rfl,h1,h2⟩:=h
  exact⟨v,r,rfl,Rl.fw S f h1,Rkv.fw S f h2⟩
theorem Rkk.fw (S:Sr K H φ st) (f:Fw φ φ' H H'):∀ {ds:List (Int×D)}{vs:List (Key×V)},Rkk K H φ ds vs->Rkk K H' φ' ds vs
 | [],_,h=>h
 | (k,d)::ds,_,h=>by
  obtain⟨v,r,rfl,h1,h2⟩:=h
  exact⟨v,r,rfl,Rl.fw S f h1,Rkk.fw S f h2⟩
theorem Rfs.fw (S:Sr K H φ st) (f:Fw φ φ' H H'):∀ {ds:List (Str×W)}{vs:List (Str×V)},Rfs K H φ ds vs->Rfs K H' φ' ds vs
 | [],_,h=>h
 | (k,d)::ds,_,h=>by
  obtain⟨v,r,rfl,h1,h2⟩:=h
  exact⟨v,r,rfl,h1.fw S f,Rfs.fw S f h2⟩
theorem Rc.fw (S:Sr K H φ st) (f:Fw φ φ' H H') {k:Nat}{a:Addr}{c:C} (e:∀ o,H a=some o->H' a=some o) (h:Rc K H φ k a c):Rc K H' φ' k a c:=by
 cases c with
 | l ds=>obtain⟨vs,q,r⟩:=h;exact⟨vs,e _ q,r.fw S f⟩
 | n ds=>obtain⟨vs,q,r,b⟩:=h;exact⟨vs,e _ q,r.fw S f,b⟩
 | m ds=>obtain⟨vs,q,r⟩:=h;exact⟨vs,e _ q,r.fw S f⟩
 | k ds=>obtain⟨vs,q,r⟩:=h;exact⟨vs,e _ q,r.fw S f⟩
 | o ds=>obtain⟨Cl,dx,vs,q,r,b⟩:=h;exact⟨Cl,dx,vs,e _ q,r.fw S f,b⟩
theorem Sr.same (S:Sr K H φ st) (s:aZ H H'):Sr K H' φ st:=
 ⟨S.nd,S.len,λn a c e1 e2=>(S.at_ n a c e1 e2).fw S (Fw.same s) λo h=>s _ _ h⟩
theorem Sr.new (S:Sr K H φ st) {p:Addr}{o:HO} (hp:H p=none):Sr K (upd H p o) φ st:=S.same (aZ.new hp o)
theorem Rls.length:∀ {ds:List D}{vs:List V},Rls K H φ ds vs->ds.length=vs.length
 | [],_,h=>by cases h;rfl
 | d::ds,_,h=>by
  obtain⟨v,r,rfl,h1,h2⟩:=h
  rw [List.length_cons,List.length_cons,Rls.length h2]
theorem Rws.length:∀ {ds:List W}{vs:List V},Rws K H φ ds vs->ds.length=vs.length
 | [],_,h=>by cases h;rfl
 | d::ds,_,h=>by
  obtain⟨v,r,rfl,h1,h2⟩:=h
  rw [List.length_cons,List.length_cons,Rws.length h2]
theorem Rls.append:∀ {ds es:List D}{vs us:List V},Rls K H φ ds vs->Rls K H φ es us->Rls K H φ (ds++es) (vs++us)
 | [],_,_,_,h,h'=>by cases h;exact h'
 | d::ds,_,_,_,h,h'=>by
  obtain⟨v,r,rfl,h1,h2⟩:=h
  exact⟨v,r++_,rfl,h1,Rls.append h2 h'⟩
theorem Rls.get:∀ {ds:List D}{vs:List V},Rls K H φ ds vs->∀ {i:Nat}{d:D},ds[i]?=some d->∃ v,vs[i]?=some v/\Rl K H φ d v
 | [],_,h,i,d,e=>by simp at e
 | d::ds,_,h,i,e,q=>by
  obtain⟨v,r,rfl,h1,h2⟩:=h
  cases i with
  | zero=>simp at q;subst q;exact⟨v,rfl,h1⟩
  | succ i=>simpa using Rls.get h2 (i:=i) (d:=e) (by simpa using q)
theorem Rls.set:∀ {ds:List D}{vs:List V} (n:Nat) {d:D}{v:V},Rls K H φ ds vs->Rl K H φ d v->Rls K H φ (ds.set n d) (vs.set n v)
 | [],_,_,_,_,h,_=>by cases h;exact rfl
 | e::ds,_,0,d,v,h,hd=>by
  obtain⟨u,r,rfl,h1,h2⟩:=h
  exact⟨v,r,rfl,hd,h2⟩
 | e::ds,_,n+1,d,v,h,hd=>by
  obtain⟨u,r,rfl,h1,h2⟩:=h
  exact⟨u,_,rfl,h1,Rls.set n h2 hd⟩
theorem Rls.rep {ds:List D}{vs:List V} (h:Rls K H φ ds vs):∀ k:Nat,Rls K H φ (List.replicate k ds).flatten (List.replicate k vs).flatten
 | 0=>rfl
 | k+1=>by rw [List.replicate_succ,List.replicate_succ,List.flatten_cons,List.flatten_cons];exact h.append (Rls.rep h k)
theorem Rls.ints:∀ {ns:List Int}{vs:List V},Rls K H φ (ns.map D.int) vs->vs=ns.map V.int
 | [],_,h=>h
 | n::ns,_,h=>by
  obtain⟨v,r,rfl,h1,h2⟩:=h
  rw [show v=.int n from h1,Rls.ints h2];rfl
theorem Rls.bools:∀ {ns:List Bool}{vs:List V},Rls K H φ (ns.map D.bl) vs->vs=ns.map V.bl
 | [],_,h=>h
 | n::ns,_,h=>by
  obtain⟨v,r,rfl,h1,h2⟩:=h
  rw [show v=.bl n from h1,Rls.bools h2];rfl
theorem Rls.of_ints:∀ (ns:List Int),Rls K H φ (ns.map D.int) (ns.map V.int)
 | []=>rfl
 | n::ns=>⟨_,_,rfl,rfl,Rls.of_ints ns⟩
theorem Rl.less {ψ:List Addr}:∀ {d:D}{v:V},Rl K H (φ++ψ) d v->Rl K H φ d v:=by
 intro d v
 refine (?_:∀ v,Rl K H (φ++ψ) d v->Rl K H φ d v) v
 refine D.rec (motive_1:=λd=>∀ v,Rl K H (φ++ψ) d v->Rl K H φ d v) (motive_2:=λds=>∀ vs,Rls K H (φ++ψ) ds vs->Rls K H φ ds vs) ?_ ?_ ?_ ?_ ?_ ?_ ?_ ?_ ?_ ?_ ?_ ?_ d
 ·exact λv h=>h
 ·exact λb v h=>h
 ·exact λb v h=>h
 ·exact λb v h=>h
 ·exact λb v h=>h
 ·rintro v ⟨a,e,hn,h⟩;exact⟨a,e,λz=>hn (List.mem_append_left _ z),h⟩
 ·exact λns v h=>h
 ·rintro ds ih v ⟨a,vs,rfl,h1,h2⟩;exact⟨a,vs,rfl,h1,ih vs h2⟩
 ·rintro ds ih v ⟨a,vs,rfl,h0,h1,h2⟩;exact⟨a,vs,rfl,λz=>h0 (List.mem_append_left _ z),h1,ih vs h2⟩
 ·rintro ns ds ih v ⟨a,Cl,dx,fs,vs,rfl,h0,h1,h2,h3,h4,h5,h7,h6⟩;exact⟨a,Cl,dx,fs,vs,rfl,λz=>h0 (List.mem_append_left _ z),h1,h2,h3,h4,h5,h7,ih vs h6⟩
 ·exact λvs h=>h
 ·rintro d ds ih1 ih2 vs ⟨v,r,rfl,h1,h2⟩;exact⟨v,r,rfl,ih1 v h1,ih2 r h2⟩
theorem Rls.less {ψ:List Addr}:∀ {ds:List D}{vs:List V},Rls K H (φ++ψ) ds vs->Rls K H φ ds vs
 | [],_,h=>h
 | d::ds,_,h=>by
  obtain⟨v,r,rfl,h1,h2⟩:=h
  exact⟨v,r,rfl,Rl.less h1,Rls.less h2⟩
theorem Rkv.less {ψ:List Addr}:∀ {ds:List (List Int×D)}{vs:List (List Key×V)},Rkv K H (φ++ψ) ds vs->Rkv K H φ ds vs
 | [],_,h=>h
 | (k,d)::ds,_,h=>by
  obtain⟨v,r,rfl,h1,h2⟩:=h
  exact⟨v,r,rfl,Rl.less h1,Rkv.less h2⟩
theorem Rkk.less {ψ:List Addr}:∀ {ds:List (Int×D)}{vs:List (Key×V)},Rkk K H (φ++ψ) ds vs->Rkk K H φ ds vs
 | [],_,h=>h
 | (k,d)::ds,_,h=>by
  obtain⟨v,r,rfl,h1,h2⟩:=h
  exact⟨v,r,rfl,Rl.less h1,Rkk.less h2⟩
theorem Rws.less {ψ:List Addr}:∀ {ds:List W}{vs:List V},(∀ m,W.h m ∈ ds->m < φ.length)->Rws K H (φ++ψ) ds vs->Rws K H φ ds vs
 | [],_,_,h=>h
 | d::ds,_,hm,h=>by
  obtain⟨v,r,rfl,h1,h2⟩:=h
  refine⟨v,r,rfl,?_,Rws.less (λm z=>hm m (List.mem_cons_of_mem _ z)) h2⟩
  cases d with
  | d x=>exact Rl.less h1
  | h m=>
   obtain⟨a,e,rfl⟩:=h1
   rw [List.getElem?_append_left (hm m List.mem_cons_self)] at e
   exact⟨a,e,rfl⟩
theorem Rfs.less {ψ:List Addr}:∀ {ds:List (Str×W)}{vs:List (Str×V)},(∀ m,W.h m ∈ ds.map (·.2)->m < φ.length)->Rfs K H (φ++ψ) ds vs->Rfs K H φ ds vs
 | [],_,_,h=>h
 | (k,d)::ds,_,hm,h=>by
  obtain⟨v,r,rfl,h1,h2⟩:=h
  refine⟨v,r,rfl,?_,Rfs.less (λm z=>hm m (List.mem_cons_of_mem _ z)) h2⟩
  cases d with
  | d x=>exact Rl.less h1
  | h m=>
   obtain⟨a,e,rfl⟩:=h1
   rw [List.getElem?_append_left (hm m List.mem_cons_self)] at e
   exact⟨a,e,rfl⟩
theorem Rc.less {ψ:List Addr}{k:Nat}{a:Addr}{c:C} (hk:k < φ.length) (h:Rc K H (φ++ψ) k a c):Rc K H φ k a c:=by
 cases c with
 | l ds=>obtain⟨vs,q,r⟩:=h;exact⟨vs,q,r.less⟩
 | n ds=>obtain⟨vs,q,r,b⟩:=h;exact⟨vs,q,r.less λm z=>Nat.lt_trans (b m z) hk,b⟩
 | m ds=>obtain⟨vs,q,r⟩:=h;exact⟨vs,q,r.less⟩
 | k ds=>obtain⟨vs,q,r⟩:=h;exact⟨vs,q,r.less⟩
 | o ds=>obtain⟨Cl,dx,vs,q,r,b,c⟩:=h;exact⟨Cl,dx,vs,q,r.less λm z=>Nat.lt_trans (b m z) hk,b,c⟩
theorem Sr.less {ψ:List Addr} (S:Sr K H (φ++ψ) st):Sr K H φ (st.take φ.length):=by
 have hl:=S.len
 rw [List.length_append] at hl
 refine⟨(List.nodup_append.mp S.nd).1,by rw [List.length_take];lia,λn a ds e1 e2=>?_⟩
 have hn:=(List.getElem?_eq_some_iff.mp e1).1
 rw [List.getElem?_take_of_lt hn] at e2
 exact (S.at_ n a ds (by rw [List.getElem?_append_left hn];exact e1) e2).less hn
end
end L2
namespace L2
open PySem PySem.Spec PyProof.Rows
abbrev Ef:=Ev->Sto->Option (W×Sto)
abbrev Af:=Ev->Sto->Option (List W×Sto)
abbrev Tf:=Ev->Sto->Option (Bool×Sto)
abbrev Lf:=Ev->Sto->Option (List D×Sto)
abbrev Fn:=List W->Sto->Option (W×Sto)
section
variable (K:PySem.W.Frag)
noncomputable def tI (env:Ev) (st:Sto) (r:W×Sto):TE:=λσ H Q=>∃ φ,Er K H φ env σ/\Sr K H φ st/\∀ v H' φ',Fw φ φ' H H'->Sr K H' φ' r.2->Rw K H' φ' r.1 v->Q v H'
noncomputable def tIA (env:Ev) (st:Sto) (r:List W×Sto):TA:=λσ H Q=>∃ φ,Er K H φ env σ/\Sr K H φ st/\∀ vs H' φ',Fw φ φ' H H'->Sr K H' φ' r.2->Rws K H' φ' r.1 vs->Q vs H'
noncomputable def tIT (env:Ev) (st:Sto) (r:Bool×Sto):TT:=λσ H Q=>∃ φ,Er K H φ env σ/\Sr K H φ st/\∀ H' φ',Fw φ φ' H H'->Sr K H' φ' r.2->Q r.1 H'
noncomputable def tIL (env:Ev) (st:Sto) (r:List D×Sto):TE:=λσ H Q=>∃ φ,Er K H φ env σ/\Sr K H φ st/\∀ a vs H1 φ',Fw φ φ' H H1->Sr K H1 φ' r.2->H1 a=none->Rls K H1 φ' r.1 vs->Q (.ref a) (upd H1 a (.lst vs))
structure IE (X:Cx) (e:Expr) (f:Ef):Prop where
 run:∀ env st r,f env st=some r->PE X e (tI K env st r)
structure IA (X:Cx) (es:List Expr) (f:Af):Prop where
 run:∀ env st r,f env st=some r->PA X es (tIA K env st r)
structure IT (X:Cx) (e:Expr) (f:Tf):Prop where
 run:∀ env st r,f env st=some r->PT X e (tIT K env st r)
structure ITW (X:Cx) (e:Expr) (f:Tf):Prop where
 run:∀ env st r,f env st=some r->PW X e (tIT K env st r)
structure IL (X:Cx) (e:Expr) (f:Lf):Prop where
 run:∀ env st r,f env st=some r->PE X e (tIL K env st r)
noncomputable def rD (st:Sto) (x y:W) (d:D):R2:=λvx vy H Q=>∃ φ,Sr K H φ st/\Rw K H φ x vx/\Rw K H φ y vy/\∀ v H',aZ H H'->Rl K H' φ d v->Q v H'
structure OpD (X:Cx) (f:Value->Value->Sem Value) (g:Sto->W->W->Option D):Prop where
 run:∀ st x y d,g st x y=some d->OpR X f (rD K st x y d)
noncomputable def rCD (st:Sto) (ws:List W) (d:D):List V->Hp->VK->Prop:=λvs H Q=>∃ φ,Sr K H φ st/\Rws K H φ ws vs/\∀ v H',aZ H H'->Rl K H' φ d v->Q v H'
structure gO (X:Cx) (f:Value) (g:Sto->List W->Option D):Prop where
 run:∀ st ws d,g st ws=some d->cJ X f (rCD K st ws d)
noncomputable def rCL (st:Sto) (ws:List W) (ds:List D):List V->Hp->VK->Prop:=λvs H Q=>∃ φ,Sr K H φ st/\Rws K H φ ws vs/\∀ a us H1,aZ H H1->H1 a=none->Rls K H1 φ ds us->Q (.ref a) (upd H1 a (.lst us))
structure uC (X:Cx) (f:Value) (g:Sto->List W->Option (List D)):Prop where
 run:∀ st ws d,g st ws=some d->cJ X f (rCL K st ws d)
end
noncomputable def iV (i:Nat):Ef
 | env,st=>(env.getD i none).map λw=>(w,st)
noncomputable def iC (d:D):Ef
 | _,st=>some (.d d,st)
noncomputable def iOp (g:Sto->W->W->Option D) (a b:Ef):Ef
 | env,st=>(a env st).bind λx=>(b env x.2).bind λy=>(g y.2 x.1 y.1).map λd=>(.d d,y.2)
noncomputable def gZ:D->Option Bool
 | .bl b=>some b
 | _=>none
noncomputable def blW:W->Option Bool
 | .d (.bl b)=>some b
 | _=>none
noncomputable def bP (g:Sto->W->W->Option D) (a b:Ef):Tf
 | env,st=>(a env st).bind λx=>(b env x.2).bind λy=>(g y.2 x.1 y.1).bind λd=>(gZ d).map λk=>(k,y.2)
noncomputable def iUn (g:W->Option D) (a:Ef):Ef
 | env,st=>(a env st).bind λx=>(g x.1).map λd=>(.d d,x.2)
noncomputable def ly (a:Ef):Ef
 | env,st=>(a env st).bind λx=>(blW x.1).map λk=>(.d (.bl (!k)),x.2)
noncomputable def fo (a b:Ef):Ef
 | env,st=>(a env st).bind λx=>(blW x.1).bind λk=>if k=true then b env x.2 else some (.d (.bl false),x.2)
noncomputable def iB (c:Tf) (a b:Ef):Ef
 | env,st=>(c env st).bind λr=>if r.1=true then a env r.2 else b env r.2
noncomputable def fq (c:Tf):Tf
 | env,st=>(c env st).map λr=>(!r.1,r.2)
noncomputable def kY (a b:Tf):Tf
 | env,st=>(a env st).bind λr=>if r.1=true then some (true,r.2) else b env r.2
noncomputable def h8 (g:Sto->W->Option Bool) (a:Ef):Tf
 | env,st=>(a env st).bind λx=>(g x.2 x.1).map λk=>(k,x.2)
noncomputable def ak:Af
 | _,st=>some ([],st)
noncomputable def ae (a:Ef) (r:Af):Af
 | env,st=>(a env st).bind λx=>(r env x.2).map λy=>(x.1::y.1,y.2)
noncomputable def iCB (g:Sto->List W->Option D) (a:Af):Ef
 | env,st=>(a env st).bind λr=>(g r.2 r.1).map λd=>(.d d,r.2)
noncomputable def iCL (g:Sto->List W->Option (List D)) (a:Af):Lf
 | env,st=>(a env st).bind λr=>(g r.2 r.1).map λd=>(d,r.2)
noncomputable def ax (m:Fn) (a:Af):Ef
 | env,st=>(a env st).bind λr=>m r.1 r.2
noncomputable def gM:List W->Option (List D)
 | []=>some []
 | .d x::ws=>(gM ws).map λr=>x::r
 | .h _::_=>none
noncomputable def cu (a:Af):Ef
 | env,st=>(a env st).bind λr=>(gM r.1).bind λds=>if ds.length<=1000 then some (.d (.tup ds),r.2) else none
noncomputable def dw (a:Af):Lf
 | env,st=>(a env st).bind λr=>(gM r.1).bind λds=>if ds.length<=1000 then some (ds,r.2) else none
noncomputable def aD (a:Lf):Ef
 | env,st=>(a env st).map λr=>(.d (.lst r.1),r.2)
noncomputable def oi (a:Lf):Ef
 | env,st=>(a env st).map λr=>(.h r.2.length,r.2++[.l r.1])
section
variable {K:PySem.W.Frag}{X:Cx}{e a b c:Expr}{es:List Expr}{pos:Pos}{f fa fb fc:Ef}
theorem PE.imp {t t':TE} (h:PE X e t) (m:∀ σ H Q,t' σ H Q->t σ H Q):PE X e t':=λpins s σ H Q I q=>h pins s σ H Q I (m σ H Q q)
theorem PT.imp {t t':TT} (h:PT X e t) (m:∀ σ H Q,t' σ H Q->t σ H Q):PT X e t':=λpins s σ H Q I q=>h pins s σ H Q I (m σ H Q q)
theorem PW.imp {t t':TT} (h:PW X e t) (m:∀ σ H Q,t' σ H Q->t σ H Q):PW X e t':=λwh pins s σ H Q I q=>h wh pins s σ H Q I (m σ H Q q)
theorem PA.imp {t t':TA} (h:PA X es t) (m:∀ σ H Q,t' σ H Q->t σ H Q):PA X es t':=λpos pins s σ H Q I q=>h pos pins s σ H Q I (m σ H Q q)
theorem OpR.imp {g:Value->Value->Sem Value}{r r':R2} (h:OpR X g r) (m:∀ x y H Q,r' x y H Q->r x y H Q):OpR X g r':=λpins s σ H x y v u Q I rx ry q=>h pins s σ H x y v u Q I rx ry (m _ _ _ _ q)
theorem cJ.imp {g:Value}{r r':List V->Hp->VK->Prop} (h:cJ X g r) (m:∀ xs H Q,r' xs H Q->r xs H Q):cJ X g r':=λpins s σ H xs us Q I rx q=>h pins s σ H xs us Q I rx (m _ _ _ q)
theorem kA:PE X e (λ_ _ _=>False):=λ_ _ _ _ _ _ q=>q.elim
theorem rP:PW X e (λ_ _ _=>False):=λ_ _ _ _ _ _ _ q=>q.elim
theorem vc {i:Nat}{x:Str}{t:TE} (h:PE X (.Name x pos) (qp i)):IE K X (.Name x pos) (iV i):=by
 refine⟨λenv st r hr=>?_⟩
 unfold iV at hr
 obtain⟨w,hw,rfl⟩:=Option.map_eq_some_iff.mp hr
 refine h.imp ?_
 rintro σ H Q ⟨φ,hE,hS,q⟩
 have hi:env[i]?=some (some w):=by
  rw [List.getD] at hw
  cases q:env[i]? with
  | none=>rw [q] at hw;cases hw
  | some o=>rw [q] at hw;rw [show o=some w from hw]
 obtain⟨v,e1,r⟩:=hE.at_ i w hi
 exact⟨v,e1,q v H φ (Fw.refl φ H) hS r⟩
theorem iv (i:Nat) {x:Str} (hN:X.N[i]?=some x:=by rfl) (hv:Vis X.env.scope x:=by first | exact Or.inl rfl | exact Or.inr (Or.inl rfl) | exact Or.inr (Or.inr rfl)) (hd:(x==("__debug__" : Str))=false:=by decide)
  (hcd:(x==("__classdict__" : Str))=false:=by decide):IE K X (.Name x pos) (iV i):=vc (t:=qp i) (kB hN hv hd hcd)
theorem qL {d:D}{v:V} (h:PE X e (tC v)) (r:∀ H φ,Rl K H φ d v):IE K X e (iC d):=by
 refine⟨λenv st r hr=>?_⟩
 cases hr
 refine h.imp ?_
 rintro σ H Q ⟨φ,hE,hS,q⟩
 exact q v H φ (Fw.refl φ H) hS (r H φ)
theorem ai {i j}:IE K X (.Constant (.int i) j pos) (iC (.int i)):=qL vE λ_ _=>rfl
theorem qK {i j}:IE K X (.Constant (.bool i) j pos) (iC (.bl i)):=qL wS λ_ _=>rfl
theorem va {j}:IE K X (.Constant .none j pos) (iC .non):=qL vF λ_ _=>rfl
theorem i6 {x j}:IE K X (.Constant (.str x) j pos) (iC (.str x)):=qL rF λ_ _=>rfl
theorem mI {env:Ev}{st:Sto}{x y:W×Sto}{d:D}{σ:St}{H:Hp}{Q:VK} (h:tI K env st (.d d,y.2) σ H Q):tOp (rD K y.2 x.1 y.1 d) (tI K env st x) (tI K env x.2 y) σ H Q:=by
 obtain⟨φ,hE,hS,q⟩:=h
 refine⟨φ,hE,hS,λv H1 φ1 f1 s1 w1=>⟨φ1,hE.fw hS f1,s1,λu H2 φ2 f2 s2 w2=>⟨φ2,s2,w1.fw s1 f2,w2,λv3 H3 f3 w3=>?_⟩⟩⟩
 exact q v3 H3 φ2 ((f1.trans f2).trans (Fw.same f3)) (s2.same f3) w3
theorem aE {op:Operator}{g:Sto->W->W->Option D} (ho:OpD K X (binaryOp op) g) (ha:IE K X a fa) (hb:IE K X b fb):IE K X (.BinOp a op b pos) (iOp g fa fb):=by
 refine⟨λenv st r hr=>?_⟩
 simp only [iOp,Option.bind_eq_some_iff,Option.map_eq_some_iff] at hr
 obtain⟨x,hx,y,hy,d,hd,rfl⟩:=hr
 exact (wV (ho.run _ _ _ _ hd) (ha.run _ _ _ hx) (hb.run _ _ _ hy)).imp λσ H Q h=>mI h
theorem fM {op:CmpOp}{g:Sto->W->W->Option D} (ho:OpD K X (compareOp op) g) (ha:IE K X a fa) (hb:IE K X b fb) (hm:behindInMarks op b=false):IE K X (.Compare a [op] [b] pos) (iOp g fa fb):=by
 refine⟨λenv st r hr=>?_⟩
 simp only [iOp,Option.bind_eq_some_iff,Option.map_eq_some_iff] at hr
 obtain⟨x,hx,y,hy,d,hd,rfl⟩:=hr
 exact (t4 (ho.run _ _ _ _ hd) (ha.run _ _ _ hx) (hb.run _ _ _ hy) hm).imp λσ H Q h=>mI h
theorem pL {d:D}{k:Bool} (h:gZ d=some k):d=.bl k:=by
 cases d<;>first | (cases h;done) | (injection h with h;subst h;rfl)
theorem mQ {d:W}{k:Bool} (h:blW d=some k):d=.d (.bl k):=by
 cases d with
 | h n=>cases h
 | d x=>cases x<;>first | (cases h;done) | (injection h with h;subst h;rfl)
theorem bH {op:CmpOp}{g:Sto->W->W->Option D} (ho:OpD K X (compareOp op) g) (ha:IE K X a fa) (hb:IE K X b fb) (hm:behindInMarks op b=false):IT K X (.Compare a [op] [b] pos) (bP g fa fb):=by
 refine⟨λenv st r hr=>?_⟩
 simp only [bP,Option.bind_eq_some_iff,Option.map_eq_some_iff] at hr
 obtain⟨x,hx,y,hy,d,hd,k,hk,rfl⟩:=hr
 cases pL hk
 refine (t9 (ho.run _ _ _ _ hd) (ha.run _ _ _ hx) (hb.run _ _ _ hy) hm).imp λσ H Q h=>?_
 obtain⟨φ,hE,hS,q⟩:=h
 refine mI ⟨φ,hE,hS,λv H1 φ1 f1 s1 w1=>⟨k,w1,q H1 φ1 f1 s1⟩⟩
noncomputable def gm:W->Option D
 | .d (.int i)=>some (.int (-i))
 | _=>none
theorem fN (ha:IE K X a fa):IE K X (.UnaryOp .USub a pos) (iUn gm fa):=by
 refine⟨λenv st r hr=>?_⟩
 simp only [iUn,Option.bind_eq_some_iff,Option.map_eq_some_iff] at hr
 obtain⟨⟨x,s1⟩,hx,d,hd,rfl⟩:=hr
 cases x with
 | h n=>cases hd
 | d x=>
  cases x with
  | int i=>
   cases hd
   refine (wW wc (ha.run _ _ _ hx)).imp ?_
   rintro σ H Q ⟨φ,hE,hS,q⟩
   exact⟨φ,hE,hS,λv H1 φ1 f1 s1 w1=>⟨i,w1,q _ H1 φ1 f1 s1 rfl⟩⟩
  | _=>cases hd
theorem vb (ha:IE K X a fa):IE K X (.UnaryOp .Not a pos) (ly fa):=by
 refine⟨λenv st r hr=>?_⟩
 simp only [ly,Option.bind_eq_some_iff,Option.map_eq_some_iff] at hr
 obtain⟨x,hx,k,hk,rfl⟩:=hr
 have e:=mQ hk
 refine (rC (ha.run _ _ _ hx)).imp ?_
 rintro σ H Q ⟨φ,hE,hS,q⟩
 exact⟨φ,hE,hS,λv H1 φ1 f1 s1 w1=>⟨k,by rw [e] at w1;exact w1,q _ H1 φ1 f1 s1 rfl⟩⟩
theorem l6 {op} (h:IE K X a fa):IE K X (.BoolOp op [a] pos) fa:=⟨λenv st r hr=>rE (h.run env st r hr)⟩
theorem j9 {rest:List Expr} (ha:IE K X a fa) (hb:IE K X (.BoolOp .And (b::rest) pos) fb):IE K X (.BoolOp .And (a::b::rest) pos) (fo fa fb):=by
 refine⟨λenv st r hr=>?_⟩
 simp only [fo,Option.bind_eq_some_iff] at hr
 obtain⟨x,hx,k,hk,hr⟩:=hr
 have e:=mQ hk
 cases k with
 | false=>
  rw [if_neg Bool.false_ne_true] at hr
  cases hr
  refine (rA (ha.run _ _ _ hx) kA).imp ?_
  rintro σ H Q ⟨φ,hE,hS,q⟩
  refine⟨φ,hE,hS,λv H1 φ1 f1 s1 w1=>⟨false,by rw [e] at w1;exact w1,?_⟩⟩
  rw [if_neg Bool.false_ne_true]
  exact q _ H1 φ1 f1 s1 rfl
 | true=>
  rw [if_pos rfl] at hr
  refine (rA (ha.run _ _ _ hx) (hb.run _ _ _ hr)).imp ?_
  rintro σ H Q ⟨φ,hE,hS,q⟩
  refine⟨φ,hE,hS,λv H1 φ1 f1 s1 w1=>⟨true,by rw [e] at w1;exact w1,?_⟩⟩
  rw [if_pos rfl]
  exact⟨φ1,hE.fw hS f1,s1,λu H2 φ2 f2 s2 w2=>q u H2 φ2 (f1.trans f2) s2 w2⟩
variable {ta tb:Tf}
theorem kj (ha:IT K X a ta):IT K X (.UnaryOp .Not a pos) (fq ta):=by
 refine⟨λenv st r hr=>?_⟩
 simp only [fq,Option.map_eq_some_iff] at hr
 obtain⟨x,hx,rfl⟩:=hr
 refine (rM (ha.run _ _ _ hx)).imp ?_
 rintro σ H Q ⟨φ,hE,hS,q⟩
 exact⟨φ,hE,hS,λH1 φ1 f1 s1=>q H1 φ1 f1 s1⟩
theorem ow (h:ITW K X a ta):IT K X a ta:=⟨λenv st r hr=>(h.run env st r hr).pt⟩
theorem l9 (h:IT K X a ta):ITW K X (.BoolOp .Or [a] pos) ta:=⟨λenv st r hr=>vS (h.run env st r hr)⟩
theorem ou {rest:List Expr} (ha:IT K X a ta) (hb:ITW K X (.BoolOp .Or (b::rest) pos) tb):ITW K X (.BoolOp .Or (a::b::rest) pos) (kY ta tb):=by
 refine⟨λenv st r hr=>?_⟩
 simp only [kY,Option.bind_eq_some_iff] at hr
 obtain⟨⟨k,s1⟩,hx,hr⟩:=hr
 cases k with
 | true=>
  rw [if_pos rfl] at hr
  cases hr
  refine (uL (ha.run _ _ _ hx) rP).imp ?_
  rintro σ H Q ⟨φ,hE,hS,q⟩
  refine⟨φ,hE,hS,λH1 φ1 f1 s1=>?_⟩
  refine ot ?_
  exact q H1 φ1 f1 s1
 | false=>
  rw [if_neg Bool.false_ne_true] at hr
  refine (uL (ha.run _ _ _ hx) (hb.run _ _ _ hr)).imp ?_
  rintro σ H Q ⟨φ,hE,hS,q⟩
  refine⟨φ,hE,hS,λH1 φ1 f1 s1=>?_⟩
  refine oq ?_
  exact⟨φ1,hE.fw hS f1,s1,λH2 φ2 f2 s2=>q H2 φ2 (f1.trans f2) s2⟩
theorem pc {tc:Tf} (hc:IT K X c tc) (ha:IE K X a fa) (hb:IE K X b fb):IE K X (.IfExp c a b pos) (iB tc fa fb):=by
 refine⟨λenv st r hr=>?_⟩
 simp only [iB,Option.bind_eq_some_iff] at hr
 obtain⟨⟨k,s1⟩,hx,hr⟩:=hr
 cases k with
 | true=>
  rw [if_pos rfl] at hr
  refine (nA (hc.run _ _ _ hx) (ha.run _ _ _ hr) kA).imp ?_
  rintro σ H Q ⟨φ,hE,hS,q⟩
  refine⟨φ,hE,hS,λH1 φ1 f1 s1=>?_⟩
  refine ot ?_
  exact⟨φ1,hE.fw hS f1,s1,λu H2 φ2 f2 s2 w2=>q u H2 φ2 (f1.trans f2) s2 w2⟩
 | false=>
  rw [if_neg Bool.false_ne_true] at hr
  refine (nA (hc.run _ _ _ hx) kA (hb.run _ _ _ hr)).imp ?_
  rintro σ H Q ⟨φ,hE,hS,q⟩
  refine⟨φ,hE,hS,λH1 φ1 f1 s1=>?_⟩
  refine oq ?_
  exact⟨φ1,hE.fw hS f1,s1,λu H2 φ2 f2 s2 w2=>q u H2 φ2 (f1.trans f2) s2 w2⟩
noncomputable def eD (st:Sto):W->Option (List D)
 | .d (.tup ds)=>some ds
 | .d (.lst ds)=>some ds
 | .d (.scr ns)=>some (ns.map D.int)
 | .h n=>lg st n
 | _=>none
theorem nP {st:Sto}{H:Hp}{φ:List Addr}{w:W}{v:V}{ds:List D} (S:Sr K H φ st) (r:Rw K H φ w v) (e:eD st w=some ds):∃ a vs,v=.ref a/\(SqL K H a vs\/H a=some (.tup vs))/\Rls K H φ ds vs:=by
 cases w with
 | h n=>
  obtain⟨a,ea,rfl⟩:=r
  obtain⟨vs,q,rl⟩:=S.atl n a ds ea e
  exact⟨a,vs,rfl,.inl (SqL.of q),rl⟩
 | d x=>
  cases x with
  | tup es=>cases e;obtain⟨a,vs,rfl,h1,h2⟩:=r;exact⟨a,vs,rfl,.inr h1,h2⟩
  | lst es=>cases e;obtain⟨a,vs,rfl,h0,h1,h2⟩:=r;exact⟨a,vs,rfl,.inl (.inl h1),h2⟩
  | scr ns=>
   cases e
   obtain⟨a,rfl,h⟩:=r
   refine⟨a,_,rfl,.inl ?_,Rls.of_ints ns⟩
   rcases h with⟨o,h⟩ | h
   ·exact .inl (.inr ⟨o,h⟩)
   ·exact .inr h
  | _=>cases e
theorem mE {st:Sto}{H:Hp}{φ:List Addr}{w:W}{v:V}{ds:List D} (S:Sr K H φ st) (r:Rw K H φ w v) (e:eD st w=some ds):∃ a vs,v=.ref a/\(SqL K H a vs\/SqT K H a vs)/\Rls K H φ ds vs:=by
 obtain⟨a,vs,h0,h1,h2⟩:=nP S r e
 exact⟨a,vs,h0,h1.imp id SqT.of,h2⟩
noncomputable def iP (st:Sto):W->Option Bool
 | .d .non=>some false
 | .d (.bl b)=>some b
 | .d (.int i)=>some (i != 0)
 | w=>(eD st w).map λds=>!ds.isEmpty
theorem um {st:Sto}{H:Hp}{φ:List Addr}{w:W}{v:V}{k:Bool} (S:Sr K H φ st) (r:Rw K H φ w v) (e:iP st w=some k):sS K v H k:=by
 have seq:∀ ds,eD st w=some ds->k=!ds.isEmpty->sS K v H k:=λds h hk=>by
  obtain⟨a,vs,rfl,h1,h2⟩:=mE S r h
  have hl:=h2.length
  have e':k=!vs.isEmpty:=by
   rw [hk]
   cases ds<;>cases vs<;>first | rfl | cases hl
  rcases h1 with h1 | h1
  ·exact .inl ⟨vs,h1,e'⟩
  ·exact .inr (.inl ⟨vs,h1,e'⟩)
 cases w with
 | h n=>
  obtain⟨ds,h1,h2⟩:=Option.map_eq_some_iff.mp e
  exact seq ds h1 h2.symm
 | d x=>
  cases x with
  | non=>have r':v=.non:=r;subst r';cases e;exact rfl
  | bl b=>have r':v=.bl b:=r;subst r';cases e;exact rfl
  | int i=>have r':v=.int i:=r;subst r';cases e;exact rfl
  | tup ds=>exact seq ds rfl (Option.some.inj e).symm
  | lst ds=>exact seq ds rfl (Option.some.inj e).symm
  | scr ds=>exact seq _ rfl (Option.some.inj e).symm
  | _=>cases e
theorem ic (ha:IE K X a fa) (he:rK a=true:=by rfl) (hK:X.K=K:=by rfl):IT K X a (h8 iP fa):=by
 subst hK
 refine⟨λenv st r hr=>?_⟩
 simp only [h8,Option.bind_eq_some_iff,Option.map_eq_some_iff] at hr
 obtain⟨x,hx,k,hk,rfl⟩:=hr
 refine (rN (ha.run _ _ _ hx) (qs he)).imp ?_
 rintro σ H Q ⟨φ,hE,hS,q⟩
 exact⟨φ,hE,hS,λv H1 φ1 f1 s1 w1=>⟨k,um s1 w1 hk,q H1 φ1 f1 s1⟩⟩
variable {af:Af}
theorem ag:IA K X [] ak:=by
 refine⟨λenv st r hr=>?_⟩
 cases hr
 refine ji.imp ?_
 rintro σ H Q ⟨φ,hE,hS,q⟩
 exact q [] H φ (Fw.refl φ H) hS rfl
theorem aa (ha:IE K X e fa) (hr:IA K X es af) (hs:aH e=true:=by rfl):IA K X (e::es) (ae fa af):=by
 refine⟨λenv st r h=>?_⟩
 simp only [ae,Option.bind_eq_some_iff,Option.map_eq_some_iff] at h
 obtain⟨x,hx,y,hy,rfl⟩:=h
 refine (di (ha.run _ _ _ hx) (hr.run _ _ _ hy) (bO hs)).imp ?_
 rintro σ H Q ⟨φ,hE,hS,q⟩
 refine⟨φ,hE,hS,λv H1 φ1 f1 s1 w1=>⟨φ1,hE.fw hS f1,s1,λu H2 φ2 f2 s2 w2=>?_⟩⟩
 exact q _ H2 φ2 (f1.trans f2) s2 ⟨v,u,rfl,w1.fw s1 f2,w2⟩
theorem cM {x:Str}{id:String}{p:Pos}{g:Sto->List W->Option D} (hc:gO K X (.builtin id) g) (hg:Gl X x) (hm:X.mg x=none) (hv:bootBuiltins x=some (.builtin id)) (ha:IA K X (e::es) af)
  (hn:x≠"__name__":=by decide) (hdb:(x==("__debug__" : Str))=false:=by decide) (hs:aH e=true:=by rfl) (hp:es.all aH=true:=by rfl) :
  IE K X (.Call (.Name x p) (e::es) [] pos) (iCB g af):=by
 refine⟨λenv st r hr=>?_⟩
 simp only [iCB,Option.bind_eq_some_iff,Option.map_eq_some_iff] at hr
 obtain⟨y,hy,d,hd,rfl⟩:=hr
 refine (fA (hc.run _ _ _ hd) hg hm hv (ha.run _ _ _ hy) hn hdb (bO hs) (er hp)).imp ?_
 rintro σ H Q ⟨φ,hE,hS,q⟩
 exact⟨φ,hE,hS,λv H1 φ1 f1 s1 w1=>⟨φ1,s1,w1,λu H2 f2 w2=>q u H2 φ1 (f1.trans (Fw.same f2)) (s1.same f2) w2⟩⟩
theorem ge {x:Str}{T:String}{p:Pos}{g:Sto->List W->Option D} (hc:gO K X (.type T) g) (hg:Gl X x) (hm:X.mg x=none) (hv:bootBuiltins x=some (.type T)) (ha:IA K X (e::es) af)
  (hn:x≠"__name__":=by decide) (hdb:(x==("__debug__" : Str))=false:=by decide) (hs:aH e=true:=by rfl) (hp:es.all aH=true:=by rfl) :
  IE K X (.Call (.Name x p) (e::es) [] pos) (iCB g af):=by
 refine⟨λenv st r hr=>?_⟩
 simp only [iCB,Option.bind_eq_some_iff,Option.map_eq_some_iff] at hr
 obtain⟨y,hy,d,hd,rfl⟩:=hr
 refine (qd (hc.run _ _ _ hd) hg hm hv (ha.run _ _ _ hy) hn hdb (bO hs) (er hp)).imp ?_
 rintro σ H Q ⟨φ,hE,hS,q⟩
 exact⟨φ,hE,hS,λv H1 φ1 f1 s1 w1=>⟨φ1,s1,w1,λu H2 f2 w2=>q u H2 φ1 (f1.trans (Fw.same f2)) (s1.same f2) w2⟩⟩
theorem wy {x:Str}{id:String}{p:Pos}{g:Sto->List W->Option (List D)} (hc:uC K X (.builtin id) g) (hg:Gl X x) (hm:X.mg x=none) (hv:bootBuiltins x=some (.builtin id)) (ha:IA K X (e::es) af)
  (hn:x≠"__name__":=by decide) (hdb:(x==("__debug__" : Str))=false:=by decide) (hs:aH e=true:=by rfl) (hp:es.all aH=true:=by rfl) :
  IL K X (.Call (.Name x p) (e::es) [] pos) (iCL g af):=by
 refine⟨λenv st r hr=>?_⟩
 simp only [iCL,Option.bind_eq_some_iff,Option.map_eq_some_iff] at hr
 obtain⟨y,hy,d,hd,rfl⟩:=hr
 refine (fA (hc.run _ _ _ hd) hg hm hv (ha.run _ _ _ hy) hn hdb (bO hs) (er hp)).imp ?_
 rintro σ H Q ⟨φ,hE,hS,q⟩
 exact⟨φ,hE,hS,λv H1 φ1 f1 s1 w1=>⟨φ1,s1,w1,λa us H2 f2 n2 w2=>q a us H2 φ1 (f1.trans (Fw.same f2)) (s1.same f2) n2 w2⟩⟩
theorem jY {H:Hp}{φ:List Addr}:∀ {ws:List W}{vs:List V}{ds:List D},gM ws=some ds->Rws K H φ ws vs->Rls K H φ ds vs
 | [],_,_,e,h=>by cases e;exact h
 | .d x::ws,_,_,e,h=>by
  obtain⟨v,r,rfl,h1,h2⟩:=h
  obtain⟨es,e1,rfl⟩:=Option.map_eq_some_iff.mp e
  exact⟨v,r,rfl,h1,jY e1 h2⟩
 | .h n::ws,_,_,e,h=>by cases e
theorem dE {x1} (h:IA K X es af):IE K X (.Tuple es x1 pos) (cu af):=by
 refine⟨λenv st r hr=>?_⟩
 simp only [cu,Option.bind_eq_some_iff] at hr
 obtain⟨y,hy,ds,hd,hr⟩:=hr
 split at hr
 ·cases hr
  rename_i hl
  refine (vH (h.run _ _ _ hy)).imp ?_
  rintro σ H Q ⟨φ,hE,hS,q⟩
  refine⟨φ,hE,hS,λvs H1 φ1 f1 s1 w1=>?_⟩
  have w:=jY hd w1
  refine⟨by rw [<-w.length];exact mG hl,λp hp=>?_⟩
  exact q _ _ φ1 (f1.trans (Fw.new hp)) (s1.new hp) ⟨p,vs,rfl,ay,w.fw s1 (Fw.new hp)⟩
 ·cases hr
theorem d7 (h:IA K X es af):IL K X (.List es pos) (dw af):=by
 refine⟨λenv st r hr=>?_⟩
 simp only [dw,Option.bind_eq_some_iff] at hr
 obtain⟨y,hy,ds,hd,hr⟩:=hr
 split at hr
 ·cases hr
  rename_i hl
  refine (rB (h.run _ _ _ hy)).imp ?_
  rintro σ H Q ⟨φ,hE,hS,q⟩
  refine⟨φ,hE,hS,λvs H1 φ1 f1 s1 w1=>?_⟩
  have w:=jY hd w1
  exact⟨by rw [<-w.length];exact mG hl,λp hp=>q p vs H1 φ1 f1 s1 hp w⟩
 ·cases hr
theorem aO {lf:Lf} (h:IL K X e lf):IE K X e (aD lf):=by
 refine⟨λenv st r hr=>?_⟩
 simp only [aD,Option.map_eq_some_iff] at hr
 obtain⟨y,hy,rfl⟩:=hr
 refine (h.run _ _ _ hy).imp ?_
 rintro σ H Q ⟨φ,hE,hS,q⟩
 refine⟨φ,hE,hS,λa vs H1 φ1 f1 s1 n1 w1=>?_⟩
 exact q _ _ φ1 (f1.trans (Fw.new n1)) (s1.new n1) ⟨a,vs,rfl,s1.nin n1,.inl ay,w1.fw s1 (Fw.new n1)⟩
theorem Sr.moreC {H:Hp}{φ:List Addr}{st:Sto}{a:Addr}{o:HO}{c:C} (S:Sr K H φ st) (n:H a=none) (w:Rc K (upd H a o) (φ++[a]) φ.length a c):Sr K (upd H a o) (φ++[a]) (st++[c]):=by
 have f:Fw φ (φ++[a]) H (upd H a o):=⟨⟨[a],rfl,λb hb=>by rw [List.mem_singleton.mp hb];exact n⟩,λb o _ h=>aZ.new n _ b o h,λb o h=>⟨o,aZ.new n _ b o h⟩⟩
 refine⟨?_,by rw [List.length_append,List.length_append,S.len];rfl,λi b es e1 e2=>?_⟩
 ·rw [List.nodup_append]
  refine⟨S.nd,by simp,λx hx y hy e=>?_⟩
  rw [List.mem_singleton.mp hy] at e
  rw [e] at hx
  exact S.nin n hx
 ·by_cases hi:i < φ.length
  ·rw [List.getElem?_append_left hi] at e1
   rw [List.getElem?_append_left (by rw [<-S.len];exact hi)] at e2
   exact (S.at_ i b es e1 e2).fw S f λo h=>aZ.new n _ _ _ h
  ·have e:i=φ.length:=by
    have:=(List.getElem?_eq_some_iff.mp e1).1
    rw [List.length_append] at this
    simp at this
    lia
   subst e
   rw [List.getElem?_append_right (Nat.le_refl _)] at e1
   rw [S.len,List.getElem?_append_right (Nat.le_refl _)] at e2
   simp at e1 e2
   subst e1 e2
   exact w
theorem Fw.moreO {H:Hp}{φ:List Addr}{a:Addr}{o:HO} (n:H a=none):Fw φ (φ++[a]) H (upd H a o):=
 ⟨⟨[a],rfl,λb hb=>by rw [List.mem_singleton.mp hb];exact n⟩,λb o _ h=>aZ.new n _ b o h,λb o h=>⟨o,aZ.new n _ b o h⟩⟩
theorem Fw.more {H:Hp}{φ:List Addr}{a:Addr}{vs:List V} (n:H a=none):Fw φ (φ++[a]) H (upd H a (.lst vs)):=Fw.moreO n
theorem Sr.more {H:Hp}{φ:List Addr}{st:Sto}{a:Addr}{vs:List V}{ds:List D} (S:Sr K H φ st) (n:H a=none) (w:Rls K H φ ds vs):Sr K (upd H a (.lst vs)) (φ++[a]) (st++[.l ds]):=
 S.moreC n ⟨vs,ay,w.fw S (Fw.moreO n)⟩
theorem ve {lf:Lf} (h:IL K X e lf):IE K X e (oi lf):=by
 refine⟨λenv st r hr=>?_⟩
 simp only [oi,Option.map_eq_some_iff] at hr
 obtain⟨y,hy,rfl⟩:=hr
 refine (h.run _ _ _ hy).imp ?_
 rintro σ H Q ⟨φ,hE,hS,q⟩
 refine⟨φ,hE,hS,λa vs H1 φ1 f1 s1 n1 w1=>?_⟩
 exact q _ _ (φ1++[a]) (f1.trans (Fw.more n1)) (s1.more n1 w1) ⟨a,by rw [<-s1.len];simp,rfl⟩
noncomputable def spI (K:PySem.W.Frag) (m:Fn):Sp:=λvs H Q _=>∃ φ st ws r,m ws st=some r/\Rws K H φ ws vs/\Sr K H φ st/\∀ v H' φ',Fw φ φ' H H'->Sr K H' φ' r.2->Rw K H' φ' r.1 v->Q v H'
theorem aw {x:Str}{k j:Nat}{ff:Addr}{fd:FuncData}{ps:List Str}{m:Fn}{p:Pos} (F:bv X.prog X.w X.K X.mg X.base CX0 j ff fd ps (spI K m)) (hjk:j<=k) (hr:bY k X.A) (hg:Gl X x) (hm:X.mg x=some (.ref ff)) (hk:PySem.W.keepIn X.K (.ref ff)=true) (hb:bp X.K fd ps [])
  (ha:IA K X (e::es) af) (hdb:(x==("__debug__" : Str))=false:=by decide) (hs:aH e=true:=by rfl) (hp:es.all aH=true:=by rfl) :
  IE K X (.Call (.Name x p) (e::es) [] pos) (ax m af):=by
 refine⟨λenv st r h=>?_⟩
 simp only [ax,Option.bind_eq_some_iff] at h
 obtain⟨y,hy,h⟩:=h
 refine (pq (F.mono hjk) hr hg hm hk hb .nil wQ (ha.run _ _ _ hy) hdb (bO hs) (er hp)).imp ?_
 rintro σ H Q ⟨φ,hE,hS,q⟩
 refine⟨φ,hE,hS,λvs H1 φ1 f1 s1 w1=>?_⟩
 show spI K m (vs++[]) H1 Q E0
 rw [List.append_nil]
 exact⟨φ1,y.2,y.1,r,h,w1,s1,λv H2 φ2 f2 s2 w2=>q v H2 φ2 (f1.trans f2) s2 w2⟩
end
end L2
namespace L2
open PySem PySem.Spec PyProof.Rows
inductive Fl where
 | nx (env:Ev) (st:Sto) | rt (w:W) (st:Sto) | bk (env:Ev) (st:Sto) | ct (env:Ev) (st:Sto)
abbrev Sf:=Ev->Sto->Option Fl
noncomputable def qu (K:PySem.W.Frag) (φ:List Addr) (H:Hp) (D:mO):Fl->Prop
 | .nx e s=>∀ σ' H' φ',Fw φ φ' H H'->Er K H' φ' e σ'->Sr K H' φ' s->D.nx σ' H'
 | .rt w s=>∀ v H' φ',Fw φ φ' H H'->Sr K H' φ' s->Rw K H' φ' w v->D.rt v H'
 | .bk e s=>∀ σ' H' φ',Fw φ φ' H H'->Er K H' φ' e σ'->Sr K H' φ' s->D.bk σ' H'
 | .ct e s=>∀ σ' H' φ',Fw φ φ' H H'->Er K H' φ' e σ'->Sr K H' φ' s->D.ct σ' H'
theorem qu.fw {K:PySem.W.Frag}{φ φ1:List Addr}{H H1:Hp}{D:mO}{r:Fl} (h:qu K φ H D r) (f:Fw φ φ1 H H1):qu K φ1 H1 D r:=by
 cases r with
 | nx e s=>exact λσ' H' φ' f'=>h σ' H' φ' (f.trans f')
 | rt w s=>exact λv H' φ' f'=>h v H' φ' (f.trans f')
 | bk e s=>exact λσ' H' φ' f'=>h σ' H' φ' (f.trans f')
 | ct e s=>exact λσ' H' φ' f'=>h σ' H' φ' (f.trans f')
noncomputable def tS (K:PySem.W.Frag) (env:Ev) (st:Sto) (r:Fl):TS:=λD σ H=>∃ φ,Er K H φ env σ/\Sr K H φ st/\qu K φ H D r
structure IS (K:PySem.W.Frag) (X:Cx) (s:Stmt) (g:Sf):Prop where
 run:∀ env st r,g env st=some r->PS X s (tS K env st r)
structure ISs (K:PySem.W.Frag) (X:Cx) (s:List Stmt) (g:Sf):Prop where
 run:∀ env st r,g env st=some r->PSs X s (tS K env st r)
inductive Tg where
 | nm (i:Nat) | tp (is:List Nat) | tq (i:Nat) (is:List Nat)
noncomputable def tJ:Tg->List Nat
 | .nm i=>[i]
 | .tp is=>is
 | .tq i is=>i::is
noncomputable def fD:List Nat->List D->Ev->Ev
 | i::is,d::ds,env=>fD is ds (env.set i (some (.d d)))
 | _,_,env=>env
noncomputable def fk:Tg->W->Ev->Option Ev
 | .nm i,w,env=>some (env.set i (some w))
 | .tp is,.d (.tup ds),env=>if is.length=ds.length then some (fD is ds env) else none
 | .tp is,.d (.lst ds),env=>if is.length=ds.length then some (fD is ds env) else none
 | .tq i is,.d (.tup [d,.tup ds]),env=>if is.length=ds.length then some (fD is ds (env.set i (some (.d d)))) else none
 | _,_,_=>none
noncomputable def sR (is:List Nat) (σ σ':St):Prop:=σ'.length=σ.length/\∀ j,j ∉ is->σ'[j]?=σ[j]?
noncomputable def tG (K:PySem.W.Frag) (g:Tg):TG:=λv σ H Q=>∃ φ st env w env',Er K H φ env σ/\Sr K H φ st/\Rw K H φ w v/\fk g w env=some env'/\∀ σ',Er K H φ env' σ'->sR (tJ g) σ σ'->Q σ' H
noncomputable def tGs (K:PySem.W.Frag) (is:List Nat):TGs:=λvs σ H Q=>∃ φ st env ds,Er K H φ env σ/\Sr K H φ st/\Rls K H φ ds vs/\is.length=ds.length/\∀ σ',Er K H φ (fD is ds env) σ'->sR is σ σ'->Q σ' H
noncomputable def bT:Sf
 | env,st=>some (.nx env st)
noncomputable def av (a b:Sf):Sf
 | env,st=>(a env st).bind λr=>match r with
 | .nx e s=>b e s
 | r=>some r
noncomputable def bt (g:Tg) (f:Ef):Sf
 | env,st=>(f env st).bind λr=>(fk g r.1 env).map λe=>.nx e r.2
noncomputable def lF (st:Sto) (o i v:W):Option Sto:=match o,i,v with
 | .h n,.d (.int k),.d x=>(lg st n).bind λds=>(ixN ds.length k).map λj=>st.set n (.l (ds.set j x))
 | _,_,_=>none
noncomputable def i5 (o i v:Ef):Sf
 | env,st=>(v env st).bind λrv=>(o env rv.2).bind λro=>(i env ro.2).bind λri=>(lF ri.2 ro.1 ri.1 rv.1).map λs=>.nx env s
noncomputable def bf (f:Ef):Sf
 | env,st=>(f env st).map λr=>.rt r.1 r.2
noncomputable def cm (c:Tf) (a b:Sf):Sf
 | env,st=>(c env st).bind λr=>if r.1=true then a env r.2 else b env r.2
noncomputable def fK (g:Tg) (body:Sf):List D->Ev->Sto->Option Fl
 | [],env,st=>some (.nx env st)
 | d::ds,env,st=>(fk g (.d d) env).bind λe=>(body e st).bind λr=>match r with
  | .nx e s=>fK g body ds e s
  | .ct e s=>fK g body ds e s
  | .bk e s=>some (.nx e s)
  | .rt w s=>some (.rt w s)
noncomputable def i4 (fi:Lf) (g:Tg) (body:Sf):Sf
 | env,st=>(fi env st).bind λr=>fK g body r.1 env r.2
noncomputable def lcI (g:Tg) (tt:Tf) (te:Ef) (env:Ev):List D->Sto->Option (List D×Sto)
 | [],st=>some ([],st)
 | d::ds,st=>(fk g (.d d) env).bind λe=>(tt e st).bind λb=>if b.1=true then (te e b.2).bind λx=>(gM [x.1]).bind λys=>(lcI g tt te env ds x.2).map λr=>(ys++r.1,r.2)
   else lcI g tt te env ds b.2
noncomputable def gh (k:Nat) (js:List Nat) (env:Ev):Ev:=List.replicate k none++js.map λj=>env.getD j none
noncomputable def iLc (k:Nat) (js:List Nat) (fi:Lf) (g:Tg) (tt:Tf) (te:Ef):Lf
 | env,st=>(fi env st).bind λr=>if r.1.length<=1000000 then lcI g tt te (gh k js env) r.1 r.2 else none
noncomputable def cR:Tf
 | _,st=>some (true,st)
noncomputable def bq (f:Ef):Lf
 | env,st=>(f env st).bind λr=>match r.1 with
 | .d (.tup ds)=>some (ds,r.2)
 | .d (.lst ds)=>some (ds,r.2)
 | _=>none
noncomputable def eB (lo:Int) (n:Nat):List D:=(List.range n).map λk:Nat=>D.int (lo+k)
noncomputable def de (a:Af):Lf
 | env,st=>(a env st).bind λr=>match r.1 with
 | [.d (.int j)]=>if -(2 ^ 62)<=j/\j < 2 ^ 62 then some (eB 0 j.toNat,r.2) else none
 | _=>none
noncomputable def bS:Nat->List D->List D
 | _,[]=>[]
 | k,d::ds=>.tup [.int k,d]::bS (k+1) ds
noncomputable def d5 (a:Af):Lf
 | env,st=>(a env st).bind λr=>match r.1 with
 | [.d (.tup ds)]=>some (bS 0 ds,r.2)
 | [.d (.lst ds)]=>some (bS 0 ds,r.2)
 | _=>none
section
variable {K:PySem.W.Frag}{X:Cx}{pos:Pos}
theorem PS.imp {s:Stmt}{t t':TS} (h:PS X s t) (m:∀ D σ H,t' D σ H->t D σ H):PS X s t':=λpins s σ H D I q=>h pins s σ H D I (m D σ H q)
theorem PSs.imp {s:List Stmt}{t t':TS} (h:PSs X s t) (m:∀ D σ H,t' D σ H->t D σ H):PSs X s t':=λpins s σ H D I q=>h pins s σ H D I (m D σ H q)
theorem Er.set {H:Hp}{φ:List Addr}{env:Ev}{σ:St} (h:Er K H φ env σ) (i:Nat) {w:W}{v:V} (r:Rw K H φ w v):Er K H φ (env.set i (some w)) (σ.set i (some v)):=by
 refine⟨by rw [List.length_set,List.length_set,h.len],λj w' e=>?_⟩
 by_cases hj:i=j
 ·subst hj
  have hi:i < env.length:=by
   have:=(List.getElem?_eq_some_iff.mp e).1
   rwa [List.length_set] at this
  rw [List.getElem?_set_self hi] at e
  cases e
  exact⟨v,by rw [List.getElem?_set_self (by rw [<-h.len];exact hi)],r⟩
 ·rw [List.getElem?_set_ne hj] at e
  obtain⟨v',e1,r1⟩:=h.at_ j w' e
  exact⟨v',by rw [List.getElem?_set_ne hj];exact e1,r1⟩
theorem sq (i:Nat) (σ:St) (v:Option V):sR [i] σ (σ.set i v):=⟨by rw [List.length_set],λj hj=>by rw [List.getElem?_set_ne (by rintro rfl;simp at hj)]⟩
theorem bU {i:Nat}{x:Str} (h:PG X (.Name x pos) (mW i)):PG X (.Name x pos) (tG K (.nm i)):=by
 intro pins s σ H v u Q I rv q
 obtain⟨φ,st,env,w,env',hE,hS,r,e,q⟩:=q
 cases e
 exact h pins s σ H v u Q I rv (q _ (hE.set i r) (sq i σ _))
theorem eL:PGs X [] (tGs K []):=by
 intro pins s σ H vs us Q I rv q
 obtain⟨φ,st,env,ds,hE,hS,r,e,q⟩:=q
 cases ds with
 | nil=>cases r;exact t6 pins s σ H [] us Q I rv ⟨rfl,q σ hE ⟨rfl,λ_ _=>rfl⟩⟩
 | cons _ _=>cases e
theorem bb {i:Nat}{is:List Nat}{x:Str}{es:List Expr} (h1:PG X (.Name x pos) (mW i)) (h2:PGs X es (tGs K is)):PGs X (.Name x pos::es) (tGs K (i::is)):=by
 intro pins s σ H vs us Q I rv q
 obtain⟨φ,st,env,ds,hE,hS,r,e,q⟩:=q
 cases ds with
 | nil=>cases e
 | cons d ds=>
  obtain⟨v,vr,rfl,r1,r2⟩:=r
  refine rG h1 h2 (oZ rfl) pins s σ H _ us Q I rv ⟨v,vr,rfl,φ,st,_,ds,hE.set i (w:=.d d) r1,hS,r2,by simpa using e,λσ' e' s'=>q σ' e' ?_⟩
  refine⟨by rw [s'.1,List.length_set],λj hj=>?_⟩
  rw [s'.2 j (λz=>hj (List.mem_cons_of_mem _ z)),List.getElem?_set_ne (by rintro rfl;exact hj List.mem_cons_self)]
noncomputable def xK (K:PySem.W.Frag) (n:Nat) (t:TGs):TG:=λv σ H Q=>∃ a xs,v=.ref a/\SqL K H a xs/\xs.length=n/\t xs σ H Q
theorem vI {es:List Expr}{k:Nat}{t:TGs}{n:Nat} (hc:X.calm=true) (h:PGs X es t) (hn:(assignEach es X.env).length=n) (hst:(assignEach es X.env).findIdx? (·.1)=none):PG X (.Tuple es k pos) (xK X.K n t):=by
 intro pins s σ H v u Q I r hw
 obtain⟨a,xs,e1,hq,hl,hw⟩:=hw
 subst e1
 cases r
 obtain⟨its,rv,p,hz⟩:=I.list hq
 rw [assign_Tuple]
 refine wpAny_bind (wpAny_standAt ?_)
 unfold unpack
 rw [show (assignEach es X.env).length=its.toArray.size by simp [hn,<-hl,rv.length],hst]
 refine wpAny_bind (wpAny_holding (PySem.W.kun_itemsOf (I.ok.hd hc) p.isList λh' hx=>?_))
 have I1:Inv X pins σ H { s with heap:=h' }:=I.kept (t':=s.toks) λb o e=>hx b o (Nat.ne_of_lt (Heap.lt_size e)) e
 exact h pins _ σ H xs _ Q I1 (by simpa using rv) hw
theorem gu {es:List Expr}{k n:Nat}{is:List Nat} (h:PGs X es (tGs K is)) (hes:es.all aH=true:=by rfl) (hn:es.length=n:=by rfl) (hi:is.length=n:=by rfl) (hc:X.calm=true:=by rfl) (hK:X.K=K:=by rfl):PG X (.Tuple es k pos) (tG K (.tp is)):=by
 subst hK
 intro pins s σ H v u Q I rv q
 obtain⟨φ,st,env,w,env',hE,hS,r,e,q⟩:=q
 cases w with
 | h n=>cases e
 | d x=>
  cases x with
  | tup ds=>
   have e':(if is.length=ds.length then some (fD is ds env) else none)=some env':=e
   by_cases hl:is.length=ds.length
   ·rw [if_pos hl] at e'
    cases e'
    obtain⟨a,vs,rfl,hq,hr⟩:=r
    exact vK hc h ((lM hes).trans hn) (jP hes) pins s σ H _ u Q I rv ⟨a,vs,rfl,(SqT.of hq),by rw [<-hr.length,<-hl,hi],φ,st,env,ds,hE,hS,hr,hl,q⟩
   ·rw [if_neg hl] at e'
    cases e'
  | lst ds=>
   have e':(if is.length=ds.length then some (fD is ds env) else none)=some env':=e
   by_cases hl:is.length=ds.length
   ·rw [if_pos hl] at e'
    cases e'
    obtain⟨a,vs,rfl,_,hq,hr⟩:=r
    exact vI hc h ((lM hes).trans hn) (jP hes) pins s σ H _ u Q I rv ⟨a,vs,rfl,.inl hq,by rw [<-hr.length,<-hl,hi],φ,st,env,ds,hE,hS,hr,hl,q⟩
   ·rw [if_neg hl] at e'
    cases e'
  | _=>cases e
variable {s:Stmt}{ss rest:List Stmt}{e a b c:Expr}{ga gb:Sf}{f fa fb fc:Ef}
theorem bV:ISs K X [] bT:=by
 refine⟨λenv st r hr=>?_⟩
 cases hr
 exact pu.imp λD σ H ⟨φ,hE,hS,q⟩=>q σ H φ (Fw.refl φ H) hE hS
theorem aq (h:IS K X s ga):ISs K X [s] ga:=⟨λenv st r hr=>iK (h.run env st r hr)⟩
theorem al (h1:IS K X s ga) (h2:ISs K X rest gb):ISs K X (s::rest) (av ga gb):=by
 refine⟨λenv st r hr=>?_⟩
 simp only [av,Option.bind_eq_some_iff] at hr
 obtain⟨r1,e1,hr⟩:=hr
 cases r1 with
 | nx e s1=>
  refine (dB (h1.run _ _ _ e1) (h2.run _ _ _ hr)).imp ?_
  rintro D σ H ⟨φ,hE,hS,q⟩
  exact⟨φ,hE,hS,λσ' H' φ' f' e' s'=>⟨φ',e',s',q.fw f'⟩⟩
 | rt w s1=>
  cases hr
  exact (dB (h1.run _ _ _ e1) cO).imp λD σ H ⟨φ,hE,hS,q⟩=>⟨φ,hE,hS,q⟩
 | bk w s1=>
  cases hr
  exact (dB (h1.run _ _ _ e1) cO).imp λD σ H ⟨φ,hE,hS,q⟩=>⟨φ,hE,hS,q⟩
 | ct w s1=>
  cases hr
  exact (dB (h1.run _ _ _ e1) cO).imp λD σ H ⟨φ,hE,hS,q⟩=>⟨φ,hE,hS,q⟩
theorem aW {i:Nat}{x:Str}{pos':Pos} (hN:X.N.Nodup) (hi:X.N[i]?=some x) (hx:Loc X.env.scope x) (he:IE K X e f) (hs:swapsWith e (some (.Name x pos')) pos.line X.env=pure false:=by rfl) (hf:X.fn x=true\/X.env.scope.names.lookup x=some .local:=by first | exact .inl rfl | exact .inr rfl | assumption) :
  IS K X (.Assign [.Name x pos'] e pos) (bt (.nm i) f):=by
 refine⟨λenv st r hr=>?_⟩
 simp only [bt,fk,Option.bind_eq_some_iff,Option.map_eq_some_iff] at hr
 obtain⟨y,hy,e',ee,rfl⟩:=hr
 cases ee
 refine (kD hN hi hx (he.run _ _ _ hy) hs hf).imp ?_
 rintro D σ H ⟨φ,hE,hS,q⟩
 exact⟨φ,hE,hS,λv H1 φ1 f1 s1 w1=>q _ H1 φ1 f1 ((hE.fw hS f1).set i w1) s1⟩
theorem Sr.putC {H:Hp}{φ:List Addr}{st:Sto}{n:Nat}{a:Addr}{o:HO}{c:C} (S:Sr K H φ st) (hn:φ[n]?=some a) (w:Fw φ φ H (upd H a o)->Rc K (upd H a o) φ n a c) :
  Fw φ φ H (upd H a o)/\Sr K (upd H a o) φ (st.set n c):=by
 have ha:a ∈ φ:=List.mem_of_getElem? hn
 have f:Fw φ φ H (upd H a o):=⟨⟨[],by simp,by simp⟩,λb o hb h=>by rw [am (λz=>hb (by rw [z];exact ha))];exact h,λb o h=>by
  by_cases z:b=a
  ·subst z;exact⟨_,ay⟩
  ·exact⟨o,by rw [am z];exact h⟩⟩
 refine⟨f,S.nd,by rw [List.length_set];exact S.len,λm b es e1 e2=>?_⟩
 by_cases hm:n=m
 ·subst hm
  rw [e1] at hn;cases hn
  have hl:n < st.length:=by rw [<-S.len];exact (List.getElem?_eq_some_iff.mp e1).1
  rw [List.getElem?_set_self hl] at e2
  cases e2
  exact w f
 ·rw [List.getElem?_set_ne hm] at e2
  have q:=S.at_ m b es e1 e2
  have hne:b≠a:=by
   rintro rfl
   obtain⟨h1,h1'⟩:=List.getElem?_eq_some_iff.mp hn
   obtain⟨h2,h2'⟩:=List.getElem?_eq_some_iff.mp e1
   exact hm ((List.getElem_inj S.nd).mp (h1'.trans h2'.symm))
  exact q.fw S f λo h=>by rw [am hne];exact h
theorem Sr.put {H:Hp}{φ:List Addr}{st:Sto}{n:Nat}{a:Addr}{vs:List V}{ds:List D} (S:Sr K H φ st) (hn:φ[n]?=some a) (w:Rls K H φ ds vs) :
  Fw φ φ H (upd H a (.lst vs))/\Sr K (upd H a (.lst vs)) φ (st.set n (.l ds)):=S.putC hn λf=>⟨vs,ay,w.fw S f⟩
theorem oM {st s':Sto}{o i v:W} (h:lF st o i v=some s'):∃ n k x ds j,o=.h n/\i=.d (.int k)/\v=.d x/\lg st n=some ds/\ixN ds.length k=some j/\s'=st.set n (.l (ds.set j x)):=by
 unfold lF at h
 split at h
 ·obtain⟨ds,e1,h⟩:=Option.bind_eq_some_iff.mp h
  obtain⟨j,e2,h⟩:=Option.map_eq_some_iff.mp h
  exact⟨_,_,_,ds,j,rfl,rfl,rfl,e1,e2,h.symm⟩
 ·cases h
theorem mZ {tpos:Pos} (ho:IE K X a fa) (hi:IE K X b fb) (hv:IE K X e f) (hb:mv b=true:=by rfl) (hs:swapsWithSole [.Subscript a b tpos] e pos.line X.env=pure false:=by rfl) (hw:swappedStores [.Subscript a b tpos] e X.env=pure none:=by rfl) :
  IS K X (.Assign [.Subscript a b tpos] e pos) (i5 fa fb f):=by
 refine⟨λenv st r hr=>?_⟩
 simp only [i5,Option.bind_eq_some_iff,Option.map_eq_some_iff] at hr
 obtain⟨rv,ev,ro,eo,ri,ei,s',es,rfl⟩:=hr
 refine (vN (hv.run _ _ _ ev) (vJ (ho.run _ _ _ eo) (hi.run _ _ _ ei) sk (sU hb)) hs hw (sT rfl)).imp ?_
 rintro D σ H ⟨φ,hE,hS,q⟩
 refine⟨φ,hE,hS,λv H1 φ1 f1 s1 w1=>⟨φ1,hE.fw hS f1,s1,λo H2 φ2 f2 s2 w2=>⟨φ2,(hE.fw hS f1).fw s1 f2,s2,λi H3 φ3 f3 s3 w3=>?_⟩⟩⟩
 have e3:=((hE.fw hS f1).fw s1 f2).fw s2 f3
 have w1':=(w1.fw s1 f2).fw s2 f3
 have w2':=w2.fw s2 f3
 obtain⟨ro1,ro2⟩:=ro
 obtain⟨rv1,rv2⟩:=rv
 obtain⟨ri1,ri2⟩:=ri
 obtain⟨n,k,x,ds,j,rfl,rfl,rfl,eds,ej,rfl⟩:=oM es
 obtain⟨p,ep,rfl⟩:=w2'
 obtain⟨vs,hp,rl⟩:=s3.atl n p ds ep eds
 have w3':i=.int k:=w3
 subst w3'
 obtain⟨f4,s4⟩:=s3.put ep (Rls.set j rl w1')
 refine⟨p,vs,k,j,rfl,rfl,hp,by rw [<-rl.length];exact ej,?_⟩
 exact q _ _ φ3 (((f1.trans f2).trans f3).trans f4) (e3.fw s3 f4) s4
theorem aP (h:IE K X e f):IS K X (.Return (some e) pos) (bf f):=by
 refine⟨λenv st r hr=>?_⟩
 simp only [bf,Option.map_eq_some_iff] at hr
 obtain⟨y,hy,rfl⟩:=hr
 exact (vO (h.run _ _ _ hy)).imp λD σ H ⟨φ,hE,hS,q⟩=>⟨φ,hE,hS,q⟩
theorem eN {tc:Tf}{sa sb:List Stmt} (hc:IT K X c tc) (ha:ISs K X sa ga) (hb:ISs K X sb gb):IS K X (.If c sa sb pos) (cm tc ga gb):=by
 refine⟨λenv st r hr=>?_⟩
 simp only [cm,Option.bind_eq_some_iff] at hr
 obtain⟨⟨k,s1⟩,hx,hr⟩:=hr
 cases k with
 | true=>
  rw [if_pos rfl] at hr
  refine (nD (hc.run _ _ _ hx) (ha.run _ _ _ hr) cO).imp ?_
  rintro D σ H ⟨φ,hE,hS,q⟩
  refine⟨φ,hE,hS,λH1 φ1 f1 s1=>ot ?_⟩
  exact⟨φ1,hE.fw hS f1,s1,q.fw f1⟩
 | false=>
  rw [if_neg Bool.false_ne_true] at hr
  refine (nD (hc.run _ _ _ hx) cO (hb.run _ _ _ hr)).imp ?_
  rintro D σ H ⟨φ,hE,hS,q⟩
  refine⟨φ,hE,hS,λH1 φ1 f1 s1=>oq ?_⟩
  exact⟨φ1,hE.fw hS f1,s1,q.fw f1⟩
noncomputable def xr (K:PySem.W.Frag) (g:Sf):TS:=λD σ H=>∃ env st r,g env st=some r/\tS K env st r D σ H
noncomputable def uN (K:PySem.W.Frag) (f:Ef):TE:=λσ H Q=>∃ env st r,f env st=some r/\tI K env st r σ H Q
noncomputable def sr (K:PySem.W.Frag) (f:Tf):TT:=λσ H Q=>∃ env st r,f env st=some r/\tIT K env st r σ H Q
theorem ISs.any (h:ISs K X ss ga):PSs X ss (xr K ga):=λpins s σ H D I ⟨env,st,r,e,q⟩=>h.run env st r e pins s σ H D I q
theorem IE.any (h:IE K X e f):PE X e (uN K f):=λpins s σ H D I ⟨env,st,r,e,q⟩=>h.run env st r e pins s σ H D I q
theorem IT.any {tf:Tf} (h:IT K X e tf):PT X e (sr K tf):=λpins s σ H D I ⟨env,st,r,e,q⟩=>h.run env st r e pins s σ H D I q
noncomputable def Yl (K:PySem.W.Frag) (φ0:List Addr) (H0:Hp) (J:It) (ds:List D):Prop:=∀ (H:Hp) (φ:List Addr) (st:Sto) (i:Nat),Fw φ0 φ H0 H->Sr K H φ st->
 (∀ d,ds[i]?=some d->J.go i H/\∀ x H',J.yld i H x H'->aZ H H'/\Rl K H' φ d x)/\(ds.length=i->J.stop i H)
noncomputable def tII (K:PySem.W.Frag) (env:Ev) (st:Sto) (r:List D×Sto):TI:=λσ H R=>∃ φ,Er K H φ env σ/\Sr K H φ st/\∀ J H' φ',Fw φ φ' H H'->Sr K H' φ' r.2->Yl K φ' H' J r.1->R J H'
structure II (K:PySem.W.Frag) (X:Cx) (tg iter:Expr) (f:Lf):Prop where
 run:∀ env st r,f env st=some r->PI X tg iter (tII K env st r)
theorem PI.imp {tg iter:Expr}{t t':TI} (h:PI X tg iter t) (m:∀ σ H R,t' σ H R->t σ H R):PI X tg iter t':=λpins s σ H R I q=>h pins s σ H R I (m σ H R q)
variable {tg:Expr}
end
end L2
namespace L2
open PySem PySem.Spec PyProof.Rows
section
variable {K:PySem.W.Frag}{X:Cx}{pos:Pos}{tg e a b:Expr}{f:Ef}{af:Af}
theorem d6 (h:IE K X e f) (hK:X.K=K:=by rfl):II K X tg e (bq f):=by
 subst hK
 refine⟨λenv st r hr=>?_⟩
 simp only [bq,Option.bind_eq_some_iff] at hr
 obtain⟨⟨w,s1⟩,hy,hr⟩:=hr
 match w,hr with
 | .d (.tup ds),hr=>
  cases hr
  refine (vL (h.run _ _ _ hy)).imp ?_
  rintro σ H R ⟨φ,hE,hS,q⟩
  refine⟨φ,hE,hS,λv H1 φ1 f1 s1 w1=>?_⟩
  obtain⟨a,vs,rfl,hq,hr⟩:=w1
  refine⟨a,rfl,⟨vs,(SqT.of hq)⟩,q _ H1 φ1 f1 s1 λH2 φ2 st2 i f2 s2=>?_⟩
  have hq2:=(SqT.of hq).fw s1 f2
  have hr2:=hr.fw s1 f2
  refine⟨λd hd=>?_,λhi=>⟨vs,hq2,by rw [<-hr2.length];exact Nat.le_of_eq hi⟩⟩
  obtain⟨v,ev,rv⟩:=hr2.get hd
  refine⟨⟨vs,v,hq2,ev⟩,λx H' y=>?_⟩
  obtain⟨rfl,y⟩:=y
  have:=y vs hq2
  rw [ev] at this
  cases this
  exact⟨aZ.refl _,rv⟩
 | .d (.lst ds),hr=>
  cases hr
  refine (t7 (h.run _ _ _ hy)).imp ?_
  rintro σ H R ⟨φ,hE,hS,q⟩
  refine⟨φ,hE,hS,λv H1 φ1 f1 s1 w1=>?_⟩
  obtain⟨a,vs,rfl,h0,hq,hr⟩:=w1
  refine⟨a,rfl,⟨vs,.inl hq⟩,q _ H1 φ1 f1 s1 λH2 φ2 st2 i f2 s2=>?_⟩
  have hq2:SqL X.K H2 a vs:=.inl (hq.fw f2 h0)
  have hr2:=hr.fw s1 f2
  refine⟨λd hd=>?_,λhi=>⟨vs,hq2,by rw [<-hr2.length];exact Nat.le_of_eq hi⟩⟩
  obtain⟨v,ev,rv⟩:=hr2.get hd
  refine⟨⟨vs,v,hq2,ev⟩,λx H' y=>?_⟩
  obtain⟨rfl,y⟩:=y
  have:=y vs hq2
  rw [ev] at this
  cases this
  exact⟨aZ.refl _,rv⟩
theorem nI (lo:Int) (n i:Nat):(eB lo n)[i]?=if i < n then some (.int (lo+i)) else none:=by
 unfold eB
 rw [List.getElem?_map]
 by_cases h:i < n
 ·rw [List.getElem?_range h,if_pos h];rfl
 ·rw [List.getElem?_eq_none (by simpa using h),if_neg h];rfl
theorem gA (lo:Int) (n:Nat):(eB lo n).length=n:=by unfold eB;rw [List.length_map,List.length_range]
theorem wg (lo:Int) (n:Nat) {φ:List Addr}{H:Hp}:Yl K φ H (Itr lo n) (eB lo n):=by
 intro H2 φ2 st2 i f2 s2
 refine⟨λd hd=>?_,λhi=>by rw [gA] at hi;exact Nat.le_of_eq hi⟩
 rw [nI] at hd
 by_cases h:i < n
 ·rw [if_pos h] at hd
  cases hd
  refine⟨h,λx H' y=>?_⟩
  obtain⟨rfl,rfl⟩:=y
  exact⟨aZ.refl _,rfl⟩
 ·rw [if_neg h] at hd;cases hd
theorem gE {p:Pos} (hg:Gl X "range") (hm:X.mg "range" = none) (ha:IA K X [a] af) (hs:aH a=true:=by rfl):II K X tg (.Call (.Name "range" p) [a] [] pos) (de af):=by
 refine⟨λenv st r hr=>?_⟩
 simp only [de,Option.bind_eq_some_iff] at hr
 obtain⟨⟨ws,s1⟩,hy,hr⟩:=hr
 match ws,hr with
 | [.d (.int j)],hr=>
  have hr':(if -(2 ^ 62)<=j/\j < 2 ^ 62 then some (eB 0 j.toNat,s1) else none)=some r:=hr
  by_cases hj:-(2 ^ 62)<=j/\j < 2 ^ 62
  ·rw [if_pos hj] at hr'
   cases hr'
   refine (qe hg hm (ha.run _ _ _ hy) (gC hs)).imp ?_
   rintro σ H R ⟨φ,hE,hS,q⟩
   refine⟨φ,hE,hS,λvs H1 φ1 f1 s1 w1=>?_⟩
   obtain⟨v,r,rfl,r1,rfl⟩:=w1
   exact⟨j,by rw [show v=.int j from r1],hj.1,hj.2,q _ H1 φ1 f1 s1 (wg 0 _)⟩
  ·rw [if_neg hj] at hr';cases hr'
theorem lw:∀ (ds:List D) (k i:Nat),(bS k ds)[i]?=(ds[i]?).map λd=>D.tup [.int ((k+i:Nat):Int),d]
 | [],k,i=>by simp [bS]
 | d::ds,k,0=>by simp [bS]
 | d::ds,k,i+1=>by
  have:=lw ds (k+1) i
  rw [show k+1+i=k+(i+1) by lia] at this
  simpa [bS] using this
theorem lx:∀ (ds:List D) (k:Nat),(bS k ds).length=ds.length
 | [],_=>rfl
 | d::ds,k=>by rw [bS,List.length_cons,List.length_cons,lx ds]
theorem pJ {S:Hp->List V->Prop}{ds:List D}{vs:List V}{φ:List Addr}{H:Hp} (hS:∀ H' φ',Fw φ φ' H H'->S H' vs) (hr:∀ H' φ',Fw φ φ' H H'->Rls K H' φ' ds vs):Yl K φ H (Ite S) (bS 0 ds):=by
 intro H2 φ2 st2 i f2 s2
 have q2:=hS H2 φ2 f2
 have r2:=hr H2 φ2 f2
 refine⟨λd hd=>?_,λhi=>⟨vs,q2,by rw [<-r2.length,<-lx ds 0];exact hi⟩⟩
 rw [lw,Option.map_eq_some_iff] at hd
 obtain⟨d',hd',rfl⟩:=hd
 obtain⟨v,ev,rv⟩:=r2.get hd'
 refine⟨⟨vs,v,q2,ev⟩,λx H' y=>?_⟩
 obtain⟨T,v',y1,hT,rfl,rfl⟩:=y
 have:=y1 vs q2
 rw [ev] at this
 cases this
 refine⟨aZ.new hT _,T,_,rfl,ay,_,_,rfl,?_,_,_,rfl,rv.fw s2 (Fw.new hT),rfl⟩
 show V.int (i:Int)=V.int ((0+i:Nat):Int)
 rw [Nat.zero_add]
theorem jC {elts:List Expr}{k:Nat}{tpos p:Pos} (hg:Gl X "enumerate") (hm:X.mg "enumerate" = none) (ha:IA K X [a] af) (hs:aH a=true:=by rfl) (hK:X.K=K:=by rfl) :
  II K X (.Tuple elts k tpos) (.Call (.Name "enumerate" p) [a] [] pos) (d5 af):=by
 subst hK
 refine⟨λenv st r hr=>?_⟩
 simp only [d5,Option.bind_eq_some_iff] at hr
 obtain⟨⟨ws,s1⟩,hy,hr⟩:=hr
 match ws,hr with
 | [.d (.tup ds)],hr=>
  cases hr
  refine (rJ hg hm (ha.run _ _ _ hy) (gC hs)).imp ?_
  rintro σ H R ⟨φ,hE,hS,q⟩
  refine⟨φ,hE,hS,λvs H1 φ1 f1 s1 w1=>?_⟩
  obtain⟨v,r,rfl,⟨a,us,rfl,hq,hr⟩,rfl⟩:=w1
  exact⟨a,rfl,⟨us,(SqT.of hq)⟩,q _ H1 φ1 f1 s1 (pJ (λH' φ' f=>(SqT.of hq).fw s1 f) λH' φ' f=>hr.fw s1 f)⟩
 | [.d (.lst ds)],hr=>
  cases hr
  refine (rH hg hm (ha.run _ _ _ hy) (gC hs)).imp ?_
  rintro σ H R ⟨φ,hE,hS,q⟩
  refine⟨φ,hE,hS,λvs H1 φ1 f1 s1 w1=>?_⟩
  obtain⟨v,r,rfl,⟨a,us,rfl,h0,hq,hr⟩,rfl⟩:=w1
  exact⟨a,rfl,⟨us,.inl hq⟩,q _ H1 φ1 f1 s1 (pJ (λH' φ' f=>.inl (hq.fw f h0)) λH' φ' f=>hr.fw s1 f)⟩
theorem i9 {iter:Expr}{body:List Stmt}{fi:Lf}{g:Tg}{gb:Sf} (hi:II K X tg iter fi) (hg:PG X tg (tG K g)) (hb:ISs K X body gb) (hp:PassesOwn (model X.prog X.w) X.A X.env X.xe) (hc:X.calm=true:=by rfl)
  (hs:∀ x,foldedSetIterable iter X.env x=pure x:=by intro _;rfl):IS K X (.For tg iter body [] pos) (i4 fi g gb):=by
 refine⟨λenv st r hr=>?_⟩
 simp only [i4,Option.bind_eq_some_iff] at hr
 obtain⟨⟨ds,s1⟩,hy,hr⟩:=hr
 refine (rL hp hc (hi.run _ _ _ hy) hg hb.any hs).imp ?_
 rintro D σ H ⟨φ,hE,hS,q⟩
 refine⟨φ,hE,hS,λJ H1 φ1 f1 S1 yl=>?_⟩
 refine⟨λi m σ H=>m=ds.length - i/\i<=ds.length/\∃ env st φ2,Fw φ1 φ2 H1 H/\Er K H φ2 env σ/\Sr K H φ2 st/\fK g gb (ds.drop i) env st=some r,⟨ds.length,by simp,Nat.zero_le _,env,s1,φ1,Fw.refl _ _,hE.fw hS f1,S1,hr⟩,?_⟩
 rintro i m σ H2 ⟨rfl,hi,env2,st2,φ2,f2,e2,S2,h2⟩
 obtain⟨y1,y2⟩:=yl H2 φ2 st2 i f2 S2
 by_cases hlt:i < ds.length
 ·obtain⟨go,yld⟩:=y1 ds[i] (List.getElem?_eq_getElem hlt)
  rw [List.drop_eq_getElem_cons hlt] at h2
  simp only [fK,Option.bind_eq_some_iff] at h2
  obtain⟨e3,he3,r3,hr3,h3⟩:=h2
  refine .inr ⟨go,λσ' H'=>i+1<=ds.length/\∃ env st φ2,Fw φ1 φ2 H1 H'/\Er K H' φ2 env σ'/\Sr K H' φ2 st/\fK g gb (ds.drop (i+1)) env st=some r,λσ' H' ⟨hn,p'⟩=>⟨ds.length - (i+1),by lia,rfl,hn,p'⟩,λx H' y=>?_⟩
  obtain⟨sm,rx⟩:=yld x H' y
  have S3:=S2.same sm
  have f3:=f2.trans (Fw.same (φ:=φ2) sm)
  refine⟨φ2,st2,env2,.d ds[i],e3,e2.fw S2 (Fw.same sm),S3,rx,he3,λσ' e' _=>?_⟩
  refine⟨e3,st2,r3,hr3,φ2,e',S3,?_⟩
  cases r3 with
  | nx e4 s4=>exact λσ4 H4 φ4 f4 e4' s4'=>⟨hlt,e4,s4,φ4,f3.trans f4,e4',s4',h3⟩
  | ct e4 s4=>exact λσ4 H4 φ4 f4 e4' s4'=>⟨hlt,e4,s4,φ4,f3.trans f4,e4',s4',h3⟩
  | bk e4 s4=>
   cases h3
   exact λσ4 H4 φ4 f4 e4' s4'=>q σ4 H4 φ4 (f1.trans (f3.trans f4)) e4' s4'
  | rt w s4=>
   cases h3
   exact λv H4 φ4 f4 s4' w4=>q v H4 φ4 (f1.trans (f3.trans f4)) s4' w4
 ·have hi':i=ds.length:=by lia
  subst hi'
  rw [List.drop_length] at h2
  cases h2
  exact .inl ⟨y2 rfl,q σ H2 φ2 (f1.trans f2) e2 S2⟩
structure ITs (K:PySem.W.Frag) (X:Cx) (ifs:List Expr) (t:Tf):Prop where
 run:PTs X ifs (sr K t)
theorem cU:ITs K X [] cR:=by
 refine⟨λpins s σ H Q I ⟨env,st,r,e,φ,hE,hS,q⟩=>?_⟩
 cases e
 exact uc pins s σ H Q I (q H φ (Fw.refl φ H) hS)
theorem jE {c:Expr}{t:Tf} (h:IT K X c t):ITs K X [c] t:=⟨ud h.any⟩
theorem Er.emb {H:Hp}{φ:List Addr}{env:Ev}{σ:St} (h:Er K H φ env σ) (k:Nat) (js:List Nat):Er K H φ (gh k js env) (gc k js σ):=by
 refine⟨by unfold gh gc;simp,λi w e=>?_⟩
 unfold gh at e
 unfold gc
 by_cases hi:i < k
 ·rw [List.getElem?_append_left (by simpa using hi),List.getElem?_replicate,if_pos hi] at e
  cases e
 ·rw [List.getElem?_append_right (by simpa using hi),List.length_replicate,List.getElem?_map,Option.map_eq_some_iff] at e
  obtain⟨j,ej,e⟩:=e
  have ej2:env[j]?=some (some w):=by
   rw [List.getD] at e
   cases q:env[j]? with
   | none=>rw [q] at e;cases e
   | some o=>rw [q] at e;rw [show o=some w from e]
  obtain⟨v,ev,rv⟩:=h.at_ j w ej2
  refine⟨v,?_,rv⟩
  rw [List.getElem?_append_right (by simpa using hi),List.length_replicate,List.getElem?_map,ej]
  show some ((σ[j]?).getD none)=_
  rw [ev];rfl
theorem Sub.stay {k:Nat}{js is:List Nat}{σ σ':St} (h:sR is (gc k js σ) σ') (hi:∀ j ∈ is,j < k):Sub (gc k js σ) σ':=by
 refine⟨h.1.symm,λj v e=>?_⟩
 by_cases hj:j ∈ is
 ·have:=hi j hj
  unfold gc at e
  rw [List.getElem?_append_left (by simpa using this),List.getElem?_replicate,if_pos this] at e
  cases e
 ·rw [h.2 j hj];exact e
theorem qY {k:Nat}{js:List Nat}{g:Tg}{tt:Tf}{te:Ef}{env:Ev}{st s1:Sto}{ds:List D}{r:List D×Sto} (hgi:∀ j ∈ tJ g,j < k) (hdl:ds.length<=1000000) (hr':lcI g tt te (gh k js env) ds s1=some r) :
  ∀ σ H Q,tIL K env st r σ H Q->tLc (gc k js) (tII K env st (ds,s1)) (tG K g) (sr K tt) (uN K te) σ H Q:=by
 rintro σ H Q ⟨φ,hE,hS,q⟩
 refine⟨φ,hE,hS,λJ H1 φ1 f1 S1 yl=>?_⟩
 have hE1:=(hE.fw hS f1).emb k js
 refine⟨λi m ys H2=>m=ds.length - i/\i<=ds.length/\∃ st φ2 es r2,Fw φ1 φ2 H1 H2/\Sr K H2 φ2 st/\Rls K H2 φ2 es ys/\es.length<=i/\lcI g tt te (gh k js env) (ds.drop i) st=some r2/\r=(es++r2.1,r2.2),⟨ds.length,by simp,Nat.zero_le _,s1,φ1,[],r,Fw.refl _ _,S1,rfl,Nat.le_refl _,hr',rfl⟩,?_⟩
 rintro i m ys H2 ⟨rfl,hi,st2,φ2,es,r2,f2,S2,rl2,hle,h2,rfl⟩
 obtain⟨y1,y2⟩:=yl H2 φ2 st2 i f2 S2
 by_cases hlt:i < ds.length
 ·obtain⟨go,yld⟩:=y1 ds[i] (List.getElem?_eq_getElem hlt)
  rw [List.drop_eq_getElem_cons hlt] at h2
  simp only [lcI,Option.bind_eq_some_iff] at h2
  obtain⟨e3,he3,⟨kb,s3⟩,hb3,h3⟩:=h2
  have hz:ys.length < sizeLine:=by
   rw [<-rl2.length]
   have:sizeLine=16777216:=sizeLine_eq
   lia
  refine .inr ⟨go,hz,λys' H'=>i+1<=ds.length/\∃ st φ2 es' r2',Fw φ1 φ2 H1 H'/\Sr K H' φ2 st/\Rls K H' φ2 es' ys'/\es'.length<=i+1/\lcI g tt te (gh k js env) (ds.drop (i+1)) st=some r2'/\(es++r2.1,r2.2)=(es'++r2'.1,r2'.2),λys' H' ⟨hn,p'⟩=>⟨ds.length - (i+1),by lia,rfl,hn,p'⟩,λx H' y=>?_⟩
  obtain⟨sm,rx⟩:=yld x H' y
  have S3:=S2.same sm
  have f3:=f2.trans (Fw.same (φ:=φ2) sm)
  refine⟨φ2,st2,gh k js env,.d ds[i],e3,hE1.fw S1 f3,S3,rx,he3,λσ' e' stay=>⟨Sub.stay stay hgi,?_⟩⟩
  refine⟨e3,st2,_,hb3,φ2,e',S3,λH4 φ4 f4 S4=>?_⟩
  cases kb with
  | false=>
   rw [if_neg Bool.false_ne_true] at h3
   exact oq ⟨hlt,s3,φ4,es,r2,f3.trans f4,S4,(rl2.fw S2 (Fw.same sm)).fw S3 f4,by lia,h3,rfl⟩
  | true=>
   simp only [if_true,Option.bind_eq_some_iff,Option.map_eq_some_iff] at h3
   obtain⟨x5,hx5,zs,hzs,r5,hr5,rfl⟩:=h3
   refine ot ⟨e3,s3,x5,hx5,φ4,e'.fw S3 f4,S4,λv H5 φ5 f5 S5 w5=>?_⟩
   obtain⟨x5,s5⟩:=x5
   cases x5 with
   | h n=>cases hzs
   | d z=>
    cases hzs
    refine⟨hlt,s5,φ5,es++[z],r5,(f3.trans f4).trans f5,S5,(((rl2.fw S2 (Fw.same sm)).fw S3 f4).fw S4 f5).append ⟨v,[],rfl,w5,rfl⟩,by rw [List.length_append];simp;lia,hr5,?_⟩
    simp
 ·have hi':i=ds.length:=by lia
  subst hi'
  rw [List.drop_length] at h2
  cases h2
  refine .inl ⟨y2 rfl,λDn hD=>?_⟩
  have:=q Dn ys H2 φ2 (f1.trans f2) S2 hD
  exact this (by simpa using rl2)
theorem eM {scope:Scope}{Nc:List Str}{k:Nat}{js:List Nat}{elt iter:Expr}{ifs:List Expr}{fi:Lf}{g:Tg}{tt:Tf}{te:Ef}
  (S:eE X scope Nc (gc k js)) (hc:X.calm=true) (hgi:∀ j ∈ tJ g,j < k) (hi:II K X tg iter fi)
  (hg:∀ cells s H C fp,PG (lcX X scope cells Nc s H C fp) tg (tG K g)) (ht:∀ cells s H C fp,ITs K (lcX X scope cells Nc s H C fp) ifs tt) (he:∀ cells s H C fp,IE K (lcX X scope cells Nc s H C fp) elt te)
  (hs:∀ x,foldedSetIterable iter X.env x=pure x:=by intro _;rfl):IL K X (.ListComp elt [⟨tg,iter,ifs,0⟩] scope pos) (iLc k js fi g tt te):=by
 refine⟨λenv st r hr=>?_⟩
 simp only [iLc,Option.bind_eq_some_iff] at hr
 obtain⟨⟨ds,s1⟩,hy,hr⟩:=hr
 have hr':(if ds.length<=1000000 then lcI g tt te (gh k js env) ds s1 else none)=some r:=hr
 by_cases hdn:¬ ds.length<=1000000
 ·rw [if_neg hdn] at hr';cases hr'
 have hdl:ds.length<=1000000:=by lia
 rw [if_pos hdl] at hr'
 refine (wU S hc (hi.run _ _ _ hy) hg (λcells s H C fp=>(ht cells s H C fp).run) (λcells s H C fp=>(he cells s H C fp).any) hs).imp (qY hgi hdl hr')
theorem wz {scope:Scope}{Nc:List Str}{k:Nat}{js:List Nat}{elt iter:Expr}{ifs:List Expr}{fi:Lf}{g:Tg}{tt:Tf}{te:Ef}{i0:Nat}{x0:Str}{py spos:Pos}
  (hN0:X.N.Nodup) (hi0:X.N[i0]?=some x0) (hx0:Loc X.env.scope x0) (S:eE X scope Nc (gc k js)) (hc:X.calm=true) (hgi:∀ j ∈ tJ g,j < k) (hi:II K X tg iter fi)
  (hg:∀ cells s H C fp,PG (lcX X scope cells Nc s H C fp) tg (tG K g)) (ht:∀ cells s H C fp,ITs K (lcX X scope cells Nc s H C fp) ifs tt) (he:∀ cells s H C fp,IE K (lcX X scope cells Nc s H C fp) elt te)
  (hsw:swapsWith (.ListComp elt [⟨tg,iter,ifs,0⟩] scope pos) (some (.Name x0 py)) spos.line X.env=pure true:=by rfl)
  (hf0:X.fn x0=true\/X.env.scope.names.lookup x0=some .local:=by first | exact .inl rfl | exact .inr rfl | assumption)
  (hs:∀ x,foldedSetIterable iter X.env x=pure x:=by intro _;rfl):IS K X (.Assign [.Name x0 py] (.ListComp elt [⟨tg,iter,ifs,0⟩] scope pos) spos) (bt (.nm i0) (aD (iLc k js fi g tt te)))/\
   IS K X (.Assign [.Name x0 py] (.ListComp elt [⟨tg,iter,ifs,0⟩] scope pos) spos) (bt (.nm i0) (oi (iLc k js fi g tt te))):=by
 have key:∀ env st r0 r,iLc k js fi g tt te env st=some r->(∀ σ φ H (D:mO),Er K H φ env σ->Sr K H φ st->qu K φ H D r0->∀ a vs H1 φ',Fw φ φ' H H1->Sr K H1 φ' r.2->H1 a=none->Rls K H1 φ' r.1 vs->D.nx (σ.set i0 (some (.ref a))) (upd H1 a (.lst vs)))->
   PS X (.Assign [.Name x0 py] (.ListComp elt [⟨tg,iter,ifs,0⟩] scope pos) spos) (tS K env st r0):=by
  intro env st r0 r hr h
  simp only [iLc,Option.bind_eq_some_iff] at hr
  obtain⟨⟨ds,s1⟩,hy,hr⟩:=hr
  have hr':(if ds.length<=1000000 then lcI g tt te (gh k js env) ds s1 else none)=some r:=hr
  by_cases hdn:¬ ds.length<=1000000
  ·rw [if_neg hdn] at hr';cases hr'
  have hdl:ds.length<=1000000:=by lia
  rw [if_pos hdl] at hr'
  refine (wX hN0 hi0 hx0 S hc (hi.run _ _ _ hy) hg (λcells s H C fp=>(ht cells s H C fp).run) (λcells s H C fp=>(he cells s H C fp).any) hsw hf0 hs).imp ?_
  rintro D σ H ⟨φ,hE,hS,q⟩
  exact qY hgi hdl hr' σ H _ ⟨φ,hE,hS,h σ φ H D hE hS q⟩
 constructor
 ·refine⟨λenv st r hr=>?_⟩
  simp only [bt,aD,fk,Option.bind_eq_some_iff,Option.map_eq_some_iff] at hr
  obtain⟨y,⟨r2,hy,rfl⟩,e',ee,rfl⟩:=hr
  cases ee
  refine key _ _ _ _ hy λσ φ H D hE hS q a vs H1 φ1 f1 s1 n1 w1=>?_
  exact q _ _ φ1 (f1.trans (Fw.new n1)) ((((hE.fw hS f1).fw s1 (Fw.new n1))).set i0 (w:=.d (.lst r2.1)) ⟨a,vs,rfl,s1.nin n1,.inl ay,w1.fw s1 (Fw.new n1)⟩) (s1.new n1)
 ·refine⟨λenv st r hr=>?_⟩
  simp only [bt,oi,fk,Option.bind_eq_some_iff,Option.map_eq_some_iff] at hr
  obtain⟨y,⟨r2,hy,rfl⟩,e',ee,rfl⟩:=hr
  cases ee
  refine key _ _ _ _ hy λσ φ H D hE hS q a vs H1 φ1 f1 s1 n1 w1=>?_
  exact q _ _ (φ1++[a]) (f1.trans (Fw.more n1)) (((hE.fw hS f1).fw s1 (Fw.more n1)).set i0 (w:=.h r2.2.length) ⟨a,by rw [<-s1.len];simp,rfl⟩) (s1.more n1 w1)
end
end L2
namespace L2
open PySem PySem.Spec PyProof.Rows
noncomputable def bK (n k:Nat) (b:Sf):Fn
 | ws,st=>if ws.length=k then (b (ws.map some++List.replicate (n - k) none) st).bind λr=>match r with
 | .nx _ s=>some (.d .non,s)
 | .rt w s=>some (w,s)
 | _=>none
 else none
noncomputable def tm (n:Nat) (w:W) (s:Sto):Option (W×Sto):=match w with
 | .d x=>some (.d x,s.take n)
 | .h m=>if m < n then some (.h m,s.take n) else (lg s m).map λds=>(.d (.lst ds),s.take n)
noncomputable def se (n k:Nat) (b:Sf):Fn
 | ws,st=>if ws.length=k then (b (ws.map some++List.replicate (n - k) none) st).bind λr=>match r with
 | .nx _ s=>some (.d .non,s.take st.length)
 | .rt w s=>tm st.length w s
 | _=>none
 else none
section
variable {P:Program}{w:World}{K:PySem.W.Frag}{mg:Str->Option Value}{base:Heap}
theorem jZ {H:Hp}{φ:List Addr}{N:List Str}{k:Nat}:∀ {ws:List W}{vs:List V},Rws K H φ ws vs->ws.length=k->Er K H φ (ws.map some++List.replicate (N.length - k) none) (start N vs):=by
 intro ws vs r hk
 have hl:=r.length
 refine⟨by unfold start;simp;lia,λi x e=>?_⟩
 unfold start
 by_cases hi:i < ws.length
 ·rw [List.getElem?_append_left (by simpa using hi),List.getElem?_map,Option.map_eq_some_iff] at e
  obtain⟨y,ey,e⟩:=e
  have:∃ v,vs[i]?=some v/\Rw K H φ y v:=by
   clear hk hl hi e
   induction ws generalizing vs i with
   | nil=>simp at ey
   | cons w ws ih=>
    obtain⟨v,r',rfl,r1,r2⟩:=r
    cases i with
    | zero=>simp at ey;subst ey;exact⟨v,rfl,r1⟩
    | succ i=>simpa using ih r2 i (by simpa using ey)
  obtain⟨v,ev,rv⟩:=this
  cases e
  refine⟨v,?_,rv⟩
  rw [List.getElem?_append_left (by rw [List.length_map,<-hl];exact hi),List.getElem?_map,ev];rfl
 ·rw [List.getElem?_append_right (by simpa using hi)] at e
  have:=List.mem_of_getElem? e
  have:=(List.mem_replicate.mp this).2
  cases this
theorem fm {x qual:Str}{st:Stmt}{f:Addr}{fd:FuncData}{N ps:List Str}{k:Nat}{b:Sf} (F:Fun K x qual st f fd) (S:aB N ps (aj st))
  (hb:∀ (cdv:Value) (A:Around) (outer:List Env) (s:Shared) (H:Hp) (E:XK),bY k (A.deeper (envOfC qual (aj st) s.heap.objs.size f cdv))->ISs K (ip CX0 P w K mg base N qual (aj st) f cdv A outer s H E).nox (cE st) b) :
  bv P w K mg base CX0 (k+1) f fd ps (spI K (bK N.length ps.length b)):=by
 refine F.ok S (λvs H Q E h=>?_) λcdv A outer s H vs Q E hr h=>?_
 ·obtain⟨φ,st,ws,r,e,rw,_⟩:=h
  rw [bK] at e
  by_cases hl:ws.length=ps.length
  ·rw [<-rw.length,hl]
  ·rw [if_neg hl] at e;cases e
 ·obtain⟨φ,st',ws,r,e,rw,S',q⟩:=h
  rw [bK] at e
  by_cases hl:ws.length=ps.length
  ·rw [if_pos hl] at e
   obtain⟨fl,e1,e2⟩:=Option.bind_eq_some_iff.mp e
   refine⟨_,(hb cdv A outer s H E hr).run _ _ _ e1,φ,jZ rw hl,S',?_⟩
   cases fl with
   | nx e s=>cases e2;exact λσ' H' φ' f' e' s'=>q .non H' φ' f' s' rfl
   | rt w s=>cases e2;exact λv H' φ' f' s' w'=>q v H' φ' f' s' w'
   | bk e s=>cases e2
   | ct e s=>cases e2
  ·rw [if_neg hl] at e;cases e
theorem Fw.less {φ φ':List Addr}{H H':Hp} (f:Fw φ φ' H H'):Fw φ φ H H':=⟨⟨[],by simp,by simp⟩,f.keep,f.there⟩
theorem xI {x qual:Str}{st:Stmt}{f:Addr}{fd:FuncData}{N ps:List Str}{k:Nat}{b:Sf} (F:Fun K x qual st f fd) (S:aB N ps (aj st))
  (hb:∀ (cdv:Value) (A:Around) (outer:List Env) (s:Shared) (H:Hp) (E:XK),bY k (A.deeper (envOfC qual (aj st) s.heap.objs.size f cdv))->ISs K (ip CX0 P w K mg base N qual (aj st) f cdv A outer s H E).nox (cE st) b) :
  bv P w K mg base CX0 (k+1) f fd ps (spI K (se N.length ps.length b)):=by
 refine F.ok S (λvs H Q E h=>?_) λcdv A outer s H vs Q E hr h=>?_
 ·obtain⟨φ,st,ws,r,e,rw,_⟩:=h
  rw [se] at e
  by_cases hl:ws.length=ps.length
  ·rw [<-rw.length,hl]
  ·rw [if_neg hl] at e;cases e
 ·obtain⟨φ,st',ws,r,e,rw,S',q⟩:=h
  rw [se] at e
  by_cases hl:ws.length=ps.length
  ·rw [if_pos hl] at e
   obtain⟨fl,e1,e2⟩:=Option.bind_eq_some_iff.mp e
   refine⟨_,(hb cdv A outer s H E hr).run _ _ _ e1,φ,jZ rw hl,S',?_⟩
   have less:∀ {H':Hp}{φ':List Addr}{s':Sto},Fw φ φ' H H'->Sr K H' φ' s'->Sr K H' φ (s'.take st'.length):=λ{H' φ' s'} f' S2=>by
    obtain⟨ψ,rfl,_⟩:=f'.ext
    rw [<-S'.len]
    exact S2.less
   cases fl with
   | nx e s=>cases e2;exact λσ' H' φ' f' e' s'=>q .non H' φ f'.less (less f' s') rfl
   | rt w s=>
    intro v H' φ' f' s' w'
    have e3:tm st'.length w s=some r:=e2
    obtain⟨ψ,eψ,_⟩:=f'.ext
    cases w with
    | d x=>
     cases e3
     subst eψ
     exact q v H' φ f'.less (less f' s') (Rl.less w')
    | h m=>
     obtain⟨a,ea,rfl⟩:=w'
     unfold tm at e3
     by_cases hm:m < st'.length
     ·have e4:some (W.h m,s.take st'.length)=some r:=by
       have:=e3
       simp only [hm,if_true] at this
       exact this
      cases e4
      subst eψ
      rw [List.getElem?_append_left (by rw [S'.len];exact hm)] at ea
      exact q _ H' φ f'.less (less f' s') ⟨a,ea,rfl⟩
     ·simp only [hm,if_false] at e3
      obtain⟨ds,eds,rfl⟩:=Option.map_eq_some_iff.mp e3
      obtain⟨vs,hv,rl⟩:=s'.atl m a ds ea eds
      have hn:a ∉ φ:=λz=>by
       obtain⟨i,hi,ei⟩:=List.mem_iff_getElem.mp z
       have h1:φ'[i]?=some a:=by subst eψ;rw [List.getElem?_append_left hi,List.getElem?_eq_getElem hi,ei]
       obtain⟨h2,h2'⟩:=List.getElem?_eq_some_iff.mp h1
       obtain⟨h3,h3'⟩:=List.getElem?_eq_some_iff.mp ea
       have:=(List.getElem_inj s'.nd).mp (h2'.trans h3'.symm)
       rw [S'.len] at hi
       lia
      subst eψ
      exact q _ H' φ f'.less (less f' s') ⟨a,vs,rfl,hn,.inl hv,rl.less⟩
   | bk e s=>cases e2
   | ct e s=>cases e2
  ·rw [if_neg hl] at e;cases e
end
noncomputable def j5:D->Bool
 | .non=>true
 | .bl _=>true
 | .int _=>true
 | .str _=>true
 | _=>false
noncomputable def vOf:D->V
 | .bl b=>.bl b
 | .int i=>.int i
 | .str x=>.str x
 | _=>.non
mutual
noncomputable def eqD:D->D->Bool
 | .non,.non=>true
 | .bl a,.bl b=>a==b
 | .bl a,.int b=>(if a then 1 else 0)==b
 | .int a,.bl b=>a==(if b then 1 else 0)
 | .int a,.int b=>a==b
 | .str a,.str b=>a==b
 | .tup as,.tup bs=>gN as bs
 | .lst as,.lst bs=>gN as bs
 | _,_=>false
noncomputable def gN:List D->List D->Bool
 | [],[]=>true
 | a::as,b::bs=>eqD a b && gN as bs
 | _,_=>false
end
noncomputable def okD:Nat->D->Bool
 | _,.non=>true
 | _,.bl _=>true
 | _,.int _=>true
 | _,.str _=>true
 | n+1,.tup ds=>ds.all (okD n)
 | n+1,.lst ds=>ds.all (okD n)
 | _,_=>false
noncomputable def lsD (st:Sto):W->Option (List D)
 | .d (.lst ds)=>some ds
 | .h n=>lg st n
 | _=>none
noncomputable def dr (st:Sto) (x y:W):Option D:=match x,y with
 | .d (.int i),.d (.int j)=>some (.int (i+j))
 | .d (.tup a),.d (.tup b)=>if a.length+b.length<=1000000 then some (.tup (a++b)) else none
 | .d (.str a),.d (.str b)=>if a.length+b.length<=1000000 then some (.str (a++b)) else none
 | x,y=>(lsD st x).bind λa=>(lsD st y).bind λb=>if a.length+b.length<=1000000 then some (.lst (a++b)) else none
noncomputable def oh (_:Sto):W->W->Option D
 | .d (.int i),.d (.int j)=>some (.int (i - j))
 | _,_=>none
instance (a b:Int):Decidable (IntMulOk a b):=by unfold IntMulOk;infer_instance
noncomputable def dL (_:Sto):W->W->Option D
 | .d (.int i),.d (.int j)=>if IntMulOk i j then some (.int (i*j)) else none
 | .d (.tup a),.d (.int k)=>if a≠[]/\a.length<=1000/\0<=k/\k < 1000 then some (.tup (List.replicate k.toNat a).flatten) else none
 | .d (.lst a),.d (.int k)=>if a.length<=1000/\-1000<=k/\k < 1000 then some (.lst (List.replicate k.toNat a).flatten) else none
 | _,_=>none
noncomputable def jX (_:Sto):W->W->Option D
 | .d (.int i),.d (.int j)=>if 0 < j/\j < 1073741824 then some (.int (i / j)) else none
 | _,_=>none
noncomputable def iu (_:Sto):W->W->Option D
 | .d (.int i),.d (.int j)=>if 0 < j then some (.int (i % j)) else none
 | _,_=>none
instance (i j:Int):Decidable (lK i j):=by unfold lK;infer_instance
noncomputable def kW (_:Sto):W->W->Option D
 | .d (.int i),.d (.int j)=>if lK i j then some (.int (i ^ j.toNat)) else none
 | _,_=>none
noncomputable def og (_:Sto):W->W->Option D
 | .d (.int i),.d (.int j)=>if lK i j then some (.int (i*2 ^ j.toNat)) else none
 | _,_=>none
noncomputable def sZ (_:Sto):W->W->Option D
 | .d (.int i),.d (.int j)=>if 0<=j then some (.int (i / 2 ^ j.toNat)) else none
 | _,_=>none
noncomputable def dLt (_:Sto):W->W->Option D
 | .d (.int i),.d (.int j)=>some (.bl (decide (i < j)))
 | _,_=>none
noncomputable def dGt (_:Sto):W->W->Option D
 | .d (.int i),.d (.int j)=>some (.bl (decide (j < i)))
 | _,_=>none
noncomputable def dGe (_:Sto):W->W->Option D
 | .d (.int i),.d (.int j)=>some (.bl (decide (j<=i)))
 | _,_=>none
section
variable {K:PySem.W.Frag}{X:Cx}
theorem jL {H:Hp}{φ:List Addr}{d:D}{v:V} (h:j5 d=true) (r:Rl K H φ d v):v=vOf d/\j6 v=true:=by
 cases d with
 | non=>cases (show v=.non from r);exact⟨rfl,rfl⟩
 | bl b=>cases (show v=.bl b from r);exact⟨rfl,rfl⟩
 | int b=>cases (show v=.int b from r);exact⟨rfl,rfl⟩
 | str b=>cases (show v=.str b from r);exact⟨rfl,rfl⟩
 | _=>cases h
theorem o9 {a b:D} (ha:j5 a=true) (hb:j5 b=true):eqV (vOf a) (vOf b)=eqD a b:=by
 cases a<;>cases b<;>first | rfl | (cases ha;done) | (cases hb;done) | (simp [eqV,vOf,eqD];done)
theorem fS {f:Value->Value->Sem Value}{g:Sto->W->W->Option D} (h:∀ st x y d,g st x y=some d->∃ i j,x=.d (.int i)/\y=.d (.int j)/\OpR X f (λvx vy H Q=>vx=.int i/\vy=.int j/\Q (vOf d) H)/\j5 d=true):OpD K X f g:=by
 refine⟨λst x y d hd=>?_⟩
 obtain⟨i,j,rfl,rfl,ho,hf⟩:=h st x y d hd
 refine ho.imp ?_
 rintro vx vy H Q ⟨φ,S,r1,r2,q⟩
 refine⟨r1,r2,q _ H (aZ.refl H) ?_⟩
 cases d<;>first | rfl | cases hf
theorem oB:OpD K X (binaryOp .Sub) oh:=fS λst x y d h=>by
 match x,y,h with
 | .d (.int i),.d (.int j),h=>cases h;exact⟨i,j,rfl,rfl,vD.imp λvx vy H Q ⟨a,b,q⟩=>⟨i,j,a,b,q⟩,rfl⟩
theorem uJ:OpD K X (compareOp .Lt) dLt:=fS λst x y d h=>by
 match x,y,h with
 | .d (.int i),.d (.int j),h=>cases h;exact⟨i,j,rfl,rfl,wP.imp λvx vy H Q ⟨a,b,q⟩=>⟨i,j,a,b,q⟩,rfl⟩
theorem nt:OpD K X (compareOp .Gt) dGt:=fS λst x y d h=>by
 match x,y,h with
 | .d (.int i),.d (.int j),h=>cases h;exact⟨i,j,rfl,rfl,wO.imp λvx vy H Q ⟨a,b,q⟩=>⟨i,j,a,b,q⟩,rfl⟩
theorem wL:OpD K X (compareOp .GtE) dGe:=fS λst x y d h=>by
 match x,y,h with
 | .d (.int i),.d (.int j),h=>cases h;exact⟨i,j,rfl,rfl,wN.imp λvx vy H Q ⟨a,b,q⟩=>⟨i,j,a,b,q⟩,rfl⟩
theorem jI:OpD K X (binaryOp .FloorDiv) jX:=fS λst x y d h=>by
 match x,y,h with
 | .d (.int i),.d (.int j),h=>
  simp only [jX] at h
  split at h
  ·rename_i hc
   cases h;exact⟨i,j,rfl,rfl,tW.imp λvx vy H Q ⟨a,b,q⟩=>⟨i,j,a,b,hc,q⟩,rfl⟩
  ·cases h
theorem fT:OpD K X (binaryOp .Mod) iu:=fS λst x y d h=>by
 match x,y,h with
 | .d (.int i),.d (.int j),h=>
  simp only [iu] at h
  split at h
  ·rename_i hc
   cases h;exact⟨i,j,rfl,rfl,vz.imp λvx vy H Q ⟨a,b,q⟩=>⟨i,j,a,b,hc,q⟩,rfl⟩
  ·cases h
theorem rp:OpD K X (binaryOp .Pow) kW:=fS λst x y d h=>by
 match x,y,h with
 | .d (.int i),.d (.int j),h=>
  simp only [kW] at h
  split at h
  ·rename_i hc
   cases h;exact⟨i,j,rfl,rfl,vA.imp λvx vy H Q ⟨a,b,q⟩=>⟨i,j,a,b,hc,q⟩,rfl⟩
  ·cases h
theorem rq:OpD K X (binaryOp .LShift) og:=fS λst x y d h=>by
 match x,y,h with
 | .d (.int i),.d (.int j),h=>
  simp only [og] at h
  split at h
  ·rename_i hc
   cases h;exact⟨i,j,rfl,rfl,vB.imp λvx vy H Q ⟨a,b,q⟩=>⟨i,j,a,b,hc,q⟩,rfl⟩
  ·cases h
theorem vq:OpD K X (binaryOp .RShift) sZ:=fS λst x y d h=>by
 match x,y,h with
 | .d (.int i),.d (.int j),h=>
  simp only [sZ] at h
  split at h
  ·rename_i hc
   cases h;exact⟨i,j,rfl,rfl,vC.imp λvx vy H Q ⟨a,b,q⟩=>⟨i,j,a,b,hc,q⟩,rfl⟩
  ·cases h
end
end L2
namespace L2
open PySem PySem.Spec PyProof.Rows
section
variable {K:PySem.W.Frag}{X:Cx}
theorem tU:OpR X (binaryOp .Add) (λx y H Q=>∃ l b xs zs,x=.ref l/\y=.ref b/\Rd H l (.lst xs)/\Rd H b (.lst zs)/\xs.length+zs.length<=sizeLine/\∀ p,H p=none->Q (.ref p) (upd H p (.lst (xs++zs)))):=by
 intro pins s σ H x y v u Q I rx ry h
 obtain⟨l,b,xs,zs,rfl,rfl,hH,hB,hz,q⟩:=h
 cases rx
 cases ry
 obtain⟨z,its,n,r,e⟩:=hH.ok I.hok
 obtain⟨z2,its2,n2,r2,e2⟩:=hB.ok I.hok
 have hl:=r.length
 have hl2:=r2.length
 refine PySem.P.add_list e e2 ?_ (by rw [List.size_toArray,List.size_toArray];lia)
 have ea:its.toArray++its2.toArray=(its++its2).toArray:=by simp
 rw [ea]
 exact⟨.ref _,_,I.lnew (t':=s.toks) (r.append r2) (by rw [List.length_append];lia),rfl,q _ I.fresh⟩
theorem rz:OpR X (binaryOp .Add) (λx y H Q=>∃ a b xs ys,x=.ref a/\y=.ref b/\SqT X.K H a xs/\SqT X.K H b ys/\xs.length+ys.length<=sizeLine/\
  (xs=[]->Q (.ref b) H)/\(ys=[]->Q (.ref a) H)/\∀ p,H p=none->Q (.ref p) (upd H p (.tup (xs++ys)))):=by
 intro pins s σ H x y v u Q I rx ry h
 obtain⟨a,b,xs,ys,rfl,rfl,ha,hb,hz,q0,q1,q2⟩:=h
 by_cases hx:xs=[]
 ·cases rx
  cases ry
  obtain⟨its,r1,p1,_⟩:=I.tuple ha
  obtain⟨its2,r2,p2,_⟩:=I.tuple hb
  obtain⟨⟨cls,dd,data,sl⟩,ho,hc,n,hd⟩:=id p1
  obtain⟨⟨cls2,dd2,data2,sl2⟩,ho2,hc2,n2,hd2⟩:=id p2
  simp only at hc hd hc2 hd2
  subst hc hd hc2 hd2
  exact concat_meets ⟨_,ho,rfl⟩ ⟨_,ho2,rfl⟩ noFill_tuple_add seq_tuple_add PySem.F.slot_tuple_add PySem.F.entry_tuple_add (PySem.F.args_tuple_add_2 _ _)
   (tuple_addW0 a b its.toArray its2.toArray n n2 dd dd2 sl sl2 (by simp [r1.nil_iff.mpr hx])) ⟨ho,ho2,.ref b,H,I,rfl,q0 hx⟩
 ·exact tV pins s σ H _ _ v u Q I rx ry ⟨a,b,xs,ys,rfl,rfl,ha,hb,hx,hz,q1,λ_ p hp=>q2 p hp⟩
theorem mi {st:Sto}{H:Hp}{φ:List Addr}{w:W}{v:V}{ds:List D} (S:Sr K H φ st) (r:Rw K H φ w v) (e:lsD st w=some ds):∃ a vs,v=.ref a/\Rd H a (.lst vs)/\Rls K H φ ds vs:=by
 cases w with
 | h n=>
  obtain⟨a,ea,rfl⟩:=r
  obtain⟨vs,q,rl⟩:=S.atl n a ds ea e
  exact⟨a,vs,rfl,.inl q,rl⟩
 | d x=>
  cases x with
  | lst es=>cases e;obtain⟨a,vs,rfl,h0,h1,h2⟩:=r;exact⟨a,vs,rfl,h1,h2⟩
  | _=>cases e
theorem mil:(1000000:Nat)<=sizeLine:=by rw [sizeLine_eq];decide
theorem cY (hK:X.K=K:=by rfl):OpD K X (binaryOp .Add) dr:=by
 subst hK
 refine⟨λst x y d h=>?_⟩
 have lists:(lsD st x).bind (λa=>(lsD st y).bind λb=>if a.length+b.length<=1000000 then some (.lst (a++b)) else none)=some d->OpR X (binaryOp .Add) (rD X.K st x y d):=λh=>by
  simp only [Option.bind_eq_some_iff] at h
  obtain⟨as,ha,bs,hb,h⟩:=h
  split at h
  ·rename_i hl
   cases h
   refine tU.imp ?_
   rintro vx vy H Q ⟨φ,S,r1,r2,q⟩
   obtain⟨a,us,rfl,h1,h2⟩:=mi S r1 ha
   obtain⟨b,vs,rfl,h3,h4⟩:=mi S r2 hb
   refine⟨a,b,us,vs,rfl,rfl,h1,h3,by rw [<-h2.length,<-h4.length];exact Nat.le_trans hl mil,λp hp=>q _ _ (aZ.new hp _) ?_⟩
   exact⟨p,_,rfl,S.nin hp,.inl ay,(h2.append h4).fw S (Fw.new hp)⟩
  ·cases h
 match x,y,h with
 | .d (.int i),.d (.int j),h=>
  cases h
  refine vw.imp ?_
  rintro vx vy H Q ⟨φ,S,r1,r2,q⟩
  exact⟨i,j,r1,r2,q _ H (aZ.refl H) rfl⟩
 | .d (.tup as),.d (.tup bs),h=>
  simp only [dr] at h
  split at h
  ·rename_i hl
   cases h
   refine rz.imp ?_
   rintro vx vy H Q ⟨φ,S,⟨a,us,rfl,h1,h2⟩,⟨b,vs,rfl,h3,h4⟩,q⟩
   refine⟨a,b,us,vs,rfl,rfl,(SqT.of h1),(SqT.of h3),by rw [<-h2.length,<-h4.length];exact Nat.le_trans hl mil,λe=>?_,λe=>?_,λp hp=>?_⟩
   ·subst e
    have:as=[]:=by cases as with | nil=>rfl | cons _ _=>cases h2.length
    subst this
    exact q _ H (aZ.refl H) ⟨b,vs,rfl,h3,h4⟩
   ·subst e
    have:bs=[]:=by cases bs with | nil=>rfl | cons _ _=>cases h4.length
    subst this
    exact q _ H (aZ.refl H) ⟨a,us,rfl,h1,by rw [List.append_nil];exact h2⟩
   ·exact q _ _ (aZ.new hp _) ⟨p,_,rfl,ay,(h2.append h4).fw S (Fw.new hp)⟩
  ·cases h
 | .d (.str as),.d (.str bs),h=>
  simp only [dr] at h
  split at h
  ·rename_i hl
   cases h
   refine oG.imp ?_
   rintro vx vy H Q ⟨φ,S,r1,r2,q⟩
   exact⟨as,bs,r1,r2,Nat.le_trans hl mil,q _ H (aZ.refl H) rfl⟩
  ·cases h
 | .d (.lst as),y,h=>exact lists (by cases y with | h n=>exact h | d y=>cases y<;>exact h)
 | .h n,y,h=>exact lists (by cases y with | h n=>exact h | d y=>cases y<;>exact h)
theorem tZ:OpR X (binaryOp .Mult) (λx y H Q=>∃ l k xs,x=.ref l/\y=.int k/\Rd H l (.lst xs)/\-(2 ^ 63)<=k/\k < 2 ^ 63/\xs.length*k.toNat<=sizeLine/\
 ∀ p,H p=none->Q (.ref p) (upd H p (.lst (List.replicate k.toNat xs).flatten))):=by
 intro pins s σ H x y v u Q I rx ry h
 obtain⟨l,k,xs,rfl,rfl,hH,h1,h2,hz,q⟩:=h
 cases rx
 obtain⟨t,rfl⟩:=ry
 obtain⟨z,its,n,r,e⟩:=hH.ok I.hok
 have hl:=r.length
 have hlen:its.toArray.size*k.toNat<=sizeLine:=by rw [List.size_toArray,<-hl];exact hz
 have hcap:¬ its.toArray.size*k.toNat > (2 ^ 63 - 1) / 8:=by
  have:(sizeLine:Nat)<=(2 ^ 63 - 1) / 8:=by decide
  lia
 have hfit:¬ (!Builtin.List.listFitsIndex k)=true:=by
  rw [fitsIndex_both h1 h2]
  exact Bool.false_ne_true
 have hlong:¬ Builtin.List.listTooLong (its.toArray.size*k.toNat)=true:=by
  rw [rj hlen]
  exact Bool.false_ne_true
 have hnew:List.foldl (λx1 x2=>x1++x2) #[] (List.replicate (if its.toArray.isEmpty=true then 0 else k.toNat) its.toArray)=(List.replicate k.toNat its).flatten.toArray:=by
  have f0:∀ m:Nat,List.foldl (λx1 x2=>x1++x2) #[] (List.replicate m its.toArray)=(List.replicate m its).flatten.toArray:=λm=>by
   have:=iZ its m []
   rw [List.nil_append] at this
   exact this
  rw [f0]
  cases its with
  | nil=>simp
  | cons a r'=>rw [if_neg (by simp)]
 refine wpAny_binaryOp_repeat_ref (T:="list") (U:="int") (by decide) ⟨_,e,rfl⟩ (λs'=>typeIs_int s' k t) noFill_list_mul F.fills_int_mul F.slot_int_rmul repeat_list F.slot_int_index.lookup
  (call_meets F.slot_int_rmul (typeIs_int s k t) F.entry_int_rmul (F.args_int_rmul_2 _ _) (int___rmul___int_list k t l its.toArray n)
    ⟨e,rfl,⟨_,e,rfl⟩,call_meets F.slot_list_mul ⟨_,e,rfl⟩ F.entry_list_mul (F.args_list_mul_2 _ _) (AutoListH.list___mul___list_int_3 l its.toArray n k t hfit hcap hlong) ⟨e,?_⟩⟩)
 rw [hnew]
 exact⟨.ref _,_,I.lnew (t':=s.toks) (r.rep k.toNat) (by rw [mf,Nat.mul_comm];exact hz),rfl,q _ I.fresh⟩
theorem dg (hK:X.K=K:=by rfl):OpD K X (binaryOp .Mult) dL:=by
 subst hK
 refine⟨λst x y d h=>?_⟩
 match x,y,h with
 | .d (.int i),.d (.int j),h=>
  simp only [dL] at h
  split at h
  ·rename_i hl
   cases h
   refine tY.imp ?_
   rintro vx vy H Q ⟨φ,S,r1,r2,q⟩
   exact⟨i,j,r1,r2,hl,q _ H (aZ.refl H) rfl⟩
  ·cases h
 | .d (.tup as),.d (.int k),h=>
  simp only [dL] at h
  split at h
  ·rename_i hl
   cases h
   refine t3.imp ?_
   rintro vx vy H Q ⟨φ,S,⟨a,us,rfl,h1,h2⟩,r2,q⟩
   have hne:us≠[]:=by rintro rfl;cases as with | nil=>exact hl.1 rfl | cons _ _=>cases h2.length
   refine⟨a,k,us,rfl,r2,(SqT.of h1),hne,by rw [<-h2.length];exact hl.2.1,hl.2.2.1,hl.2.2.2,λe=>?_,λ_ p hp=>?_⟩
   ·subst e
    exact q _ H (aZ.refl H) ⟨a,us,rfl,h1,by simpa using h2⟩
   ·exact q _ _ (aZ.new hp _) ⟨p,_,rfl,ay,(h2.rep _).fw S (Fw.new hp)⟩
  ·cases h
 | .d (.lst as),.d (.int k),h=>
  simp only [dL] at h
  split at h
  ·rename_i hl
   cases h
   refine tZ.imp ?_
   rintro vx vy H Q ⟨φ,S,⟨a,us,rfl,h0,h1,h2⟩,r2,q⟩
   refine⟨a,k,us,rfl,r2,h1,by lia,by lia,?_,λp hp=>?_⟩
   ·rw [<-h2.length]
    have:as.length*k.toNat<=1000*1000:=Nat.mul_le_mul hl.1 (by lia)
    exact Nat.le_trans this mil
   ·exact q _ _ (aZ.new hp _) ⟨p,_,rfl,S.nin hp,.inl ay,(h2.rep _).fw S (Fw.new hp)⟩
  ·cases h
noncomputable def dIx (st:Sto) (x y:W):Option D:=match x,y with
 | .d (.str z),.d (.int i)=>if z.length<=1000000 then (atI z.cps.toList i).map λc=>.str ⟨#[c]⟩ else none
 | x,.d (.int i)=>(eD st x).bind λds=>atI ds i
 | _,_=>none
theorem uV {H:Hp}{φ:List Addr}{ds:List D}{vs:List V}{i:Int}{d:D} (r:Rls K H φ ds vs) (e:atI ds i=some d):∃ v,atI vs i=some v/\Rl K H φ d v:=by
 unfold atI at e ⊢
 rw [<-r.length]
 obtain⟨j,e1,e2⟩:=Option.bind_eq_some_iff.mp e
 obtain⟨v,ev,rv⟩:=r.get e2
 exact⟨v,by rw [e1];exact ev,rv⟩
theorem IxR.imp {r r':R2} (h:IxR X r) (m:∀ x y H Q,r' x y H Q->r x y H Q):IxR X r':=λvalue slice pins s σ H x y v u Q I rx ry q hs=>h value slice pins s σ H x y v u Q I rx ry (m _ _ _ _ q) hs
theorem xC (st:Sto) (x y:W) (d:D) (h:dIx st x y=some d) (hK:X.K=K):IxR X (rD K st x y d):=by
 subst hK
 match y,h with
 | .d (.int i),h=>
  have seq:(eD st x).bind (λds=>atI ds i)=some d->IxR X (rD X.K st x (.d (.int i)) d):=λh=>by
   obtain⟨ds,e1,e2⟩:=Option.bind_eq_some_iff.mp h
   refine qP.imp ?_
   rintro vx vy H Q ⟨φ,S,r1,r2,q⟩
   obtain⟨a,vs,rfl,h1,h2⟩:=mE S r1 e1
   obtain⟨v,ev,rv⟩:=uV h2 e2
   rcases h1 with h1 | h1
   ·exact .inl ⟨a,vs,i,v,rfl,r2,h1,ev,q _ H (aZ.refl H) rv⟩
   ·exact .inr (.inl ⟨a,vs,i,v,rfl,r2,h1,ev,q _ H (aZ.refl H) rv⟩)
  match x,h with
  | .d (.str z),h=>
   simp only [dIx] at h
   split at h
   ·rename_i hl
    obtain⟨c,e1,rfl⟩:=Option.map_eq_some_iff.mp h
    refine qP.imp ?_
    rintro vx vy H Q ⟨φ,S,r1,r2,q⟩
    exact .inr (.inr ⟨z,i,c,r1,r2,Nat.le_trans hl mil,e1,q _ H (aZ.refl H) rfl⟩)
   ·cases h
  | .d (.tup z),h=>exact seq h
  | .d (.lst z),h=>exact seq h
  | .d (.scr z),h=>exact seq h
  | .h z,h=>exact seq h
 | .d .non,h=>cases x with | h n=>cases h | d x=>cases x<;>cases h
 | .d (.ob _ _),h=>cases x with | h n=>cases h | d x=>cases x<;>cases h
 | .d (.bl _),h=>cases x with | h n=>cases h | d x=>cases x<;>cases h
 | .d (.str _),h=>cases x with | h n=>cases h | d x=>cases x<;>cases h
 | .d (.ty _),h=>cases x with | h n=>cases h | d x=>cases x<;>cases h
 | .d (.scr _),h=>cases x with | h n=>cases h | d x=>cases x<;>cases h
 | .d .dct,h=>cases x with | h n=>cases h | d x=>cases x<;>cases h
 | .d (.tup _),h=>cases x with | h n=>cases h | d x=>cases x<;>cases h
 | .d (.lst _),h=>cases x with | h n=>cases h | d x=>cases x<;>cases h
 | .h _,h=>cases x with | h n=>cases h | d x=>cases x<;>cases h
variable {e a b:Expr}{pos p2:Pos}{f fa fb:Ef}
theorem cw (ha:IE K X a fa) (hb:IE K X b fb) (hs:mv b=true:=by rfl) (hK:X.K=K:=by rfl):IE K X (.Subscript a b pos) (iOp dIx fa fb):=by
 refine⟨λenv st r hr=>?_⟩
 simp only [iOp,Option.bind_eq_some_iff,Option.map_eq_some_iff] at hr
 obtain⟨x,hx,y,hy,d,hd,rfl⟩:=hr
 exact (wT (xC _ _ _ _ hd hK) (ha.run _ _ _ hx) (hb.run _ _ _ hy) (qO hs)).imp λσ H Q h=>mI h
end
end L2
namespace L2
open PySem PySem.Spec PyProof.Rows
section
variable {K:PySem.W.Frag}{X:Cx}{pins:List (Addr×Obj)}{σ:St}{H:Hp}{s:Shared}{φ:List Addr}{st:Sto}
theorem d4:∀ (xs ys:List D),((List.range (min xs.length ys.length)).all (λj=>eqD (xs.getD j .non) (ys.getD j .non)) && xs.length==ys.length)=gN xs ys
 | [],[]=>rfl
 | [],y::ys=>by simp [gN]
 | x::xs,[]=>by simp [gN]
 | x::xs,y::ys=>by
  show ((List.range (min (xs.length+1) (ys.length+1))).all (λj=>eqD ((x::xs).getD j .non) ((y::ys).getD j .non)) && (xs.length+1==ys.length+1))=(eqD x y && gN xs ys)
  rw [show min (xs.length+1) (ys.length+1)=min xs.length ys.length+1 by lia,jN,<-d4 xs ys]
  have e:(xs.length+1==ys.length+1)=(xs.length==ys.length):=by rw [Bool.eq_iff_iff];simp
  rw [e,Bool.and_assoc]
  rfl
theorem gR {xs ys:List D} (h:xs.length=ys.length):(List.range xs.length).all (λj=>eqD (xs.getD j .non) (ys.getD j .non))=gN xs ys:=by
 rw [<-d4 xs ys,<-h,Nat.min_self];simp
theorem mT:∀ {xs ys:List D},xs.length≠ys.length->gN xs ys=false
 | [],[],h=>absurd rfl h
 | [],_::_,_=>rfl
 | _::_,[],_=>rfl
 | x::xs,y::ys,h=>by
  show (eqD x y && gN xs ys)=false
  rw [mT (by intro e;apply h;rw [List.length_cons,List.length_cons,e]),Bool.and_false]
theorem uf (I:Inv X pins σ H s) {a:Addr}{vs ws:List V} (h:Rd H a (.lst vs)) (h':Rd H a (.lst ws)):vs=ws:=I.list_inj (.inl h) (.inl h')
theorem o8 (I:Inv X pins σ H s):∀ (n:Nat) {d e:D}{v:V},Rl X.K H φ d v->Rl X.K H φ e v->okD n d=true->okD n e=true->eqD d e=true:=by
 intro n
 induction n with
 | zero=>
  intro d e v r1 r2 o1 o2
  cases d<;>first | (cases o1;done) | skip
  all_goals (cases e<;>first | (cases o2;done) | skip)
  all_goals (first | rfl | (cases r1.symm.trans r2;done) | (cases r1.symm.trans r2;simp [eqD]))
 | succ n ih=>
  have lists:∀ {ds es:List D}{vs:List V},Rls X.K H φ ds vs->Rls X.K H φ es vs->(∀ d ∈ ds,okD n d=true)->(∀ d ∈ es,okD n d=true)->gN ds es=true:=by
   intro ds
   induction ds with
   | nil=>
    intro es vs r1 r2 _ _
    cases r1
    cases es with
    | nil=>rfl
    | cons e es=>obtain⟨_,_,q,_⟩:=r2;cases q
   | cons d ds ihd=>
    intro es vs r1 r2 o1 o2
    obtain⟨v,r,rfl,a1,a2⟩:=r1
    cases es with
    | nil=>cases r2
    | cons e es=>
     obtain⟨v',r',q,b1,b2⟩:=r2
     cases q
     show (eqD d e && gN ds es)=true
     rw [ih a1 b1 (o1 d List.mem_cons_self) (o2 e List.mem_cons_self),ihd a2 b2 (λx hx=>o1 x (List.mem_cons_of_mem _ hx)) (λx hx=>o2 x (List.mem_cons_of_mem _ hx))]
     rfl
  intro d e v r1 r2 o1 o2
  cases d with
  | tup ds=>
   obtain⟨a,vs,rfl,h1,h2⟩:=r1
   cases e with
   | tup es=>
    obtain⟨b,us,q,h3,h4⟩:=r2
    cases q
    rw [I.tuple_inj (SqT.of h3) (SqT.of h1)] at h4
    exact lists h2 h4 (List.all_eq_true.mp o1) (List.all_eq_true.mp o2)
   | lst es=>
    obtain⟨b,us,q,_,h3,h4⟩:=r2
    cases q
    obtain⟨_,_,p1,_⟩:=I.tuple (SqT.of h1)
    obtain⟨_,_,p2,_⟩:=I.list (.inl h3)
    exact absurd rfl (SeqAt.ne_of_list_tuple p2.isList p1)
   | _=>first | (cases o2;done) | (cases r2;done)
  | lst ds=>
   obtain⟨a,vs,rfl,h0,h1,h2⟩:=r1
   cases e with
   | lst es=>
    obtain⟨b,us,q,_,h3,h4⟩:=r2
    cases q
    rw [uf I h3 h1] at h4
    exact lists h2 h4 (List.all_eq_true.mp o1) (List.all_eq_true.mp o2)
   | tup es=>
    obtain⟨b,us,q,h3,h4⟩:=r2
    cases q
    obtain⟨_,_,p1,_⟩:=I.tuple (SqT.of h3)
    obtain⟨_,_,p2,_⟩:=I.list (.inl h1)
    exact absurd rfl (SeqAt.ne_of_list_tuple p2.isList p1)
   | _=>first | (cases o2;done) | (cases r2;done)
  | non=>cases e<;>first | rfl | (cases o2;done) | (cases r1.symm.trans r2;done) | (cases r1;obtain⟨_,_,q,_⟩:=r2;cases q)
  | bl b=>cases e<;>first | (cases o2;done) | (cases r1.symm.trans r2;simp [eqD];done) | (cases r1.symm.trans r2;done) | (cases r1;obtain⟨_,_,q,_⟩:=r2;cases q)
  | int b=>cases e<;>first | (cases o2;done) | (cases r1.symm.trans r2;simp [eqD];done) | (cases r1.symm.trans r2;done) | (cases r1;obtain⟨_,_,q,_⟩:=r2;cases q)
  | str b=>cases e<;>first | (cases o2;done) | (cases r1.symm.trans r2;simp [eqD];done) | (cases r1.symm.trans r2;done) | (cases r1;obtain⟨_,_,q,_⟩:=r2;cases q)
  | ty b=>cases o1
  | scr b=>cases o1
  | dct=>cases o1
  | ob _ _=>cases o1
theorem dU {ds:List D}{vs:List V}{us:List Value} (r:Rls K H φ ds vs) (rv:aN vs us):∀ (j:Nat) (h:j < us.length),∃ v,Rl K H φ (ds.getD j .non) v/\aQ v us[j]/\ds.getD j .non ∈ ds:=by
 intro j h
 obtain⟨h',q⟩:=rv.at j h
 have hd:j < ds.length:=by rw [r.length];exact h'
 have e:ds[j]?=some ds[j]:=List.getElem?_eq_getElem hd
 obtain⟨v,ev,rl⟩:=r.get e
 rw [List.getElem?_eq_getElem h'] at ev
 cases ev
 refine⟨_,?_,q,?_⟩
 ·rw [List.getD,e];exact rl
 ·rw [List.getD,e];exact List.getElem_mem hd
theorem u5 (I:Inv X pins σ H s):∀ (n:Nat) {A:Around}{d e:D}{v u:V}{vv uu:Value},Rl X.K H φ d v->Rl X.K H φ e u->aQ v vv->aQ u uu->okD n d=true->okD n e=true->A.units+n < cLine->SeqAt.EqAt A s vv uu (eqD d e):=by
 have flat:∀ {A:Around}{d e:D}{v u:V}{vv uu:Value},j5 d=true->j5 e=true->Rl X.K H φ d v->Rl X.K H φ e u->aQ v vv->aQ u uu->SeqAt.EqAt A s vv uu (eqD d e):=by
  intro A d e v u vv uu f1 f2 r1 r2 q1 q2
  obtain⟨e1,g1⟩:=jL f1 r1
  obtain⟨e2,g2⟩:=jL f2 r2
  rw [<-o9 f1 f2,<-e1,<-e2]
  exact qF q1 q2 g1 g2
 intro n
 induction n with
 | zero=>
  intro A d e v u vv uu r1 r2 q1 q2 o1 o2 hu
  refine flat ?_ ?_ r1 r2 q1 q2
  ·cases d<;>first | rfl | cases o1
  ·cases e<;>first | rfl | cases o2
 | succ n ih=>
  intro A d e v u vv uu r1 r2 q1 q2 o1 o2 hu
  have hu0:A.units < cLine:=by lia
  have hu1:A.in1.units+n < cLine:=by show A.units+1+n < cLine;lia
  cases d with
  | tup ds=>
   obtain⟨a,vs,rfl,h1,h2⟩:=r1
   cases q1
   obtain⟨its,rv,p1,_⟩:=I.tuple (SqT.of h1)
   cases e with
   | tup es=>
    obtain⟨b,us,rfl,h3,h4⟩:=id r2
    cases q2
    by_cases hab:a=b
    ·subst hab
     rw [o8 I (n+1) (d:=.tup ds) ⟨a,vs,rfl,h1,h2⟩ r2 o1 o2]
     exact SeqAt.EqAt.same _
    ·obtain⟨its2,rv2,p2,_⟩:=I.tuple (SqT.of h3)
     have z:=SeqAt.RcAt.tuples (A:=A) (e:=λj=>eqD (ds.getD j .non) (es.getD j .non)) p1 p2 hu0 λj g1 g2=>by
      obtain⟨v1,k1,k2,k3⟩:=dU h2 rv j (by simpa using g1)
      obtain⟨v2,k4,k5,k6⟩:=dU h4 rv2 j (by simpa using g2)
      exact ih k1 k4 (by simpa using k2) (by simpa using k5) (List.all_eq_true.mp o1 _ k3) (List.all_eq_true.mp o2 _ k6) hu1
     have e1:its.toArray.size=ds.length:=by simp [<-rv.length,h2.length]
     have e2:its2.toArray.size=es.length:=by simp [<-rv2.length,h4.length]
     rw [e1,e2,d4] at z
     exact SeqAt.EqAt.of_refs hab z
   | lst es=>
    obtain⟨b,us,rfl,_,h3,h4⟩:=id r2
    cases q2
    obtain⟨its2,rv2,p2,_⟩:=I.list (.inl h3)
    exact SeqAt.EqAt.tuple_list p1 p2.isList hu0
   | non=>cases r2;cases q2;exact SeqAt.EqAt.tuple_none p1 hu0
   | bl x=>cases r2;cases q2;exact SeqAt.EqAt.tuple_bool x p1 hu0
   | int x=>cases r2;obtain⟨t,rfl⟩:=q2;exact SeqAt.EqAt.tuple_int x t p1 hu0
   | str x=>cases r2;obtain⟨t,rfl⟩:=q2;exact SeqAt.EqAt.tuple_str x t p1 hu0
   | ty _=>cases o2
   | scr _=>cases o2
   | dct=>cases o2
   | ob _ _=>cases o2
  | lst ds=>
   obtain⟨a,vs,rfl,h0,h1,h2⟩:=r1
   cases q1
   obtain⟨its,rv,p1,_⟩:=I.list (.inl h1)
   cases e with
   | lst es=>
    obtain⟨b,us,rfl,_,h3,h4⟩:=id r2
    cases q2
    by_cases hab:a=b
    ·subst hab
     rw [o8 I (n+1) (d:=.lst ds) ⟨a,vs,rfl,h0,h1,h2⟩ r2 o1 o2]
     exact SeqAt.EqAt.same _
    ·obtain⟨its2,rv2,p2,_⟩:=I.list (.inl h3)
     have e1:its.toArray.size=ds.length:=by simp [<-rv.length,h2.length]
     have e2:its2.toArray.size=es.length:=by simp [<-rv2.length,h4.length]
     by_cases hl:ds.length=es.length
     ·have z:=SeqAt.RcAt.lists (A:=A) (e:=λj=>eqD (ds.getD j .non) (es.getD j .non)) p1.isList p2.isList (by rw [e1,e2,hl]) hu0 λj g1 g2=>by
       obtain⟨v1,k1,k2,k3⟩:=dU h2 rv j (by simpa using g1)
       obtain⟨v2,k4,k5,k6⟩:=dU h4 rv2 j (by simpa using g2)
       exact ih k1 k4 (by simpa using k2) (by simpa using k5) (List.all_eq_true.mp o1 _ k3) (List.all_eq_true.mp o2 _ k6) hu1
      rw [e1,gR hl] at z
      exact SeqAt.EqAt.of_refs hab z
     ·have z:=SeqAt.RcAt.lists_lengths (A:=A) p1.isList p2.isList (by rw [e1,e2];simpa using hl) hu0
      show SeqAt.EqAt A s _ _ (gN ds es)
      rw [mT hl]
      exact SeqAt.EqAt.of_refs hab z
   | tup es=>
    obtain⟨b,us,rfl,h3,h4⟩:=id r2
    cases q2
    obtain⟨its2,rv2,p2,_⟩:=I.tuple (SqT.of h3)
    exact SeqAt.EqAt.list_tuple p1.isList p2 hu0
   | non=>cases r2;cases q2;exact SeqAt.EqAt.list_none p1.isList hu0
   | bl x=>cases r2;cases q2;exact SeqAt.EqAt.list_bool x p1.isList hu0
   | int x=>cases r2;obtain⟨t,rfl⟩:=q2;exact SeqAt.EqAt.list_int x t p1.isList hu0
   | str x=>cases r2;obtain⟨t,rfl⟩:=q2;exact SeqAt.EqAt.list_str x t p1.isList hu0
   | ty _=>cases o2
   | scr _=>cases o2
   | dct=>cases o2
   | ob _ _=>cases o2
  | non=>
   cases r1;cases q1
   cases e with
   | tup es=>obtain⟨b,us,rfl,h3,h4⟩:=r2;cases q2;obtain⟨_,_,p2,_⟩:=I.tuple (SqT.of h3);exact SeqAt.EqAt.none_tuple p2 hu0
   | lst es=>obtain⟨b,us,rfl,_,h3,h4⟩:=r2;cases q2;obtain⟨_,_,p2,_⟩:=I.list (.inl h3);exact SeqAt.EqAt.none_list p2.isList hu0
   | _=>first | (cases o2;done) | exact flat rfl rfl (d:=.non) rfl r2 (v:=.non) rfl q2
  | bl x=>
   cases r1;cases q1
   cases e with
   | tup es=>obtain⟨b,us,rfl,h3,h4⟩:=r2;cases q2;obtain⟨_,_,p2,_⟩:=I.tuple (SqT.of h3);exact SeqAt.EqAt.bool_tuple x p2 hu0
   | lst es=>obtain⟨b,us,rfl,_,h3,h4⟩:=r2;cases q2;obtain⟨_,_,p2,_⟩:=I.list (.inl h3);exact SeqAt.EqAt.bool_list x p2.isList hu0
   | _=>first | (cases o2;done) | exact flat rfl rfl (d:=.bl x) rfl r2 (v:=.bl x) rfl q2
  | int x=>
   cases r1;obtain⟨t1,rfl⟩:=q1
   cases e with
   | tup es=>obtain⟨b,us,rfl,h3,h4⟩:=r2;cases q2;obtain⟨_,_,p2,_⟩:=I.tuple (SqT.of h3);exact SeqAt.EqAt.int_tuple x t1 p2 hu0
   | lst es=>obtain⟨b,us,rfl,_,h3,h4⟩:=r2;cases q2;obtain⟨_,_,p2,_⟩:=I.list (.inl h3);exact SeqAt.EqAt.int_list x t1 p2.isList hu0
   | _=>first | (cases o2;done) | exact flat rfl rfl (d:=.int x) rfl r2 (v:=.int x) ⟨t1,rfl⟩ q2
  | str x=>
   cases r1;obtain⟨t1,rfl⟩:=q1
   cases e with
   | tup es=>obtain⟨b,us,rfl,h3,h4⟩:=r2;cases q2;obtain⟨_,_,p2,_⟩:=I.tuple (SqT.of h3);exact SeqAt.EqAt.str_tuple x t1 p2 hu0
   | lst es=>obtain⟨b,us,rfl,_,h3,h4⟩:=r2;cases q2;obtain⟨_,_,p2,_⟩:=I.list (.inl h3);exact SeqAt.EqAt.str_list x t1 p2.isList hu0
   | _=>first | (cases o2;done) | exact flat rfl rfl (d:=.str x) rfl r2 (v:=.str x) ⟨t1,rfl⟩ q2
  | ty _=>cases o1
  | scr _=>cases o1
  | dct=>cases o1
  | ob _ _=>cases o1
theorem vV {A:Around}{y x:V}{u v:Value} (ry:aQ y u) (rx:aQ x v) (fy:j6 y=true) (fx:j6 x=true):SeqAt.RcAt A s u v (eqV y x):=by
 cases y with
 | non=>
  cases ry
  cases x with
  | non=>cases rx;exact SeqAt.RcAt.none_none
  | bl b=>cases rx;exact SeqAt.RcAt.none_bool b
  | int b=>obtain⟨t,rfl⟩:=rx;exact SeqAt.RcAt.none_int b t
  | str b=>obtain⟨t,rfl⟩:=rx;exact SeqAt.RcAt.none_str b t
  | _=>cases fx
 | bl a=>
  cases ry
  cases x with
  | non=>cases rx;exact SeqAt.RcAt.bool_none a
  | bl b=>cases rx;exact SeqAt.RcAt.bool_bool a b
  | int b=>obtain⟨t,rfl⟩:=rx;exact SeqAt.RcAt.bool_int a b t
  | str b=>obtain⟨t,rfl⟩:=rx;exact SeqAt.RcAt.bool_str a b t
  | _=>cases fx
 | int a=>
  obtain⟨t',rfl⟩:=ry
  cases x with
  | non=>cases rx;exact SeqAt.RcAt.int_none a t'
  | bl b=>cases rx;exact SeqAt.RcAt.int_bool a t' b
  | int b=>obtain⟨t,rfl⟩:=rx;exact SeqAt.RcAt.int_int a t' b t
  | str b=>obtain⟨t,rfl⟩:=rx;exact SeqAt.RcAt.int_str a t' b t
  | _=>cases fx
 | str a=>
  obtain⟨t',rfl⟩:=ry
  cases x with
  | non=>cases rx;exact SeqAt.RcAt.str_none a t'
  | bl b=>cases rx;exact SeqAt.RcAt.str_bool a t' b
  | int b=>obtain⟨t,rfl⟩:=rx;exact SeqAt.RcAt.str_int a t' b t
  | str b=>obtain⟨t,rfl⟩:=rx;exact SeqAt.RcAt.str_str a t' b t
  | _=>cases fx
 | _=>cases fy
theorem rX {A:Around}{y x:V}{u v:Value} (ry:aQ y u) (rx:aQ x v) (fy:j6 y=true) (fx:j6 x=true):SeqAt.RcNeAt A s u v (!eqV y x):=by
 cases y with
 | non=>
  cases ry
  cases x with
  | non=>cases rx;exact SeqAt.RcNeAt.none_none
  | bl b=>cases rx;exact SeqAt.RcNeAt.none_bool b
  | int b=>obtain⟨t,rfl⟩:=rx;exact SeqAt.RcNeAt.none_int b t
  | str b=>obtain⟨t,rfl⟩:=rx;exact SeqAt.RcNeAt.none_str b t
  | _=>cases fx
 | bl a=>
  cases ry
  cases x with
  | non=>cases rx;exact SeqAt.RcNeAt.bool_none a
  | bl b=>cases rx;exact SeqAt.RcNeAt.bool_bool a b
  | int b=>obtain⟨t,rfl⟩:=rx;exact SeqAt.RcNeAt.bool_int a b t
  | str b=>obtain⟨t,rfl⟩:=rx;exact SeqAt.RcNeAt.bool_str a b t
  | _=>cases fx
 | int a=>
  obtain⟨t',rfl⟩:=ry
  cases x with
  | non=>cases rx;exact SeqAt.RcNeAt.int_none a t'
  | bl b=>cases rx;exact SeqAt.RcNeAt.int_bool a t' b
  | int b=>obtain⟨t,rfl⟩:=rx;exact SeqAt.RcNeAt.int_int a t' b t
  | str b=>obtain⟨t,rfl⟩:=rx;exact SeqAt.RcNeAt.int_str a t' b t
  | _=>cases fx
 | str a=>
  obtain⟨t',rfl⟩:=ry
  cases x with
  | non=>cases rx;exact SeqAt.RcNeAt.str_none a t'
  | bl b=>cases rx;exact SeqAt.RcNeAt.str_bool a t' b
  | int b=>obtain⟨t,rfl⟩:=rx;exact SeqAt.RcNeAt.str_int a t' b t
  | str b=>obtain⟨t,rfl⟩:=rx;exact SeqAt.RcNeAt.str_str a t' b t
  | _=>cases fx
 | _=>cases fy
inductive Kin where
 | fl (d:D) | tp (ds:List D) | ls (ds:List D)
noncomputable def eP (st:Sto):W->Option Kin
 | .d (.tup ds)=>some (.tp ds)
 | .d (.lst ds)=>some (.ls ds)
 | .h n=>(lg st n).map .ls
 | .d .non=>some (.fl .non)
 | .d (.bl b)=>some (.fl (.bl b))
 | .d (.int i)=>some (.fl (.int i))
 | .d (.str x)=>some (.fl (.str x))
 | _=>none
noncomputable def eqK:Kin->Kin->Option Bool
 | .fl a,.fl b=>some (eqD a b)
 | .tp as,.tp bs=>if (as.isEmpty || bs.isEmpty)=true then some (as.isEmpty && bs.isEmpty) else if as.all (okD 60)=true/\bs.all (okD 60)=true then some (gN as bs) else none
 | .ls as,.ls bs=>if as.length=bs.length then (if as.all (okD 60)=true/\bs.all (okD 60)=true then some (gN as bs) else none) else some false
 | .fl _,.tp _=>some false
 | .tp _,.fl _=>some false
 | .fl _,.ls _=>some false
 | .ls _,.fl _=>some false
 | .tp _,.ls _=>some false
 | .ls _,.tp _=>some false
noncomputable def dEq (st:Sto) (x y:W):Option D:=(eP st x).bind λa=>(eP st y).bind λb=>(eqK a b).map λk=>.bl k
noncomputable def dNe (st:Sto) (x y:W):Option D:=(eP st x).bind λa=>(eP st y).bind λb=>(eqK a b).map λk=>.bl (!k)
noncomputable def uQ (K:PySem.W.Frag) (H:Hp) (φ:List Addr):Kin->V->Prop
 | .fl d,v=>j5 d=true/\Rl K H φ d v
 | .tp ds,v=>∃ a vs,v=.ref a/\SqT K H a vs/\Rls K H φ ds vs
 | .ls ds,v=>∃ a vs,v=.ref a/\Rd H a (.lst vs)/\Rls K H φ ds vs
theorem jF {w:W}{v:V}{k:Kin} (S:Sr K H φ st) (r:Rw K H φ w v) (e:eP st w=some k):uQ K H φ k v:=by
 cases w with
 | h n=>
  obtain⟨a,ea,rfl⟩:=r
  obtain⟨ds,e1,rfl⟩:=Option.map_eq_some_iff.mp e
  obtain⟨vs,q,rl⟩:=S.atl n a ds ea e1
  exact⟨a,vs,rfl,.inl q,rl⟩
 | d x=>
  cases x with
  | tup es=>cases e;obtain⟨a,vs,rfl,h1,h2⟩:=r;exact⟨a,vs,rfl,SqT.of h1,h2⟩
  | lst es=>cases e;obtain⟨a,vs,rfl,h0,h1,h2⟩:=r;exact⟨a,vs,rfl,h1,h2⟩
  | non=>cases e;exact⟨rfl,r⟩
  | bl b=>cases e;exact⟨rfl,r⟩
  | int b=>cases e;exact⟨rfl,r⟩
  | str b=>cases e;exact⟨rfl,r⟩
  | _=>cases e
theorem vf {A:Around}{k:Nat} (hr:bY k A):A.in1.units+60 < cLine:=by
 have:=hr.un
 show A.units+1+60 < cLine
 lia
theorem rW {k:Nat} (hr:bY k X.A) (I:Inv X pins σ H s) {a b:Kin}{v u:V}{vv uu:Value}{r:Bool} (ra:uQ X.K H φ a v) (rb:uQ X.K H φ b u) (qa:aQ v vv) (qb:aQ u uu) (e:eqK a b=some r) :
  SeqAt.RcAt X.A s vv uu r/\SeqAt.RcNeAt X.A s vv uu (!r):=by
 have hu0:=hr.units0
 have items:∀ {ds es:List D}{vs us:List V}{its its2:List Value},Rls X.K H φ ds vs->Rls X.K H φ es us->aN vs its->aN us its2->ds.all (okD 60)=true->es.all (okD 60)=true->
   ∀ j (g1:j < its.toArray.size) (g2:j < its2.toArray.size),SeqAt.EqAt X.A.in1 s its.toArray[j] its2.toArray[j] (eqD (ds.getD j .non) (es.getD j .non)):=by
  intro ds es vs us its its2 h2 h4 rv rv2 o1 o2 j g1 g2
  obtain⟨v1,k1,k2,k3⟩:=dU h2 rv j (by simpa using g1)
  obtain⟨v2,k4,k5,k6⟩:=dU h4 rv2 j (by simpa using g2)
  exact u5 I 60 k1 k4 (by simpa using k2) (by simpa using k5) (List.all_eq_true.mp o1 _ k3) (List.all_eq_true.mp o2 _ k6) (vf hr)
 match a,b,e with
 | .fl d,.fl d',e=>
  cases e
  obtain⟨f1,r1⟩:=ra
  obtain⟨f2,r2⟩:=rb
  obtain⟨e1,g1⟩:=jL f1 r1
  obtain⟨e2,g2⟩:=jL f2 r2
  rw [<-o9 f1 f2,<-e1,<-e2]
  exact⟨vV qa qb g1 g2,rX qa qb g1 g2⟩
 | .tp ds,.tp es,e=>
  simp only [eqK] at e
  obtain⟨a,vs,rfl,h1,h2⟩:=ra
  obtain⟨b,us,rfl,h3,h4⟩:=rb
  cases qa;cases qb
  obtain⟨its,rv,p1,_⟩:=I.tuple h1
  obtain⟨its2,rv2,p2,_⟩:=I.tuple h3
  have e1:its.toArray.size=ds.length:=by simp [<-rv.length,h2.length]
  have e2:its2.toArray.size=es.length:=by simp [<-rv2.length,h4.length]
  split at e
  ·rename_i hc
   cases e
   have hv:∀ j (g1:j < its.toArray.size) (g2:j < its2.toArray.size),SeqAt.EqAt X.A.in1 s its.toArray[j] its2.toArray[j] (eqD (ds.getD j .non) (es.getD j .non)):=λj g1 g2=>by
    rw [e1] at g1
    rw [e2] at g2
    rw [Bool.or_eq_true] at hc
    rcases hc with hc | hc
    ·rw [List.isEmpty_iff.mp hc] at g1;exact absurd g1 (Nat.not_lt_zero _)
    ·rw [List.isEmpty_iff.mp hc] at g2;exact absurd g2 (Nat.not_lt_zero _)
   have z:=SeqAt.RcAt.tuples (A:=X.A) p1 p2 hu0 hv
   have z':=SeqAt.RcNeAt.tuples (A:=X.A) p1 p2 hu0 hv
   rw [e1,e2,d4] at z z'
   have e3:gN ds es=(ds.isEmpty && es.isEmpty):=by
    cases ds with
    | nil=>cases es<;>rfl
    | cons _ _=>cases es with
     | nil=>rfl
     | cons _ _=>cases hc
   rw [e3] at z z'
   exact⟨z,z'⟩
  ·split at e
   ·rename_i hc
    cases e
    have z:=SeqAt.RcAt.tuples (A:=X.A) p1 p2 hu0 (items h2 h4 rv rv2 hc.1 hc.2)
    have z':=SeqAt.RcNeAt.tuples (A:=X.A) p1 p2 hu0 (items h2 h4 rv rv2 hc.1 hc.2)
    rw [e1,e2,d4] at z z'
    exact⟨z,z'⟩
   ·cases e
 | .ls ds,.ls es,e=>
  simp only [eqK] at e
  obtain⟨a,vs,rfl,h1,h2⟩:=ra
  obtain⟨b,us,rfl,h3,h4⟩:=rb
  cases qa;cases qb
  obtain⟨its,rv,p1,_⟩:=I.list (.inl h1)
  obtain⟨its2,rv2,p2,_⟩:=I.list (.inl h3)
  have e1:its.toArray.size=ds.length:=by simp [<-rv.length,h2.length]
  have e2:its2.toArray.size=es.length:=by simp [<-rv2.length,h4.length]
  split at e
  ·rename_i hl
   split at e
   ·rename_i hc
    cases e
    have z:=SeqAt.RcAt.lists (A:=X.A) p1.isList p2.isList (by rw [e1,e2,hl]) hu0 (items h2 h4 rv rv2 hc.1 hc.2)
    have z':=SeqAt.RcNeAt.lists (A:=X.A) p1.isList p2.isList (by rw [e1,e2,hl]) hu0 (items h2 h4 rv rv2 hc.1 hc.2)
    rw [e1,gR hl] at z z'
    exact⟨z,z'⟩
   ·cases e
  ·rename_i hl
   cases e
   have z:=SeqAt.RcAt.lists_lengths (A:=X.A) p1.isList p2.isList (by rw [e1,e2];simpa using hl) hu0
   have z':=SeqAt.RcNeAt.lists_lengths (A:=X.A) p1.isList p2.isList (by rw [e1,e2];simpa using hl) hu0
   exact⟨z,z'⟩
 | .fl d,.tp es,e=>
  cases e
  obtain⟨f1,r1⟩:=ra
  obtain⟨b,us,rfl,h3,h4⟩:=rb
  cases qb
  obtain⟨its2,rv2,p2,_⟩:=I.tuple h3
  cases d with
  | non=>cases r1;cases qa;exact⟨SeqAt.RcAt.none_tuple p2 hu0,SeqAt.RcNeAt.none_tuple p2 hu0⟩
  | bl x=>cases r1;cases qa;exact⟨SeqAt.RcAt.bool_tuple x p2 hu0,SeqAt.RcNeAt.bool_tuple x p2 hu0⟩
  | int x=>cases r1;obtain⟨t,rfl⟩:=qa;exact⟨SeqAt.RcAt.int_tuple x t p2 hu0,SeqAt.RcNeAt.int_tuple x t p2 hu0⟩
  | str x=>cases r1;obtain⟨t,rfl⟩:=qa;exact⟨SeqAt.RcAt.str_tuple x t p2 hu0,SeqAt.RcNeAt.str_tuple x t p2 hu0⟩
  | _=>cases f1
 | .tp es,.fl d,e=>
  cases e
  obtain⟨f1,r1⟩:=rb
  obtain⟨b,us,rfl,h3,h4⟩:=ra
  cases qa
  obtain⟨its2,rv2,p2,_⟩:=I.tuple h3
  cases d with
  | non=>cases r1;cases qb;exact⟨SeqAt.RcAt.tuple_none p2 hu0,SeqAt.RcNeAt.tuple_none p2 hu0⟩
  | bl x=>cases r1;cases qb;exact⟨SeqAt.RcAt.tuple_bool x p2 hu0,SeqAt.RcNeAt.tuple_bool x p2 hu0⟩
  | int x=>cases r1;obtain⟨t,rfl⟩:=qb;exact⟨SeqAt.RcAt.tuple_int x t p2 hu0,SeqAt.RcNeAt.tuple_int x t p2 hu0⟩
  | str x=>cases r1;obtain⟨t,rfl⟩:=qb;exact⟨SeqAt.RcAt.tuple_str x t p2 hu0,SeqAt.RcNeAt.tuple_str x t p2 hu0⟩
  | _=>cases f1
 | .fl d,.ls es,e=>
  cases e
  obtain⟨f1,r1⟩:=ra
  obtain⟨b,us,rfl,h3,h4⟩:=rb
  cases qb
  obtain⟨its2,rv2,p2,_⟩:=I.list (.inl h3)
  replace p2:=p2.isList
  cases d with
  | non=>cases r1;cases qa;exact⟨SeqAt.RcAt.none_list p2 hu0,SeqAt.RcNeAt.none_list p2 hu0⟩
  | bl x=>cases r1;cases qa;exact⟨SeqAt.RcAt.bool_list x p2 hu0,SeqAt.RcNeAt.bool_list x p2 hu0⟩
  | int x=>cases r1;obtain⟨t,rfl⟩:=qa;exact⟨SeqAt.RcAt.int_list x t p2 hu0,SeqAt.RcNeAt.int_list x t p2 hu0⟩
  | str x=>cases r1;obtain⟨t,rfl⟩:=qa;exact⟨SeqAt.RcAt.str_list x t p2 hu0,SeqAt.RcNeAt.str_list x t p2 hu0⟩
  | _=>cases f1
 | .ls es,.fl d,e=>
  cases e
  obtain⟨f1,r1⟩:=rb
  obtain⟨b,us,rfl,h3,h4⟩:=ra
  cases qa
  obtain⟨its2,rv2,p2,_⟩:=I.list (.inl h3)
  replace p2:=p2.isList
  cases d with
  | non=>cases r1;cases qb;exact⟨SeqAt.RcAt.list_none p2 hu0,SeqAt.RcNeAt.list_none p2 hu0⟩
  | bl x=>cases r1;cases qb;exact⟨SeqAt.RcAt.list_bool x p2 hu0,SeqAt.RcNeAt.list_bool x p2 hu0⟩
  | int x=>cases r1;obtain⟨t,rfl⟩:=qb;exact⟨SeqAt.RcAt.list_int x t p2 hu0,SeqAt.RcNeAt.list_int x t p2 hu0⟩
  | str x=>cases r1;obtain⟨t,rfl⟩:=qb;exact⟨SeqAt.RcAt.list_str x t p2 hu0,SeqAt.RcNeAt.list_str x t p2 hu0⟩
  | _=>cases f1
 | .tp ds,.ls es,e=>
  cases e
  obtain⟨a,vs,rfl,h1,h2⟩:=ra
  obtain⟨b,us,rfl,h3,h4⟩:=rb
  cases qa;cases qb
  obtain⟨its,rv,p1,_⟩:=I.tuple h1
  obtain⟨its2,rv2,p2,_⟩:=I.list (.inl h3)
  exact⟨SeqAt.RcAt.tuple_list p1 p2.isList hu0,SeqAt.RcNeAt.tuple_list p1 p2.isList hu0⟩
 | .ls ds,.tp es,e=>
  cases e
  obtain⟨a,vs,rfl,h1,h2⟩:=ra
  obtain⟨b,us,rfl,h3,h4⟩:=rb
  cases qa;cases qb
  obtain⟨its,rv,p1,_⟩:=I.list (.inl h1)
  obtain⟨its2,rv2,p2,_⟩:=I.tuple h3
  exact⟨SeqAt.RcAt.list_tuple p1.isList p2 hu0,SeqAt.RcNeAt.list_tuple p1.isList p2 hu0⟩
theorem dA {k:Nat} (hr:bY k X.A) (hK:X.K=K:=by rfl):OpD K X (compareOp .Eq) dEq:=by
 subst hK
 refine⟨λst x y d h=>?_⟩
 simp only [dEq,Option.bind_eq_some_iff,Option.map_eq_some_iff] at h
 obtain⟨a,ha,b,hb,r,e,rfl⟩:=h
 intro pins s σ H vx vy v u Q I rx ry q
 obtain⟨φ,S,r1,r2,q⟩:=q
 exact (rW hr I (jF S r1 ha) (jF S r2 hb) rx ry e).1 _ _ _ _ ⟨.bl r,H,I,rfl,q _ H (aZ.refl H) rfl⟩
theorem rn {k:Nat} (hr:bY k X.A) (hK:X.K=K:=by rfl):OpD K X (compareOp .NotEq) dNe:=by
 subst hK
 refine⟨λst x y d h=>?_⟩
 simp only [dNe,Option.bind_eq_some_iff,Option.map_eq_some_iff] at h
 obtain⟨a,ha,b,hb,r,e,rfl⟩:=h
 intro pins s σ H vx vy v u Q I rx ry q
 obtain⟨φ,S,r1,r2,q⟩:=q
 exact (rW hr I (jF S r1 ha) (jF S r2 hb) rx ry e).2 _ _ _ _ ⟨.bl (!r),H,I,rfl,q _ H (aZ.refl H) rfl⟩
end
end L2
namespace L2
open PySem PySem.Spec PyProof.Rows
section
variable {K:PySem.W.Frag}{X:Cx}
noncomputable def cn:List D->Option (List Int)
 | []=>some []
 | .int i::ds=>(cn ds).map λr=>i::r
 | _=>none
theorem dz:∀ {ds:List D}{ns:List Int},cn ds=some ns->ds=ns.map D.int
 | [],_,h=>by cases h;rfl
 | .int i::ds,_,h=>by
  obtain⟨r,e,rfl⟩:=Option.map_eq_some_iff.mp h
  rw [dz e];rfl
 | .non::_,_,h=>by cases h
 | .bl _::_,_,h=>by cases h
 | .str _::_,_,h=>by cases h
 | .ty _::_,_,h=>by cases h
 | .dct::_,_,h=>by cases h
 | .scr _::_,_,h=>by cases h
 | .tup _::_,_,h=>by cases h
 | .lst _::_,_,h=>by cases h
theorem d8:∀ (ns:List Int),cn (ns.map D.int)=some ns
 | []=>rfl
 | n::ns=>by rw [List.map_cons,cn,d8 ns];rfl
noncomputable def iU:List D->Option (List Bool)
 | []=>some []
 | .bl i::ds=>(iU ds).map λr=>i::r
 | _=>none
theorem jm:∀ {ds:List D}{ns:List Bool},iU ds=some ns->ds=ns.map D.bl
 | [],_,h=>by cases h;rfl
 | .bl i::ds,_,h=>by
  obtain⟨r,e,rfl⟩:=Option.map_eq_some_iff.mp h
  rw [jm e];rfl
 | .non::_,_,h=>by cases h
 | .int _::_,_,h=>by cases h
 | .str _::_,_,h=>by cases h
 | .ty _::_,_,h=>by cases h
 | .dct::_,_,h=>by cases h
 | .scr _::_,_,h=>by cases h
 | .tup _::_,_,h=>by cases h
 | .lst _::_,_,h=>by cases h
theorem jV:∀ (ns:List Bool),iU (ns.map D.bl)=some ns
 | []=>rfl
 | n::ns=>by rw [List.map_cons,iU,jV ns];rfl
noncomputable def ir (st:Sto):List W->Option D
 | [.d (.str x)]=>if x.length<=1000000 then some (.int x.length) else none
 | [w]=>(eD st w).map λds=>.int ds.length
 | _=>none
noncomputable def u4 (_:Sto):List W->Option D
 | [.d (.int i),.d (.int j)]=>some (.int (if j < i then j else i))
 | _=>none
noncomputable def iq (_:Sto):List W->Option D
 | [.d (.int i)]=>some (.int i)
 | [.d (.bl k)]=>some (.int (if k then 1 else 0))
 | _=>none
noncomputable def lU (_:Sto):List W->Option D
 | [.d (.lst ds)]=>(cn ds).map λns=>.int ns.sum
 | _=>none
noncomputable def qE (_:Sto):List W->Option D
 | [.d (.lst ds)]=>(iU ds).map λns=>.bl (ns.all id)
 | _=>none
noncomputable def lV (st:Sto):List W->Option D
 | [w]=>(eD st w).map λds=>.tup ds
 | _=>none
noncomputable def mJ (st:Sto):W->Option String
 | .d .non=>some "NoneType"
 | .d (.bl _)=>some "bool"
 | .d (.int _)=>some "int"
 | .d (.str _)=>some "str"
 | .d (.tup _)=>some "tuple"
 | .d (.lst _)=>some "list"
 | .d .dct=>some "dict"
 | .h n=>(lg st n).map λ_=>"list"
 | _=>none
noncomputable def kZ (t c:String):Option Bool:=
 if c = "int" then some (t=="int" || t=="bool")
 else if c = "bool"\/c = "str"\/c = "tuple"\/c = "list" then some (t==c)
 else none
noncomputable def jx (st:Sto):List W->Option D
 | [w,.d (.ty c)]=>(mJ st w).bind λt=>(kZ t c).map λb=>.bl b
 | _=>none
theorem iW (hK:X.K=K:=by rfl):gO K X (.builtin "len") ir:=by
 subst hK
 refine⟨λst ws d h=>?_⟩
 have seq:∀ w,(eD st w).map (λds=>D.int ds.length)=some d->cJ X (.builtin "len") (rCD X.K st [w] d):=λw h=>by
  obtain⟨ds,e,rfl⟩:=Option.map_eq_some_iff.mp h
  refine lQ.imp ?_
  rintro vs H Q ⟨φ,S,⟨v,r,rfl,r1,rfl⟩,q⟩
  obtain⟨a,us,rfl,h1,h2⟩:=mE S r1 e
  exact⟨a,us,rfl,h1,q _ H (aZ.refl H) (by rw [<-h2.length];rfl)⟩
 cases ws with
 | nil=>cases h
 | cons w tl=>
  cases tl with
  | cons _ _=>
   cases w with
   | h n=>cases h
   | d x=>cases x<;>cases h
  | nil=>
   cases w with
   | h n=>exact seq _ h
   | d x=>
    cases x with
    | str x=>
     simp only [ir] at h
     split at h
     ·rename_i hl
      cases h
      refine lR.imp ?_
      rintro vs H Q ⟨φ,S,⟨v,r,rfl,r1,rfl⟩,q⟩
      exact⟨x,by rw [show v=.str x from r1],Nat.le_trans hl mil,q _ H (aZ.refl H) rfl⟩
     ·cases h
    | tup ds=>exact seq _ h
    | lst ds=>exact seq _ h
    | scr ds=>exact seq _ h
    | _=>cases h
theorem uZ (hc:X.calm=true:=by rfl):gO K X (.builtin "min") u4:=by
 refine⟨λst ws d h=>?_⟩
 match ws,h with
 | [.d (.int i),.d (.int j)],h=>
  cases h
  refine (pO hc).imp ?_
  rintro vs H Q ⟨φ,S,⟨v,r,rfl,r1,u,r',rfl,r2,rfl⟩,q⟩
  exact⟨i,j,by rw [show v=.int i from r1,show u=.int j from r2],q _ H (aZ.refl H) rfl⟩
theorem jW:gO K X (.type "int") iq:=by
 refine⟨λst ws d h=>?_⟩
 match ws,h with
 | [.d (.int i)],h=>
  cases h
  refine lv.imp ?_
  rintro vs H Q ⟨φ,S,⟨v,r,rfl,r1,rfl⟩,q⟩
  exact .inl ⟨i,by rw [show v=.int i from r1],q _ H (aZ.refl H) rfl⟩
 | [.d (.bl i)],h=>
  cases h
  refine lv.imp ?_
  rintro vs H Q ⟨φ,S,⟨v,r,rfl,r1,rfl⟩,q⟩
  exact .inr ⟨i,by rw [show v=.bl i from r1],q _ H (aZ.refl H) rfl⟩
theorem n8 (hc:X.calm=true:=by rfl) (hK:X.K=K:=by rfl):gO K X (.builtin "sum") lU:=by
 subst hK
 refine⟨λst ws d h=>?_⟩
 match ws,h with
 | [.d (.lst ds)],h=>
  obtain⟨ns,e,rfl⟩:=Option.map_eq_some_iff.mp h
  cases dz e
  refine (wC (K:=X.K) hc rfl).imp ?_
  rintro vs H Q ⟨φ,S,⟨v,r,rfl,⟨a,us,rfl,h0,h1,h2⟩,rfl⟩,q⟩
  cases h2.ints
  exact⟨a,ns,rfl,.inl h1,q _ H (aZ.refl H) rfl⟩
theorem uY (hc:X.calm=true:=by rfl) (hK:X.K=K:=by rfl):gO K X (.builtin "all") qE:=by
 subst hK
 refine⟨λst ws d h=>?_⟩
 match ws,h with
 | [.d (.lst ds)],h=>
  obtain⟨ns,e,rfl⟩:=Option.map_eq_some_iff.mp h
  cases jm e
  refine (wB (K:=X.K) hc rfl).imp ?_
  rintro vs H Q ⟨φ,S,⟨v,r,rfl,⟨a,us,rfl,h0,h1,h2⟩,rfl⟩,q⟩
  cases h2.bools
  exact⟨a,ns,rfl,.inl h1,q _ H (aZ.refl H) rfl⟩
theorem hV (hK:X.K=K:=by rfl):gO K X (.type "tuple") lV:=by
 subst hK
 refine⟨λst ws d h=>?_⟩
 match ws,h with
 | [w],h=>
  obtain⟨ds,e,rfl⟩:=Option.map_eq_some_iff.mp h
  refine kT.imp ?_
  rintro vs H Q ⟨φ,S,⟨v,r,rfl,r1,rfl⟩,q⟩
  obtain⟨a,us,rfl,h1,h2⟩:=nP S r1 e
  refine⟨a,us,rfl,?_⟩
  rcases h1 with h1 | h1
  ·exact .inl ⟨h1,λl hl=>q _ _ (aZ.new hl _) ⟨l,us,rfl,ay,h2.fw S (Fw.new hl)⟩⟩
  ·exact .inr ⟨SqT.of h1,q _ H (aZ.refl H) ⟨a,us,rfl,h1,h2⟩⟩
theorem fj {t c:String}{b:Bool} (ht:t = "NoneType"\/t = "bool"\/t = "int"\/t = "str"\/t = "tuple"\/t = "list"\/t = "dict") (h:kZ t c=some b):PySem.W.kitOne K (.type t) (.type c)=some b:=by
 unfold kZ at h
 split at h
 ·rename_i hc
  subst hc
  rcases ht with rfl | rfl | rfl | rfl | rfl | rfl | rfl<;>(cases h;rfl)
 ·split at h
  ·rename_i _ hc
   rcases hc with rfl | rfl | rfl | rfl<;>rcases ht with rfl | rfl | rfl | rfl | rfl | rfl | rfl<;>(cases h;rfl)
  ·cases h
theorem hU (hK:X.K=K:=by rfl):gO K X (.builtin "isinstance") jx:=by
 subst hK
 refine⟨λst ws d h=>?_⟩
 match ws,h with
 | [w,.d (.ty c)],h=>
  simp only [jx,Option.bind_eq_some_iff,Option.map_eq_some_iff] at h
  obtain⟨t,ht,b,hb,rfl⟩:=h
  intro pins s σ H xs us Q I rv q
  obtain⟨φ,S,⟨v,r,rfl,r1,u,r',rfl,r2,rfl⟩,q⟩:=q
  cases (show u=.ty c from r2)
  obtain⟨vv,uu,rfl,rv1,rv2⟩:=rv.two
  cases rv2
  have fin:∀ tk,EP X pins σ Q (.bool b) { s with toks:=tk }:=λtk=>⟨.bl b,H,I.tok tk,rfl,q _ H (aZ.refl H) rfl⟩
  cases w with
  | h n=>
   obtain⟨a,ea,rfl⟩:=r1
   obtain⟨ds,eds,rfl⟩:=Option.map_eq_some_iff.mp ht
   obtain⟨vs,hv,_⟩:=S.atl n a ds ea eds
   exact cg I rv1 (.lst hv) (fj (by simp) hb) fin
  | d x=>
   cases x with
   | non=>cases ht;cases r1;exact cg I rv1 .non (fj (by simp) hb) fin
   | ob _ _=>cases ht
   | bl x=>cases ht;cases r1;exact cg I rv1 (.bl x) (fj (by simp) hb) fin
   | int x=>cases ht;cases r1;exact cg I rv1 (.int x) (fj (by simp) hb) fin
   | str x=>cases ht;cases r1;exact cg I rv1 (.str x) (fj (by simp) hb) fin
   | lst ds=>
    cases ht
    obtain⟨a,vs,rfl,h0,h1,h2⟩:=r1
    rcases h1 with h1 | ⟨o,h1⟩
    ·exact cg I rv1 (.lst h1) (fj (by simp) hb) fin
    ·exact cg I rv1 (.frz h1) (fj (by simp) hb) fin
   | tup ds=>
    cases ht
    obtain⟨a,vs,rfl,h1,h2⟩:=r1
    cases rv1
    obtain⟨its,_,p,_⟩:=I.tuple (SqT.of h1)
    obtain⟨o,e1,e2,_⟩:=p
    exact PySem.W.kia_one PySem.W.kitx_tuple I.kIn ⟨o,e1,e2⟩ (fj (by simp) hb) (λz=>nomatch z) fin
   | dct=>
    cases ht
    obtain⟨a,rfl,_,h1⟩:=r1
    rcases h1 with⟨d,h1⟩ | ⟨d,h1⟩
    ·exact cg I rv1 (.dK h1) (fj (by simp) hb) fin
    ·exact cg I rv1 (.dT h1) (fj (by simp) hb) fin
   | ty x=>cases ht
   | scr x=>cases ht
variable {e a b:Expr}{es:List Expr}{pos:Pos}{f fa fb:Ef}{af:Af}
theorem ka {x:Str}{c:String} (hg:Gl X x) (hm:X.mg x=none) (hv:bootBuiltins x=some (.type c)) (hn:x≠"__name__":=by decide) (hd:(x==("__debug__" : Str))=false:=by decide):IE K X (.Name x pos) (iC (.ty c)):=
 qL (v:=.ty c) (pp hg hm hv rfl hn hd) λ_ _=>rfl
end
end L2
namespace L2
open PySem PySem.Spec PyProof.Rows
section
variable {K:PySem.W.Frag}{X:Cx}{e a b:Expr}{es:List Expr}{pos:Pos}{f fa fb:Ef}{af:Af}
noncomputable def oj (x:Int):List Int->List Int
 | []=>[x]
 | y::ys=>if x<=y then x::y::ys else y::oj x ys
noncomputable def kh:List Int->List Int
 | []=>[]
 | x::xs=>oj x (kh xs)
theorem i7 (x:Int):∀ ys,(oj x ys).Perm (x::ys)
 | []=>List.Perm.refl _
 | y::ys=>by
  unfold oj
  split
  ·exact List.Perm.refl _
  ·exact (List.Perm.cons y (i7 x ys)).trans (List.Perm.swap x y ys)
theorem jp:∀ xs,(kh xs).Perm xs
 | []=>List.Perm.refl _
 | x::xs=>(i7 x _).trans (List.Perm.cons x (jp xs))
theorem jn (x:Int):∀ {ys:List Int},ys.Pairwise (·<=·)->(oj x ys).Pairwise (·<=·)
 | [],_=>by simp [oj]
 | y::ys,h=>by
  unfold oj
  split
  ·rename_i hxy
   refine List.pairwise_cons.mpr ⟨λz hz=>?_,h⟩
   rcases List.mem_cons.mp hz with rfl | hz
   ·exact hxy
   ·exact Int.le_trans hxy ((List.pairwise_cons.mp h).1 z hz)
  ·rename_i hxy
   refine List.pairwise_cons.mpr ⟨λz hz=>?_,jn x (List.pairwise_cons.mp h).2⟩
   rcases List.mem_cons.mp ((i7 x ys).mem_iff.mp hz) with rfl | hz
   ·lia
   ·exact (List.pairwise_cons.mp h).1 z hz
theorem gS:∀ xs,(kh xs).Pairwise (·<=·)
 | []=>List.Pairwise.nil
 | x::xs=>jn x (gS xs)
theorem nQ {xs ys:List Int} (p:xs.Perm ys) (h1:xs.Pairwise (·<=·)) (h2:ys.Pairwise (·<=·)):xs=ys:=
 List.Perm.eq_of_pairwise (λa b _ _ h1 h2=>Int.le_antisymm h1 h2) h1 h2 p
theorem iQ:∀ {ns:List Int}{us:List Value},IntsAre us ns->aN (ns.map V.int) us
 | _,_,.nil=>.nil
 | _,_,.cons n t h=>.cons ⟨t,rfl⟩ (iQ h)
theorem uk {H:Hp}{ad:Addr}{ns:List Int}{m:Fn} (hO:sP H) (hS:SqL K H ad (ns.map V.int)) (h:∃ st,m [.d (.scr ns)] []=some (.d (.bl true),st)):spI K m [.ref ad] H (λv _=>v=.bl true) λ_ _ _=>False:=by
 obtain⟨st,h⟩:=h
 refine⟨[],[],[.d (.scr ns)],_,h,⟨_,[],rfl,⟨ad,rfl,?_⟩,rfl⟩,⟨List.nodup_nil,rfl,λn a ds e=>by simp at e⟩,λv H' φ' _ _ r=>r⟩
 rcases hS with (h | h) | h
 ·rcases hO ad with z | ⟨o,xs,z⟩
  ·rw [h] at z;cases z
  ·rw [h] at z;cases z
 ·exact .inl h
 ·exact .inr h
end
end L2
namespace L2
open PySem
theorem gt {g:Tg}{body:Sf}:∀ {ds:List D} (Pv:Nat->Ev->Sto->Prop) {env:Ev}{st:Sto},Pv 0 env st->
  (∀ i d env st,ds[i]?=some d->Pv i env st->∃ e1 e2 s2,fk g (.d d) env=some e1/\(body e1 st=some (.nx e2 s2)\/body e1 st=some (.ct e2 s2))/\Pv (i+1) e2 s2)->
  ∃ env' st',fK g body ds env st=some (.nx env' st')/\Pv ds.length env' st'
 | [],Pv,env,st,h0,_=>⟨env,st,rfl,h0⟩
 | d::ds,Pv,env,st,h0,hs=>by
  obtain⟨e1,e2,s2,h1,h2,h3⟩:=hs 0 d env st rfl h0
  obtain⟨e',s',h4,h5⟩:=gt (g:=g) (body:=body) (ds:=ds) (λi=>Pv (i+1)) h3 λi d' env' st' hd p=>hs (i+1) d' env' st' (by simpa using hd) p
  refine⟨e',s',?_,h5⟩
  unfold fK
  rw [h1,Option.bind_some]
  rcases h2 with h2 | h2<;>(rw [h2,Option.bind_some];exact h4)
theorem iD {g:Tg}{tt:Tf}{te:Ef}{env:Ev}:∀ {ds:List D} (Pv:Nat->List D->Sto->Prop) {st:Sto}{ys0:List D},Pv 0 ys0 st->
  (∀ i d ys st,ds[i]?=some d->Pv i ys st->∃ e1,fk g (.d d) env=some e1/\((∃ s1 x s2,tt e1 st=some (true,s1)/\te e1 s1=some (.d x,s2)/\Pv (i+1) (ys++[x]) s2)\/∃ s1,tt e1 st=some (false,s1)/\Pv (i+1) ys s1))->
  ∃ ys st',lcI g tt te env ds st=some (ys,st')/\Pv ds.length (ys0++ys) st'
 | [],Pv,st,ys0,h0,_=>⟨[],st,rfl,by rw [List.append_nil];exact h0⟩
 | d::ds,Pv,st,ys0,h0,hs=>by
  obtain⟨e1,h1,h2⟩:=hs 0 d ys0 st rfl h0
  rcases h2 with⟨s1,x,s2,h2,h3,h4⟩ | ⟨s1,h2,h4⟩
  ·obtain⟨ys,s',h5,h6⟩:=iD (g:=g) (tt:=tt) (te:=te) (env:=env) (ds:=ds) (λi=>Pv (i+1)) h4 λi d' ys' st' hd p=>hs (i+1) d' ys' st' (by simpa using hd) p
   refine⟨x::ys,s',?_,by simpa using h6⟩
   unfold lcI
   rw [h1,Option.bind_some,h2,Option.bind_some,if_pos rfl,h3,Option.bind_some,h5]
   rfl
  ·obtain⟨ys,s',h5,h6⟩:=iD (g:=g) (tt:=tt) (te:=te) (env:=env) (ds:=ds) (λi=>Pv (i+1)) h4 λi d' ys' st' hd p=>hs (i+1) d' ys' st' (by simpa using hd) p
   refine⟨ys,s',?_,by simpa using h6⟩
   unfold lcI
   rw [h1,Option.bind_some,h2,Option.bind_some,if_neg Bool.false_ne_true,h5]
theorem nn {g:Tg}{tt:Tf}{te:Ef}{env:Ev}{st:Sto} (p:D->Bool) (F:D->D):∀ {ds:List D},(∀ d ∈ ds,∃ e1,fk g (.d d) env=some e1/\tt e1 st=some (p d,st)/\(p d=true->te e1 st=some (.d (F d),st)))->
  lcI g tt te env ds st=some ((ds.filter p).map F,st)
 | [],_=>rfl
 | d::ds,h=>by
  obtain⟨e1,h1,h2,h3⟩:=h d List.mem_cons_self
  have ih:=nn (g:=g) (tt:=tt) (te:=te) (env:=env) (st:=st) p F (ds:=ds) λx hx=>h x (List.mem_cons_of_mem _ hx)
  unfold lcI
  rw [h1,Option.bind_some,h2,Option.bind_some]
  cases hp:p d with
  | true=>rw [if_pos rfl,h3 hp,Option.bind_some,ih,List.filter_cons,hp];rfl
  | false=>rw [if_neg Bool.false_ne_true,ih,List.filter_cons,hp];rfl
theorem eQ {g:Tg}{te:Ef}{env:Ev}{st:Sto} (F:D->D) {ds:List D} (h:∀ d ∈ ds,∃ e1,fk g (.d d) env=some e1/\te e1 st=some (.d (F d),st)):lcI g cR te env ds st=some (ds.map F,st):=by
 have:=nn (g:=g) (tt:=cR) (te:=te) (env:=env) (st:=st) (λ_=>true) F (ds:=ds) λd hd=>by
  obtain⟨e1,h1,h2⟩:=h d hd
  exact⟨e1,h1,rfl,λ_=>h2⟩
 rw [this,List.filter_eq_self.mpr λ_ _=>rfl]
theorem gF {a b:Int} (h:-(2 ^ 64) < a/\a < 2 ^ 64):PySem.IntMulOk a b:=sN.ok (.inl h)
theorem gG {a b:Int} (h:-(2 ^ 64) < b/\b < 2 ^ 64):PySem.IntMulOk a b:=sN.ok (.inr h)
theorem l4 {st:Sto}{n:Nat}{v:C} (h:n < st.length):(st.set n v)[n]?=some v:=List.getElem?_set_self h
theorem n4 {α:Type} (a:α) (l:List α):atI (a::l) 0=some a:=gD (j:=0) rfl
theorem n5 {α:Type} (a b:α) (l:List α):atI (a::b::l) 1=some b:=gD (j:=1) rfl
end L2
namespace L2
open PySem
theorem nc:kZ "int" "int" = some true:=rfl
theorem l8:kZ "int" "bool" = some false:=rfl
theorem ng:kZ "int" "str" = some false:=rfl
theorem k7:kZ "int" "tuple" = some false:=rfl
theorem nh:kZ "str" "str" = some true:=rfl
theorem k8:kZ "str" "tuple" = some false:=rfl
theorem jz:kZ "tuple" "tuple" = some true:=rfl
theorem iL {n i:Nat}{d:D} (h:(eB 0 n)[i]?=some d):d=.int (i:Int)/\i < n:=by
 rw [nI] at h
 by_cases hi:i < n
 ·rw [if_pos hi] at h
  cases h
  exact⟨by rw [Int.zero_add],hi⟩
 ·rw [if_neg hi] at h;cases h
end L2
namespace L2
open PySem PySem.Spec PyProof.Rows
noncomputable def wp:Nat->Nat->StateT SortSt Sem (Option Nat):=sortPriv% PySem.Builtin.countRun
noncomputable def uW:Nat->Nat->Nat->StateT SortSt Sem Bool:=sortPriv% PySem.Builtin.binarySort
noncomputable def lZ:Bool->Keyed->Array Keyed->Nat->Nat->Nat->StateT SortSt Sem (Option Nat):=sortPriv% PySem.Builtin.gallop
noncomputable def wH:Array Keyed->Array Keyed->StateT SortSt Sem (Array Keyed):=sortPriv% PySem.Builtin.mergeLo
noncomputable def wG:Array Keyed->Array Keyed->StateT SortSt Sem (Array Keyed):=sortPriv% PySem.Builtin.mergeHi
noncomputable def uI:Nat->StateT SortSt Sem Bool:=sortPriv% PySem.Builtin.mergeAt
abbrev vZ (st:SortSt) (g:Nat):SortSt:=SortSt.mk' (kindOf st) (arrOf st) (pendingOf st) g (failedOf st)
noncomputable def Cm (prog:Program) (w:World) (A:Around) (s:Shared) (κ:SortKind) (O:KeyOrd) (rk:Keyed->O.α) (S:Keyed->Prop):Prop:=
 ∀ x y,S x->S y->∀ (Q:Bool->Shared->Prop) (E:Value->Shared->Prop),Q (O.blt (rk x) (rk y)) s->wpAny (model prog w) A (keyLt' κ x.1 y.1) Q E s
section
variable {prog:Program}{w:World}{A:Around}{E:Value->Shared->Prop}{s:Shared}{κ:SortKind}{O:KeyOrd}{rk:Keyed->O.α}{S:Keyed->Prop}
theorem nV (hC:Cm prog w A s κ O rk S) {x y:Keyed}{st:SortSt}{Q:Option Bool->SortSt->Prop} (hk:kindOf st=κ) (hx:S x) (hy:S y) (h:Q (some (O.blt (rk x) (rk y))) st) :
  wpS (model prog w) A E s (lt' x y) Q st:=by
 rw [lt'_eq]
 refine wpS_bind (wpS_get ?_)
 rw [hk]
 exact wpS_bind (wpS_lift (wpAny_attempt (hC x y hx hy _ _ ⟨rfl,wpS_pure h⟩)))
theorem aU {c:Prop} [Decidable c] {M:Model}{A':Around}{E':Value->Shared->Prop}{s':Shared}{α:Type}{a b:StateT SortSt Sem α}{Q:α->SortSt->Prop}{st:SortSt} (h:c) (k:wpS M A' E' s' a Q st):wpS M A' E' s' (if c then a else b) Q st:=by rw [if_pos h];exact k
theorem aM {c:Prop} [Decidable c] {M:Model}{A':Around}{E':Value->Shared->Prop}{s':Shared}{α:Type}{a b:StateT SortSt Sem α}{Q:α->SortSt->Prop}{st:SortSt} (h:¬ c) (k:wpS M A' E' s' b Q st):wpS M A' E' s' (if c then a else b) Q st:=by rw [if_neg h];exact k
theorem aS {arr:Array Keyed}{i:Nat}{x:Keyed}{st:SortSt}{Q:Keyed->SortSt->Prop} (hi:arr[i]?=some x) (h:Q x st):wpS (model prog w) A E s (elem' arr i) Q st:=by
 rw [elem'_eq,hi];exact wpS_pure h
theorem fY {t:String}{st:SortSt}{Q:Unit->SortSt->Prop} (h:Q () st):wpS (model prog w) A E s (liftM (rule t):StateT SortSt Sem Unit) Q st:=wpS_lift (wpAny_rule ⟨rfl,h⟩)
noncomputable def kyd (arr:Array Keyed) (i:Nat):Keyed:=(arr[i]?).getD (.none,.none)
theorem aK {arr:Array Keyed}{i:Nat} (h:i < arr.size):arr[i]?=some (kyd arr i):=by
 unfold kyd;simp [h]
theorem cN {a b:Array Keyed}{i j:Nat} (h:a[i]?=b[j]?):kyd a i=kyd b j:=by
 unfold kyd;rw [h]
theorem ut (hC:Cm prog w A s κ O rk S) {i j:Nat}{st:SortSt}{Q:Option Bool->SortSt->Prop} (hk:kindOf st=κ) (hi:i < (arrOf st).size) (hj:j < (arrOf st).size) (hx:S (kyd (arrOf st) i)) (hy:S (kyd (arrOf st) j))
  (h:Q (some (O.blt (rk (kyd (arrOf st) i)) (rk (kyd (arrOf st) j)))) st):wpS (model prog w) A E s (ltAt' i j) Q st:=by
 rw [ltAt'_eq]
 refine wpS_bind (wpS_get ?_)
 exact wpS_bind (aS (aK hi) (wpS_bind (aS (aK hj) (nV hC hk hx hy h))))
structure SB (κ:SortKind) (a0:Array Keyed) (lo:Nat) (p0:Array (Nat×Nat×Nat)) (g0:Nat) (st:SortSt):Prop where
 perm:(arrOf st).Perm a0
 pre:∀ k,k < lo->(arrOf st)[k]?=a0[k]?
 kind:kindOf st=κ
 fail:failedOf st=none
 pend:pendingOf st=p0
 gal:gallopOf st=g0
variable {a0:Array Keyed}{lo:Nat}{p0:Array (Nat×Nat×Nat)}{g0:Nat}{st:SortSt}
theorem SB.size (h:SB κ a0 lo p0 g0 st):(arrOf st).size=a0.size:=h.perm.size_eq
theorem SB.mem (h:SB κ a0 lo p0 g0 st) (hS:∀ x ∈ a0.toList,S x) {i:Nat} (hi:i < a0.size):S (kyd (arrOf st) i):=by
 have hi':i < (arrOf st).size:=by rw [h.size];exact hi
 refine hS _ ((Array.perm_iff_toList_perm.mp h.perm).mem_iff.mp ?_)
 have e:=aK hi'
 rw [Array.getElem?_eq_getElem hi'] at e
 rw [<-Option.some.inj e]
 exact Array.getElem_mem_toList hi'
theorem SB.set (h:SB κ a0 lo p0 g0 st) {xs:Array Keyed} (hp:xs.Perm (arrOf st)) (hl:∀ k,k < lo->xs[k]?=(arrOf st)[k]?):SB κ a0 lo p0 g0 (setArr st xs):=
 ⟨hp.trans h.perm,λk hk=>(hl k hk).trans (h.pre k hk),h.kind,h.fail,h.pend,h.gal⟩
theorem pH (hC:Cm prog w A s κ O rk S) (hS:∀ x ∈ a0.toList,S x) (hB:SB κ a0 lo p0 g0 st) {i j:Nat}{Q:Option Bool->SortSt->Prop} (hi:i < a0.size) (hj:j < a0.size)
  (h:Q (some (O.blt (rk (kyd (arrOf st) i)) (rk (kyd (arrOf st) j)))) st):wpS (model prog w) A E s (ltAt' i j) Q st:=
 ut hC hB.kind (by rw [hB.size];exact hi) (by rw [hB.size];exact hj) (hB.mem hS hi) (hB.mem hS hj) h
noncomputable def Up (rk:Keyed->O.α) (arr:Array Keyed) (lo n:Nat):Prop:=∀ i j,lo<=i->i<=j->j < lo+n->O.kle (rk (kyd arr i)) (rk (kyd arr j))
noncomputable def gg (rk:Keyed->O.α) (arr:Array Keyed) (lo n:Nat):Prop:=∀ i j,lo<=i->i<=j->j < lo+n->O.kle (rk (kyd arr j)) (rk (kyd arr i))
theorem ie {xs:Array Keyed}{i j:Nat} (hj:j<=xs.size) (k:Nat):kyd (mirror xs i j ((j - i) / 2)) k=if i<=k/\k < j then kyd xs (i+j - 1 - k) else kyd xs k:=by
 have e:=getElem?_mirror_all (i:=i) hj k
 by_cases h1:i<=k/\k < j
 ·rw [if_pos h1] at e ⊢;exact cN e
 ·rw [if_neg h1] at e ⊢;exact cN e
theorem kl {xs:Array Keyed}{src d:Nat} (hs:src < xs.size) (hd:d<=src) (k:Nat) :
  kyd (bubble xs src d) k=if k=src - d then kyd xs src else if src - d < k/\k<=src then kyd xs (k - 1) else kyd xs k:=by
 have e:=getElem?_bubble hs d hd k
 by_cases h1:k=src - d
 ·rw [if_pos h1] at e ⊢;exact cN e
 ·rw [if_neg h1] at e ⊢
  by_cases h2:src - d < k/\k<=src
  ·rw [if_pos h2] at e ⊢;exact cN e
  ·rw [if_neg h2] at e ⊢;exact cN e
theorem SB.rev (hB:SB κ a0 lo p0 g0 st) {i j:Nat} (hi:lo<=i) (hj:j<=a0.size):SB κ a0 lo p0 g0 (setArr st (mirror (arrOf st) i j ((j - i) / 2))):=
 hB.set (mirror_perm _ _ _ _) λk hk=>by
  rw [getElem?_mirror_all (by rw [hB.size];exact hj),if_neg (by lia)]
theorem gB {xs:Array Keyed}{i j:Nat} (hj:j<=xs.size) (he:∀ k,i<=k->k < j->rk (kyd xs k)=rk (kyd xs (j - 1))) (k:Nat):rk (kyd (mirror xs i j ((j - i) / 2)) k)=rk (kyd xs k):=by
 rw [ie hj]
 split
 ·rw [he (i+j - 1 - k) (by lia) (by lia),he k (by lia) (by lia)]
 ·rfl
theorem mL {i j:Nat}{Q:Unit->SortSt->Prop} (h:Q () (setArr st (mirror (arrOf st) i j ((j - i) / 2)))):wpS (model prog w) A E s (reverseSlice' i j) Q st:=by
 rw [reverseSlice'_eq];exact wpS_modify h
theorem Up.more {arr:Array Keyed}{n:Nat} (h:Up rk arr lo n) (h1:1<=n) (hl:O.kle (rk (kyd arr (lo+n - 1))) (rk (kyd arr (lo+n)))):Up rk arr lo (n+1):=by
 intro i j hi hij hj
 by_cases hjx:j < lo+n
 ·exact h i j hi hij hjx
 ·have hj':j=lo+n:=by lia
  subst hj'
  by_cases hi':i=lo+n
  ·subst hi';exact KeyOrd.kle_refl _
  ·exact KeyOrd.kle_trans (h i (lo+n - 1) hi (by lia) (by lia)) hl
theorem gg.more {arr:Array Keyed}{n:Nat} (h:gg rk arr lo n) (h1:1<=n) (hl:O.kle (rk (kyd arr (lo+n))) (rk (kyd arr (lo+n - 1)))):gg rk arr lo (n+1):=by
 intro i j hi hij hj
 by_cases hjx:j < lo+n
 ·exact h i j hi hij hjx
 ·have hj':j=lo+n:=by lia
  subst hj'
  by_cases hi':i=lo+n
  ·subst hi';exact KeyOrd.kle_refl _
  ·exact KeyOrd.kle_trans hl (h i (lo+n - 1) hi (by lia) (by lia))
theorem Up.one {arr:Array Keyed}:Up rk arr lo 1:=λi j hi hij hj=>by
 have:i=j:=by lia
 subst this;exact KeyOrd.kle_refl _
theorem gg.congr {xs ys:Array Keyed}{n:Nat} (h:gg rk xs lo n) (e:∀ k,rk (kyd ys k)=rk (kyd xs k)):gg rk ys lo n:=λi j hi hij hj=>by
 rw [e,e];exact h i j hi hij hj
end
end L2
namespace L2
open PySem PySem.Spec PyProof.Rows
section
variable {prog:Program}{w:World}{A:Around}{E:Value->Shared->Prop}{s:Shared}{κ:SortKind}{O:KeyOrd}{rk:Keyed->O.α}{S:Keyed->Prop}
variable {a0:Array Keyed}{lo:Nat}{p0:Array (Nat×Nat×Nat)}{g0:Nat}{st:SortSt}
theorem sG {n0 nrem:Nat}{f:Nat->Option (Option Nat)×Nat->StateT SortSt Sem (ForInStep (Option (Option Nat)×Nat))}{Q:Option (Option Nat)×Nat->SortSt->Prop}
  (hf:∀ x n (Q':ForInStep (Option (Option Nat)×Nat)->SortSt->Prop),1<=n->n < nrem->(O.blt (rk (kyd (arrOf st) (lo+n))) (rk (kyd (arrOf st) (lo+n - 1)))=true->Q' (.done (none,n)) st)->
    (O.blt (rk (kyd (arrOf st) (lo+n))) (rk (kyd (arrOf st) (lo+n - 1)))=false->Q' (.yield (none,n+1)) st)->wpS (model prog w) A E s (f x (none,n)) Q' st)
  (h1:1<=n0) (hn:n0<=nrem) (hu:Up rk (arrOf st) lo n0)
  (h:∀ n,n0<=n->n<=nrem->Up rk (arrOf st) lo n->(n=nrem\/O.klt (rk (kyd (arrOf st) (lo+n))) (rk (kyd (arrOf st) (lo+n - 1))))->Q (none,n) st):wpS (model prog w) A E s (forIn [n0:nrem] (none,n0) f) Q st:=by
 refine wpS_forRange (I:=λx c st'=>st'=st/\c=(none,x)/\Up rk (arrOf st) lo x) ?_ ?_ ⟨rfl,rfl,hu⟩
 ·rintro x c st' hx hxn ⟨rfl,rfl,hs⟩
  exact hf x x _ (by lia) hxn (λhl=>h x hx (by lia) hs (.inr hl)) λhl=>⟨rfl,rfl,hs.more (by lia) hl⟩
 ·rintro c st' ⟨rfl,rfl,hs⟩
  rw [show max n0 nrem=nrem by lia] at hs ⊢
  exact h nrem hn (Nat.le_refl _) hs (.inl rfl)
noncomputable def Eqs (rk:Keyed->O.α) (arr:Array Keyed) (lo m q:Nat):Prop:=q+1<=m/\∀ i,lo+m - (q+1)<=i->i < lo+m->rk (kyd arr i)=rk (kyd arr (lo+m - 1))
theorem ur {n0 nrem:Nat}{f:Nat->Option (Option Nat)×Nat×Nat->StateT SortSt Sem (ForInStep (Option (Option Nat)×Nat×Nat))}{Q:Option (Option Nat)×Nat×Nat->SortSt->Prop}
  (hf:∀ x n q st' (Q':ForInStep (Option (Option Nat)×Nat×Nat)->SortSt->Prop),1<=n->n < nrem->SB κ a0 lo p0 g0 st'->
    (O.blt (rk (kyd (arrOf st') (lo+n))) (rk (kyd (arrOf st') (lo+n - 1)))=true->0 < q->Q' (.yield (none,n+1,0)) (setArr st' (mirror (arrOf st') (lo+n - (q+1)) (lo+n) ((lo+n - (lo+n - (q+1))) / 2))))->
    (O.blt (rk (kyd (arrOf st') (lo+n))) (rk (kyd (arrOf st') (lo+n - 1)))=true->q=0->Q' (.yield (none,n+1,0)) st')->
    (O.blt (rk (kyd (arrOf st') (lo+n - 1))) (rk (kyd (arrOf st') (lo+n)))=true->Q' (.done (none,n,q)) st')->
    (O.blt (rk (kyd (arrOf st') (lo+n))) (rk (kyd (arrOf st') (lo+n - 1)))=false->O.blt (rk (kyd (arrOf st') (lo+n - 1))) (rk (kyd (arrOf st') (lo+n)))=false->Q' (.yield (none,n+1,q+1)) st')->
    wpS (model prog w) A E s (f x (none,n,q)) Q' st')
  (h1:1<=n0) (hn:n0<=nrem) (hz:lo+nrem<=a0.size) (hB:SB κ a0 lo p0 g0 st) (hd:gg rk (arrOf st) lo n0)
  (h:∀ n q st',n0<=n->n<=nrem->SB κ a0 lo p0 g0 st'->gg rk (arrOf st') lo n->Eqs rk (arrOf st') lo n q->Q (none,n,q) st'):wpS (model prog w) A E s (forIn [n0:nrem] (none,n0,0) f) Q st:=by
 have one:∀ (arr:Array Keyed) m,1<=m->Eqs rk arr lo m 0:=λarr m hm=>⟨by lia,λi h1 h2=>by rw [show i=lo+m - 1 by lia]⟩
 refine wpS_forRange (I:=λx c st'=>∃ q,c=(none,x,q)/\SB κ a0 lo p0 g0 st'/\gg rk (arrOf st') lo x/\Eqs rk (arrOf st') lo x q) ?_ ?_ ⟨0,rfl,hB,hd,one _ _ h1⟩
 ·rintro x c st' hx hxn ⟨q,rfl,hB',hs,he⟩
  have hsz:lo+x<=(arrOf st').size:=by rw [hB'.size];lia
  refine hf x x q st' _ (by lia) hxn hB' (λhl hq=>?_) (λhl hq=>?_) (λhl=>h x q st' hx (by lia) hB' hs he) λhl hl2=>?_
  ·have e:=gB (rk:=rk) (xs:=arrOf st') (i:=lo+x - (q+1)) (j:=lo+x) hsz he.2
   exact⟨0,rfl,hB'.rev (by have:=he.1;lia) (by lia),gg.congr (hs.more (by lia) (KeyOrd.kle_of_klt hl)) e,one _ _ (by lia)⟩
  ·exact⟨0,rfl,hB',hs.more (by lia) (KeyOrd.kle_of_klt hl),one _ _ (by lia)⟩
  ·have eq:rk (kyd (arrOf st') (lo+x))=rk (kyd (arrOf st') (lo+x - 1)):=KeyOrd.kle_antisymm hl2 hl
   refine⟨q+1,rfl,hB',hs.more (by lia) (by rw [eq];exact KeyOrd.kle_refl _),by have:=he.1;lia,λi h1 h2=>?_⟩
   rw [show lo+(x+1) - 1=lo+x by lia,eq]
   by_cases hi:i=lo+x
   ·rw [hi,eq]
   ·exact he.2 i (by lia) (by lia)
 ·rintro c st' ⟨q,rfl,hB',hs,he⟩
  rw [show max n0 nrem=nrem by lia] at hs he ⊢
  exact h nrem q st' hn (Nat.le_refl _) hB' hs he
theorem wd {m nrem:Nat}{f:Nat->Option (Option Nat)×Nat->StateT SortSt Sem (ForInStep (Option (Option Nat)×Nat))}{k:Option (Option Nat)×Nat->StateT SortSt Sem (Option Nat)}{Q:Option Nat->SortSt->Prop}
  (hB:SB κ a0 lo p0 g0 st) (hd:gg rk (arrOf st) lo m) (h1:1<=m) (hm:m<=nrem) (hz:lo+nrem<=a0.size)
  (hf:∀ x n (Q':ForInStep (Option (Option Nat)×Nat)->SortSt->Prop) st4,SB κ a0 lo p0 g0 st4->1<=n->n < nrem->(O.blt (rk (kyd (arrOf st4) (lo+n))) (rk (kyd (arrOf st4) (lo+n - 1)))=true->Q' (.done (none,n)) st4)->
    (O.blt (rk (kyd (arrOf st4) (lo+n))) (rk (kyd (arrOf st4) (lo+n - 1)))=false->Q' (.yield (none,n+1)) st4)->wpS (model prog w) A E s (f x (none,n)) Q' st4)
  (hk:∀ n st4,SB κ a0 lo p0 g0 st4->1<=n->n<=nrem->Up rk (arrOf st4) lo n->wpS (model prog w) A E s (k (none,n)) Q st4) :
  wpS (model prog w) A E s (do reverseSlice' lo (lo+m);let r <-forIn [m:nrem] (none,m) f;k r) Q st:=by
 refine wpS_bind (mL ?_)
 have hB4:=hB.rev (i:=lo) (j:=lo+m) (Nat.le_refl _) (by lia)
 refine wpS_bind (sG (rk:=rk) (lo:=lo) (λx n Q' hn1 hn2 hy hno=>hf x n Q' _ hB4 hn1 hn2 hy hno) h1 hm ?_ λn' hn1' hn2' hu' _=>hk n' _ hB4 (by lia) hn2' hu')
 intro i j hi hij hj
 have hs3:lo+m<=(arrOf st).size:=by rw [hB.size];lia
 show O.kle (rk (kyd (mirror (arrOf st) lo (lo+m) ((lo+m - lo) / 2)) i)) (rk (kyd (mirror (arrOf st) lo (lo+m) ((lo+m - lo) / 2)) j))
 rw [ie hs3,ie hs3,if_pos (by lia),if_pos (by lia)]
 exact hd _ _ (by lia) (by lia) (by lia)
set_option maxHeartbeats 1000000 in
theorem pI (hC:Cm prog w A s κ O rk S) (hS:∀ x ∈ a0.toList,S x) {nrem:Nat}{Q:Option Nat->SortSt->Prop} (hB:SB κ a0 lo p0 g0 st) (h1:1<=nrem) (hz:lo+nrem<=a0.size)
  (h:∀ m st',SB κ a0 lo p0 g0 st'->1<=m->m<=nrem->Up rk (arrOf st') lo m->Q (some m) st'):wpS (model prog w) A E s (wp lo nrem) Q st:=by
 have asc:∀ st' (_:SB κ a0 lo p0 g0 st') n (Q':Option Bool->SortSt->Prop),1<=n->n < nrem->Q' (some (O.blt (rk (kyd (arrOf st') (lo+n))) (rk (kyd (arrOf st') (lo+n - 1))))) st'->
   wpS (model prog w) A E s (ltAt' (lo+n) (lo+n - 1)) Q' st':=λst' hB' n Q' h1 h2 hq=>pH hC hS hB' (by lia) (by lia) hq
 refine wpS_bind (sG (rk:=rk) (lo:=lo) (λx n Q' hn1 hn2 hy hno=>?_) (Nat.le_refl 1) h1 Up.one λn hn1 hn2 hu hor=>?_)
 ·refine wpS_bind (asc st hB n _ hn1 hn2 ?_)
  cases hl:O.blt (rk (kyd (arrOf st) (lo+n))) (rk (kyd (arrOf st) (lo+n - 1))) with
  | true=>exact wpS_pure (hy hl)
  | false=>exact wpS_pure (hno hl)
 dsimp only
 by_cases hnn:n=nrem
 ·refine aU (by simpa using hnn) ?_
  exact wpS_pure (h n st hB hn1 hn2 hu)
 refine aM (by simpa using hnn) ?_
 have hlt:=hor.resolve_left hnn
 have hn3:n+1<=nrem:=by lia
 have hsz:lo+n<=(arrOf st).size:=by rw [hB.size];lia
 by_cases hgt:n > 1
 case' pos=>
  refine aU hgt ?_
  refine wpS_bind (pH hC hS hB (by lia) (by lia) ?_)
  by_cases hrose:O.blt (rk (kyd (arrOf st) lo)) (rk (kyd (arrOf st) (lo+n - 1)))=true
  ·rw [hrose];exact wpS_pure (h n st hB hn1 hn2 hu)
  rw [Bool.not_eq_true] at hrose
  rw [hrose]
  have hall:∀ k,lo<=k->k < lo+n->rk (kyd (arrOf st) k)=rk (kyd (arrOf st) (lo+n - 1)):=λk hk1 hk2=>
   KeyOrd.kle_antisymm (hu k (lo+n - 1) hk1 (by lia) (by lia)) (KeyOrd.kle_trans hrose (hu lo k (by lia) hk1 hk2))
  refine wpS_bind (mL ?_)
  have hB2:=hB.rev (i:=lo) (j:=lo+n) (Nat.le_refl _) (by lia)
  have hd:gg rk (arrOf (setArr st (mirror (arrOf st) lo (lo+n) ((lo+n - lo) / 2)))) lo (n+1):=by
   refine gg.congr (xs:=arrOf st) (gg.more (λi j hi hij hj=>?_) (by lia) (KeyOrd.kle_of_klt hlt)) (gB hsz hall)
   rw [hall i hi (by lia),hall j (by lia) hj];exact KeyOrd.kle_refl _
  generalize setArr st (mirror (arrOf st) lo (lo+n) ((lo+n - lo) / 2))=st2 at hB2 hd ⊢
  clear hu hlt hrose hall hB hsz hor
 case' neg=>
  refine aM hgt ?_
  have hB2:=hB
  have hd:gg rk (arrOf st) lo (n+1):=by
   refine gg.more (λi j hi hij hj=>?_) (by lia) (KeyOrd.kle_of_klt hlt)
   rw [show i=j by lia];exact KeyOrd.kle_refl _
  clear hu hlt hB hsz hor
  revert hB2 hd
  generalize st=st2
  intro hB2 hd
 all_goals
  refine wpS_bind (fY ?_)
  refine wpS_bind (ur (λx m q st' Q' hm1 hm2 hB' c1 c2 c3 c4=>?_) (by lia) hn3 hz hB2 hd λm q st' hm1 hm2 hB' hd' he=>?_)
  ·refine wpS_bind (asc st' hB' m _ hm1 hm2 ?_)
   cases hl:O.blt (rk (kyd (arrOf st') (lo+m))) (rk (kyd (arrOf st') (lo+m - 1))) with
   | true=>
    dsimp only
    refine aU rfl ?_
    by_cases hq:q > 0
    ·rw [if_pos hq];exact wpS_bind (mL (wpS_pure (c1 hl hq)))
    ·rw [if_neg hq];exact wpS_pure (c2 hl (by lia))
   | false=>
    dsimp only
    refine aM (by simp) ?_
    refine wpS_bind (pH hC hS hB' (by lia) (by lia) ?_)
    cases hl2:O.blt (rk (kyd (arrOf st') (lo+m - 1))) (rk (kyd (arrOf st') (lo+m))) with
    | true=>exact wpS_pure (c3 hl2)
    | false=>exact wpS_pure (c4 hl hl2)
  have hsz':lo+m<=(arrOf st').size:=by rw [hB'.size];lia
  dsimp only
  by_cases hq:q > 0
  case' pos=>
   refine aU hq ?_
   refine wpS_bind (mL ?_)
   have hB3:=hB'.rev (i:=lo+m - (q+1)) (j:=lo+m) (by have:=he.1;lia) (by lia)
   have hd3:gg rk (arrOf (setArr st' (mirror (arrOf st') (lo+m - (q+1)) (lo+m) ((lo+m - (lo+m - (q+1))) / 2)))) lo m:=gg.congr hd' (gB hsz' he.2)
   generalize setArr st' (mirror (arrOf st') (lo+m - (q+1)) (lo+m) ((lo+m - (lo+m - (q+1))) / 2))=st3 at hB3 hd3 ⊢
  case' neg=>
   refine aM hq ?_
   have hB3:=hB'
   have hd3:=hd'
  all_goals
   refine wd hB3 hd3 (by lia) hm2 hz (λx n' Q' st4 hB4 hn1' hn2' hy hno=>?_) λn' st4 hB4 a1 a2 a3=>wpS_pure (h n' st4 hB4 a1 a2 a3)
   refine wpS_bind (asc st4 hB4 n' _ hn1' hn2' ?_)
   cases hl:O.blt (rk (kyd (arrOf st4) (lo+n'))) (rk (kyd (arrOf st4) (lo+n' - 1))) with
   | true=>exact wpS_pure (hy hl)
   | false=>exact wpS_pure (hno hl)
end
end L2
namespace L2
open PySem PySem.Spec PyProof.Rows
section
variable {prog:Program}{w:World}{A:Around}{E:Value->Shared->Prop}{s:Shared}{κ:SortKind}{O:KeyOrd}{rk:Keyed->O.α}{S:Keyed->Prop}
variable {a0:Array Keyed}{lo:Nat}{p0:Array (Nat×Nat×Nat)}{g0:Nat}{st:SortSt}
set_option maxHeartbeats 1000000 in
theorem nU (hC:Cm prog w A s κ O rk S) (hS:∀ x ∈ a0.toList,S x) {n ok:Nat}{Q:Bool->SortSt->Prop} (hB:SB κ a0 lo p0 g0 st) (h1:1<=ok) (hok:ok<=n) (hz:lo+n<=a0.size) (hu:Up rk (arrOf st) lo ok)
  (h:∀ st',SB κ a0 lo p0 g0 st'->Up rk (arrOf st') lo n->Q true st'):wpS (model prog w) A E s (uW lo n ok) Q st:=by
 refine wpS_bind (wpS_mono (wpS_forRange (I:=λk c st'=>c=(none,())/\SB κ a0 lo p0 g0 st'/\Up rk (arrOf st') lo (min k n)) (Q:=λc st'=>c=(none,())/\SB κ a0 lo p0 g0 st'/\Up rk (arrOf st') lo n) ?_ ?_ ?_) ?_)
 ·rintro k c st' hk hkn ⟨rfl,hB',hs⟩
  rw [show min k n=k by lia] at hs
  dsimp only
  refine wpS_bind (wpS_mono (wpS_forRange (I:=λx c st2=>st2=st'/\∃ l r,c=(none,l,r)/\l<=r/\r<=k/\r - l<=k - x/\(∀ i,i < l->O.kle (rk (kyd (arrOf st') (lo+i))) (rk (kyd (arrOf st') (lo+k))))/\
    ∀ i,r<=i->i < k->O.klt (rk (kyd (arrOf st') (lo+k))) (rk (kyd (arrOf st') (lo+i))))
   (Q:=λc st2=>st2=st'/\∃ l r,c=(none,l,r)/\l<=k/\(∀ i,i < l->O.kle (rk (kyd (arrOf st') (lo+i))) (rk (kyd (arrOf st') (lo+k))))/\∀ i,l<=i->i < k->O.klt (rk (kyd (arrOf st') (lo+k))) (rk (kyd (arrOf st') (lo+i)))) ?_ ?_ ?_) ?_)
  ·rintro x c st2 _ hxk ⟨rfl,l,r,rfl,hlr,hrk,hm,hlo,hhi⟩
   dsimp only
   by_cases hge:l>=r
   ·refine aU hge ?_
    have e:l=r:=by lia
    subst e
    exact wpS_pure ⟨rfl,l,l,rfl,hrk,hlo,hhi⟩
   ·refine aM hge ?_
    refine wpS_bind (pH hC hS hB' (by lia) (by lia) ?_)
    cases hl:O.blt (rk (kyd (arrOf st2) (lo+k))) (rk (kyd (arrOf st2) (lo+(l+r) / 2))) with
    | true=>exact wpS_pure ⟨rfl,l,(l+r) / 2,rfl,by lia,by lia,by lia,hlo,λi h1 h2=>KeyOrd.klt_of_klt_of_kle hl (hs _ _ (by lia) (by lia) (by lia))⟩
    | false=>exact wpS_pure ⟨rfl,(l+r) / 2+1,r,rfl,by lia,by lia,by lia,λi h1=>KeyOrd.kle_trans (hs (lo+i) (lo+(l+r) / 2) (by lia) (by lia) (by lia)) hl,hhi⟩
  ·rintro c st2 ⟨rfl,l,r,rfl,hlr,hrk,hm,hlo,hhi⟩
   have e:l=r:=by lia
   subst e
   exact⟨rfl,l,l,rfl,hrk,hlo,hhi⟩
  ·exact⟨rfl,0,k,rfl,by lia,by lia,by lia,λi hi=>by lia,λi h1 h2=>by lia⟩
  ·rintro c st2 ⟨rfl,l,r,rfl,hlk,hlo,hhi⟩
   dsimp only
   refine wpS_bind (m:=moveDown' (lo+k) (lo+l)) ?_
   rw [moveDown'_eq]
   have hks:lo+k < (arrOf st2).size:=by rw [hB'.size];lia
   refine wpS_modify (wpS_pure ⟨rfl,hB'.set (bubble_perm _ _ _) λi hi=>?_,?_⟩)
   ·rw [getElem?_bubble hks _ (by lia),if_neg (by lia),if_neg (by lia)]
   ·rw [show min (k+1) n=k+1 by lia]
    intro i j hi hij hj
    show O.kle (rk (kyd (bubble (arrOf st2) (lo+k) (lo+k - (lo+l))) i)) (rk (kyd (bubble (arrOf st2) (lo+k) (lo+k - (lo+l))) j))
    rw [kl hks (by lia),kl hks (by lia),show lo+k - (lo+k - (lo+l))=lo+l by lia]
    have hlo':∀ i,lo<=i->i < lo+l->O.kle (rk (kyd (arrOf st2) i)) (rk (kyd (arrOf st2) (lo+k))):=λi h1 h2=>by
     have:=hlo (i - lo) (by lia);rwa [show lo+(i - lo)=i by lia] at this
    have hhi':∀ i,lo+l<=i->i < lo+k->O.klt (rk (kyd (arrOf st2) (lo+k))) (rk (kyd (arrOf st2) i)):=λi h1 h2=>by
     have:=hhi (i - lo) (by lia) (by lia);rwa [show lo+(i - lo)=i by lia] at this
    repeat' split
    all_goals first
     | (exfalso;lia)
     | exact KeyOrd.kle_refl _
     | exact hlo' _ (by lia) (by lia)
     | exact KeyOrd.kle_of_klt (hhi' _ (by lia) (by lia))
     | exact hs _ _ (by lia) (by lia) (by lia)
 ·rintro c st' ⟨rfl,hB',hs⟩
  rw [show min (max (max ok 1) n) n=n by lia] at hs
  exact⟨rfl,hB',hs⟩
 ·rw [show max ok 1=ok by lia,show min ok n=ok by lia]
  exact⟨rfl,hB,hu⟩
 ·rintro c st' ⟨rfl,hB',hs⟩
  exact wpS_pure (h st' hB' hs)
noncomputable def bey (O:KeyOrd) (rk:Keyed->O.α) (left:Bool) (key x:Keyed):Bool:=if left=true then O.blt (rk x) (rk key) else !O.blt (rk key) (rk x)
set_option maxHeartbeats 1000000 in
theorem dW (hC:Cm prog w A s κ O rk S) {left:Bool}{key:Keyed}{arr:Array Keyed}{base n hint:Nat}{Q:Option Nat->SortSt->Prop} (hk:kindOf st=κ) (hkey:S key) (hz:base+n<=arr.size) (hS:∀ i,i < n->S (kyd arr (base+i)))
  (hh:hint < n) (anti:∀ i j,i<=j->j < n->bey O rk left key (kyd arr (base+j))=true->bey O rk left key (kyd arr (base+i))=true)
  (h:∀ k,k<=n->(∀ i,i < k->bey O rk left key (kyd arr (base+i))=true)->(∀ i,k<=i->i < n->bey O rk left key (kyd arr (base+i))=false)->Q (some k) st) :
  wpS (model prog w) A E s (lZ left key arr base n hint) Q st:=by
 have bey1:∀ i (Q':Option Bool->SortSt->Prop),i < n->Q' (some (bey O rk left key (kyd arr (base+i)))) st->wpS (model prog w) A E s (elem' arr (base+i) >>= λx=>if left=true then lt' x key else lt' key x >>= λb=>pure (b.map (!·))) Q' st:=λi Q' hi hq=>by
  refine wpS_bind (aS (aK (by lia)) ?_)
  cases left with
  | true=>exact nV hC hk (hS i hi) hkey hq
  | false=>exact wpS_bind (nV hC hk hkey (hS i hi) (wpS_pure hq))
 have bin:∀ l0 h0,l0<=h0->h0<=n->(∀ i,i < l0->bey O rk left key (kyd arr (base+i))=true)->(∀ i,h0<=i->i < n->bey O rk left key (kyd arr (base+i))=false)->
   ∀ (f:Nat->Option (Option Nat)×Nat×Nat->StateT SortSt Sem (ForInStep (Option (Option Nat)×Nat×Nat))) (k:Option (Option Nat)×Nat×Nat->StateT SortSt Sem (Option Nat)),
   (∀ x l r (Q':ForInStep (Option (Option Nat)×Nat×Nat)->SortSt->Prop),l<=r->r<=n->(r<=l->Q' (.done (none,l,r)) st)->(l < r->bey O rk left key (kyd arr (base+(l+(r - l) / 2)))=true->Q' (.yield (none,l+(r - l) / 2+1,r)) st)->
     (l < r->bey O rk left key (kyd arr (base+(l+(r - l) / 2)))=false->Q' (.yield (none,l,l+(r - l) / 2)) st)->wpS (model prog w) A E s (f x (none,l,r)) Q' st)->
   (∀ l r,k (none,l,r)=pure (some r))->wpS (model prog w) A E s (forIn [0:n] (none,l0,h0) f >>= k) Q st:=λl0 h0 e1 e2 e3 e4 f k hf hkk=>by
  refine wpS_bind (wpS_mono (wpS_forRange (I:=λx c st2=>st2=st/\∃ l r,c=(none,l,r)/\l<=r/\r<=n/\r - l<=n - x/\(∀ i,i < l->bey O rk left key (kyd arr (base+i))=true)/\∀ i,r<=i->i < n->bey O rk left key (kyd arr (base+i))=false)
   (Q:=λc st2=>st2=st/\∃ r,c=(none,r,r)/\r<=n/\(∀ i,i < r->bey O rk left key (kyd arr (base+i))=true)/\∀ i,r<=i->i < n->bey O rk left key (kyd arr (base+i))=false) ?_ ?_ ?_) ?_)
  ·rintro x c st2 _ hx ⟨rfl,l,r,rfl,a1,a2,a3,a4,a5⟩
   refine hf x l r _ a1 a2 (λhrl=>?_) (λhlr ht=>?_) λhlr ht=>?_
   ·have e:l=r:=by lia
    subst e
    exact⟨rfl,l,rfl,a2,a4,a5⟩
   ·refine⟨rfl,_,_,rfl,by lia,a2,by lia,λi hi=>?_,a5⟩
    exact anti i (l+(r - l) / 2) (by lia) (by lia) ht
   ·refine⟨rfl,_,_,rfl,by lia,by lia,by lia,a4,λi h1 h2=>?_⟩
    cases q:bey O rk left key (kyd arr (base+i)) with
    | false=>rfl
    | true=>rw [anti (l+(r - l) / 2) i h1 h2 q] at ht;cases ht
  ·rintro c st2 ⟨rfl,l,r,rfl,a1,a2,a3,a4,a5⟩
   have e:l=r:=by lia
   subst e
   exact⟨rfl,l,rfl,a2,a4,a5⟩
  ·exact⟨rfl,l0,h0,rfl,e1,e2,by lia,e3,e4⟩
  ·rintro c st2 ⟨rfl,r,rfl,a2,a4,a5⟩
   rw [hkk]
   exact wpS_pure (h r a2 a4 a5)
 refine wpS_bind (bey1 hint _ hh ?_)
 dsimp only
 cases hb:bey O rk left key (kyd arr (base+hint)) with
 | true=>
  refine aU rfl ?_
  refine wpS_bind (wpS_mono (wpS_forRange (I:=λx c st2=>st2=st/\∃ l o,c=(none,l,o)/\l < o/\x+1<=o/\hint+l < n/\bey O rk left key (kyd arr (base+(hint+l)))=true)
   (Q:=λc st2=>st2=st/\∃ l o,c=(none,l,o)/\l < o/\hint+l < n/\bey O rk left key (kyd arr (base+(hint+l)))=true/\(n - hint<=o\/hint+o < n/\bey O rk left key (kyd arr (base+(hint+o)))=false)) ?_ ?_ ?_) ?_)
  ·rintro x c st2 _ hx ⟨rfl,l,o,rfl,a1,a2,a3,a4⟩
   dsimp only
   by_cases ho:o>=n - hint
   ·rw [if_pos ho];exact wpS_pure ⟨rfl,l,o,rfl,a1,a3,a4,.inl ho⟩
   ·refine aM ho ?_
    refine wpS_bind (bey1 (hint+o) _ (by lia) ?_)
    cases hb2:bey O rk left key (kyd arr (base+(hint+o))) with
    | true=>exact wpS_pure ⟨rfl,o,2*o+1,rfl,by lia,by lia,by lia,hb2⟩
    | false=>exact wpS_pure ⟨rfl,l,o,rfl,a1,a3,a4,.inr ⟨by lia,hb2⟩⟩
  ·rintro c st2 ⟨rfl,l,o,rfl,a1,a2,a3,a4⟩
   exact⟨rfl,l,o,rfl,a1,a3,a4,.inl (by lia)⟩
  ·exact⟨rfl,0,1,rfl,by lia,by lia,by lia,hb⟩
  ·rintro c st2 ⟨rfl,l,o,rfl,a1,a3,a4,a5⟩
   dsimp only
   refine bin _ _ (by lia) (by lia) (λi hi=>anti i (hint+l) (by lia) a3 a4) (λi h1 h2=>?_) _ _ (λx l r Q' b1 b2 c1 c2 c3=>?_) λl r=>rfl
   ·rcases a5 with a5 | a5
    ·lia
    ·cases q:bey O rk left key (kyd arr (base+i)) with
     | false=>rfl
     | true=>rw [anti (hint+o) i (by lia) h2 q] at a5;exact absurd a5.2 (by simp)
   ·dsimp only
    by_cases hge:l>=r
    ·rw [if_pos hge];exact wpS_pure (c1 hge)
    ·refine aM hge ?_
     refine wpS_bind (bey1 (l+(r - l) / 2) _ (by lia) ?_)
     cases hb3:bey O rk left key (kyd arr (base+(l+(r - l) / 2))) with
     | true=>exact wpS_pure (c2 (by lia) hb3)
     | false=>exact wpS_pure (c3 (by lia) hb3)
 | false=>
  refine aM (by simp) ?_
  refine wpS_bind (wpS_mono (wpS_forRange (I:=λx c st2=>st2=st/\∃ l o,c=(none,l,o)/\l < o/\x+1<=o/\l<=hint/\bey O rk left key (kyd arr (base+(hint - l)))=false)
   (Q:=λc st2=>st2=st/\∃ l o,c=(none,l,o)/\l < o/\l<=hint/\bey O rk left key (kyd arr (base+(hint - l)))=false/\(hint+1<=o\/o<=hint/\bey O rk left key (kyd arr (base+(hint - o)))=true)) ?_ ?_ ?_) ?_)
  ·rintro x c st2 _ hx ⟨rfl,l,o,rfl,a1,a2,a3,a4⟩
   dsimp only
   by_cases ho:o>=hint+1
   ·rw [if_pos ho];exact wpS_pure ⟨rfl,l,o,rfl,a1,a3,a4,.inl ho⟩
   ·refine aM ho ?_
    refine wpS_bind (bey1 (hint - o) _ (by lia) ?_)
    cases hb2:bey O rk left key (kyd arr (base+(hint - o))) with
    | false=>exact wpS_pure ⟨rfl,o,2*o+1,rfl,by lia,by lia,by lia,hb2⟩
    | true=>exact wpS_pure ⟨rfl,l,o,rfl,a1,a3,a4,.inr ⟨by lia,hb2⟩⟩
  ·rintro c st2 ⟨rfl,l,o,rfl,a1,a2,a3,a4⟩
   exact⟨rfl,l,o,rfl,a1,a3,a4,.inl (by lia)⟩
  ·exact⟨rfl,0,1,rfl,by lia,by lia,by lia,hb⟩
  ·rintro c st2 ⟨rfl,l,o,rfl,a1,a3,a4,a5⟩
   dsimp only
   refine bin _ _ (by lia) (by lia) (λi hi=>?_) (λi h1 h2=>?_) _ _ (λx l r Q' b1 b2 c1 c2 c3=>?_) λl r=>rfl
   ·rcases a5 with a5 | a5
    ·lia
    ·exact anti i (hint - o) (by lia) (by lia) a5.2
   ·cases q:bey O rk left key (kyd arr (base+i)) with
    | false=>rfl
    | true=>rw [anti (hint - l) i (by lia) h2 q] at a4;cases a4
   ·dsimp only
    by_cases hge:l>=r
    ·rw [if_pos hge];exact wpS_pure (c1 hge)
    ·refine aM hge ?_
     refine wpS_bind (bey1 (l+(r - l) / 2) _ (by lia) ?_)
     cases hb3:bey O rk left key (kyd arr (base+(l+(r - l) / 2))) with
     | true=>exact wpS_pure (c2 (by lia) hb3)
     | false=>exact wpS_pure (c3 (by lia) hb3)
end
end L2
namespace L2
open PySem PySem.Spec PyProof.Rows
section
variable {O:KeyOrd}{rk:Keyed->O.α}
noncomputable def mrg (O:KeyOrd) (rk:Keyed->O.α) (xs ys:List Keyed):List Keyed:=List.merge xs ys λx y=>!O.blt (rk y) (rk x)
theorem fR (xs:List Keyed):mrg O rk xs []=xs:=by unfold mrg;simp
theorem gH (ys:List Keyed):mrg O rk [] ys=ys:=by unfold mrg;simp
theorem lC {x y:Keyed}{xs ys:List Keyed} (h:O.blt (rk y) (rk x)=false):mrg O rk (x::xs) (y::ys)=x::mrg O rk xs (y::ys):=by
 unfold mrg;rw [List.cons_merge_cons,h];rfl
theorem ku {x y:Keyed}{xs ys:List Keyed} (h:O.blt (rk y) (rk x)=true):mrg O rk (x::xs) (y::ys)=y::mrg O rk (x::xs) ys:=by
 unfold mrg;rw [List.cons_merge_cons,h];rfl
theorem mm {x:Keyed}:∀ {ys:List Keyed},(∀ y ∈ ys,O.blt (rk y) (rk x)=true)->mrg O rk [x] ys=ys++[x]
 | [],_=>fR _
 | y::ys,h=>by rw [ku (h y List.mem_cons_self),mm λz hz=>h z (List.mem_cons_of_mem _ hz)];rfl
theorem je {x:Keyed}:∀ (xs ys:List Keyed),(∀ y ∈ ys,O.blt (rk y) (rk x)=true)->mrg O rk (xs++[x]) ys=mrg O rk xs ys++[x]
 | [],ys,h=>by rw [List.nil_append,mm h,gH]
 | a::xs,[],h=>by rw [fR,fR]
 | a::xs,y::ys,h=>by
  rw [List.cons_append]
  cases hb:O.blt (rk y) (rk a) with
  | true=>rw [ku hb,ku hb,<-List.cons_append,je (a::xs) ys λz hz=>h z (List.mem_cons_of_mem _ hz)];rfl
  | false=>rw [lC hb,lC hb,je xs (y::ys) h];rfl
termination_by xs ys=>xs.length+ys.length
theorem pk {y:Keyed}:∀ {xs:List Keyed},(∀ x ∈ xs,O.blt (rk y) (rk x)=false)->mrg O rk xs [y]=xs++[y]
 | [],_=>gH _
 | x::xs,h=>by rw [lC (h x List.mem_cons_self),pk λz hz=>h z (List.mem_cons_of_mem _ hz)];rfl
theorem jf {y:Keyed}:∀ (xs ys:List Keyed),(∀ x ∈ xs,O.blt (rk y) (rk x)=false)->mrg O rk xs (ys++[y])=mrg O rk xs ys++[y]
 | xs,[],h=>by rw [List.nil_append,pk h,fR]
 | [],b::ys,h=>by rw [gH,gH]
 | a::xs,b::ys,h=>by
  rw [List.cons_append]
  cases hb:O.blt (rk b) (rk a) with
  | true=>rw [ku hb,ku hb,jf (a::xs) ys h];rfl
  | false=>rw [lC hb,lC hb,<-List.cons_append,jf xs (b::ys) λz hz=>h z (List.mem_cons_of_mem _ hz)];rfl
termination_by xs ys=>xs.length+ys.length
theorem kt (xs ys:List Keyed):(mrg O rk xs ys).Perm (xs++ys):=List.merge_perm_append _
theorem vo {xs ys:List Keyed} (hx:xs.Pairwise λa b=>O.kle (rk a) (rk b)) (hy:ys.Pairwise λa b=>O.kle (rk a) (rk b)):(mrg O rk xs ys).Pairwise λa b=>O.kle (rk a) (rk b):=by
 have:=List.pairwise_merge (le:=λx y=>!O.blt (rk y) (rk x)) (λa b c h1 h2=>by
   simp only [Bool.not_eq_true'] at *;exact KeyOrd.kle_trans (O:=O) h1 h2) (λa b=>by
   simp only [Bool.or_eq_true,Bool.not_eq_true']
   cases h:O.blt (rk b) (rk a) with
   | false=>exact .inl rfl
   | true=>exact .inr (KeyOrd.klt_asymm (O:=O) h)) xs ys (hx.imp λh=>by rw [Bool.not_eq_true'];exact h) (hy.imp λh=>by rw [Bool.not_eq_true'];exact h)
 exact this.imp λh=>by rw [Bool.not_eq_true'] at h;exact h
theorem du {a:Array Keyed}{i:Nat} (h:i < a.size):a.toList.drop i=kyd a i::a.toList.drop (i+1):=by
 have e:=aK h
 rw [Array.getElem?_eq_getElem h] at e
 rw [List.drop_eq_getElem_cons (by simpa using h)]
 rw [<-Option.some.inj e];simp
theorem kI {a:Array Keyed}{i:Nat} (h:i < a.size):a.toList.take (i+1)=a.toList.take i++[kyd a i]:=by
 have e:=aK h
 rw [Array.getElem?_eq_getElem h] at e
 rw [List.take_succ_eq_append_getElem (by simpa using h)]
 rw [<-Option.some.inj e];simp
theorem ph {a:Array Keyed}{x:Keyed} (h:x ∈ a.toList):∃ i,i < a.size/\x=kyd a i:=by
 obtain⟨i,hi,e⟩:=List.mem_iff_getElem.mp h
 have hi':i < a.size:=by simpa using hi
 refine⟨i,hi',?_⟩
 have q:=aK hi'
 rw [Array.getElem?_eq_getElem hi'] at q
 rw [<-Option.some.inj q,<-e];simp
noncomputable def MI (O:KeyOrd) (rk:Keyed->O.α) (a b out:Array Keyed) (ia ib:Nat):Prop:=out.toList++mrg O rk (a.toList.drop ia) (b.toList.drop ib)=mrg O rk a.toList b.toList
variable {a b out:Array Keyed}{ia ib:Nat}
theorem MI.start:MI O rk a b #[] 0 0:=by unfold MI;simp
theorem MI.b1 (h:MI O rk a b out ia ib) (hb:ib < b.size) (ha:ia < a.size) (hl:O.blt (rk (kyd b ib)) (rk (kyd a ia))=true):MI O rk a b (out.push (kyd b ib)) ia (ib+1):=by
 unfold MI at *
 rw [du ha,du hb,ku hl] at h
 rw [<-h,du ha];simp
theorem MI.a1 (h:MI O rk a b out ia ib) (hb:ib < b.size) (ha:ia < a.size) (hl:O.blt (rk (kyd b ib)) (rk (kyd a ia))=false):MI O rk a b (out.push (kyd a ia)) (ia+1) ib:=by
 unfold MI at *
 rw [du ha,du hb,lC hl] at h
 rw [<-h,du hb];simp
theorem j0 {a:Array Keyed}{i k:Nat} (h:i+k < a.size):(out++a.extract i (i+(k+1)))=(out++a.extract i (i+k)).push (kyd a (i+k)):=by
 apply Array.toList_inj.mp
 rw [Array.toList_push,Array.toList_append,Array.toList_append,Array.toList_extract,Array.toList_extract]
 simp only [List.extract_eq_take_drop,Nat.add_sub_cancel_left]
 have e:(a.toList.drop i).take (k+1)=(a.toList.drop i).take k++[kyd a (i+k)]:=by
  rw [List.take_succ_eq_append_getElem (by simp;lia)]
  have q:=aK h
  rw [Array.getElem?_eq_getElem h] at q
  rw [<-Option.some.inj q];simp
 rw [e,List.append_assoc]
theorem mV {a:Array Keyed}{i:Nat}:out++a.extract i (i+0)=out:=by
 apply Array.toList_inj.mp
 simp
theorem MI.as (h:MI O rk a b out ia ib) (hb:ib < b.size):∀ k,ia+k<=a.size->(∀ i,i < k->bey O rk false (kyd b ib) (kyd a (ia+i))=true)->MI O rk a b (out++a.extract ia (ia+k)) (ia+k) ib
 | 0,_,_=>by rw [mV];exact h
 | k+1,hk,hq=>by
  rw [j0 (by lia)]
  have:=MI.a1 (MI.as h hb k (by lia) λi hi=>hq i (by lia)) hb (by lia) (by simpa [bey] using hq k (by lia))
  exact this
theorem MI.bs (h:MI O rk a b out ia ib) (ha:ia < a.size):∀ k,ib+k<=b.size->(∀ i,i < k->bey O rk true (kyd a ia) (kyd b (ib+i))=true)->MI O rk a b (out++b.extract ib (ib+k)) ia (ib+k)
 | 0,_,_=>by rw [mV];exact h
 | k+1,hk,hq=>by
  rw [j0 (by lia)]
  exact MI.b1 (MI.bs h ha k (by lia) λi hi=>hq i (by lia)) (by lia) ha (by simpa [bey] using hq k (by lia))
theorem eK {a:Array Keyed}{i:Nat}:(a.extract i a.size).toList=a.toList.drop i:=by
 rw [Array.toList_extract,List.extract_eq_take_drop,List.take_of_length_le (by simp)]
theorem MI.doneB (h:MI O rk a b out ia ib) (hb:ib=b.size):(out++a.extract ia a.size++b.extract ib b.size).toList=mrg O rk a.toList b.toList:=by
 unfold MI at h
 subst hb
 rw [Array.toList_append,Array.toList_append,eK,eK,<-h]
 rw [show b.toList.drop b.size=[] by simp,fR,List.append_nil]
theorem MI.doneA (h:MI O rk a b out ia ib) (ha:ia=a.size):(out++a.extract ia a.size++b.extract ib b.size).toList=mrg O rk a.toList b.toList:=by
 unfold MI at h
 subst ha
 rw [Array.toList_append,Array.toList_append,eK,eK,<-h]
 rw [show a.toList.drop a.size=[] by simp,gH,List.append_nil]
theorem MI.lastA (h:MI O rk a b out ia ib) (ha:ia+1=a.size) (hl:∀ i,i < b.size->O.blt (rk (kyd b i)) (rk (kyd a (a.size - 1)))=true):(out++b.extract ib b.size++a.extract ia a.size).toList=mrg O rk a.toList b.toList:=by
 unfold MI at h
 rw [Array.toList_append,Array.toList_append,eK,eK,<-h,du (by lia:ia < a.size),show a.toList.drop (ia+1)=[] by simp;lia,mm,List.append_assoc]
 intro y hy
 obtain⟨i,hi,rfl⟩:=ph (List.mem_of_mem_drop hy)
 rw [show ia=a.size - 1 by lia]
 exact hl i hi
noncomputable def MH (O:KeyOrd) (rk:Keyed->O.α) (a b out:Array Keyed) (na nb:Nat):Prop:=mrg O rk (a.toList.take na) (b.toList.take nb)++out.toList.reverse=mrg O rk a.toList b.toList
variable {na nb:Nat}
theorem MH.start:MH O rk a b #[] a.size b.size:=by
 unfold MH
 rw [List.take_of_length_le (by simp),List.take_of_length_le (by simp)];simp
theorem MH.a1 (h:MH O rk a b out (na+1) nb) (ha:na < a.size) (hl:∀ i,i < nb->i < b.size->O.blt (rk (kyd b i)) (rk (kyd a na))=true):MH O rk a b (out.push (kyd a na)) na nb:=by
 unfold MH at *
 rw [kI ha,je _ _ λy hy=>?_] at h
 ·rw [<-h];simp
 ·obtain⟨i,hi,e⟩:=List.mem_iff_getElem.mp hy
  have hi':i < nb/\i < b.size:=by simp at hi;lia
  have q:=aK hi'.2
  rw [Array.getElem?_eq_getElem hi'.2] at q
  have:y=kyd b i:=by rw [<-e,<-Option.some.inj q];simp
  rw [this];exact hl i hi'.1 hi'.2
theorem MH.b1 (h:MH O rk a b out na (nb+1)) (hb:nb < b.size) (hl:∀ i,i < na->i < a.size->O.blt (rk (kyd b nb)) (rk (kyd a i))=false):MH O rk a b (out.push (kyd b nb)) na nb:=by
 unfold MH at *
 rw [kI hb,jf _ _ λy hy=>?_] at h
 ·rw [<-h];simp
 ·obtain⟨i,hi,e⟩:=List.mem_iff_getElem.mp hy
  have hi':i < na/\i < a.size:=by simp at hi;lia
  have q:=aK hi'.2
  rw [Array.getElem?_eq_getElem hi'.2] at q
  have:y=kyd a i:=by rw [<-e,<-Option.some.inj q];simp
  rw [this];exact hl i hi'.1 hi'.2
end
end L2
namespace L2
open PySem PySem.Spec PyProof.Rows
section
variable {prog:Program}{w:World}{A:Around}{E:Value->Shared->Prop}{s:Shared}{κ:SortKind}{O:KeyOrd}{rk:Keyed->O.α}{S:Keyed->Prop}{st:SortSt}{a b:Array Keyed}
noncomputable def Gs (st st':SortSt):Prop:=∃ g,st'=vZ st g
theorem Gs.refl:Gs st st:=⟨gallopOf st,rfl⟩
theorem Gs.kind {st':SortSt} (h:Gs st st'):kindOf st'=kindOf st:=by obtain⟨g,rfl⟩:=h;rfl
theorem Gs.set {st':SortSt} (h:Gs st st') (g:Nat):Gs st (SortSt.mk' (kindOf st') (arrOf st') (pendingOf st') g (failedOf st')):=by obtain⟨g',rfl⟩:=h;exact⟨g,rfl⟩
structure Two (O:KeyOrd) (rk:Keyed->O.α) (S:Keyed->Prop) (a b:Array Keyed):Prop where
 sa:∀ i,i < a.size->S (kyd a i)
 sb:∀ i,i < b.size->S (kyd b i)
 ua:Up rk a 0 a.size
 ub:Up rk b 0 b.size
 pa:0 < a.size
 pb:0 < b.size
 first:O.blt (rk (kyd b 0)) (rk (kyd a 0))=true
 last:∀ i,i < b.size->O.blt (rk (kyd b i)) (rk (kyd a (a.size - 1)))=true
theorem Two.galA (T:Two O rk S a b) {ia na:Nat}{key:Keyed} (hn:ia+na<=a.size):∀ i j,i<=j->j < na->bey O rk false key (kyd a (ia+j))=true->bey O rk false key (kyd a (ia+i))=true:=λi j hij hj h=>by
 simp only [bey,Bool.false_eq_true,if_false,Bool.not_eq_true'] at h ⊢
 exact KeyOrd.kle_trans (O:=O) (T.ua (ia+i) (ia+j) (Nat.zero_le _) (by lia) (by lia)) h
theorem Two.galB (T:Two O rk S a b) {ib nb:Nat}{key:Keyed} (hn:ib+nb<=b.size):∀ i j,i<=j->j < nb->bey O rk true key (kyd b (ib+j))=true->bey O rk true key (kyd b (ib+i))=true:=λi j hij hj h=>by
 simp only [bey,if_true] at h ⊢
 exact KeyOrd.klt_of_kle_of_klt (O:=O) (T.ub (ib+i) (ib+j) (Nat.zero_le _) (by lia) (by lia)) h
set_option maxHeartbeats 4000000 in
theorem ux (hC:Cm prog w A s κ O rk S) {Q:Array Keyed->SortSt->Prop} (hk:kindOf st=κ) (T:Two O rk S a b)
  (h:∀ r st',Gs st st'->r.toList=mrg O rk a.toList b.toList->Q r st'):wpS (model prog w) A E s (wH a b) Q st:=by
 refine wpS_bind (fY ?_)
 refine wpS_bind (aS (aK T.pb) ?_)
 have I0:MI O rk a b #[kyd b 0] 0 1:=MI.start.b1 T.pb T.pa T.first
 dsimp -zeta only
 by_cases e1:1=b.size
 ·refine aU (by simpa using e1) ?_
  exact wpS_pure (h _ _ .refl (I0.doneB e1))
 refine aM (by simpa using e1) ?_
 by_cases e2:0+1=a.size
 ·refine aU (by simpa using e2) ?_
  exact wpS_pure (h _ _ .refl (I0.lastA e2 T.last))
 refine aM (by simpa using e2) ?_
 have pa:=T.pa
 have pb:=T.pb
 refine wpS_bind (wpS_get ?_)
 refine wpS_bind (wpS_mono (wpS_forRange (I:=λx c st'=>∃ out ia ib g,c=(none,out,ia,ib,g)/\MI O rk a b out ia ib/\ia+1 < a.size/\ib < b.size/\x+1<=ia+ib/\Gs st st')
  (Q:=λc st'=>∃ r c',c=(some r,c')/\r.toList=mrg O rk a.toList b.toList/\Gs st st') ?_ ?_ ?_) ?_)
 ·rintro x c st' _ hx ⟨out,ia,ib,g,rfl,I,ha,hb,hp,hG⟩
  have hk':kindOf st'=κ:=hG.kind.trans hk
  refine wpS_bind (wpS_mono (wpS_forRange (I:=λy c st2=>st2=st'/\∃ out ja jb ac bc,c=(none,out,ja,jb,ac,bc)/\MI O rk a b out ja jb/\ja+1 < a.size/\jb < b.size/\ia+ib+y<=ja+jb)
   (Q:=λc st2=>st2=st'/\((∃ r c',c=(some r,c')/\r.toList=mrg O rk a.toList b.toList)\/∃ out ja jb ac bc,c=(none,out,ja,jb,ac,bc)/\MI O rk a b out ja jb/\ja+1 < a.size/\jb < b.size/\ia+ib+1<=ja+jb)) ?_ ?_ ?_) ?_)
  ·rintro y c st2 _ hy ⟨rfl,out2,ja,jb,ac,bc,rfl,I2,ha2,hb2,hp2⟩
   dsimp only
   refine wpS_bind (aS (aK hb2) (wpS_bind (aS (aK (by lia)) (wpS_bind (nV hC hk' (T.sb _ hb2) (T.sa _ (by lia)) ?_)))))
   cases hl:O.blt (rk (kyd b jb)) (rk (kyd a ja)) with
   | true=>
    dsimp only
    refine aU rfl ?_
    refine wpS_bind (aS (aK hb2) ?_)
    have I3:=I2.b1 hb2 (by lia) hl
    by_cases e3:jb+1=b.size
    ·refine aU (by simpa using e3) ?_
     exact wpS_pure ⟨rfl,.inl ⟨_,_,rfl,I3.doneB e3⟩⟩
    ·refine aM (by simpa using e3) ?_
     split
     ·exact wpS_pure ⟨rfl,.inr ⟨_,_,_,_,_,rfl,I3,ha2,by lia,by lia⟩⟩
     ·exact wpS_pure ⟨rfl,_,_,_,_,_,rfl,I3,ha2,by lia,by lia⟩
   | false=>
    dsimp only
    refine aM (by simp) ?_
    refine wpS_bind (aS (aK (by lia)) ?_)
    have I3:=I2.a1 hb2 (by lia) hl
    by_cases e3:ja+1+1=a.size
    ·refine aU (by simpa using e3) ?_
     exact wpS_pure ⟨rfl,.inl ⟨_,_,rfl,I3.lastA e3 T.last⟩⟩
    ·refine aM (by simpa using e3) ?_
     split
     ·exact wpS_pure ⟨rfl,.inr ⟨_,_,_,_,_,rfl,I3,by lia,hb2,by lia⟩⟩
     ·exact wpS_pure ⟨rfl,_,_,_,_,_,rfl,I3,by lia,hb2,by lia⟩
  ·rintro c st2 ⟨rfl,out2,ja,jb,ac,bc,rfl,I2,ha2,hb2,hp2⟩
   exact⟨rfl,.inr ⟨_,_,_,_,_,rfl,I2,ha2,hb2,by lia⟩⟩
  ·exact⟨rfl,out,ia,ib,0,0,rfl,I,ha,hb,by lia⟩
  ·rintro c st2 ⟨rfl,⟨r,c',rfl,hr⟩ | ⟨out2,ja,jb,ac,bc,rfl,I2,ha2,hb2,hp2⟩⟩
   ·exact wpS_pure ⟨_,_,rfl,hr,hG⟩
   refine wpS_bind (fY ?_)
   refine wpS_bind (wpS_mono (wpS_forRange (I:=λy c st3=>Gs st st3/\∃ out ja jb g ac bc,c=(none,out,ja,jb,g,ac,bc)/\MI O rk a b out ja jb/\ja+1 < a.size/\jb < b.size/\ia+ib+1<=ja+jb)
    (Q:=λc st3=>Gs st st3/\((∃ r c',c=(some r,c')/\r.toList=mrg O rk a.toList b.toList)\/∃ out ja jb g ac bc,c=(none,out,ja,jb,g,ac,bc)/\MI O rk a b out ja jb/\ja+1 < a.size/\jb < b.size/\ia+ib+1<=ja+jb)) ?_ ?_ ?_) ?_)
   ·rintro y c st3 _ hy ⟨hG3,out3,ja,jb,g3,ac,bc,rfl,I3,ha3,hb3,hp3⟩
    dsimp -zeta only
    have gal1:∀ (g4:Nat) (Q':Option Nat->SortSt->Prop),(∀ k,k<=a.size - ja->(∀ i,i < k->bey O rk false (kyd b jb) (kyd a (ja+i))=true)->(∀ i,k<=i->i < a.size - ja->bey O rk false (kyd b jb) (kyd a (ja+i))=false)->Q' (some k) (SortSt.mk' (kindOf st3) (arrOf st3) (pendingOf st3) g4 (failedOf st3)))->
      wpS (model prog w) A E s (lZ false (kyd b jb) a ja (a.size - ja) 0) Q' (SortSt.mk' (kindOf st3) (arrOf st3) (pendingOf st3) g4 (failedOf st3)):=λg4 Q' hq=>
     dW hC (hG3.kind.trans hk) (T.sb _ hb3) (by lia) (λi hi=>T.sa _ (by lia)) (by lia) (T.galA (by lia)) hq
    dsimp only
    by_cases hg1:g3 > 1
    case' pos=>rw [if_pos hg1]
    case' neg=>rw [if_neg hg1]
    all_goals
     refine wpS_bind (wpS_modify ?_)
     refine wpS_bind (aS (aK hb3) (wpS_bind (gal1 _ _ λk hk1 hk2 hk3=>?_)))
     have I4:=I3.as hb3 k (by lia) hk2
     dsimp only
     by_cases hk0:k > 0
     case' pos=>
      refine aU hk0 ?_
      by_cases e3:ja+k+1=a.size
      ·refine aU (by simpa using e3) ?_
       exact wpS_pure ⟨hG3.set _,.inl ⟨_,_,rfl,I4.lastA e3 T.last⟩⟩
      refine aM (by simpa using e3) ?_
      by_cases e4:ja+k=a.size
      ·refine aU (by simpa using e4) ?_
       exact wpS_pure ⟨hG3.set _,.inl ⟨_,_,rfl,I4.doneA e4⟩⟩
      refine aM (by simpa using e4) ?_
      have hb5:O.blt (rk (kyd b jb)) (rk (kyd a (ja+k)))=true:=by simpa [bey] using hk3 k (Nat.le_refl _) (by lia)
      have ha5:ja+k+1 < a.size:=by lia
      have hp5:ia+ib+1<=ja+k+jb:=by lia
      generalize out3++a.extract ja (ja+k)=out5 at I4 ⊢
      generalize ja+k=ja5 at I4 hb5 ha5 hp5 ⊢
      clear gal1 hk1 hk2 hk3
     case' neg=>
      refine aM hk0 ?_
      have hb5:O.blt (rk (kyd b jb)) (rk (kyd a ja))=true:=by simpa [bey] using hk3 0 (by lia) (by lia)
      have ha5:ja+1 < a.size:=ha3
      have hp5:ia+ib+1<=ja+jb:=hp3
      clear I4
      have I4:=I3
      revert I4
      generalize out3=out5
      intro I4
      clear gal1 hk1 hk2 hk3
      revert I4 hb5 ha5 hp5
      generalize ja=ja5
      intro hb5 ha5 hp5 I4
     all_goals
      refine wpS_bind (aS (aK hb3) ?_)
      have I5:=I4.b1 hb3 (by lia) hb5
      by_cases e5:jb+1=b.size
      ·refine aU (by simpa using e5) ?_
       exact wpS_pure ⟨hG3.set _,.inl ⟨_,_,rfl,I5.doneB e5⟩⟩
      refine aM (by simpa using e5) ?_
      refine wpS_bind (aS (aK (by lia)) (wpS_bind (dW hC (hG3.kind.trans hk) (T.sa _ (by lia)) (by lia) (λi hi=>T.sb _ (by lia)) (by lia) (T.galB (by lia)) λk2 hk1 hk2 hk3=>?_)))
      have I6:=I5.bs (by lia) k2 (by lia) hk2
      dsimp only
      by_cases hk20:k2 > 0
      case' pos=>
       refine aU hk20 ?_
       by_cases e6:jb+1+k2=b.size
       ·refine aU (by simpa using e6) ?_
        exact wpS_pure ⟨hG3.set _,.inl ⟨_,_,rfl,I6.doneB e6⟩⟩
       refine aM (by simpa using e6) ?_
       have hb7:O.blt (rk (kyd b (jb+1+k2))) (rk (kyd a ja5))=false:=by simpa [bey] using hk3 k2 (Nat.le_refl _) (by lia)
       have hj7:jb+1+k2 < b.size:=by lia
       have hp7:ia+ib+1<=ja5+1+(jb+1+k2):=by lia
       generalize out5.push (kyd b jb)++b.extract (jb+1) (jb+1+k2)=out7 at I6 ⊢
       generalize jb+1+k2=jb7 at I6 hb7 hj7 hp7 ⊢
      case' neg=>
       refine aM hk20 ?_
       have hb7:O.blt (rk (kyd b (jb+1))) (rk (kyd a ja5))=false:=by simpa [bey] using hk3 0 (by lia) (by lia)
       have hj7:jb+1 < b.size:=by lia
       have hp7:ia+ib+1<=ja5+1+(jb+1):=by lia
       clear I6
       have I6:=I5
       clear I5 I4 hk1 hk2 hk3 e5
       revert I6 hb7 hj7 hp7
       generalize out5.push (kyd b jb)=out7
       generalize jb+1=jb7
       intro hb7 hj7 hp7 I6
      all_goals
       refine wpS_bind (aS (aK (by lia)) ?_)
       have I7:=I6.a1 hj7 (by lia) hb7
       by_cases e7:ja5+1+1=a.size
       ·refine aU (by simpa using e7) ?_
        exact wpS_pure ⟨hG3.set _,.inl ⟨_,_,rfl,I7.lastA e7 T.last⟩⟩
       refine aM (by simpa using e7) ?_
       split
       ·exact wpS_pure ⟨hG3.set _,.inr ⟨_,_,_,_,_,_,rfl,I7,by lia,hj7,hp7⟩⟩
       ·exact wpS_pure ⟨hG3.set _,_,_,_,_,_,_,rfl,I7,by lia,hj7,hp7⟩
   ·rintro c st3 ⟨hG3,out3,ja,jb,g3,ac,bc,rfl,I3,ha3,hb3,hp3⟩
    exact⟨hG3,.inr ⟨_,_,_,_,_,_,rfl,I3,ha3,hb3,hp3⟩⟩
   ·exact⟨hG,_,_,_,_,_,_,rfl,I2,ha2,hb2,hp2⟩
   ·rintro c st3 ⟨hG3,⟨r,c',rfl,hr⟩ | ⟨out3,ja,jb,g3,ac,bc,rfl,I3,ha3,hb3,hp3⟩⟩
    ·exact wpS_pure ⟨_,_,rfl,hr,hG3⟩
    ·refine wpS_bind (wpS_modify (wpS_pure ⟨out3,ja,jb,_,rfl,I3,ha3,hb3,by lia,hG3.set _⟩))
 ·rintro c st' ⟨out,ia,ib,g,rfl,I,ha,hb,hp,hG⟩
  exfalso;lia
 ·exact⟨_,_,_,_,rfl,I0,by lia,by lia,by lia,.refl⟩
 ·rintro c st' ⟨r,c',rfl,hr,hG⟩
  exact wpS_pure (h r st' hG hr)
end
end L2
namespace L2
open PySem PySem.Spec PyProof.Rows
section
variable {prog:Program}{w:World}{A:Around}{E:Value->Shared->Prop}{s:Shared}{κ:SortKind}{O:KeyOrd}{rk:Keyed->O.α}{S:Keyed->Prop}{st:SortSt}{a b out:Array Keyed}{na nb:Nat}
structure Hid (G:Prop):Prop where
 out:G
theorem shr {C:Prop} [Decidable C] {G P:Prop} (hp:C->Hid G->P) (hn:¬ C->Hid G->P) (g:G):P:=if h:C then hp h ⟨g⟩ else hn h ⟨g⟩
theorem gs {a:Array Keyed}{n:Nat}:(a.extract 0 n).toList=a.toList.take n:=by
 rw [Array.toList_extract,List.extract_eq_take_drop];simp
theorem MH.doneA (h:MH O rk a b out na nb) (e:na=0):(a.extract 0 na++b.extract 0 nb++out.reverse).toList=mrg O rk a.toList b.toList:=by
 unfold MH at h
 subst e
 rw [Array.toList_append,Array.toList_append,gs,gs,Array.toList_reverse,<-h,List.take_zero,gH,List.nil_append]
theorem MH.doneB (h:MH O rk a b out na nb) (e:nb=0):(a.extract 0 na++b.extract 0 nb++out.reverse).toList=mrg O rk a.toList b.toList:=by
 unfold MH at h
 subst e
 rw [Array.toList_append,Array.toList_append,gs,gs,Array.toList_reverse,<-h,List.take_zero,fR,List.append_nil]
theorem MH.firstB (T:Two O rk S a b) (h:MH O rk a b out na nb) (ha:0 < na) (e:nb=1):(b.extract 0 nb++a.extract 0 na++out.reverse).toList=mrg O rk a.toList b.toList:=by
 unfold MH at h
 subst e
 have e1:b.toList.take 1=[kyd b 0]:=by rw [kI T.pb];simp
 have e2:a.toList.take na=kyd a 0::(a.toList.drop 1).take (na - 1):=by
  obtain⟨m,rfl⟩:∃ m,na=m+1:=⟨na - 1,by lia⟩
  have:=du T.pa
  rw [List.drop_zero] at this
  rw [this];simp
 rw [Array.toList_append,Array.toList_append,gs,gs,Array.toList_reverse,<-h,e1,e2,ku T.first,fR]
 rfl
theorem Two.belowB (T:Two O rk S a b) {i j:Nat}{x:Keyed} (hij:i<=j) (hj:j < b.size) (h:O.blt (rk (kyd b j)) (rk x)=true):O.blt (rk (kyd b i)) (rk x)=true:=
 KeyOrd.klt_of_kle_of_klt (O:=O) (T.ub i j (Nat.zero_le _) hij (by lia)) h
theorem Two.belowA (T:Two O rk S a b) {i j:Nat}{x:Keyed} (hij:i<=j) (hj:j < a.size) (h:O.blt (rk x) (rk (kyd a j))=false):O.blt (rk x) (rk (kyd a i))=false:=
 KeyOrd.kle_trans (O:=O) (T.ua i j (Nat.zero_le _) hij (by lia)) h
theorem nF {a:Array Keyed}{t k:Nat} (h:t+k < a.size):out++(a.extract t (t+(k+1))).reverse=(out.push (kyd a (t+k)))++(a.extract t (t+k)).reverse:=by
 apply Array.toList_inj.mp
 have e:=j0 (out:=#[]) (a:=a) (i:=t) (k:=k) h
 have e':a.extract t (t+(k+1))=(a.extract t (t+k)).push (kyd a (t+k)):=by
  have z:∀ x:Array Keyed,#[]++x=x:=λx=>by simp
  rw [z,z] at e;exact e
 rw [e'];simp
theorem MH.as (T:Two O rk S a b) {t:Nat} (hb:∀ i,i < nb->i < b.size->∀ j,t<=j->j < a.size->O.blt (rk (kyd b i)) (rk (kyd a j))=true):∀ (k:Nat) {out:Array Keyed},MH O rk a b out (t+k) nb->t+k<=a.size->MH O rk a b (out++(a.extract t (t+k)).reverse) t nb
 | 0,out,h,_=>by
  have:out++(a.extract t (t+0)).reverse=out:=by apply Array.toList_inj.mp;simp
  rw [this];exact h
 | k+1,out,h,hz=>by
  rw [nF (by lia)]
  exact MH.as T hb k (MH.a1 (na:=t+k) h (by lia) λi h1 h2=>hb i h1 h2 (t+k) (by lia) (by lia)) (by lia)
theorem MH.bs (T:Two O rk S a b) {t:Nat} (hb:∀ i,i < na->i < a.size->∀ j,t<=j->j < b.size->O.blt (rk (kyd b j)) (rk (kyd a i))=false):∀ (k:Nat) {out:Array Keyed},MH O rk a b out na (t+k)->t+k<=b.size->MH O rk a b (out++(b.extract t (t+k)).reverse) na t
 | 0,out,h,_=>by
  have:out++(b.extract t (t+0)).reverse=out:=by apply Array.toList_inj.mp;simp
  rw [this];exact h
 | k+1,out,h,hz=>by
  rw [nF (by lia)]
  exact MH.bs T hb k (MH.b1 (nb:=t+k) h (by lia) λi h1 h2=>hb i h1 h2 (t+k) (by lia) (by lia)) (by lia)
theorem MH.a1' (T:Two O rk S a b) (h:MH O rk a b out na nb) (ha:0 < na) (hz:na<=a.size) (hb:0 < nb) (hz2:nb<=b.size) (hl:O.blt (rk (kyd b (nb - 1))) (rk (kyd a (na - 1)))=true):MH O rk a b (out.push (kyd a (na - 1))) (na - 1) nb:=
 MH.a1 (by rw [show na - 1+1=na by lia];exact h) (by lia) λi h1 h2=>T.belowB (by lia) (by lia) hl
theorem MH.b1' (T:Two O rk S a b) (h:MH O rk a b out na nb) (ha:0 < na) (hz:na<=a.size) (hb:0 < nb) (hz2:nb<=b.size) (hl:O.blt (rk (kyd b (nb - 1))) (rk (kyd a (na - 1)))=false):MH O rk a b (out.push (kyd b (nb - 1))) na (nb - 1):=
 MH.b1 (by rw [show nb - 1+1=nb by lia];exact h) (by lia) λi h1 h2=>T.belowA (by lia) (by lia) hl
theorem MH.as' (T:Two O rk S a b) {t:Nat} (h:MH O rk a b out na nb) (ht:t<=na) (hz:na<=a.size) (hb:0 < nb) (hz2:nb<=b.size) (hq:∀ i,t<=i->i < na->bey O rk false (kyd b (nb - 1)) (kyd a (0+i))=false):MH O rk a b (out++(a.extract t na).reverse) t nb:=by
 by_cases e:t=na
 ·subst e
  have:out++(a.extract t t).reverse=out:=by apply Array.toList_inj.mp;simp
  rw [this];exact h
 have e2:t+(na - t)=na:=by lia
 have:=MH.as T (t:=t) (nb:=nb) (a:=a) (b:=b) (λi h1 h2 j h3 h4=>?_) (na - t) (out:=out) (by rw [e2];exact h) (by lia)
 ·rw [e2] at this;exact this
 ·have q:=hq t (Nat.le_refl _) (by lia)
  simp only [bey,Bool.false_eq_true,if_false,Bool.not_eq_false',Nat.zero_add] at q
  exact T.belowB (j:=nb - 1) (by lia) (by lia) (KeyOrd.klt_of_klt_of_kle (O:=O) q (T.ua t j (Nat.zero_le _) h3 (by lia)))
theorem MH.bs' (T:Two O rk S a b) {t:Nat} (h:MH O rk a b out na nb) (ht:t<=nb) (hz:nb<=b.size) (ha:0 < na) (hz2:na<=a.size) (hq:∀ i,t<=i->i < nb->bey O rk true (kyd a (na - 1)) (kyd b (0+i))=false):MH O rk a b (out++(b.extract t nb).reverse) na t:=by
 by_cases e:t=nb
 ·subst e
  have:out++(b.extract t t).reverse=out:=by apply Array.toList_inj.mp;simp
  rw [this];exact h
 have e2:t+(nb - t)=nb:=by lia
 have:=MH.bs T (t:=t) (na:=na) (a:=a) (b:=b) (λi h1 h2 j h3 h4=>?_) (nb - t) (out:=out) (by rw [e2];exact h) (by lia)
 ·rw [e2] at this;exact this
 ·have q:=hq t (Nat.le_refl _) (by lia)
  simp only [bey,if_true,Nat.zero_add] at q
  exact T.belowA (j:=na - 1) (by lia) (by lia) (KeyOrd.kle_trans (O:=O) q (T.ub t j (Nat.zero_le _) h3 (by lia)))
set_option maxHeartbeats 4000000 in
theorem uw (hC:Cm prog w A s κ O rk S) {Q:Array Keyed->SortSt->Prop} (hk:kindOf st=κ) (T:Two O rk S a b)
  (h:∀ r st',Gs st st'->r.toList=mrg O rk a.toList b.toList->Q r st'):wpS (model prog w) A E s (wG a b) Q st:=by
 have pa:=T.pa
 have pb:=T.pb
 refine wpS_bind (fY ?_)
 refine wpS_bind (aS (aK (by lia)) ?_)
 have I0:MH O rk a b #[kyd a (a.size - 1)] (a.size - 1) b.size:=by
  have e:a.size - 1+1=a.size:=by lia
  exact MH.a1 (out:=#[]) (by rw [e];exact MH.start) (by lia) λi h1 h2=>T.last i h2
 dsimp -zeta only
 by_cases e1:a.size - 1=0
 ·refine aU (by simpa using e1) ?_
  exact wpS_pure (h _ _ .refl (I0.doneA e1))
 refine aM (by simpa using e1) ?_
 by_cases e2:b.size=1
 ·refine aU (by simpa using e2) ?_
  exact wpS_pure (h _ _ .refl (I0.firstB T (by lia) e2))
 refine aM (by simpa using e2) ?_
 refine wpS_bind (wpS_get ?_)
 refine wpS_bind (wpS_mono (wpS_forRange (I:=λx c st'=>∃ out na nb g,c=(none,na,nb,out,g)/\MH O rk a b out na nb/\0 < na/\1 < nb/\na<=a.size/\nb<=b.size/\na+nb+x+1<=a.size+b.size/\Gs st st')
  (Q:=λc st'=>∃ r c',c=(some r,c')/\r.toList=mrg O rk a.toList b.toList/\Gs st st') ?_ ?_ ?_) ?_)
 ·rintro x c st' _ hx ⟨out,na,nb,g,rfl,I,ha,hb,hza,hzb,hp,hG⟩
  have hk':kindOf st'=κ:=hG.kind.trans hk
  refine wpS_bind (wpS_mono (wpS_forRange (I:=λy c st2=>st2=st'/\∃ out ma mb ac bc,c=(none,ma,mb,out,ac,bc)/\MH O rk a b out ma mb/\0 < ma/\1 < mb/\ma<=a.size/\mb<=b.size/\ma+mb+y<=na+nb)
   (Q:=λc st2=>st2=st'/\((∃ r c',c=(some r,c')/\r.toList=mrg O rk a.toList b.toList)\/∃ out ma mb ac bc,c=(none,ma,mb,out,ac,bc)/\MH O rk a b out ma mb/\0 < ma/\1 < mb/\ma<=a.size/\mb<=b.size/\ma+mb+1<=na+nb)) ?_ ?_ ?_) ?_)
  ·rintro y c st2 _ hy ⟨rfl,out2,ma,mb,ac,bc,rfl,I2,ha2,hb2,za2,zb2,hp2⟩
   dsimp only
   refine wpS_bind (aS (aK (by lia)) (wpS_bind (aS (aK (by lia)) (wpS_bind (nV hC hk' (T.sb _ (by lia)) (T.sa _ (by lia)) ?_)))))
   cases hl:O.blt (rk (kyd b (mb - 1))) (rk (kyd a (ma - 1))) with
   | true=>
    dsimp only
    refine aU rfl ?_
    refine wpS_bind (aS (aK (by lia)) ?_)
    have I3:=I2.a1' T ha2 za2 (by lia) zb2 hl
    by_cases e3:ma - 1=0
    ·refine aU (by simpa using e3) ?_
     exact wpS_pure ⟨rfl,.inl ⟨_,_,rfl,I3.doneA e3⟩⟩
    ·refine aM (by simpa using e3) ?_
     split
     ·exact wpS_pure ⟨rfl,.inr ⟨_,_,_,_,_,rfl,I3,by lia,hb2,by lia,zb2,by lia⟩⟩
     ·exact wpS_pure ⟨rfl,_,_,_,_,_,rfl,I3,by lia,hb2,by lia,zb2,by lia⟩
   | false=>
    dsimp only
    refine aM (by simp) ?_
    refine wpS_bind (aS (aK (by lia)) ?_)
    have I3:=I2.b1' T ha2 za2 (by lia) zb2 hl
    by_cases e3:mb - 1=1
    ·refine aU (by simpa using e3) ?_
     exact wpS_pure ⟨rfl,.inl ⟨_,_,rfl,I3.firstB T ha2 e3⟩⟩
    ·refine aM (by simpa using e3) ?_
     split
     ·exact wpS_pure ⟨rfl,.inr ⟨_,_,_,_,_,rfl,I3,ha2,by lia,za2,by lia,by lia⟩⟩
     ·exact wpS_pure ⟨rfl,_,_,_,_,_,rfl,I3,ha2,by lia,za2,by lia,by lia⟩
  ·rintro c st2 ⟨rfl,out2,ma,mb,ac,bc,rfl,I2,ha2,hb2,za2,zb2,hp2⟩
   exact⟨rfl,.inr ⟨_,_,_,_,_,rfl,I2,ha2,hb2,za2,zb2,by lia⟩⟩
  ·exact⟨rfl,out,na,nb,0,0,rfl,I,ha,hb,hza,hzb,by lia⟩
  ·rintro c st2 ⟨rfl,⟨r,c',rfl,hr⟩ | ⟨out2,ma,mb,ac,bc,rfl,I2,ha2,hb2,za2,zb2,hp2⟩⟩
   ·exact wpS_pure ⟨_,_,rfl,hr,hG⟩
   refine wpS_bind (fY ?_)
   refine wpS_bind (wpS_mono (wpS_forRange (I:=λy c st3=>Gs st st3/\∃ out ma mb g ac bc,c=(none,ma,mb,out,g,ac,bc)/\MH O rk a b out ma mb/\0 < ma/\1 < mb/\ma<=a.size/\mb<=b.size/\ma+mb+1<=na+nb)
    (Q:=λc st3=>Gs st st3/\((∃ r c',c=(some r,c')/\r.toList=mrg O rk a.toList b.toList)\/∃ out ma mb g ac bc,c=(none,ma,mb,out,g,ac,bc)/\MH O rk a b out ma mb/\0 < ma/\1 < mb/\ma<=a.size/\mb<=b.size/\ma+mb+1<=na+nb)) ?_ ?_ ?_) ?_)
   ·rintro y c st3 _ hy ⟨hG3,out3,ma,mb,g3,ac,bc,rfl,I3,ha3,hb3,za3,zb3,hp3⟩
    have gal1:∀ (g4:Nat) (Q':Option Nat->SortSt->Prop),(∀ k,k<=ma->(∀ i,i < k->bey O rk false (kyd b (mb - 1)) (kyd a (0+i))=true)->(∀ i,k<=i->i < ma->bey O rk false (kyd b (mb - 1)) (kyd a (0+i))=false)->Q' (some k) (SortSt.mk' (kindOf st3) (arrOf st3) (pendingOf st3) g4 (failedOf st3)))->
      wpS (model prog w) A E s (lZ false (kyd b (mb - 1)) a 0 ma (ma - 1)) Q' (SortSt.mk' (kindOf st3) (arrOf st3) (pendingOf st3) g4 (failedOf st3)):=λg4 Q' hq=>
     dW hC (hG3.kind.trans hk) (T.sb _ (by lia)) (by lia) (λi hi=>T.sa _ (by lia)) (by lia) (T.galA (by lia)) hq
    dsimp only
    apply shr (C:=g3 > 1)
    case hp=>
     intro hg1 tail
     refine aU hg1 ?_
     generalize g3 - 1=g4
     revert g4
     exact tail.out
    case hn=>
     intro hg1 tail
     refine aM hg1 ?_
     exact tail.out g3
    case g=>
     intro g4
     refine wpS_bind (wpS_modify ?_)
     refine wpS_bind (aS (aK (by lia)) (wpS_bind (gal1 _ _ λt hk1 hk2 hk3=>?_)))
     have I4:=I3.as' T hk1 za3 (by lia) zb3 hk3
     have hb5:∀ i,i < t->O.blt (rk (kyd b (mb - 1))) (rk (kyd a i))=false:=λi hi=>by simpa [bey] using hk2 i hi
     clear hk2 hk3 gal1
     dsimp only
     apply shr (C:=ma - t > 0)
     case hp=>
      intro hk0 tail
      refine aU hk0 ?_
      by_cases e3:t=0
      ·refine aU (by simpa using e3) ?_
       exact wpS_pure ⟨hG3.set _,.inl ⟨_,_,rfl,I4.doneA e3⟩⟩
      refine aM (by simpa using e3) ?_
      have ha5:0 < t:=by lia
      have za5:t<=a.size:=by lia
      have hp5:t+mb+1<=na+nb:=by lia
      have J4:=I4
      have jb5:=hb5
      generalize out3++(a.extract t ma).reverse=out5 at J4 ⊢
      generalize ma - t=ac5
      generalize t=t5 at jb5 J4 ha5 za5 hp5 ⊢
      revert jb5 J4 ha5 za5 hp5
      revert ac5 out5 t5
      exact tail.out
     case hn=>
      intro hk0 tail
      refine aM hk0 ?_
      have e0:t=ma:=by lia
      subst e0
      have e9:out3++(a.extract t t).reverse=out3:=by apply Array.toList_inj.mp;simp
      rw [e9] at I4
      exact tail.out _ _ t hb5 I4 ha3 za3 hp3
     case g=>
      clear I4 hb5 hk1
      intro out5 ac5 t hb5 I4 ha5 za5 hp5
      refine wpS_bind (aS (aK (by lia)) ?_)
      have I5:=I4.b1' T ha5 za5 (by lia) zb3 (hb5 _ (by lia))
      by_cases e5:mb - 1=1
      ·refine aU (by simpa using e5) ?_
       exact wpS_pure ⟨hG3.set _,.inl ⟨_,_,rfl,I5.firstB T ha5 e5⟩⟩
      refine aM (by simpa using e5) ?_
      refine wpS_bind (aS (aK (by lia)) (wpS_bind (dW hC (hG3.kind.trans hk) (T.sa _ (by lia)) (by lia) (λi hi=>T.sb _ (by lia)) (by lia) (T.galB (by lia)) λu hk1 hk2 hk3=>?_)))
      have I6:=I5.bs' T hk1 (by lia) ha5 za5 hk3
      have hb7:∀ i,i < u->O.blt (rk (kyd b i)) (rk (kyd a (t - 1)))=true:=λi hi=>by simpa [bey] using hk2 i hi
      clear hk2 hk3
      dsimp only
      apply shr (C:=mb - 1 - u > 0)
      case hp=>
       intro hk20 tail
       refine aU hk20 ?_
       by_cases e6:u=1
       ·refine aU (by simpa using e6) ?_
        exact wpS_pure ⟨hG3.set _,.inl ⟨_,_,rfl,I6.firstB T ha5 e6⟩⟩
       refine aM (by simpa using e6) ?_
       by_cases e7:u=0
       ·refine aU (by simpa using e7) ?_
        exact wpS_pure ⟨hG3.set _,.inl ⟨_,_,rfl,I6.doneB e7⟩⟩
       refine aM (by simpa using e7) ?_
       have hj7:1 < u:=by lia
       have zj7:u<=b.size:=by lia
       have hp7:t+u+1<=na+nb:=by lia
       have J6:=I6
       have jb7:=hb7
       generalize out5.push (kyd b (mb - 1))++(b.extract u (mb - 1)).reverse=out7 at J6 ⊢
       generalize mb - 1 - u=bc7
       generalize u=u7 at jb7 J6 hj7 zj7 hp7 ⊢
       revert jb7 J6 hj7 zj7 hp7
       revert bc7 out7 u7
       exact tail.out
      case hn=>
       intro hk20 tail
       refine aM hk20 ?_
       have e0:u=mb - 1:=by lia
       subst e0
       have e9:out5.push (kyd b (mb - 1))++(b.extract (mb - 1) (mb - 1)).reverse=out5.push (kyd b (mb - 1)):=by apply Array.toList_inj.mp;simp
       rw [e9] at I6
       exact tail.out _ _ (mb - 1) hb7 I6 (by lia) (by lia) (by lia)
      case g=>
       clear I6 hb7 hk1
       intro out7 bc7 u hb7 I6 hj7 zj7 hp7
       refine wpS_bind (aS (aK (by lia)) ?_)
       have I7:=I6.a1' T ha5 za5 (by lia) zj7 (hb7 _ (by lia))
       by_cases e7:t - 1=0
       ·refine aU (by simpa using e7) ?_
        exact wpS_pure ⟨hG3.set _,.inl ⟨_,_,rfl,I7.doneA e7⟩⟩
       refine aM (by simpa using e7) ?_
       split
       ·exact wpS_pure ⟨hG3.set _,.inr ⟨_,_,_,_,_,_,rfl,I7,by lia,hj7,by lia,zj7,by lia⟩⟩
       ·exact wpS_pure ⟨hG3.set _,_,_,_,_,_,_,rfl,I7,by lia,hj7,by lia,zj7,by lia⟩
   ·rintro c st3 ⟨hG3,out3,ja,jb,g3,ac,bc,rfl,I3,ha3,hb3,za3,zb3,hp3⟩
    exact⟨hG3,.inr ⟨_,_,_,_,_,_,rfl,I3,ha3,hb3,za3,zb3,hp3⟩⟩
   ·exact⟨hG,_,_,_,_,_,_,rfl,I2,ha2,hb2,za2,zb2,hp2⟩
   ·rintro c st3 ⟨hG3,⟨r,c',rfl,hr⟩ | ⟨out3,ja,jb,g3,ac,bc,rfl,I3,ha3,hb3,za3,zb3,hp3⟩⟩
    ·exact wpS_pure ⟨_,_,rfl,hr,hG3⟩
    ·refine wpS_bind (wpS_modify (wpS_pure ⟨out3,ja,jb,_,rfl,I3,ha3,hb3,za3,zb3,by lia,hG3.set _⟩))
 ·rintro c st' ⟨out,ia,ib,g,rfl,I,ha,hb,hza,hzb,hp,hG⟩
  exfalso;lia
 ·exact⟨_,_,_,_,rfl,I0,by lia,by lia,by lia,by lia,by lia,.refl⟩
 ·rintro c st' ⟨r,c',rfl,hr,hG⟩
  exact wpS_pure (h r st' hG hr)
end
end L2
namespace L2
open PySem PySem.Spec PyProof.Rows
section
variable {prog:Program}{w:World}{A:Around}{E:Value->Shared->Prop}{s:Shared}{κ:SortKind}{O:KeyOrd}{rk:Keyed->O.α}{S:Keyed->Prop}{st:SortSt}{arr:Array Keyed}{n1 n2:Nat}
theorem pA (sa:Nat):∀ (l:List Keyed) (n:Nat) (arr:Array Keyed),sa+n+l.length<=arr.size->
  ((l.zipIdx n).foldl (λ(a:Array Keyed) x=>match x with | (p,j)=>a.setIfInBounds (sa+j) p) arr).toList=arr.toList.take (sa+n)++l++arr.toList.drop (sa+n+l.length)
 | [],n,arr,h=>by simp
 | p::l,n,arr,h=>by
  rw [List.zipIdx_cons,List.foldl_cons,pA sa l (n+1) _ (by simp only [List.length_cons] at h;simp;lia)]
  have hn:sa+n < arr.toList.length:=by simp only [List.length_cons] at h;simp;lia
  rw [Array.toList_setIfInBounds,<-Nat.add_assoc,List.take_succ_eq_append_getElem (by rw [List.length_set];exact hn),List.getElem_set_self,List.take_set_of_le (Nat.le_refl _),List.drop_set_of_lt (by lia),List.length_cons]
  simp [Nat.add_assoc,Nat.add_comm 1]
theorem dN {a:Array Keyed}{i j k:Nat} (h:k < j - i) (hj:j<=a.size):kyd (a.extract i j) k=kyd a (i+k):=by
 apply cN
 rw [Array.getElem?_extract_of_lt (by lia),Array.getElem?_eq_getElem (by lia)]
theorem lH {a:Array Keyed} (h:Up rk a 0 a.size):a.toList.Pairwise λx y=>O.kle (rk x) (rk y):=by
 rw [List.pairwise_iff_getElem]
 intro i j hi hj hij
 have hi':i < a.size:=by simpa using hi
 have hj':j < a.size:=by simpa using hj
 have q:=h i j (Nat.zero_le _) (by lia) (by lia)
 have e1:=aK hi'
 have e2:=aK hj'
 rw [Array.getElem?_eq_getElem hi'] at e1
 rw [Array.getElem?_eq_getElem hj'] at e2
 rw [<-Option.some.inj e1,<-Option.some.inj e2] at q
 simpa using q
theorem mK {a:Array Keyed}{i j:Nat} (h:Up rk a i (j - i)) (hj:j<=a.size):Up rk (a.extract i j) 0 (a.extract i j).size:=by
 intro x y _ hxy hy
 have hs:(a.extract i j).size=j - i:=by simp;lia
 rw [dN (by lia) hj,dN (by lia) hj]
 exact h _ _ (by lia) (by lia) (by lia)
theorem jH {a:Array Keyed}{i j:Nat}{x:Keyed} (h:x ∈ (a.extract i j).toList) (hj:j<=a.size):∃ k,i<=k/\k < j/\x=kyd a k:=by
 obtain⟨k,hk,rfl⟩:=ph h
 have hs:(a.extract i j).size=j - i:=by simp;lia
 exact⟨i+k,by lia,by lia,by rw [dN (by lia) hj]⟩
theorem v7 {a:Array Keyed}{i j k:Nat} (h1:i<=j) (h2:j<=k) (h3:k<=a.size):a.toList=a.toList.take i++(a.extract i j).toList++(a.extract j k).toList++a.toList.drop k:=by
 have e1:(a.extract i j).toList=(a.toList.drop i).take (j - i):=by rw [Array.toList_extract,List.extract_eq_take_drop]
 have e2:(a.extract j k).toList=(a.toList.drop j).take (k - j):=by rw [Array.toList_extract,List.extract_eq_take_drop]
 rw [e1,e2]
 have c1:a.toList.take i++(a.toList.drop i).take (j - i)=a.toList.take j:=by
  rw [<-List.take_add,show i+(j - i)=j by lia]
 have c2:a.toList.take j++(a.toList.drop j).take (k - j)=a.toList.take k:=by
  rw [<-List.take_add,show j+(k - j)=k by lia]
 rw [c1,c2,List.take_append_drop]
set_option maxHeartbeats 2000000 in
theorem uv (hC:Cm prog w A s κ O rk S) {Q:Bool->SortSt->Prop}{p q:Nat} (hk:kindOf st=κ) (hf:failedOf st=none) (hp:pendingOf st=#[(0,n1,p),(n1,n2,q)]) (hS:∀ x ∈ (arrOf st).toList,S x) (hz:(arrOf st).size=n1+n2) (h1:0 < n1) (h2:0 < n2)
  (u1:Up rk (arrOf st) 0 n1) (u2:Up rk (arrOf st) n1 n2)
  (h:∀ st',(arrOf st').toList.Perm (arrOf st).toList->(arrOf st').toList.Pairwise (λx y=>O.kle (rk x) (rk y))->failedOf st'=none->pendingOf st'=#[(0,n1+n2,p)]->Q true st'):wpS (model prog w) A E s (uI 0) Q st:=by
 have hSi:∀ i,i < n1+n2->S (kyd (arrOf st) i):=λi hi=>by
  have hi':i < (arrOf st).size:=by lia
  refine hS _ ?_
  have e:=aK hi'
  rw [Array.getElem?_eq_getElem hi'] at e
  rw [<-Option.some.inj e];exact Array.getElem_mem_toList hi'
 refine wpS_bind (wpS_get ?_)
 have e1:(pendingOf st)[0]?=some (0,n1,p):=by rw [hp];rfl
 have e2:(pendingOf st)[0+1]?=some (n1,n2,q):=by rw [hp];rfl
 rw [e1,e2]
 refine wpS_bind ?_
 have hset:∀ (x:SortSt) (Q':PUnit->SortSt->Prop) (st0:SortSt),Q' ⟨⟩ x->wpS (model prog w) A E s (set x:StateT SortSt Sem PUnit) Q' st0:=λx Q' st0 hq=>by
  unfold wpS;exact wpAny_pure ⟨rfl,hq⟩
 refine hset _ _ _ ?_
 have e3:((pendingOf st).setIfInBounds 0 (0,n1+n2,p)).eraseIdxIfInBounds (0+1)=#[(0,n1+n2,p)]:=by
  rw [hp];apply Array.toList_inj.mp;simp [Array.eraseIdxIfInBounds]
 rw [e3]
 clear e1 e2 e3 hp
 delta arrOf kindOf failedOf gallopOf at *
 obtain⟨kd,arr,pn,gl,fl⟩:=st
 dsimp only at hk hf hS hz u1 u2 h hSi
 dsimp -zeta only
 have h:∀ st',(arrOf st').toList.Perm arr.toList->(arrOf st').toList.Pairwise (λx y=>O.kle (rk x) (rk y))->failedOf st'=none->pendingOf st'=#[(0,n1+n2,p)]->Q true st':=h
 have k2:kindOf (SortSt.mk' kd arr #[(0,n1+n2,p)] gl fl)=κ:=hk
 have a2:arrOf (SortSt.mk' kd arr #[(0,n1+n2,p)] gl fl)=arr:=rfl
 have f2:failedOf (SortSt.mk' kd arr #[(0,n1+n2,p)] gl fl)=none:=hf
 have p2:pendingOf (SortSt.mk' kd arr #[(0,n1+n2,p)] gl fl)=#[(0,n1+n2,p)]:=rfl
 have whole:O.kle (rk (kyd arr (n1 - 1))) (rk (kyd arr n1))->arr.toList.Pairwise λx y=>O.kle (rk x) (rk y):=λhm=>lH λi j _ hij hj=>by
  by_cases c1:j < n1
  ·exact u1 i j (Nat.zero_le _) hij (by lia)
  ·by_cases c2:n1<=i
   ·exact u2 i j c2 hij (by lia)
   ·exact KeyOrd.kle_trans (KeyOrd.kle_trans (u1 i (n1 - 1) (Nat.zero_le _) (by lia) (by lia)) hm) (u2 n1 j (Nat.le_refl _) (by lia) (by lia))
 have ok:arr.toList.Pairwise (λx y=>O.kle (rk x) (rk y))->Q true (SortSt.mk' kd arr #[(0,n1+n2,p)] gl fl):=λhw=>h (SortSt.mk' kd arr #[(0,n1+n2,p)] gl fl) (by rw [a2]) (by rw [a2];exact hw) f2 p2
 refine wpS_bind (aS (aK (by lia)) (wpS_bind (dW hC k2 (hSi _ (by lia)) (by lia) (λi hi=>hSi _ (by lia)) (by lia) (λi j hij hj hb=>?_) λk hk1 hk2 hk3=>?_)))
 ·simp only [bey,Bool.false_eq_true,if_false,Bool.not_eq_true'] at hb ⊢
  exact KeyOrd.kle_trans (O:=O) (u1 (0+i) (0+j) (Nat.zero_le _) (by lia) (by lia)) hb
 simp only [bey,Bool.false_eq_true,if_false,Bool.not_eq_true',Bool.not_eq_false',Nat.zero_add] at hk2 hk3
 dsimp only
 by_cases c1:n1 - k=0
 ·refine aU (by simpa using c1) ?_
  exact wpS_pure (ok (whole (hk2 (n1 - 1) (by lia))))
 refine aM (by simpa using c1) ?_
 rw [show 0+k+(n1 - k) - 1=n1 - 1 by lia,Nat.zero_add]
 refine wpS_bind (aS (aK (by lia)) (wpS_bind (dW hC k2 (hSi _ (by lia)) (by lia) (λi hi=>hSi _ (by lia)) (by lia) (λi j hij hj hb=>?_) λnb hb1 hb2 hb3=>?_)))
 ·simp only [bey,if_true] at hb ⊢
  exact KeyOrd.klt_of_kle_of_klt (O:=O) (u2 (n1+i) (n1+j) (by lia) (by lia) (by lia)) hb
 simp only [bey,if_true] at hb2 hb3
 dsimp only
 by_cases c2:nb=0
 ·refine aU (by simpa using c2) ?_
  exact wpS_pure (ok (whole (hb3 0 (by lia) (by lia))))
 refine aM (by simpa using c2) ?_
 have sx:(arr.extract k n1).size=n1 - k:=by simp;lia
 have sy:(arr.extract n1 (n1+nb)).size=nb:=by simp;lia
 have T:Two O rk S (arr.extract k n1) (arr.extract n1 (n1+nb)):=by
  refine⟨λi hi=>?_,λi hi=>?_,mK (λi j a b c=>u1 i j (Nat.zero_le _) b (by lia)) (by lia),mK (λi j a b c=>u2 i j a b (by lia)) (by lia),by lia,by lia,?_,λi hi=>?_⟩
  ·rw [dN (by lia) (by lia)];exact hSi _ (by lia)
  ·rw [dN (by lia) (by lia)];exact hSi _ (by lia)
  ·rw [dN (by lia) (by lia),dN (by lia) (by lia)];exact hk3 _ (by lia) (by lia)
  ·rw [dN (by lia) (by lia),dN (by lia) (by lia),sx,show k+(n1 - k - 1)=n1 - 1 by lia];exact hb2 i (by lia)
 have fin:∀ (r:Array Keyed) st',Gs (SortSt.mk' kd arr #[(0,n1+n2,p)] gl fl) st'->r.toList=mrg O rk (arr.extract k n1).toList (arr.extract n1 (n1+nb)).toList->
   Q true (SortSt.mk' (kindOf st') ((r.toList.zipIdx).foldl (λ(a:Array Keyed) x=>match x with | (p,j)=>a.setIfInBounds (k+j) p) (arrOf st')) (pendingOf st') (gallopOf st') (failedOf st')):=by
  rintro r st' ⟨g,rfl⟩ hr
  have hl:r.toList.length=n1 - k+nb:=by rw [hr,(kt _ _).length_eq,List.length_append,Array.length_toList,Array.length_toList,sx,sy]
  have e5:=pA k r.toList 0 arr (by lia)
  rw [Nat.add_zero,hl,show k+(n1 - k+nb)=n1+nb by lia,hr] at e5
  have e6:=v7 (a:=arr) (i:=k) (j:=n1) (k:=n1+nb) (by lia) (by lia) (by lia)
  refine h _ ?_ ?_ f2 p2
  ·show (List.foldl _ (arrOf (SortSt.mk' kd arr #[(0,n1+n2,p)] gl fl)) _).toList.Perm _
   rw [a2,hr,e5]
   conv=>rhs;rw [e6]
   exact ((kt _ _).append_left _ |>.append_right _).trans (by rw [List.append_assoc,List.append_assoc,List.append_assoc,List.append_assoc])
  ·show (List.foldl _ (arrOf (SortSt.mk' kd arr #[(0,n1+n2,p)] gl fl)) _).toList.Pairwise _
   rw [a2,hr,e5]
   have m1:∀ x ∈ arr.toList.take k,∃ i,i < k/\x=kyd arr i:=λx hx=>by
    rw [<-gs] at hx
    obtain⟨i,_,hi,e⟩:=jH hx (by lia)
    exact⟨i,hi,e⟩
   have m2:∀ x ∈ arr.toList.drop (n1+nb),∃ i,n1+nb<=i/\i < arr.size/\x=kyd arr i:=λx hx=>by
    rw [<-eK] at hx
    obtain⟨i,h1,h2,e⟩:=jH hx (Nat.le_refl _)
    exact⟨i,h1,h2,e⟩
   have m3:∀ x ∈ mrg O rk (arr.extract k n1).toList (arr.extract n1 (n1+nb)).toList,∃ i,k<=i/\i < n1+nb/\x=kyd arr i:=λx hx=>by
    rcases List.mem_append.mp ((kt _ _).mem_iff.mp hx) with hx | hx
    ·obtain⟨i,h1,h2,e⟩:=jH hx (by lia);exact⟨i,h1,by lia,e⟩
    ·obtain⟨i,h1,h2,e⟩:=jH hx (by lia);exact⟨i,by lia,h2,e⟩
   have lowHi:∀ i j,i < k->n1<=j->j < n1+n2->O.kle (rk (kyd arr i)) (rk (kyd arr j)):=λi j hi h3 h4=>KeyOrd.kle_trans (hk2 i hi) (u2 n1 j (Nat.le_refl _) h3 h4)
   have hiHi:∀ i j,i < n1->n1+nb<=j->j < n1+n2->O.kle (rk (kyd arr i)) (rk (kyd arr j)):=λi j hi h3 h4=>by
    have:=hb3 (j - n1) (by lia) (by lia)
    rw [show n1+(j - n1)=j by lia] at this
    exact KeyOrd.kle_trans (u1 i (n1 - 1) (Nat.zero_le _) (by lia) (by lia)) this
   refine List.pairwise_append.mpr ⟨List.pairwise_append.mpr ⟨?_,vo (lH T.ua) (lH T.ub),?_⟩,?_,?_⟩
   ·rw [<-gs]
    exact lH (mK (λi j a b c=>u1 i j (Nat.zero_le _) b (by lia)) (by lia))
   ·intro x hx y hy
    obtain⟨i,hi,rfl⟩:=m1 x hx
    obtain⟨j,j1,j2,rfl⟩:=m3 y hy
    by_cases c:j < n1
    ·exact u1 i j (Nat.zero_le _) (by lia) (by lia)
    ·exact lowHi i j hi (by lia) (by lia)
   ·rw [<-eK]
    exact lH (mK (λi j a b c=>u2 i j (by lia) b (by lia)) (Nat.le_refl _))
   ·intro x hx y hy
    obtain⟨j,j1,j2,rfl⟩:=m2 y hy
    have hx':∃ i,i < n1+nb/\x=kyd arr i:=by
     rcases List.mem_append.mp hx with hx | hx
     ·obtain⟨i,hi,e⟩:=m1 x hx;exact⟨i,by lia,e⟩
     ·obtain⟨i,_,hi,e⟩:=m3 x hx;exact⟨i,hi,e⟩
    obtain⟨i,hi,rfl⟩:=hx'
    by_cases c:i < n1
    ·exact hiHi i j c j1 (by lia)
    ·exact u2 i j (by lia) (by lia) (by lia)
 have isn:∀ st',Gs (SortSt.mk' kd arr #[(0,n1+n2,p)] gl fl) st'->failedOf st'=none:=by rintro st' ⟨g,rfl⟩;exact f2
 split
 ·refine wpS_bind (ux hC k2 T λr st' hG hr=>?_)
  refine wpS_bind (wpS_modify (wpS_bind (wpS_get (wpS_pure ?_))))
  have:=fin r st' hG hr
  have e:=isn st' hG
  have e':(failedOf st').isNone=true:=by rw [e];rfl
  rw [<-e'] at this
  exact this
 ·refine wpS_bind (uw hC k2 T λr st' hG hr=>?_)
  refine wpS_bind (wpS_modify (wpS_bind (wpS_get (wpS_pure ?_))))
  have:=fin r st' hG hr
  have e:=isn st' hG
  have e':(failedOf st').isNone=true:=by rw [e];rfl
  rw [<-e'] at this
  exact this
end
end L2
namespace L2
open PySem PySem.Spec PyProof.Rows
section
variable {prog:Program}{w:World}{A:Around}{E:Value->Shared->Prop}{s:Shared}{κ:SortKind}{O:KeyOrd}{rk:Keyed->O.α}{S:Keyed->Prop}{st:SortSt}{a0:Array Keyed}
structure uR (κ:SortKind) (O:KeyOrd) (rk:Keyed->O.α) (a0:Array Keyed) (n1:Nat) (st:SortSt):Prop where
 perm:(arrOf st).Perm a0
 kind:kindOf st=κ
 fail:failedOf st=none
 pend:pendingOf st=#[(0,n1,0)]
 up:Up rk (arrOf st) 0 n1
structure sQ (κ:SortKind) (O:KeyOrd) (rk:Keyed->O.α) (a0:Array Keyed) (st:SortSt):Prop where
 perm:(arrOf st).Perm a0
 kind:kindOf st=κ
 fail:failedOf st=none
 ex:∃ n1 n2 p,0 < n1/\0 < n2/\n1+n2=a0.size/\pendingOf st=#[(0,n1,p),(n1,n2,0)]/\Up rk (arrOf st) 0 n1/\Up rk (arrOf st) n1 n2
theorem wI {n:Nat} (h2:2<=n) (h64:n<=64):(n < 64/\minRun' n n 0=n)\/n=64/\minRun' n n 0=32:=by
 by_cases h:n=64
 ·subst h;exact .inr ⟨rfl,rfl⟩
 ·obtain⟨f,rfl⟩:∃ f,n=f+1:=⟨n - 1,by lia⟩
  exact .inl ⟨by lia,by rw [minRun'_succ,if_pos (by lia)]⟩
set_option maxHeartbeats 2000000 in
theorem uy (hC:Cm prog w A s κ O rk S) {Q:Unit->SortSt->Prop} (hk:kindOf st=κ) (hf:failedOf st=none) (hp:pendingOf st=#[]) (ha:arrOf st=a0) (hS:∀ x ∈ a0.toList,S x) (h2:2<=a0.size) (h64:a0.size<=64)
  (h:∀ st',(arrOf st').toList.Perm a0.toList->(arrOf st').toList.Pairwise (λx y=>O.kle (rk x) (rk y))->failedOf st'=none->Q () st'):wpS (model prog w) A E s sortRuns' Q st:=by
 obtain⟨mr,hm0,hmr⟩:∃ mr,(sortPriv% PySem.Builtin.minRun) a0.size a0.size 0=mr/\((a0.size < 64/\mr=a0.size)\/a0.size=64/\mr=32):=⟨_,rfl,wI h2 h64⟩
 refine wpS_bind (wpS_get ?_)
 have hz:(arrOf st).size=a0.size:=by rw [ha]
 dsimp only
 rw [hz,hm0]
 refine wpS_bind (wpS_mono (wpS_forRange (I:=λx c st'=>(x=0/\c=(none,0)/\SB κ a0 0 #[] (gallopOf st) st')\/(∃ n1,c=(none,n1)/\uR κ O rk a0 n1 st'/\1<=x/\(n1=a0.size\/x=1/\32<=n1/\n1 < 64/\a0.size=64))\/(c=(none,a0.size)/\sQ κ O rk a0 st'/\1<=x))
  (Q:=λc st'=>c.1=none/\(uR κ O rk a0 a0.size st'\/sQ κ O rk a0 st')) ?_ ?_ ?_) ?_)
 ·rintro x c st' _ hx H
  rcases H with⟨rfl,rfl,hB⟩ | ⟨n1,rfl,hR,hx1,hor⟩ | ⟨rfl,hR,hx1⟩
  ·dsimp only
   refine aM (by lia) ?_
   refine wpS_bind (pI hC hS hB (by lia) (by lia) λm st2 hB2 m1 m2 u=>?_)
   have put:∀ n st3,SB κ a0 0 #[] (gallopOf st) st3->Up rk (arrOf st3) 0 n->mr<=n->n<=a0.size->
     uR κ O rk a0 n (SortSt.mk' (kindOf st3) (arrOf st3) ((pendingOf st3).push (0,n,0)) (gallopOf st3) (failedOf st3))/\(n=a0.size\/0+1=1/\32<=n/\n < 64/\a0.size=64):=λn st3 hB3 u3 h1 h2=>
    ⟨⟨hB3.perm,hB3.kind,hB3.fail,by show (pendingOf st3).push _=_;rw [hB3.pend];rfl,u3⟩,by lia⟩
   dsimp only
   by_cases hlt:m < mr
   ·refine aU hlt ?_
    refine wpS_bind (fY (wpS_bind (nU hC hS hB2 m1 (by lia) (by lia) u λst3 hB3 u3=>?_)))
    refine aM (by simp) ?_
    have hP:=put _ st3 hB3 u3 (by lia) (by lia)
    refine wpS_bind (wpS_get ?_)
    have hb:(pendingOf st3).back?=none:=by rw [hB3.pend];rfl
    rw [hb]
    exact wpS_bind (wpS_modify (wpS_pure (.inr (.inl ⟨_,by rw [Nat.zero_add],hP.1,by lia,hP.2⟩))))
   ·refine aM hlt ?_
    have hP:=put m st2 hB2 u (by lia) (by lia)
    refine wpS_bind (wpS_get ?_)
    have hb:(pendingOf st2).back?=none:=by rw [hB2.pend];rfl
    rw [hb]
    exact wpS_bind (wpS_modify (wpS_pure (.inr (.inl ⟨_,by rw [Nat.zero_add],hP.1,by lia,hP.2⟩))))
  ·dsimp only
   by_cases hge:n1>=a0.size
   ·refine aU hge ?_
    have e:n1=a0.size:=by lia
    subst e
    exact wpS_pure ⟨rfl,.inl hR⟩
   refine aM hge ?_
   have hsz:(arrOf st').size=a0.size:=hR.perm.size_eq
   have hS':∀ x ∈ (arrOf st').toList,S x:=λx hx=>hS x ((Array.perm_iff_toList_perm.mp hR.perm).mem_iff.mp hx)
   have hB:SB κ (arrOf st') n1 #[(0,n1,0)] (gallopOf st') st':=⟨Array.Perm.refl _,λ_ _=>rfl,hR.kind,hR.fail,hR.pend,rfl⟩
   have hn:32<=n1/\n1 < 64/\a0.size=64/\mr=32:=by lia
   refine wpS_bind (pI hC hS' hB (by lia) (by lia) λm st2 hB2 m1 m2 u=>?_)
   have put:∀ n pw st3,n=a0.size - n1->SB κ (arrOf st') n1 #[(0,n1,0)] (gallopOf st') st3->Up rk (arrOf st3) n1 n->
     sQ κ O rk a0 (SortSt.mk' (kindOf st3) (arrOf st3) (((pendingOf st3).modify ((pendingOf st3).size - 1) λx=>(x.1,x.2.1,pw)).push (n1,n,0)) (gallopOf st3) (failedOf st3)):=λn pw st3 hn3 hB3 u3=>
    ⟨hB3.perm.trans hR.perm,hB3.kind,hB3.fail,n1,n,pw,by lia,by lia,by lia,by show (Array.modify (pendingOf st3) _ _).push _=_;rw [hB3.pend];simp,λi j a b c=>by
     show O.kle (rk (kyd (arrOf st3) i)) (rk (kyd (arrOf st3) j))
     rw [cN (hB3.pre i (by lia)),cN (hB3.pre j (by lia))]
     exact hR.up i j a b c,u3⟩
   have inner:∀ st3,SB κ (arrOf st') n1 #[(0,n1,0)] (gallopOf st') st3->∀ (f:Nat->Option Unit×Unit->StateT SortSt Sem (ForInStep (Option Unit×Unit))) (Q':Option Unit×Unit->SortSt->Prop),
     (∀ x,∀ Q'':ForInStep (Option Unit×Unit)->SortSt->Prop,Q'' (.done (none,())) st3->wpS (model prog w) A E s (f x (none,())) Q'' st3)->Q' (none,()) st3->wpS (model prog w) A E s (forIn [0:a0.size] (none,()) f) Q' st3:=λst3 hB3 f Q' hf hq=>
    wpS_forRange (I:=λ_ c st4=>c=(none,())/\st4=st3) (λi c st4 _ _ hI=>by
     obtain⟨rfl,rfl⟩:=hI
     exact hf i _ hq) (λc st4 hI=>by obtain⟨rfl,rfl⟩:=hI;exact hq) ⟨rfl,rfl⟩
   dsimp only
   by_cases hlt:m < mr
   case' pos=>
    refine aU hlt ?_
    refine wpS_bind (fY (wpS_bind (nU hC hS' hB2 m1 (by lia) (by lia) u λst3 hB3 u3=>?_)))
    refine aM (by simp) ?_
    have e9:min (a0.size - n1) mr=a0.size - n1:=by lia
    rw [e9] at u3 ⊢
   case' neg=>
    refine aM hlt ?_
    have e9:m=a0.size - n1:=by lia
    subst e9
    have hB3:=hB2
    have u3:=u
    revert hB3 u3
    clear u hB2
    generalize st2=st3
    intro hB3 u3
   all_goals
    refine wpS_bind (wpS_get ?_)
    have hb:(pendingOf st3).back?=some (0,n1,0):=by rw [hB3.pend];rfl
    rw [hb]
    refine wpS_bind (inner st3 hB3 _ _ (λx Q'' hq=>?_) ?_)
    ·refine wpS_bind (wpS_get ?_)
     have hb2:(if (pendingOf st3).size > 1 then (pendingOf st3)[(pendingOf st3).size - 2]? else none)=none:=by rw [hB3.pend];rfl
     rw [hb2]
     exact wpS_pure hq
    ·refine wpS_bind (wpS_modify (wpS_bind (wpS_modify (wpS_pure (.inr (.inr ⟨?_,put _ _ st3 rfl hB3 u3,by lia⟩))))))
     rw [show n1+(a0.size - n1)=a0.size by lia]
  ·dsimp only
   refine aU (Nat.le_refl _) ?_
   exact wpS_pure ⟨rfl,.inr hR⟩
 ·rintro c st' (⟨hx,_⟩ | ⟨n1,rfl,hR,hx1,hor⟩ | ⟨rfl,hR,hx1⟩)
  ·lia
  ·have e:n1=a0.size:=by lia
   subst e
   exact⟨rfl,.inl hR⟩
  ·exact⟨rfl,.inr hR⟩
 ·exact .inl ⟨rfl,rfl,by rw [ha],λ_ _=>by rw [ha],hk,hf,hp,rfl⟩
 ·rintro⟨c1,c2⟩ st' ⟨rfl,hR⟩
  dsimp only
  refine wpS_bind (wpS_mono (wpS_forRange (I:=λy c st2=>c=(none,())/\((y=0/\sQ κ O rk a0 st2)\/((pendingOf st2).size=1/\(arrOf st2).toList.Perm a0.toList/\(arrOf st2).toList.Pairwise (λx y=>O.kle (rk x) (rk y))/\failedOf st2=none)))
   (Q:=λc st2=>c=(none,())/\(arrOf st2).toList.Perm a0.toList/\(arrOf st2).toList.Pairwise (λx y=>O.kle (rk x) (rk y))/\failedOf st2=none) ?_ ?_ ?_) ?_)
  ·rintro y c st2 _ hy ⟨rfl,⟨rfl,hR2⟩ | ⟨h1,h2',h3,h4⟩⟩
   ·refine wpS_bind (wpS_get ?_)
    obtain⟨n1,n2,p,z1,z2,z3,z4,u1,u2⟩:=hR2.ex
    have hsz:(arrOf st2).size=a0.size:=hR2.perm.size_eq
    have z5:(sortPriv% PySem.Builtin.SortState.pending) st2=#[(0,n1,p),(n1,n2,0)]:=z4
    rw [z5]
    refine wpS_bind (m:=uI 0) (uv hC hR2.kind hR2.fail z4 (λx hx=>hS x ((Array.perm_iff_toList_perm.mp hR2.perm).mem_iff.mp hx)) (by lia) z1 z2 u1 u2 λst3 a1 a2 a3 a4=>?_)
    refine aM (by simp) ?_
    exact wpS_pure ⟨rfl,.inr ⟨by rw [a4];rfl,a1.trans (Array.perm_iff_toList_perm.mp hR2.perm),a2,a3⟩⟩
   ·refine wpS_bind (wpS_get ?_)
    have h1':(pendingOf st2).size<=1:=by lia
    refine aU h1' ?_
    exact wpS_pure ⟨rfl,h2',h3,h4⟩
  ·rintro c st2 ⟨rfl,⟨hy,_⟩ | ⟨h1,h2',h3,h4⟩⟩
   ·lia
   ·exact⟨rfl,h2',h3,h4⟩
  ·refine⟨rfl,?_⟩
   rcases hR with hR | hR
   ·have hsz:(arrOf st').size=a0.size:=hR.perm.size_eq
    exact .inr ⟨by rw [hR.pend];rfl,Array.perm_iff_toList_perm.mp hR.perm,lH (by rw [hsz];exact hR.up),hR.fail⟩
   ·exact .inl ⟨rfl,hR⟩
  ·rintro c st2 ⟨rfl,h2',h3,h4⟩
   exact wpS_pure (h st2 h2' h3 h4)
end
end L2
namespace L2
open PySem PySem.Spec PyProof.Rows PySem.SeqAt
open MeetsSeq MeetsSeq2 MeetsSeq3 SeqRoads2
open AutoSeq1 (wpAny_loadPart')
noncomputable def kO (A:Around) (s:Shared) (y x:Value) (b:Bool):Prop:=∀ (prog:Program) (w:World) (E:Value->Shared->Prop) (Q:Value->Shared->Prop),Q (.bool b) s->wpAny (model prog w) A (richCompare .Lt y x) Q E s
noncomputable def kq (e l:Nat->Bool) (fin:Bool):Nat->Nat->Bool
 | 0,_=>fin
 | k+1,i=>if e i=true then kq e l fin k (i+1) else l i
theorem kJ (p q:Addr) (us vs:Array Value) (n n2:Nat) (dd dd2:Option Addr) (sl sl2:Array (Option Value)) (e l:Nat->Bool) :
  Meets (Builtin.«tuple.__lt__» ⟨[.ref p,.ref q],[]⟩)
   (λA R s=>(s.heap.get? p=some ⟨.type "tuple",dd,.seq us n,sl⟩/\s.heap.get? q=some ⟨.type "tuple",dd2,.seq vs n2,sl2⟩)/\
     (∀ j (h1:j < us.size) (h2:j < vs.size),EqAt A.in1 s us[j] vs[j] (e j)/\(e j=false->kO A.in1 s us[j] vs[j] (l j)))/\
     R (.ok (.ret (.bool (kq e l (decide (us.size < vs.size)) (min us.size vs.size) 0)))) s):=
 .of_wp λprog w A R s h=>by
  obtain⟨hp,g,d,tk,os⟩:=s
  obtain⟨⟨h1,h2⟩,he,h⟩:=h
  have f2:=AutoSeq1.sub_tuple_tuple
  have hZ:(us.toList.zip vs.toList).length=min us.size vs.size:=by simp
  wp_walk using wpAny_loadPart' h1,wpAny_loadPart' h2,wpAny_forIn_list _ (λrest b s'=>b.1=none/\s'=⟨hp,g,d,tk,os⟩/\∃ i,i<=min us.size vs.size/\rest=(us.toList.zip vs.toList).drop i/\
   R (.ok (.ret (.bool (kq e l (decide (us.size < vs.size)) (min us.size vs.size - i) i)))) ⟨hp,g,d,tk,os⟩) _
  case turn=>
   rintro⟨y,x⟩ rest b s' ⟨hb',rfl,i,hi,hz,hR⟩
   have hlt:i < (us.toList.zip vs.toList).length:=by
    rcases Nat.lt_or_ge i (us.toList.zip vs.toList).length with h' | h'
    ·exact h'
    ·rw [List.drop_of_length_le h'] at hz;cases hz
   rw [hZ] at hlt
   have g1:i < us.size:=by lia
   have g2:i < vs.size:=by lia
   rw [List.drop_eq_getElem_cons (by rw [hZ];exact hlt)] at hz
   injection hz with hyx hrest
   have hy:y=us[i]:=by have:=congrArg Prod.fst hyx;simpa using this
   have hx:x=vs[i]:=by have:=congrArg Prod.snd hyx;simpa using this
   subst hy hx
   obtain⟨k,hk⟩:∃ k,min us.size vs.size - i=k+1:=⟨min us.size vs.size - i - 1,by lia⟩
   rw [hk] at hR
   have hR':R (.ok (.ret (.bool (if e i=true then kq e l (decide (us.size < vs.size)) k (i+1) else l i)))) ⟨hp,g,d,tk,os⟩:=hR
   refine wpAny_bind ((he i g1 g2).1 prog w _ _ ?_)
   cases hy:e i with
   | true=>
    rw [hy,if_pos rfl] at hR'
    wp_walk
    exact⟨rfl,rfl,i+1,by lia,hrest,by rw [show min us.size vs.size - (i+1)=k by lia];exact hR'⟩
   | false=>
    rw [hy,if_neg (by simp)] at hR'
    simp only [Bool.not_false,if_true]
    refine wpAny_bind (wpAny_rule ?_)
    refine wpAny_bind ((he i g1 g2).2 hy prog w _ _ ?_)
    wp_walk
    exact⟨_,rfl,hR'⟩
  case fin=>
   rintro⟨b1,b2⟩ s' ⟨hb',rfl,i,hi,hz,hR⟩
   simp only at hb'
   subst hb'
   have hge:min us.size vs.size<=i:=by
    rcases Nat.lt_or_ge i (us.toList.zip vs.toList).length with h' | h'
    ·rw [List.drop_eq_getElem_cons h'] at hz;cases hz
    ·rw [hZ] at h';exact h'
   rw [show min us.size vs.size - i=0 by lia] at hR
   wp_walk
   exact⟨_,rfl,by simpa [Builtin.Tuple.tupleCompareSizes,kq] using hR⟩
  case h=>exact⟨rfl,rfl,0,Nat.zero_le _,rfl,h⟩
section
variable {A:Around}{s:Shared}{p q:Addr}{us vs:Array Value}{e l:Nat->Bool}
theorem kO.tuples (hl:s.heap.IsTuple p us) (hb:s.heap.IsTuple q vs) (hu:A.units < cLine) (he:∀ j (h1:j < us.size) (h2:j < vs.size),EqAt A.in1 s us[j] vs[j] (e j)/\(e j=false->kO A.in1 s us[j] vs[j] (l j))) :
  kO A s (.ref p) (.ref q) (kq e l (decide (us.size < vs.size)) (min us.size vs.size) 0):=λprog w E Q h=>by
 obtain⟨⟨cls,dd,data,sl⟩,ho,hc,n,hd⟩:=id hl
 obtain⟨⟨cls2,dd2,data2,sl2⟩,ho2,hc2,n2,hd2⟩:=id hb
 simp only at hc hd hc2 hd2
 subst hc hd hc2 hd2
 exact richCompare_meets_room (op:=.Lt) ⟨_,ho,rfl⟩ ⟨_,ho2,rfl⟩ PySem.F.slot_tuple_lt PySem.F.entry_tuple_lt (PySem.F.args_tuple_lt_2 _ _) (kJ p q us vs n n2 dd dd2 sl sl2 e l)
  ⟨⟨ho,ho2⟩,he,(λx=>nomatch x),h⟩ hu
end
end L2
namespace L2
open PySem PySem.Spec PyProof.Rows PySem.SeqAt PySem.W
noncomputable def bM:List Int->List Int->Bool
 | [],[]=>false
 | [],_::_=>true
 | _::_,[]=>false
 | a::as,b::bs=>if a=b then bM as bs else decide (a < b)
theorem nq:∀ a,bM a a=false
 | []=>rfl
 | a::as=>by unfold bM;rw [if_pos rfl];exact nq as
theorem iF:∀ a b,bM a b=false->bM b a=false->a=b
 | [],[],_,_=>rfl
 | [],_::_,h,_=>by cases h
 | _::_,[],_,h=>by cases h
 | a::as,b::bs,h,h'=>by
  unfold bM at h h'
  by_cases e:a=b
  ·subst e
   rw [if_pos rfl] at h h'
   rw [iF as bs h h']
  ·rw [if_neg e] at h
   rw [if_neg (Ne.symm e)] at h'
   rw [decide_eq_false_iff_not] at h h'
   lia
theorem mh:∀ a b c,bM a b=true->bM b c=true->bM a c=true
 | [],[],_,h,_=>by cases h
 | [],_::_,[],_,h=>by cases h
 | [],_::_,_::_,_,_=>rfl
 | _::_,[],_,h,_=>by cases h
 | _::_,_::_,[],_,h=>by cases h
 | a::as,b::bs,c::cs,h,h'=>by
  unfold bM at h h' ⊢
  by_cases e:a=b
  ·subst e
   rw [if_pos rfl] at h
   by_cases e2:a=c
   ·subst e2;rw [if_pos rfl] at h' ⊢;exact mh as bs cs h h'
   ·rw [if_neg e2] at h' ⊢;exact h'
  ·rw [if_neg e,decide_eq_true_iff] at h
   by_cases e2:b=c
   ·subst e2;rw [if_neg e,decide_eq_true_iff];exact h
   ·rw [if_neg e2,decide_eq_true_iff] at h'
    rw [if_neg (by lia),decide_eq_true_iff];lia
theorem rf:∀ a b c,bM a c=true->bM a b=true\/bM b c=true
 | a,b,c,h=>by
  by_cases h1:bM a b=true
  ·exact .inl h1
  ·rw [Bool.not_eq_true] at h1
   by_cases h2:bM b a=true
   ·exact .inr (mh b a c h2 h)
   ·rw [Bool.not_eq_true] at h2
    rw [iF a b h1 h2] at h;exact .inr h
noncomputable def OI:KeyOrd:=⟨List Int,bM,nq,mh,rf,iF⟩
noncomputable def TuI (h:Heap) (v:Value) (l:List Int):Prop:=∃ a its,v=.ref a/\h.IsTuple a its/\IntsAre its.toList l
noncomputable def bG:Value->Int
 | .int n _=>n
 | _=>0
noncomputable def tuI (h:Heap):Value->List Int
 | .ref a=>match h.get? a with
  | some o=>match o.data with
   | .seq its _=>its.toList.map bG
   | _=>[]
  | none=>[]
 | _=>[]
theorem kf:∀ {us:List Value}{l:List Int},IntsAre us l->us.map bG=l
 | _,_,.nil=>rfl
 | _,_,.cons n t h=>by rw [List.map_cons,kf h];rfl
theorem cS:∀ {us:List Value}{l:List Int},IntsAre us l->us.length=l.length
 | _,_,.nil=>rfl
 | _,_,.cons n t h=>by rw [List.length_cons,List.length_cons,cS h]
theorem fO:∀ {us:List Value}{l:List Int},IntsAre us l->∀ (j:Nat) (h:j < us.length),∃ t,us[j]=.int (l.getD j 0) t
 | _,_,.nil,j,h=>absurd h (Nat.not_lt_zero j)
 | _,_,.cons n t hh,0,h=>⟨t,rfl⟩
 | _,_,.cons n t hh,j+1,h=>by
  obtain⟨t',e⟩:=fO hh j (Nat.lt_of_succ_lt_succ h)
  exact⟨t',by simpa using e⟩
theorem TuI.is {h:Heap}{v:Value}{l:List Int} (t:TuI h v l):tuI h v=l:=by
 obtain⟨a,its,rfl,⟨o,ho,hc,n,hd⟩,hi⟩:=t
 simp only [tuI,ho,hd]
 exact kf hi
theorem TuI.fit {h h':Heap}{v:Value}{l:List Int} (t:TuI h v l) (hk:∀ b o,h.get? b=some o->h'.get? b=some o):TuI h' v l:=by
 obtain⟨a,its,rfl,⟨o,ho,r⟩,hi⟩:=t
 exact⟨a,its,rfl,⟨o,hk _ _ ho,r⟩,hi⟩
theorem kr:∀ (l m:List Int) (i:Nat) (e f:Nat->Bool),(∀ j,j < l.length->j < m.length->e (i+j)=decide (l.getD j 0=m.getD j 0)/\f (i+j)=decide (l.getD j 0 < m.getD j 0))->
  kq e f (decide (l.length < m.length)) (min l.length m.length) i=bM l m
 | [],[],i,e,f,_=>by simp [kq,bM]
 | [],b::m,i,e,f,_=>by simp [kq,bM]
 | a::l,[],i,e,f,_=>by simp [kq,bM]
 | a::l,b::m,i,e,f,h=>by
  have h0:=h 0 (by simp) (by simp)
  rw [List.length_cons,List.length_cons,show min (l.length+1) (m.length+1)=min l.length m.length+1 by lia]
  have e1:decide (l.length+1 < m.length+1)=decide (l.length < m.length):=by rw [Bool.eq_iff_iff];simp
  rw [e1]
  show (if e i=true then kq e f (decide (l.length < m.length)) (min l.length m.length) (i+1) else f i)=if a=b then bM l m else decide (a < b)
  rw [Nat.add_zero] at h0
  rw [h0.1,h0.2]
  by_cases q:a=b
  ·subst q
   simp only [List.getD_cons_zero,decide_true,if_true]
   exact kr l m (i+1) e f λj h1 h2=>by
    have:=h (j+1) (by simpa using h1) (by simpa using h2)
    rw [show i+1+j=i+(j+1) by lia]
    simpa using this
  ·simp [q]
section
variable {prog:Program}{w:World}{A:Around}{E:Value->Shared->Prop}{s:Shared}{x y:Value}{l m:List Int}
theorem kO.ints {a b:Int}{t u:Tok}:kO A s (.int a t) (.int b u) (decide (a < b)):=λprog w E Q h=>PyProof.Rows.lt_int h
theorem EqAt.ints {a b:Int}{t u:Tok}:EqAt A s (.int a t) (.int b u) (decide (a=b)):=by
 have:=qF (A:=A) (s:=s) (y:=.int a) (x:=.int b) (u:=.int a t) (v:=.int b u) ⟨t,rfl⟩ ⟨u,rfl⟩ rfl rfl
 have e:eqV (.int a) (.int b)=decide (a=b):=by simp [eqV,Bool.beq_eq_decide_eq]
 rw [e] at this;exact this
theorem TuI.lt (tx:TuI s.heap x l) (ty:TuI s.heap y m) (hu:A.units < cLine):kO A s x y (bM l m):=by
 obtain⟨a,us,rfl,h1,i1⟩:=tx
 obtain⟨b,vs,rfl,h2,i2⟩:=ty
 have e1:us.size=l.length:=by rw [<-Array.length_toList];exact cS i1
 have e2:vs.size=m.length:=by rw [<-Array.length_toList];exact cS i2
 have z:=kO.tuples (A:=A) (e:=λj=>decide (l.getD j 0=m.getD j 0)) (l:=λj=>decide (l.getD j 0 < m.getD j 0)) h1 h2 hu λj g1 g2=>by
  obtain⟨t,q1⟩:=fO i1 j (by simpa using g1)
  obtain⟨t',q2⟩:=fO i2 j (by simpa using g2)
  rw [Array.getElem_toList] at q1 q2
  rw [q1,q2]
  exact⟨EqAt.ints,λ_=>kO.ints⟩
 rw [e1,e2,kr l m 0 _ _ λj h1 h2=>by rw [Nat.zero_add];exact⟨rfl,rfl⟩] at z
 exact z
theorem TuI.one (tx:TuI s.heap x l) (ty:TuI s.heap y m) (hu:A.units < cLine) {Q:Bool->Shared->Prop} (h:Q (bM l m) s) (b:Bool):wpAny (model prog w) A (oneLt' b x y) Q E s:=by
 cases b with
 | false=>exact kat_one _ _ (tx.lt ty hu _ _ _ _ h)
 | true=>
  rw [oneLt'_eq]
  simp only [if_true]
  refine wpAny_bind (wpAny_cRoomFor hu ?_)
  obtain⟨a,us,rfl,h1,i1⟩:=id tx
  obtain⟨c,vs,rfl,h2,i2⟩:=id ty
  obtain⟨⟨cls,dd,data,sl⟩,ho,hc,n,hd⟩:=id h1
  obtain⟨⟨cls2,dd2,data2,sl2⟩,ho2,hc2,n2,hd2⟩:=id h2
  simp only at hc hd hc2 hd2
  subst hc hd hc2 hd2
  have e1:us.size=l.length:=by rw [<-Array.length_toList];exact cS i1
  have e2:vs.size=m.length:=by rw [<-Array.length_toList];exact cS i2
  refine wpAny_bind (wpAny_callSpecialIfBound?_slot (T:="tuple") ⟨_,ho,rfl⟩ PySem.F.slot_tuple_lt (call_meets PySem.F.slot_tuple_lt ⟨_,ho,rfl⟩ PySem.F.entry_tuple_lt (PySem.F.args_tuple_lt_2 _ _)
   (kJ a c us vs n n2 dd dd2 sl sl2 (λj=>decide (l.getD j 0=m.getD j 0)) λj=>decide (l.getD j 0 < m.getD j 0)) ⟨⟨ho,ho2⟩,λj g1 g2=>?_,?_⟩))
  ·obtain⟨t,q1⟩:=fO i1 j (by simpa using g1)
   obtain⟨t',q2⟩:=fO i2 j (by simpa using g2)
   rw [Array.getElem_toList] at q1 q2
   rw [q1,q2]
   exact⟨EqAt.ints,λ_=>kO.ints⟩
  ·rw [e1,e2,kr l m 0 _ _ λj h1 h2=>by rw [Nat.zero_add];exact⟨rfl,rfl⟩]
   exact wpAny_truthy_bool h
theorem rg {Q:Bool->Shared->Prop}{fin:Bool}:∀ {us vs:List Value}{l m:List Int} (i:Nat),IntsAre us l->IntsAre vs m->(fin=decide (l.length < m.length))->Q (bM l m) s->KatLex prog w A true fin Q (us.zip vs) i s
 | _,_,_,_,i,.nil,.nil,hf,h=>kat_nil (by rw [hf];exact h)
 | _,_,_,_,i,.nil,.cons n t r,hf,h=>kat_nil (by rw [hf];simpa [bM] using h)
 | _,_,_,_,i,.cons n t r,.nil,hf,h=>kat_nil (by rw [hf];simpa [bM] using h)
 | _,_,_,_,i,.cons (vs:=us) (ns:=l) a t r,.cons (vs:=vs) (ns:=m) b u r',hf,h=>by
  rw [List.zip_cons_cons]
  refine kat_cons (EqAt.ints prog w _ _ ?_)
  unfold bM at h
  by_cases e:a=b
  ·subst e
   rw [if_pos rfl] at h
   rw [decide_eq_true rfl]
   exact kat_yes (rg (i+1) r r' (by rw [hf,Bool.eq_iff_iff];simp) h)
  ·rw [if_neg e] at h
   rw [decide_eq_false e]
   refine kat_no ?_
   cases (true && i==0) with
   | true=>exact oneLt_int h
   | false=>exact kat_one _ _ (PyProof.Rows.lt_int h)
theorem TuI.tups (tx:TuI s.heap x l) (ty:TuI s.heap y m) {Q:Bool->Shared->Prop} (h:Q (bM l m) s):wpAny (model prog w) A (keyLt' (tuples' true) x y) Q E s:=by
 obtain⟨a,us,rfl,⟨o,ho,hc,n,hd⟩,i1⟩:=tx
 obtain⟨c,vs,rfl,⟨o2,ho2,hc2,n2,hd2⟩,i2⟩:=ty
 have e1:us.size=l.length:=by rw [<-Array.length_toList];exact cS i1
 have e2:vs.size=m.length:=by rw [<-Array.length_toList];exact cS i2
 exact kat_lt ho hd ho2 hd2 (rg 0 i1 i2 (by rw [e1,e2]) h)
end
end L2
namespace L2
open PySem PySem.Spec PyProof.Rows PySem.SeqAt PySem.W
section
variable {prog:Program}{w:World}{A:Around}{E:Value->Shared->Prop}{s:Shared}{O:KeyOrd}{rk:Keyed->O.α}{S:Keyed->Prop}{vs:List Value}
theorem nX:∀ (vs:List Value),vs.zip vs=vs.map λv=>(v,v)
 | []=>rfl
 | v::vs=>by rw [List.zip_cons_cons,nX vs];rfl
theorem vR {α β:Type}{f:α->β}{R:β->β->Prop}:∀ {vs:List α},vs.toArray.size < 2->(vs.map f).Pairwise R
 | [],_=>List.Pairwise.nil
 | [v],_=>List.pairwise_singleton _ _
 | _::_::_,h=>absurd h (by simp)
set_option maxHeartbeats 1000000 in
theorem pX {a:Addr}{n:Nat}{P:PySem.Fin->Shared->Prop} (ho:s.heap.get? a=some (seqObj "list" vs.toArray n)) (h64:vs.length<=64)
  (hyp:∀ h',(∀ b o,b≠a->s.heap.get? b=some o->h'.get? b=some o)->∃ κ,(2<=vs.length->∀ (Q':SortKind->Shared->Prop) E',Q' κ { s with heap:=h' }->wpAny (model prog w) A (keyKind' vs.toArray) Q' E' { s with heap:=h' })/\Cm prog w A { s with heap:=h' } κ O rk S)
  (hS:∀ v ∈ vs,S (v,v))
  (h:∀ out:List Value,out.Perm vs->out.Pairwise (λx y=>O.kle (rk (x,x)) (rk (y,y)))->P (.done (.ret .none)) { s with heap:=sortedHeap s.heap a vs out.toArray }) :
  wpAny (model prog w) A (Builtin.«list.sort» ⟨[.ref a],[]⟩) P E s:=by
 rw [list_sort_plain]
 have hlt:a < s.heap.objs.size:=Heap.lt_size ho
 have hsz:vs.toArray.size=vs.length:=by simp
 refine wpAny_bind (listItems_at ho rfl ?_)
 refine wpAny_bind (listUpdate_at ho rfl ?_ (by rw [hsz,sizeLine_eq];lia))
 obtain⟨e1,ho1⟩:∃ e1,(s.heap.update a (Obj.mapSeq λ_=>#[])).get? a=some (seqObj "list" #[] e1):=⟨_,get?_update_seq ho (λ_=>#[])⟩
 refine wpAny_bind (seqEpoch_at ho1 rfl ?_)
 refine wpAny_bind (wpAny_newTuple ?_ (by rw [sizeLine_eq];show vs.toArray.toList.length<=_;simp;lia))
 refine wpAny_bind (wpAny_newList ?_)
 refine wpAny_holding ?_
 have z1:(s.heap.update a (Obj.mapSeq λ_=>(#[]:Array Value))).objs.size=s.heap.objs.size:=Heap.size_update ..
 have keepN:∀ b o,b < s.heap.objs.size->(s.heap.update a (Obj.mapSeq λ_=>(#[]:Array Value))).get? b=some o->
   (((s.heap.update a (Obj.mapSeq λ_=>#[])).push (seqObj "tuple" vs.toArray 0)).push (seqObj "list" #[] 0)).get? b=some o:=λb o hb q=>by
  rw [Heap.get?_push_ne _ _ _ (Nat.ne_of_lt (by rw [size_push',z1];exact Nat.lt_succ_of_lt hb)),Heap.get?_push_ne _ _ _ (Nat.ne_of_lt (by rw [z1];exact hb))]
  exact q
 have ho6:=keepN a _ hlt ho1
 obtain⟨κ,hkk,hC⟩:=hyp (((s.heap.update a (Obj.mapSeq λ_=>#[])).push (seqObj "tuple" vs.toArray 0)).push (seqObj "list" #[] 0)) λb o hb q=>
  keepN b o (Heap.lt_size q) (by rw [Heap.get?_update_ne _ _ _ _ hb];exact q)
 show wpAny (model prog w) A _ P E { s with heap:=((s.heap.update a (Obj.mapSeq λ_=>#[])).push (seqObj "tuple" vs.toArray 0)).push (seqObj "list" #[] 0) }
 have pt:(vs.toArray.zip vs.toArray).toList=vs.map λv=>(v,v):=by rw [<-nX];simp
 have fin:∀ st':SortSt,(arrOf st').toList.Perm (vs.map λv=>(v,v))->(arrOf st').toList.Pairwise (λx y=>O.kle (rk x) (rk y))->∃ out:List Value,out.length=vs.length/\(arrOf st').map (·.2)=out.toArray/\P (.done (.ret .none)) { s with heap:=sortedHeap s.heap a vs out.toArray }:=λst' h1 h2=>by
  refine⟨(arrOf st').toList.map (·.2),by rw [List.length_map,h1.length_eq,List.length_map],by apply Array.toList_inj.mp;simp,h _ ?_ ?_⟩
  ·have:=h1.map (·.2)
   rw [List.map_map] at this
   have e:(vs.map ((λx=>x.2) ∘ λv=>((v,v):Keyed)))=vs:=by rw [show ((λx:Keyed=>x.2) ∘ λv=>((v,v):Keyed))=id from rfl,List.map_id]
   rw [e] at this;exact this
  ·rw [List.pairwise_map]
   refine h2.imp_of_mem λ{x y} hx hy q=>?_
   have dx:x=(x.2,x.2):=by obtain⟨v,_,rfl⟩:=List.mem_map.mp (h1.mem_iff.mp hx);rfl
   have dy:y=(y.2,y.2):=by obtain⟨v,_,rfl⟩:=List.mem_map.mp (h1.mem_iff.mp hy);rfl
   rw [<-dx,<-dy];exact q
 dsimp only
 by_cases h2:vs.toArray.size < 2
 ·rw [if_pos h2,if_pos h2]
  refine wpAny_bind (wpAny_pure ?_)
  rw [StateT.run_pure]
  refine wpAny_bind (wpAny_pure ?_)
  dsimp only
  obtain⟨out,q0,q1,q2⟩:=fin (SortSt.mk' general' (vs.toArray.zip vs.toArray) #[] 7 none) (by rw [pt]) (by rw [pt];exact vR h2)
  refine wpAny_bind (seqEpoch_at ho6 rfl ?_)
  rw [q1]
  refine wpAny_bind (listUpdate_at ho6 rfl ?_ (hsz2:=by show out.length<=_;rw [q0,sizeLine_eq];lia))
  simp only [bne_self_eq_false,Bool.false_eq_true,if_false]
  exact wpAny_pure q2
 ·rw [if_neg h2,if_neg h2]
  refine wpAny_bind (hkk (by lia) _ _ ?_)
  refine wpAny_bind (wpAny_mono (uy hC (st:=SortSt.mk' κ (vs.toArray.zip vs.toArray) #[] 7 none) (a0:=vs.toArray.zip vs.toArray) (Q:=λ_ st'=>(arrOf st').toList.Perm (vs.map λv=>(v,v))/\(arrOf st').toList.Pairwise (λx y=>O.kle (rk x) (rk y))/\failedOf st'=none)
   rfl rfl rfl rfl (λx hx=>?_) (by simp;lia) (by simp;lia) λst' a1 a2 a3=>⟨by rw [<-pt];exact a1,a2,a3⟩) ?_ λ_ _ e=>e)
  ·rw [pt] at hx
   obtain⟨v,hv,rfl⟩:=List.mem_map.mp hx
   exact hS v hv
  rintro⟨⟨⟩,st'⟩ s' ⟨rfl,a1,a2,a3⟩
  dsimp only
  obtain⟨out,q0,q1,q2⟩:=fin st' a1 a2
  refine wpAny_bind (seqEpoch_at ho6 rfl ?_)
  rw [q1]
  refine wpAny_bind (listUpdate_at ho6 rfl ?_ (hsz2:=by show out.length<=_;rw [q0,sizeLine_eq];lia))
  rw [a3]
  simp only [bne_self_eq_false,Bool.false_eq_true,if_false]
  exact wpAny_pure q2
theorem kG {l:Addr}{Q:Value->Shared->Prop} (hl:s.heap.IsList l vs.toArray) (h64:vs.length<=64)
  (hyp:∀ h',(∀ b o,s.heap.get? b=some o->h'.get? b=some o)->∃ κ,(2<=vs.length->∀ (Q':SortKind->Shared->Prop) E',Q' κ { s with heap:=h' }->wpAny (model prog w) A.in1.in1 (keyKind' vs.toArray) Q' E' { s with heap:=h' })/\Cm prog w A.in1.in1 { s with heap:=h' } κ O rk S)
  (hS:∀ v ∈ vs,S (v,v))
  (h:∀ out:List Value,out.Perm vs->out.Pairwise (λx y=>O.kle (rk (x,x)) (rk (y,y)))->Q (.ref (s.heap.objs.size+1)) { s with heap:=sortedAll s.heap vs out.toArray }) :
  wpAny (model prog w) A (call (.builtin "sorted") [.ref l]) Q E s:=by
 refine Calls.call_function_entry kind_sorted plain_sorted entry_sorted (args_sorted1 _) ?_
 unfold Builtin.«sorted»
 refine wpAny_bind (m:=checkCount "sorted" 1 1 _) (wpAny_pure ?_)
 refine wpAny_bind (collect_list hl ?_ (by rw [sizeLine_eq];lia))
 refine wpAny_bind (wpAny_newList ?_ (by rw [sizeLine_eq];lia))
 have hz:((s.heap.push (seqObj "list" #[] 0)).update s.heap.objs.size (Obj.mapSeq (·++vs.toArray))).objs.size=s.heap.objs.size+1:=by rw [Heap.size_update,size_push']
 generalize hh:((s.heap.push (seqObj "list" #[] 0)).update s.heap.objs.size (Obj.mapSeq (·++vs.toArray)))=hB at hz ⊢
 have hoL:(hB.push (seqObj "list" vs.toArray 0)).get? (s.heap.objs.size+1)=some (seqObj "list" vs.toArray 0):=by
  rw [<-hz];exact Heap.get?_push_size _ rfl
 have keep:∀ b o,s.heap.get? b=some o->b≠s.heap.objs.size+1/\(hB.push (seqObj "list" vs.toArray 0)).get? b=some o:=λb o q=>by
  have hlt:b < s.heap.objs.size:=Heap.lt_size q
  refine⟨Nat.ne_of_lt (Nat.lt_succ_of_lt hlt),?_⟩
  rw [Heap.get?_push_ne _ _ _ (Nat.ne_of_lt (by rw [hz];exact Nat.lt_succ_of_lt hlt)),<-hh,Heap.get?_update_ne _ _ _ _ (Nat.ne_of_lt hlt),Heap.get?_push_ne _ _ _ (Nat.ne_of_lt hlt)]
  exact q
 show wpAny _ _ _ _ _ { s with heap:=hB.push (seqObj "list" vs.toArray 0) }
 rw [hz]
 refine wpAny_bind (wpAny_holding (wpAny_call_entry slot_list_sort ⟨_,hoL,rfl⟩ entry_list_sort (pX (s:={ s with heap:=hB.push (seqObj "list" vs.toArray 0) }) hoL h64 (λh' hk=>hyp h' λb o q=>hk b o (keep b o q).1 (keep b o q).2) hS λout a1 a2=>⟨_,rfl,?_⟩) (args_list_sort _)))
 refine wpAny_pure ⟨_,rfl,?_⟩
 have:=h out a1 a2
 unfold sortedAll at this
 rw [hh] at this
 exact this
end
end L2
namespace L2
open PySem PySem.Spec PyProof.Rows PySem.SeqAt PySem.W
noncomputable def i3 (h:Heap):Value->Option Value
 | .ref a=>match h.get? a with
  | some o=>match o.data with
   | .seq its _=>its[0]?
   | _=>none
  | none=>none
 | _=>none
theorem TuI.fst {h:Heap}{v:Value}{l:List Int} (t:TuI h v l):i3 h v=none\/∃ n t,i3 h v=some (.int n t):=by
 obtain⟨a,its,rfl,⟨o,ho,hc,n,hd⟩,hi⟩:=t
 simp only [i3,ho,hd]
 by_cases hz:0 < its.size
 ·obtain⟨t,e⟩:=fO hi 0 (by simpa using hz)
  exact .inr ⟨_,t,by rw [Array.getElem?_eq_getElem hz];rw [Array.getElem_toList] at e;rw [e]⟩
 ·exact .inl (Array.getElem?_eq_none (by lia))
section
variable {prog:Program}{w:World}{A:Around}{E:Value->Shared->Prop}{s:Shared}
theorem pG {v:Value}{l:List Int} (t:TuI s.heap v l) {Q:Value->Shared->Prop} (h:Q (.type "tuple") s):wpAny (model prog w) A (typeOf v) Q E s:=by
 obtain⟨a,its,rfl,⟨o,ho,hc,n,hd⟩,hi⟩:=t
 refine Looks.here (show Looks (model prog w) s.heap (typeOf (.ref a)) o.cls from (Looks.ld ho).andThen .now) ?_
 rw [hc];exact h
theorem pQ {v:Value}{l:List Int} (t:TuI s.heap v l) {Q:Option Value->Shared->Prop} (h:Q (i3 s.heap v) s):wpAny (model prog w) A (firstOfTuple' v) Q E s:=by
 rw [kas_first_eq]
 refine wpAny_bind (pG t ?_)
 obtain⟨a,its,rfl,⟨o,ho,hc,n,hd⟩,hi⟩:=t
 rw [if_neg (by simp)]
 simp only [i3,ho,hd] at h
 exact wpAny_bind (listItems_at ho hd (wpAny_pure h))
theorem fJ:∀ {vs:List Value}{Q:List (Option Value)->Shared->Prop},(∀ v ∈ vs,∃ l,TuI s.heap v l)->Q (vs.map (i3 s.heap)) s->wpAny (model prog w) A (vs.mapM firstOfTuple') Q E s
 | [],_,_,h=>by rw [List.mapM_nil];exact wpAny_pure h
 | v::vs,Q,t,h=>by
  rw [List.mapM_cons]
  obtain⟨l,tv⟩:=t v List.mem_cons_self
  refine wpAny_bind (pQ tv (wpAny_bind (fJ (Q:=λbs s'=>wpAny (model prog w) A (pure (i3 s.heap v::bs)) Q E s') (λu hu=>t u (List.mem_cons_of_mem _ hu)) (wpAny_pure h))))
theorem oa {x y:Value}{l m:List Int} (hx:TuI s.heap x l) (hy:TuI s.heap y m) {Q:Bool->Shared->Prop} (h:Q (OI.blt (tuI s.heap x) (tuI s.heap y)) s):Q (bM l m) s:=by
 have h':Q (bM (tuI s.heap x) (tuI s.heap y)) s:=h
 rw [hx.is,hy.is] at h';exact h'
theorem qR {vs:List Value} (t:∀ v ∈ vs,∃ l,TuI s.heap v l) (hu:A.units < cLine):∃ κ,(2<=vs.length->∀ (Q':SortKind->Shared->Prop) E',Q' κ s->wpAny (model prog w) A (keyKind' vs.toArray) Q' E' s)/\
  Cm prog w A s κ OI (λp=>tuI s.heap p.1) (λp=>∃ l,TuI s.heap p.1 l):=by
 by_cases c1:(vs.map (i3 s.heap)).toArray.all (·.isSome)=true
 ·refine⟨tuples' true,λh2 Q' E' hq=>?_,λx y ⟨l,hx⟩ ⟨m,hy⟩ Q E h=>hx.tups hy (oa hx hy h)⟩
  rw [keyKind'_eq,List.mapM_toArray,map_eq_pure_bind]
  refine wpAny_bind (wpAny_bind (fJ t (wpAny_pure ?_)))
  rw [if_pos c1]
  refine wpAny_bind (wpAny_rule ?_)
  have hf:∀ v ∈ (vs.map (i3 s.heap)).filterMap id,∃ n t,v=.int n t:=λv hv=>by
   obtain⟨o,ho,e⟩:=List.mem_filterMap.mp hv
   obtain⟨u,hu,rfl⟩:=List.mem_map.mp ho
   obtain⟨l,tu⟩:=t u hu
   rcases tu.fst with q | ⟨n,t',q⟩
   ·rw [q] at e;cases e
   ·rw [q] at e;exact⟨n,t',(Option.some.inj e).symm⟩
  have hl:∃ f fr,(vs.map (i3 s.heap)).filterMap id=f::fr:=by
   match vs,h2,c1 with
   | v::vs,_,c1=>
    simp only [List.map_cons,List.all_toArray,List.all_cons,Bool.and_eq_true] at c1
    obtain⟨u,hu⟩:=Option.isSome_iff_exists.mp c1.1
    exact⟨u,(vs.map (i3 s.heap)).filterMap id,by rw [List.map_cons,List.filterMap_cons,hu];rfl⟩
  obtain⟨f,fr,e⟩:=hl
  have e2:(vs.map (i3 s.heap)).toArray.filterMap id=(f::fr).toArray:=by rw [<-e];simp
  rw [e2,oneTypeOnly'_eq,List.mapM_toArray,map_eq_pure_bind]
  refine wpAny_bind (wpAny_bind (wpAny_bind (kas_mapM (r:=.type "int") _ (λv hv Q'' hq'=>?_) (wpAny_pure ?_))))
  ·rw [<-e] at hv
   obtain⟨n,t',rfl⟩:=hf v hv
   exact wpAny_pure hq'
  ·have h0:(List.map (λ_=>Value.type "int") (f::fr)).toArray[0]?=some (.type "int"):=by simp
   rw [h0]
   have hall:((List.map (λ_=>Value.type "int") (f::fr)).toArray.all λx=>x==.type "int")=true:=by
    simp only [List.all_toArray,List.all_map,List.all_eq_true];intro _ _;rfl
   simp only [hall,if_true]
   exact wpAny_pure (wpAny_pure hq)
 ·by_cases c2:((vs.map (i3 s.heap)).toArray[0]?.bind id).isSome=true
  ·refine⟨general',λh2 Q' E' hq=>?_,λx y ⟨l,hx⟩ ⟨m,hy⟩ Q E h=>hx.one hy hu (oa hx hy h) false⟩
   rw [keyKind'_eq,List.mapM_toArray,map_eq_pure_bind]
   refine wpAny_bind (wpAny_bind (fJ t (wpAny_pure ?_)))
   rw [if_neg c1,if_pos c2]
   exact wpAny_pure hq
  ·refine⟨oneType',λh2 Q' E' hq=>?_,λx y ⟨l,hx⟩ ⟨m,hy⟩ Q E h=>hx.one hy hu (oa hx hy h) true⟩
   rw [keyKind'_eq,List.mapM_toArray,map_eq_pure_bind]
   refine wpAny_bind (wpAny_bind (fJ t (wpAny_pure ?_)))
   rw [if_neg c1,if_neg c2,oneTypeOnly'_eq,List.mapM_toArray,map_eq_pure_bind]
   refine wpAny_bind (wpAny_bind (wpAny_bind (kas_mapM (r:=.type "tuple") _ (λv hv Q'' hq'=>?_) (wpAny_pure ?_))))
   ·obtain⟨l,tv⟩:=t v hv
    exact pG tv hq'
   ·obtain⟨v,vs,rfl⟩:∃ v r,vs=v::r:=by
     match vs,h2 with
     | v::r,_=>exact⟨v,r,rfl⟩
    have h0:(List.map (λ_=>Value.type "tuple") (v::vs)).toArray[0]?=some (.type "tuple"):=by simp
    rw [h0]
    have hall:((List.map (λ_=>Value.type "tuple") (v::vs)).toArray.all λx=>x==.type "tuple")=true:=by
     simp only [List.all_toArray,List.all_map,List.all_eq_true];intro _ _;rfl
    simp only [hall,if_true]
    exact wpAny_pure (wpAny_pure hq)
theorem qQ {vs:List Value}{ns:List Int} (t:IntsAre vs ns):(2<=vs.length->∀ (Q':SortKind->Shared->Prop) E',Q' oneType' s->wpAny (model prog w) A (keyKind' vs.toArray) Q' E' s)/\
  Cm prog w A s oneType' OI (λp=>[bG p.1]) (λp=>∃ n t,p.1=.int n t):=by
 refine⟨λh2 Q' E' hq=>?_,λx y ⟨n,t,hx⟩ ⟨m,u,hy⟩ Q E h=>?_⟩
 ·match vs,h2,t with
  | v1::v2::r,_,t=>rw [keyKind_ints t];exact wpAny_pure hq
 ·rw [keyLt'_oneType,hx,hy]
  refine oneLt_int ?_
  have e:OI.blt [bG x.1] [bG y.1]=decide (n < m):=by
   rw [hx,hy]
   show (if n=m then bM [] [] else decide (n < m))=_
   by_cases q:n=m
   ·subst q;simp [bM]
   ·rw [if_neg q]
  rw [e] at h;exact h
end
noncomputable def om (x:List Int):List (List Int)->List (List Int)
 | []=>[x]
 | y::ys=>if bM y x=true then y::om x ys else x::y::ys
noncomputable def gv:List (List Int)->List (List Int)
 | []=>[]
 | x::xs=>om x (gv xs)
theorem i8 (x:List Int):∀ ys,(om x ys).Perm (x::ys)
 | []=>List.Perm.refl _
 | y::ys=>by
  unfold om
  split
  ·exact (List.Perm.cons y (i8 x ys)).trans (List.Perm.swap x y ys)
  ·exact List.Perm.refl _
theorem eO:∀ xs,(gv xs).Perm xs
 | []=>List.Perm.refl _
 | x::xs=>(i8 x _).trans (List.Perm.cons x (eO xs))
noncomputable def leL (a b:List Int):Prop:=bM b a=false
theorem pV {a b c:List Int} (h:leL a b) (h':leL b c):leL a c:=KeyOrd.kle_trans (O:=OI) h h'
theorem q9 {a b:List Int} (h:leL a b) (h':leL b a):a=b:=iF a b h' h
theorem jo (x:List Int):∀ {ys:List (List Int)},ys.Pairwise leL->(om x ys).Pairwise leL
 | [],_=>by simp [om]
 | y::ys,h=>by
  unfold om
  split
  ·rename_i hxy
   refine List.pairwise_cons.mpr ⟨λz hz=>?_,jo x (List.pairwise_cons.mp h).2⟩
   rcases List.mem_cons.mp ((i8 x ys).mem_iff.mp hz) with rfl | hz
   ·exact KeyOrd.klt_asymm (O:=OI) hxy
   ·exact (List.pairwise_cons.mp h).1 z hz
  ·rename_i hxy
   rw [Bool.not_eq_true] at hxy
   refine List.pairwise_cons.mpr ⟨λz hz=>?_,h⟩
   rcases List.mem_cons.mp hz with rfl | hz
   ·exact hxy
   ·exact pV hxy ((List.pairwise_cons.mp h).1 z hz)
theorem gT:∀ xs,(gv xs).Pairwise leL
 | []=>List.Pairwise.nil
 | x::xs=>jo x (gT xs)
theorem mH {xs ys:List (List Int)} (p:xs.Perm ys) (h1:xs.Pairwise leL) (h2:ys.Pairwise leL):xs=ys:=
 List.Perm.eq_of_pairwise (λa b _ _ h1 h2=>q9 h1 h2) h1 h2 p
end L2
namespace L2
open PySem PySem.Spec PyProof.Rows PySem.SeqAt PySem.W
noncomputable def jk:List D->Option (List (List Int))
 | []=>some []
 | .tup l::ds=>(cn l).bind λns=>(jk ds).map λr=>ns::r
 | _=>none
noncomputable def au (l:List Int):D:=.tup (l.map D.int)
theorem jr:∀ {ds:List D}{ls:List (List Int)},jk ds=some ls->ds=ls.map au
 | [],_,h=>by cases h;rfl
 | .tup l::ds,_,h=>by
  simp only [jk,Option.bind_eq_some_iff,Option.map_eq_some_iff] at h
  obtain⟨ns,e1,r,e2,rfl⟩:=h
  rw [jr e2,dz e1];rfl
 | .non::_,_,h=>by cases h
 | .bl _::_,_,h=>by cases h
 | .int _::_,_,h=>by cases h
 | .str _::_,_,h=>by cases h
 | .ty _::_,_,h=>by cases h
 | .dct::_,_,h=>by cases h
 | .scr _::_,_,h=>by cases h
 | .lst _::_,_,h=>by cases h
theorem kK:∀ (ls:List (List Int)),jk (ls.map au)=some ls
 | []=>rfl
 | l::ls=>by
  have:cn (l.map D.int)=some l:=by
   induction l with
   | nil=>rfl
   | cons a l ih=>simp [cn,ih]
  simp only [List.map_cons,au,jk,this,Option.bind_some]
  rw [show List.map au ls=List.map au ls from rfl,kK ls];rfl
noncomputable def lG (ds:List D):Option (List D):=match cn ds with
 | some ns=>some ((kh ns).map D.int)
 | none=>(jk ds).map λls=>(gv ls).map au
noncomputable def kn (st:Sto):List W->Option (List D)
 | [w]=>(lsD st w).bind λds=>if ds.length<=64 then lG ds else none
 | _=>none
section
variable {K:PySem.W.Frag}{X:Cx}{pins:List (Addr×Obj)}{σ:St}{H:Hp}{s:Shared}{φ:List Addr}
noncomputable def toV:Value->V
 | .ref a=>.ref a
 | _=>.non
theorem uh {l:List Int}{v:V}{u:Value} (I:Inv X pins σ H s) (r:Rl X.K H φ (au l) v) (q:aQ v u):TuI s.heap u l/\v=toV u/\aQ (toV u) u:=by
 obtain⟨a,vs,rfl,h1,h2⟩:=r
 obtain⟨its,rv,p,_⟩:=I.tuple (SqT.of h1)
 have e:=h2.ints
 subst e
 have e:u=.ref a:=q
 subst e
 exact⟨⟨a,its.toArray,rfl,p,by simpa using h9 rv⟩,rfl,rfl⟩
theorem nH (I:Inv X pins σ H s):∀ {ls:List (List Int)}{vs:List V}{us:List Value},Rls X.K H φ (ls.map au) vs->aN vs us->
  us.map (tuI s.heap)=ls/\∀ u ∈ us,TuI s.heap u (tuI s.heap u)/\Rl X.K H φ (au (tuI s.heap u)) (toV u)/\aQ (toV u) u
 | [],_,us,h,q=>by cases h;cases q;exact⟨rfl,λu hu=>by cases hu⟩
 | l::ls,_,us,h,q=>by
  obtain⟨v,r,rfl,h1,h2⟩:=h
  cases q with
  | cons q1 q2=>
   rename_i u us
   obtain⟨t,e,e'⟩:=uh I h1 q1
   obtain⟨i1,i2⟩:=nH I h2 q2
   refine⟨by rw [List.map_cons,i1,t.is],λx hx=>?_⟩
   rcases List.mem_cons.mp hx with rfl | hx
   ·rw [t.is,<-e];exact⟨t,h1,q1⟩
   ·exact i2 x hx
theorem nG:∀ {us:List Value},(∀ u ∈ us,TuI s.heap u (tuI s.heap u)/\Rl K H φ (au (tuI s.heap u)) (toV u)/\aQ (toV u) u)->Rls K H φ (us.map λu=>au (tuI s.heap u)) (us.map toV)/\aN (us.map toV) us
 | [],_=>⟨rfl,.nil⟩
 | u::us,h=>by
  have h1:=h u List.mem_cons_self
  have h2:=nG λx hx=>h x (List.mem_cons_of_mem _ hx)
  exact⟨⟨_,_,rfl,h1.2.1,h2.1⟩,.cons h1.2.2 h2.2⟩
theorem ke:∀ {us:List Value}{l:List Int},IntsAre us l->∀ u ∈ us,∃ n t,u=.int n t
 | _,_,.nil,u,hu=>by cases hu
 | _,_,.cons n t h,u,hu=>by
  rcases List.mem_cons.mp hu with rfl | hu
  ·exact⟨n,t,rfl⟩
  ·exact ke h u hu
theorem lz:∀ {us:List Value},(∀ u ∈ us,∃ n t,u=.int n t)->IntsAre us (us.map bG)
 | [],_=>.nil
 | u::us,h=>by
  obtain⟨n,t,rfl⟩:=h u List.mem_cons_self
  exact .cons n t (lz λx hx=>h x (List.mem_cons_of_mem _ hx))
theorem qD {k:Nat} (hr:bY k X.A) (hK:X.K=K:=by rfl):uC K X (.builtin "sorted") kn:=by
 subst hK
 refine⟨λst ws d h=>?_⟩
 match ws,h with
 | [w],h=>
  simp only [kn,Option.bind_eq_some_iff] at h
  obtain⟨ds,e1,h⟩:=h
  split at h
  ·rename_i hl
   intro pins s σ H xs us Q I rv q
   obtain⟨φ,S,⟨v,r,rfl,r1,rfl⟩,q⟩:=q
   obtain⟨a,vs,rfl,h1,h2⟩:=mi S r1 e1
   obtain⟨u,rfl,ru⟩:=kL rv
   cases ru
   obtain⟨its,rv',pl,hz⟩:=I.list (.inl h1)
   have hlen:its.length<=64:=by
    have:=rv'.length
    have:=h2.length
    lia
   have hun:X.A.in1.in1.units < cLine:=by
    have:=hr.un
    show X.A.units+1+1 < cLine
    lia
   have hn:H (s.heap.objs.size+1)=none:=I.hok.fresh (Nat.le_succ _)
   have lay:∀ (out:List Value) (vs':List V),aN vs' out->out.length<=64->Inv X pins σ (upd H (s.heap.objs.size+1) (.lst vs')) { s with heap:=sortedAll s.heap its out.toArray }:=λout vs' hv ho=>by
    obtain⟨ep,he⟩:=sortedAll_at s.heap its out.toArray
    refine I.laid (t':=s.toks) (a:=s.heap.objs.size+1) (o:=.lst vs') (λb o q=>sortedAll_old q) (Nat.le_succ _) ⟨?_,out,ep,hv,by simpa [seqObj] using he⟩
    rw [hv.length];exact mG (by lia)
   unfold lG at h
   cases hi:cn ds with
   | some ns=>
    rw [hi] at h
    cases h
    cases dz hi
    cases h2.ints
    have hI:=h9 rv'
    refine kG (O:=OI) (rk:=λp=>[bG p.1]) (S:=λp=>∃ n t,p.1=.int n t) pl.isList hlen (λh' _=>⟨oneType',qQ (s:={ s with heap:=h' }) hI⟩) (λv hv=>ke hI v hv) λout a1 a2=>?_
    have ho:∀ u ∈ out,∃ n t,u=.int n t:=λu hu=>ke hI u (a1.mem_iff.mp hu)
    have hp:(out.map bG).Perm ns:=by
     have:=a1.map bG
     rw [kf hI] at this;exact this
    have hs:(out.map bG).Pairwise (·<=·):=by
     rw [List.pairwise_map]
     refine a2.imp λ{x y} q=>?_
     have q':bM [bG y] [bG x]=false:=q
     by_cases e:bG y=bG x
     ·lia
     ·have:bM [bG y] [bG x]=decide (bG y < bG x):=by show (if _ then _ else _)=_;rw [if_neg e]
      rw [this,decide_eq_false_iff_not] at q';lia
    have e:out.map bG=kh ns:=nQ (hp.trans (jp ns).symm) hs (gS ns)
    have hv:=iQ (lz ho)
    rw [e] at hv
    exact⟨.ref _,_,lay out _ hv (by rw [a1.length_eq];exact hlen),rfl,q _ _ H (aZ.refl H) hn (Rls.of_ints _)⟩
   | none=>
    rw [hi] at h
    obtain⟨ls,hls,rfl⟩:=Option.map_eq_some_iff.mp h
    cases jr hls
    obtain⟨m1,m2⟩:=nH I h2 rv'
    refine kG (O:=OI) (rk:=λp=>tuI s.heap p.1) (S:=λp=>∃ l,TuI s.heap p.1 l) pl.isList hlen (λh' hk=>?_) (λv hv=>⟨_,(m2 v hv).1⟩) λout a1 a2=>?_
    ·obtain⟨κ,k1,k2⟩:=qR (prog:=X.prog) (w:=X.w) (s:={ s with heap:=h' }) (vs:=its) (λv hv=>⟨_,(m2 v hv).1.fit hk⟩) hun
     refine⟨κ,k1,λx y ⟨l,hx⟩ ⟨m,hy⟩ Q E hq=>k2 x y ⟨l,hx.fit hk⟩ ⟨m,hy.fit hk⟩ Q E ?_⟩
     have hx':=hx.fit hk
     have hy':=hy.fit hk
     have hq':Q (bM (tuI s.heap x.1) (tuI s.heap y.1)) { s with heap:=h' }:=hq
     show Q (bM (tuI h' x.1) (tuI h' y.1)) { s with heap:=h' }
     rw [hx'.is,hy'.is]
     rw [hx.is,hy.is] at hq'
     exact hq'
    ·have ho:=λu hu=>m2 u (a1.mem_iff.mp hu)
     obtain⟨b1,b2⟩:=nG (K:=X.K) (H:=H) (φ:=φ) ho
     have hp:(out.map (tuI s.heap)).Perm ls:=by
      have:=a1.map (tuI s.heap)
      rw [m1] at this;exact this
     have hs:(out.map (tuI s.heap)).Pairwise leL:=by
      rw [List.pairwise_map]
      exact a2.imp λ{x y} q=>q
     have e:out.map (tuI s.heap)=gv ls:=mH (hp.trans (eO ls).symm) hs (gT ls)
     have e2:(out.map λu=>au (tuI s.heap u))=(gv ls).map au:=by rw [<-e,List.map_map];rfl
     rw [e2] at b1
     exact⟨.ref _,_,lay out _ b2 (by rw [a1.length_eq];exact hlen),rfl,q _ _ H (aZ.refl H) hn b1⟩
  ·cases h
end
end L2
namespace L2
open PySem PySem.Spec PyProof.Rows
open PySem.AutoSeq1 (wpAny_loadPart')
noncomputable def SIt (k:Bool) (h:Heap) (it l:Addr) (i:Nat):Prop:=match k with
 | true=>h.IsTupleIter it l i
 | false=>h.IsListIter it l i
noncomputable def SIs (k:Bool) (h:Heap) (l:Addr) (xs:Array Value):Prop:=match k with
 | true=>h.IsTuple l xs
 | false=>h.IsList l xs
theorem SIt.to {k:Bool}{h h':Heap}{it l:Addr}{i:Nat} (a:SIt k h it l i) (f:∀ o,h.get? it=some o->h'.get? it=some o):SIt k h' it l i:=by
 cases k with
 | true=>exact Heap.IsTupleIter.at a f
 | false=>exact Heap.IsListIter.at a f
theorem SIs.to {k:Bool}{h h':Heap}{l:Addr}{xs:Array Value} (a:SIs k h l xs) (f:∀ o,h.get? l=some o->h'.get? l=some o):SIs k h' l xs:=by
 cases k with
 | true=>obtain⟨o,e,r⟩:=a;exact⟨o,f o e,r⟩
 | false=>exact Heap.IsList.at a f
theorem SIt.live {k:Bool}{h:Heap}{it l:Addr}{i:Nat} (a:SIt k h it l i):∃ o vs,h.get? it=some o/\o.data=.fields vs:=by
 cases k with
 | true=>obtain⟨o,e,_,d⟩:=a;exact⟨o,_,e,d⟩
 | false=>obtain⟨o,e,_,d⟩:=a;exact⟨o,_,e,d⟩
section
variable {prog:Program}{w:World}{A:Around}{E:Value->Shared->Prop}{s:Shared}{k k2:Bool}
theorem mn {it l:Addr}{i:Nat}{xs:Array Value}{x:Value}{Q:Value->Shared->Prop} (hit:SIt k s.heap it l i) (hl:SIs k s.heap l xs) (hx:xs[i]?=some x)
  (hQ:∀ h',SIt k h' it l (i+1)->Heap.SameBut it s.heap h'->Q x { s with heap:=h' }):wpAny (model prog w) A (Builtin.SmallTypes.nextOf (.ref it)) Q E s:=by
 cases k with
 | true=>exact eU hit hl hx hQ
 | false=>exact wpAny_nextOf_list_item hit hl hx hQ
theorem rm {it l:Addr}{i:Nat}{xs:Array Value}{Q:Value->Shared->Prop} (hh:A.handled=none) (hit:SIt k s.heap it l i) (hl:SIs k s.heap l xs) (hx:xs[i]?=none)
  (hE:∀ h' e,Heap.ExtBut it s.heap h'->(∃ o,h'.get? e=some o/\o.cls=.type "StopIteration")->E (.ref e) { s with heap:=h' }):wpAny (model prog w) A (Builtin.SmallTypes.nextOf (.ref it)) Q E s:=by
 cases k with
 | true=>exact fz hh hit hl hx hE
 | false=>exact wpAny_nextOf_list_end hh hit hl hx hE
variable {z TI TO i1 i2 l1 l2:Addr}{n:Nat}{xs ys:Array Value}{a b:Value}
structure ZSt (k k2:Bool) (z TI TO i1 i2 l1 l2:Addr) (f0:Value) (n:Nat) (h:Heap):Prop where
 z:IsZip h z TI TO f0
 ti:IsPair h TI (.ref i1) (.ref i2)
 to:∃ a b,IsPair h TO a b
 t1:SIt k h i1 l1 n
 t2:SIt k2 h i2 l2 n
set_option maxHeartbeats 1000000 in
theorem sL {x y:Value}{Q:Option Value->Shared->Prop} (D:ZipApart z TI TO i1 i2 l1 l2) (hs:ZSt k k2 z TI TO i1 i2 l1 l2 .none n s.heap) (hl1:SIs k s.heap l1 xs) (hl2:SIs k2 s.heap l2 ys) (hx:xs[n]?=some x) (hy:ys[n]?=some y)
  (hQ:∀ h',ZSt k k2 z TI TO i1 i2 l1 l2 (rawInt s.heap.objs.size) (n+1) h'->IsPair h' s.heap.objs.size x y->h'.objs.size=s.heap.objs.size+1->
    (∀ c o,c≠z->c≠TO->c≠i1->c≠i2->s.heap.get? c=some o->h'.get? c=some o)->Q (some (.ref s.heap.objs.size)) { s with heap:=h' }) :
  wpAny (model prog w) A (pyNext (.ref z)) Q E s:=by
 obtain⟨hz,hTI,⟨a,b,hTO⟩,h1,h2⟩:=hs
 have hT:s.TypeIs (.ref z) "zip":=⟨_,hz,rfl⟩
 unfold pyNext
 refine wpAny_bind (wpAny_attempt (wpAny_callSpecial?_slot (name:=Str.ofString "__next__") hT F.slot_zip_next (wpAny_call_entry F.slot_zip_next hT F.entry_zip_next ?_ (F.args_zip_next_1 _))))
 show wpAny _ _ (field (.ref z) 2 >>= _) _ _ _
 refine wpAny_bind (wpAny_field hz rfl (x:=.bool false) rfl ?_)
 show wpAny _ _ (field (.ref z) 3 >>= _) _ _ _
 refine wpAny_bind (wpAny_field hz rfl (x:=.ref TI) rfl (wpAny_bind (wpAny_seqItems hTI rfl ?_)))
 show wpAny _ _ (Builtin.SmallTypes.ownedTupleIsFree (.ref z) >>= _) _ _ _
 refine wpAny_bind ?_
 unfold Builtin.SmallTypes.ownedTupleIsFree
 refine wpAny_bind (wpAny_field hz rfl (x:=.none) rfl (wpAny_pure ?_))
 simp only [if_true]
 refine wpAny_bind (wpAny_rule (wpAny_bind (wpAny_field hz rfl (x:=.ref TO) rfl ?_)))
 refine wpAny_bind (wpAny_setField_rec hz (by simp) λg1 hz1 s1=>?_)
 replace hz1:IsZip g1 z TI TO .ellipsis:=hz1
 refine wpAny_bind ?_
 simp only [List.zipIdx_cons,List.zipIdx_nil,List.forIn_cons,List.forIn_nil]
 have e1:=s1.extBut
 refine wpAny_bind (wpAny_bind (wpAny_onRaise ?_))
 show wpAny _ _ (Builtin.SmallTypes.nextOf (.ref i1) >>= _) _ _ _
 refine wpAny_bind (mn (h1.to λo q=>e1 _ o D.i1z q) (hl1.to λo q=>e1 _ o D.l1z q) hx λg2 h12 s2=>wpAny_pure ?_)
 have e2:=s2.extBut
 have hTO2:IsPair g2 TO a b:=e2 _ _ D.TOi1 (e1 _ _ D.TOz hTO)
 refine wpAny_bind (wpAny_seqItems hTO2 rfl (wpAny_bind (wpAny_updateSeq_pair hTO2 λg3 hTO3 s3=>?_)))
 replace hTO3:IsPair g3 TO x b:=hTO3
 have e3:=s3.extBut
 refine wpAny_bind (wpAny_letGo (wpAny_pure ?_))
 refine wpAny_bind (wpAny_bind (wpAny_onRaise ?_))
 show wpAny _ _ (Builtin.SmallTypes.nextOf (.ref i2) >>= _) _ _ _
 refine wpAny_bind (mn (h2.to λo q=>e3 _ o D.TOi2.symm (e2 _ o D.i12.symm (e1 _ o D.i2z q))) (hl2.to λo q=>e3 _ o D.l2TO (e2 _ o D.l2i1 (e1 _ o D.l2z q))) hy λg4 h24 s4=>wpAny_pure ?_)
 have e4:=s4.extBut
 have hTO4:IsPair g4 TO x b:=e4 _ _ D.TOi2 hTO3
 refine wpAny_bind (wpAny_seqItems hTO4 rfl (wpAny_bind (wpAny_updateSeq_pair hTO4 λg5 hTO5 s5=>?_)))
 replace hTO5:IsPair g5 TO x y:=hTO5
 have e5:=s5.extBut
 refine wpAny_bind (wpAny_letGo (wpAny_pure (wpAny_pure ?_)))
 refine wpAny_bind (wpAny_seqItems hTO5 rfl (wpAny_bind (wpAny_newTuple ?_)))
 have hsz:g5.objs.size=s.heap.objs.size:=by rw [s5.1,s4.1,s3.1,s2.1,s1.1]
 have hz5:IsZip g5 z TI TO .ellipsis:=e5 _ _ D.TOz.symm (e4 _ _ D.i2z.symm (e3 _ _ D.TOz.symm (e2 _ _ D.i1z.symm hz1)))
 have kp:∀ c o,c≠z->c≠TO->c≠i1->c≠i2->s.heap.get? c=some o->g5.get? c=some o:=λc o c1 c2 c3 c4 e=>e5 _ _ c2 (e4 _ _ c4 (e3 _ _ c2 (e2 _ _ c3 (e1 _ _ c1 e))))
 have h15:SIt k g5 i1 l1 (n+1):=h12.to λo q=>e5 _ o D.TOi1.symm (e4 _ o D.i12 (e3 _ o D.TOi1.symm q))
 have h25:SIt k2 g5 i2 l2 (n+1):=h24.to λo q=>e5 _ o D.TOi2.symm q
 have hzlt:z < g5.objs.size:=Heap.lt_size hz5
 show wpAny _ _ (Builtin.SmallTypes.ownedTupleHandOut (.ref z) (.ref g5.objs.size) >>= _) _ _ _
 refine wpAny_bind ?_
 unfold Builtin.SmallTypes.ownedTupleHandOut
 have hz6:IsZip (g5.push { cls:=.type "tuple",data:=.seq #[x,y] }) z TI TO .ellipsis:=Heap.get?_push_of_some _ hz5
 refine wpAny_bind (wpAny_setField_rec hz6 (by simp) λg7 hz7 s7=>?_)
 replace hz7:IsZip g7 z TI TO (rawInt g5.objs.size):=hz7
 refine wpAny_setField_rec hz7 (by simp) λg8 hz8 s8=>?_
 replace hz8:IsZip g8 z TI TO (rawInt g5.objs.size):=hz8
 have up:∀ c o,c≠z->g5.get? c=some o->g8.get? c=some o:=λc o c1 e=>s8.extBut _ _ c1 (s7.extBut _ _ c1 (Heap.get?_push_of_some _ e))
 have hT8:IsPair g8 g5.objs.size x y:=s8.extBut _ _ (Nat.ne_of_gt hzlt) (s7.extBut _ _ (Nat.ne_of_gt hzlt) (Heap.get?_push_size _ rfl))
 have hz9:g8.objs.size=g5.objs.size+1:=by rw [s8.1,s7.1,Heap.size_push]
 rw [hsz] at hz8 hT8 hz9
 refine wpAny_pure ⟨_,rfl,wpAny_pure ?_⟩
 show Q (some (.ref g5.objs.size)) _
 rw [hsz]
 exact hQ g8 ⟨hz8,up _ _ D.TIz (kp _ _ D.TIz D.TITO D.TIi1 D.TIi2 hTI),⟨_,_,up _ _ D.TOz hTO5⟩,h15.to λo q=>up _ o D.i1z q,h25.to λo q=>up _ o D.i2z q⟩ hT8 hz9 λc o c1 c2 c3 c4 e=>up c o c1 (kp c o c1 c2 c3 c4 e)
set_option maxHeartbeats 1000000 in
theorem uB {Q:Option Value->Shared->Prop} (hh:A.in1.handled=none) (D:ZipApart z TI TO i1 i2 l1 l2) (hs:ZSt k k2 z TI TO i1 i2 l1 l2 .none n s.heap) (hl1:SIs k s.heap l1 xs) (hl2:SIs k2 s.heap l2 ys) (hend:xs[n]?=none\/ys[n]?=none)
  (hQ:∀ h',(∀ c o,c≠z->c≠TO->c≠i1->c≠i2->s.heap.get? c=some o->h'.get? c=some o)->Q none { s with heap:=h' }):wpAny (model prog w) A (pyNext (.ref z)) Q E s:=by
 obtain⟨hz,hTI,⟨a,b,hTO⟩,h1,h2⟩:=hs
 have hT:s.TypeIs (.ref z) "zip":=⟨_,hz,rfl⟩
 have fin:∀ (h':Heap) (e:Addr),(∀ c o,c≠z->c≠TO->c≠i1->c≠i2->s.heap.get? c=some o->h'.get? c=some o)->(∃ o,h'.get? e=some o/\o.cls=.type "StopIteration")->
   wpAny (model prog w) A (do if (<-isInstance (.ref e) (.type "StopIteration")) then pure none else throw (.ref e)) Q E { s with heap:=h' }:=λh' e hk ⟨o,ho,hc⟩=>
  wpAny_bind (wpAny_isInstance (T:="StopIteration") (b:=true) ⟨o,ho,hc⟩ isSubtype_stop (wpAny_pure (hQ _ hk)))
 unfold pyNext
 refine wpAny_bind (wpAny_attempt (wpAny_callSpecial?_slot (name:=Str.ofString "__next__") hT F.slot_zip_next (wpAny_call_entry F.slot_zip_next hT F.entry_zip_next ?_ (F.args_zip_next_1 _))))
 show wpAny _ _ (field (.ref z) 2 >>= _) _ _ _
 refine wpAny_bind (wpAny_field hz rfl (x:=.bool false) rfl ?_)
 show wpAny _ _ (field (.ref z) 3 >>= _) _ _ _
 refine wpAny_bind (wpAny_field hz rfl (x:=.ref TI) rfl (wpAny_bind (wpAny_seqItems hTI rfl ?_)))
 show wpAny _ _ (Builtin.SmallTypes.ownedTupleIsFree (.ref z) >>= _) _ _ _
 refine wpAny_bind ?_
 unfold Builtin.SmallTypes.ownedTupleIsFree
 refine wpAny_bind (wpAny_field hz rfl (x:=.none) rfl (wpAny_pure ?_))
 simp only [if_true]
 refine wpAny_bind (wpAny_rule (wpAny_bind (wpAny_field hz rfl (x:=.ref TO) rfl ?_)))
 refine wpAny_bind (wpAny_setField_rec hz (by simp) λg1 hz1 s1=>?_)
 replace hz1:IsZip g1 z TI TO .ellipsis:=hz1
 refine wpAny_bind ?_
 simp only [List.zipIdx_cons,List.zipIdx_nil,List.forIn_cons,List.forIn_nil]
 have e1:=s1.extBut
 refine wpAny_bind (wpAny_bind (wpAny_onRaise ?_))
 show wpAny _ _ (Builtin.SmallTypes.nextOf (.ref i1) >>= _) _ _ _
 cases hx:xs[n]? with
 | none=>
  refine wpAny_bind (rm hh (h1.to λo q=>e1 _ o D.i1z q) (hl1.to λo q=>e1 _ o D.l1z q) hx λg2 e s2 he=>?_)
  obtain⟨oe,hoe,hce⟩:=he
  have hz2:IsZip g2 z TI TO .ellipsis:=s2 _ _ D.i1z.symm hz1
  have hez:e≠z:=λx=>by subst x;rw [hz2] at hoe;cases hoe;simp at hce
  exact wpAny_setField_rec hz2 (by simp) λg3 _ s3=>fin g3 e (λc o c1 _ c3 _ x=>s3.extBut _ _ c1 (s2 _ _ c3 (e1 _ _ c1 x))) ⟨oe,s3.extBut _ _ hez hoe,hce⟩
 | some x=>
  have hy:ys[n]?=none:=by rcases hend with h | h;rw [hx] at h;cases h;exact h
  refine wpAny_bind (mn (h1.to λo q=>e1 _ o D.i1z q) (hl1.to λo q=>e1 _ o D.l1z q) hx λg2 h12 s2=>wpAny_pure ?_)
  have e2:=s2.extBut
  have hTO2:IsPair g2 TO a b:=e2 _ _ D.TOi1 (e1 _ _ D.TOz hTO)
  refine wpAny_bind (wpAny_seqItems hTO2 rfl (wpAny_bind (wpAny_updateSeq_pair hTO2 λg3 hTO3 s3=>?_)))
  have e3:=s3.extBut
  refine wpAny_bind (wpAny_letGo (wpAny_pure ?_))
  refine wpAny_bind (wpAny_bind (wpAny_onRaise ?_))
  show wpAny _ _ (Builtin.SmallTypes.nextOf (.ref i2) >>= _) _ _ _
  refine wpAny_bind (rm hh (h2.to λo q=>e3 _ o D.TOi2.symm (e2 _ o D.i12.symm (e1 _ o D.i2z q))) (hl2.to λo q=>e3 _ o D.l2TO (e2 _ o D.l2i1 (e1 _ o D.l2z q))) hy λg4 e s4 he=>?_)
  obtain⟨oe,hoe,hce⟩:=he
  have hz4:IsZip g4 z TI TO .ellipsis:=s4 _ _ D.i2z.symm (e3 _ _ D.TOz.symm (e2 _ _ D.i1z.symm hz1))
  have hez:e≠z:=λx=>by subst x;rw [hz4] at hoe;cases hoe;simp at hce
  exact wpAny_setField_rec hz4 (by simp) λg5 _ s5=>fin g5 e (λc o c1 c2 c3 c4 x=>s5.extBut _ _ c1 (s4 _ _ c4 (e3 _ _ c2 (e2 _ _ c3 (e1 _ _ c1 x))))) ⟨oe,s5.extBut _ _ hez hoe,hce⟩
end
end L2
namespace L2
open PySem PySem.Spec PyProof.Rows
open PySem.AutoSeq1 (wpAny_loadPart')
noncomputable def wA (k:Bool):Value:=if k=true then .type "tuple_iterator" else .type "list_iterator"
noncomputable def ki (k:Bool) (l:Addr):Obj:={ cls:=wA k,data:=.fields #[.ref l,.int 0 0] }
abbrev zH1 (k:Bool) (h:Heap) (l1:Addr):Heap:=h.push (ki k l1)
abbrev zH2 (k k2:Bool) (h:Heap) (l1 l2:Addr):Heap:=(zH1 k h l1).push (ki k2 l2)
abbrev zH3 (k k2:Bool) (h:Heap) (l1 l2:Addr):Heap:=(zH2 k k2 h l1 l2).push { cls:=.type "tuple",data:=.seq #[.ref h.objs.size,.ref (zH1 k h l1).objs.size] }
abbrev zH4 (k k2:Bool) (h:Heap) (l1 l2:Addr):Heap:=(zH3 k k2 h l1 l2).push { cls:=.type "tuple",data:=.seq #[.none,.none] }
abbrev zH5 (k k2:Bool) (h:Heap) (l1 l2:Addr):Heap:=(zH4 k k2 h l1 l2).push { cls:=.type "zip",data:=.fields #[.none,.bool false,.bool false,.ref (zH2 k k2 h l1 l2).objs.size,.ref (zH3 k k2 h l1 l2).objs.size] }
section
variable {prog:Program}{w:World}{A:Around}{E:Value->Shared->Prop}{s:Shared}{k k2:Bool}
theorem nj {l:Addr}{xs:Array Value}{Q:Value->Shared->Prop} (hl:SIs k s.heap l xs) (h:Q (.ref s.heap.objs.size) { s with heap:=s.heap.push (ki k l) }):wpAny (model prog w) A (pyIter (.ref l)) Q E s:=by
 cases k with
 | true=>exact wpAny_pyIter_tuple hl h
 | false=>exact wpAny_pyIter_list hl h
theorem k9 (l1 l2:Addr) (xs ys:Array Value) (k k2:Bool) :
  Meets (Builtin.«zip.__new__» ⟨[.type "zip",.ref l1,.ref l2],[]⟩) (λ_ R s=>SIs k s.heap l1 xs/\SIs k2 s.heap l2 ys/\R (.ok (.ret (.ref (zH4 k k2 s.heap l1 l2).objs.size))) { s with heap:=zH5 k k2 s.heap l1 l2 }):=
 .of_wp λprog w A R s h=>by
  obtain⟨hp,g,d,tk,os⟩:=s
  obtain⟨hl1,hl2,h⟩:=h
  have hsub:=sub_zip
  have hL1:SIs k (Shared.heap ⟨hp,g,d,tk,os⟩) l1 xs:=hl1
  have hL2:SIs k2 (Shared.heap ⟨hp.push (ki k l1),g,d,tk,os⟩) l2 ys:=hl2.to λo q=>Heap.get?_push_of_some _ q
  wp_walk using nj hL1,nj hL2
  exact⟨_,rfl,h⟩
theorem ni (k:Bool) {h:Heap}{it l:Addr} (e:h.get? it=some (ki k l)):SIt k h it l 0:=by
 cases k with
 | true=>exact⟨_,e,rfl,rfl⟩
 | false=>exact⟨_,e,rfl,rfl⟩
theorem lT {l1 l2:Addr}{xs ys:Array Value}{Q:Value->Shared->Prop} (hl1:SIs k s.heap l1 xs) (hl2:SIs k2 s.heap l2 ys)
  (h:∀ h',ZSt k k2 (s.heap.objs.size+4) (s.heap.objs.size+2) (s.heap.objs.size+3) s.heap.objs.size (s.heap.objs.size+1) l1 l2 .none 0 h'->
    (∀ c o,s.heap.get? c=some o->h'.get? c=some o)->Q (.ref (s.heap.objs.size+4)) { s with heap:=h' }) :
  wpAny (model prog w) A (call (.type "zip") [.ref l1,.ref l2]) Q E s:=by
 refine callType_new F.called_zip (by decide) (F.typeCall_zip_2 _ _) (F.newCall_zip_2 _ _) (λobj=>F.args_object_init_3 obj _ _) F.entry_zip_new (k9 l1 l2 xs ys k k2) ⟨hl1,hl2,?_⟩
 have z1:(zH1 k s.heap l1).objs.size=s.heap.objs.size+1:=Heap.size_push ..
 have z2:(zH2 k k2 s.heap l1 l2).objs.size=s.heap.objs.size+2:=by rw [Heap.size_push,z1]
 have z3:(zH3 k k2 s.heap l1 l2).objs.size=s.heap.objs.size+3:=by rw [Heap.size_push,z2]
 have z4:(zH4 k k2 s.heap l1 l2).objs.size=s.heap.objs.size+4:=by rw [Heap.size_push,z3]
 have up:∀ {h:Heap}{o':Obj}{c:Addr}{o:Obj},h.get? c=some o->(h.push o').get? c=some o:=λe=>Heap.get?_push_of_some _ e
 have g5:(zH5 k k2 s.heap l1 l2).get? (zH4 k k2 s.heap l1 l2).objs.size=some _:=Heap.get?_push_size _ rfl
 have g4:(zH5 k k2 s.heap l1 l2).get? (zH3 k k2 s.heap l1 l2).objs.size=some _:=up (Heap.get?_push_size _ rfl)
 have g3:(zH5 k k2 s.heap l1 l2).get? (zH2 k k2 s.heap l1 l2).objs.size=some _:=up (up (Heap.get?_push_size _ rfl))
 have g2:(zH5 k k2 s.heap l1 l2).get? (zH1 k s.heap l1).objs.size=some (ki k2 l2):=up (up (up (Heap.get?_push_size _ rfl)))
 have g1:(zH5 k k2 s.heap l1 l2).get? s.heap.objs.size=some (ki k l1):=up (up (up (up (Heap.get?_push_size _ rfl))))
 show _/\_
 rw [z2,z3,z4] at g5
 rw [z1,z2] at g3
 rw [z3] at g4
 rw [z1] at g2
 rw [z4]
 exact⟨⟨_,g5,rfl⟩,h _ ⟨g5,g3,⟨_,_,g4⟩,ni k g1,ni k2 g2⟩ λc o x=>up (up (up (up (up x))))⟩
end
noncomputable def SqK (k:Bool) (K:PySem.W.Frag) (H:Hp) (a:Addr) (xs:List V):Prop:=match k with
 | true=>SqT K H a xs
 | false=>SqL K H a xs
noncomputable def Itz (S1 S2:Hp->List V->Prop):It:=
 ⟨λi H=>∃ xs ys x y,S1 H xs/\S2 H ys/\xs[i]?=some x/\ys[i]?=some y,λi H x H'=>∃ T v u,(∀ xs,S1 H xs->xs[i]?=some v)/\(∀ ys,S2 H ys->ys[i]?=some u)/\H T=none/\x=.ref T/\H'=upd H T (.tup [v,u]),
  λi H=>∃ xs ys,S1 H xs/\S2 H ys/\(xs[i]?=none\/ys[i]?=none)⟩
theorem Inv.seqK {X:Cx}{pins:List (Addr×Obj)}{σ:St}{H:Hp}{s:Shared}{k:Bool}{a:Addr}{xs:List V} (I:Inv X pins σ H s) (h:SqK k X.K H a xs):∃ its:List Value,aN xs its/\SIs k s.heap a its.toArray:=by
 cases k with
 | true=>obtain⟨its,r,p,_⟩:=I.tuple h;exact⟨its,r,p⟩
 | false=>obtain⟨its,r,p,_⟩:=I.list h;exact⟨its,r,p.isList⟩
theorem Inv.seqK_inj {X:Cx}{pins:List (Addr×Obj)}{σ:St}{H:Hp}{s:Shared}{k:Bool}{a:Addr}{xs ys:List V} (I:Inv X pins σ H s) (h:SqK k X.K H a xs) (h':SqK k X.K H a ys):xs=ys:=by
 cases k with
 | true=>exact I.tuple_inj h h'
 | false=>exact I.list_inj h h'
theorem sD {P:Program}{w:World}{K:PySem.W.Frag}{elts:List Expr}{kk:Nat}{pos:Pos}{k k2:Bool}{z TI TO i1 i2 l1 l2:Addr} (D:ZipApart z TI TO i1 i2 l1 l2) :
  nZ P w K (.Tuple elts kk pos) (Itz (λH xs=>SqK k K H l1 xs) λH xs=>SqK k2 K H l2 xs) [z,TI,TO,i1,i2] z (λi h=>ZSt k k2 z TI TO i1 i2 l1 l2 .none i h) where
 mem:=by simp
 obj:=λi h st b hb=>by
  simp only [List.mem_cons,List.not_mem_nil,or_false] at hb
  rcases hb with rfl | rfl | rfl | rfl | rfl
  ·exact⟨_,st.z,λv z=>by cases z⟩
  ·exact⟨_,st.ti,λv z=>by cases z⟩
  ·obtain⟨a,b,e⟩:=st.to;exact⟨_,e,λv z=>by cases z⟩
  ·obtain⟨o,vs,e,d⟩:=st.t1.live;exact⟨o,e,λv z=>by rw [d] at z;cases z⟩
  ·obtain⟨o,vs,e,d⟩:=st.t2.live;exact⟨o,e,λv z=>by rw [d] at z;cases z⟩
 keep:=λi h h' st kp=>by
  obtain⟨a,b,e⟩:=st.to
  exact⟨kp z (by simp) _ st.z,kp TI (by simp) _ st.ti,⟨a,b,kp TO (by simp) _ e⟩,st.t1.to λo q=>kp i1 (by simp) o q,st.t2.to λo q=>kp i2 (by simp) o q⟩
 item:=by
  intro X hP hw hK hc i pins s σ H E I hf st hg
  subst hP hw hK
  obtain⟨xs,ys,x,y,hq1,hq2,hx,hy⟩:=hg
  obtain⟨us,rv1,p1⟩:=I.seqK hq1
  obtain⟨vs,rv2,p2⟩:=I.seqK hq2
  obtain⟨u,hu,ru⟩:=rv1.get hx
  obtain⟨v,hv,rv⟩:=rv2.get hy
  refine sL D st p1 p2 (x:=u) (y:=v) (by simpa using hu) (by simpa using hv) λh1 st1 hT hsz kp=>⟨_,rfl,?_⟩
  refine wpAny_letOwnedTupleGo_zip st1.z λh2 hz2 s2=>?_
  have e2:=s2.extBut
  obtain⟨c1,c2,hto⟩:=st1.to
  have nz:∀ b ∈ [z,TI,TO,i1,i2],b≠s.heap.objs.size:=λb hb e=>by
   obtain⟨o,ho,_⟩:=(show ∃ o,s.heap.get? b=some o/\True by
    simp only [List.mem_cons,List.not_mem_nil,or_false] at hb
    obtain⟨a',b',e'⟩:=st.to
    obtain⟨o1,_,q1,_⟩:=st.t1.live
    obtain⟨o2,_,q2,_⟩:=st.t2.live
    rcases hb with rfl | rfl | rfl | rfl | rfl
    ·exact⟨_,st.z,trivial⟩
    ·exact⟨_,st.ti,trivial⟩
    ·exact⟨_,e',trivial⟩
    ·exact⟨_,q1,trivial⟩
    ·exact⟨_,q2,trivial⟩)
   have:=Heap.lt_size ho
   rw [e] at this
   exact Nat.lt_irrefl _ this
  have hT2:db h2 s.heap.objs.size #[u,v]:=⟨_,e2 _ _ (Ne.symm (nz z (by simp))) hT,rfl,⟨_,rfl⟩,rfl⟩
  refine⟨.ref s.heap.objs.size,upd H s.heap.objs.size (.tup [x,y]),?_,rfl,⟨s.heap.objs.size,x,y,λzs hz=>by rw [I.seqK_inj hz hq1];exact hx,λzs hz=>by rw [I.seqK_inj hz hq2];exact hy,I.hok.fresh (Nat.le_refl _),rfl,rfl⟩,?_,λb hb=>?_⟩
  ·have I2:Inv X pins σ (upd H s.heap.objs.size (.tup [x,y])) { s with heap:=h2,toks:=s.toks }:=I.turnsT (fp:=[z,TI,TO,i1,i2]) (h':=h2) (t':=s.toks) (its:=#[u,v]) hf (λb o hb q=>by
    simp only [List.mem_cons,List.not_mem_nil,or_false,not_or] at hb
    exact e2 b o hb.1 (kp b o hb.1 hb.2.2.1 hb.2.2.2.1 hb.2.2.2.2 q)) (Nat.le_refl _) hT2 (.cons ru (.cons rv .nil)) (by show 2<=sizeLine;decide)
   exact I2
  ·exact⟨hz2,e2 _ _ D.TIz st1.ti,⟨c1,c2,e2 _ _ D.TOz hto⟩,st1.t1.to λo q=>e2 _ o D.i1z q,st1.t2.to λo q=>e2 _ o D.i2z q⟩
  ·rw [am (nz b hb)];exact (hf b hb).1
 done:=by
  intro X hP hw hK hc i pins s σ H E I hf st hg
  subst hP hw hK
  obtain⟨xs,ys,hq1,hq2,hend⟩:=hg
  obtain⟨us,rv1,p1⟩:=I.seqK hq1
  obtain⟨vs,rv2,p2⟩:=I.seqK hq2
  have hl1:=rv1.length
  have hl2:=rv2.length
  refine uB (I.ok.hd hc) D st p1 p2 (by
   rcases hend with h | h
   ·left;rw [List.getElem?_eq_none_iff] at h;simp;lia
   ·right;rw [List.getElem?_eq_none_iff] at h;simp;lia) λh' kp=>⟨rfl,I.turns (t':=s.toks) (fp:=[z,TI,TO,i1,i2]) hf λb o hb q=>?_⟩
  simp only [List.mem_cons,List.not_mem_nil,or_false,not_or] at hb
  exact kp b o hb.1 hb.2.2.1 hb.2.2.2.1 hb.2.2.2.2 q
 self:=λ_ _ _ _ _ st h=>wpAny_pyIter_zip st.z h
noncomputable def xQ (K:PySem.W.Frag) (k k2:Bool) (ta:TA):L2.TI:=λσ H R=>ta σ H λvs H1=>∃ a b,vs=[.ref a,.ref b]/\(∃ xs,SqK k K H1 a xs)/\(∃ xs,SqK k2 K H1 b xs)/\R (Itz (λH xs=>SqK k K H a xs) λH xs=>SqK k2 K H b xs) H1
theorem vM {X:Cx}{elts:List Expr}{kk:Nat}{tpos:Pos}{a b:Expr}{ta:TA}{p pos:Pos}{k k2:Bool} (hg:Gl X "zip") (hm:X.mg "zip" = none) (ha:PA X [a,b] ta) (hs:starEach [a,b] X.env=[(false,eval a X.env),(false,eval b X.env)]:=by rfl) (hs2:starEach [b] X.env=[(false,eval b X.env)]:=by rfl) :
  PI X (.Tuple elts kk tpos) (.Call (.Name "zip" p) [a,b] [] pos) (xQ X.K k k2 ta):=by
 intro pins s σ H R I h
 refine Call_ (ig I hg hm boot_zip (PyProof.Rows.callWith_type1 (thn (ha pos pins s σ H _ I h) λus s1 ⟨vs,H1,I1,r1,q1⟩=>?_) (by rw [hs,hs2]) (by rw [hs2];rfl)))
 obtain⟨l,m,e,⟨xs,hq⟩,⟨ys,hq2⟩,q⟩:=q1
 subst e
 cases r1 with
 | cons r rr=>
  cases rr with
  | cons r' rr=>
   cases rr
   cases r
   cases r'
   obtain⟨us,rv1,p1⟩:=I1.seqK hq
   obtain⟨vs,rv2,p2⟩:=I1.seqK hq2
   have lt:∀ {k:Bool}{l:Addr}{us:Array Value},SIs k s1.heap l us->l < s1.heap.objs.size:=λ{k l us} hl=>by
    cases k with
    | true=>obtain⟨_,he,_⟩:=hl;exact Heap.lt_size he
    | false=>obtain⟨_,he,_⟩:=hl;exact Heap.lt_size he
   refine lT p1 p2 λh' hst hk=>wpAny_pyIter_zip hst.z ?_
   refine⟨_,[s1.heap.objs.size+4,s1.heap.objs.size+2,s1.heap.objs.size+3,s1.heap.objs.size,s1.heap.objs.size+1],_,_,H1,rfl,I1.kept (t':=s1.toks) hk,sD (zipApart_new (lt p1) (lt p2)),hst,λb hb=>?_,q⟩
   have hb':s1.heap.objs.size<=b:=by
    simp only [List.mem_cons,List.not_mem_nil,or_false] at hb
    rcases hb with rfl | rfl | rfl | rfl | rfl
    ·exact Nat.le_add_right _ 4
    ·exact Nat.le_add_right _ 2
    ·exact Nat.le_add_right _ 3
    ·exact Nat.le_refl _
    ·exact Nat.le_add_right _ 1
   exact I1.fpOk hb' (I1.hok.fresh hb')
noncomputable def fZ:List D->List D->List D
 | d::ds,e::es=>.tup [d,e]::fZ ds es
 | _,_=>[]
noncomputable def oO:W->Option (Bool×List D)
 | .d (.tup ds)=>some (true,ds)
 | .d (.lst ds)=>some (false,ds)
 | _=>none
noncomputable def j8 (af:Af):Lf
 | env,st=>(af env st).bind λr=>match r.1 with
  | [x,y]=>(oO x).bind λa=>(oO y).map λb=>(fZ a.2 b.2,r.2)
  | _=>none
theorem kM:∀ (ds es:List D) (i:Nat),(fZ ds es)[i]?=(ds[i]?).bind λd=>(es[i]?).map λe=>D.tup [d,e]
 | [],es,i=>by simp [fZ]
 | d::ds,[],i=>by cases i<;>simp [fZ]
 | d::ds,e::es,0=>by simp [fZ]
 | d::ds,e::es,i+1=>by simpa [fZ] using kM ds es i
theorem kN:∀ (ds es:List D),(fZ ds es).length=min ds.length es.length
 | [],es=>by simp [fZ]
 | d::ds,[]=>by simp [fZ]
 | d::ds,e::es=>by simp [fZ,kN ds es]
section
variable {K:PySem.W.Frag}{X:Cx}{a b:Expr}{pos:Pos}{af:Af}
theorem pB {st:Sto}{H:Hp}{φ:List Addr}{w:W}{v:V}{p:Bool×List D} (r:Rw K H φ w v) (e:oO w=some p) (S:Sr K H φ st):∃ a vs,v=.ref a/\SqK p.1 K H a vs/\(∀ H' φ',Fw φ φ' H H'->SqK p.1 K H' a vs)/\Rls K H φ p.2 vs:=by
 cases w with
 | h n=>cases e
 | d x=>
  cases x with
  | tup ds=>
   cases e
   obtain⟨a,us,rfl,hq,hr⟩:=r
   exact⟨a,us,rfl,(SqT.of hq),λH' φ' f=>(SqT.of hq).fw S f,hr⟩
  | lst ds=>
   cases e
   obtain⟨a,us,rfl,h0,hq,hr⟩:=r
   exact⟨a,us,rfl,.inl hq,λH' φ' f=>.inl (hq.fw f h0),hr⟩
  | _=>cases e
theorem wj {S1 S2:Hp->List V->Prop}{ds es:List D}{vs us:List V}{φ:List Addr}{H:Hp} (h1:∀ H' φ',Fw φ φ' H H'->S1 H' vs) (h2:∀ H' φ',Fw φ φ' H H'->S2 H' us) (r1:∀ H' φ',Fw φ φ' H H'->Rls K H' φ' ds vs) (r2:∀ H' φ',Fw φ φ' H H'->Rls K H' φ' es us) :
  Yl K φ H (Itz S1 S2) (fZ ds es):=by
 intro H2 φ2 st2 i f2 s2
 have q1:=h1 H2 φ2 f2
 have q2:=h2 H2 φ2 f2
 have w1:=r1 H2 φ2 f2
 have w2:=r2 H2 φ2 f2
 refine⟨λd hd=>?_,λhi=>⟨vs,us,q1,q2,?_⟩⟩
 ·rw [kM,Option.bind_eq_some_iff] at hd
  obtain⟨d1,hd1,hd⟩:=hd
  obtain⟨d2,hd2,rfl⟩:=Option.map_eq_some_iff.mp hd
  obtain⟨v,ev,rv⟩:=w1.get hd1
  obtain⟨u,eu,ru⟩:=w2.get hd2
  refine⟨⟨vs,us,v,u,q1,q2,ev,eu⟩,λx H' y=>?_⟩
  obtain⟨T,v',u',y1,y2,hT,rfl,rfl⟩:=y
  have z1:=y1 vs q1
  have z2:=y2 us q2
  rw [ev] at z1
  rw [eu] at z2
  cases z1
  cases z2
  exact⟨aZ.new hT _,T,_,rfl,ay,_,_,rfl,rv.fw s2 (Fw.new hT),_,_,rfl,ru.fw s2 (Fw.new hT),rfl⟩
 ·rw [kN] at hi
  have l1:=w1.length
  have l2:=w2.length
  rw [List.getElem?_eq_none_iff,List.getElem?_eq_none_iff]
  lia
theorem vd {elts:List Expr}{k:Nat}{tpos p:Pos} (hg:Gl X "zip") (hm:X.mg "zip" = none) (ha:IA K X [a,b] af) (hs:aH a=true:=by rfl) (hs2:aH b=true:=by rfl) (hK:X.K=K:=by rfl) :
  II K X (.Tuple elts k tpos) (.Call (.Name "zip" p) [a,b] [] pos) (j8 af):=by
 subst hK
 refine⟨λenv st r hr=>?_⟩
 simp only [j8,Option.bind_eq_some_iff] at hr
 obtain⟨⟨ws,s1⟩,hy,hr⟩:=hr
 match ws,hr with
 | [x,y],hr=>
  simp only [Option.bind_eq_some_iff,Option.map_eq_some_iff] at hr
  obtain⟨p1,hp1,p2,hp2,rfl⟩:=hr
  refine (vM (k:=p1.1) (k2:=p2.1) hg hm (ha.run _ _ _ hy) (so hs hs2) (gC hs2)).imp ?_
  rintro σ H R ⟨φ,hE,hS,q⟩
  refine⟨φ,hE,hS,λvs H1 φ1 f1 s1 w1=>?_⟩
  obtain⟨v,r,rfl,rx,v2,r',rfl,ry,rfl⟩:=w1
  obtain⟨a,us,rfl,hq,hq',hr⟩:=pB rx hp1 s1
  obtain⟨b,us2,rfl,hq2,hq2',hr2⟩:=pB ry hp2 s1
  exact⟨a,b,rfl,⟨us,hq⟩,⟨us2,hq2⟩,q _ H1 φ1 f1 s1 (wj hq' hq2' (λH' φ' f=>hr.fw s1 f) λH' φ' f=>hr2.fw s1 f)⟩
end
end L2
namespace L2
open PySem PySem.Spec PyProof.Rows
noncomputable def iG:List Int->Int->Int
 | [],m=>m
 | n::ns,m=>iG ns (if n > m then n else m)
section
variable {prog:Program}{w:World}{A:Around}{s:Shared}{I l S:Addr}{items:Array Value}{ns:List Int}{kw:List (Str×Value)}{R:Result->Shared->Prop}
theorem mY (h:IntsAre items.toList ns) {j:Nat}{n:Int} (hn:ns[j]?=some n):∃ t,items[j]?=some (.int n t):=by
 have hj:j < items.toList.length:=by rw [cS h];exact (List.getElem?_eq_some_iff.mp hn).1
 obtain⟨t,e⟩:=fO h j hj
 refine⟨t,?_⟩
 have hj':j < items.size:=by simpa using hj
 rw [Array.getElem?_eq_getElem hj']
 rw [Array.getElem_toList] at e
 rw [e,List.getD_eq_getElem?_getD,hn];rfl
theorem mX (h:IntsAre items.toList ns) {j:Nat} (hn:ns[j]?=none):items[j]?=none:=by
 rw [List.getElem?_eq_none_iff] at hn
 have:=cS h
 rw [Array.getElem?_eq_none_iff]
 rw [Array.length_toList] at this
 lia
theorem vn (hh:A.handled=none) (hi:IntsAre items.toList ns) (hSI:S≠I) (hlI:l≠I) (hlS:l≠S):∀ (rest:List Int) (j:Nat) (s:Shared) (m:Int) (t:Tok) (c:Nat),ns.drop j=rest->s.heap.IsListIter I l j->s.heap.IsList l items->
  s.heap.get? S=some { cls:=.type "list",dict:=none,data:=.seq #[.int m t,.int m t] c,slots:=#[] }->
  (∀ t' h',(∀ b o,b≠I->b≠S->s.heap.get? b=some o->h'.get? b=some o)->R (.ok (.ret (.int (iG rest m) t'))) { s with heap:=h' })->codeAny (model prog w) A (.builtin "max.loop" ⟨[.ref I,.none,.ref S],kw⟩) R s:=by
 have hname:(toString "max"++toString ".loop" : String) = "max.loop":=by decide
 intro rest
 induction rest with
 | nil=>
  intro j s m t c hd hit hl hS hR
  have hn:ns[j]?=none:=by
   rw [List.getElem?_eq_none_iff]
   have:=congrArg List.length hd
   simp at this;lia
  refine codeAny_builtin F.entry_max_loop ?_
  rw [Around.under_plainId F.plain_max_loop _]
  show wpAny _ A.in1 (seqItems? (.ref S) >>= _) _ _ s
  refine wpAny_bind (wpAny_seqItems hS rfl ?_)
  show wpAny _ A.in1 (tryCatch (pyNext (.ref I)) _ >>= _) _ _ s
  refine wpAny_bind (wpAny_tryCatch (wpAny_pyNext_list_end hh hit hl (mX hi hn) λh1 e1=>?_))
  show wpAny _ A.in1 (updateSeq S (λ_=>#[]) >>= _) _ _ _
  refine wpAny_bind (wpAny_updateSeq (e1 _ _ hSI hS) rfl (wpAny_bind (wpAny_letGo (wpAny_pure ?_))))
  exact hR t _ λb o hb1 hb2 q=>(Heap.get?_update_other _ _ (Ne.symm hb2)).trans (e1 _ _ hb1 q)
 | cons n rest ih=>
  intro j s m t c hd hit hl hS hR
  have hn:ns[j]?=some n:=by
   have:=congrArg (λl=>l[0]?) hd
   simpa using this
  have hd':ns.drop (j+1)=rest:=by
   have:=congrArg (List.drop 1) hd
   simpa [List.drop_drop,Nat.add_comm] using this
  obtain⟨tn,hx⟩:=mY hi hn
  refine codeAny_builtin F.entry_max_loop ?_
  rw [Around.under_plainId F.plain_max_loop _]
  show wpAny _ A.in1 (seqItems? (.ref S) >>= _) _ _ s
  refine wpAny_bind (wpAny_seqItems hS rfl ?_)
  show wpAny _ A.in1 (tryCatch (pyNext (.ref I)) _ >>= _) _ _ s
  refine wpAny_bind (wpAny_tryCatch (wpAny_pyNext_list_item hit hl hx λh1 hit1 s1=>?_))
  have e1:=s1.extBut
  have hS1:=e1 _ _ hSI hS
  show wpAny _ A.in1 (tryCatch (holding [.int n tn,.int n tn] (richCompare .Gt (.int n tn) (.int m t) >>= _)) _ >>= _) _ _ _
  refine wpAny_bind (wpAny_tryCatch (wpAny_holding (wpAny_bind (PyProof.Rows.gt_int ?_))))
  refine wpAny_bind (wpAny_holding (wpAny_truthy_bool ?_))
  refine wpAny_bind (wpAny_letGo (wpAny_pure ?_))
  by_cases hb:n > m
  ·have hb':decide (n > m)=true:=by simp [hb]
   rw [hb']
   simp only [if_true]
   refine wpAny_bind (wpAny_updateSeq hS1 rfl (wpAny_bind (wpAny_letGo ?_)))
   rw [hname]
   refine wpAny_pure ⟨plainId_quiet F.plain_max_loop _,ih (j+1) _ n tn _ hd' (hit1.at λo q=>(Heap.get?_update_other _ _ hSI).trans q) (Heap.IsList.at hl λo q=>(Heap.get?_update_other _ _ (Ne.symm hlS)).trans (e1 _ _ hlI q)) (Heap.get?_update_self _ hS1 rfl) λt' h' k=>?_⟩
   have:=hR t' h' λb o hb1 hb2 q=>k b o hb1 hb2 ((Heap.get?_update_other _ _ (Ne.symm hb2)).trans (e1 _ _ hb1 q))
   rw [iG,if_pos hb] at this
   exact this
  ·have hb':decide (n > m)=false:=by simp [hb]
   rw [hb']
   simp only [Bool.false_eq_true,if_false]
   refine wpAny_bind (wpAny_letGo ?_)
   rw [hname]
   refine wpAny_pure ⟨plainId_quiet F.plain_max_loop _,ih (j+1) _ m t c hd' hit1 (Heap.IsList.at hl λo q=>e1 _ _ hlI q) hS1 λt' h' k=>?_⟩
   have:=hR t' h' λb o hb1 hb2 q=>k b o hb1 hb2 (e1 _ _ hb1 q)
   rw [iG,if_neg hb] at this
   exact this
variable {E:Value->Shared->Prop}
theorem io {id:String}{b:Builtin}{args:List Value}{kw:List (Str×Value)}{Q:Value->Shared->Prop} (hk:builtinKind id=none) (hp:plainId id=true) (hb:entryFor table id=some b) (ha:argsOk id ⟨args,kw⟩)
  (hc:wpAny (model prog w) A.in1 (b ⟨args,kw⟩) (λfin s'=>match fin with
    | .done f=>(match (Except.ok f:Result) with | .ok (.ret v)=>Q v s' | .ok _=>False | .error e=>E e s')
    | .again c'=>c'.quiet=true/\codeAny (model prog w) A c' (λr s'=>match r with | .ok (.ret v)=>Q v s' | .ok _=>False | .error e=>E e s') s') E s) :
  wpAny (model prog w) A (call (.builtin id) args kw) Q E s:=by
 refine wpAny_call (codeAny_call_builtin hp hb ?_)
 simp only [checkBuiltinCall,hk]
 cases hsig:Manifest.signature? id with
 | none=>exact wpAny_pure hc
 | some sig=>
  have h2:Bind.checkArgs id sig ⟨args,kw⟩=pure ():=by simpa only [argsOk,hsig] using ha
  show wpAny _ A.in1 (Bind.checkArgs id sig ⟨args,kw⟩) _ _ s
  rw [h2];exact wpAny_pure hc
theorem pK (a v:Value):argsOk "max" ⟨[a],[(Str.ofString "default",v)]⟩:=by unfold argsOk;kernel_rfl
noncomputable def rh (ns:List Int) (d:Option Int):Option Int:=match ns with
 | n::r=>some (iG r n)
 | []=>d
theorem pY (hh:A.handled=none) (hi:IntsAre items.toList ns) (hSI:S≠I) (hlI:l≠I) (hlS:l≠S) {c:Nat} (hit:s.heap.IsListIter I l 0) (hl:s.heap.IsList l items) (hS:s.heap.get? S=some { cls:=.type "list",dict:=none,data:=.seq #[] c,slots:=#[] })
  (hR:∀ v h',(∀ b o,b≠I->b≠S->s.heap.get? b=some o->h'.get? b=some o)->(∀ n r,ns=n::r->∃ t,v=.int (iG r n) t)->(ns=[]->∃ k,kw=[(k,v)])->R (.ok (.ret v)) { s with heap:=h' })
  (h0:ns=[]->∃ k v,kw=[(k,v)]):codeAny (model prog w) A (.builtin "max.loop" ⟨[.ref I,.none,.ref S],kw⟩) R s:=by
 have hname:(toString "max"++toString ".loop" : String) = "max.loop":=by decide
 refine codeAny_builtin F.entry_max_loop ?_
 rw [Around.under_plainId F.plain_max_loop _]
 show wpAny _ A.in1 (seqItems? (.ref S) >>= _) _ _ s
 refine wpAny_bind (wpAny_seqItems hS rfl ?_)
 show wpAny _ A.in1 (tryCatch (pyNext (.ref I)) _ >>= _) _ _ s
 cases hn:ns with
 | nil=>
  obtain⟨k,v,rfl⟩:=h0 hn
  refine wpAny_bind (wpAny_tryCatch (wpAny_pyNext_list_end hh hit hl (mX hi (j:=0) (by rw [hn];rfl)) λh1 e1=>?_))
  refine wpAny_bind (wpAny_rule (wpAny_pure ?_))
  exact hR v _ (λb o hb1 _ q=>e1 _ _ hb1 q) (λn r e=>by rw [hn] at e;cases e) λ_=>⟨k,rfl⟩
 | cons n rest=>
  obtain⟨tn,hx⟩:=mY hi (j:=0) (n:=n) (by rw [hn];rfl)
  refine wpAny_bind (wpAny_tryCatch (wpAny_pyNext_list_item hit hl hx λh1 hit1 s1=>?_))
  have e1:=s1.extBut
  have hS1:=e1 _ _ hSI hS
  show wpAny _ A.in1 (updateSeq S (λ_=>#[.int n tn,.int n tn]) >>= _) _ _ _
  refine wpAny_bind (wpAny_updateSeq hS1 rfl ?_)
  rw [hname]
  refine wpAny_pure ⟨plainId_quiet F.plain_max_loop _,vn hh hi hSI hlI hlS rest 1 _ n tn _ (by rw [hn];rfl) (hit1.at λo q=>(Heap.get?_update_other _ _ hSI).trans q) (Heap.IsList.at hl λo q=>(Heap.get?_update_other _ _ (Ne.symm hlS)).trans (e1 _ _ hlI q)) (Heap.get?_update_self _ hS1 rfl) λt' h' k=>?_⟩
  exact hR _ h' (λb o hb1 hb2 q=>k b o hb1 hb2 ((Heap.get?_update_other _ _ (Ne.symm hb2)).trans (e1 _ _ hb1 q))) (λn' r' e=>by rw [hn] at e;cases e;exact⟨t',rfl⟩) λe=>by rw [hn] at e;cases e
theorem lS {Q:Value->Shared->Prop} (hh:A.handled=none) (hi:IntsAre items.toList ns) (hl:s.heap.IsList l items) (hk:kw=[]\/∃ v,kw=[(Str.ofString "default",v)]) (h0:ns=[]->kw≠[])
  (h:∀ v h',(∀ b o,s.heap.get? b=some o->h'.get? b=some o)->(∀ n r,ns=n::r->∃ t,v=.int (iG r n) t)->(ns=[]->∃ k,kw=[(k,v)])->Q v { s with heap:=h' }) :
  wpAny (model prog w) A (call (.builtin "max") [.ref l] kw) Q E s:=by
 have hname:(toString "max"++toString ".loop" : String) = "max.loop":=by decide
 have hlt:l < s.heap.objs.size:=by obtain⟨_,e,_⟩:=hl;exact Heap.lt_size e
 have hsz:(s.heap.push { cls:=.type "list_iterator",data:=.fields #[.ref l,.int 0 0] }).objs.size=s.heap.objs.size+1:=Heap.size_push ..
 have fin:∀ dd:List Value,kw=dd.map (λd=>((Str.ofString "default",d):Str×Value))->wpAny (model prog w) A.in1 (do
   let it <-pyIter (.ref l)
   let b <-newList []
   PySem.again (.builtin "max.loop" ⟨[it,.none,b],dd.map λd=>(Str.ofString "default",d)⟩)) (λfin s'=>match fin with
   | .done f=>(match (Except.ok f:Result) with | .ok (.ret v)=>Q v s' | .ok _=>False | .error e=>E e s')
   | .again c'=>c'.quiet=true/\codeAny (model prog w) A c' (λr s'=>match r with | .ok (.ret v)=>Q v s' | .ok _=>False | .error e=>E e s') s') E s:=λdd hdd=>by
  refine wpAny_bind (wpAny_pyIter_list hl (wpAny_bind (wpAny_newObj_type ?_)))
  refine wpAny_pure ⟨plainId_quiet F.plain_max_loop _,?_⟩
  rw [<-hdd]
  refine pY (S:=(s.heap.push { cls:=.type "list_iterator",data:=.fields #[.ref l,.int 0 0] }).objs.size) (I:=s.heap.objs.size) (l:=l) hh hi (by rw [hsz];exact Nat.succ_ne_self _) (Nat.ne_of_lt hlt) (by rw [hsz];exact Nat.ne_of_lt (Nat.lt_succ_of_lt hlt))
   ⟨_,Heap.get?_push_of_some _ (Heap.get?_push_size _ rfl),rfl,rfl⟩ (Heap.IsList.at hl λo q=>Heap.get?_push_of_some _ (Heap.get?_push_of_some _ q)) (Heap.get?_push_size _ rfl) (λv h' k h1 h2=>?_) (λe=>?_)
  ·refine h v h' (λb o q=>?_) h1 h2
   have hb:=Heap.lt_size q
   exact k b o (Nat.ne_of_lt hb) (by rw [hsz];exact Nat.ne_of_lt (Nat.lt_succ_of_lt hb)) (Heap.get?_push_of_some _ (Heap.get?_push_of_some _ q))
  ·rcases hk with hk | ⟨v,hk⟩
   ·exact absurd hk (h0 e)
   ·exact⟨_,v,hk⟩
 rcases hk with rfl | ⟨v,rfl⟩
 ·refine io F.kind_max F.plain_max F.entry_max (F.args_max1 _) ?_
  show wpAny _ A.in1 (Builtin.Builtins.bindParams "max" ["key","default"] 0 ⟨[],[]⟩ >>= _) _ _ s
  refine wpAny_bind (wpAny_of_eq (show Builtin.Builtins.bindParams "max" ["key","default"] 0 ⟨[],[]⟩=pure [none,none] from rfl) ?_)
  refine wpAny_bind (wpAny_pure ?_)
  have:=fin [] rfl
  rw [<-hname] at this
  exact this
 ·refine io F.kind_max F.plain_max F.entry_max (pK _ _) ?_
  show wpAny _ A.in1 (Builtin.Builtins.bindParams "max" ["key","default"] 0 ⟨[],[(Str.ofString "default",v)]⟩ >>= _) _ _ s
  refine wpAny_bind (wpAny_of_eq (show Builtin.Builtins.bindParams "max" ["key","default"] 0 ⟨[],[(Str.ofString "default",v)]⟩=pure [none,some v] from by kernel_rfl) ?_)
  refine wpAny_bind (wpAny_pure ?_)
  have:=fin [v] rfl
  rw [<-hname] at this
  exact this
end
end L2
namespace L2
open PySem PySem.Spec PyProof.Rows
section
variable {K:PySem.W.Frag}{X:Cx}{e a b:Expr}{es:List Expr}{pos:Pos}{f fa fb:Ef}{af:Af}
noncomputable def lsI (st:Sto) (w:W):Option (List Int):=(lsD st w).bind cn
theorem pN (hc:X.calm=true) {kw:List (Str×Value)}{d:Option V}{ns:List Int}{pins:List (Addr×Obj)}{σ:St}{H:Hp}{s:Shared}{ad:Addr}{Q:VK}{E:XK}{r:Int} (I:Inv X pins σ H s) (hl:Rd H ad (.lst (ns.map V.int)))
  (hk:(kw=[]/\ns≠[])\/∃ c t,kw=[(Str.ofString "default",.int c t)]/\(ns=[]->r=c)) (hr:∀ n q,ns=n::q->r=iG q n) (q:Q (.int r) H) :
  wpAny (model X.prog X.w) X.A (call (.builtin "max") [.ref ad] kw) (EP X pins σ Q) X.xe s:=by
 obtain⟨its,rv,pl,hz⟩:=I.list (.inl hl)
 refine lS (items:=its.toArray) (ns:=ns) (I.ok.hd hc) (by simpa using h9 rv) pl.isList ?_ ?_ λv h' kp h1 h2=>?_
 ·rcases hk with hk | ⟨c,t,hk,_⟩
  ·exact .inl hk.1
  ·exact .inr ⟨_,hk⟩
 ·intro e z
  rcases hk with hk | ⟨c,t,hk,_⟩
  ·exact hk.2 e
  ·rw [hk] at z;cases z
 ·have hv:∃ t,v=.int r t:=by
   cases hn:ns with
   | nil=>
    obtain⟨k,hk2⟩:=h2 hn
    rcases hk with hk | ⟨c,t,hk,hc'⟩
    ·exact absurd hn hk.2
    ·rw [hk] at hk2
     cases hk2
     rw [hc' hn];exact⟨t,rfl⟩
   | cons n q=>
    rw [hr n q hn]
    exact h1 n q hn
  exact⟨.int r,H,I.kept kp,hv,q⟩
noncomputable def dMx (st:Sto):List W->Option D
 | [.d (.int i),.d (.int j)]=>some (.int (if j > i then j else i))
 | [w]=>(lsI st w).bind λns=>(rh ns none).map D.int
 | _=>none
theorem tP {st:Sto}{H:Hp}{φ:List Addr}{w:W}{v:V}{ns:List Int} (S:Sr K H φ st) (r:Rw K H φ w v) (h:lsI st w=some ns):∃ ad,v=.ref ad/\Rd H ad (.lst (ns.map V.int)):=by
 obtain⟨ds,e1,e2⟩:=Option.bind_eq_some_iff.mp h
 obtain⟨ad,vs,rfl,h1,h2⟩:=mi S r e1
 cases dz e2
 cases h2.ints
 exact⟨ad,rfl,h1⟩
theorem uD (hc:X.calm=true:=by rfl):gO K X (.builtin "max") dMx:=by
 refine⟨λst ws d h=>?_⟩
 have one:∀ w,((lsI st w).bind λns=>(rh ns none).map D.int)=some d->cJ X (.builtin "max") (rCD K st [w] d):=λw h=>by
  obtain⟨ns,e1,h⟩:=Option.bind_eq_some_iff.mp h
  obtain⟨r,e2,rfl⟩:=Option.map_eq_some_iff.mp h
  intro pins s σ H xs us Q I rv q
  obtain⟨φ,S,⟨v,rr,rfl,r1,rfl⟩,q⟩:=q
  obtain⟨ad,rfl,hl⟩:=tP S r1 e1
  obtain⟨u,rfl,ru⟩:=kL rv
  cases ru
  refine pN (E:=λ_ _ _=>False) (d:=none) hc I hl (.inl ⟨rfl,λe=>by rw [e] at e2;cases e2⟩) (λn q hn=>by rw [hn] at e2;exact (Option.some.inj e2).symm) (q _ H (aZ.refl H) rfl)
 match ws,h with
 | [.d (.int i),.d (.int j)],h=>
  cases h
  refine (pM hc).imp ?_
  rintro vs H Q ⟨φ,S,⟨v,r,rfl,r1,u,r',rfl,r2,rfl⟩,q⟩
  exact⟨i,j,by rw [show v=.int i from r1,show u=.int j from r2],q _ H (aZ.refl H) rfl⟩
 | [w],h=>exact one w (by cases w with | h n=>exact h | d x=>cases x<;>exact h)
end
end L2
namespace L2
open PySem PySem.Spec PyProof.Rows
section
variable {K:PySem.W.Frag}{X:Cx}
end
end L2
namespace L2
open PySem PySem.Spec PyProof.Rows
section
variable {K:PySem.W.Frag}{X:Cx}{pos:Pos}{a b:Expr}{af:Af}
end
end L2
namespace L2
open PySem PySem.Spec PyProof.Rows
section
variable {K:PySem.W.Frag}{X:Cx}{pos:Pos}{e a b c:Expr}{es:List Expr}{f fa fb:Ef}{af:Af}
end
end L2
namespace L2
open PySem PySem.Spec PyProof.Rows
noncomputable def ExT (N:Addr->Prop) (H:Hp) (h:Heap) (C:Value) (e:Addr):Prop:=
 N e/\H e=none/\∃ oe vs T oT ts fl,h.get? e=some oe/\oe.cls=C/\oe.data=.fields vs/\vs[1]?=some (.ref T)/\N T/\H T=none/\T≠e/\h.get? T=some oT/\oT.data=.fields ts/\ts[3]?=some fl
noncomputable def Ex (N:Addr->Prop) (H:Hp) (h:Heap) (C:Value) (e:Addr):Prop:=
 (N e/\H e=none/\∃ oe vs,h.get? e=some oe/\oe.cls=C/\oe.data=.fields vs/\vs[1]?=some .none)\/ExT N H h C e
theorem ExT.ex {N:Addr->Prop}{H:Hp}{h:Heap}{C:Value}{e:Addr} (x:ExT N H h C e):Ex N H h C e:=.inr x
theorem ExT.imp {N N':Addr->Prop}{H:Hp}{h:Heap}{C:Value}{e:Addr} (f:∀ a,N a->N' a) (x:ExT N H h C e):ExT N' H h C e:=by
 obtain⟨a,b,oe,vs,T,oT,ts,fl,h1,h2,h3,h4,h5,h6⟩:=x
 exact⟨f _ a,b,oe,vs,T,oT,ts,fl,h1,h2,h3,h4,f _ h5,h6⟩
theorem Ex.imp {N N':Addr->Prop}{H:Hp}{h:Heap}{C:Value}{e:Addr} (f:∀ a,N a->N' a) (x:Ex N H h C e):Ex N' H h C e:=by
 rcases x with⟨a,b,x⟩ | x
 ·exact .inl ⟨f _ a,b,x⟩
 ·exact .inr (x.imp f)
structure Chg (N:Addr->Prop) (H:Hp) (fs:List Addr) (h h':Heap):Prop where
 keep:∀ b o,h.get? b=some o->b ∉ fs->(N b->(∀ vs,o.data≠.fields vs)\/H b≠none)->h'.get? b=some o
 slot:∀ b o,h.get? b=some o->b ∈ fs->∃ sl,h'.get? b=some { o with slots:=sl }
 there:∀ b o,h.get? b=some o->∃ o',h'.get? b=some o'/\o'.dict=o.dict
theorem Chg.refl {N:Addr->Prop}{H:Hp}{fs:List Addr}{h:Heap}:Chg N H fs h h:=⟨λ_ _ e _ _=>e,λ_ o e _=>⟨o.slots,e⟩,λ_ o e=>⟨o,e,rfl⟩⟩
theorem Chg.trans {N:Addr->Prop}{H:Hp}{fs:List Addr}{h h1 h2:Heap} (a:Chg N H fs h h1) (b:Chg N H fs h1 h2):Chg N H fs h h2:=
 ⟨λc o e hf hn=>b.keep c o (a.keep c o e hf hn) hf hn,λc o e hf=>by
  obtain⟨sl,e1⟩:=a.slot c o e hf
  obtain⟨sl',e2⟩:=b.slot c _ e1 hf
  exact⟨sl',e2⟩,λc o e=>by
  obtain⟨o',e1,d1⟩:=a.there c o e
  obtain⟨o2,e2,d2⟩:=b.there c o' e1
  exact⟨o2,e2,d2.trans d1⟩⟩
theorem Obj.dmf (f:Array Value->Array Value) (o:Obj):(Obj.mapFields f o).dict=o.dict:=by
 unfold Obj.mapFields
 split<;>rfl
theorem Chg.low {N:Addr->Prop}{H:Hp}{fs:List Addr}{h h':Heap} (c:Chg N H fs h h') {b:Addr}{o:Obj} (e:h.get? b=some o):∃ o',h'.get? b=some o':=by
 obtain⟨o',e1,_⟩:=c.there b o e
 exact⟨o',e1⟩
noncomputable def Pl (r:Int) (H:Hp) (h:Heap) (e:Addr):Prop:=∃ oe dx od,h.get? e=some oe/\oe.dict=some dx/\H dx=some (.frz od (.xd [("row",.int r)]))
theorem Pl.chg {r:Int}{N:Addr->Prop}{H:Hp}{fs:List Addr}{h h':Heap}{e:Addr} (p:Pl r H h e) (c:Chg N H fs h h'):Pl r H h' e:=by
 obtain⟨oe,dx,od,h1,h2,h3⟩:=p
 obtain⟨o',e1,d1⟩:=c.there e oe h1
 exact⟨o',dx,od,e1,d1.trans h2,h3⟩
section
variable {M:Model}{A:Around}{E:Value->Shared->Prop}{s:Shared}{N:Addr->Prop}{H:Hp}{C:Value}{e:Addr}{fs:List Addr}
theorem iY {fr:Option Addr}{Q:Unit->Shared->Prop} (hfs:∀ b ∈ fs,∃ o,s.heap.get? b=some o/\∀ vs,o.data≠.fields vs) (x:ExT N H s.heap C e)
  (hQ:∀ h',Chg N H fs s.heap h'->ExT N H h' C e->Q () { s with heap:=h' }):wpAny M A (setFlight (.ref e) fr) Q E s:=by
 obtain⟨nE,tE,oe,vs,T,oT,ts,fl,he,hc,hd,h1,nT,tT,hTe,hT,hdT,h3⟩:=x
 have hsz:3 < ts.size:=(Array.getElem?_eq_some_iff.mp h3).1
 unfold setFlight
 refine wpAny_bind (wpAny_field he hd h1 ?_)
 rw [if_pos (show (Value.ref T != Value.none)=true from by simp)]
 generalize (fr.elim Value.none λf=>rawInt f)=fv
 refine wpAny_setField hT hdT hsz (hQ _ ⟨λb o hb hf hn=>?_,λb o hb hf=>?_,λb o hb=>?_⟩ ?_)
 ·have:b≠T:=λz=>by
   subst z
   rw [hT] at hb;cases hb
   rcases hn nT with q | q
   ·exact q ts hdT
   ·exact q tT
  rw [Heap.get?_update_other _ _ (Ne.symm this)];exact hb
 ·have:b≠T:=λz=>by
   subst z
   obtain⟨o',e1,e2⟩:=hfs b hf
   rw [hT] at e1;cases e1
   exact e2 ts hdT
  exact⟨o.slots,by rw [Heap.get?_update_other _ _ (Ne.symm this)];exact hb⟩
 ·by_cases hbT:b=T
  ·subst hbT
   have:o=oT:=Option.some.inj (hb.symm.trans hT)
   subst this
   exact⟨_,Heap.get?_update_self _ hT (Obj.isFreed_of_fields (Obj.data_mapFields hdT _)),Obj.dmf _ _⟩
  ·exact⟨o,by rw [Heap.get?_update_other _ _ (Ne.symm hbT)];exact hb,rfl⟩
 ·refine⟨nE,tE,oe,vs,T,_,_,fv,by rw [Heap.get?_update_other _ _ hTe];exact he,hc,hd,h1,nT,tT,hTe,Heap.get?_update_self _ hT (Obj.isFreed_of_fields (Obj.data_mapFields hdT _)),Obj.data_mapFields hdT _,?_⟩
  simp [hsz]
theorem pi {env:Env}{outer:List Env}{base:Heap}{L:Addr}{Q:Unit->Shared->Prop} (hfr:A.frames=some (env::outer)) (hl:s.heap.FunFrames base (env::outer)) (hf:env.frame=some L)
  (hN:∀ a,s.heap.get? a=none->N a) (hH:H s.heap.objs.size=none) (x:Ex N H s.heap C e)
  (hQ:∀ h',Chg N H (frs (env::outer)) s.heap h'->ExT N H h' C e->Q () { s with heap:=h' }):wpAny M A (noteFrame (.ref e) env) Q E s:=by
 have hfs:∀ b ∈ frs (env::outer),∃ o,s.heap.get? b=some o/\∀ vs,o.data≠.fields vs:=λb hb=>(hl.mem hb).2
 -- a new head of the trace
 have go:∀ (s1:Shared) (head:Value) (hn:Bool) (oe:Obj) (vs:Array Value),s1.heap.FunFrames base (env::outer)->s1.heap.objs.size=s.heap.objs.size->Chg N H (frs (env::outer)) s.heap s1.heap->{ s1 with heap:=s.heap }=s->N e->H e=none->
   s1.heap.get? e=some oe->oe.cls=C->oe.data=.fields vs->1 < vs.size->
   wpAny M A (do let a <-frameOf env;let pl <-entryPlaceOf L hn;let b <-EntryCells.newEntry head a .none (rawInt L) .none pl;setField (.ref e) 1 b) Q E s1:=by
  intro s1 head hn oe vs hl1 hsz0 c1 hs1 nE tE he hc hd hsz
  refine wpAny_bind (wpAny_frameOf_fun hfr hl1 hf λh₁ hs₁=>?_)
  refine wpAny_bind (wpAny_entryPlaceOf λpl hpl=>?_)
  unfold EntryCells.newEntry newFields
  refine wpAny_bind (wpAny_newObj_type ?_ (hpl.sizeOk5 _ _ _ _ _))
  have hene:e ∉ (env::outer).filterMap (·.frame):=λhm=>by
   obtain⟨_,o,ho,hnf⟩:=hl1.mem hm
   rw [he] at ho;cases ho;exact hnf vs hd
  have he₁:h₁.get? e=some oe:=(hs₁.2.1 e hene).trans he
  have hsz1:h₁.objs.size=s.heap.objs.size:=hs₁.1.trans hsz0
  generalize hnew:({ cls:=.type "traceback",dict:=none,data:=.fields ([head,.ref L,.none,rawInt L,.none]++(if pl.isEmpty then List.replicate 6 Value.none else pl)).toArray }:Obj)=ob
  have he₂:=Heap.get?_push_of_some (h:=h₁) ob he₁
  refine wpAny_setField he₂ hd hsz ?_
  have hTe:h₁.objs.size≠e:=Nat.ne_of_gt (Heap.lt_size he₁)
  have hd₃:=Obj.data_mapFields hd (·.setIfInBounds 1 (Value.ref h₁.objs.size))
  have he₃:=Heap.get?_update_self (Obj.mapFields (·.setIfInBounds 1 (Value.ref h₁.objs.size))) he₂ (Obj.isFreed_of_fields hd₃)
  have hT₃:((h₁.push ob).update e (Obj.mapFields (·.setIfInBounds 1 (Value.ref h₁.objs.size)))).get? h₁.objs.size=some ob:=by
   rw [Heap.get?_update_other _ _ (Ne.symm hTe)]
   exact Heap.get?_push_size h₁ (by rw [<-hnew];rfl)
  have other:∀ b o,b≠e->h₁.get? b=some o->((h₁.push ob).update e (Obj.mapFields (·.setIfInBounds 1 (Value.ref h₁.objs.size)))).get? b=some o:=λb o hbe hb=>by
   rw [Heap.get?_update_other _ _ (Ne.symm hbe)];exact Heap.get?_push_of_some _ hb
  have hTn:s.heap.get? h₁.objs.size=none:=by
   rw [hsz1]
   cases q:s.heap.get? s.heap.objs.size with
   | none=>rfl
   | some o=>exact absurd (Heap.lt_size q) (Nat.lt_irrefl _)
  have hst:∀ h',{ s1 with heap:=h' }={ s with heap:=h' }:=λh'=>by rw [<-hs1]
  rw [hst]
  refine hQ _ ⟨λb o hb hfb hnb=>?_,λb o hb hfb=>?_,λb o hb=>?_⟩ ⟨nE,tE,_,_,h₁.objs.size,_,_,rawInt L,he₃,by rw [Obj.cls_mapFields];exact hc,hd₃,by simp [hsz],hN _ hTn,by rw [hsz1];exact hH,hTe,hT₃,by rw [<-hnew],?_⟩
  ·have b1:=c1.keep b o hb hfb hnb
   refine other b o (λz=>?_) ((hs₁.2.1 b hfb).trans b1)
   subst z
   rw [he] at b1;cases b1
   rcases hnb nE with q | q
   ·exact q vs hd
   ·exact q tE
  ·obtain⟨sl,b1⟩:=c1.slot b o hb hfb
   obtain⟨sl',b2⟩:=hs₁.2.2 b _ b1
   exact⟨sl',other b _ (λz=>hene (z ▸ hfb)) b2⟩
  ·obtain⟨o1,b1,d1⟩:=c1.there b o hb
   obtain⟨sl',b2⟩:=hs₁.2.2 b _ b1
   by_cases hbe:b=e
   ·subst hbe
    have:o1=oe:=Option.some.inj (b1.symm.trans he)
    subst this
    exact⟨_,he₃,(Obj.dmf _ _).trans d1⟩
   ·exact⟨_,other b _ hbe b2,d1⟩
  ·first | (simp;done) | (rcases hpl with rfl | ⟨_,_,_,_,_,_,_,rfl⟩<;>simp)
 rcases x with⟨nE,tE,oe,vs,he,hc,hd,h1⟩ | ⟨nE,tE,oe,vs,T,oT,ts,fl,he,hc,hd,h1,nT,tT,hTe,hT,hdT,h3⟩
 ·unfold noteFrame
  simp only [hf]
  refine wpAny_bind (wpAny_field he hd h1 ?_)
  rw [if_neg (by decide)]
  exact go s _ _ oe vs hl rfl .refl rfl nE tE he hc hd (Array.getElem?_eq_some_iff.mp h1).1
 ·have hsz:3 < ts.size:=(Array.getElem?_eq_some_iff.mp h3).1
  unfold noteFrame
  simp only [hf]
  refine wpAny_bind (wpAny_field he hd h1 ?_)
  rw [if_pos (show (Value.ref T != Value.none)=true from by simp)]
  refine wpAny_bind (wpAny_field hT hdT h3 ?_)
  by_cases hfl:(fl==rawInt L)=true
  ·rw [if_pos hfl]
   exact wpAny_pure (hQ _ .refl ⟨nE,tE,oe,vs,T,oT,ts,fl,he,hc,hd,h1,nT,tT,hTe,hT,hdT,h3⟩)
  ·rw [if_neg hfl]
   refine wpAny_bind (wpAny_setField hT hdT hsz ?_)
   have other:∀ b,b≠T->(s.heap.update T (Obj.mapFields (·.setIfInBounds 3 Value.none))).get? b=s.heap.get? b:=λb hb=>Heap.get?_update_other _ _ (Ne.symm hb)
   have nfT:∀ b o,s.heap.get? b=some o->(∀ vs,o.data≠.fields vs)->b≠T:=λb o hb hnf z=>by
    subst z;rw [hT] at hb;cases hb;exact hnf ts hdT
   refine go _ _ _ oe vs (hl.of_keeps λb o hb hnf=>⟨o,(other b (nfT b o hb hnf)).trans hb,rfl⟩) ?_ ⟨λb o hb hfb hnb=>?_,λb o hb hfb=>?_,λb o hb=>?_⟩ rfl nE tE ((other e (Ne.symm hTe)).trans he) hc hd (Array.getElem?_eq_some_iff.mp h1).1
   ·exact Heap.size_after_update ..
   ·refine (other b λz=>?_).trans hb
    subst z
    rw [hT] at hb;cases hb
    rcases hnb nT with q | q
    ·exact q ts hdT
    ·exact q tT
   ·obtain⟨o',e1,e2⟩:=hfs b hfb
    rw [hb] at e1;cases e1
    exact⟨o.slots,(other b (nfT b o hb e2)).trans hb⟩
   ·by_cases hbT:b=T
    ·subst hbT
     have:o=oT:=Option.some.inj (hb.symm.trans hT)
     subst this
     exact⟨_,Heap.get?_update_self _ hT (Obj.isFreed_of_fields (Obj.data_mapFields hdT _)),Obj.dmf _ _⟩
    ·exact⟨o,(other b hbT).trans hb,rfl⟩
theorem rd {env:Env}{outer:List Env}{base:Heap}{L:Addr}{Q:Unit->Shared->Prop} (hfr:A.frames=some (env::outer)) (hl:s.heap.FunFrames base (env::outer)) (hf:env.frame=some L)
  (hN:∀ a,s.heap.get? a=none->N a) (hH:H s.heap.objs.size=none) (x:Ex N H s.heap C e)
  (hQ:∀ h',Chg N H (frs (env::outer)) s.heap h'->ExT N H h' C e->Q () { s with heap:=h' }):wpAny M A (leaving env (.ref e)) Q E s:=by
 unfold leaving
 refine wpAny_bind (pi hfr hl hf hN hH x λh1 c1 x1=>?_)
 refine iY (s:={ s with heap:=h1 }) (fs:=frs (env::outer)) (λb hb=>?_) x1 λh2 c2 x2=>hQ h2 (c1.trans c2) x2
 obtain⟨o,ho,hd⟩:=(hl.mem hb).2
 obtain⟨sl,e1⟩:=c1.slot b o ho hb
 exact⟨_,e1,hd⟩
end
end L2
namespace L2
open PySem PySem.Spec PyProof.Rows
noncomputable def sO (X:Cx) (a:Addr):Prop:=(X.s₀.heap.get? a=none\/a ∈ X.ex)/\∀ p ∈ X.pn,p.1≠a
theorem Inv.new {X:Cx}{pins:List (Addr×Obj)}{σ:St}{H:Hp}{s:Shared} (I:Inv X pins σ H s) {a:Addr} (h:s.heap.get? a=none):sO X a:=by
 refine⟨?_,λp hp z=>?_⟩
 ·by_cases hx:a ∈ X.ex
  ·exact .inr hx
  ·refine .inl ?_
   cases q:X.s₀.heap.get? a with
   | none=>rfl
   | some o=>
    obtain⟨o',e⟩:=I.base.there a o q hx
    rw [h] at e;cases e
 ·have:=(I.pin p (List.mem_append_left _ hp)).1
  rw [z,h] at this;cases this
noncomputable def XE (X:Cx) (C:Value×Int) (H':Hp):Prop:=∀ e pins σ' s',Inv X pins σ' H' s'->Ex (sO X) H' s'.heap C.1 e->Pl C.2 H' s'.heap e->X.xe (.ref e) s'
noncomputable def CX1 (P:Program) (w:World) (C:Value×Int):CXT:=λouter H s E e s'=>∃ a H',e=.ref a/\s'.os=s.os/\AllBare s'.gens/\Un (frs outer) [] H H' s.heap s'.heap/\HOk P w H' s'.heap/\Ex (λb=>s.heap.get? b=none) H' s'.heap C.1 a/\Pl C.2 H' s'.heap a/\E e none H'
noncomputable def EX (X:Cx) (C:Value×Int):XK:=λ_ _ H'=>XE X C H'
theorem wR {X:Cx}{C:Value×Int}:lL (CX1 X.prog X.w C) X (EX X C):=λpins σ H s e s' I h=>by
 obtain⟨a,H',rfl,os,bare,un,hok,x,pl,q⟩:=h
 exact q a pins σ s' (I.call' (ch:=[]) os un hok bare (λb z=>absurd z (by simp))) (x.imp λb hb=>I.new hb) pl
theorem Chg.hok {P:Program}{w:World}{N:Addr->Prop}{H:Hp}{fs:List Addr}{h h':Heap} (x:HOk P w H h) (hf:∀ b ∈ fs,H b=none) (c:Chg N H fs h h'):HOk P w H h':=λa o e=>by
 refine (x a o e).stay (λb u hb q=>c.keep b u q (λz=>?_) λ_=>.inr ?_) (λ_ q=>q) λ_ _ q=>q
 ·have:=hf b z
  rcases hb with rfl | hb
  ·rw [e] at this;cases this
  ·rw [hb] at this;cases this
 ·rcases hb with rfl | hb
  ·rw [e];intro z;cases z
  ·rw [hb];intro z;cases z
theorem xD {P:Program}{w:World}{K:PySem.W.Frag}{mg:Str->Option Value}{base:Heap}{N:List Str}{qual:Str}{scope:Scope}{f:Addr}{cd:Value}{A:Around}{outer:List Env}{s:Shared}{H H':Hp}{E:XK}{C:Value×Int}
  (hE:∀ a,E (.ref a) none H'):XE (ip (CX1 P w C) P w K mg base N qual scope f cd A outer s H E) C H':=by
 intro e pins σ' s' I x pl
 show wpAny (model P w) (A.deeper (envOfC qual scope s.heap.objs.size f cd)) (leaving (envOfC qual scope s.heap.objs.size f cd) (.ref e)) _ _ s'
 refine rd (base:=base) I.ok.frames I.stack rfl (λa h=>I.new h) (I.hok.fresh (Nat.le_refl _)) x λh' c x'=>?_
 have old:∀ b o,s.heap.get? b=some o->¬ sO (ip (CX1 P w C) P w K mg base N qual scope f cd A outer s H E) b:=λb o q z=>by
  rcases z.1 with z | z
  ·have z':s.heap.get? b=none:=z
   rw [q] at z';cases z'
  ·exact absurd (show b ∈ ([]:List Addr) from z) (by simp)
 have nL:∀ b o,s.heap.get? b=some o->b ∉ frs outer->b ∉ frs (envOfC qual scope s.heap.objs.size f cd::outer):=λb o q hb z=>by
  unfold frs at z
  rw [List.filterMap_cons] at z
  rcases List.mem_cons.mp z with z | z
  ·exact absurd (Heap.lt_size q) (by rw [z];exact Nat.lt_irrefl _)
  ·exact hb z
 have inL:∀ b,b ∈ frs outer->b ∈ frs (envOfC qual scope s.heap.objs.size f cd::outer):=λb hb=>by
  unfold frs
  rw [List.filterMap_cons]
  exact List.mem_cons_of_mem _ hb
 refine⟨e,H',rfl,I.os,I.bare,⟨λb o q n hb hx=>?_,λb o q n hb hx=>?_,I.base.free,λb o q hx=>?_,I.base.tups,I.base.frzs,I.base.tbls⟩,c.hok I.hok I.stkFree,x'.ex.imp λa z=>?_,pl.chg c,hE e⟩
 ·exact c.keep b o (I.base.keep b o q n hb hx) (nL b o q hb) λz=>absurd z (old b o q)
 ·obtain⟨sl,q1⟩:=I.base.slot b o q n hb hx
  obtain⟨sl',q2⟩:=c.slot b _ q1 (inL b hb)
  exact⟨sl',q2⟩
 ·obtain⟨o1,q1⟩:=I.base.there b o q hx
  exact c.low q1
 ·rcases z.1 with z | z
  ·exact z
  ·exact absurd (show a ∈ ([]:List Addr) from z) (by simp)
abbrev Rf:=Ev->Sto->Option Sto
abbrev Rn:=List W->Sto->Option Sto
noncomputable def tX (K:PySem.W.Frag) (X:Cx) (C:Value×Int) (env:Ev) (st st':Sto) (σ:St) (H:Hp):Prop:=∃ φ,Er K H φ env σ/\Sr K H φ st/\∀ H' φ',Fw φ φ' H H'->Sr K H' φ' st'->XE X C H'
structure RE (K:PySem.W.Frag) (X:Cx) (C:Value×Int) (e:Expr) (f:Rf):Prop where
 run:∀ env st st',f env st=some st'->PE X e (λσ H _=>tX K X C env st st' σ H)
structure RS (K:PySem.W.Frag) (X:Cx) (C:Value×Int) (s:Stmt) (f:Rf):Prop where
 run:∀ env st st',f env st=some st'->PS X s (λ_ σ H=>tX K X C env st st' σ H)
structure RSs (K:PySem.W.Frag) (X:Cx) (C:Value×Int) (s:List Stmt) (f:Rf):Prop where
 run:∀ env st st',f env st=some st'->PSs X s (λ_ σ H=>tX K X C env st st' σ H)
noncomputable def xNo:Rf
 | _,_=>none
noncomputable def sI (xa:Rf) (a:Sf) (xb:Rf):Rf
 | env,st=>match xa env st with
 | some s=>some s
 | none=>(a env st).bind λr=>match r with
  | .nx e s=>xb e s
  | _=>none
noncomputable def xIf (c:Tf) (xa xb:Rf):Rf
 | env,st=>(c env st).bind λr=>if r.1=true then xa env r.2 else xb env r.2
noncomputable def lJ (m:Rn) (a:Af):Rf
 | env,st=>(a env st).bind λr=>m r.1 r.2
noncomputable def lX (g:Tg) (b:Sf) (xb:Rf):List D->Ev->Sto->Option Sto
 | [],_,_=>none
 | d::ds,env,st=>(fk g (.d d) env).bind λe=>match xb e st with
  | some s=>some s
  | none=>(b e st).bind λr=>match r with
   | .nx e s=>lX g b xb ds e s
   | .ct e s=>lX g b xb ds e s
   | _=>none
noncomputable def sH (fi:Lf) (g:Tg) (b:Sf) (xb:Rf):Rf
 | env,st=>(fi env st).bind λr=>lX g b xb r.1 env r.2
noncomputable def ui (n k:Nat) (b:Rf):Rn
 | ws,st=>if ws.length=k then (b (ws.map some++List.replicate (n - k) none) st).map λs=>s.take st.length else none
noncomputable def spX (K:PySem.W.Frag) (m:Rn):Sp:=λvs H _ E=>∃ φ st ws st',m ws st=some st'/\Rws K H φ ws vs/\Sr K H φ st/\∀ e H' φ',Fw φ φ' H H'->Sr K H' φ' st'->E (.ref e) none H'
section
variable {K:PySem.W.Frag}{X:Cx}{C:Value×Int}{e a b c:Expr}{es:List Expr}{s:Stmt}{ss rest:List Stmt}{pos:Pos}{f fa fb:Rf}{af:Af}{ef:Ef}{sf:Sf}{tc:Tf}
theorem PA.nox {t:TA} (h:PA X.nox es t):PA X es t:=λpos pins s σ H Q I hw=>
 wpAny_mono (h pos pins s σ H Q (I.wish _) hw) (λ_ _ ⟨v,H',I',r,q⟩=>⟨v,H',I'.unwish,r,q⟩) λ_ _ z=>False.elim z
theorem PS.nox {t:TS} (h:PS X.nox s t):PS X s t:=λpins s σ H D I hw=>
 wpAny_mono (h pins s σ H D (I.wish _) hw) (λ_ _ q=>q.unwish) λ_ _ z=>False.elim z
theorem PI.nox {tg iter:Expr}{wi:TI} (h:PI X.nox tg iter wi):PI X tg iter wi:=λpins s σ H R I hw=>
 wpAny_mono (h pins s σ H R (I.wish _) hw) (λ_ _ q=>wpAny_mono q (λ_ _ ⟨it,fp,tn,J,H',e,I',T,st,fp',r⟩=>⟨it,fp,tn,J,H',e,I'.unwish,T,st,fp',r⟩) λ_ _ z=>False.elim z) λ_ _ z=>False.elim z
theorem PG.nox {tg:Expr}{g:TG} (h:PG X.nox tg g):PG X tg g:=λpins s σ H v u Q I r hw=>
 wpAny_mono (h pins s σ H v u Q (I.wish _) r hw) (λ_ _ ⟨σ',H',I',q⟩=>⟨σ',H',I'.unwish,q⟩) λ_ _ z=>False.elim z
theorem xm:RS K X C s xNo:=⟨λ_ _ _ h=>nomatch h⟩
theorem r8:RSs K X C ss xNo:=⟨λ_ _ _ h=>nomatch h⟩
theorem ug {x:Str}{k j:Nat}{ff:Addr}{fd:FuncData}{ps:List Str}{m:Rn}{p:Pos} (F:bv X.prog X.w X.K X.mg X.base (CX1 X.prog X.w C) j ff fd ps (spX K m)) (hjk:j<=k) (hr:bY k X.A) (hg:Gl X x) (hm:X.mg x=some (.ref ff)) (hk:PySem.W.keepIn X.K (.ref ff)=true) (hb:bp X.K fd ps [])
  (ha:IA K X.nox (e::es) af) (hdb:(x==("__debug__" : Str))=false:=by decide) (hs:aH e=true:=by rfl) (hp:es.all aH=true:=by rfl) :
  RE K X C (.Call (.Name x p) (e::es) [] pos) (lJ m af):=by
 refine⟨λenv st st' h=>?_⟩
 simp only [lJ,Option.bind_eq_some_iff] at h
 obtain⟨y,hy,h⟩:=h
 refine (pq (F.mono hjk) hr hg hm hk hb .nil wR (ha.run _ _ _ hy).nox hdb (bO hs) (er hp)).imp ?_
 rintro σ H Q ⟨φ,hE,hS,q⟩
 refine⟨φ,hE,hS,λvs H1 φ1 f1 s1 w1=>?_⟩
 show spX K m (vs++[]) H1 Q (EX X C)
 rw [List.append_nil]
 exact⟨φ1,y.2,y.1,st',h,w1,s1,λ_ H2 φ2 f2 s2=>q H2 φ2 (f1.trans f2) s2⟩
theorem vX {i:Nat}{x:Str}{pos':Pos} (hN:X.N.Nodup) (hi:X.N[i]?=some x) (hx:Loc X.env.scope x) (he:RE K X C e f) (hs:swapsWith e (some (.Name x pos')) pos.line X.env=pure false:=by rfl) (hf:X.fn x=true\/X.env.scope.names.lookup x=some .local:=by first | exact .inl rfl | exact .inr rfl | assumption) :
  RS K X C (.Assign [.Name x pos'] e pos) f:=⟨λenv st st' h=>(kD hN hi hx (he.run _ _ _ h) hs hf).imp λD σ H q=>q⟩
theorem xl (hc:IT K X.nox c tc) (ha:RSs K X C ss fa) (hb:RSs K X C rest fb):RS K X C (.If c ss rest pos) (xIf tc fa fb):=by
 refine⟨λenv st st' hf=>?_⟩
 simp only [xIf,Option.bind_eq_some_iff] at hf
 obtain⟨⟨k,s1⟩,hx,hf⟩:=hf
 cases k with
 | true=>
  rw [if_pos rfl] at hf
  refine (nD (hc.run _ _ _ hx).nox (ha.run _ _ _ hf) cO).imp ?_
  rintro D σ H ⟨φ,hE,hS,q⟩
  refine⟨φ,hE,hS,λH1 φ1 f1 s1=>?_⟩
  refine ot ?_
  exact⟨φ1,hE.fw hS f1,s1,λH2 φ2 f2 s2=>q H2 φ2 (f1.trans f2) s2⟩
 | false=>
  rw [if_neg Bool.false_ne_true] at hf
  refine (nD (hc.run _ _ _ hx).nox cO (hb.run _ _ _ hf)).imp ?_
  rintro D σ H ⟨φ,hE,hS,q⟩
  refine⟨φ,hE,hS,λH1 φ1 f1 s1=>?_⟩
  refine oq ?_
  exact⟨φ1,hE.fw hS f1,s1,λH2 φ2 f2 s2=>q H2 φ2 (f1.trans f2) s2⟩
theorem mB (h:RS K X C s f):RSs K X C [s] f:=⟨λenv st st' hf=>(iK (h.run _ _ _ hf)).imp λD σ H q=>q⟩
theorem nK (hx:RS K X C s fa) (h:IS K X.nox s sf) (hr:RSs K X C rest fb):RSs K X C (s::rest) (sI fa sf fb):=by
 refine⟨λenv st st' hf=>?_⟩
 simp only [sI] at hf
 cases ha:fa env st with
 | some s1=>
  rw [ha] at hf
  cases hf
  exact (dB (hx.run _ _ _ ha) cO).imp λD σ H q=>q
 | none=>
  rw [ha] at hf
  obtain⟨r,h1,hf⟩:=Option.bind_eq_some_iff.mp hf
  cases r with
  | nx e1 s1=>
   refine (dB (h.run _ _ _ h1).nox (hr.run _ _ _ hf)).imp ?_
   rintro D σ H ⟨φ,hE,hS,q⟩
   exact⟨φ,hE,hS,λσ' H' φ' f' e' s'=>⟨φ',e',s',λH2 φ2 f2 s2=>q H2 φ2 (f'.trans f2) s2⟩⟩
  | rt w s1=>cases hf
  | bk w s1=>cases hf
  | ct w s1=>cases hf
theorem PSs.or {t u:TS} (h:PSs X ss t) (h':PSs X ss u):PSs X ss (λD σ H=>t D σ H\/u D σ H):=λpins s σ H D I q=>q.elim (h pins s σ H D I) (h' pins s σ H D I)
noncomputable def tXa (K:PySem.W.Frag) (X:Cx) (C:Value×Int) (x:Rf) (σ:St) (H:Hp):Prop:=∃ env st st',x env st=some st'/\tX K X C env st st' σ H
theorem RSs.any (h:RSs K X C ss f):PSs X ss (λ_ σ H=>tXa K X C f σ H):=λpins s σ H D I ⟨env,st,st',e,q⟩=>h.run env st st' e pins s σ H D I q
theorem vW {tg iter:Expr}{fi:Lf}{g:Tg} (hi:II K X.nox tg iter fi) (hg:PG X.nox tg (tG K g)) (hb:ISs K X.nox ss sf) (hx:RSs K X C ss f) (hp:PassesOwn (model X.prog X.w) X.A X.env X.xe) (hc:X.calm=true:=by rfl)
  (hs:∀ x,foldedSetIterable iter X.env x=pure x:=by intro _;rfl):RS K X C (.For tg iter ss [] pos) (sH fi g sf f):=by
 refine⟨λenv st st' hr=>?_⟩
 simp only [sH,Option.bind_eq_some_iff] at hr
 obtain⟨⟨ds,s1⟩,hy,hr⟩:=hr
 refine (rL hp hc (hi.run _ _ _ hy).nox hg.nox (hb.any.nox.or hx.any) hs).imp ?_
 rintro D σ H ⟨φ,hE,hS,q⟩
 refine⟨φ,hE,hS,λJ H1 φ1 f1 S1 yl=>?_⟩
 refine⟨λi m σ H=>m=ds.length - i/\i<=ds.length/\∃ env st φ2,Fw φ1 φ2 H1 H/\Er K H φ2 env σ/\Sr K H φ2 st/\lX g sf f (ds.drop i) env st=some st',⟨ds.length,by simp,Nat.zero_le _,env,s1,φ1,Fw.refl _ _,hE.fw hS f1,S1,hr⟩,?_⟩
 rintro i m σ H2 ⟨rfl,hi,env2,st2,φ2,f2,e2,S2,h2⟩
 obtain⟨y1,y2⟩:=yl H2 φ2 st2 i f2 S2
 by_cases hlt:i < ds.length
 ·obtain⟨go,yld⟩:=y1 ds[i] (List.getElem?_eq_getElem hlt)
  rw [List.drop_eq_getElem_cons hlt] at h2
  simp only [lX,Option.bind_eq_some_iff] at h2
  obtain⟨e3,he3,h2⟩:=h2
  refine .inr ⟨go,λσ' H'=>i+1<=ds.length/\∃ env st φ2,Fw φ1 φ2 H1 H'/\Er K H' φ2 env σ'/\Sr K H' φ2 st/\lX g sf f (ds.drop (i+1)) env st=some st',λσ' H' ⟨hn,p'⟩=>⟨ds.length - (i+1),by lia,rfl,hn,p'⟩,λx H' y=>?_⟩
  obtain⟨sm,rx⟩:=yld x H' y
  have S3:=S2.same sm
  have f3:=f2.trans (Fw.same (φ:=φ2) sm)
  refine⟨φ2,st2,env2,.d ds[i],e3,e2.fw S2 (Fw.same sm),S3,rx,he3,λσ' e' _=>?_⟩
  cases hxx:f e3 st2 with
  | some s4=>
   rw [hxx] at h2
   cases h2
   exact .inr ⟨e3,st2,_,hxx,φ2,e',S3,λH4 φ4 f4 S4=>q H4 φ4 (f1.trans (f3.trans f4)) S4⟩
  | none=>
   rw [hxx] at h2
   obtain⟨r3,hr3,h3⟩:=Option.bind_eq_some_iff.mp h2
   refine .inl ⟨e3,st2,r3,hr3,φ2,e',S3,?_⟩
   cases r3 with
   | nx e4 s4=>exact λσ4 H4 φ4 f4 e4' s4'=>⟨hlt,e4,s4,φ4,f3.trans f4,e4',s4',h3⟩
   | ct e4 s4=>exact λσ4 H4 φ4 f4 e4' s4'=>⟨hlt,e4,s4,φ4,f3.trans f4,e4',s4',h3⟩
   | bk e4 s4=>cases h3
   | rt w s4=>cases h3
 ·have hi':i=ds.length:=by lia
  subst hi'
  rw [List.drop_length] at h2
  cases h2
end
theorem xJ {P:Program}{w:World}{K:PySem.W.Frag}{mg:Str->Option Value}{base:Heap}{C:Value×Int}{x qual:Str}{st:Stmt}{f:Addr}{fd:FuncData}{N ps:List Str}{k:Nat}{b:Rf} (F:Fun K x qual st f fd) (S:aB N ps (aj st))
  (hb:∀ (cdv:Value) (A:Around) (outer:List Env) (s:Shared) (H:Hp) (E:XK),bY k (A.deeper (envOfC qual (aj st) s.heap.objs.size f cdv))->RSs K (ip (CX1 P w C) P w K mg base N qual (aj st) f cdv A outer s H E) C (cE st) b) :
  bv P w K mg base (CX1 P w C) (k+1) f fd ps (spX K (ui N.length ps.length b)):=by
 obtain⟨oc,od,kV,doc,pm,an,cdv,ct,osl,rfl,lk,hcd⟩:=F.ex
 refine uF lk hcd S (λvs H Q E h=>?_) λA outer s H vs Q E hr h=>?_
 ·obtain⟨φ,st,ws,r,e,rw,_⟩:=h
  rw [ui] at e
  by_cases hl:ws.length=ps.length
  ·rw [<-rw.length,hl]
  ·rw [if_neg hl] at e;cases e
 ·obtain⟨φ,st',ws,r,e,rw,S',q⟩:=h
  rw [ui] at e
  by_cases hl:ws.length=ps.length
  ·rw [if_pos hl] at e
   obtain⟨s1,e1,rfl⟩:=Option.map_eq_some_iff.mp e
   refine⟨_,(hb cdv A outer s H E hr).run _ _ _ e1,φ,jZ rw hl,S',λH' φ' f' s'=>xD λa=>?_⟩
   refine q a H' φ f'.less ?_
   obtain⟨ψ,rfl,_⟩:=f'.ext
   rw [<-S'.len]
   exact s'.less
  ·rw [if_neg hl] at e;cases e
end L2
namespace L2
open PySem PySem.Spec PyProof.Rows
section
variable {prog:Program}{w:World}{A:Around}{E:Value->Shared->Prop}{h:Heap}{g:Array GenState}{d:Drawn}{t:Nat}{os:OsState}
variable {nm q:Str}{C N fI:Addr}{bs bm bmB rest:List Value}{hdct ab:Bool}{sn:List Str}{sub:List Value}{col:Option Bool}{dd:Option Addr}{k0 k1 k2 k3 k5:Option Value}{B newId initId:String}{mN:Str->Option Value}{oI:Obj}
theorem pT (F:ExcBaseFacts B newId initId bmB) (T:OwnTail h bmB bm) {Q:Fin->Shared->Prop} (hC:h.get? C=some (excClassObj nm q C N bs bm hdct sn sub ab col dd k0 k1 k2 k3 k5 newId)) (hn:h.Ns N mN)
  (hi:mN "__init__" = some (.ref fI)) (hfI:h.get? fI=some oI) (hfc:oI.cls=.type "function") (hrest:rest.length<=sizeLine)
  (hq:∀ h' e,Heap.MadeExcOf h h' e (.ref C) rest->wpAny (model prog w) A (call (.ref fI) (.ref e::rest)) (λr s'=>r=.none/\Q (.done (.ret (.ref e))) s') E ⟨h',g,d,t,os⟩) :
  wpAny (model prog w) A (Builtin.«type.__call__» ⟨.ref C::rest,[]⟩) Q E ⟨h,g,d,t,os⟩:=by
 generalize ht0:({ cls:=.type "tuple",data:=.seq rest.toArray }:Obj)=tu
 generalize he0:({ cls:=.ref C,data:=.fields #[.ref h.objs.size,.none,.none,.none,.bool false,.none] }:Obj)=ex
 have st:∀ {b o},h.get? b=some o->((h.push tu).push ex).get? b=some o:=λe=>Heap.get?_push_of_some _ (Heap.get?_push_of_some _ e)
 have C1:=st hC
 have f1:=st hfI
 have n1:((h.push tu).push ex).Ns N mN:=by
  obtain⟨o,es,ep,e,r⟩:=hn
  exact⟨o,es,ep,st e,r⟩
 have T1:=T.keeps (h':=(h.push tu).push ex) λ_ _ e=>st e
 have g1:((h.push tu).push ex).get? (h.objs.size+1)=some ex:=by
  refine Heap.get?_push_at (by rw [Heap.size_push]) ?_
  rw [<-he0];rfl
 have hcls:ex.cls=.ref C:=by rw [<-he0]
 have hcC:(Value.ref C::bm).contains (.ref C)=true:=by rw [List.contains_cons,beq_self_eq_true,Bool.true_or]
 repeat (first | with_reducible refine wpAny_loadPart_at hC ?_ | with_reducible refine wpAny_madeBy_exc hC ?_ | wp_step)
 refine codeAny_call_builtin_code (Code.quiet_builtin _ F.quiet) (wpAny_check_new_subT F T hC (codeAny_exc_new_subT F T hC ?_ hrest))
 show wpAny _ _ _ _ _ _
 rw [ht0,he0]
 unfold isInstance
 repeat (first | (with_reducible refine wpAny_loadPart_at g1 ?_;rw [hcls]) | (with_reducible refine wpAny_isSubtype_exc C1 ?_;rw [hcC]) | wp_step)
 show wpAny _ _ (typeLookup (.ref C) _) _ _ _
 refine wpAny_typeLookup_tail C1 n1 T1 F.mroIs F.init.lookup ?_
 rw [hi]
 refine wpAny_holding (wpAny_bind ?_)
 unfold bindSpecial
 refine wpAny_bind (wpAny_typeOf (T:="function") ⟨_,f1,hfc⟩ ?_)
 rw [if_pos (by decide)]
 have md:Heap.MadeExcOf h ((h.push tu).push ex) (h.objs.size+1) (.ref C) rest:=⟨λ_ _ e=>st e,Heap.get?_none_of_le (Nat.le_succ _),h.objs.size,by rw [g1,he0],Heap.get?_none_of_le (Nat.le_refl _),by
  rw [ht0]
  refine Heap.get?_push_of_some _ (Heap.get?_push_at rfl ?_)
  rw [<-ht0];rfl⟩
 refine wpAny_pure (wpAny_bind (wpAny_mono (hq _ _ md) (λr s' hr=>?_) λ_ _ x=>x))
 obtain⟨rfl,hQ⟩:=hr
 wp_walk
 exact hQ
theorem pS (F:ExcBaseFacts B newId initId bmB) (T:OwnTail h bmB bm) {Q:Value->Shared->Prop} (hC:h.get? C=some (excClassObj nm q C N bs bm hdct sn sub ab col dd k0 k1 k2 k3 k5 newId)) (hn:h.Ns N mN)
  (hi:mN "__init__" = some (.ref fI)) (hfI:h.get? fI=some oI) (hfc:oI.cls=.type "function") (hrest:rest.length<=sizeLine)
  (hq:∀ h' e,Heap.MadeExcOf h h' e (.ref C) rest->wpAny (model prog w) (A.under (.builtin "type.__call__" ⟨.ref C::rest,[]⟩)) (call (.ref fI) (.ref e::rest)) (λr s'=>r=.none/\Q (.ref e) s') E ⟨h',g,d,t,os⟩) :
  wpAny (model prog w) A (call (.ref C) rest) Q E ⟨h,g,d,t,os⟩:=by
 have z1:=tc_lookup
 have z2:=tc_bind (.ref C)
 have zT:(⟨h,g,d,t,os⟩:Shared).TypeIs (.ref C) "type":=⟨_,hC,rfl⟩
 refine wpAny_call (codeAny_of_tree ?_)
 show wpAny _ _ (callAny (.ref C) _) _ _ _
 repeat (any_goals (first | assumption | with_reducible refine wpAny_loadPart_at hC ?_ | wp_step))
 exact⟨rfl,codeAny_call_builtin_at (Code.quiet_builtin _ (by decide +kernel)) entry_typeCall (wpAny_check_type_call_sub hC (pT F T hC hn hi hfI hfc hrest hq))⟩
end
section
variable {prog:Program}{w:World}{A:Around}{E:Value->Shared->Prop}{s:Shared}{env:Env}
variable {nm q:Str}{C N fI:Addr}{bs bm bmB:List Value}{hdct ab:Bool}{sn:List Str}{sub:List Value}{col:Option Bool}{dd:Option Addr}{k0 k1 k2 k3 k5:Option Value}{B newId initId:String}{mN:Str->Option Value}
theorem qh {x:Sem Value}{Q:Flow->Shared->Prop} (hbase:bm.contains (.type "BaseException")=true) (hh:A.handled=none)
  (h:wpAny (model prog w) A x (λv s₁=>∃ e oe vs,v=.ref e/\s₁.heap.get? C=some (excClassObj nm q C N bs bm hdct sn sub ab col dd k0 k1 k2 k3 k5 newId)/\s₁.heap.get? e=some oe/\oe.cls=.ref C/\oe.data=.fields vs/\vs[1]?=some .none/\E (.ref e) s₁) E s) :
  wpAny (model prog w) A (raiseStmt env (some x) none) Q E s:=by
 have hcB:(Value.ref C::bm).contains (.type "BaseException")=true:=by rw [List.contains_cons,hbase,Bool.or_true]
 unfold raiseStmt
 refine wpAny_bind (wpAny_mono h (λv s₁ z=>?_) λ_ _ x=>x)
 obtain⟨e,oe,vs,rfl,hC,he,hcls,hdat,hv,hE⟩:=z
 obtain⟨hp,g,d,tk,os⟩:=s₁
 repeat (first | (with_reducible refine wpAny_loadPart_at he ?_;first | rw [hcls] | rw [hdat] | skip) | with_reducible refine wpAny_loadPart_at hC ?_ | (with_reducible refine wpAny_isSubtype_exc hC ?_;rw [hcB]) | wp_step)
 simp only [hdat]
 refine wpAny_pure ?_
 simp only [hv]
 refine wpAny_pure ?_
 rw [if_neg (by simp)]
 exact wpAny_pure (wpAny_raiseNew_none hh hE)
theorem oH (F:ExcBaseFacts B newId initId bmB) {x:Str}{np cpos pos:Pos}{args:List Expr}{Q:Flow->Shared->Prop} (hbase:bm.contains (.type "BaseException")=true) (hh:A.handled=none)
  (hplain:(backTo cpos (starEach args env)).any (·.1)=false) (hi:mN "__init__" = some (.ref fI))
  (h:wpAny (model prog w) A (eval (.Name x np) env) (λf s₁=>f=.ref C/\wpAny (model prog w) A (evalArgs (.ref C) true (backTo cpos (starEach args env)) []) (λa s₂=>a.kw=[]/\a.pos.length<=sizeLine/\
     s₂.heap.get? C=some (excClassObj nm q C N bs bm hdct sn sub ab col dd k0 k1 k2 k3 k5 newId)/\s₂.heap.Ns N mN/\OwnTail s₂.heap bmB bm/\(∃ oI,s₂.heap.get? fI=some oI/\oI.cls=.type "function")/\
     ∀ h' e,Heap.MadeExcOf s₂.heap h' e (.ref C) a.pos->wpAny (model prog w) (A.under (.builtin "type.__call__" ⟨.ref C::a.pos,[]⟩)) (call (.ref fI) (.ref e::a.pos)) (λr s'=>r=.none/\
      s'.heap.get? C=some (excClassObj nm q C N bs bm hdct sn sub ab col dd k0 k1 k2 k3 k5 newId)/\(∃ oe vs,s'.heap.get? e=some oe/\oe.cls=.ref C/\oe.data=.fields vs/\vs[1]?=some .none)/\E (.ref e) s') E { s₂ with heap:=h' }) E s₁) E s) :
  wpAny (model prog w) A (exec (.Raise (some (.Call (.Name x np) args [] cpos)) none pos) env) Q E s:=by
 rw [arm_exec_Raise]
 simp only [evalOpt,Option.map]
 refine wpAny_bind (wpAny_standAt (qh (C:=C) (nm:=nm) (q:=q) (N:=N) (bs:=bs) (bm:=bm) (hdct:=hdct) (sn:=sn) (sub:=sub) (ab:=ab) (col:=col) (dd:=dd) (k0:=k0) (k1:=k1) (k2:=k2) (k3:=k3) (k5:=k5) (newId:=newId) hbase hh ?_))
 refine wpAny_bind (wpAny_mono (wpAny_Call_ofName (wpAny_mono h (λf s₁ z=>?_) λ_ _ x=>x)) (λv s₃ z=>wpAny_bind (wpAny_standAt (wpAny_pure z))) λ_ _ x=>x)
 obtain⟨rfl,z⟩:=z
 unfold callWith
 refine wpAny_bind (wpAny_holding (wpAny_mono z (λa s₂ z2=>wpAny_bind (wpAny_standAt ?_)) λ_ _ x=>x))
 obtain⟨apos,akw⟩:=a
 obtain⟨hkw,hlen,hC,hn,T,⟨oI,hoI,hcI⟩,z3⟩:=z2
 obtain rfl:akw=[]:=hkw
 obtain⟨hp,g,d,tk,os⟩:=s₂
 simp only [hplain]
 refine wpAny_bind (wpAny_keeperOf_exc hC (wpAny_bind (pS F T hC hn hi hoI hcI hlen λh' e hm=>wpAny_mono (z3 h' e hm) (λr s' z4=>⟨z4.1,wpAny_bind (wpAny_holding (wpAny_point (wpAny_pure ?_)))⟩) λ_ _ x=>x)))
 obtain⟨-,hC',⟨oe,vs,he,hcls,hdat,hv⟩,hE⟩:=z4
 exact⟨e,oe,vs,rfl,hC',he,hcls,hdat,hv,hE⟩
end
end L2
namespace L2
open PySem PySem.Spec PyProof.Rows PySem.W Builtin Builtin.ObjectAttr
noncomputable def nR (K:Frag) (C S:Addr) (name:Str):Bool:=(clsIn K C).any (λcd=>cd.mro==[.ref C,.ref S,.type "ValueError",.type "Exception",.type "BaseException",.type "object"] && cd.hasDict) &&
 findIn K (.ref C) "__setattr__"==some (some (.builtin "object.__setattr__")) && findIn K (.ref C) name==some none
section
variable {prog:Program}{w:World}{A:Around}{E:Value->Shared->Prop}{K:Frag}{s:Shared}{e C S:Addr}{oe:Obj}{vs:Array Value}{name:Str}{v:Value}
theorem td {tk:Tok}{Q:Fin->Shared->Prop} (X:K.In s.heap) (he:s.heap.get? e=some oe) (hcls:oe.cls=.ref C) (hd:oe.dict=none) (hdat:oe.data=.fields vs) (hk:nR K C S name=true)
  (hq:∀ h' tk',h'.get? e=some { oe with dict:=some s.heap.objs.size }->h'.Ns1 s.heap.objs.size (λy=>if y=name then some v else none)->(∀ b o,b≠e->s.heap.get? b=some o->h'.get? b=some o)->Q (.done (.ret .none)) { s with heap:=h',toks:=tk' }) :
  wpAny (model prog w) A (storeInOwnDict (.ref e) (.ref C) (.str name tk) name v false) Q E s:=by
 unfold nR at hk
 simp only [Bool.and_eq_true,beq_iff_eq] at hk
 obtain⟨⟨hc,-⟩,-⟩:=hk
 obtain⟨cd,hc,hk⟩:=any_some hc
 simp only [Bool.and_eq_true,beq_iff_eq] at hk
 have hes:e≠s.heap.objs.size:=Nat.ne_of_lt (Heap.lt_size he)
 obtain⟨h,g,d,t,os⟩:=s
 dsimp only at X he hes hq
 obtain⟨oc,od,odt,osl⟩:=oe
 dsimp only at hcls hd hdat
 subst hcls hd hdat
 generalize hdo:({ cls:=.type "dict",data:=.dict #[] }:Obj)=dob
 have he1:(h.push dob).get? e=some ⟨.ref C,none,.fields vs,osl⟩:=Heap.get?_push_of_some _ he
 have hcd:=looks_clsIn (M:=model prog w) X hc
 generalize hup:(h.push dob).update e (λo=>{ cls:=o.cls,dict:=some h.objs.size,data:=o.data,slots:=o.slots })=h1
 have own:wpAny (model prog w) A (ownDictForStores (.ref e)) (λr s1=>r=some h.objs.size/\s1=⟨h1,g,d,t,os⟩) E ⟨h,g,d,t,os⟩:=by
  unfold ownDictForStores
  repeat (first | with_reducible refine wpAny_loadPart_at he ?_ | (with_reducible refine wpAny_bind (hcd.here ?_)) | wp_step)
  rw [hdo,hup]
  exact⟨rfl,rfl⟩
 have hd1:h1.get? h.objs.size=some dob:=by
  rw [<-hup]
  exact (Heap.get?_update_ne _ _ _ _ hes.symm).trans (Heap.get?_push_at rfl (by rw [<-hdo];rfl))
 have hx1:h1.get? e=some ⟨.ref C,some h.objs.size,.fields vs,osl⟩:=by
  rw [<-hup]
  exact Heap.get?_update_self _ he1 rfl
 have n1:h1.Ns h.objs.size (λ_=>none):=⟨_,#[],_,by rw [hd1,<-hdo],rfl,λen z=>absurd z (by simp),λ_=>rfl⟩
 unfold storeInOwnDict ownStreamTells
 repeat (first | with_reducible refine wpAny_loadPart_at he ?_ | (with_reducible refine wpAny_bind (wpAny_mono own (λr s1 z=>?_) λ_ _ x=>x)) | wp_step)
 obtain⟨rfl,rfl⟩:=z
 show wpAny _ _ (storeInDict h.objs.size (.str name tk) name v) _ _ _
 unfold storeInDict newKeyGuard
 refine wpAny_bind (wpAny_pure (wpAny_bind (wpAny_nsSet1 (Heap.Ns1.of_empty n1) λh2 n2 sb=>?_)))
 obtain⟨oD,esD,epD,hoD,hdD,hcD⟩:=n2.count (Within.cons name v Within.nil)
 refine wpAny_bind (wpAny_lookBehind hoD ?_ ?_)
 ·rw [hdD]
  refine pastItsLine_dict (Nat.le_trans hcD ?_)
  rw [List.length_cons,List.length_nil,sizeLine_eq]
  decide
 wp_walk
 refine hq h2 _ ((sb.2 e hes).trans hx1) ?_ λb o hbe hb=>(sb.2 b (Nat.ne_of_lt (Heap.lt_size hb))).trans ?_
 ·exact n2
 ·rw [<-hup]
  exact (Heap.get?_update_ne _ _ _ _ hbe).trans (Heap.get?_push_of_some _ hb)
theorem s0 {Q:Unit->Shared->Prop} (X:K.In s.heap) (he:s.heap.get? e=some oe) (hcls:oe.cls=.ref C) (hd:oe.dict=none) (hdat:oe.data=.fields vs) (hk:nR K C S name=true)
  (hq:∀ h' tk',h'.get? e=some { oe with dict:=some s.heap.objs.size }->h'.Ns1 s.heap.objs.size (λy=>if y=name then some v else none)->(∀ b o,b≠e->s.heap.get? b=some o->h'.get? b=some o)->Q () { s with heap:=h',toks:=tk' }) :
  wpAny (model prog w) A (setAttr (.ref e) name v) Q E s:=by
 have hk0:=hk
 unfold nR at hk0
 simp only [Bool.and_eq_true,beq_iff_eq] at hk0
 obtain⟨⟨hc,hs⟩,hn⟩:=hk0
 obtain⟨cd,hc,hm⟩:=any_some hc
 simp only [Bool.and_eq_true,beq_iff_eq] at hm
 obtain⟨hm,hhd⟩:=hm
 have I:InstAt s.heap e oe C none:=⟨he,hcls,by unfold notCls;rw [hdat],by rw [hd];trivial⟩
 have SF:=PySem.F.store_object
 refine set_plain X I hs ?_
 have ne:cd.mro.isEmpty=false:=by rw [hm];rfl
 have sub:Looks (model prog w) s.heap (isInstance (.ref e) (.type "object")) true:=I.type.andThen (looks_mroIn X (by
  unfold mroIn
  rw [hc,Option.bind_some,if_neg (by rw [ne];decide),hm]
  simp))
 have lm:Looks (model prog w) s.heap (mroOf (.ref C)) cd.mro:=(looks_clsIn X hc).andThen .now
 refine codeAny_call_builtin SF.slot.plain SF.entry (@check_slot (model prog w) _ _ { s with toks:=s.toks+1 } _ _ _ _ _ _ _ SF.kind SF.split sub (SF.args _ _ _) ?_)
 rw [osa_eq,refuse_eq]
 refine wpAny_bind (wpAny_bind (I.type.here (s:={ s with toks:=s.toks+1 }) (wpAny_bind (lm.here (s:={ s with toks:=s.toks+1 }) ?_))))
 rw [hm,refuseLoop_ref,refuseLoop_ref,PySem.F.store_ValueError.passes]
 refine wpAny_pure (wpAny_bind (I.type.here (s:={ s with toks:=s.toks+1 }) (wpAny_bind ((looks_findIn X hn).here (s:={ s with toks:=s.toks+1 }) (wpAny_bind (wpAny_pure ?_))))))
 exact td (s:={ s with toks:=s.toks+1 }) X he hcls hd hdat hk λh' tk' a b c=>hq h' tk' a b c
end
end L2
namespace L2
open PySem PySem.Spec PyProof.Rows PySem.W
abbrev exO (e:Addr) (oe:Obj):HO:=.ext λh=>h.get? e=some oe
theorem qG {P:Program}{w:World}{H:Hp}{h:Heap}{e:Addr}{oe:Obj} (q:h.get? e=some oe):bL P w H h e (exO e oe):=⟨q,⟨_,q⟩,λ_ _ q1 k=>k _ q1⟩
section
variable {P:Program}{w:World}{fs ex:List Addr}{H H1:Hp}{h h1:Heap}{a:Addr}{o:HO}
theorem HOk.trk (x:HOk P w H h) (hn:H a=none) (new:bL P w (upd H a o) h a o):HOk P w (upd H a o) h:=λb u e=>by
 by_cases hb:b=a
 ·subst hb;rw [ay] at e;cases e;exact new
 ·rw [am hb] at e
  exact (x b u e).stay (λ_ _ _ q=>q) (λc q=>by rw [am (ar q hn)];exact q) λc xs q=>by rw [am (ar q hn)];exact q
theorem Un.trk (u:Un fs ex H H1 h h1) (hh:h.get? a=none) (hn:H1 a=none):Un fs ex H (upd H1 a o) h h1:=by
 have n1:∀ b ob,h.get? b=some ob->b≠a:=λb ob e z=>by rw [z,hh] at e;cases e
 refine⟨u.keep,u.slot,λb ob e n x=>by rw [am (n1 b ob e)];exact u.free b ob e n x,u.there,λb xs q=>?_,λb ob v q=>?_,λb ps q=>?_⟩
 ·have:=u.tups b xs q
  rw [am (ar this hn)];exact this
 ·have:=u.frzs b ob v q
  rw [am (ar this hn)];exact this
 ·obtain⟨more,this⟩:=u.tbls b ps q
  exact⟨more,by rw [am (ar this hn)];exact this⟩
noncomputable def off (H:Hp) (a:Addr):Hp:=λb=>if b=a then none else H b
theorem gy {b:Addr} (n:b≠a):off H a b=H b:=if_neg n
theorem nu:off H a a=none:=if_pos rfl
theorem HOk.off {oe:Obj} (x:HOk P w H h) (he:H a=some (exO a oe)):HOk P w (off H a) h:=λb u e=>by
 have n:b≠a:=λz=>by rw [z,nu] at e;cases e
 rw [gy n] at e
 refine (x b u e).stay (λ_ _ _ q=>q) (λc q=>?_) λc xs q=>?_
 ·rw [gy λz=>by rw [z,he] at q;cases q];exact q
 ·rw [gy λz=>by rw [z,he] at q;cases q];exact q
theorem Un.off (u:Un fs ex H H1 h h1) (hh:h.get? a=none) (hn:H a=none):Un fs ex H (off H1 a) h h1:=by
 have n1:∀ b ob,h.get? b=some ob->b≠a:=λb ob e z=>by rw [z,hh] at e;cases e
 have n2:∀ b ob,H b=some ob->b≠a:=λb ob e z=>by rw [z,hn] at e;cases e
 refine⟨u.keep,u.slot,λb ob e n x=>by rw [gy (n1 b ob e)];exact u.free b ob e n x,u.there,λb xs q=>?_,λb ob v q=>?_,λb ps q=>?_⟩
 ·rw [gy (n2 _ _ q)];exact u.tups b xs q
 ·rw [gy (n2 _ _ q)];exact u.frzs b ob v q
 ·obtain⟨more,this⟩:=u.tbls b ps q
  exact⟨more,by rw [gy (n2 _ _ q)];exact this⟩
end
noncomputable def mkH (H:Hp) (e:Addr) (oe:Obj) (dx:Addr) (od:Obj) (r:Int):Hp:=upd (upd H e (exO e { oe with dict:=some dx })) dx (.frz od (.xd [("row",.int r)]))
noncomputable def xx (C:Addr):TS:=λD σ H=>∃ e r oe vs,σ[0]?=some (some (.ref e))/\σ[1]?=some (some (.int r))/\H e=some (exO e oe)/\oe.cls=.ref C/\oe.dict=none/\oe.data=.fields vs/\∀ dx od,H dx=none->D.nx σ (mkH H e oe dx od r)
section
variable {X:Cx}{C S:Addr}{p1 p2 p3 p4:Pos}
theorem vP (h0:X.N[0]?=some ("self" : Str)) (h1:X.N[1]?=some ("row" : Str)) (v0:Vis X.env.scope "self") (v1:Vis X.env.scope "row") (hk:nR X.K C S "row" = true)
  (hs:swapsWith (.Name "row" p3) (some (.Attribute (.Name "self" p1) "row" p2)) p4.line X.env=pure false:=by rfl):PS X (.Assign [.Attribute (.Name "self" p1) "row" p2] (.Name "row" p3) p4) (xx C):=by
 rintro pins s σ H D I ⟨e,r,oe,vs,e0,e1,he,hc,hd,hdat,q⟩
 have a1:PE X (.Name "row" p3) (qp 1):=kB h1 v1
 have a0:PE X (.Name "self" p1) (qp 0):=kB h0 v0
 refine plainObj_wpAny_Assign_Attribute (thn (a1 pins s σ H (λv H1=>v=.int r/\H1=H) I ⟨_,e1,rfl,rfl⟩) λu s1 ⟨y,H1,I1,ry,z1,z2⟩=>?_) hs
 subst z1 z2
 refine thn (a0 pins s1 σ H1 (λv H2=>v=.ref e/\H2=H1) I1 ⟨_,e0,rfl,rfl⟩) λov s2 ⟨x,H2,I2,rx,z1,z2⟩=>?_
 subst z1 z2
 obtain rfl:ov=Value.ref e:=rx
 have hx:s2.heap.get? e=some oe:=(I2.hok e _ he).1
 have hn:H2 s2.heap.objs.size=none:=I2.hok.fresh (Nat.le_refl _)
 have hgn:s2.heap.get? s2.heap.objs.size=none:=Heap.get?_none_of_le (Nat.le_refl _)
 refine s0 I2.kIn hx hc hd hdat hk λh' tk' g1 g2 g3=>?_
 have g2':=g2
 obtain⟨od,es,ep,d1,-⟩:=g2
 refine⟨σ,_,?_,q s2.heap.objs.size od hn⟩
 have nE:s2.heap.objs.size≠e:=Nat.ne_of_gt (Heap.lt_size hx)
 have mu:Mut (H2 e):=by rw [he];exact True.intro
 have k1:HOk X.prog X.w (upd H2 e (exO e { oe with dict:=some s2.heap.objs.size })) h':=I2.hok.write mu (.inl rfl) g3 ⟨_,g1⟩ (qG g1)
 have n1:upd H2 e (exO e { oe with dict:=some s2.heap.objs.size }) s2.heap.objs.size=none:=by rw [am nE];exact hn
 refine I2.un (Un.trk (Un.write mu (.inl rfl) g3 ⟨_,g1⟩) hgn n1) (k1.trk n1 ⟨d1,_,g2',λf=>?_⟩)
 show qw (([("row",V.int r)]:List (Str×V)).lookup f) (if f = "row" then some u else none)
 by_cases hf:f = "row"
 ·subst hf
  rw [if_pos rfl]
  exact ry
 ·rw [if_neg hf,List.lookup_cons,beq_eq_false_iff_ne.mpr hf]
  trivial
end
theorem bL.there {P:Program}{w:World}{H:Hp}{h:Heap}{a:Addr}{o:HO} (x:bL P w H h a o):∃ ob,h.get? a=some ob:=by
 cases o with
 | lst xs=>obtain⟨_,_,_,_,e⟩:=x;exact⟨_,e⟩
 | tup xs=>obtain⟨_,_,_,_,e,_⟩:=x;exact⟨_,e⟩
 | dK kvs=>obtain⟨_,_,_,_,o,_,_,e,_⟩:=x;exact⟨_,e⟩
 | dT kvs=>obtain⟨_,_,_,_,o,_,_,e,_⟩:=x;exact⟨_,e⟩
 | set S n=>obtain⟨o,_,_,_,e,_⟩:=x;exact⟨_,e⟩
 | ins C dx fs=>obtain⟨_,_,_,e,_⟩:=x;exact⟨_,e⟩
 | own y=>obtain⟨_,e⟩:=x;exact⟨_,e⟩
 | xd fs=>obtain⟨_,⟨_,_,_,e,_⟩,_⟩:=x;exact⟨_,e⟩
 | rng lo hi=>obtain⟨_,_,_,e⟩:=x;exact⟨_,e⟩
 | frz ob u=>obtain⟨e,_⟩:=x;exact⟨_,e⟩
 | tbl ps=>exact⟨_,show h.get? a=some _ from x⟩
 | met f y=>exact⟨_,show h.get? a=some _ from x⟩
 | ext φ=>obtain⟨_,⟨_,e⟩,_⟩:=x;exact⟨_,e⟩
theorem HOk.none_of {P:Program}{w:World}{H:Hp}{h:Heap}{a:Addr} (x:HOk P w H h) (e:h.get? a=none):H a=none:=by
 cases q:H a with
 | none=>rfl
 | some o=>
  obtain⟨ob,z⟩:=(x a o q).there
  rw [e] at z;cases z
noncomputable def kH (C:Addr):Sp:=λvs H Q _=>∃ e r oe vs0,vs=[.ref e,.int r]/\H e=some (exO e oe)/\oe.cls=.ref C/\oe.dict=none/\oe.data=.fields vs0/\∀ dx od,H dx=none->Q .non (mkH H e oe dx od r)
section
variable {P:Program}{w:World}{K:PySem.W.Frag}{mg:Str->Option Value}{base:Heap}{x qual:Str}{st:Stmt}{f:Addr}{fd:FuncData}{k:Nat}{C S:Addr}{p1 p2 p3 p4:Pos}
theorem tw (F:Fun K x qual st f fd) (Sc:aB ["self","row"] ["self","row"] (aj st)) (v0:Vis (aj st) "self") (v1:Vis (aj st) "row") (hb:cE st=[.Assign [.Attribute (.Name "self" p1) "row" p2] (.Name "row" p3) p4]) (hk:nR K C S "row" = true) :
  bv P w K mg base CX0 (k+1) f fd ["self","row"] (kH C):=by
 refine F.ok Sc (λvs H Q E h=>?_) λcdv A outer s H vs Q E hr h=>⟨xx C,?_,?_⟩
 ·obtain⟨e,r,oe,vs0,rfl,_⟩:=h
  rfl
 ·rw [hb]
  exact iK (vP rfl rfl v0 v1 hk)
 ·obtain⟨e,r,oe,vs0,rfl,h⟩:=h
  exact⟨e,r,oe,vs0,rfl,rfl,h⟩
end
section
variable {X:Cx}{C fI:Addr}{fd:FuncData}{k:Nat}{pins:List (Addr×Obj)}{σ:St}{H:Hp}{s:Shared}{r:Int}{u:Value}
theorem qN (F:bv X.prog X.w X.K X.mg X.base CX0 k fI fd ["self","row"] (kH C)) (hr:bY (k+1) X.A) (hb:bp X.K fd ["self","row"] []) (I:Inv X pins σ H s) {h':Heap}{e:Addr} (hm:Heap.MadeExcOf s.heap h' e (.ref C) [u]) (ru:aQ (.int r) u) :
  wpAny (model X.prog X.w) (X.A.under (.builtin "type.__call__" ⟨.ref C::[u],[]⟩)) (call (.ref fI) (.ref e::[u])) (λrr s'=>rr=.none/\∃ dx od oe t,H dx=none/\dx≠e/\Inv X pins σ (upd H dx (.frz od (.xd [("row",.int r)]))) s'/\
   s'.heap.get? e=some oe/\oe.cls=.ref C/\oe.data=.fields #[.ref t,.none,.none,.none,.bool false,.none]/\oe.dict=some dx) X.xe { s with heap:=h' }:=by
 obtain⟨t,ht,-,-⟩:=hm.there
 have hne:H e=none:=I.hok.none_of hm.new
 generalize hoe:({ cls:=.ref C,data:=.fields #[.ref t,.none,.none,.none,.bool false,.none] }:Obj)=oe at ht
 have hc:oe.cls=.ref C:=by rw [<-hoe]
 have hd:oe.dict=none:=by rw [<-hoe]
 have hdat:oe.data=.fields #[.ref t,.none,.none,.none,.bool false,.none]:=by rw [<-hoe]
 clear hoe
 have u1:∀ fs,Un fs [] H (upd H e (exO e oe)) s.heap h':=λfs=>Un.trk (Un.kept hm.keeps) hm.new hne
 have I2:Inv X pins σ (upd H e (exO e oe)) { s with heap:=h' }:=I.un (t':=s.toks) (u1 _) ((I.hok.kept hm.keeps).trk hne (qG ht))
 have r2:aN [V.ref e,.int r] [Value.ref e,u]:=.cons rfl (.cons ru .nil)
 have hsp:kH C [.ref e,.int r] (upd H e (exO e oe)) (λv H2=>v=.non/\∃ dx od,upd H e (exO e oe) dx=none/\H2=mkH (upd H e (exO e oe)) e oe dx od r) (λ_ _ _=>False):=⟨e,r,oe,_,rfl,ay,hc,hd,hdat,λdx od z=>⟨rfl,dx,od,z,rfl⟩⟩
 refine wpAny_call (codeAny_mono (F.run _ X.stack _ _ ⟨[.ref e,u],[]⟩ [.ref e,u] _ _ _ (hr.make C [u] []) (I2.env0.make C [u] []) (hb _ _ I2.kIn rfl) r2 hsp) λrr s' hq=>?_)
 cases rr with
 | error e=>exact False.elim hq
 | ok fl=>
  cases fl with
  | ret u'=>
   obtain⟨v,H',os,bare,un,hok,rv,rfl,dx,od,hdx,rfl⟩:=hq
   have nx:dx≠e:=λz=>by rw [z,ay] at hdx;cases hdx
   have hH:H dx=none:=by rw [am nx] at hdx;exact hdx
   have he':mkH (upd H e (exO e oe)) e oe dx od r e=some (exO e { oe with dict:=some dx }):=by
    unfold mkH
    rw [am (Ne.symm nx),ay]
   have eH:off (mkH (upd H e (exO e oe)) e oe dx od r) e=upd H dx (.frz od (.xd [("row",.int r)])):=funext λb=>by
    by_cases hbe:b=e
    ·rw [hbe,nu,am (Ne.symm nx),hne]
    ·rw [gy hbe]
     unfold mkH
     by_cases hbd:b=dx
     ·rw [hbd,ay,ay]
     ·rw [am hbd,am hbe,am hbe,am hbd]
   have u3:Un (frs X.stack) [] H (off (mkH (upd H e (exO e oe)) e oe dx od r) e) s.heap s'.heap:=((u1 _).trans un).off hm.new hne
   have k3:=hok.off he'
   rw [eH] at u3 k3
   exact⟨rv,dx,od,{ oe with dict:=some dx },t,hH,nx,I.call' (ch:=[]) os u3 k3 bare (λb z=>absurd z (by simp)),(hok e _ he').1,hc,hdat,rfl⟩
  | next=>exact False.elim hq
  | brk=>exact False.elim hq
  | cont=>exact False.elim hq
end
end L2
namespace L2
open PySem PySem.Spec PyProof.Rows PySem.W
abbrev wn:List Value:=[.type "ValueError",.type "Exception",.type "BaseException",.type "object"]
noncomputable def qM (K:Frag) (C fI:Addr) (newId:String):Bool:=match K.lookup C with
 | some ⟨.type "type",_,.cls cd,sl⟩=>(match cd.mro,sl.toList with
  | .ref C'::bm,[_,_,_,_,some (.builtin n),_]=>C'==C && n==newId && !cd.hasDel && tailIn K wn bm && nsOkIn K cd.ns && nsIn K cd.ns "__init__"==some (some (.ref fI)) && typeIn K (.ref fI)==some (.type "function")
  | _,_=>false)
 | _=>false
theorem tK {K:Frag}{h:Heap}{C fI:Addr}{newId:String} (X:K.In h) (q:qM K C fI newId=true):∃ (tl:List Value) (N:Addr) (nm qn:Str) (bs:List Value) (hdct:Bool) (sn:List Str) (sub:List Value) (ab:Bool) (col:Option Bool) (dd:Option Addr) (k0 k1 k2 k3 k5:Option Value) (mN:Str->Option Value),
  h.get? C=some (excClassObj nm qn C N bs tl hdct sn sub ab col dd k0 k1 k2 k3 k5 newId)/\h.Ns N mN/\mN "__init__" = some (.ref fI)/\OwnTail h wn tl/\∃ oI,h.get? fI=some oI/\oI.cls=.type "function":=by
 unfold qM at q
 split at q
 ·rename_i dd cd sl ho
  split at q
  ·rename_i C' bm k0 k1 k2 k3 n k5 hm hs
   simp only [Bool.and_eq_true,beq_iff_eq,Bool.not_eq_true'] at q
   obtain⟨⟨⟨⟨⟨⟨rfl,rfl⟩,hdel⟩,ht⟩,hok⟩,hni⟩,hfn⟩:=q
   obtain⟨nm,bs,mro,ns,qn,hd,sn,sub,ab,col,del⟩:=cd
   dsimp only at hm hdel hok hni
   subst hm hdel
   have hsl:sl=#[k0,k1,k2,k3,some (.builtin n),k5]:=by
    obtain⟨l⟩:=sl
    simp only at hs
    rw [hs]
   subst hsl
   have G:h.Ns ns (h.nsMap ns):=.of_isNs (isNs_of_in X hok)
   have hI:h.nsMap ns "__init__" = some (.ref fI):=by
    obtain⟨o,es,ep,ho',hd',_,hf⟩:=G
    unfold nsIn at hni
    split at hni
    ·rename_i c d es' n' sl q
     have:=X _ _ q
     rw [ho'] at this
     cases this
     cases hd'
     split at hni
     ·rename_i he
      rw [<-hf]
      unfold nsFind findBy
      rw [<-Array.find?_toList,he]
      exact Option.some.inj hni
     ·split at hni<;>cases hni
    ·cases hni
   have hF:∃ oI,h.get? fI=some oI/\oI.cls=.type "function":=by
    have hfn':(K.lookup fI).map (·.cls)=some (.type "function"):=hfn
    obtain⟨oI,l1,l2⟩:=Option.map_eq_some_iff.mp hfn'
    exact⟨oI,X _ _ l1,l2⟩
   exact⟨bm,ns,nm,qn,bs,hd,sn,sub,ab,col,dd,k0,k1,k2,k3,k5,_,X _ _ ho,G,hI,tail_of_in X ht,hF⟩
  ·cases q
 ·cases q
noncomputable def we (r:Int) (a:Af):Rf
 | env,st=>(a env st).bind λy=>match y.1 with
  | [.d (.int k)]=>if k=r then some y.2 else none
  | _=>none
section
variable {K:PySem.W.Frag}{X:Cx}{C fI:Addr}{fd:FuncData}{k:Nat}{e:Expr}{pos np cpos:Pos}{af:Af}{r:Int}
theorem qj {x:Str} (hq:qM X.K C fI "ValueError.__new__" = true) (hm:X.mg x=some (.ref C)) (F:bv X.prog X.w X.K X.mg X.base CX0 k fI fd ["self","row"] (kH C)) (hr:bY (k+1) X.A) (hb:bp X.K fd ["self","row"] [])
  (hc:X.calm=true) (hg:Gl X x) (ha:IA K X.nox [e] af) (hd:(x==("__debug__" : Str))=false:=by decide) (hs:aH e=true:=by rfl) :
  RS K X (.ref C,r) (.Raise (some (.Call (.Name x np) [e] [] cpos)) none pos) (we r af):=by
 refine⟨λenv st st' hf=>?_⟩
 simp only [we,Option.bind_eq_some_iff] at hf
 obtain⟨⟨ws,st1⟩,hy,hf⟩:=hf
 dsimp only at hf
 split at hf
 case h_2=>cases hf
 rename_i kk
 split at hf
 case isFalse=>cases hf
 rename_i hkr
 subst hkr
 cases hf
 rintro pins s σ H D I ⟨φ,hE,hS,q⟩
 obtain⟨tl,N,nm,qn,bs,hdct,sn,sub,ab,col,dd,k0,k1,k2,k3,k5,mN,hC,hN,hni,T,oI,hoI,hcI⟩:=tK I.ok.mod.kin hq
 have FB:=PySem.F.excBase_ValueError
 refine oH (C:=C) (fI:=fI) (nm:=nm) (q:=qn) (N:=N) (bs:=bs) (bm:=tl) (hdct:=hdct) (sn:=sn) (sub:=sub) (ab:=ab) (col:=col) (dd:=dd) (k0:=k0) (k1:=k1) (k2:=k2) (k3:=k3) (k5:=k5)
  FB (mN:=mN) (T.hasType FB.hasBase) (I.ok.hd hc) (er (by rw [List.all_cons,hs];rfl)) hni (jG I hg hm ⟨rfl,?_⟩ hd)
 have pa:=(ha.run _ _ _ hy).nox cpos pins s σ H (λvs H1=>∃ φ1,Sr K H1 φ1 st'/\Fw φ φ1 H H1/\Rws K H1 φ1 [.d (.int kk)] vs) I ⟨φ,hE,hS,λvs H1 φ1 f1 s1 w1=>⟨φ1,s1,f1,w1⟩⟩
 rw [bO hs] at pa ⊢
 refine Calls.evalArgs_plain (thn pa λus s1 ⟨vs,H1,I1,r1,φ1,S1,f1,w1⟩=>?_)
 have kb:∀ b o,X.base.get? b=some o->s1.heap.get? b=some o:=I1.bk
 obtain⟨v,vs',rfl,w2,w3⟩:=w1
 cases w3
 cases w2
 cases r1 with
 | cons ru r1=>
  cases r1
  refine⟨rfl,?_,kb _ _ hC,hN.keeps kb,T.keeps kb,⟨oI,kb _ _ hoI,hcI⟩,λh' ex hmade=>?_⟩
  ·show 1<=sizeLine
   rw [sizeLine_eq];decide
  ·refine wpAny_mono (qN F hr hb I1 hmade ru) (λrr s2 ⟨e1,dx,od,oe,t,hdx,nx,I2,g1,g2,g3,g4⟩=>⟨e1,I2.bk _ _ hC,⟨oe,_,g1,g2,g3,rfl⟩,?_⟩) λ_ _ z=>z
   have sm:=aZ.new hdx (.frz od (.xd [("row",V.int kk)]))
   have hne:H1 ex=none:=I1.hok.none_of hmade.new
   refine q _ φ1 (f1.trans (Fw.same sm)) (S1.same sm) ex pins σ s2 I2 (.inl ⟨I1.new hmade.new,by rw [am (Ne.symm nx)];exact hne,oe,_,g1,g2,g3,rfl⟩) ⟨oe,dx,od,g1,g4,ay⟩
end
end L2
namespace L2
open PySem PySem.Spec PyProof.Rows PySem.W Builtin Builtin.ObjectAttr Builtin.Getset_descriptor
noncomputable def ExH (e C:Addr) (h:Heap):Prop:=∃ oe vs,h.get? e=some oe/\oe.cls=.ref C/\oe.data=.fields vs
noncomputable def kX (K:Frag) (C:Addr):Bool:=(clsIn K C).isSome && findIn K (.ref C) "__getattribute__"==some (some (.builtin "BaseException.__getattribute__")) && findIn K (.ref C) "__getattr__"==some none
 && findIn K (.ref C) "__class__"==some (some (.builtin "object.__class__")) && subIn K (.ref C) (.type "BaseException")==some true && mroIn K C (.type "object")==some true
section
variable {prog:Program}{w:World}{A:Around}{E:Value->Shared->Prop}{K:Frag}{h:Heap}{g:Array GenState}{d:Drawn}{t:Nat}{os:OsState}{a C:Addr}{o:Obj}{vs:Array Value}
theorem wf {R:Result->Shared->Prop}{tp:Value} (X:K.In h) (hm:mroIn K C (.type "object")=some true) (hx:h.get? a=some o) (hc:o.cls=.ref C)
  (hq:R (.ok (.ret (.ref C))) ⟨h,g,d,t,os⟩):codeAny (model prog w) A (.call (.builtin "getset_descriptor.__get__") ⟨[.builtin "object.__class__",.ref a,tp],[]⟩) R ⟨h,g,d,t,os⟩:=by
 have L0:Looks (model prog w) h (typeOf (.ref a)) (.ref C):=hc ▸ (Looks.ld hx).andThen .now
 have L1:=looks_mroIn (M:=model prog w) X hm
 refine codeAny_call_builtin KF.slot_gs.plain KF.entry_gs (KF.slot_gs.check _ _ _ _ _ _ _ _ KF.type_class (KF.args_gs _ _ _) ?_)
 unfold Builtin.«getset_descriptor.__get__» descrGet
 rw [dga_obj]
 refine wpAny_bind (wpAny_pure ?_)
 unfold descrGetter descrCheckInstance descrNameAndClass isInstance
 simp only [KF.owner_class]
 repeat lk
 refine⟨Code.quiet_builtin _ (by decide +kernel),codeAny_builtin KF.entry_class ?_⟩
 unfold Builtin.«object.__class__» shownTypeOf
 repeat lk
 exact hq
theorem nW {M:Model}{nameV:Value}{Q:Unit->Shared->Prop} (X:K.In h) (hb:subIn K (.ref C) (.type "BaseException")=some true)
  (hx:h.get? a=some o) (hc:o.cls=.ref C) (hq:Q () ⟨h,g,d,t,os⟩):wpAny M A (checkBuiltinCall "BaseException.__getattribute__" ⟨[.ref a,nameV],[]⟩) Q E ⟨h,g,d,t,os⟩:=by
 have hk:builtinKind "BaseException.__getattribute__" = some .slot:=by decide +kernel
 have hsplit:splitId "BaseException.__getattribute__" = some ("BaseException","__getattribute__"):=by decide +kernel
 have ha:=F.args_bexc_ga (.ref a) nameV
 simp only [checkBuiltinCall,hk,hsplit]
 refine wpAny_bind ?_
 ·unfold isInstance
  repeat (first | (with_reducible refine wpAny_loadPart_at hx ?_;rw [hc]) | with_reducible refine (looks_subIn X hb).at ?_ | wp_step)
  exact hq
theorem sJ {tk:Tok}{Q:Fin->Shared->Prop} (X:K.In h) (hm:mroIn K C (.type "object")=some true) (hcl:findIn K (.ref C) "__class__" = some (some (.builtin "object.__class__")))
  (hx:h.get? a=some o) (hc:o.cls=.ref C) (hq:Q (.done (.ret (.ref C))) ⟨h,g,d,t,os⟩) :
  wpAny (model prog w) A (Builtin.«object.__getattribute__» ⟨[.ref a,.str "__class__" tk],[]⟩) Q E ⟨h,g,d,t,os⟩:=by
 have hT5:(⟨h,g,d,t,os⟩:Shared).TypeIs (.builtin "object.__class__") "getset_descriptor":=F.typeOf_object_class
 have f5:=F.typeOf_object_class
 have f6:=F.slot_gs_get.lookup
 have f7:=F.slot_gs_set.lookup
 repeat (any_goals (first | assumption | (with_reducible refine wpAny_loadPart_at hx ?_;rw [hc]) | with_reducible refine (looks_findIn X hcl).at ?_ | wp_step))
 refine wf X hm hx hc ?_
 repeat (any_goals (first | assumption | wp_step))
theorem xB {tk:Tok}{fill expr:Bool}{Q:Value->Shared->Prop} (X:K.In h) (hk:kX K C=true) (hx:h.get? a=some o) (hc:o.cls=.ref C) (hq:Q (.ref C) ⟨h,g,d,t,os⟩) :
  wpAny (model prog w) A (getAttrBy (.ref a) (.str "__class__" tk) fill expr) Q E ⟨h,g,d,t,os⟩:=by
 unfold kX at hk
 simp only [Bool.and_eq_true,beq_iff_eq] at hk
 obtain⟨⟨⟨⟨⟨k0,k1⟩,k2⟩,k3⟩,k4⟩,k5⟩:=hk
 have FB:=PySem.F.attrBase_ValueError
 have f3:=FB.ga.bind (.ref a)
 have hx0:(expr && onTheHeap (Value.builtin "BaseException.__getattribute__"))=false:=by cases expr<;>rfl
 have hx2:(Value.builtin "BaseException.__getattribute__"==Value.builtin "object.__getattribute__")=false:=by decide +kernel
 have hx1:(onTheHeap (Value.ref C) && Value.builtin "BaseException.__getattribute__"==Value.builtin "object.__getattribute__")=false:=by rw [hx2];rfl
 repeat (any_goals (first | assumption | (with_reducible refine wpAny_loadPart_at hx ?_;rw [hc]) | with_reducible refine (looks_findIn X k1).at ?_ | with_reducible refine (looks_findIn X k2).at ?_ | wp_step))
 refine codeAny_call_builtin FB.ga.plain F.entry_bexc_ga (nW X k4 hx hc (sJ X k5 k3 hx hc ?_))
 repeat (any_goals (first | assumption | wp_step))
theorem uz {Q:Option Value->Shared->Prop} (X:K.In h) (hk:kX K C=true) (hx:h.get? a=some o) (hc:o.cls=.ref C) (hq:Q (some (.ref C)) ⟨h,g,d,t+1,os⟩) :
  wpAny (model prog w) A (getAttr? (.ref a) "__class__") Q E ⟨h,g,d,t,os⟩:=by
 unfold getAttr? getAttrBy?
 repeat (any_goals (first | assumption | with_reducible apply xB X hk hx hc | wp_step))
end
theorem qS {K:Frag}{e C:Addr} (hk:kX K C=true):KitX K (.ref e) (.ref C) (ExH e C) where
 ty:=λM h _ p=>by
  obtain⟨oe,vs,h1,h2,_⟩:=p
  exact h2 ▸ (Looks.ld h1).andThen .now
 it:=λ_ _ X _=>by
  unfold kX at hk
  simp only [Bool.and_eq_true,beq_iff_eq] at hk
  have k0:=hk.1.1.1.1.1
  unfold clsIn at k0
  split at k0
  ·rename_i c' d' cd' sl' ho
   intro A' Q' E' s' k q
   unfold isType loadHead
   exact wpAny_bind (wpAny_loadPart (k _ _ (X _ _ ho)) (wpAny_pure q))
  ·cases k0
 ne:=λh tp dd its n sl X htp=>by
  unfold kX at hk
  simp only [Bool.and_eq_true,beq_iff_eq] at hk
  have k0:=hk.1.1.1.1.1
  refine Bool.eq_false_iff.mpr λq=>?_
  have e:C=tp:=Value.ref.inj (beq_iff_eq.mp q)
  subst e
  unfold clsIn at k0
  split at k0
  ·rename_i ho
   have:=X _ _ ho
   rw [htp] at this
   cases this
  ·cases k0
 ca:=λ{_ _ _ _ _ s} X p k=>by
  obtain⟨h,g,d,t,os⟩:=s
  obtain⟨oe,vs,h1,h2,_⟩:=p
  exact uz X hk h1 h2 k
end L2
namespace L2
open PySem PySem.Spec PyProof.Rows PySem.W
section
variable {X:Cx}{pins:List (Addr×Obj)}{σ:St}{H:Hp}{s:Shared}{h':Heap}
theorem Inv.chg {N:Addr->Prop} (I:Inv X pins σ H s) (c:Chg N H (frs X.stack) s.heap h') (hN:∀ b,N b->(X.s₀.heap.get? b=none\/b ∈ X.ex)/\∀ p ∈ X.pn++pins,p.1≠b):Inv X pins σ H { s with heap:=h' }:=by
 have any:∀ b o,s.heap.get? b=some o->(∀ vs,o.data≠.fields vs)->∃ sl,h'.get? b=some { o with slots:=sl }:=λb o e d=>by
  by_cases hb:b ∈ frs X.stack
  ·exact c.slot b o e hb
  ·exact⟨o.slots,c.keep b o e hb λ_=>.inl d⟩
 have old:∀ b o,X.s₀.heap.get? b=some o->b ∉ X.ex->¬ N b:=λb o e hx z=>by
  rcases (hN b z).1 with q | q
  ·rw [e] at q;cases q
  ·exact hx q
 have neL:∀ b o,X.s₀.heap.get? b=some o->b≠X.env.locals:=λb o e=>Nat.ne_of_lt (Nat.lt_of_lt_of_le (Heap.lt_size e) I.ok.above)
 have cellK:∀ cc v,s.heap.IsCell cc v->h'.IsCell cc v:=λcc v ⟨o,ho,hd⟩=>by
  obtain⟨sl,q⟩:=any cc o ho (λvs z=>by rw [hd] at z;cases z)
  exact⟨_,q,hd⟩
 refine⟨I.ok,I.os,I.bare,⟨λb o e n hb hx=>?_,λb o e n hb hx=>?_,I.base.free,λb o e hx=>?_,I.base.tups,I.base.frzs,I.base.tbls⟩,?_,λx cc e=>?_,I.free,I.freeC,λp hp=>?_,c.hok I.hok I.stkFree,I.len⟩
 ·refine c.keep b o (I.base.keep b o e n hb hx) (λz=>?_) λz=>absurd z (old b o e hx)
  rcases List.mem_cons.mp (I.stkSub b z) with q | q
  ·exact neL b o e q
  ·exact hb q
 ·obtain⟨sl,e1⟩:=I.base.slot b o e n hb hx
  by_cases hs:b ∈ frs X.stack
  ·obtain⟨sl',e2⟩:=c.slot b _ e1 hs
   exact⟨sl',e2⟩
  ·exact⟨sl,c.keep b _ e1 hs λz=>absurd z (old b o e hx)⟩
 ·obtain⟨o',e1⟩:=I.base.there b o e hx
  exact c.low e1
 ·obtain⟨m,⟨o,es,ep,ho,hd,hr⟩,hl⟩:=I.loc
  obtain⟨sl,q⟩:=any _ o ho (λvs z=>by rw [hd] at z;cases z)
  refine⟨m,⟨_,es,ep,q,hd,hr⟩,λi x v e1 e2 e3=>?_⟩
  obtain⟨u,r,l⟩:=hl i x v e1 e2 e3
  refine⟨u,r,?_⟩
  rcases l with l | ⟨k,cc,e,z⟩
  ·exact .inl l
  ·exact .inr ⟨k,cc,e,cellK cc _ z⟩
 ·obtain⟨v,z⟩:=I.cell x cc e
  exact⟨v,cellK cc v z⟩
 ·obtain⟨e,n,ne,nf,d⟩:=I.pin p hp
  refine⟨c.keep p.1 p.2 e (λz=>?_) (λz=>absurd rfl ((hN p.1 z).2 p hp)),n,ne,nf,d⟩
  rcases List.mem_cons.mp (I.stkSub p.1 z) with q | q
  ·exact ne q
  ·exact nf q
theorem Inv.goes {m':Str->Option Value}{t':Nat} (I:Inv X pins σ H s) (hn:h'.Ns X.env.locals m') (hsb:Heap.SameBut X.env.locals s.heap h'):Inv X pins (List.replicate X.N.length none) H { s with heap:=h',toks:=t' }:=by
 have neL:∀ b o,X.s₀.heap.get? b=some o->b≠X.env.locals:=λb o e=>Nat.ne_of_lt (Nat.lt_of_lt_of_le (Heap.lt_size e) I.ok.above)
 refine⟨I.ok,I.os,I.bare,⟨λb o e n hb hx=>?_,λb o e n hb hx=>?_,I.base.free,λb o e hx=>?_,I.base.tups,I.base.frzs,I.base.tbls⟩,⟨m',hn,λi x v e1 e2 _=>?_⟩,λx cc e=>?_,I.free,I.freeC,λp hp=>?_,λa o e=>?_,by rw [List.length_replicate]⟩
 ·exact (hsb.2 b (neL b o e)).trans (I.base.keep b o e n hb hx)
 ·obtain⟨sl,e1⟩:=I.base.slot b o e n hb hx
  exact⟨sl,(hsb.2 b (neL b o e)).trans e1⟩
 ·obtain⟨o',e1⟩:=I.base.there b o e hx
  exact⟨o',(hsb.2 b (neL b o e)).trans e1⟩
 ·rw [List.getElem?_replicate] at e2
  split at e2<;>cases e2
 ·obtain⟨v,o,ho,hd⟩:=I.cell x cc e
  exact⟨v,o,(hsb.2 cc (I.cne x cc e)).trans ho,hd⟩
 ·obtain⟨e,n,ne,nf,d⟩:=I.pin p hp
  exact⟨(hsb.2 p.1 ne).trans e,n,ne,nf,d⟩
 ·have nL:∀ b,H b≠none->b≠X.env.locals:=λb hb z=>hb (z ▸ I.free)
  refine (I.hok a o e).stay (λb u hb q=>(hsb.2 b (nL b ?_)).trans q) (λ_ q=>q) λ_ _ q=>q
  rcases hb with rfl | hb
  ·rw [e];intro z;cases z
  ·rw [hb];intro z;cases z
end
theorem mU {M:Model}{A:Around}{E:Value->Shared->Prop}{K:Frag}{h:Heap}{g:Array GenState}{d:Drawn}{t:Nat}{os:OsState}{e C S:Addr}{oe:Obj}{Q:Bool->Shared->Prop} (X:K.In h)
  (he:h.get? e=some oe) (hcls:oe.cls=.ref C) (hty:typeIn K (.ref S)=some (.type "type")) (hcl:(clsIn K S).isSome=true) (hB:subIn K (.ref S) (.type "BaseException")=some true) (hs:subIn K (.ref C) (.ref S)=some true)
  (hq:Q true ⟨h,g,d,t,os⟩):wpAny M A (excMatches (.ref e) (.ref S)) Q E ⟨h,g,d,t,os⟩:=by
 have f:=tc_notTuple
 have L1:=looks_typeIn (M:=M) X hty
 have LC:Looks M h (isType (.ref S)) true:=by
  unfold clsIn at hcl
  split at hcl
  ·rename_i c' d' cd' sl' ho
   intro A' Q' E' s' k q
   unfold isType loadHead
   exact wpAny_bind (wpAny_loadPart (k _ _ (X _ _ ho)) (wpAny_pure q))
  ·cases hcl
 have L0:Looks M h (typeOf (.ref e)) (.ref C):=hcls ▸ (Looks.ld he).andThen .now
 have LB:=looks_subIn (M:=M) X hB
 have LS:=looks_subIn (M:=M) X hs
 unfold excMatches isInstance isExcClass
 repeat (first | with_reducible refine L1.at ?_ | with_reducible refine L0.at ?_ | with_reducible refine LC.at ?_ | with_reducible refine LB.at ?_ | with_reducible refine LS.at ?_ | wp_step)
 exact hq
end L2
namespace L2
open PySem PySem.Spec PyProof.Rows PySem.W Builtin Builtin.ObjectAttr
section
variable {prog:Program}{w:World}{A:Around}{E:Value->Shared->Prop}{K:Frag}{h:Heap}{g:Array GenState}{d:Drawn}{t:Nat}{os:OsState}{a C dx:Addr}{o:Obj}{vs:Array Value}{name:Str}{v:Value}{mA:Str->Option Value}
theorem sK {tk:Tok}{Q:Fin->Shared->Prop} (X:K.In h) (hcl:findIn K (.ref C) name=some none) (hx:h.get? a=some o) (hc:o.cls=.ref C) (hdat:o.data=.fields vs) (hd:o.dict=some dx) (hn:h.Ns1 dx mA) (hv:mA name=some v) {cd:ClassData} (hcc:clsIn K C=some cd) (hhd:cd.hasDict=true) (hq:Q (.done (.ret v)) ⟨h,g,d,t,os⟩) :
  wpAny (model prog w) A (Builtin.«object.__getattribute__» ⟨[.ref a,.str name tk],[]⟩) Q E ⟨h,g,d,t,os⟩:=by
 repeat (any_goals (first | assumption | (with_reducible refine wpAny_loadPart_at hx ?_;rw [hc]) | with_reducible refine (looks_findIn X hcl).at ?_ | wp_step))
 simp only [hdat]
 unfold instanceDict
 repeat (any_goals (first | assumption | (with_reducible refine wpAny_loadPart_at hx ?_;first | rw [hd] | rw [hc] | skip) | wp_step))
 rw [hc]
 refine wpAny_bind ((looks_clsIn X hcc).at ?_)
 rw [hhd]
 refine wpAny_pure (a:=some dx) ?_
 show wpAny _ _ (nsGet dx name) _ _ _
 refine wpAny_nsGet hn.ns ?_
 rw [hv]
 repeat (any_goals (first | assumption | wp_step))
noncomputable def pP (K:Frag) (C:Addr) (name:Str):Bool:=(clsIn K C).any (·.hasDict) && findIn K (.ref C) "__getattribute__"==some (some (.builtin "BaseException.__getattribute__")) && findIn K (.ref C) "__getattr__"==some none
 && findIn K (.ref C) name==some none && subIn K (.ref C) (.type "BaseException")==some true
theorem uA {expr:Bool}{n:Int}{tn:Tok}{Q:Value->Shared->Prop} (X:K.In h) (hk:pP K C name=true) (hx:h.get? a=some o) (hc:o.cls=.ref C) (hdat:o.data=.fields vs) (hd:o.dict=some dx) (hn:h.Ns1 dx mA) (hv:mA name=some (.int n tn))
  (hq:∀ t',Q (.int n tn) ⟨h,g,d,t',os⟩):wpAny (model prog w) A (getAttr (.ref a) name expr) Q E ⟨h,g,d,t,os⟩:=by
 unfold pP at hk
 simp only [Bool.and_eq_true,beq_iff_eq] at hk
 obtain⟨⟨⟨⟨k0,k1⟩,k2⟩,k3⟩,k4⟩:=hk
 obtain⟨cd,hcc,hhd⟩:=any_some k0
 have FB:=PySem.F.attrBase_ValueError
 have f3:=FB.ga.bind (.ref a)
 have hx0:(expr && onTheHeap (Value.builtin "BaseException.__getattribute__"))=false:=by cases expr<;>rfl
 have hx2:(Value.builtin "BaseException.__getattribute__"==Value.builtin "object.__getattribute__")=false:=by decide +kernel
 have hx1:(onTheHeap (Value.ref C) && Value.builtin "BaseException.__getattribute__"==Value.builtin "object.__getattribute__")=false:=by rw [hx2];rfl
 unfold getAttr
 repeat (any_goals (first | assumption | (with_reducible refine wpAny_loadPart_at hx ?_;rw [hc]) | with_reducible refine (looks_findIn X k1).at ?_ | with_reducible refine (looks_findIn X k2).at ?_ | wp_step))
 refine codeAny_call_builtin FB.ga.plain F.entry_bexc_ga (nW X k4 hx hc (sK X k3 hx hc hdat hd hn hv hcc hhd ?_))
 repeat (any_goals (first | assumption | wp_step))
 exact hq _
end
end L2
namespace L2
open PySem PySem.Spec PyProof.Rows PySem.W
abbrev Cx.pw (X:Cx) (pn:List (Addr×Obj)) (E:Value->Shared->Prop):Cx:={ X with pn:=pn,xe:=E }
abbrev Cx.hdl (X:Cx) (e:Addr) (oe:Obj):Cx:={ X with A:=X.A.mark (some (.ref e)),calm:=false,pn:=X.pn++[(e,oe)],xe:=λ_ _=>False }
theorem Cx.Ok.pw {X:Cx} (ok:X.Ok) (pn:List (Addr×Obj)) (E:Value->Shared->Prop):(X.pw pn E).Ok:=
 ⟨ok.mod,ok.kind,ok.glob,ok.blt,ok.above,ok.inj,ok.has,ok.cab,ok.hd,ok.frames,ok.stk,ok.exf,ok.bs,ok.bsz,ok.noex,ok.exfs,ok.funs,ok.frf⟩
theorem Cx.Ok.hdl {X:Cx} (ok:X.Ok) (e:Addr) (oe:Obj):(X.hdl e oe).Ok:=
 ⟨ok.mod,ok.kind,ok.glob,ok.blt,ok.above,ok.inj,ok.has,ok.cab,(λz=>nomatch z),ok.frames,ok.stk,ok.exf,ok.bs,ok.bsz,ok.noex,ok.exfs,ok.funs,ok.frf⟩
theorem Inv.pw {X:Cx}{pins:List (Addr×Obj)}{σ:St}{H:Hp}{s:Shared} (I:Inv X pins σ H s) (E:Value->Shared->Prop):Inv (X.pw (X.pn++pins) E) [] σ H s:=
 ⟨I.ok.pw _ E,I.os,I.bare,I.base,I.loc,I.cell,I.free,I.freeC,λp hp=>I.pin p (by simpa using hp),I.hok,I.len⟩
theorem Inv.unpw {X:Cx}{pins ps:List (Addr×Obj)}{σ:St}{H:Hp}{s:Shared}{E:Value->Shared->Prop} (I:Inv (X.pw (X.pn++pins) E) ps σ H s) (ok:X.Ok):Inv X pins σ H s:=
 ⟨ok,I.os,I.bare,I.base,I.loc,I.cell,I.free,I.freeC,λp hp=>I.pin p (List.mem_append_left _ hp),I.hok,I.len⟩
theorem Inv.hdl {X:Cx}{pins:List (Addr×Obj)}{σ:St}{H:Hp}{s:Shared} (I:Inv X pins σ H s) {e:Addr}{oe:Obj} (h1:s.heap.get? e=some oe) (h2:H e=none) (h3:e≠X.env.locals) (h4:e ∉ X.fs) (h5:∀ v,oe.data≠.cell v):Inv (X.hdl e oe) pins σ H s:=
 ⟨I.ok.hdl e oe,I.os,I.bare,I.base,I.loc,I.cell,I.free,I.freeC,λp hp=>by
  rcases List.mem_append.mp hp with hp | hp
  ·rcases List.mem_append.mp hp with hp | hp
   ·exact I.pin p (List.mem_append_left _ hp)
   ·have:=List.mem_singleton.mp hp
    subst this
    exact⟨h1,h2,h3,h4,h5⟩
  ·exact I.pin p (List.mem_append_right _ hp),I.hok,I.len⟩
theorem Inv.unhdl {X:Cx}{pins:List (Addr×Obj)}{σ:St}{H:Hp}{s:Shared}{e:Addr}{oe:Obj} (I:Inv (X.hdl e oe) pins σ H s) (ok:X.Ok):Inv X pins σ H s:=
 ⟨ok,I.os,I.bare,I.base,I.loc,I.cell,I.free,I.freeC,λp hp=>I.pin p (by
  rcases List.mem_append.mp hp with hp | hp
  ·exact List.mem_append_left _ (List.mem_append_left _ hp)
  ·exact List.mem_append_right _ hp),I.hok,I.len⟩
noncomputable def tD (K:Frag) (C S:Addr):Bool:=typeIn K (.ref S)==some (.type "type") && (clsIn K S).isSome && subIn K (.ref S) (.type "BaseException")==some true && subIn K (.ref C) (.ref S)==some true
end L2
namespace L2
open PySem PySem.Spec PyProof.Rows PySem.W
theorem sW:bootBuiltins "ValueError" = some (.type "ValueError"):=by decide +kernel
section
variable {X:Cx}{e C L T dx:Addr}{oe od:Obj}{vs:Array Value}{i j n:Nat}{b:Bool}{r:Int}
theorem jD {c:Value}{cv:V} (hcls:oe.cls=.ref C) (hdat:oe.data=.fields vs) (hk:kX X.K C=true) (rc:∀ u,aQ cv u->u=c) (he:kitOne X.K (.ref C) c=some b) :
  cJ (X.hdl e oe) (.builtin "isinstance") (λvs H Q=>vs=[.ref e,cv]/\Q (.bl b) H):=by
 rintro pins s σ H xs us Q I r ⟨rfl,q⟩
 cases r with
 | cons r1 r=>
  cases r with
  | cons r2 r=>
   cases r
   cases rc _ r2
   have e1:=r1
   cases (show _=Value.ref e from r1)
   have pn:=I.pin (e,oe) (List.mem_append_left _ (List.mem_append_right _ List.mem_cons_self))
   exact kia_one (qS hk) I.kIn ⟨oe,vs,pn.1,hcls,hdat⟩ he (by intro z;cases z) λtk=>⟨.bl b,H,I.tok tk,rfl,q⟩
theorem vG {p p':Pos}{te:TE} (hcls:oe.cls=.ref C) (hdat:oe.data=.fields vs) (hdx:oe.dict=some dx) (hk:pP X.K C "row" = true) (he:PE (X.hdl e oe) (.Name "e" p) te)
  (hb:attributeBase (.Name "e" p) "row" (X.hdl e oe).env (eval (.Name "e" p) (X.hdl e oe).env)=eval (.Name "e" p) (X.hdl e oe).env:=by rfl) :
  PE (X.hdl e oe) (.Attribute (.Name "e" p) "row" p') (λσ H Q=>te σ H λx H1=>x=.ref e/\H1 dx=some (.frz od (.xd [("row",.int r)]))/\Q (.int r) H1):=by
 intro pins s σ H Q I h
 refine sV hb (thn (he pins s σ H _ I h) λu s1 ⟨x,H1,I1,rx,ex,ed,q⟩=>?_)
 subst ex
 obtain rfl:u=Value.ref e:=rx
 have pn:=I1.pin (e,oe) (List.mem_append_left _ (List.mem_append_right _ List.mem_cons_self))
 obtain⟨hod,mA,hns,hlk⟩:=I1.hok dx _ ed
 have h1:qw (some (V.int r)) (mA "row"):=by
  have:=hlk "row"
  rwa [List.lookup_cons_self] at this
 cases hm:mA "row" with
 | none=>rw [hm] at h1;exact False.elim h1
 | some u=>
  rw [hm] at h1
  obtain⟨t,rfl⟩:=(show ∃ t,u=Value.int r t from h1)
  obtain⟨h,g,d,tk,os⟩:=s1
  exact uA I1.kIn hk pn.1 hcls hdat hdx hns hm λt'=>⟨.int r,H1,I1.tok t',⟨t,rfl⟩,q⟩
theorem qi {q1 q2 q3 p1 p2 p3 p4 p6 p7 p8 p11 p12 p13 p14 p15 p16 p17 p18 p19 p20 p21 p22 p23 p24 p25 p26 p27 p28 p29 p30 p31 p32:Pos}{k1} (hcls:oe.cls=.ref C) (hdat:oe.data=.fields vs) (hdx:oe.dict=some dx) (hN:X.N.Nodup)
  (hi:X.N[i]?=some ("_law_found" : Str)) (hn:X.N[n]?=some ("e" : Str)) (hj:X.N[j]?=some ("_law_other" : Str)) (li:X.env.scope.names.lookup ("_law_found" : Str)=some .local) (ln:X.env.scope.names.lookup ("e" : Str)=some .local) (lj:X.env.scope.names.lookup ("_law_other" : Str)=some .local) (hin:i≠n) (hjn:j≠n) (hij:i≠j)
  (hgI:Gl X "isinstance") (hmI:X.mg "isinstance" = none) (hgC:Gl X "OnNought") (hmC:X.mg "OnNought" = some (.ref C)) (hgL:Gl X "NoLine") (hmL:X.mg "NoLine" = some (.ref L)) (hgT:Gl X "NoText") (hmT:X.mg "NoText" = some (.ref T))
  (hgV:Gl X "ValueError") (hmV:X.mg "ValueError" = none) (hk:kX X.K C=true) (hkR:pP X.K C "row" = true) (hkT:kitOne X.K (.ref C) (.ref T)=some false) (hkL:kitOne X.K (.ref C) (.ref L)=some false) (hkV:kitOne X.K (.ref C) (.type "ValueError")=some true)
  (hs1:swapsWith (.Constant (.str "another one") k1 q2) (some (.Name "_law_found" q1)) q3.line X.env=pure false) (hs2:∀ ex,swapsWith (.BoolOp .Or ex p20) (some (.Name "_law_other" p19)) p21.line X.env=pure false) (hs3:∀ ex,swapsWith (.List ex p29) (some (.Name "_law_found" p30)) p31.line X.env=pure false)
  (hb:attributeBase (.Name "e" p27) "row" X.env (eval (.Name "e" p27) X.env)=eval (.Name "e" p27) X.env) :
  PSs (X.hdl e oe) [.Assign [.Name "_law_found" q1] (.Constant (.str "another one") k1 q2) q3,
   .Assign [.Name "_law_other" p19] (.BoolOp .Or [.Call (.Name "isinstance" p1) [.Name "e" p2,.Name "NoText" p3] [] p4,.Call (.Name "isinstance" p6) [.Name "e" p7,.Name "NoLine" p8] [] p11,.UnaryOp .Not (.Call (.Name "isinstance" p12) [.Name "e" p13,.Name "ValueError" p14] [] p15) p16] p20) p21,
   .If (.BoolOp .And [.Call (.Name "isinstance" p17) [.Name "e" p18,.Name "OnNought" p22] [] p23,.UnaryOp .Not (.Name "_law_other" p24) p25] p26) [.Assign [.Name "_law_found" p30] (.List [.Attribute (.Name "e" p27) "row" p28] p29) p31] [] p32]
   (λD σ H=>σ[n]?=some (some (.ref e))/\i < σ.length/\j < σ.length/\H dx=some (.frz od (.xd [("row",.int r)]))/\
     ∀ a,H a=none->D.nx (((σ.set i (some (.str "another one"))).set j (some (.bl false))).set i (some (.ref a))) (upd H a (.lst [.int r]))):=by
 have kC:kitOne X.K (.ref C) (.ref C)=some true:=by unfold kitOne;rw [if_pos (by simp)]
 have ev:∀ {p:Pos},PE (X.hdl e oe) (.Name "e" p) (qp n):=λ{p}=>kB hn (.inl ln)
 have cC:=jD (X:=X) (e:=e) (oe:=oe) (b:=true) (cv:=.ref C) hcls hdat hk (λu r=>r) kC
 have cT:=jD (X:=X) (e:=e) (oe:=oe) (b:=false) (cv:=.ref T) hcls hdat hk (λu r=>r) hkT
 have cL:=jD (X:=X) (e:=e) (oe:=oe) (b:=false) (cv:=.ref L) hcls hdat hk (λu r=>r) hkL
 have cV:=jD (X:=X) (e:=e) (oe:=oe) (b:=true) (cv:=.ty "ValueError") hcls hdat hk (λu r=>r) hkV
 have aT:PE (X.hdl e oe) (.Call (.Name "isinstance" p1) [.Name "e" p2,.Name "NoText" p3] [] p4) _:=fA cT hgI hmI PyProof.Rows.boot_isinstance (di ev (di (ms (v:=.ref T) hgT hmT rfl) ji))
 have aL:PE (X.hdl e oe) (.Call (.Name "isinstance" p6) [.Name "e" p7,.Name "NoLine" p8] [] p11) _:=fA cL hgI hmI PyProof.Rows.boot_isinstance (di ev (di (ms (v:=.ref L) hgL hmL rfl) ji))
 have aV:PE (X.hdl e oe) (.Call (.Name "isinstance" p12) [.Name "e" p13,.Name "ValueError" p14] [] p15) _:=fA cV hgI hmI PyProof.Rows.boot_isinstance (di ev (di (pp (v:=.ty "ValueError") hgV hmV sW rfl) ji))
 have aC:PT (X.hdl e oe) (.Call (.Name "isinstance" p17) [.Name "e" p18,.Name "OnNought" p22] [] p23) _:=rO (fA cC hgI hmI PyProof.Rows.boot_isinstance (di ev (di (ms (v:=.ref C) hgC hmC rfl) ji)))
 have ov:PT (X.hdl e oe) (.UnaryOp .Not (.Name "_law_other" p24) p25) _:=rM (rO (kB hj (.inl lj)))
 have aR:=vG (X:=X) (e:=e) (oe:=oe) (od:=od) (dx:=dx) (r:=r) (p':=p28) hcls hdat hdx hkR (ev (p:=p27)) hb
 refine (dB (kD (X:=X.hdl e oe) hN hi (.inl li) rF hs1 (.inr li)) (dB (kD (X:=X.hdl e oe) hN hj (.inl lj) (uK aT (uK aL (rE (rC aV)))) (hs2 _) (.inr lj)) (iK (nD (PW.pt (vQ aC (ue ov))) (iK (kD (X:=X.hdl e oe) hN hi (.inl li) (rB (di aR ji)) (hs3 _) (.inr li))) pu)))).imp ?_
 rintro D σ H ⟨hσ,li',lj',hH,q⟩
 have n1:∀ v,(σ.set i v)[n]?=some (some (.ref e)):=λv=>by rw [List.getElem?_set_ne hin];exact hσ
 have n2:∀ v w,((σ.set i v).set j w)[n]?=some (some (.ref e)):=λv w=>by rw [List.getElem?_set_ne hjn];exact n1 v
 refine⟨_,n1 _,⟨rfl,false,rfl,?_⟩⟩
 refine oq ⟨_,n1 _,⟨rfl,false,rfl,?_⟩⟩
 refine oq ⟨_,n1 _,⟨rfl,true,rfl,?_⟩⟩
 refine⟨_,n2 _ _,⟨rfl,true,rfl,?_⟩⟩
 refine ot ⟨_,by rw [List.getElem?_set_self (by rw [List.length_set];exact lj')];rfl,false,rfl,?_⟩
 refine ot ⟨_,n2 _ _,rfl,hH,by show 1<=sizeLine;rw [sizeLine_eq];decide,λa ha=>?_⟩
 exact q a ha
end
end L2
namespace L2
open PySem PySem.Spec PyProof.Rows PySem.W
noncomputable def tH:Sf
 | _,_=>none
theorem l7 {K:Frag}{X:Cx}{s:Stmt}:IS K X s tH:=⟨λenv st r hr=>by cases hr⟩
open Classical in
noncomputable def lE (xb:Int->Rf) (env:Ev) (st:Sto):Option (Int×Sto):=if h:∃ p:Int×Sto,xb p.1 env st=some p.2 then some (Classical.choose h) else none
theorem nJ {xb:Int->Rf}{env:Ev}{st:Sto}{p:Int×Sto} (h:lE xb env st=some p):xb p.1 env st=some p.2:=by
 unfold lE at h
 split at h
 ·rename_i q
  cases h
  exact Classical.choose_spec q
 ·cases h
noncomputable def j7 (i j:Nat) (gb:Sf) (xb:Int->Rf):Sf
 | env,st=>match gb env st with
 | some r=>some r
 | none=>(lE xb env st).map λp=>.nx (((List.replicate env.length none).set j (some (.d (.bl false)))).set i (some (.d (.lst [.int p.1])))) p.2
section
variable {X:Cx}{pins:List (Addr×Obj)}{σ:St}{H:Hp}{s:Shared}{h':Heap}
theorem Inv.goesK {m:Str->Option Value}{n:Str}{vv:Option Value}{i:Nat}{t':Nat} (I:Inv X pins σ H s) (hN:X.N.Nodup) (hi:X.N[i]?=some n) (hlk:∀ (k:Nat) (x:Str) (v:V),X.N[k]?=some x->σ[k]?=some (some v)->Vis X.env.scope x->∃ u,aQ v u/\wl X.env s.heap m x u)
  (hn:h'.Ns X.env.locals (λx=>if x=n then vv else m x)) (hsb:Heap.SameBut X.env.locals s.heap h'):Inv X pins (σ.set i none) H { s with heap:=h',toks:=t' }:=by
 have G:=I.goes (t':=t') hn hsb
 refine⟨G.ok,G.os,G.bare,G.base,⟨_,hn,λk x v e1 e2 vis=>?_⟩,G.cell,G.free,G.freeC,G.pin,G.hok,by rw [List.length_set];exact I.len⟩
 have hk:k≠i:=λz=>by
  subst z
  have:=(List.getElem?_eq_some_iff.mp e2).1
  rw [List.getElem?_set_self (by simpa using this)] at e2
  cases e2
 rw [List.getElem?_set_ne (Ne.symm hk)] at e2
 obtain⟨u,ru,lk⟩:=hlk k x v e1 e2 vis
 have hx:x≠n:=λz=>hk ((List.getElem?_inj (List.getElem?_eq_some_iff.mp e1).1 hN).mp (e1.trans ((congrArg some z).trans hi.symm)))
 refine⟨u,ru,?_⟩
 rcases lk with⟨a,b⟩ | ⟨a,c,hc,hcell⟩
 ·exact .inl ⟨a,by show (if x=n then vv else m x)=some u;rw [if_neg hx];exact b⟩
 ·refine .inr ⟨a,c,hc,?_⟩
  obtain⟨o,ho,hd⟩:=hcell
  exact⟨o,(hsb.2 c (I.cne x c hc)).trans ho,hd⟩
end
section
variable {K:Frag}{X:Cx}{C S:Addr}{x n:Str}{i i1 j1:Nat}{np hpos pos:Pos}{body suite:List Stmt}{b₀:Stmt}{gb:Sf}{xb:Int->Rf}
theorem tM (hst:X.stack=X.env::X.outer) (hN:X.N.Nodup) (hi:X.N[i]?=some n) (hi1:i1 < X.N.length) (hj1:j1 < X.N.length) (hin:i1≠i) (hjn:j1≠i) (hij:i1≠j1) (hl:X.env.scope.names.lookup n=some .local) (hb:ISs K X.nox body gb) (hx:∀ r pn E,RSs K (X.pw pn E) (.ref C,r) body (xb r))
  (hg:Gl X x) (hm:X.mg x=some (.ref S)) (hk:tD X.K C S=true) (hh:∀ e oe vs dx od r,oe.cls=.ref C->oe.data=.fields vs->oe.dict=some dx->PSs (X.hdl e oe) (b₀::suite) (λD σ H=>σ[i]?=some (some (.ref e))/\i1 < σ.length/\j1 < σ.length/\H dx=some (.frz od (.xd [("row",.int r)]))/\∀ a,H a=none->D.nx (((σ.set i1 (some (.str "another one"))).set j1 (some (.bl false))).set i1 (some (.ref a))) (upd H a (.lst [.int r]))))
  (hd:(x==("__debug__" : Str))=false:=by decide) :
  IS K X (.Try body [.ExceptHandler (some (.Name x np)) (some n) (b₀::suite) hpos] [] [] pos) (j7 i1 j1 gb xb):=by
 refine⟨λenv st r hr=>?_⟩
 simp only [j7] at hr
 rintro pins s σ H D I ⟨φ,hE,hS,q⟩
 refine wpAny_Try_except ?_
 cases hgb:gb env st with
 | some r0=>
  rw [hgb] at hr
  cases hr
  refine wpAny_mono (hb.run _ _ _ hgb pins s σ H D (I.wish _) ⟨φ,hE,hS,q⟩) (λf s1 z=>?_) λ_ _ z=>False.elim z
  cases f with
  | next=>exact wpAny_execs_nil (SP.unwish (f:=.next) z)
  | brk=>exact SP.unwish (f:=.brk) z
  | cont=>exact SP.unwish (f:=.cont) z
  | ret u=>exact SP.unwish (f:=.ret u) z
 | none=>
  rw [hgb] at hr
  obtain⟨⟨rr,st'⟩,hro,rfl⟩:=Option.map_eq_some_iff.mp hr
  have hxb:=nJ hro
  dsimp only at hxb q
  generalize hEE:(λ(u:Value) (s1:Shared)=>wpAny (model X.prog X.w) X.A (noteFrame u X.env) (λ_ s₂=>wpAny (model X.prog X.w) X.A (setFlight u none) (λ_ s₃=>wpAny (model X.prog X.w) X.A (handleBy u X.env [.ExceptHandler (some (.Name x np)) (some n) (b₀::suite) hpos]) (SP X pins D) X.xe s₃) X.xe s₂) X.xe s1)=EE
  refine wpAny_mono ((hx rr (X.pn++pins) EE).run _ _ _ hxb [] s σ H { nx:=λ_ _=>False,rt:=λ_ _=>False } (I.pw EE) ⟨φ,hE,hS,λH' φ' f' S'=>?_⟩) (λf s1 z=>?_) λu s1 z=>?_
  ·intro e pins' σ' s1 I1 x1 pl1
   show EE (.ref e) s1
   rw [<-hEE]
   have IX:=I1.unpw I.ok
   have hfr:X.env.frame=some X.env.locals:=by
    rcases I.ok.stk with z | z
    ·rw [hst] at z
     exact absurd (congrArg List.length z) (by rw [List.length_cons];exact Nat.succ_ne_self _)
    ·exact z.2
   have fr9:X.A.frames=some (X.env::X.outer):=by rw [I.ok.frames,hst]
   have ff9:s1.heap.FunFrames X.base (X.env::X.outer):=by have z:=IX.stack;rwa [hst] at z
   have hNN:∀ b,sO (X.pw (X.pn++pins) EE) b->(X.s₀.heap.get? b=none\/b ∈ X.ex)/\∀ p ∈ X.pn++pins,p.1≠b:=λb z=>z
   refine pi (base:=X.base) fr9 ff9 hfr (λa ha=>I1.new ha) (IX.hok.fresh (Nat.le_refl _)) x1 λh2 c2 x2=>?_
   have pl2:=pl1.chg c2
   rw [<-hst] at c2
   have I2:=IX.chg c2 hNN
   refine iY (s:={ s1 with heap:=h2 }) (fs:=frs X.stack) (λb hb=>(I2.stack.mem hb).2) x2 λh3 c3 x3=>?_
   have pl3:=pl2.chg c3
   have I3:Inv X pins σ' H' { s1 with heap:=h3 }:=I2.chg c3 hNN
   unfold tD at hk
   simp only [Bool.and_eq_true,beq_iff_eq] at hk
   obtain⟨⟨⟨k1,k2⟩,k3⟩,k4⟩:=hk
   have apart:∀ {h:Heap}{oe:Obj}{vs:Array Value},Inv X pins σ' H' { s1 with heap:=h }->h.get? e=some oe->oe.data=.fields vs->e≠X.env.locals/\e ∉ X.fs:=λ{h oe vs} J he hd'=>by
    constructor
    ·rintro rfl
     obtain⟨m,⟨o,es,ep,ho,hdd,_⟩,_⟩:=J.loc
     have ho':h.get? X.env.locals=some o:=ho
     rw [he] at ho';cases ho'
     rw [hdd] at hd';cases hd'
    ·intro z
     obtain⟨_,o,ho,hnf⟩:=J.funs.mem z
     have ho':h.get? e=some o:=ho
     rw [he] at ho';cases ho'
     exact hnf vs hd'
   have x3':=x3
   obtain⟨nE,tE,oe,vs,T,oT,ts,fl,he,hc,hdt,hrest⟩:=x3'
   have ap:=apart I3 he hdt
   have I3h:Inv (X.hdl e oe) pins σ' H' { s1 with heap:=h3 }:=I3.hdl he tE ap.1 ap.2 (by intro v z;rw [hdt] at z;cases z)
   refine wpAny_handleBy_cons (codeAny_handlers_test (jG (X:=X.hdl e oe) I3h hg hm ?_ hd)) (by intro z;cases z)
   have KX:X.K.In h3:=I3.kIn
   refine mU (K:=X.K) KX he hc k1 k2 k3 k4 ?_
   show codeAny (model X.prog X.w) (X.A.mark (some (.ref e))) (.handlers (.ref e) [.ExceptHandler none (some n) (b₀::suite) hpos] X.env) _ _
   refine codeAny_handlers_suite_as ?_
   refine iY (s:={ s1 with heap:=h3 }) (fs:=frs X.stack) (λb hb=>(I3.stack.mem hb).2) x3 λh4 c4 x4=>?_
   have pl4:=pl3.chg c4
   have I4:Inv X pins σ' H' { s1 with heap:=h4 }:=I3.chg c4 hNN
   obtain⟨nE4,tE4,oe4,vs4,T4,oT4,ts4,fl4,he4,hc4,hdt4,hrest4⟩:=x4
   have ap4:=apart I4 he4 hdt4
   have I4h:Inv (X.hdl e oe4) pins σ' H' { s1 with heap:=h4 }:=I4.hdl he4 tE4 ap4.1 ap4.2 (by intro v z;rw [hdt4] at z;cases z)
   refine iO (X:=X.hdl e oe4) (v:=.ref e) I4h hN hi (.inl hl) rfl (λs5 I5=>?_) (.inr hl)
   have hil:i < σ'.length:=by rw [I4.len];exact (List.getElem?_eq_some_iff.mp hi).1
   obtain⟨oe',dx,od,g1,g2,g3⟩:=pl4
   have:oe'=oe4:=Option.some.inj (g1.symm.trans he4)
   subst this
   refine wpAny_mono (hh e oe' vs4 dx od rr hc4 hdt4 g2 pins s5 _ H' { nx:=λσ6 H6=>∃ a,H' a=none/\σ6=((((σ'.set i (some (.ref e))).set i1 (some (.str "another one"))).set j1 (some (.bl false))).set i1 (some (.ref a)))/\H6=upd H' a (.lst [.int rr]),rt:=λ_ _=>False } I5 ⟨by rw [List.getElem?_set_self hil],by rw [List.length_set,I4.len];exact hi1,by rw [List.length_set,I4.len];exact hj1,g3,λa ha=>⟨a,ha,rfl,rfl⟩⟩) (λf s6 z=>?_) λ_ _ z=>False.elim z
   cases f with
   | next=>
    obtain⟨σ6,H6,I6,a,ha,rfl,rfl⟩:=z
    have I6':=I6.unhdl I.ok
    obtain⟨m,hn,hlk⟩:=id I6'.loc
    refine wpAny_nameGoes_keeps hl hn (by rw [I.ok.kind];rfl) λh7 m7 hn7 hs7=>?_
    have I7:=I6'.goesK (t':=s6.toks+1) hN hi hlk hn7 hs7
    have sm:=aZ.new ha (.lst [V.int rr])
    refine⟨_,_,I7,q _ _ φ' (f'.trans (Fw.same sm)) ⟨?_,λk w e=>?_⟩ (S'.same sm)⟩
    ·have l1:=hE.len
     simp only [List.length_set,List.length_replicate,I4.len]
     rw [l1,I.len]
    ·have lk:=(List.getElem?_eq_some_iff.mp e).1
     simp only [List.length_set,List.length_replicate] at lk
     have l1:=hE.len
     have L1:i1 < σ'.length:=by rw [I4.len];exact hi1
     have L2':j1 < σ'.length:=by rw [I4.len];exact hj1
     by_cases k1:k=i1
     ·subst k1
      rw [List.getElem?_set_self (by simp only [List.length_set,List.length_replicate];exact lk)] at e
      cases e
      refine⟨.ref a,?_,?_⟩
      ·rw [List.getElem?_set_ne (Ne.symm hin),List.getElem?_set_self (by simp only [List.length_set];exact L1)]
      ·exact⟨a,[.int rr],rfl,S'.nin ha,.inl ay,_,_,rfl,rfl,rfl⟩
     ·rw [List.getElem?_set_ne (Ne.symm k1)] at e
      by_cases k2:k=j1
      ·subst k2
       rw [List.getElem?_set_self (by simp only [List.length_replicate];exact lk)] at e
       cases e
       refine⟨.bl false,?_,rfl⟩
       rw [List.getElem?_set_ne (Ne.symm hjn),List.getElem?_set_ne hij,List.getElem?_set_self (by simp only [List.length_set];exact L2')]
      ·rw [List.getElem?_set_ne (Ne.symm k2),List.getElem?_replicate] at e
       split at e<;>cases e
   | brk=>obtain⟨σ6,H6,I6,z⟩:=z;exact False.elim z
   | cont=>obtain⟨σ6,H6,I6,z⟩:=z;exact False.elim z
   | ret u=>obtain⟨v6,σ6,H6,I6,r6,z⟩:=z;exact False.elim z
  ·cases f with
   | next=>obtain⟨σ6,H6,I6,z⟩:=z;exact z.elim
   | brk=>obtain⟨σ6,H6,I6,z⟩:=z;exact False.elim z
   | cont=>obtain⟨σ6,H6,I6,z⟩:=z;exact False.elim z
   | ret u=>obtain⟨v6,σ6,H6,I6,r6,z⟩:=z;exact z.elim
  ·exact z
end
end L2
noncomputable section
namespace Own
open PySem L2
noncomputable def ft:Sf:=(bt (.nm 1) (iOp dL (iV 1) (iC (.int 2))))
noncomputable def cQ:Sf:=(av (bt (.nm 1) (iC (.int 1))) (av (i4 (de (ae (iV 0) ak)) (.nm 2) ft) (bf (iV 1))))
noncomputable def cb:Fn:=bK 3 1 cQ
noncomputable def jA:Sf:=(bf (iOp iu (iOp jX (iV 0) (ax cb (ae (iV 1) ak))) (iC (.int 2))))
noncomputable def mj:Fn:=bK 2 2 jA
noncomputable def dM:Ef:=(ax mj (ae (iV 1) (ae (iV 0) ak)))
noncomputable def cH:Sf:=(av (bt (.nm 3) (iCB lU (ae (aD (iLc 1 [2] (bq (iV 1)) (.nm 0) cR dM)) ak))) (av (cm (bP dEq (iV 0) (iC (.str "both"))) (bf (iB (bP dEq (iV 3) (iCB ir (ae (iV 1) ak))) (iC (.int 1)) (iC (.int 0)))) bT) (bf (iB (bP dEq (iOp iu (iV 3) (iC (.int 2))) (iC (.int 1))) (iUn gm (iC (.int 1))) (iC (.int 1))))))
noncomputable def ij:Fn:=bK 4 3 cH
noncomputable def fH:Ef:=(iOp dL (iV 1) (ax ij (ae (iOp dIx (iV 2) (iC (.int 0))) (ae (iV 0) (ae (iV 3) ak)))))
noncomputable def fG:Sf:=(bf (iCB lU (ae (aD (iLc 2 [0,1] (bq (iOp dIx (iV 0) (iC (.int 1)))) (.tp [0,1]) cR fH)) ak)))
noncomputable def fQ:Fn:=bK 2 2 fG
noncomputable def dQ:Sf:=(av (cm (bP dEq (iV 0) (iC (.int 0))) (bf (iC (.int 0))) bT) (bf (iB (bP dGt (iV 0) (iC (.int 0))) (iC (.int 1)) (iUn gm (iC (.int 1))))))
noncomputable def dR:Fn:=bK 1 1 dQ
noncomputable def iw:Ef:=(ax dR (ae (ax fQ (ae (iV 1) (ae (iV 0) ak))) ak))
noncomputable def fF:Sf:=(bf (iCB lV (ae (aD (iLc 1 [0] (de (ae (ax cb (ae (iV 1) ak)) ak)) (.nm 0) cR iw)) ak)))
noncomputable def bJ:Fn:=bK 2 2 fF
noncomputable def d3:Ef:=(iV 0)
noncomputable def eA:Tf:=(bP dEq (iV 1) (iC (.int 0)))
noncomputable def dJ:Sf:=(bf (iCB lV (ae (aD (iLc 2 [] (d5 (ae (ax bJ (ae (iV 0) (ae (iV 1) ak))) ak)) (.tp [0,1]) eA d3)) ak)))
noncomputable def fP:Fn:=bK 2 2 dJ
noncomputable def gr:Ef:=(iB (bP dGt (iV 0) (iC (.int 0))) (iC (.int 1)) (iC (.int 0)))
noncomputable def bi:Sf:=(cm (bP dEq (iV 4) (iC (.int 0))) tH bT)
noncomputable def cK:Sf:=(av (bt (.nm 2) (ax bJ (ae (iV 0) (ae (iV 1) ak)))) (av (i4 (d5 (ae (iV 2) ak)) (.tp [3,4]) bi) (bf (iCB lV (ae (aD (iLc 1 [] (bq (iV 2)) (.nm 0) cR gr)) ak)))))
noncomputable def fu:Fn:=bK 5 2 cK
noncomputable def ck:Sf:=(cm (bP dEq (iV 4) (iC (.int 0))) tH bT)
noncomputable def bo (r:Int):Rf:=(xIf (bP dEq (iV 4) (iC (.int 0))) (we r (ae (iV 3) ak)) xNo)
noncomputable def iR:Sf:=(cm (bP dEq (iV 4) (iC (.int 0))) tH bT)
noncomputable def dh (r:Int):Rf:=(sI xNo (bt (.nm 2) (ax bJ (ae (iV 0) (ae (iV 1) ak)))) (sI (sH (d5 (ae (iV 2) ak)) (.tp [3,4]) ck (bo r)) (i4 (d5 (ae (iV 2) ak)) (.tp [3,4]) iR) xNo))
noncomputable def fE (r:Int):Rn:=ui 5 2 (dh r)
noncomputable def eF:Sf:=(av (bt (.nm 2) (iC (.int 0))) (av (cm (bP dLt (iV 1) (iCB ir (ae (iV 0) ak))) (bt (.nm 2) (iOp dIx (iV 0) (iV 1))) bT) (bf (oi (dw (ae (iOp dIx (aD (dw (ae (iC (.int 0)) (ae (iV 2) ak)))) (iCB iq (ae (iOp dGe (iV 2) (iOp kW (iC (.int 10)) (iC (.int 18)))) ak))) (ae (iOp dr (iOp dr (iOp iu (iV 2) (iC (.int 2305843009213693951))) (iOp dL (iC (.int 7919)) (iV 1))) (iC (.int 3))) (ae (iC (.int 0)) ak))))))))
noncomputable def gw:Fn:=bK 3 2 eF
noncomputable def lc:Sf:=(av (bt (.nm 5) (iOp dr (iOp dr (iOp iu (iV 4) (iC (.int 1000003))) (iOp dL (iV 3) (iC (.int 99991)))) (iC (.int 11)))) (av (bt (.nm 4) (iOp iu (iOp dL (iV 4) (iV 5)) (iC (.int 2305843009213693907)))) (bf (iOp iu (iOp dr (iOp jX (iV 4) (iC (.int 97))) (iOp jX (iV 4) (iC (.int 1000033)))) (iV 1)))))
noncomputable def dn:Sf:=(av (cm (bP dGt (iOp dIx (iV 0) (iC (.int 0))) (iC (.int 0))) (av (bt (.nm 2) (iOp iu (iOp dIx (iV 0) (iC (.int 0))) (iV 1))) (av (i5 (iV 0) (iC (.int 0)) (iOp jX (iOp dIx (iV 0) (iC (.int 0))) (iV 1))) (bf (iV 2)))) bT) (av (i5 (iV 0) (iC (.int 2)) (iOp dr (iOp dIx (iV 0) (iC (.int 2))) (iC (.int 1)))) (av (bt (.nm 3) (iOp dIx (iV 0) (iC (.int 2)))) (av (bt (.nm 4) (iOp iu (iOp dL (iOp dIx (iV 0) (iC (.int 1))) (iOp dr (iOp dr (iC (.int 48271)) (iOp dL (iOp dL (iC (.int 2)) (iV 3)) (iV 3))) (iOp dL (iC (.int 65537)) (iV 3)))) (iC (.int 2305843009213693921)))) lc))))
noncomputable def bn:Fn:=bK 6 2 dn
noncomputable def eG:Sf:=(bf (iOp dIx (iV 1) (ax bn (ae (iV 0) (ae (iCB ir (ae (iV 1) ak)) ak)))))
noncomputable def eR:Fn:=bK 2 2 eG
noncomputable def fh (self:Fn):Ef:=(ax self (ae (iV 0) (ae (iV 1) ak)))
noncomputable def bZ (self:Fn):Sf:=(av (cm (h8 iP (iCB jx (ae (iV 1) (ae (iC (.ty "tuple")) ak)))) (av (cm (kY (fq (h8 iP (iCB jx (ae (iV 0) (ae (iC (.ty "tuple")) ak))))) (bP dNe (iCB ir (ae (iV 0) ak)) (iCB ir (ae (iV 1) ak)))) (bf (iC (.bl false))) bT) (bf (iCB qE (ae (aD (iLc 2 [] (j8 (ae (iV 0) (ae (iV 1) ak))) (.tp [0,1]) cR (fh self))) ak)))) bT) (av (cm (h8 iP (iCB jx (ae (iV 1) (ae (iC (.ty "str")) ak)))) (bf (fo (iCB jx (ae (iV 0) (ae (iC (.ty "str")) ak))) (iOp dEq (iV 0) (iV 1)))) bT) (bf (fo (iCB jx (ae (iV 0) (ae (iC (.ty "int")) ak))) (fo (ly (iCB jx (ae (iV 0) (ae (iC (.ty "bool")) ak)))) (iOp dEq (iV 0) (iV 1)))))))
noncomputable def aG:Nat->Fn
 | 0=>λ_ _=>none
 | n+1=>bK 2 2 (bZ (aG n))
noncomputable def dG:Sf:=(av (bt (.nm 5) (iOp iu (iOp sZ (iV 2) (iV 4)) (iC (.int 2)))) (bt (.nm 3) (iOp dL (iV 3) (iOp dIx (aD (dw (ae (iOp oh (iC (.int 1)) (iOp dL (iC (.int 2)) (iV 5))) (ae (iV 5) ak)))) (iCB iq (ae (iOp dEq (iV 0) (iC (.str "both"))) ak))))))
noncomputable def bQ:Sf:=(av (bt (.nm 3) (iC (.int 1))) (av (i4 (bq (iV 1)) (.nm 4) dG) (bf (iV 3))))
noncomputable def cX:Fn:=bK 6 3 bQ
noncomputable def d0:Ef:=(iOp dL (iV 1) (ax cX (ae (iOp dIx (iV 2) (iC (.int 0))) (ae (iV 0) (ae (iV 3) ak)))))
noncomputable def dI:Sf:=(bf (iCB lU (ae (aD (iLc 2 [0,1] (bq (iOp dIx (iV 0) (iC (.int 1)))) (.tp [0,1]) cR d0)) ak)))
noncomputable def dO:Fn:=bK 2 2 dI
noncomputable def dX:Ef:=(iOp dr (iV 0) (cu (ae (iV 1) ak)))
noncomputable def d9:Sf:=(bt (.nm 1) (iOp dr (iV 1) (aD (iLc 1 [2] (bq (iV 1)) (.nm 0) cR dX))))
noncomputable def cf:Sf:=(av (bt (.nm 1) (aD (dw (ae (cu ak) ak)))) (av (i4 (de (ae (iV 0) ak)) (.nm 2) d9) (bf (aD (iCL kn (ae (iV 1) ak))))))
noncomputable def df:Fn:=bK 3 1 cf
noncomputable def cq:Sf:=(av (cm (bP dEq (ax bn (ae (iV 0) (ae (iC (.int 8)) ak))) (iC (.int 0))) (bf (iOp dL (iOp dIx (aD (dw (ae (iC (.int 1)) (ae (iUn gm (iC (.int 1))) ak)))) (ax bn (ae (iV 0) (ae (iC (.int 2)) ak)))) (iOp oh (iOp kW (iC (.int 10)) (iC (.int 18))) (ax bn (ae (iV 0) (ae (iC (.int 1000)) ak)))))) bT) (bf (ax eR (ae (iV 0) (ae (aD (dw (ae (iC (.int 1)) (ae (iUn gm (iC (.int 1))) (ae (iC (.int 2)) (ae (iUn gm (iC (.int 2))) (ae (iC (.int 3)) (ae (iUn gm (iC (.int 3))) ak)))))))) ak)))))
noncomputable def cy:Fn:=bK 1 1 cq
noncomputable def fg:Ef:=(cu (ae (iV 0) (ae (ax cy (ae (iV 1) ak)) ak)))
noncomputable def gQ:Ef:=(iV 0)
noncomputable def dm:Tf:=(bP dEq (ax bn (ae (iV 1) (ae (iV 2) ak))) (iC (.int 0)))
noncomputable def eI:Sf:=(av (bt (.nm 3) (iOp dr (iC (.int 1)) (ax bn (ae (iV 0) (ae (iC (.int 5)) ak))))) (av (bt (.nm 4) (aD (iLc 1 [0,3] (bq (ax df (ae (iV 2) ak))) (.nm 0) dm gQ))) (bf (cu (ae (iV 1) (ae (iCB lV (ae (aD (iLc 1 [0] (bq (iV 4)) (.nm 0) cR fg)) ak)) ak))))))
noncomputable def eS:Fn:=bK 5 3 eI
noncomputable def bR:Ef:=(iOp dIx (iV 0) (iUn gm (iC (.int 1))))
noncomputable def bA:Tf:=(bP dNe (iV 0) (cu ak))
noncomputable def cD:Sf:=(av (bt (.nm 2) (iCB dMx (ae (iOp dr (aD (dw (ae (iUn gm (iC (.int 1))) ak))) (aD (iLc 2 [] (bq (iOp dIx (iV 1) (iC (.int 1)))) (.tp [0,1]) bA bR))) ak))) (bf (iOp dr (iOp dr (iV 2) (iC (.int 1))) (ax bn (ae (iV 0) (ae (iOp oh (iC (.int 6)) (iV 2)) ak))))))
noncomputable def cF:Fn:=bK 3 2 cD
noncomputable def cp:Sf:=(av (bt (.nm 2) (iC .non)) (av (j7 2 4 (bt (.nm 2) (ax fu (ae (iV 0) (ae (iV 1) ak)))) (λr=>lJ (fE r) (ae (iV 0) (ae (iV 1) ak)))) (bf (iV 2))))
noncomputable def bj:Fn:=bK 5 2 cp
noncomputable def dY:Ef:=(iCB iq (ae (iOp dGt (iV 0) (iC (.int 0))) ak))
noncomputable def gz:Sf:=(av (bt (.nm 5) (ax bj (ae (iV 0) (ae (iV 1) ak)))) (av (cm (bP dNe (iV 4) (cu ak)) (bf (fo (iCB jx (ae (iV 5) (ae (iC (.ty "list")) ak))) (ax (aG 5) (ae (iOp dIx (iV 5) (iC (.int 0))) (ae (iOp dIx (iV 4) (iC (.int 0))) ak))))) bT) (bf (ax (aG 5) (ae (iV 5) (ae (iCB lV (ae (aD (iLc 1 [] (bq (iV 2)) (.nm 0) cR dY)) ak)) ak))))))
noncomputable def dZ:Ef:=(iV 0)
noncomputable def ez:Tf:=(bP dEq (iOp dIx (iV 1) (iV 0)) (iC (.int 0)))
noncomputable def gp:Ef:=(iOp dIx (aD (dw (ae (iCB iq (ae (iOp dGt (iV 0) (iC (.int 0))) ak)) (ae (iUn gm (iC (.int 1))) ak)))) (iCB iq (ae (iOp dLt (iV 0) (iC (.int 0))) ak)))
noncomputable def gq:Ef:=(ax dO (ae (iV 1) (ae (iV 0) ak)))
noncomputable def dH:Sf:=(av (bt (.nm 2) (aD (iLc 1 [0] (de (ae (iOp og (iC (.int 1)) (iV 1)) ak)) (.nm 0) cR gq))) (av (bt (.nm 3) (iCB lV (ae (aD (iLc 1 [] (bq (iV 2)) (.nm 0) cR gp)) ak))) (av (bt (.nm 4) (iCB lV (ae (aD (iLc 1 [2] (de (ae (iOp og (iC (.int 1)) (iV 1)) ak)) (.nm 0) ez dZ)) ak))) (av (cm (kY (fq (h8 iP (ax (aG 5) (ae (ax bJ (ae (iV 0) (ae (iV 1) ak))) (ae (iV 3) ak))))) (fq (h8 iP (ax (aG 5) (ae (ax fP (ae (iV 0) (ae (iV 1) ak))) (ae (iV 4) ak)))))) (bf (iC (.bl false))) bT) gz))))
noncomputable def cW:Fn:=bK 6 2 dH
noncomputable def me:Sf:=(av (bt (.nm 2) (ax gw (ae (iV 0) (ae (iV 1) ak)))) (av (bt (.nm 3) (ax eS (ae (iV 2) (ae (ax eR (ae (iV 2) (ae (aD (dw (ae (iC (.str "both")) (ae (iC (.str "odd")) ak)))) ak))) (ae (ax bn (ae (iV 2) (ae (iC (.int 7)) ak))) ak))))) (av (bt (.nm 4) (ax cF (ae (iV 2) (ae (iV 3) ak)))) (cm (kY (fq (h8 iP (ax cW (ae (iV 3) (ae (iV 4) ak))))) (fq (h8 iP (ax cW (ae (iV 3) (ae (iV 4) ak)))))) (bf (iC (.bl false))) bT))))
noncomputable def o6:Sf:=(av (i4 (de (ae (iCB dMx (ae (iC (.int 2)) (ae (iCB u4 (ae (iC (.int 4)) (ae (iCB ir (ae (iV 0) ak)) ak))) ak))) ak)) (.nm 1) me) (bf (fo (iOp dEq (ax bj (ae (cu (ae (iC (.str "odd")) (ae (cu ak) ak))) (ae (iC (.int 0)) ak))) (aD (dw (ae (iC (.int 0)) ak)))) (iOp dEq (ax bj (ae (cu (ae (iC (.str "both")) (ae (cu (ae (cu (ae (cu (ae (iC (.int 0)) ak)) (ae (iC (.int 1)) ak))) ak)) ak))) (ae (iC (.int 1)) ak))) (aD (dw (ae (iC (.int 0)) ak)))))))
noncomputable def lB:Fn:=se 5 1 o6
end Own
section
set_option maxHeartbeats 2000000
namespace Own
open PySem L2
noncomputable def top (i:Nat):Stmt:=PySem.Challenge.pw_signpoly_k18_signs_and_noughts.main.body.getD i (.Pass ⟨0,0,0,0⟩)
noncomputable def sY:Stmt->List Stmt
 | .ClassDef _ _ _ b _ _ _ _ _ _ _=>b
 | _=>[]
abbrev oJ:Stmt:=(sY (top 5)).getD 0 (.Pass ⟨0,0,0,0⟩)
abbrev da:Stmt:=top 1
abbrev jM:Stmt:=top 2
abbrev em:Stmt:=top 9
abbrev ek:Stmt:=top 11
abbrev gJ:Stmt:=top 13
abbrev eh:Stmt:=top 14
abbrev c9:Stmt:=top 15
abbrev dS:Stmt:=top 16
abbrev eW:Stmt:=top 18
abbrev eY:Stmt:=top 19
abbrev eX:Stmt:=top 20
abbrev ce:Stmt:=top 21
abbrev bW:Stmt:=top 22
abbrev c8:Stmt:=top 23
abbrev bE:Stmt:=top 24
abbrev dk:Stmt:=top 25
abbrev cP:Stmt:=top 26
abbrev bN:Stmt:=top 27
abbrev dj:Stmt:=top 28
abbrev bz:Stmt:=top 29
abbrev pz:Stmt:=top 30
theorem uj:aB ["self","row"] ["self","row"] (aj oJ):=⟨rfl,rfl,rfl,by decide +kernel,rfl,by decide +kernel,by decide +kernel⟩
theorem cG:aB ["k","power","step"] ["k"] (aj da):=⟨rfl,rfl,rfl,by decide +kernel,rfl,by decide +kernel,by decide +kernel⟩
theorem si:aB ["row","k"] ["row","k"] (aj jM):=⟨rfl,rfl,rfl,by decide +kernel,rfl,by decide +kernel,by decide +kernel⟩
theorem jq:aB ["kind","term","row","many"] ["kind","term","row"] (aj em):=⟨rfl,rfl,rfl,by decide +kernel,rfl,by decide +kernel,by decide +kernel⟩
theorem nO:aB ["poly","row"] ["poly","row"] (aj ek):=⟨rfl,rfl,rfl,by decide +kernel,rfl,by decide +kernel,by decide +kernel⟩
theorem oK:aB ["number"] ["number"] (aj gJ):=⟨rfl,rfl,rfl,by decide +kernel,rfl,by decide +kernel,by decide +kernel⟩
theorem nM:aB ["poly","n"] ["poly","n"] (aj eh):=⟨rfl,rfl,rfl,by decide +kernel,rfl,by decide +kernel,by decide +kernel⟩
theorem ll:aB ["poly","n"] ["poly","n"] (aj c9):=⟨rfl,rfl,rfl,by decide +kernel,rfl,by decide +kernel,by decide +kernel⟩
theorem bB:aB ["poly","n","signs","row","sign"] ["poly","n"] (aj dS):=⟨rfl,rfl,rfl,by decide +kernel,rfl,by decide +kernel,by decide +kernel⟩
theorem fW:aB ["_law_script","_law_k","_law_cell"] ["_law_script","_law_k"] (aj eW):=⟨rfl,rfl,rfl,by decide +kernel,rfl,by decide +kernel,by decide +kernel⟩
theorem cj:aB ["_law_hand_here","_law_many","_law_digit","_law_turn","_law_mixed","_law_other"] ["_law_hand_here","_law_many"] (aj eY):=⟨rfl,rfl,rfl,by decide +kernel,rfl,by decide +kernel,by decide +kernel⟩
theorem mC:aB ["_law_hand_here","_law_some"] ["_law_hand_here","_law_some"] (aj eX):=⟨rfl,rfl,rfl,by decide +kernel,rfl,by decide +kernel,by decide +kernel⟩
theorem mD:aB ["_law_found","_law_due"] ["_law_found","_law_due"] (aj ce):=⟨rfl,rfl,rfl,by decide +kernel,rfl,by decide +kernel,by decide +kernel⟩
theorem br:aB ["_law_kind","_law_term","_law_row","_law_value_here","_law_k","_law_on"] ["_law_kind","_law_term","_law_row"] (aj bW):=⟨rfl,rfl,rfl,by decide +kernel,rfl,by decide +kernel,by decide +kernel⟩
theorem lh:aB ["_law_poly_here","_law_row"] ["_law_poly_here","_law_row"] (aj c8):=⟨rfl,rfl,rfl,by decide +kernel,rfl,by decide +kernel,by decide +kernel⟩
theorem bX:aB ["_law_n","_law_found","_law_k"] ["_law_n"] (aj bE):=⟨rfl,rfl,rfl,by decide +kernel,rfl,by decide +kernel,by decide +kernel⟩
theorem kE:aB ["_law_hand_here"] ["_law_hand_here"] (aj dk):=⟨rfl,rfl,rfl,by decide +kernel,rfl,by decide +kernel,by decide +kernel⟩
theorem fX:aB ["_law_hand_here","_law_kind","_law_n","_law_share","_law_some"] ["_law_hand_here","_law_kind","_law_n"] (aj cP):=⟨rfl,rfl,rfl,by decide +kernel,rfl,by decide +kernel,by decide +kernel⟩
theorem fC:aB ["_law_hand_here","_law_poly_here","_law_top"] ["_law_hand_here","_law_poly_here"] (aj bN):=⟨rfl,rfl,rfl,by decide +kernel,rfl,by decide +kernel,by decide +kernel⟩
theorem bF:aB ["_law_poly_here","_law_n","_law_found","e","_law_other"] ["_law_poly_here","_law_n"] (aj dj):=⟨rfl,rfl,rfl,by decide +kernel,rfl,by decide +kernel,by decide +kernel⟩
theorem cA:aB ["_law_poly_here","_law_n","_law_values","_law_signs","_law_rows","_law_found"] ["_law_poly_here","_law_n"] (aj bz):=⟨rfl,rfl,rfl,by decide +kernel,rfl,by decide +kernel,by decide +kernel⟩
theorem kF:aB ["_law_script","_law_k","_law_hand_here","_law_poly_here","_law_n"] ["_law_script"] (aj pz):=⟨rfl,rfl,rfl,by decide +kernel,rfl,by decide +kernel,by decide +kernel⟩
set_option genSizeOf false in
set_option genInjectivity false in
structure Adr where
 f0:Addr
 g0:FuncData
 f1:Addr
 g1:FuncData
 f2:Addr
 g2:FuncData
 f3:Addr
 g3:FuncData
 f4:Addr
 g4:FuncData
 f5:Addr
 g5:FuncData
 f6:Addr
 g6:FuncData
 f7:Addr
 g7:FuncData
 f8:Addr
 g8:FuncData
 f9:Addr
 g9:FuncData
 f10:Addr
 g10:FuncData
 f11:Addr
 g11:FuncData
 f12:Addr
 g12:FuncData
 f13:Addr
 g13:FuncData
 f14:Addr
 g14:FuncData
 f15:Addr
 g15:FuncData
 f16:Addr
 g16:FuncData
 f17:Addr
 g17:FuncData
 f18:Addr
 g18:FuncData
 f19:Addr
 g19:FuncData
 f20:Addr
 g20:FuncData
 ca_SignError:Addr
 ca_NoText:Addr
 ca_NoLine:Addr
 ca_OnNought:Addr
 f_init:Addr
 fd_init:FuncData
structure Txt (K:PySem.W.Frag) (mg:Str->Option Value) (t:Adr):Prop where
 cm_SignError:mg "SignError" = some (.ref t.ca_SignError)
 cm_NoText:mg "NoText" = some (.ref t.ca_NoText)
 cm_NoLine:mg "NoLine" = some (.ref t.ca_NoLine)
 cm_OnNought:mg "OnNought" = some (.ref t.ca_OnNought)
 ci:qM K t.ca_OnNought t.f_init "ValueError.__new__" = true
 cs:nR K t.ca_OnNought t.ca_SignError "row" = true
 cx:kX K t.ca_OnNought=true
 cr:pP K t.ca_OnNought "row" = true
 ch:tD K t.ca_OnNought t.ca_SignError=true
 cT:PySem.W.kitOne K (.ref t.ca_OnNought) (.ref t.ca_NoText)=some false
 cL:PySem.W.kitOne K (.ref t.ca_OnNought) (.ref t.ca_NoLine)=some false
 cV:PySem.W.kitOne K (.ref t.ca_OnNought) (.type "ValueError")=some true
 FI:Fun K "__init__" "OnNought.__init__" oJ t.f_init t.fd_init
 bI:bp K t.fd_init ["self","row"] []
 F0:Fun K "power_of_two" "power_of_two" da t.f0 t.g0
 m0:mg "power_of_two" = some (.ref t.f0)
 b0:bp K t.g0 ["k"] []
 F1:Fun K "on_in" "on_in" jM t.f1 t.g1
 m1:mg "on_in" = some (.ref t.f1)
 b1:bp K t.g1 ["row","k"] []
 F2:Fun K "value_of" "value_of" em t.f2 t.g2
 m2:mg "value_of" = some (.ref t.f2)
 b2:bp K t.g2 ["kind","term","row"] []
 F3:Fun K "value_at" "value_at" ek t.f3 t.g3
 m3:mg "value_at" = some (.ref t.f3)
 b3:bp K t.g3 ["poly","row"] []
 F4:Fun K "sign_of" "sign_of" gJ t.f4 t.g4
 m4:mg "sign_of" = some (.ref t.f4)
 b4:bp K t.g4 ["number"] []
 F5:Fun K "signs_of" "signs_of" eh t.f5 t.g5
 m5:mg "signs_of" = some (.ref t.f5)
 b5:bp K t.g5 ["poly","n"] []
 F6:Fun K "noughts_of" "noughts_of" c9 t.f6 t.g6
 m6:mg "noughts_of" = some (.ref t.f6)
 b6:bp K t.g6 ["poly","n"] []
 F7:Fun K "told_by" "told_by" dS t.f7 t.g7
 m7:mg "told_by" = some (.ref t.f7)
 b7:bp K t.g7 ["poly","n"] []
 F8:Fun K "_law_hand" "_law_hand" eW t.f8 t.g8
 m8:mg "_law_hand" = some (.ref t.f8)
 b8:bp K t.g8 ["_law_script","_law_k"] []
 F9:Fun K "_law_take" "_law_take" eY t.f9 t.g9
 m9:mg "_law_take" = some (.ref t.f9)
 b9:bp K t.g9 ["_law_hand_here","_law_many"] []
 F10:Fun K "_law_pick" "_law_pick" eX t.f10 t.g10
 m10:mg "_law_pick" = some (.ref t.f10)
 b10:bp K t.g10 ["_law_hand_here","_law_some"] []
 F11:Fun K "_law_same" "_law_same" ce t.f11 t.g11
 m11:mg "_law_same" = some (.ref t.f11)
 b11:bp K t.g11 ["_law_found","_law_due"] []
 F12:Fun K "_law_term_value" "_law_term_value" bW t.f12 t.g12
 m12:mg "_law_term_value" = some (.ref t.f12)
 b12:bp K t.g12 ["_law_kind","_law_term","_law_row"] []
 F13:Fun K "_law_value" "_law_value" c8 t.f13 t.g13
 m13:mg "_law_value" = some (.ref t.f13)
 b13:bp K t.g13 ["_law_poly_here","_law_row"] []
 F14:Fun K "_law_all_terms" "_law_all_terms" bE t.f14 t.g14
 m14:mg "_law_all_terms" = some (.ref t.f14)
 b14:bp K t.g14 ["_law_n"] []
 F15:Fun K "_law_number" "_law_number" dk t.f15 t.g15
 m15:mg "_law_number" = some (.ref t.f15)
 b15:bp K t.g15 ["_law_hand_here"] []
 F16:Fun K "_law_poly" "_law_poly" cP t.f16 t.g16
 m16:mg "_law_poly" = some (.ref t.f16)
 b16:bp K t.g16 ["_law_hand_here","_law_kind","_law_n"] []
 F17:Fun K "_law_switches" "_law_switches" bN t.f17 t.g17
 m17:mg "_law_switches" = some (.ref t.f17)
 b17:bp K t.g17 ["_law_hand_here","_law_poly_here"] []
 F18:Fun K "_law_answer" "_law_answer" dj t.f18 t.g18
 m18:mg "_law_answer" = some (.ref t.f18)
 b18:bp K t.g18 ["_law_poly_here","_law_n"] []
 F19:Fun K "_law_right" "_law_right" bz t.f19 t.g19
 m19:mg "_law_right" = some (.ref t.f19)
 b19:bp K t.g19 ["_law_poly_here","_law_n"] []
 F20:Fun K "law" "law" pz t.f20 t.g20
 m20:mg "law" = some (.ref t.f20)
 b20:bp K t.g20 ["_law_script"] []
 z_ValueError:mg "ValueError" = none
 z_all:mg "all" = none
 z_bool:mg "bool" = none
 z_enumerate:mg "enumerate" = none
 z_int:mg "int" = none
 z_isinstance:mg "isinstance" = none
 z_len:mg "len" = none
 z_list:mg "list" = none
 z_max:mg "max" = none
 z_min:mg "min" = none
 z_range:mg "range" = none
 z_sorted:mg "sorted" = none
 z_str:mg "str" = none
 z_sum:mg "sum" = none
 z_tuple:mg "tuple" = none
 z_zip:mg "zip" = none
abbrev Bdy (P:Program) (w:World) (K:PySem.W.Frag) (mg:Str->Option Value) (base:Heap) (k:Nat) (N:List Str) (x:Str) (sd:Stmt) (f:Addr) (b:Sf):Prop:=∀ (cdv:Value) (A:Around) (outer:List Env) (s:Shared) (H:Hp) (E:XK),bY k (A.deeper (PyProof.Rows.envOfC x (aj sd) s.heap.objs.size f cdv))->ISs K (ip CX0 P w K mg base N x (aj sd) f cdv A outer s H E).nox (cE sd) b
abbrev xE (P:Program) (w:World) (K:PySem.W.Frag) (mg:Str->Option Value) (base:Heap) (C:Value×Int) (k:Nat) (N:List Str) (x:Str) (sd:Stmt) (f:Addr) (b:Rf):Prop:=∀ (cdv:Value) (A:Around) (outer:List Env) (s:Shared) (H:Hp) (E:XK),bY k (A.deeper (PyProof.Rows.envOfC x (aj sd) s.heap.objs.size f cdv))->RSs K (ip (CX1 P w C) P w K mg base N x (aj sd) f cdv A outer s H E) C (cE sd) b
section
variable {P:Program}{w:World}{K:PySem.W.Frag}{mg:Str->Option Value}{base:Heap}{t:Adr}
theorem im (T:Txt K mg t):Bdy P w K mg base 0 ["k","power","step"] "power_of_two" da t.f0 cQ:=
 λ_ _ _ _ _ _ hr=>(al (aW (i:=1) cG.nd rfl (by first | exact Or.inl rfl | exact Or.inr rfl) ai rfl (by first | exact .inl rfl | exact .inr rfl)) (al (i9 (gE rfl T.z_range (aa (iv 0) ag rfl) rfl) (bU (aA (i:=2) cG.nd rfl (by first | exact Or.inl rfl | exact Or.inr rfl))) (aq (aW (i:=1) cG.nd rfl (by first | exact Or.inl rfl | exact Or.inr rfl) (aE (dg rfl) (iv 1) ai) rfl (by first | exact .inl rfl | exact .inr rfl))) PassesOwn.never rfl (λ_=>rfl)) (aq (aP (iv 1)))))
theorem gf (T:Txt K mg t):bv P w K mg base CX0 1 t.f0 t.g0 ["k"] (spI K cb):=
 fm (N:=["k","power","step"]) (b:=cQ) T.F0 cG (im T)
theorem n6 (T:Txt K mg t):Bdy P w K mg base 1 ["row","k"] "on_in" jM t.f1 jA:=
 λ_ _ _ _ _ _ hr=>(aq (aP (aE fT (aE jI (iv 0) (aw (gf T) (by decide) hr rfl T.m0 T.F0.kp T.b0 (aa (iv 1) ag rfl) (by decide) rfl rfl)) ai)))
theorem rs (T:Txt K mg t):bv P w K mg base CX0 2 t.f1 t.g1 ["row","k"] (spI K mj):=
 fm (N:=["row","k"]) (b:=jA) T.F1 si (n6 T)
theorem kR (T:Txt K mg t):Bdy P w K mg base 2 ["kind","term","row","many"] "value_of" em t.f2 cH:=
 λ_ _ _ _ _ _ hr=>(al (aW (i:=3) jq.nd rfl (by first | exact Or.inl rfl | exact Or.inr rfl) (cM (n8 rfl rfl) rfl T.z_sum PyProof.Rows.boot_sum (aa (aO (eM (ec (aj em).names ["kind","term","row","many"] ["k","row"] 1 [2] rfl rfl rfl (by decide +kernel)) rfl (by decide) (d6 (iv 1) rfl) (λ_ _ _ _ _=>(bU (aA (i:=0) (show List.Nodup (α:=Str) ["k","row"] by decide +kernel) rfl (by first | exact Or.inl rfl | exact Or.inr rfl)))) (λ_ _ _ _ _=>cU) (λ_ _ _ _ _=>(aw (rs T) (by decide) hr rfl T.m1 T.F1.kp T.b1 (aa (iv 1) (aa (iv 0) ag rfl) rfl) (by decide) rfl rfl)) (λ_=>rfl))) ag rfl) (by decide) (by decide) rfl rfl) rfl (by first | exact .inl rfl | exact .inr rfl)) (al (eN (bH (dA hr rfl) (iv 0) i6 (aX _)) (aq (aP (pc (bH (dA hr rfl) (iv 3) (cM (iW rfl) rfl T.z_len PySem.boot_len (aa (iv 1) ag rfl) (by decide) (by decide) rfl rfl) (aX _)) ai ai))) bV) (aq (aP (pc (bH (dA hr rfl) (aE fT (iv 3) ai) ai (aX _)) (fN ai) ai)))))
theorem nw (T:Txt K mg t):bv P w K mg base CX0 3 t.f2 t.g2 ["kind","term","row"] (spI K ij):=
 fm (N:=["kind","term","row","many"]) (b:=cH) T.F2 jq (kR T)
theorem kQ (T:Txt K mg t):Bdy P w K mg base 3 ["poly","row"] "value_at" ek t.f3 fG:=
 λ_ _ _ _ _ _ hr=>(aq (aP (cM (n8 rfl rfl) rfl T.z_sum PyProof.Rows.boot_sum (aa (aO (eM (ec (aj ek).names ["poly","row"] ["term","number","poly","row"] 2 [0,1] rfl rfl rfl (by decide +kernel)) rfl (by decide) (d6 (cw (iv 0) ai rfl rfl) rfl) (λ_ _ _ _ _=>(gu (bb (aA (i:=0) (show List.Nodup (α:=Str) ["term","number","poly","row"] by decide +kernel) rfl (by first | exact Or.inl rfl | exact Or.inr rfl)) (bb (aA (i:=1) (show List.Nodup (α:=Str) ["term","number","poly","row"] by decide +kernel) rfl (by first | exact Or.inl rfl | exact Or.inr rfl)) eL)) rfl rfl rfl rfl rfl)) (λ_ _ _ _ _=>cU) (λ_ _ _ _ _=>(aE (dg rfl) (iv 1) (aw (nw T) (by decide) hr rfl T.m2 T.F2.kp T.b2 (aa (cw (iv 2) ai rfl rfl) (aa (iv 0) (aa (iv 3) ag rfl) rfl) rfl) (by decide) rfl rfl))) (λ_=>rfl))) ag rfl) (by decide) (by decide) rfl rfl)))
theorem nv (T:Txt K mg t):bv P w K mg base CX0 4 t.f3 t.g3 ["poly","row"] (spI K fQ):=
 fm (N:=["poly","row"]) (b:=fG) T.F3 nO (kQ T)
theorem lO (T:Txt K mg t):Bdy P w K mg base 0 ["number"] "sign_of" gJ t.f4 dQ:=
 λ_ _ _ _ _ _ hr=>(al (eN (bH (dA hr rfl) (iv 0) ai (aX _)) (aq (aP ai)) bV) (aq (aP (pc (bH nt (iv 0) ai (aX _)) ai (fN ai)))))
theorem oE (T:Txt K mg t):bv P w K mg base CX0 1 t.f4 t.g4 ["number"] (spI K dR):=
 fm (N:=["number"]) (b:=dQ) T.F4 oK (lO T)
theorem kP (T:Txt K mg t):Bdy P w K mg base 4 ["poly","n"] "signs_of" eh t.f5 fF:=
 λ_ _ _ _ _ _ hr=>(aq (aP (ge (hV rfl) rfl T.z_tuple PyProof.Rows.boot_tuple (aa (aO (eM (ec (aj eh).names ["poly","n"] ["row","poly"] 1 [0] rfl rfl rfl (by decide +kernel)) rfl (by decide) (gE rfl T.z_range (aa (aw (gf T) (by decide) hr rfl T.m0 T.F0.kp T.b0 (aa (iv 1) ag rfl) (by decide) rfl rfl) ag rfl) rfl) (λ_ _ _ _ _=>(bU (aA (i:=0) (show List.Nodup (α:=Str) ["row","poly"] by decide +kernel) rfl (by first | exact Or.inl rfl | exact Or.inr rfl)))) (λ_ _ _ _ _=>cU) (λ_ _ _ _ _=>(aw (oE T) (by decide) hr rfl T.m4 T.F4.kp T.b4 (aa (aw (nv T) (by decide) hr rfl T.m3 T.F3.kp T.b3 (aa (iv 1) (aa (iv 0) ag rfl) rfl) (by decide) rfl rfl) ag rfl) (by decide) rfl rfl)) (λ_=>rfl))) ag rfl) (by decide) (by decide) rfl rfl)))
theorem eV (T:Txt K mg t):bv P w K mg base CX0 5 t.f5 t.g5 ["poly","n"] (spI K bJ):=
 fm (N:=["poly","n"]) (b:=fF) T.F5 nM (kP T)
theorem jw (T:Txt K mg t):Bdy P w K mg base 5 ["poly","n"] "noughts_of" c9 t.f6 dJ:=
 λ_ _ _ _ _ _ hr=>(aq (aP (ge (hV rfl) rfl T.z_tuple PyProof.Rows.boot_tuple (aa (aO (eM (ec (aj c9).names ["poly","n"] ["row","sign"] 2 [] rfl rfl rfl (by decide +kernel)) rfl (by decide) (jC rfl T.z_enumerate (aa (aw (eV T) (by decide) hr rfl T.m5 T.F5.kp T.b5 (aa (iv 0) (aa (iv 1) ag rfl) rfl) (by decide) rfl rfl) ag rfl) rfl rfl) (λ_ _ _ _ _=>(gu (bb (aA (i:=0) (show List.Nodup (α:=Str) ["row","sign"] by decide +kernel) rfl (by first | exact Or.inl rfl | exact Or.inr rfl)) (bb (aA (i:=1) (show List.Nodup (α:=Str) ["row","sign"] by decide +kernel) rfl (by first | exact Or.inl rfl | exact Or.inr rfl)) eL)) rfl rfl rfl rfl rfl)) (λ_ _ _ _ _=>(jE (bH (dA hr rfl) (iv 1) ai (aX _)))) (λ_ _ _ _ _=>(iv 0)) (λ_=>rfl))) ag rfl) (by decide) (by decide) rfl rfl)))
theorem lb (T:Txt K mg t):bv P w K mg base CX0 6 t.f6 t.g6 ["poly","n"] (spI K fP):=
 fm (N:=["poly","n"]) (b:=dJ) T.F6 ll (jw T)
theorem lP (T:Txt K mg t):Bdy P w K mg base 5 ["poly","n","signs","row","sign"] "told_by" dS t.f7 cK:=
 λ_ _ _ _ _ _ hr=>(al (aW (i:=2) bB.nd rfl (by first | exact Or.inl rfl | exact Or.inr rfl) (aw (eV T) (by decide) hr rfl T.m5 T.F5.kp T.b5 (aa (iv 0) (aa (iv 1) ag rfl) rfl) (by decide) rfl rfl) rfl (by first | exact .inl rfl | exact .inr rfl)) (al (i9 (jC rfl T.z_enumerate (aa (iv 2) ag rfl) rfl rfl) (gu (bb (aA (i:=3) bB.nd rfl (by first | exact Or.inl rfl | exact Or.inr rfl)) (bb (aA (i:=4) bB.nd rfl (by first | exact Or.inl rfl | exact Or.inr rfl)) eL)) rfl rfl rfl rfl rfl) (aq (eN (bH (dA hr rfl) (iv 4) ai (aX _)) (aq l7) bV)) PassesOwn.never rfl (λ_=>rfl)) (aq (aP (ge (hV rfl) rfl T.z_tuple PyProof.Rows.boot_tuple (aa (aO (eM (ec (aj dS).names ["poly","n","signs","row","sign"] ["sign"] 1 [] rfl rfl rfl (by decide +kernel)) rfl (by decide) (d6 (iv 2) rfl) (λ_ _ _ _ _=>(bU (aA (i:=0) (show List.Nodup (α:=Str) ["sign"] by decide +kernel) rfl (by first | exact Or.inl rfl | exact Or.inr rfl)))) (λ_ _ _ _ _=>cU) (λ_ _ _ _ _=>(pc (bH nt (iv 0) ai (aX _)) ai ai)) (λ_=>rfl))) ag rfl) (by decide) (by decide) rfl rfl)))))
theorem oF (T:Txt K mg t):bv P w K mg base CX0 6 t.f7 t.g7 ["poly","n"] (spI K fu):=
 fm (N:=["poly","n","signs","row","sign"]) (b:=cK) T.F7 bB (lP T)
theorem okI (T:Txt K mg t):bv P w K mg base CX0 1 t.f_init t.fd_init ["self","row"] (kH t.ca_OnNought):=tw T.FI uj (Or.inl rfl) (Or.inl rfl) rfl T.cs
theorem kS (T:Txt K mg t) (r:Int):xE P w K mg base (.ref t.ca_OnNought,r) 5 ["poly","n","signs","row","sign"] "told_by" dS t.f7 (dh r):=
 λ_ _ _ _ _ _ hr=>(nK xm (aW (i:=2) bB.nd rfl (by first | exact Or.inl rfl | exact Or.inr rfl) (aw (eV T) (by decide) hr rfl T.m5 T.F5.kp T.b5 (aa (iv 0) (aa (iv 1) ag rfl) rfl) (by decide) rfl rfl) rfl (by first | exact .inl rfl | exact .inr rfl)) (nK (vW (jC rfl T.z_enumerate (aa (iv 2) ag rfl) rfl rfl) (gu (bb (aA (i:=3) bB.nd rfl (by first | exact Or.inl rfl | exact Or.inr rfl)) (bb (aA (i:=4) bB.nd rfl (by first | exact Or.inl rfl | exact Or.inr rfl)) eL)) rfl rfl rfl rfl rfl) (aq (eN (bH (dA hr rfl) (iv 4) ai (aX _)) (aq l7) bV)) (mB (xl (bH (dA hr rfl) (iv 4) ai (aX _)) (mB (qj T.ci T.cm_OnNought ((okI T).mono (by decide:1<=4)) hr T.bI rfl rfl (aa (iv 3) ag rfl) (by decide) rfl)) r8)) PassesOwn.leaving rfl (λ_=>rfl)) (i9 (jC rfl T.z_enumerate (aa (iv 2) ag rfl) rfl rfl) (gu (bb (aA (i:=3) bB.nd rfl (by first | exact Or.inl rfl | exact Or.inr rfl)) (bb (aA (i:=4) bB.nd rfl (by first | exact Or.inl rfl | exact Or.inr rfl)) eL)) rfl rfl rfl rfl rfl) (aq (eN (bH (dA hr rfl) (iv 4) ai (aX _)) (aq l7) bV)) PassesOwn.never rfl (λ_=>rfl)) r8))
theorem ny (T:Txt K mg t) (r:Int):bv P w K mg base (CX1 P w (.ref t.ca_OnNought,r)) 6 t.f7 t.g7 ["poly","n"] (spX K (fE r)):=
 xJ (N:=["poly","n","signs","row","sign"]) (b:=dh r) T.F7 bB (kS T r)
theorem jQ (T:Txt K mg t):Bdy P w K mg base 0 ["_law_script","_law_k","_law_cell"] "_law_hand" eW t.f8 eF:=
 λ_ _ _ _ _ _ hr=>(al (aW (i:=2) fW.nd rfl (by first | exact Or.inl rfl | exact Or.inr rfl) ai rfl (by first | exact .inl rfl | exact .inr rfl)) (al (eN (bH uJ (iv 1) (cM (iW rfl) rfl T.z_len PySem.boot_len (aa (iv 0) ag rfl) (by decide) (by decide) rfl rfl) (aX _)) (aq (aW (i:=2) fW.nd rfl (by first | exact Or.inl rfl | exact Or.inr rfl) (cw (iv 0) (iv 1) rfl rfl) rfl (by first | exact .inl rfl | exact .inr rfl))) bV) (aq (aP (ve (d7 (aa (cw (aO (d7 (aa ai (aa (iv 2) ag rfl) rfl))) (ge jW rfl T.z_int PyProof.Rows.boot_int (aa (fM wL (iv 2) (aE rp ai ai) (aX _)) ag rfl) (by decide) (by decide) rfl rfl) rfl rfl) (aa (aE (cY rfl) (aE (cY rfl) (aE fT (iv 2) ai) (aE (dg rfl) ai (iv 1))) ai) (aa ai ag rfl) rfl) rfl)))))))
theorem mo (T:Txt K mg t):bv P w K mg base CX0 1 t.f8 t.g8 ["_law_script","_law_k"] (spI K gw):=
 fm (N:=["_law_script","_law_k","_law_cell"]) (b:=eF) T.F8 fW (jQ T)
theorem jU (T:Txt K mg t):Bdy P w K mg base 0 ["_law_hand_here","_law_many","_law_digit","_law_turn","_law_mixed","_law_other"] "_law_take" eY t.f9 dn:=
 λ_ _ _ _ _ _ hr=>(al (eN (bH nt (cw (iv 0) ai rfl rfl) ai (aX _)) (al (aW (i:=2) cj.nd rfl (by first | exact Or.inl rfl | exact Or.inr rfl) (aE fT (cw (iv 0) ai rfl rfl) (iv 1)) rfl (by first | exact .inl rfl | exact .inr rfl)) (al (mZ (iv 0) ai (aE jI (cw (iv 0) ai rfl rfl) (iv 1)) rfl rfl rfl) (aq (aP (iv 2))))) bV) (al (mZ (iv 0) ai (aE (cY rfl) (cw (iv 0) ai rfl rfl) ai) rfl rfl rfl) (al (aW (i:=3) cj.nd rfl (by first | exact Or.inl rfl | exact Or.inr rfl) (cw (iv 0) ai rfl rfl) rfl (by first | exact .inl rfl | exact .inr rfl)) (al (aW (i:=4) cj.nd rfl (by first | exact Or.inl rfl | exact Or.inr rfl) (aE fT (aE (dg rfl) (cw (iv 0) ai rfl rfl) (aE (cY rfl) (aE (cY rfl) ai (aE (dg rfl) (aE (dg rfl) ai (iv 3)) (iv 3))) (aE (dg rfl) ai (iv 3)))) ai) rfl (by first | exact .inl rfl | exact .inr rfl)) (al (aW (i:=5) cj.nd rfl (by first | exact Or.inl rfl | exact Or.inr rfl) (aE (cY rfl) (aE (cY rfl) (aE fT (iv 4) ai) (aE (dg rfl) (iv 3) ai)) ai) rfl (by first | exact .inl rfl | exact .inr rfl)) (al (aW (i:=4) cj.nd rfl (by first | exact Or.inl rfl | exact Or.inr rfl) (aE fT (aE (dg rfl) (iv 4) (iv 5)) ai) rfl (by first | exact .inl rfl | exact .inr rfl)) (aq (aP (aE fT (aE (cY rfl) (aE jI (iv 4) ai) (aE jI (iv 4) ai)) (iv 1))))))))))
theorem bx (T:Txt K mg t):bv P w K mg base CX0 1 t.f9 t.g9 ["_law_hand_here","_law_many"] (spI K bn):=
 fm (N:=["_law_hand_here","_law_many","_law_digit","_law_turn","_law_mixed","_law_other"]) (b:=dn) T.F9 cj (jU T)
theorem jR (T:Txt K mg t):Bdy P w K mg base 1 ["_law_hand_here","_law_some"] "_law_pick" eX t.f10 eG:=
 λ_ _ _ _ _ _ hr=>(aq (aP (cw (iv 1) (aw (bx T) (by decide) hr rfl T.m9 T.F9.kp T.b9 (aa (iv 0) (aa (cM (iW rfl) rfl T.z_len PySem.boot_len (aa (iv 1) ag rfl) (by decide) (by decide) rfl rfl) ag rfl) rfl) (by decide) rfl rfl) rfl rfl)))
theorem iJ (T:Txt K mg t):bv P w K mg base CX0 2 t.f10 t.g10 ["_law_hand_here","_law_some"] (spI K eR):=
 fm (N:=["_law_hand_here","_law_some"]) (b:=eG) T.F10 mC (jR T)
theorem jT (T:Txt K mg t) (n:Nat) (ih:bv P w K mg base CX0 (0+n) t.f11 t.g11 ["_law_found","_law_due"] (spI K (aG n))) (cdv:Value) (A:Around) (outer:List Env) (s:Shared) (H:Hp) (E:XK) (hr:bY (0+n) (A.deeper (PyProof.Rows.envOfC "_law_same" (aj ce) s.heap.objs.size t.f11 cdv))):ISs K (ip CX0 P w K mg base ["_law_found","_law_due"] "_law_same" (aj ce) t.f11 cdv A outer s H E).nox (cE ce) (bZ (aG n)):=
 (al (eN (ic (cM (hU rfl) rfl T.z_isinstance PyProof.Rows.boot_isinstance (aa (iv 1) (aa (ka rfl T.z_tuple PyProof.Rows.boot_tuple (by decide) (by decide)) ag rfl) rfl) (by decide) (by decide) rfl rfl) rfl rfl) (al (eN (ow (ou (kj (ic (cM (hU rfl) rfl T.z_isinstance PyProof.Rows.boot_isinstance (aa (iv 0) (aa (ka rfl T.z_tuple PyProof.Rows.boot_tuple (by decide) (by decide)) ag rfl) rfl) (by decide) (by decide) rfl rfl) rfl rfl)) (l9 (bH (rn hr rfl) (cM (iW rfl) rfl T.z_len PySem.boot_len (aa (iv 0) ag rfl) (by decide) (by decide) rfl rfl) (cM (iW rfl) rfl T.z_len PySem.boot_len (aa (iv 1) ag rfl) (by decide) (by decide) rfl rfl) (aX _))))) (aq (aP qK)) bV) (aq (aP (cM (uY rfl rfl) rfl T.z_all PyProof.Rows.boot_all (aa (aO (eM (ec (aj ce).names ["_law_found","_law_due"] ["_law_one","_law_other"] 2 [] rfl rfl rfl (by decide +kernel)) rfl (by decide) (vd rfl T.z_zip (aa (iv 0) (aa (iv 1) ag rfl) rfl) rfl rfl rfl) (λ_ _ _ _ _=>(gu (bb (aA (i:=0) (show List.Nodup (α:=Str) ["_law_one","_law_other"] by decide +kernel) rfl (by first | exact Or.inl rfl | exact Or.inr rfl)) (bb (aA (i:=1) (show List.Nodup (α:=Str) ["_law_one","_law_other"] by decide +kernel) rfl (by first | exact Or.inl rfl | exact Or.inr rfl)) eL)) rfl rfl rfl rfl rfl)) (λ_ _ _ _ _=>cU) (λ_ _ _ _ _=>(aw ih (Nat.le_refl _) hr rfl T.m11 T.F11.kp T.b11 (aa (iv 0) (aa (iv 1) ag rfl) rfl) (by decide) rfl rfl)) (λ_=>rfl))) ag rfl) (by decide) (by decide) rfl rfl)))) bV) (al (eN (ic (cM (hU rfl) rfl T.z_isinstance PyProof.Rows.boot_isinstance (aa (iv 1) (aa (ka rfl T.z_str PyProof.Rows.boot_str (by decide) (by decide)) ag rfl) rfl) (by decide) (by decide) rfl rfl) rfl rfl) (aq (aP (j9 (cM (hU rfl) rfl T.z_isinstance PyProof.Rows.boot_isinstance (aa (iv 0) (aa (ka rfl T.z_str PyProof.Rows.boot_str (by decide) (by decide)) ag rfl) rfl) (by decide) (by decide) rfl rfl) (l6 (fM (dA hr rfl) (iv 0) (iv 1) (aX _)))))) bV) (aq (aP (j9 (cM (hU rfl) rfl T.z_isinstance PyProof.Rows.boot_isinstance (aa (iv 0) (aa (ka rfl T.z_int PyProof.Rows.boot_int (by decide) (by decide)) ag rfl) rfl) (by decide) (by decide) rfl rfl) (j9 (vb (cM (hU rfl) rfl T.z_isinstance PyProof.Rows.boot_isinstance (aa (iv 0) (aa (ka rfl T.z_bool PyProof.Rows.boot_bool (by decide) (by decide)) ag rfl) rfl) (by decide) (by decide) rfl rfl)) (l6 (fM (dA hr rfl) (iv 0) (iv 1) (aX _)))))))))
theorem cZ (T:Txt K mg t):∀ n:Nat,bv P w K mg base CX0 (0+n) t.f11 t.g11 ["_law_found","_law_due"] (spI K (aG n))
 | 0=>⟨λ_ _ _ _ ⟨_,_,_,_,h,_⟩=>(nomatch h),λ_ _ _ _ _ _ _ _ _ _ _ _ _ ⟨_,_,_,_,h,_⟩=>(nomatch h)⟩
 | n+1=>show bv P w K mg base CX0 (0+n+1) t.f11 t.g11 ["_law_found","_law_due"] (spI K (bK (List.length (α:=Str) ["_law_found","_law_due"]) (List.length (α:=Str) ["_law_found","_law_due"]) (bZ (aG n)))) from fm (N:=["_law_found","_law_due"]) (ps:=["_law_found","_law_due"]) (k:=0+n) (b:=bZ (aG n)) T.F11 mD (λcdv A outer s H E hr=>jT T n (cZ T n) cdv A outer s H E hr)
theorem gi (T:Txt K mg t):Bdy P w K mg base 0 ["_law_kind","_law_term","_law_row","_law_value_here","_law_k","_law_on"] "_law_term_value" bW t.f12 bQ:=
 λ_ _ _ _ _ _ hr=>(al (aW (i:=3) br.nd rfl (by first | exact Or.inl rfl | exact Or.inr rfl) ai rfl (by first | exact .inl rfl | exact .inr rfl)) (al (i9 (d6 (iv 1) rfl) (bU (aA (i:=4) br.nd rfl (by first | exact Or.inl rfl | exact Or.inr rfl))) (al (aW (i:=5) br.nd rfl (by first | exact Or.inl rfl | exact Or.inr rfl) (aE fT (aE vq (iv 2) (iv 4)) ai) rfl (by first | exact .inl rfl | exact .inr rfl)) (aq (aW (i:=3) br.nd rfl (by first | exact Or.inl rfl | exact Or.inr rfl) (aE (dg rfl) (iv 3) (cw (aO (d7 (aa (aE oB ai (aE (dg rfl) ai (iv 5))) (aa (iv 5) ag rfl) rfl))) (ge jW rfl T.z_int PyProof.Rows.boot_int (aa (fM (dA hr rfl) (iv 0) i6 (aX _)) ag rfl) (by decide) (by decide) rfl rfl) rfl rfl)) rfl (by first | exact .inl rfl | exact .inr rfl)))) PassesOwn.never rfl (λ_=>rfl)) (aq (aP (iv 3)))))
theorem ik (T:Txt K mg t):bv P w K mg base CX0 1 t.f12 t.g12 ["_law_kind","_law_term","_law_row"] (spI K cX):=
 fm (N:=["_law_kind","_law_term","_law_row","_law_value_here","_law_k","_law_on"]) (b:=bQ) T.F12 br (gi T)
theorem jv (T:Txt K mg t):Bdy P w K mg base 1 ["_law_poly_here","_law_row"] "_law_value" c8 t.f13 dI:=
 λ_ _ _ _ _ _ hr=>(aq (aP (cM (n8 rfl rfl) rfl T.z_sum PyProof.Rows.boot_sum (aa (aO (eM (ec (aj c8).names ["_law_poly_here","_law_row"] ["_law_term","_law_number_here","_law_poly_here","_law_row"] 2 [0,1] rfl rfl rfl (by decide +kernel)) rfl (by decide) (d6 (cw (iv 0) ai rfl rfl) rfl) (λ_ _ _ _ _=>(gu (bb (aA (i:=0) (show List.Nodup (α:=Str) ["_law_term","_law_number_here","_law_poly_here","_law_row"] by decide +kernel) rfl (by first | exact Or.inl rfl | exact Or.inr rfl)) (bb (aA (i:=1) (show List.Nodup (α:=Str) ["_law_term","_law_number_here","_law_poly_here","_law_row"] by decide +kernel) rfl (by first | exact Or.inl rfl | exact Or.inr rfl)) eL)) rfl rfl rfl rfl rfl)) (λ_ _ _ _ _=>cU) (λ_ _ _ _ _=>(aE (dg rfl) (iv 1) (aw (ik T) (by decide) hr rfl T.m12 T.F12.kp T.b12 (aa (cw (iv 2) ai rfl rfl) (aa (iv 0) (aa (iv 3) ag rfl) rfl) rfl) (by decide) rfl rfl))) (λ_=>rfl))) ag rfl) (by decide) (by decide) rfl rfl)))
theorem la (T:Txt K mg t):bv P w K mg base CX0 2 t.f13 t.g13 ["_law_poly_here","_law_row"] (spI K dO):=
 fm (N:=["_law_poly_here","_law_row"]) (b:=dI) T.F13 lh (jv T)
theorem gL (T:Txt K mg t):Bdy P w K mg base 0 ["_law_n","_law_found","_law_k"] "_law_all_terms" bE t.f14 cf:=
 λ_ _ _ _ _ _ hr=>(al (aW (i:=1) bX.nd rfl (by first | exact Or.inl rfl | exact Or.inr rfl) (aO (d7 (aa (dE ag) ag rfl))) rfl (by first | exact .inl rfl | exact .inr rfl)) (al (i9 (gE rfl T.z_range (aa (iv 0) ag rfl) rfl) (bU (aA (i:=2) bX.nd rfl (by first | exact Or.inl rfl | exact Or.inr rfl))) (aq (aW (i:=1) bX.nd rfl (by first | exact Or.inl rfl | exact Or.inr rfl) (aE (cY rfl) (iv 1) (aO (eM (ec (aj bE).names ["_law_n","_law_found","_law_k"] ["_law_term","_law_k"] 1 [2] rfl rfl rfl (by decide +kernel)) rfl (by decide) (d6 (iv 1) rfl) (λ_ _ _ _ _=>(bU (aA (i:=0) (show List.Nodup (α:=Str) ["_law_term","_law_k"] by decide +kernel) rfl (by first | exact Or.inl rfl | exact Or.inr rfl)))) (λ_ _ _ _ _=>cU) (λ_ _ _ _ _=>(aE (cY rfl) (iv 0) (dE (aa (iv 1) ag rfl)))) (λ_=>rfl)))) rfl (by first | exact .inl rfl | exact .inr rfl))) PassesOwn.never rfl (λ_=>rfl)) (aq (aP (aO (wy (qD hr rfl) rfl T.z_sorted PyProof.Rows.boot_sorted (aa (iv 1) ag rfl) (by decide) (by decide) rfl rfl))))))
theorem iI (T:Txt K mg t):bv P w K mg base CX0 1 t.f14 t.g14 ["_law_n"] (spI K df):=
 fm (N:=["_law_n","_law_found","_law_k"]) (b:=cf) T.F14 bX (gL T)
theorem iT (T:Txt K mg t):Bdy P w K mg base 2 ["_law_hand_here"] "_law_number" dk t.f15 cq:=
 λ_ _ _ _ _ _ hr=>(al (eN (bH (dA hr rfl) (aw (bx T) (by decide) hr rfl T.m9 T.F9.kp T.b9 (aa (iv 0) (aa ai ag rfl) rfl) (by decide) rfl rfl) ai (aX _)) (aq (aP (aE (dg rfl) (cw (aO (d7 (aa ai (aa (fN ai) ag rfl) rfl))) (aw (bx T) (by decide) hr rfl T.m9 T.F9.kp T.b9 (aa (iv 0) (aa ai ag rfl) rfl) (by decide) rfl rfl) rfl rfl) (aE oB (aE rp ai ai) (aw (bx T) (by decide) hr rfl T.m9 T.F9.kp T.b9 (aa (iv 0) (aa ai ag rfl) rfl) (by decide) rfl rfl))))) bV) (aq (aP (aw (iJ T) (by decide) hr rfl T.m10 T.F10.kp T.b10 (aa (iv 0) (aa (aO (d7 (aa ai (aa (fN ai) (aa ai (aa (fN ai) (aa ai (aa (fN ai) ag rfl) rfl) rfl) rfl) rfl) rfl))) ag rfl) rfl) (by decide) rfl rfl))))
theorem ky (T:Txt K mg t):bv P w K mg base CX0 3 t.f15 t.g15 ["_law_hand_here"] (spI K cy):=
 fm (N:=["_law_hand_here"]) (b:=cq) T.F15 kE (iT T)
theorem jS (T:Txt K mg t):Bdy P w K mg base 3 ["_law_hand_here","_law_kind","_law_n","_law_share","_law_some"] "_law_poly" cP t.f16 eI:=
 λ_ _ _ _ _ _ hr=>(al (aW (i:=3) fX.nd rfl (by first | exact Or.inl rfl | exact Or.inr rfl) (aE (cY rfl) ai (aw (bx T) (by decide) hr rfl T.m9 T.F9.kp T.b9 (aa (iv 0) (aa ai ag rfl) rfl) (by decide) rfl rfl)) rfl (by first | exact .inl rfl | exact .inr rfl)) (al (And.left (wz (i0:=4) fX.nd rfl (by first | exact Or.inl rfl | exact Or.inr rfl) (ec (aj cP).names ["_law_hand_here","_law_kind","_law_n","_law_share","_law_some"] ["_law_term","_law_hand_here","_law_share"] 1 [0,3] rfl rfl rfl (by decide +kernel)) rfl (by decide) (d6 (aw (iI T) (by decide) hr rfl T.m14 T.F14.kp T.b14 (aa (iv 2) ag rfl) (by decide) rfl rfl) rfl) (λ_ _ _ _ _=>(bU (aA (i:=0) (show List.Nodup (α:=Str) ["_law_term","_law_hand_here","_law_share"] by decide +kernel) rfl (by first | exact Or.inl rfl | exact Or.inr rfl)))) (λ_ _ _ _ _=>(jE (bH (dA hr rfl) (aw (bx T) (by decide) hr rfl T.m9 T.F9.kp T.b9 (aa (iv 1) (aa (iv 2) ag rfl) rfl) (by decide) rfl rfl) ai (aX _)))) (λ_ _ _ _ _=>(iv 0)) rfl (by first | exact .inl rfl | exact .inr rfl) (λ_=>rfl))) (aq (aP (dE (aa (iv 1) (aa (ge (hV rfl) rfl T.z_tuple PyProof.Rows.boot_tuple (aa (aO (eM (ec (aj cP).names ["_law_hand_here","_law_kind","_law_n","_law_share","_law_some"] ["_law_term","_law_hand_here"] 1 [0] rfl rfl rfl (by decide +kernel)) rfl (by decide) (d6 (iv 4) rfl) (λ_ _ _ _ _=>(bU (aA (i:=0) (show List.Nodup (α:=Str) ["_law_term","_law_hand_here"] by decide +kernel) rfl (by first | exact Or.inl rfl | exact Or.inr rfl)))) (λ_ _ _ _ _=>cU) (λ_ _ _ _ _=>(dE (aa (iv 0) (aa (aw (ky T) (by decide) hr rfl T.m15 T.F15.kp T.b15 (aa (iv 1) ag rfl) (by decide) rfl rfl) ag rfl) rfl))) (λ_=>rfl))) ag rfl) (by decide) (by decide) rfl rfl) ag rfl) rfl))))))
theorem mq (T:Txt K mg t):bv P w K mg base CX0 4 t.f16 t.g16 ["_law_hand_here","_law_kind","_law_n"] (spI K eS):=
 fm (N:=["_law_hand_here","_law_kind","_law_n","_law_share","_law_some"]) (b:=eI) T.F16 fX (jS T)
theorem hJ (T:Txt K mg t):Bdy P w K mg base 1 ["_law_hand_here","_law_poly_here","_law_top"] "_law_switches" bN t.f17 cD:=
 λ_ _ _ _ _ _ hr=>(al (aW (i:=2) fC.nd rfl (by first | exact Or.inl rfl | exact Or.inr rfl) (cM (uD rfl) rfl T.z_max PyProof.Rows.boot_max (aa (aE (cY rfl) (aO (d7 (aa (fN ai) ag rfl))) (aO (eM (ec (aj bN).names ["_law_hand_here","_law_poly_here","_law_top"] ["_law_term","_law_number_here"] 2 [] rfl rfl rfl (by decide +kernel)) rfl (by decide) (d6 (cw (iv 1) ai rfl rfl) rfl) (λ_ _ _ _ _=>(gu (bb (aA (i:=0) (show List.Nodup (α:=Str) ["_law_term","_law_number_here"] by decide +kernel) rfl (by first | exact Or.inl rfl | exact Or.inr rfl)) (bb (aA (i:=1) (show List.Nodup (α:=Str) ["_law_term","_law_number_here"] by decide +kernel) rfl (by first | exact Or.inl rfl | exact Or.inr rfl)) eL)) rfl rfl rfl rfl rfl)) (λ_ _ _ _ _=>(jE (bH (rn hr rfl) (iv 0) (dE ag) (aX _)))) (λ_ _ _ _ _=>(cw (iv 0) (fN ai) rfl rfl)) (λ_=>rfl)))) ag rfl) (by decide) (by decide) rfl rfl) rfl (by first | exact .inl rfl | exact .inr rfl)) (aq (aP (aE (cY rfl) (aE (cY rfl) (iv 2) ai) (aw (bx T) (by decide) hr rfl T.m9 T.F9.kp T.b9 (aa (iv 0) (aa (aE oB ai (iv 2)) ag rfl) rfl) (by decide) rfl rfl)))))
theorem jh (T:Txt K mg t):bv P w K mg base CX0 2 t.f17 t.g17 ["_law_hand_here","_law_poly_here"] (spI K cF):=
 fm (N:=["_law_hand_here","_law_poly_here","_law_top"]) (b:=cD) T.F17 fC (hJ T)
theorem iS (T:Txt K mg t):Bdy P w K mg base 6 ["_law_poly_here","_law_n","_law_found","e","_law_other"] "_law_answer" dj t.f18 cp:=
 λ_ _ _ _ _ _ hr=>(al (aW (i:=2) bF.nd rfl (by first | exact Or.inl rfl | exact Or.inr rfl) va rfl (by first | exact .inl rfl | exact .inr rfl)) (al (tM (i:=3) (i1:=2) (j1:=4) (x:="SignError") rfl bF.nd rfl (show 2 < 5 by decide) (show 4 < 5 by decide) (by decide) (by decide) (by decide) rfl (aq (aW (i:=2) bF.nd rfl (by first | exact Or.inl rfl | exact Or.inr rfl) (aw (oF T) (by decide) hr rfl T.m7 T.F7.kp T.b7 (aa (iv 0) (aa (iv 1) ag rfl) rfl) (by decide) rfl rfl) rfl (by first | exact .inl rfl | exact .inr rfl))) (λr _ _=>(mB (vX (i:=2) bF.nd rfl (by first | exact Or.inl rfl | exact Or.inr rfl) (ug (ny T r) (by decide) hr rfl T.m7 T.F7.kp T.b7 (aa (iv 0) (aa (iv 1) ag rfl) rfl) (by decide) rfl rfl) rfl (by first | exact .inl rfl | exact .inr rfl)))) rfl T.cm_SignError T.ch (λ_ _ _ _ _ _ hc hd hx=>qi hc hd hx bF.nd rfl rfl rfl rfl rfl rfl (by decide) (by decide) (by decide) rfl T.z_isinstance rfl T.cm_OnNought rfl T.cm_NoLine rfl T.cm_NoText rfl T.z_ValueError T.cx T.cr T.cT T.cL T.cV rfl (λ_=>rfl) (λ_=>rfl) rfl) (by decide)) (aq (aP (iv 2)))))
theorem eg (T:Txt K mg t):bv P w K mg base CX0 7 t.f18 t.g18 ["_law_poly_here","_law_n"] (spI K bj):=
 fm (N:=["_law_poly_here","_law_n","_law_found","e","_law_other"]) (b:=cp) T.F18 bF (iS T)
theorem ju (T:Txt K mg t):Bdy P w K mg base 7 ["_law_poly_here","_law_n","_law_values","_law_signs","_law_rows","_law_found"] "_law_right" bz t.f19 dH:=
 λ_ _ _ _ _ _ hr=>(al (aW (i:=2) cA.nd rfl (by first | exact Or.inl rfl | exact Or.inr rfl) (aO (eM (ec (aj bz).names ["_law_poly_here","_law_n","_law_values","_law_signs","_law_rows","_law_found"] ["_law_row","_law_poly_here"] 1 [0] rfl rfl rfl (by decide +kernel)) rfl (by decide) (gE rfl T.z_range (aa (aE rq ai (iv 1)) ag rfl) rfl) (λ_ _ _ _ _=>(bU (aA (i:=0) (show List.Nodup (α:=Str) ["_law_row","_law_poly_here"] by decide +kernel) rfl (by first | exact Or.inl rfl | exact Or.inr rfl)))) (λ_ _ _ _ _=>cU) (λ_ _ _ _ _=>(aw (la T) (by decide) hr rfl T.m13 T.F13.kp T.b13 (aa (iv 1) (aa (iv 0) ag rfl) rfl) (by decide) rfl rfl)) (λ_=>rfl))) rfl (by first | exact .inl rfl | exact .inr rfl)) (al (aW (i:=3) cA.nd rfl (by first | exact Or.inl rfl | exact Or.inr rfl) (ge (hV rfl) rfl T.z_tuple PyProof.Rows.boot_tuple (aa (aO (eM (ec (aj bz).names ["_law_poly_here","_law_n","_law_values","_law_signs","_law_rows","_law_found"] ["_law_value_here"] 1 [] rfl rfl rfl (by decide +kernel)) rfl (by decide) (d6 (iv 2) rfl) (λ_ _ _ _ _=>(bU (aA (i:=0) (show List.Nodup (α:=Str) ["_law_value_here"] by decide +kernel) rfl (by first | exact Or.inl rfl | exact Or.inr rfl)))) (λ_ _ _ _ _=>cU) (λ_ _ _ _ _=>(cw (aO (d7 (aa (ge jW rfl T.z_int PyProof.Rows.boot_int (aa (fM nt (iv 0) ai (aX _)) ag rfl) (by decide) (by decide) rfl rfl) (aa (fN ai) ag rfl) rfl))) (ge jW rfl T.z_int PyProof.Rows.boot_int (aa (fM uJ (iv 0) ai (aX _)) ag rfl) (by decide) (by decide) rfl rfl) rfl rfl)) (λ_=>rfl))) ag rfl) (by decide) (by decide) rfl rfl) rfl (by first | exact .inl rfl | exact .inr rfl)) (al (aW (i:=4) cA.nd rfl (by first | exact Or.inl rfl | exact Or.inr rfl) (ge (hV rfl) rfl T.z_tuple PyProof.Rows.boot_tuple (aa (aO (eM (ec (aj bz).names ["_law_poly_here","_law_n","_law_values","_law_signs","_law_rows","_law_found"] ["_law_row","_law_values"] 1 [2] rfl rfl rfl (by decide +kernel)) rfl (by decide) (gE rfl T.z_range (aa (aE rq ai (iv 1)) ag rfl) rfl) (λ_ _ _ _ _=>(bU (aA (i:=0) (show List.Nodup (α:=Str) ["_law_row","_law_values"] by decide +kernel) rfl (by first | exact Or.inl rfl | exact Or.inr rfl)))) (λ_ _ _ _ _=>(jE (bH (dA hr rfl) (cw (iv 1) (iv 0) rfl rfl) ai (aX _)))) (λ_ _ _ _ _=>(iv 0)) (λ_=>rfl))) ag rfl) (by decide) (by decide) rfl rfl) rfl (by first | exact .inl rfl | exact .inr rfl)) (al (eN (ow (ou (kj (ic (aw (cZ T 5) (by decide) hr rfl T.m11 T.F11.kp T.b11 (aa (aw (eV T) (by decide) hr rfl T.m5 T.F5.kp T.b5 (aa (iv 0) (aa (iv 1) ag rfl) rfl) (by decide) rfl rfl) (aa (iv 3) ag rfl) rfl) (by decide) rfl rfl) rfl rfl)) (l9 (kj (ic (aw (cZ T 5) (by decide) hr rfl T.m11 T.F11.kp T.b11 (aa (aw (lb T) (by decide) hr rfl T.m6 T.F6.kp T.b6 (aa (iv 0) (aa (iv 1) ag rfl) rfl) (by decide) rfl rfl) (aa (iv 4) ag rfl) rfl) (by decide) rfl rfl) rfl rfl))))) (aq (aP qK)) bV) (al (aW (i:=5) cA.nd rfl (by first | exact Or.inl rfl | exact Or.inr rfl) (aw (eg T) (by decide) hr rfl T.m18 T.F18.kp T.b18 (aa (iv 0) (aa (iv 1) ag rfl) rfl) (by decide) rfl rfl) rfl (by first | exact .inl rfl | exact .inr rfl)) (al (eN (bH (rn hr rfl) (iv 4) (dE ag) (aX _)) (aq (aP (j9 (cM (hU rfl) rfl T.z_isinstance PyProof.Rows.boot_isinstance (aa (iv 5) (aa (ka rfl T.z_list PyProof.Rows.boot_list (by decide) (by decide)) ag rfl) rfl) (by decide) (by decide) rfl rfl) (l6 (aw (cZ T 5) (by decide) hr rfl T.m11 T.F11.kp T.b11 (aa (cw (iv 5) ai rfl rfl) (aa (cw (iv 4) ai rfl rfl) ag rfl) rfl) (by decide) rfl rfl))))) bV) (aq (aP (aw (cZ T 5) (by decide) hr rfl T.m11 T.F11.kp T.b11 (aa (iv 5) (aa (ge (hV rfl) rfl T.z_tuple PyProof.Rows.boot_tuple (aa (aO (eM (ec (aj bz).names ["_law_poly_here","_law_n","_law_values","_law_signs","_law_rows","_law_found"] ["_law_value_here"] 1 [] rfl rfl rfl (by decide +kernel)) rfl (by decide) (d6 (iv 2) rfl) (λ_ _ _ _ _=>(bU (aA (i:=0) (show List.Nodup (α:=Str) ["_law_value_here"] by decide +kernel) rfl (by first | exact Or.inl rfl | exact Or.inr rfl)))) (λ_ _ _ _ _=>cU) (λ_ _ _ _ _=>(ge jW rfl T.z_int PyProof.Rows.boot_int (aa (fM nt (iv 0) ai (aX _)) ag rfl) (by decide) (by decide) rfl rfl)) (λ_=>rfl))) ag rfl) (by decide) (by decide) rfl rfl) ag rfl) rfl) (by decide) rfl rfl)))))))))
theorem gX (T:Txt K mg t):bv P w K mg base CX0 8 t.f19 t.g19 ["_law_poly_here","_law_n"] (spI K cW):=
 fm (N:=["_law_poly_here","_law_n","_law_values","_law_signs","_law_rows","_law_found"]) (b:=dH) T.F19 cA (ju T)
theorem qA (T:Txt K mg t):Bdy P w K mg base 8 ["_law_script","_law_k","_law_hand_here","_law_poly_here","_law_n"] "law" pz t.f20 o6:=
 λ_ _ _ _ _ _ hr=>(al (i9 (gE rfl T.z_range (aa (cM (uD rfl) rfl T.z_max PyProof.Rows.boot_max (aa ai (aa (cM (uZ rfl) rfl T.z_min PyProof.Rows.boot_min (aa ai (aa (cM (iW rfl) rfl T.z_len PySem.boot_len (aa (iv 0) ag rfl) (by decide) (by decide) rfl rfl) ag rfl) rfl) (by decide) (by decide) rfl rfl) ag rfl) rfl) (by decide) (by decide) rfl rfl) ag rfl) rfl) (bU (aA (i:=1) kF.nd rfl (by first | exact Or.inl rfl | exact Or.inr rfl))) (al (aW (i:=2) kF.nd rfl (by first | exact Or.inl rfl | exact Or.inr rfl) (aw (mo T) (by decide) hr rfl T.m8 T.F8.kp T.b8 (aa (iv 0) (aa (iv 1) ag rfl) rfl) (by decide) rfl rfl) rfl (by first | exact .inl rfl | exact .inr rfl)) (al (aW (i:=3) kF.nd rfl (by first | exact Or.inl rfl | exact Or.inr rfl) (aw (mq T) (by decide) hr rfl T.m16 T.F16.kp T.b16 (aa (iv 2) (aa (aw (iJ T) (by decide) hr rfl T.m10 T.F10.kp T.b10 (aa (iv 2) (aa (aO (d7 (aa i6 (aa i6 ag rfl) rfl))) ag rfl) rfl) (by decide) rfl rfl) (aa (aw (bx T) (by decide) hr rfl T.m9 T.F9.kp T.b9 (aa (iv 2) (aa ai ag rfl) rfl) (by decide) rfl rfl) ag rfl) rfl) rfl) (by decide) rfl rfl) rfl (by first | exact .inl rfl | exact .inr rfl)) (al (aW (i:=4) kF.nd rfl (by first | exact Or.inl rfl | exact Or.inr rfl) (aw (jh T) (by decide) hr rfl T.m17 T.F17.kp T.b17 (aa (iv 2) (aa (iv 3) ag rfl) rfl) (by decide) rfl rfl) rfl (by first | exact .inl rfl | exact .inr rfl)) (aq (eN (ow (ou (kj (ic (aw (gX T) (by decide) hr rfl T.m19 T.F19.kp T.b19 (aa (iv 3) (aa (iv 4) ag rfl) rfl) (by decide) rfl rfl) rfl rfl)) (l9 (kj (ic (aw (gX T) (by decide) hr rfl T.m19 T.F19.kp T.b19 (aa (iv 3) (aa (iv 4) ag rfl) rfl) (by decide) rfl rfl) rfl rfl))))) (aq (aP qK)) bV))))) PassesOwn.never rfl (λ_=>rfl)) (aq (aP (j9 (fM (dA hr rfl) (aw (eg T) (by decide) hr rfl T.m18 T.F18.kp T.b18 (aa (dE (aa i6 (aa (dE ag) ag rfl) rfl)) (aa ai ag rfl) rfl) (by decide) rfl rfl) (aO (d7 (aa ai ag rfl))) (aX _)) (l6 (fM (dA hr rfl) (aw (eg T) (by decide) hr rfl T.m18 T.F18.kp T.b18 (aa (dE (aa i6 (aa (dE (aa (dE (aa (dE (aa ai ag rfl)) (aa ai ag rfl) rfl)) ag rfl)) ag rfl) rfl)) (aa ai ag rfl) rfl) (by decide) rfl rfl) (aO (d7 (aa ai ag rfl))) (aX _)))))))
theorem vt (T:Txt K mg t):bv P w K mg base CX0 9 t.f20 t.g20 ["_law_script"] (spI K lB):=
 xI (N:=["_law_script","_law_k","_law_hand_here","_law_poly_here","_law_n"]) (b:=o6) T.F20 kF (qA T)
end
end Own
end
namespace L2
open PySem
noncomputable def Hd (st:Sto) (n:Nat) (Z:Int):Prop:=∃ x y z:Int,0<=x/\0<=z/\z<=Z/\st[n]?=some (.l [.int x,.int y,.int z])
noncomputable def Stw (n:Nat) (st st':Sto):Prop:=∃ v,st'=st.set n v
theorem Hd.lt {st:Sto}{n:Nat}{Z:Int} (h:Hd st n Z):n < st.length:=by
 obtain⟨x,y,z,_,_,_,e⟩:=h
 exact (List.getElem?_eq_some_iff.mp e).1
theorem Hd.mono {st:Sto}{n:Nat}{Z Z':Int} (h:Hd st n Z) (hz:Z<=Z'):Hd st n Z':=by
 obtain⟨x,y,z,a,b,c,e⟩:=h
 exact⟨x,y,z,a,b,Int.le_trans c hz,e⟩
theorem Stw.refl {st:Sto}{n:Nat} (h:n < st.length):Stw n st st:=⟨st[n],(List.set_getElem_self h).symm⟩
theorem Stw.trans {n:Nat}{a b c:Sto} (h:Stw n a b) (h':Stw n b c):Stw n a c:=by
 obtain⟨v,rfl⟩:=h
 obtain⟨u,rfl⟩:=h'
 exact⟨u,by rw [List.set_set]⟩
end L2
namespace L2
noncomputable def dv:Nat->List (List Int)
 | 0=>[[]]
 | n+1=>dv n++(dv n).map λt=>t++[(n:Int)]
noncomputable def il (n:Nat):List (List Int):=gv (dv n)
theorem iz:∀ n,(dv n).length=2 ^ n
 | 0=>rfl
 | n+1=>by rw [dv,List.length_append,List.length_map,iz n,Nat.pow_succ];lia
theorem qx (n:Nat):(il n).length=2 ^ n:=by rw [il,(eO _).length_eq,iz]
noncomputable def Trm (n:Nat) (t:List Int):Prop:=t.Pairwise (· < ·)/\∀ k ∈ t,0<=k/\k < n
theorem Trm.mono {n m:Nat}{t:List Int} (h:Trm n t) (hn:n<=m):Trm m t:=⟨h.1,λk hk=>⟨(h.2 k hk).1,by have:=(h.2 k hk).2;lia⟩⟩
theorem iA:∀ (n:Nat) {t:List Int},t ∈ dv n->Trm n t
 | 0,t,h=>by
  rw [dv,List.mem_singleton] at h
  subst h
  exact⟨List.Pairwise.nil,λk hk=>by cases hk⟩
 | n+1,t,h=>by
  rcases List.mem_append.mp h with h | h
  ·exact (iA n h).mono (Nat.le_succ n)
  ·obtain⟨u,hu,rfl⟩:=List.mem_map.mp h
   have:=iA n hu
   refine⟨List.pairwise_append.mpr ⟨this.1,List.pairwise_singleton _ _,λa ha b hb=>?_⟩,λk hk=>?_⟩
   ·rw [List.mem_singleton.mp hb];exact (this.2 a ha).2
   ·rcases List.mem_append.mp hk with hk | hk
    ·exact⟨(this.2 k hk).1,by have:=(this.2 k hk).2;lia⟩
    ·rw [List.mem_singleton.mp hk];lia
theorem qy {n:Nat}{t:List Int} (h:t ∈ il n):Trm n t:=iA n ((eO _).mem_iff.mp h)
theorem pF {n:Nat}{t:List Int} (h:Trm n t):t.length<=n:=by
 have key:∀ (t:List Int) (a:Int),t.Pairwise (· < ·)->(∀ k ∈ t,a<=k/\k < n)->(t.length:Int)<=max 0 ((n:Int) - a):=by
  intro t
  induction t with
  | nil=>intro a _ _;simp;lia
  | cons x t ih=>
   intro a hp hm
   have h1:=hm x List.mem_cons_self
   have:=ih (x+1) (List.pairwise_cons.mp hp).2 λk hk=>⟨(List.pairwise_cons.mp hp).1 k hk,(hm k (List.mem_cons_of_mem _ hk)).2⟩
   rw [List.length_cons];push_cast;lia
 have:=key t 0 h.1 h.2
 lia
noncomputable def onI (row k:Int):Int:=row / 2 ^ k.toNat % 2
noncomputable def gk (row:Int):List Int->Int
 | []=>0
 | k::t=>onI row k+gk row t
theorem pj (row k:Int):onI row k=0\/onI row k=1:=by unfold onI;lia
theorem mS (row:Int):∀ t:List Int,(t.map (onI row)).sum=gk row t
 | []=>rfl
 | k::t=>by rw [List.map_cons,List.sum_cons,mS row t];rfl
theorem o7 (row:Int):∀ t:List Int,0<=gk row t/\gk row t<=t.length
 | []=>by simp [gk]
 | k::t=>by
  have ih:=o7 row t
  rcases pj row k with e | e<;>(simp only [gk,e,List.length_cons];push_cast;lia)
theorem oN:∀ (ls:List (List Int)),lG (ls.map au)=some ((gv ls).map au)
 | []=>rfl
 | t::r=>by
  have e:cn ((t::r).map au)=none:=rfl
  unfold lG
  rw [e,kK];rfl
end L2
namespace L2
noncomputable def iX (b:Bool) (on:Int):Int:=if b=true then on else 1 - 2*on
end L2
namespace L2
open PySem
abbrev Prt:=List Int×Int
noncomputable def cz (p:Prt):D:=.tup [au p.1,.int p.2]
noncomputable def bd (kd:Str) (ps:List Prt):D:=.tup [.str kd,.tup (ps.map cz)]
noncomputable def hX (p:Prt):Prop:=Trm 6 p.1/\p.2≠0/\-1000000000000000000<=p.2/\p.2<=1000000000000000000
theorem qc {ps:List Prt}{i:Nat}{d:D} (h:(ps.map cz)[i]?=some d):∃ p,ps[i]?=some p/\d=.tup [au p.1,.int p.2]:=by
 rw [List.getElem?_map,Option.map_eq_some_iff] at h
 obtain⟨p,hp,rfl⟩:=h
 exact⟨p,hp,rfl⟩
theorem ko {te:Ef}{env:Ev}{st:Sto} (F:Prt->D):∀ {ps:List Prt},(∀ p ∈ ps,∃ e1,fk (.tp [0,1]) (.d (cz p)) env=some e1/\te e1 st=some (.d (F p),st))->lcI (.tp [0,1]) cR te env (ps.map cz) st=some (ps.map F,st)
 | [],_=>rfl
 | p::ps,h=>by
  obtain⟨e1,h1,h2⟩:=h p List.mem_cons_self
  have ih:=ko (te:=te) (env:=env) (st:=st) F (ps:=ps) λx hx=>h x (List.mem_cons_of_mem _ hx)
  rw [List.map_cons,List.map_cons]
  unfold lcI
  rw [h1,Option.bind_some,show cR e1 st=some (true,st) from rfl,Option.bind_some,if_pos rfl,h2,Option.bind_some,ih];rfl
theorem pe:∀ (ns:List Int) (m:Int),m<=iG ns m/\∀ n ∈ ns,n<=iG ns m
 | [],m=>⟨Int.le_refl _,λ_ h=>by cases h⟩
 | n::ns,m=>by
  have ih:=pe ns (if n > m then n else m)
  rw [iG]
  refine⟨Int.le_trans ?_ ih.1,λk hk=>?_⟩
  ·split<;>lia
  ·rcases List.mem_cons.mp hk with rfl | hk
   ·refine Int.le_trans ?_ ih.1
    split<;>lia
   ·exact ih.2 k hk
end L2
namespace L2
open PySem
theorem pf {M:Int}:∀ (ns:List Int) (m:Int),m<=M->(∀ n ∈ ns,n<=M)->iG ns m<=M
 | [],m,hm,_=>hm
 | n::ns,m,hm,h=>by
  rw [iG]
  refine pf ns _ ?_ λk hk=>h k (List.mem_cons_of_mem _ hk)
  have:=h n List.mem_cons_self
  split<;>lia
end L2
namespace L2
open PySem
theorem ao {g:Sto->W->W->Option D}{a b:Ef}{env:Ev}{st s1 s2:Sto}{x y:W}{d:D} (ha:a env st=some (x,s1)) (hb:b env s1=some (y,s2)) (hg:g s2 x y=some d):iOp g a b env st=some (.d d,s2):=by
 simp only [iOp,ha,hb,hg,Option.bind_some,Option.map_some]
theorem bg {g:Sto->W->W->Option D}{a b:Ef}{env:Ev}{st s1 s2:Sto}{x y:W}{k:Bool} (ha:a env st=some (x,s1)) (hb:b env s1=some (y,s2)) (hg:g s2 x y=some (.bl k)):bP g a b env st=some (k,s2):=by
 simp only [bP,ha,hb,hg,Option.bind_some,gZ,Option.map_some]
theorem ba {a b:Sf}{env e:Ev}{st s:Sto}{r:Fl} (ha:a env st=some (.nx e s)) (hb:b e s=some r):av a b env st=some r:=by
 simp only [av,ha,hb,Option.bind_some]
theorem mx {a b:Sf}{env:Ev}{st s:Sto}{w:W} (ha:a env st=some (.rt w s)):av a b env st=some (.rt w s):=by
 simp only [av,ha,Option.bind_some]
theorem aF {i:Nat}{f:Ef}{env:Ev}{st s:Sto}{w:W} (h:f env st=some (w,s)):bt (.nm i) f env st=some (.nx (env.set i (some w)) s):=by
 simp only [bt,h,Option.bind_some,fk,Option.map_some]
theorem az {m:Fn}{a:Af}{env:Ev}{st s:Sto}{ws:List W}{r:W×Sto} (ha:a env st=some (ws,s)) (hm:m ws s=some r):ax m a env st=some r:=by
 simp only [ax,ha,hm,Option.bind_some]
theorem c6 {g:Sto->List W->Option D}{a:Af}{env:Ev}{st s:Sto}{ws:List W}{d:D} (ha:a env st=some (ws,s)) (hm:g s ws=some d):iCB g a env st=some (.d d,s):=by
 simp only [iCB,ha,hm,Option.bind_some,Option.map_some]
theorem ah {a:Ef}{b:Af}{env:Ev}{st s1 s2:Sto}{x:W}{y:List W} (ha:a env st=some (x,s1)) (hb:b env s1=some (y,s2)):ae a b env st=some (x::y,s2):=by
 simp only [ae,ha,hb,Option.bind_some,Option.map_some]
theorem jJ {fi:Lf}{g:Tg}{b:Sf}{env:Ev}{st s:Sto}{ds:List D}{r:Fl} (h:fi env st=some (ds,s)) (hf:fK g b ds env s=some r):i4 fi g b env st=some r:=by
 simp only [i4,h,hf,Option.bind_some]
theorem bh {f:Ef}{env:Ev}{st s:Sto}{w:W} (h:f env st=some (w,s)):bf f env st=some (.rt w s):=by
 simp only [bf,h,Option.map_some]
theorem px {c:Tf}{a b:Sf}{env:Ev}{st s:Sto}{r:Option Fl} (h:c env st=some (true,s)) (ha:a env s=r):cm c a b env st=r:=by
 simp only [cm,h,Option.bind_some,if_true,ha]
theorem pv {c:Tf}{a b:Sf}{env:Ev}{st s:Sto}{r:Option Fl} (h:c env st=some (false,s)) (hb:b env s=r):cm c a b env st=r:=by
 simp only [cm,h,Option.bind_some,Bool.false_eq_true,if_false,hb]
theorem fU {k:Nat}{js:List Nat}{fi:Lf}{g:Tg}{tt:Tf}{te:Ef}{env:Ev}{st s s2:Sto}{ds ys:List D} (h:fi env st=some (ds,s)) (hl:ds.length<=1000000) (hc:lcI g tt te (gh k js env) ds s=some (ys,s2)):iLc k js fi g tt te env st=some (ys,s2):=by
 simp only [iLc,h,hc,hl,Option.bind_some,if_true]
theorem bD {a:Lf}{env:Ev}{st s:Sto}{ds:List D} (h:a env st=some (ds,s)):aD a env st=some (.d (.lst ds),s):=by
 simp only [aD,h,Option.map_some]
theorem aY {n k:Nat}{b:Sf}{ws:List W}{st s:Sto}{w:W} (hl:ws.length=k) (h:b (ws.map some++List.replicate (n - k) none) st=some (.rt w s)):bK n k b ws st=some (w,s):=by
 simp only [bK,hl,if_true,h,Option.bind_some]
end L2
set_option maxHeartbeats 1000000
namespace Own
open PySem L2
theorem tF {st:Sto}{n:Nat}{x y z:Int} (h:st[n]?=some (.l [.int x,.int y,.int z])):dIx st (.h n) (.d (.int 0))=some (.int x):=by
 show (lg st n).bind (λds=>atI ds 0)=_
 unfold lg;rw [h]
 show atI [D.int x,.int y,.int z] 0=_
 exact n4 _ _
theorem xO {st:Sto}{n:Nat}{x y z:Int} (h:st[n]?=some (.l [.int x,.int y,.int z])):dIx st (.h n) (.d (.int 1))=some (.int y):=by
 show (lg st n).bind (λds=>atI ds 1)=_
 unfold lg;rw [h]
 show atI [D.int x,.int y,.int z] 1=_
 exact n5 _ _ _
theorem wt {st:Sto}{n:Nat}{x y z:Int} (h:st[n]?=some (.l [.int x,.int y,.int z])):dIx st (.h n) (.d (.int 2))=some (.int z):=by
 show (lg st n).bind (λds=>atI ds 2)=_
 unfold lg;rw [h]
 show atI [D.int x,.int y,.int z] 2=_
 exact gD (j:=2) rfl
theorem wu {st:Sto}{n:Nat}{x y z v:Int} (h:st[n]?=some (.l [.int x,.int y,.int z])):lF st (.h n) (.d (.int 0)) (.d (.int v))=some (st.set n (.l [.int v,.int y,.int z])):=by
 show (lg st n).bind (λds=>(ixN ds.length 0).map λj=>st.set n (.l (ds.set j (.int v))))=_
 unfold lg;rw [h];rfl
theorem wv {st:Sto}{n:Nat}{x y z v:Int} (h:st[n]?=some (.l [.int x,.int y,.int z])):lF st (.h n) (.d (.int 2)) (.d (.int v))=some (st.set n (.l [.int x,.int y,.int v])):=by
 show (lg st n).bind (λds=>(ixN ds.length 2).map λj=>st.set n (.l (ds.set j (.int v))))=_
 unfold lg;rw [h];rfl
theorem lD {o i v:Ef}{env:Ev}{st s1 s2 s3 s4:Sto}{x wo wi:W} (h:v env st=some (x,s1)) (h1:o env s1=some (wo,s2)) (h2:i env s2=some (wi,s3)) (h3:lF s3 wo wi x=some s4):i5 o i v env st=some (.nx env s4):=by
 simp only [i5,h,h1,h2,h3,Option.bind_some,Option.map_some]
theorem gW (s:Sto) {a b:Int} (h:PySem.IntMulOk a b):dL s (.d (.int a)) (.d (.int b))=some (.int (a*b)):=if_pos h
theorem gU (s:Sto) {a b:Int} (h:0 < b):iu s (.d (.int a)) (.d (.int b))=some (.int (a % b)):=if_pos h
theorem lW (s:Sto) {a b:Int} (h:0 < b/\b < 1073741824):jX s (.d (.int a)) (.d (.int b))=some (.int (a / b)):=if_pos h
theorem wr (s:Sto) {a b:Int}{k:Bool} (h:decide (a > b)=k):dGt s (.d (.int a)) (.d (.int b))=some (.bl k):=by rw [<-h];rfl
theorem e8 {st:Sto}{n:Nat}{m Z:Int} (h:Hd st n Z) (hZ:Z < 1000000000) (m0:0 < m) (m1:m < 1073741824):∃ r st',0<=r/\r < m/\Stw n st st'/\Hd st' n (Z+1)/\bn [.h n,.d (.int m)] st=some (.d (.int r),st'):=by
 have hn:=h.lt
 obtain⟨x,y,z,h0,z0,z1,h⟩:=h
 by_cases hx:0 < x
 ·refine⟨x % m,st.set n (.l [.int (x / m),.int y,.int z]),Int.emod_nonneg _ (by lia),Int.emod_lt_of_pos _ m0,⟨_,rfl⟩,⟨_,_,_,Int.ediv_nonneg h0 (by lia),z0,by lia,l4 hn⟩,?_⟩
  exact aY (n:=6) (k:=2) (b:=dn) rfl (mx (px (bg (ao rfl rfl (tF h)) rfl (wr _ (decide_eq_true hx))) (ba (aF (i:=2) (ao (ao rfl rfl (tF h)) rfl (gU _ m0))) (ba (lD (ao (ao rfl rfl (tF h)) rfl (lW _ ⟨m0,m1⟩)) rfl rfl (wu h)) (bh rfl)))))
 ·have hq:∃ Zq:Int,z+1=Zq/\0<=Zq/\Zq<=1000000000:=⟨_,rfl,by lia,by lia⟩
  obtain⟨Zq,eZ,q0,q1⟩:=hq
  have g2:(st.set n (.l [.int x,.int y,.int Zq]))[n]?=some (.l [.int x,.int y,.int Zq]):=l4 hn
  obtain⟨u,hu⟩:∃ u,y*(48271+2*Zq*Zq+65537*Zq) % 2305843009213693921=u:=⟨_,rfl⟩
  have u0:0<=u:=by rw [<-hu];exact Int.emod_nonneg _ (by decide)
  have u1:u < 2305843009213693921:=by rw [<-hu];exact Int.emod_lt_of_pos _ (by decide)
  have k4:PySem.IntMulOk y (48271+2*Zq*Zq+65537*Zq):=by
   have a1:0<=2*Zq*Zq:=Int.mul_nonneg (by lia) q0
   have a2:2*Zq*Zq<=2*Zq*1000000000:=Int.mul_le_mul_of_nonneg_left q1 (by lia)
   exact gG ⟨by lia,by lia⟩
  have k6:∀ q,PySem.IntMulOk u q:=λq=>gF ⟨by lia,by lia⟩
  have hz1:dr st (.d (.int z)) (.d (.int 1))=some (.int Zq):=by rw [<-eZ];rfl
  refine⟨(u*(u % 1000003+Zq*99991+11) % 2305843009213693907 / 97+u*(u % 1000003+Zq*99991+11) % 2305843009213693907 / 1000033) % m,st.set n (.l [.int x,.int y,.int Zq]),Int.emod_nonneg _ (by lia),Int.emod_lt_of_pos _ m0,⟨_,rfl⟩,⟨_,_,_,h0,q0,by lia,l4 hn⟩,?_⟩
  have hs2:=wv (v:=Zq) h
  generalize st.set n (.l [.int x,.int y,.int Zq])=s2 at *
  refine aY (n:=6) (k:=2) (b:=dn) rfl (ba (pv (bg (ao rfl rfl (tF h)) rfl (wr _ (decide_eq_false hx))) rfl) (ba (lD (ao (ao rfl rfl (wt h)) rfl hz1) rfl rfl hs2) (ba (aF (i:=3) (ao rfl rfl (wt g2))) (ba (aF (i:=4) (w:=.d (.int u)) ?_) (ba (aF (i:=5) (ao (ao (ao rfl rfl (gU _ (by decide))) (ao rfl rfl (gW _ (gG (by decide)))) rfl) rfl rfl)) (ba (aF (i:=4) (ao (ao rfl rfl (gW _ (k6 _))) rfl (gU _ (by decide)))) (bh (ao (ao (ao rfl rfl (lW _ (by decide))) (ao rfl rfl (lW _ (by decide))) rfl) rfl (gU _ m0)))))))))
  rw [<-hu]
  exact ao (ao (ao rfl rfl (xO g2)) (ao (ao rfl (ao (ao rfl rfl (gW _ (gF (by decide)))) rfl (gW _ (gG ⟨by lia,by lia⟩))) rfl) (ao rfl rfl (gW _ (gF (by decide)))) rfl) (gW _ k4)) rfl (gU _ (by decide))
theorem wE (s:Sto) {a b:Int}{k:Bool} (h:decide (a < b)=k):dLt s (.d (.int a)) (.d (.int b))=some (.bl k):=by rw [<-h];rfl
theorem tz {st:Sto}{ns:List Int}{k:Nat}:∃ st',Hd st' st.length 0/\st'.length=st.length+1/\st'.take st.length=st/\gw [.d (.scr ns),.d (.int k)] st=some (.h st.length,st'):=by
 obtain⟨c,hc⟩:∃ c:Int,av (bt (.nm 2) (iC (.int 0))) (cm (bP dLt (iV 1) (iCB ir (ae (iV 0) ak))) (bt (.nm 2) (iOp dIx (iV 0) (iV 1))) bT) [some (.d (.scr ns)),some (.d (.int k)),none] st=some (.nx [some (.d (.scr ns)),some (.d (.int k)),some (.d (.int c))] st):=by
  by_cases hk:k < ns.length
  ·refine⟨ns[k],ba (aF (i:=2) (w:=.d (.int 0)) rfl) (px (bg rfl rfl (wE _ (decide_eq_true (show (k:Int) < ((ns.map D.int).length:Nat) by rw [List.length_map];lia)))) (aF (i:=2) (ao rfl rfl (d:=.int ns[k]) (gD (by rw [List.getElem?_map,List.getElem?_eq_getElem hk];rfl)))))⟩
  ·exact⟨0,ba (aF (i:=2) (w:=.d (.int 0)) rfl) (pv (bg rfl rfl (wE _ (decide_eq_false (show ¬ (k:Int) < ((ns.map D.int).length:Nat) by rw [List.length_map];lia)))) rfl)⟩
 have hx:∃ x:Int,0<=x/\iOp dIx (aD (dw (ae (iC (.int 0)) (ae (iV 2) ak)))) (iCB iq (ae (iOp dGe (iV 2) (iOp kW (iC (.int 10)) (iC (.int 18)))) ak)) [some (.d (.scr ns)),some (.d (.int k)),some (.d (.int c))] st=some (.d (.int x),st):=by
  have hp:kW st (.d (.int 10)) (.d (.int 18))=some (.int (10 ^ Int.toNat 18)):=by
   show (if lK 10 18 then some (D.int (10 ^ Int.toNat 18)) else none)=_
   rw [if_pos p18]
  have q1:aD (dw (ae (iC (.int 0)) (ae (iV 2) ak))) [some (.d (.scr ns)),some (.d (.int k)),some (.d (.int c))] st=some (.d (.lst [.int 0,.int c]),st):=rfl
  cases hb:decide (c>=10 ^ Int.toNat 18) with
  | false=>exact⟨0,by decide,ao q1 (c6 (d:=.int 0) (ah (ao rfl (ao rfl rfl hp) (d:=.bl false) (by rw [<-hb];rfl)) rfl) rfl) (show atI [D.int 0,.int c] 0=_ from n4 _ _)⟩
  | true=>
   refine⟨c,?_,ao q1 (c6 (d:=.int 1) (ah (ao rfl (ao rfl rfl hp) (d:=.bl true) (by rw [<-hb];rfl)) rfl) rfl) (show atI [D.int 0,.int c] 1=_ from n5 _ _ _)⟩
   have h1:c>=10 ^ Int.toNat 18:=of_decide_eq_true hb
   have h2:(0:Int)<=10 ^ Int.toNat 18:=by decide
   lia
 obtain⟨x,x0,hx⟩:=hx
 refine⟨st++[.l [.int x,.int (c % 2305843009213693951+7919*(k:Int)+3),.int 0]],⟨x,c % 2305843009213693951+7919*(k:Int)+3,0,x0,by decide,by decide,?_⟩,by rw [List.length_append];rfl,List.take_left,?_⟩
 ·rw [List.getElem?_append_right (Nat.le_refl _),Nat.sub_self];rfl
 ·have q2:iOp dr (iOp dr (iOp iu (iV 2) (iC (.int 2305843009213693951))) (iOp dL (iC (.int 7919)) (iV 1))) (iC (.int 3)) [some (.d (.scr ns)),some (.d (.int k)),some (.d (.int c))] st=some (.d (.int (c % 2305843009213693951+7919*(k:Int)+3)),st):=ao (ao (ao rfl rfl (gU _ (by decide))) (ao rfl rfl (gW _ (gF (by decide)))) rfl) rfl rfl
  generalize c % 2305843009213693951+7919*(k:Int)+3=y at *
  have q3:bf (oi (dw (ae (iOp dIx (aD (dw (ae (iC (.int 0)) (ae (iV 2) ak)))) (iCB iq (ae (iOp dGe (iV 2) (iOp kW (iC (.int 10)) (iC (.int 18)))) ak))) (ae (iOp dr (iOp dr (iOp iu (iV 2) (iC (.int 2305843009213693951))) (iOp dL (iC (.int 7919)) (iV 1))) (iC (.int 3))) (ae (iC (.int 0)) ak))))) [some (.d (.scr ns)),some (.d (.int k)),some (.d (.int c))] st=some (.rt (.h st.length) (st++[.l [.int x,.int y,.int 0]])):=by
   refine bh ?_
   have q4:=ah (a:=iOp dIx (aD (dw (ae (iC (.int 0)) (ae (iV 2) ak)))) (iCB iq (ae (iOp dGe (iV 2) (iOp kW (iC (.int 10)) (iC (.int 18)))) ak))) hx (ah (b:=ae (iC (.int 0)) ak) q2 rfl)
   simp only [oi,dw,q4,Option.bind_some,gM,Option.map_some,List.length_cons,List.length_nil,show (3:Nat)<=1000 by decide,if_true]
  have q5:=hc
  simp only [av,Option.bind_eq_some_iff] at q5
  obtain⟨r1,f1,f2⟩:=q5
  cases f1
  exact aY (n:=3) (k:=2) (b:=eF) rfl (ba (aF (i:=2) (w:=.d (.int 0)) rfl) (ba f2 q3))
theorem pr {st:Sto}{n:Nat}{ds:List D}{Z:Int} (h:Hd st n Z) (hZ:Z < 1000000000) (h0:ds≠[]) (h1:ds.length < 1000000):∃ d st',d ∈ ds/\Stw n st st'/\Hd st' n (Z+1)/\eR [.h n,.d (.lst ds)] st=some (.d d,st'):=by
 have hp:0 < ds.length:=List.length_pos_iff.mpr h0
 obtain⟨r,s1,r0,r1,t1,t2,e1⟩:=e8 h hZ (m:=(ds.length:Int)) (by lia) (by lia)
 obtain⟨j,rfl⟩:=Int.eq_ofNat_of_zero_le r0
 have hj:j < ds.length:=by lia
 have e2:atI ds (j:Int)=some ds[j]:=gD (List.getElem?_eq_getElem hj)
 exact⟨ds[j],s1,List.getElem_mem hj,t1,t2,aY (n:=2) (k:=2) (b:=eG) rfl (bh (ao rfl (az (ah rfl (ah (c6 rfl rfl) rfl)) e1) e2))⟩
end Own
set_option maxHeartbeats 1000000
namespace Own
open PySem L2
theorem jK {a:Af}{env:Ev}{st s:Sto}{ws:List W}{ds:List D} (h:a env st=some (ws,s)) (hd:gM ws=some ds) (hl:ds.length<=1000:=by decide):cu a env st=some (.d (.tup ds),s):=by
 simp only [cu,h,hd,hl,Option.bind_some,if_true]
theorem mw {a:Af}{env:Ev}{st s:Sto}{ws:List W}{ds:List D} (h:a env st=some (ws,s)) (hd:gM ws=some ds) (hl:ds.length<=1000:=by decide):dw a env st=some (ds,s):=by
 simp only [dw,h,hd,hl,Option.bind_some,if_true]
theorem mz {e:Ef}{z:Int}{m:Nat}{env:Ev}{st s:Sto} (he:e env st=some (.d (.int z),s)) (h0:0<=z) (h1:z<=1000) (hm:z.toNat=m):de (ae e ak) env st=some (eB 0 m,s):=by
 have hb:-(2 ^ 62)<=z/\z < 2 ^ 62:=⟨Int.le_trans (by decide) h0,Int.lt_of_le_of_lt h1 (by decide)⟩
 have h2:=ah (b:=ak) he rfl
 simp only [de,h2,Option.bind_some,hb,and_self,if_true,hm]
theorem jc {f:Ef}{env:Ev}{st s:Sto}{ds:List D} (h:f env st=some (.d (.lst ds),s)):bq f env st=some (ds,s):=by
 simp only [bq,h,Option.bind_some]
theorem jd {f:Ef}{env:Ev}{st s:Sto}{ds:List D} (h:f env st=some (.d (.tup ds),s)):bq f env st=some (ds,s):=by
 simp only [bq,h,Option.bind_some]
theorem rS {c:Tf}{a b:Ef}{env:Ev}{st s:Sto}{r:Option (W×Sto)} (h:c env st=some (true,s)) (ha:a env s=r):iB c a b env st=r:=by
 simp only [iB,h,Option.bind_some,if_true,ha]
theorem rR {c:Tf}{a b:Ef}{env:Ev}{st s:Sto}{r:Option (W×Sto)} (h:c env st=some (false,s)) (hb:b env s=r):iB c a b env st=r:=by
 simp only [iB,h,Option.bind_some,Bool.false_eq_true,if_false,hb]
theorem xp (s:Sto) (ns:List Int):lU s [.d (.lst (ns.map D.int))]=some (.int ns.sum):=by
 show (cn (ns.map D.int)).map (λns=>D.int ns.sum)=_
 rw [d8];rfl
theorem xo (s:Sto) {a b:Int} (h:0<=b):sZ s (.d (.int a)) (.d (.int b))=some (.int (a / 2 ^ b.toNat)):=if_pos h
theorem iy (s:Sto) (a b:Int):dEq s (.d (.int a)) (.d (.int b))=some (.bl (a==b)):=by
 show ((eqK (.fl (.int a)) (.fl (.int b))).map λk=>D.bl k)=_
 rfl
theorem uE (s:Sto) (a b:Str):dEq s (.d (.str a)) (.d (.str b))=some (.bl (a==b)):=by
 show ((eqK (.fl (.str a)) (.fl (.str b))).map λk=>D.bl k)=_
 rfl
theorem uT (s:Sto) {a b:List D} (h:a.length+b.length<=1000000):dr s (.d (.lst a)) (.d (.lst b))=some (.lst (a++b)):=if_pos h
theorem uU (s:Sto) {a b:List D} (h:a.length+b.length<=1000000):dr s (.d (.tup a)) (.d (.tup b))=some (.tup (a++b)):=if_pos h
theorem nB {st:Sto}{k:Int} (hk0:0<=k) (hk:k<=60):cb [.d (.int k)] st=some (.d (.int (2 ^ k.toNat)),st):=by
 obtain⟨env',s2,e2,o,rfl,rfl⟩:=gt (g:=.nm 2) (body:=ft) (ds:=eB 0 k.toNat) (λi env s=>∃ o,env=[some (.d (.int k)),some (.d (.int (2 ^ i))),o]/\s=st) (env:=[some (.d (.int k)),some (.d (.int 1)),none]) (st:=st)
  ⟨none,rfl,rfl⟩ (λi d env s hd ⟨o,e,es⟩=>by
   subst e es
   obtain⟨rfl,hi⟩:=iL hd
   have km:PySem.IntMulOk (2 ^ i:Int) 2:=gG (by decide)
   have e1:(2 ^ i:Int)*2=2 ^ (i+1):=by rw [Int.pow_succ]
   refine⟨_,[some (.d (.int k)),some (.d (.int (2 ^ (i+1)))),some (.d (.int i))],s,rfl,.inl ?_,_,rfl,rfl⟩
   generalize (2 ^ i:Int)=p at km e1
   rw [<-e1]
   exact aF (i:=1) (ao rfl rfl (gW _ km)))
 rw [gA] at e2
 generalize (2 ^ k.toNat:Int)=q at e2 ⊢
 exact aY (n:=3) (k:=1) (b:=cQ) rfl (ba (aF (i:=1) (w:=.d (.int 1)) rfl) (ba (jJ (mz rfl hk0 (by lia) rfl) e2) (bh rfl)))
theorem qg {j:Nat} (h:j<=20):(0:Int) < 2 ^ j/\(2:Int) ^ j < 1073741824:=by
 have h1:∀ m:Nat,m<=20->2 ^ m<=2 ^ 20:=λm hm=>Nat.pow_le_pow_right (by decide) hm
 have h2:(2:Nat) ^ 20=1048576:=by decide
 have h3:=h1 j h
 have h4:((2 ^ j:Nat):Int)=(2:Int) ^ j:=by push_cast;rfl
 have h5:0 < 2 ^ j:=Nat.pow_pos (by decide)
 lia
theorem tR {st:Sto}{row k:Int} (k0:0<=k) (k1:k<=20):mj [.d (.int row),.d (.int k)] st=some (.d (.int (onI row k)),st):=by
 have h:=qg (j:=k.toNat) (by lia)
 have e:=nB (st:=st) k0 (by lia)
 unfold onI
 generalize (2 ^ k.toNat:Int)=q at h e ⊢
 exact aY (n:=2) (k:=2) (b:=jA) rfl (bh (ao (ao rfl (az rfl e) (lW _ ⟨h.1,h.2⟩)) rfl (gU _ (by decide))))
noncomputable def dD (b:Bool) (t:List Int) (row:Int):Int:=if b=true then (if gk row t=(t.length:Int) then 1 else 0) else (if gk row t % 2=1 then -1 else 1)
noncomputable def aJ (b:Bool):Str:=if b=true then "both" else "odd"
theorem lA (b:Bool):(aJ b==("both" : Str))=b:=by cases b<;>decide
theorem sF {st:Sto}{b:Bool}{t:List Int}{row:Int} (ht:∀ k ∈ t,0<=k/\k<=20) (hl:t.length<=1000):ij [.d (.str (aJ b)),.d (au t),.d (.int row)] st=some (.d (.int (dD b t row)),st):=by
 have key:lcI (.nm 0) cR dM [none,some (.d (.int row))] (t.map D.int) st=some ((t.map D.int).map λd=>match d with | .int k=>.int (onI row k) | d=>d,st):=eQ _ λd hd=>by
  obtain⟨k,hk,rfl⟩:=List.mem_map.mp hd
  exact⟨_,rfl,az rfl (tR (st:=st) (row:=row) (ht k hk).1 (ht k hk).2)⟩
 have e1:((t.map D.int).map λd=>match d with | .int k=>.int (onI row k) | d=>d)=(t.map (onI row)).map D.int:=by rw [List.map_map,List.map_map];rfl
 rw [e1] at key
 have hsm:=xp st (t.map (onI row))
 rw [mS] at hsm
 have hlm:(t.map D.int).length<=1000000:=by rw [List.length_map];lia
 have hle:ir st [.d (au t)]=some (.int (t.length:Int)):=by
  show some (D.int (((t.map D.int).length:Nat):Int))=_
  rw [List.length_map]
 have kb:dEq st (.d (.str (aJ b))) (.d (.str "both"))=some (.bl b):=by rw [uE,lA]
 have hv:dD b t row=if b=true then (if (gk row t==(t.length:Int))=true then 1 else 0) else (if (gk row t % 2==(1:Int))=true then -1 else 1):=by simp only [dD,beq_iff_eq]
 rw [hv]
 have first:∀ (tl:Sf) (r:Option Fl),tl [some (.d (.str (aJ b))),some (.d (au t)),some (.d (.int row)),some (.d (.int (gk row t)))] st=r->av (bt (.nm 3) (iCB lU (ae (aD (iLc 1 [2] (bq (iV 1)) (.nm 0) cR dM)) ak))) tl [some (.d (.str (aJ b))),some (.d (au t)),some (.d (.int row)),none] st=r:=λtl r h=>by
  have q:bt (.nm 3) (iCB lU (ae (aD (iLc 1 [2] (bq (iV 1)) (.nm 0) cR dM)) ak)) [some (.d (.str (aJ b))),some (.d (au t)),some (.d (.int row)),none] st=some (.nx [some (.d (.str (aJ b))),some (.d (au t)),some (.d (.int row)),some (.d (.int (gk row t)))] st):=aF (i:=3) (c6 (ah (bD (fU (jd rfl) hlm key)) rfl) hsm)
  simp only [av,q,Option.bind_some,h]
 generalize aJ b=kd at *
 generalize au t=tt at *
 cases b with
 | true=>
  cases hq:(gk row t==(t.length:Int)) with
  | true=>exact aY (n:=4) (k:=3) (b:=cH) rfl (first _ _ (mx (px (bg rfl rfl kb) (bh (rS (bg rfl (c6 rfl hle) (by rw [iy,hq])) rfl)))))
  | false=>exact aY (n:=4) (k:=3) (b:=cH) rfl (first _ _ (mx (px (bg rfl rfl kb) (bh (rR (bg rfl (c6 rfl hle) (by rw [iy,hq])) rfl)))))
 | false=>
  cases hq:(gk row t % 2==(1:Int)) with
  | true=>exact aY (n:=4) (k:=3) (b:=cH) rfl (first _ _ (ba (pv (bg rfl rfl kb) rfl) (bh (rS (bg (ao rfl rfl (gU _ (by decide))) rfl (by rw [iy,hq])) rfl))))
  | false=>exact aY (n:=4) (k:=3) (b:=cH) rfl (first _ _ (ba (pv (bg rfl rfl kb) rfl) (bh (rR (bg (ao rfl rfl (gU _ (by decide))) rfl (by rw [iy,hq])) rfl))))
theorem mP {st:Sto}{n:Int} (n0:0<=n) (n1:n<=6):df [.d (.int n)] st=some (.d (.lst ((il n.toNat).map au)),st):=by
 obtain⟨env',s2,e2,o,rfl,rfl⟩:=gt (g:=.nm 2) (body:=d9) (ds:=eB 0 n.toNat) (λi env s=>∃ o,env=[some (.d (.int n)),some (.d (.lst ((dv i).map au))),o]/\s=st) (env:=[some (.d (.int n)),some (.d (.lst [.tup []])),none]) (st:=st)
  ⟨none,rfl,rfl⟩ (λi d env s hd ⟨o,e,es⟩=>by
   subst e es
   obtain⟨rfl,hi⟩:=iL hd
   have hl:(dv i).length<=64:=by
    rw [iz]
    exact Nat.le_trans (Nat.pow_le_pow_right (by decide) (by lia:i<=6)) (by decide)
   have key:lcI (.nm 0) cR dX [none,some (.d (.int i))] ((dv i).map au) s=some (((dv i).map au).map λd=>match d with | .tup ds=>.tup (ds++[.int i]) | d=>d,s):=eQ _ λd hd=>by
    obtain⟨t,ht,rfl⟩:=List.mem_map.mp hd
    have htl:=pF (iA i ht)
    have hk:(t.map D.int).length+1<=1000000:=by rw [List.length_map];lia
    exact⟨_,rfl,ao rfl (jK (ds:=[.int i]) (ah rfl rfl) rfl (by show 1<=1000;decide)) (uU _ hk)⟩
   have e1:(((dv i).map au).map λd=>match d with | .tup ds=>.tup (ds++[.int i]) | d=>d)=((dv i).map λt=>t++[(i:Int)]).map au:=by
    rw [List.map_map,List.map_map]
    refine List.map_congr_left λt _=>?_
    show D.tup (t.map D.int++[.int i])=D.tup ((t++[(i:Int)]).map D.int)
    rw [List.map_append];rfl
   rw [e1] at key
   have e3:(dv (i+1)).map au=(dv i).map au++((dv i).map λt=>t++[(i:Int)]).map au:=by rw [dv,List.map_append]
   have h1:((dv i).map au).length<=1000000:=by rw [List.length_map];lia
   have h2:((dv i).map au).length+(((dv i).map λt=>t++[(i:Int)]).map au).length<=1000000:=by simp only [List.length_map];lia
   refine⟨_,[some (.d (.int n)),some (.d (.lst ((dv (i+1)).map au))),some (.d (.int i))],s,rfl,.inl ?_,_,rfl,rfl⟩
   rw [e3]
   generalize ((dv i).map λt=>t++[(i:Int)]).map au=B at key h2 ⊢
   generalize (dv i).map au=A at key h1 h2 ⊢
   exact aF (i:=1) (ao rfl (bD (fU (jc rfl) h1 key)) (uT _ h2)))
 rw [gA] at e2
 have hl:((dv n.toNat).map au).length<=64:=by
  rw [List.length_map,iz]
  exact Nat.le_trans (Nat.pow_le_pow_right (by decide) (by lia:n.toNat<=6)) (by decide)
 have hs:lG ((dv n.toNat).map au)=some ((il n.toNat).map au):=oN _
 generalize (dv n.toNat).map au=A at e2 hl hs
 generalize (il n.toNat).map au=B at hs ⊢
 have hst:kn s2 [.d (.lst A)]=some B:=by
  show (if A.length<=64 then lG A else none)=_
  rw [if_pos hl,hs]
 have hq:iCL kn (ae (iV 1) ak) [some (.d (.int n)),some (.d (.lst A)),o] s2=some (B,s2):=by
  have q:=ah (a:=iV 1) (b:=ak) (env:=[some (.d (.int n)),some (.d (.lst A)),o]) (st:=s2) (x:=.d (.lst A)) rfl rfl
  simp only [iCL,q,Option.bind_some,hst,Option.map_some]
 exact aY (n:=3) (k:=1) (b:=cf) rfl (ba (aF (i:=1) (bD (mw (ds:=[.tup []]) (ah (jK (ds:=[]) rfl rfl (by decide)) rfl) rfl (by show 1<=1000;decide)))) (ba (jJ (mz rfl n0 (by lia) rfl) e2) (bh (bD hq))))
end Own
set_option maxHeartbeats 1000000
namespace Own
open PySem L2
theorem pZ {st:Sto}{h:Nat}{Z:Int} (hh:Hd st h Z) (hZ:Z+3<=1000000):∃ c st',c≠0/\-1000000000000000000<=c/\c<=1000000000000000000/\Stw h st st'/\Hd st' h (Z+3)/\cy [.h h] st=some (.d (.int c),st'):=by
 have p18':lK 10 18:=p18
 obtain⟨r,s1,r0,r1,w1,h1,e1⟩:=e8 hh (m:=8) (by lia) (by decide) (by decide)
 by_cases b0:r=0
 ·subst b0
  obtain⟨g,s2,g0,g1,w2,h2,e2⟩:=e8 h1 (m:=2) (by lia) (by decide) (by decide)
  obtain⟨k,s3,k0,k1,w3,h3,e3⟩:=e8 h2 (m:=1000) (by lia) (by decide) (by decide)
  have hx:∃ x:Int,(x=1\/x=-1)/\atI [D.int 1,.int (-1)] g=some (.int x):=by
   have:g=0\/g=1:=by lia
   rcases this with rfl | rfl
   ·exact⟨1,.inl rfl,n4 _ _⟩
   ·exact⟨-1,.inr rfl,n5 _ _ _⟩
  obtain⟨x,x1,hx⟩:=hx
  have km:∀ q,PySem.IntMulOk x q:=λq=>gF (by rcases x1 with rfl | rfl<;>decide)
  have e18:(10:Int) ^ Int.toNat 18=1000000000000000000:=by decide
  refine⟨x*(10 ^ Int.toNat 18 - k),s3,?_,?_,?_,(w1.trans w2).trans w3,h3.mono (by lia),?_⟩
  ·rw [e18];rcases x1 with rfl | rfl<;>lia
  ·rw [e18];rcases x1 with rfl | rfl<;>lia
  ·rw [e18];rcases x1 with rfl | rfl<;>lia
  ·simp only [cy,cq,iV,iC,iOp,bP,iUn,ak,ae,ax,dw,aD,bT,av,bf,cm,bK,gM,gZ,eD,dIx,oh,dL,kW,dEq,eP,eqK,eqD,gm,Option.bind_some,Option.map_some,List.getD_cons_zero,List.map_cons,List.map_nil,List.length_cons,List.length_nil,List.replicate_zero,List.cons_append,List.nil_append,Nat.reduceAdd,Nat.reduceSub,if_true,Nat.zero_add,lg,Nat.reduceLeDiff,Int.reduceNeg,e1,e2,e3,hx,km,p18',beq_self_eq_true,show (2:Nat)<=1000 by decide]
 ·have f0:(r==(0:Int))=false:=by simp [b0]
  obtain⟨d,s2,m2,w2,h2,e2⟩:=pr (ds:=[.int 1,.int (-1),.int 2,.int (-2),.int 3,.int (-3)]) h1 (by lia) (by simp) (by simp)
  have hd:∃ c:Int,d=.int c/\c≠0/\-3<=c/\c<=3:=by
   simp only [List.mem_cons,List.not_mem_nil,or_false] at m2
   rcases m2 with rfl | rfl | rfl | rfl | rfl | rfl<;>exact⟨_,rfl,by decide,by decide,by decide⟩
  obtain⟨c,rfl,c0,c1,c2⟩:=hd
  refine⟨c,s2,c0,by lia,by lia,w1.trans w2,h2.mono (by lia),?_⟩
  simp only [cy,cq,iV,iC,iOp,bP,iUn,ak,ae,ax,dw,aD,bT,av,bf,cm,bK,gM,gZ,eD,dIx,oh,dL,kW,dEq,eP,eqK,eqD,gm,Option.bind_some,Option.map_some,List.getD_cons_zero,List.map_cons,List.map_nil,List.length_cons,List.length_nil,List.replicate_zero,List.cons_append,List.nil_append,Nat.reduceAdd,Nat.reduceSub,if_true,if_false,Bool.false_eq_true,Nat.zero_add,lg,Nat.reduceLeDiff,Int.reduceNeg,e1,e2,f0,show (6:Nat)<=1000 by decide]
theorem oY {n:Int} (n1:n<=6):(il n.toNat).length<=64:=by
 rw [qx];exact Nat.le_trans (Nat.pow_le_pow_right (by decide) (by lia:n.toNat<=6)) (by decide)
theorem t8 {st:Sto}{h:Nat}{kd:Str}{n Z:Int} (hh:Hd st h Z) (hZ:Z+300<=1000000) (n0:0<=n) (n1:n<=6):∃ ps st',(∀ p ∈ ps,hX p)/\(ps.map Prod.fst).Sublist (il n.toNat)/\Stw h st st'/\Hd st' h (Z+300)/\eS [.h h,.d (.str kd),.d (.int n)] st=some (.d (bd kd ps),st'):=by
 obtain⟨r,s1,r0,r1,w1,h1,e1⟩:=e8 hh (m:=5) (by lia) (by decide) (by decide)
 have ea:=mP (st:=s1) n0 n1
 have hl:=oY n1
 obtain⟨us,s2,e2,w2,h2,ts,et,hs⟩:=iD (g:=.nm 0) (tt:=dm) (te:=gQ) (env:=[none,some (.h h),some (.d (.int (1+r)))]) (ds:=(il n.toNat).map au)
  (λi ys s=>Stw h s1 s/\Hd s h (Z+1+i)/\∃ ts:List (List Int),ys=ts.map au/\ts.Sublist ((il n.toNat).take i)) (st:=s1) (ys0:=[]) ⟨Stw.refl h1.lt,h1.mono (by lia),[],rfl,List.Sublist.refl _⟩ (λi d ys s hd ⟨p1,p2,ts,p3,p4⟩=>by
   rw [List.getElem?_map,Option.map_eq_some_iff] at hd
   obtain⟨t,ht,rfl⟩:=hd
   have hi:=(List.getElem?_eq_some_iff.mp ht)
   have hi':=hi.1
   obtain⟨k,s3,k0,k1,w3,h3,e3⟩:=e8 p2 (m:=1+r) (by lia) (by lia) (by lia)
   have htk:(il n.toNat).take (i+1)=(il n.toNat).take i++[t]:=by rw [List.take_succ_eq_append_getElem hi.1,hi.2]
   refine⟨[some (.d (au t)),some (.h h),some (.d (.int (1+r)))],rfl,?_⟩
   have et:dm [some (.d (au t)),some (.h h),some (.d (.int (1+r)))] s=some (k==(0:Int),s3):=by
    generalize au t=tt
    simp only [dm,iV,iC,bP,ak,ae,ax,gZ,dEq,eP,eqK,eqD,Option.bind_some,Option.map_some,List.getD_cons_zero,List.getD_cons_succ,lg,e3]
   by_cases b0:k=0
   ·subst b0
    exact .inl ⟨s3,au t,s3,et,rfl,p1.trans w3,h3.mono (by push_cast;lia),ts++[t],by rw [p3,List.map_append];rfl,by rw [htk];exact p4.append (List.Sublist.refl _)⟩
   ·have f0:(k==(0:Int))=false:=by simp [b0]
    rw [f0] at et
    exact .inr ⟨s3,et,p1.trans w3,h3.mono (by push_cast;lia),ts,p3,by rw [htk];exact p4.trans (List.sublist_append_left _ _)⟩)
 rw [List.nil_append] at et
 rw [List.length_map] at hs h2
 rw [List.take_length] at hs
 have htl:ts.length<=64:=Nat.le_trans hs.length_le hl
 obtain⟨vs,s3,e3,w3,h3,ps,ep,hp1,hp2⟩:=iD (g:=.nm 0) (tt:=cR) (te:=fg) (env:=[none,some (.h h)]) (ds:=ts.map au)
  (λi ys s=>Stw h s2 s/\Hd s h (Z+65+3*i)/\∃ ps:List Prt,ys=ps.map cz/\ps.map Prod.fst=ts.take i/\∀ p ∈ ps,hX p) (st:=s2) (ys0:=[]) ⟨Stw.refl h2.lt,h2.mono (by lia),[],rfl,rfl,λ_ h=>nomatch h⟩ (λi d ys s hd ⟨p1,p2,ps,p3,p4,p5⟩=>by
   rw [List.getElem?_map,Option.map_eq_some_iff] at hd
   obtain⟨t,ht,rfl⟩:=hd
   have hi:=(List.getElem?_eq_some_iff.mp ht)
   have hi':=hi.1
   obtain⟨c,s4,c0,c1,c2,w4,h4,e4⟩:=pZ p2 (by lia)
   have hfit:Trm 6 t:=(qy (hs.subset (List.mem_of_getElem? ht))).mono (by lia)
   refine⟨[some (.d (au t)),some (.h h)],rfl,.inl ⟨s,cz (t,c),s4,rfl,?_,p1.trans w4,h4.mono (by push_cast;lia),ps++[(t,c)],by rw [p3,List.map_append];rfl,by rw [List.map_append,p4,List.take_succ_eq_append_getElem hi.1,hi.2];rfl,λp hp=>?_⟩⟩
   ·unfold cz
    generalize au t=tt
    simp only [fg,iV,ak,ae,ax,cu,gM,Option.bind_some,Option.map_some,List.getD_cons_zero,List.getD_cons_succ,List.length_cons,List.length_nil,Nat.reduceAdd,if_true,Nat.zero_add,e4,show (2:Nat)<=1000 by decide]
   ·rcases List.mem_append.mp hp with hp | hp
    ·exact p5 p hp
    ·rw [List.mem_singleton.mp hp];exact⟨hfit,c0,c1,c2⟩)
 rw [List.nil_append] at ep
 rw [List.length_map,List.take_length] at hp1
 rw [List.length_map] at h3
 refine⟨ps,s3,hp2,by rw [hp1];exact hs,(w1.trans w2).trans w3,h3.mono (by lia),?_⟩
 have hz1:((il n.toNat).map au).length<=1000000:=by rw [List.length_map];lia
 have hz2:(ts.map au).length<=1000000:=by rw [List.length_map];lia
 rw [et] at e2
 rw [ep] at e3
 unfold bd
 generalize ps.map cz=PP at e3 ⊢
 generalize ts.map au=TT at e2 e3 hz2
 generalize (il n.toNat).map au=AA at e2 ea hz1
 simp only [eS,eI,iV,iC,iOp,ak,ae,iCB,ax,cu,aD,av,bt,bf,iLc,bq,bK,fk,gM,gh,eD,lsD,dr,lV,Option.bind_some,Option.map_some,List.getD_cons_zero,List.getD_cons_succ,List.set_cons_zero,List.set_cons_succ,List.map_cons,List.map_nil,List.length_cons,List.length_nil,List.replicate_succ,List.replicate_zero,List.cons_append,List.nil_append,Nat.reduceAdd,Nat.reduceSub,if_true,Nat.zero_add,lg,e1,ea,hz1,e2,hz2,e3,show (2:Nat)<=1000 by decide]
theorem nC (b:Bool) (row:Int):∀ (t:List Int) (a:Int),(t.foldl (λv k=>v*iX b (onI row k)) a)=a*dD b t row
 | [],a=>by cases b<;>simp [dD,gk]
 | k::t,a=>by
  rw [List.foldl_cons,nC b row t]
  have hc:=o7 row t
  rw [Int.mul_assoc]
  congr 1
  cases b with
  | true=>
   simp only [iX,if_true,dD,gk,List.length_cons]
   rcases pj row k with e | e
   ·simp only [e,Int.zero_mul]
    split
    ·push_cast at *;lia
    ·rfl
   ·simp only [e,Int.one_mul]
    split<;>split<;>first | rfl | (push_cast at *;lia)
  | false=>
   simp only [iX,Bool.false_eq_true,if_false,dD,gk]
   rcases pj row k with e | e
   ·simp only [e,Int.zero_add]
    split<;>rfl
   ·simp only [e]
    split<;>split<;>first | rfl | lia
theorem sE (b:Bool) (t:List Int) (row:Int):-1<=dD b t row/\dD b t row<=1:=by
 unfold dD
 split<;>split<;>lia
theorem uq {st:Sto}{b:Bool}{t:List Int}{row:Int} (ht:∀ k ∈ t,0<=k/\k<=20):cX [.d (.str (aJ b)),.d (au t),.d (.int row)] st=some (.d (.int (dD b t row)),st):=by
 obtain⟨env',s2,e2,o4,o5,rfl,rfl⟩:=gt (g:=.nm 4) (body:=dG) (ds:=t.map D.int) (λi env s=>∃ o4 o5,env=[some (.d (.str (aJ b))),some (.d (au t)),some (.d (.int row)),some (.d (.int ((t.take i).foldl (λv k=>v*iX b (onI row k)) 1))),o4,o5]/\s=st)
  (env:=[some (.d (.str (aJ b))),some (.d (au t)),some (.d (.int row)),some (.d (.int 1)),none,none]) (st:=st) ⟨none,none,rfl,rfl⟩ (λi d env s hd ⟨o4,o5,e,es⟩=>by
   subst e es
   rw [List.getElem?_map,Option.map_eq_some_iff] at hd
   obtain⟨k,hk,rfl⟩:=hd
   have hk0:=(ht k (List.mem_of_getElem? hk)).1
   obtain⟨hi,hk'⟩:=List.getElem?_eq_some_iff.mp hk
   have e1:(t.take (i+1)).foldl (λv k=>v*iX b (onI row k)) 1=(t.take i).foldl (λv k=>v*iX b (onI row k)) 1*iX b (onI row k):=by
    rw [List.take_succ_eq_append_getElem hi,List.foldl_append,hk'];rfl
   have hf:∃ x,atI [D.int (1 - 2*onI row k),.int (onI row k)] (if b=true then 1 else 0)=some (.int (iX b (onI row k)))/\x=iX b (onI row k):=by
    cases b with
    | true=>exact⟨_,n5 _ _ _,rfl⟩
    | false=>exact⟨_,n4 _ _,rfl⟩
   obtain⟨_,hf,_⟩:=hf
   have km:∀ q,PySem.IntMulOk q (iX b (onI row k)):=λq=>gG (by rcases pj row k with e | e<;>(rw [e];cases b<;>decide))
   have k2:∀ q,PySem.IntMulOk 2 q:=λq=>gF (by decide)
   refine⟨_,[some (.d (.str (aJ b))),some (.d (au t)),some (.d (.int row)),some (.d (.int ((t.take (i+1)).foldl (λv k=>v*iX b (onI row k)) 1))),some (.d (.int k)),some (.d (.int (onI row k)))],s,rfl,.inl ?_,_,_,rfl,rfl⟩
   rw [e1]
   have kb:=lA b
   have eo:row / 2 ^ k.toNat % 2=onI row k:=rfl
   generalize (t.take i).foldl (λv k=>v*iX b (onI row k)) 1=p
   generalize aJ b=kd at kb ⊢
   generalize au t=tt
   generalize iX b (onI row k)=q at hf km ⊢
   have kb':dEq s (.d (.str kd)) (.d (.str "both"))=some (.bl b):=by rw [uE,kb]
   have hf':dIx s (.d (.lst [.int (1 - 2*onI row k),.int (onI row k)])) (.d (.int (if b=true then 1 else 0)))=some (.int q):=hf
   exact ba (aF (i:=5) (w:=.d (.int (onI row k))) (ao (ao rfl rfl (xo _ hk0)) rfl (gU _ (by decide)))) (aF (i:=3) (ao rfl (ao (bD (mw (ds:=[.int (1 - 2*onI row k),.int (onI row k)]) (ah (ao rfl (ao rfl rfl (gW _ (k2 _))) rfl) (ah rfl rfl)) rfl (by show 2<=1000;decide))) (c6 (ah (ao rfl rfl kb') rfl) rfl) hf') (gW _ (km _)))))
 rw [List.length_map,List.take_length,nC,Int.one_mul] at e2
 generalize dD b t row=v at e2 ⊢
 generalize aJ b=kd at e2 ⊢
 exact aY (n:=6) (k:=3) (b:=bQ) rfl (ba (aF (i:=3) (w:=.d (.int 1)) rfl) (ba (jJ (jd rfl) e2) (bh rfl)))
noncomputable def cB (b:Bool) (ps:List Prt) (row:Int):Int:=(ps.map λp=>p.2*dD b p.1 row).sum
theorem xA {n:Nat}{t:List Int} (h:Trm n t) (hn:n<=6):∀ k ∈ t,0<=k/\k<=20:=λk hk=>⟨(h.2 k hk).1,by have:=(h.2 k hk).2;lia⟩
theorem qH {p:Prt} (h:hX p):∀ k ∈ p.1,0<=k/\k<=20:=xA h.1 (Nat.le_refl 6)
theorem u6 {p:Prt} (h:hX p):p.1.length<=6:=pF h.1
theorem wJ (b:Bool) (t:List Int) (row c:Int):PySem.IntMulOk c (dD b t row):=gG (by have:=sE b t row;lia)
theorem oW {st:Sto}{b:Bool}{ps:List Prt}{row:Int} (hp:∀ p ∈ ps,hX p) (hl:ps.length<=1000):fQ [.d (bd (aJ b) ps),.d (.int row)] st=some (.d (.int (cB b ps row)),st):=by
 have key:lcI (.tp [0,1]) cR fH [none,none,some (.d (bd (aJ b) ps)),some (.d (.int row))] (ps.map cz) st=some (ps.map λp=>.int (p.2*dD b p.1 row),st):=ko _ λp hm=>by
  refine⟨_,rfl,?_⟩
  have e:=sF (st:=st) (b:=b) (row:=row) (qH (hp p hm)) (by have:=u6 (hp p hm);lia)
  have km:=wJ b p.1 row p.2
  unfold bd
  generalize ps.map cz=PP
  generalize aJ b=kd at e ⊢
  generalize au p.1=tt at e ⊢
  simp only [fH,iV,iC,iOp,ak,ae,ax,fD,eD,dIx,dL,Option.bind_some,Option.map_some,List.getD_cons_zero,List.getD_cons_succ,List.set_cons_zero,List.set_cons_succ,if_true,n4,lg,Int.reduceNeg,e,km]
 have hs:cn (ps.map λp=>.int (p.2*dD b p.1 row))=some (ps.map λp=>p.2*dD b p.1 row):=by
  have:=d8 (ps.map λp=>p.2*dD b p.1 row)
  rw [List.map_map] at this;exact this
 have hz:(ps.map cz).length<=1000000:=by rw [List.length_map];lia
 unfold cB
 generalize ps.map (λp=>p.2*dD b p.1 row)=L at hs ⊢
 generalize (ps.map λp=>D.int (p.2*dD b p.1 row))=LD at key hs
 unfold bd at key ⊢
 generalize ps.map cz=PP at key hz ⊢
 generalize aJ b=kd at key ⊢
 simp only [fQ,fG,iV,iC,iOp,ak,ae,iCB,aD,bf,iLc,bq,bK,gh,eD,dIx,lU,Option.bind_some,Option.map_some,List.getD_cons_zero,List.getD_cons_succ,List.map_cons,List.map_nil,List.length_cons,List.length_nil,List.replicate_succ,List.replicate_zero,List.cons_append,List.nil_append,Nat.reduceAdd,Nat.reduceSub,if_true,n5,Nat.zero_add,lg,hz,key,hs]
theorem nk {st:Sto}{b:Bool}{ps:List Prt}{row:Int} (hp:∀ p ∈ ps,hX p) (hl:ps.length<=1000):dO [.d (bd (aJ b) ps),.d (.int row)] st=some (.d (.int (cB b ps row)),st):=by
 have key:lcI (.tp [0,1]) cR d0 [none,none,some (.d (bd (aJ b) ps)),some (.d (.int row))] (ps.map cz) st=some (ps.map λp=>.int (p.2*dD b p.1 row),st):=ko _ λp hm=>by
  refine⟨_,rfl,?_⟩
  have e:=uq (st:=st) (b:=b) (row:=row) (qH (hp p hm))
  have km:=wJ b p.1 row p.2
  unfold bd
  generalize ps.map cz=PP
  generalize aJ b=kd at e ⊢
  generalize au p.1=tt at e ⊢
  simp only [d0,iV,iC,iOp,ak,ae,ax,fD,eD,dIx,dL,Option.bind_some,Option.map_some,List.getD_cons_zero,List.getD_cons_succ,List.set_cons_zero,List.set_cons_succ,if_true,n4,lg,Int.reduceNeg,e,km]
 have hs:cn (ps.map λp=>.int (p.2*dD b p.1 row))=some (ps.map λp=>p.2*dD b p.1 row):=by
  have:=d8 (ps.map λp=>p.2*dD b p.1 row)
  rw [List.map_map] at this;exact this
 have hz:(ps.map cz).length<=1000000:=by rw [List.length_map];lia
 unfold cB
 generalize ps.map (λp=>p.2*dD b p.1 row)=L at hs ⊢
 generalize (ps.map λp=>D.int (p.2*dD b p.1 row))=LD at key hs
 unfold bd at key ⊢
 generalize ps.map cz=PP at key hz ⊢
 generalize aJ b=kd at key ⊢
 simp only [dO,dI,iV,iC,iOp,ak,ae,iCB,aD,bf,iLc,bq,bK,gh,eD,dIx,lU,Option.bind_some,Option.map_some,List.getD_cons_zero,List.getD_cons_succ,List.map_cons,List.map_nil,List.length_cons,List.length_nil,List.replicate_succ,List.replicate_zero,List.cons_append,List.nil_append,Nat.reduceAdd,Nat.reduceSub,if_true,n5,Nat.zero_add,lg,hz,key,hs]
end Own
set_option maxHeartbeats 1000000
namespace Own
open PySem L2
theorem qV {st:Sto}{ps:List Prt} (hp:∀ p ∈ ps,hX p):∃ ls:List Int,ls.length<=ps.length/\(∀ p ∈ ps,∀ k ∈ p.1,∃ l ∈ ls,k<=l)/\(∀ l ∈ ls,l<=5)/\lcI (.tp [0,1]) bA bR [none,none] (ps.map cz) st=some (ls.map D.int,st):=by
 obtain⟨us,s2,e2,rfl,ls,eu,g1,g2,g3⟩:=iD (g:=.tp [0,1]) (tt:=bA) (te:=bR) (env:=[none,none]) (ds:=ps.map cz)
  (λi ys s=>s=st/\∃ ls:List Int,ys=ls.map D.int/\ls.length<=i/\(∀ p ∈ ps.take i,∀ k ∈ p.1,∃ l ∈ ls,k<=l)/\∀ l ∈ ls,l<=5) (st:=st) (ys0:=[]) ⟨rfl,[],rfl,Nat.le_refl _,(λp hm=>by cases hm),(λl hm=>by cases hm)⟩ (λi d ys s hd ⟨es,ls,p1,p2,p3,p4⟩=>by
   subst es
   obtain⟨p,hpi,rfl⟩:=qc hd
   have hi:=List.getElem?_eq_some_iff.mp hpi
   have ht:=hp p (List.mem_of_getElem? hpi)
   refine⟨_,rfl,?_⟩
   have htk:ps.take (i+1)=ps.take i++[p]:=by rw [List.take_succ_eq_append_getElem hi.1,hi.2]
   rcases List.eq_nil_or_concat p.1 with h0 | ⟨u,l,h0⟩
   ·refine .inr ⟨s,?_,rfl,ls,p1,by lia,λq hq k hk=>?_,p4⟩
    ·have hne:∀ s,dNe s (.d (au p.1)) (.d (.tup []))=some (.bl false):=λs=>by rw [h0];rfl
     generalize au p.1=tt at hne
     simp only [bA,iV,bP,ak,cu,fD,gM,gZ,Option.bind_some,Option.map_some,List.getD_cons_zero,List.set_cons_zero,List.set_cons_succ,List.length_nil,if_true,hne,show (0:Nat)<=1000 by decide]
    ·rw [htk] at hq
     rcases List.mem_append.mp hq with hq | hq
     ·exact p3 q hq k hk
     ·rw [List.mem_singleton.mp hq,h0] at hk;cases hk
   ·rw [List.concat_eq_append] at h0
    have hlast:atI (p.1.map D.int) (-1)=some (.int l):=by rw [h0,List.map_append];exact qz _ _
    have hne:∀ s,dNe s (.d (au p.1)) (.d (.tup []))=some (.bl true):=λs=>by
     rw [h0]
     cases u<;>rfl
    have hl5:l<=5:=by have:=(ht.1.2 l (by rw [h0];simp)).2;lia
    refine .inl ⟨s,.int l,s,?_,?_,rfl,ls++[l],by rw [p1,List.map_append];rfl,by simp;lia,λq hq k hk=>?_,λx hx=>?_⟩
    ·generalize au p.1=tt at hne
     simp only [bA,iV,bP,ak,cu,fD,gM,gZ,Option.bind_some,Option.map_some,List.getD_cons_zero,List.set_cons_zero,List.set_cons_succ,List.length_nil,if_true,hne,show (0:Nat)<=1000 by decide]
    ·unfold au
     generalize p.1.map D.int=tt at hlast
     simp only [bR,iV,iC,iOp,iUn,fD,eD,dIx,gm,Option.bind_some,Option.map_some,List.getD_cons_zero,List.set_cons_zero,List.set_cons_succ,lg,Int.reduceNeg,hlast]
    ·rw [htk] at hq
     rcases List.mem_append.mp hq with hq | hq
     ·obtain⟨x,hx,hk⟩:=p3 q hq k hk
      exact⟨x,List.mem_append_left _ hx,hk⟩
     ·rw [List.mem_singleton.mp hq] at hk
      refine⟨l,by simp,?_⟩
      have hpw:=ht.1.1
      rw [h0] at hpw hk
      rcases List.mem_append.mp hk with hk | hk
      ·exact Int.le_of_lt ((List.pairwise_append.mp hpw).2.2 k hk l (by simp))
      ·rw [List.mem_singleton.mp hk];exact Int.le_refl _
    ·rcases List.mem_append.mp hx with hx | hx
     ·exact p4 x hx
     ·rw [List.mem_singleton.mp hx];exact hl5)
 rw [List.nil_append] at eu
 rw [List.length_map] at g1
 rw [List.length_map,List.take_length] at g2
 exact⟨ls,g1,g2,g3,by rw [e2,eu]⟩
theorem nS {st:Sto}{h:Nat}{kd:Str}{ps:List Prt}{Z:Int} (hh:Hd st h Z) (hZ:Z<=1000) (hp:∀ p ∈ ps,hX p) (hl:ps.length<=1000):∃ n st',0<=n/\n<=6/\Stw h st st'/\Hd st' h (Z+1)/\cF [.h h,.d (bd kd ps)] st=some (.d (.int n),st'):=by
 obtain⟨ls,l1,l2,l3,el⟩:=qV (st:=st) hp
 have hmx:∃ top:Int,iG ls (-1)=top/\-1<=top/\top<=5:=⟨_,rfl,(pe ls (-1)).1,pf ls _ (by lia) l3⟩
 obtain⟨top,etop,t0,t1⟩:=hmx
 obtain⟨m,s1,m0,m1,w1,h1,et⟩:=e8 hh (m:=6 - top) (by lia) (by lia) (by lia)
 refine⟨top+1+m,s1,by lia,by lia,w1,h1,?_⟩
 have hz:(ps.map cz).length<=1000000:=by rw [List.length_map];lia
 have hz2:1+(ls.map D.int).length<=1000000:=by rw [List.length_map];lia
 have hi:cn (.int (-1)::ls.map D.int)=some (-1::ls):=by
  have:=d8 (-1::ls)
  exact this
 have hmd:rh (-1::ls) none=some top:=by rw [<-etop];rfl
 have eP1:∀ s,dIx s (.d (bd kd ps)) (.d (.int 1))=some (.tup (ps.map cz)):=λs=>by unfold bd;simp only [dIx,eD,Option.bind_some,n5]
 generalize bd kd ps=P at eP1 ⊢
 generalize ps.map cz=PP at el hz eP1
 generalize ls.map D.int=LL at el hz2 hi
 simp only [cF,cD,iV,iC,iOp,iUn,ak,ae,iCB,ax,dw,aD,av,bt,bf,iLc,bq,bK,fk,gM,gh,lsD,dr,oh,gm,lsI,dMx,Option.bind_some,Option.map_some,List.getD_cons_zero,List.getD_cons_succ,List.set_cons_zero,List.set_cons_succ,List.map_cons,List.map_nil,List.length_cons,List.length_nil,List.replicate_succ,List.replicate_zero,List.cons_append,List.nil_append,Nat.reduceAdd,Nat.reduceSub,if_true,Nat.zero_add,lg,Int.reduceNeg,eP1,hz,el,hz2,hi,hmd,et,show (1:Nat)<=1000 by decide]
end Own
set_option maxHeartbeats 1000000
namespace Own
open PySem L2
noncomputable def smD:Nat->D->Prop
 | 0,_=>False
 | n+1,d=>(∃ i,d=.int i)\/(∃ x,d=.str x)\/∃ ds,d=.tup ds/\ds.length<=1000000/\∀ e ∈ ds,smD n e
theorem iM:∀ {n:Nat}{d:D}{st:Sto},smD n d->aG n [.d d,.d d] st=some (.d (.bl true),st)
 | 0,d,st,h=>h.elim
 | n+1,d,st,h=>by
  rcases h with⟨i,rfl⟩ | ⟨x,rfl⟩ | ⟨ds,rfl,hl,h⟩
  ·simp only [aG,bZ,iV,iC,iOp,bP,ly,fo,fq,kY,h8,ak,ae,iCB,aD,bT,av,bf,cm,iLc,bK,gZ,blW,gh,eD,dEq,dNe,eP,eqK,eqD,ir,oO,j8,qE,jx,mJ,nc,l8,ng,k7,iP,Option.bind_some,Option.map_some,Option.bind_none,Option.map_none,List.getD_cons_zero,List.getD_cons_succ,List.map_cons,List.map_nil,List.length_cons,List.length_nil,List.replicate_succ,List.replicate_zero,List.cons_append,List.nil_append,Nat.reduceAdd,Nat.reduceSub,if_true,if_false,Bool.false_eq_true,Bool.not_false,Nat.zero_add,lg,beq_self_eq_true]
  ·simp only [aG,bZ,iV,iC,iOp,bP,ly,fo,fq,kY,h8,ak,ae,iCB,aD,bT,av,bf,cm,iLc,bK,gZ,blW,gh,eD,dEq,dNe,eP,eqK,eqD,ir,oO,j8,qE,jx,mJ,nh,k8,iP,Option.bind_some,Option.map_some,List.getD_cons_zero,List.getD_cons_succ,List.map_cons,List.map_nil,List.length_cons,List.length_nil,List.replicate_succ,List.replicate_zero,List.cons_append,List.nil_append,Nat.reduceAdd,Nat.reduceSub,if_true,if_false,Bool.false_eq_true,Bool.not_false,Nat.zero_add,lg,beq_self_eq_true]
  ·have key:lcI (.tp [0,1]) cR (fh (aG n)) [none,none] (fZ ds ds) st=some ((fZ ds ds).map λ_=>.bl true,st):=eQ _ λd hd=>by
    obtain⟨i,hi⟩:=List.mem_iff_getElem?.mp hd
    rw [kM] at hi
    obtain⟨e,he,hi⟩:=Option.bind_eq_some_iff.mp hi
    rw [he] at hi
    cases hi
    have hm:e ∈ ds:=List.mem_of_getElem? he
    exact⟨_,rfl,by simp only [fh,iV,ak,ae,ax,fD,Option.bind_some,Option.map_some,List.getD_cons_zero,List.getD_cons_succ,List.set_cons_zero,List.set_cons_succ,iM (h e hm)]⟩
   have hb:iU ((fZ ds ds).map λ_=>D.bl true)=some ((fZ ds ds).map λ_=>true):=by
    have:=jV ((fZ ds ds).map λ_=>true)
    rw [List.map_map] at this
    exact this
   have hz:(fZ ds ds).length<=1000000:=by rw [kN];lia
   have ha:(((fZ ds ds).map λ_=>true).all id)=true:=by simp
   have hne:((ds.length:Int)==(ds.length:Int))=true:=by simp
   simp only [aG,bZ,j8,oO,iV,iC,iOp,bP,ly,fo,fq,kY,h8,ak,ae,iCB,aD,bT,av,bf,cm,iLc,bK,gZ,blW,gh,eD,dEq,dNe,eP,eqK,eqD,ir,oO,j8,qE,jx,mJ,jz,iP,Option.bind_some,Option.map_some,List.getD_cons_zero,List.getD_cons_succ,List.map_cons,List.map_nil,List.length_cons,List.length_nil,List.replicate_succ,List.replicate_zero,List.cons_append,List.nil_append,Nat.reduceAdd,Nat.reduceSub,if_true,if_false,Bool.false_eq_true,Bool.not_true,Nat.zero_add,lg,key,hb,hz,ha,hne]
theorem dC {a b:Sf}{env e:Ev}{st s:Sto}{r:Option Fl} (h:a env st=some (.nx e s)) (hb:b e s=r):av a b env st=r:=by simp only [av,h,Option.bind_some,hb]
theorem wZ {a b:Sf}{env:Ev}{st s:Sto}{w:W} (h:a env st=some (.rt w s)):av a b env st=some (.rt w s):=by simp only [av,h,Option.bind_some]
theorem vT {c:Tf}{a b:Sf}{env:Ev}{st s:Sto}{r:Option Fl} (h:c env st=some (true,s)) (ha:a env s=r):cm c a b env st=r:=by simp only [cm,h,Option.bind_some,if_true,ha]
theorem rQ {c:Tf}{a b:Sf}{env:Ev}{st s:Sto}{r:Option Fl} (h:c env st=some (false,s)) (hb:b env s=r):cm c a b env st=r:=by simp only [cm,h,Option.bind_some,Bool.false_eq_true,if_false,hb]
theorem rT {f:Tf}{env:Ev}{st s:Sto}{k:Bool} (h:f env st=some (k,s)):fq f env st=some (!k,s):=by simp only [fq,h,Option.map_some]
theorem uM {a b:Tf}{env:Ev}{st s:Sto}{r:Option (Bool×Sto)} (ha:a env st=some (false,s)) (hb:b env s=r):kY a b env st=r:=by simp only [kY,ha,Option.bind_some,Bool.false_eq_true,if_false,hb]
theorem vU {f:Ef}{env:Ev}{st s:Sto}{k:Bool} (h:f env st=some (.d (.bl k),s)):h8 iP f env st=some (k,s):=by simp only [h8,h,Option.bind_some];rfl
theorem wY {a b:Ef}{env:Ev}{st s:Sto}{y:Bool} (ha:a env st=some (.d (.bl true),s)) (hb:b env s=some (.d (.bl y),s)):fo a b env st=some (.d (.bl y),s):=by simp only [fo,ha,Option.bind_some,hb];rfl
noncomputable def sgI (x:Int):Int:=if x=0 then 0 else if x > 0 then 1 else -1
noncomputable def bC (g:Int->Int) (n:Nat):List Int:=(List.range n).map λk:Nat=>g k
theorem jl (g:Int->Int) (n:Nat):(bC g n).length=n:=by unfold bC;rw [List.length_map,List.length_range]
theorem v4 {st:Sto}{x:Int}:dR [.d (.int x)] st=some (.d (.int (sgI x)),st):=by
 unfold sgI
 by_cases h0:x=0
 ·subst h0
  rw [if_pos rfl]
  simp only [dR,dQ,iV,iC,bP,iUn,iB,bT,av,bf,cm,bK,gZ,dGt,dEq,eP,eqK,eqD,gm,Option.bind_some,Option.map_some,List.getD_cons_zero,List.map_cons,List.map_nil,List.length_cons,List.length_nil,List.replicate_zero,List.cons_append,List.nil_append,Nat.reduceSub,if_true,Nat.zero_add,lg,Int.reduceNeg,beq_self_eq_true]
 ·have f0:(x==(0:Int))=false:=by simp [h0]
  rw [if_neg h0]
  by_cases h1:x > 0
  ·rw [if_pos h1]
   simp only [dR,dQ,iV,iC,bP,iUn,iB,bT,av,bf,cm,bK,gZ,dGt,dEq,eP,eqK,eqD,gm,Option.bind_some,Option.map_some,List.getD_cons_zero,List.map_cons,List.map_nil,List.length_cons,List.length_nil,List.replicate_zero,List.cons_append,List.nil_append,Nat.reduceSub,if_true,if_false,Bool.false_eq_true,Nat.zero_add,decide_true,lg,Int.reduceNeg,f0,h1]
  ·rw [if_neg h1]
   simp only [dR,dQ,iV,iC,bP,iUn,iB,bT,av,bf,cm,bK,gZ,dGt,dEq,eP,eqK,eqD,gm,Option.bind_some,Option.map_some,List.getD_cons_zero,List.map_cons,List.map_nil,List.length_cons,List.length_nil,List.replicate_zero,List.cons_append,List.nil_append,Nat.reduceSub,if_true,if_false,Bool.false_eq_true,Nat.zero_add,decide_false,lg,Int.reduceNeg,f0,h1]
theorem wF (g:Int->Int) (n:Nat) (F:D->D) (f:Int->Int) (h:∀ j:Nat,F (.int (j:Int))=.int (f (g j))):(eB 0 n).map F=((bC g n).map f).map D.int:=by
 unfold eB bC
 rw [List.map_map,List.map_map,List.map_map]
 refine List.map_congr_left λk _=>?_
 show F (.int (0+(k:Int)))=_
 rw [Int.zero_add,h];rfl
section
variable {st:Sto}{b:Bool}{ps:List Prt}
theorem iN {n:Int} (hp:∀ p ∈ ps,hX p) (hl:ps.length<=1000) (n0:0<=n) (n1:n<=6):bJ [.d (bd (aJ b) ps),.d (.int n)] st=some (.d (.tup (((bC (cB b ps) (2 ^ n.toNat)).map sgI).map D.int)),st):=by
 have hw:=nB (st:=st) n0 (by lia)
 have h64:2 ^ n.toNat<=64:=Nat.le_trans (Nat.pow_le_pow_right (by decide) (by lia:n.toNat<=6)) (by decide)
 have key:lcI (.nm 0) cR iw [none,some (.d (bd (aJ b) ps))] (eB 0 (2 ^ n.toNat)) st=some (((bC (cB b ps) (2 ^ n.toNat)).map sgI).map D.int,st):=by
  rw [<-wF (cB b ps) (2 ^ n.toNat) (λd=>match d with | .int j=>.int (sgI (cB b ps j)) | d=>d) sgI λj=>rfl]
  refine eQ _ λd hd=>?_
  obtain⟨i,hi⟩:=List.mem_iff_getElem?.mp hd
  obtain⟨rfl,_⟩:=iL hi
  exact⟨_,rfl,az (ah (az (ah rfl (ah rfl rfl)) (oW hp hl)) rfl) v4⟩
 have hz:(eB 0 (2 ^ n.toNat)).length<=1000000:=by rw [gA];lia
 have hc:((2:Int) ^ n.toNat)=((2 ^ n.toNat:Nat):Int):=by push_cast;rfl
 have ri:de (ae (ax cb (ae (iV 1) ak)) ak) [some (.d (bd (aJ b) ps)),some (.d (.int n))] st=some (eB 0 (2 ^ n.toNat),st):=mz (az (ah rfl rfl) hw) (by rw [hc];lia) (by rw [hc];lia) (by rw [hc,Int.toNat_natCast])
 exact aY (n:=2) (k:=2) (b:=fF) rfl (bh (c6 (ah (bD (fU (k:=1) (js:=[0]) ri hz key)) rfl) rfl))
end
noncomputable def zrs:Nat->List Int->List Int
 | _,[]=>[]
 | k,x::xs=>if x=0 then (k:Int)::zrs (k+1) xs else zrs (k+1) xs
theorem sM:∀ (k:Nat) (xs:List Int),zrs k (xs.map sgI)=zrs k xs
 | _,[]=>rfl
 | k,x::xs=>by
  rw [List.map_cons,zrs,zrs,sM (k+1) xs]
  by_cases h:x=0
  ·rw [if_pos h,if_pos (by rw [h];rfl)]
  ·rw [if_neg h,if_neg (by unfold sgI;rw [if_neg h];split<;>lia)]
theorem uH {st:Sto}:∀ (xs:List Int) (k:Nat) (o0 o1:Option W),lcI (.tp [0,1]) eA d3 [o0,o1] (bS k (xs.map D.int)) st=some ((zrs k xs).map D.int,st)
 | [],_,_,_=>rfl
 | x::xs,k,o0,o1=>by
  rw [List.map_cons,bS,lcI,zrs]
  have s1:fk (.tp [0,1]) (.d (.tup [.int (k:Int),.int x])) [o0,o1]=some [some (.d (.int (k:Int))),some (.d (.int x))]:=rfl
  have t1:eA [some (.d (.int (k:Int))),some (.d (.int x))] st=some (x==0,st):=bg rfl rfl (iy _ _ _)
  have e1:d3 [some (.d (.int (k:Int))),some (.d (.int x))] st=some (.d (.int (k:Int)),st):=rfl
  have r:=uH (st:=st) xs (k+1) o0 o1
  by_cases h:x=0
  ·rw [if_pos h]
   subst h
   simp only [s1,t1,e1,r,Option.bind_some,Option.map_some,beq_self_eq_true,if_true,List.map_cons]
   rfl
  ·rw [if_neg h]
   have f0:(x==(0:Int))=false:=by simp [h]
   simp only [s1,t1,r,f0,Option.bind_some,Bool.false_eq_true,if_false]
theorem oA {st:Sto}{b:Bool}{ps:List Prt}{n:Int} (hp:∀ p ∈ ps,hX p) (hl:ps.length<=1000) (n0:0<=n) (n1:n<=6):fP [.d (bd (aJ b) ps),.d (.int n)] st=some (.d (.tup ((zrs 0 (bC (cB b ps) (2 ^ n.toNat))).map D.int)),st):=by
 have hs:=iN (st:=st) (b:=b) hp hl n0 n1
 have h64:2 ^ n.toNat<=64:=Nat.le_trans (Nat.pow_le_pow_right (by decide) (by lia:n.toNat<=6)) (by decide)
 have key:=uH (st:=st) ((bC (cB b ps) (2 ^ n.toNat)).map sgI) 0 none none
 rw [sM] at key
 have hz:∀ (k:Nat) (xs:List D),(bS k xs).length=xs.length:=λk xs=>by
  induction xs generalizing k with
  | nil=>rfl
  | cons d ds ih=>rw [bS,List.length_cons,List.length_cons,ih]
 have hz1:(bS 0 (((bC (cB b ps) (2 ^ n.toNat)).map sgI).map D.int)).length<=1000000:=by rw [hz,List.length_map,List.length_map,jl];lia
 generalize ((bC (cB b ps) (2 ^ n.toNat)).map sgI).map D.int=SS at *
 generalize bd (aJ b) ps=P at *
 have ri:d5 (ae (ax bJ (ae (iV 0) (ae (iV 1) ak))) ak) [some (.d P),some (.d (.int n))] st=some (bS 0 SS,st):=by
  have q:=ah (b:=ak) (az (m:=bJ) (a:=ae (iV 0) (ae (iV 1) ak)) (env:=[some (.d P),some (.d (.int n))]) (ah rfl (ah rfl rfl)) hs) rfl
  simp only [d5,q,Option.bind_some]
 exact aY (n:=2) (k:=2) (b:=dJ) rfl (bh (c6 (ah (bD (fU (k:=2) (js:=[]) ri hz1 key)) rfl) rfl))
end Own
set_option maxHeartbeats 1000000
namespace Own
open PySem L2
noncomputable def fL:List Int->Option Nat
 | []=>none
 | x::xs=>if x=0 then some 0 else (fL xs).map (·+1)
theorem lY:∀ xs:List Int,fL (xs.map sgI)=fL xs
 | []=>rfl
 | x::xs=>by
  rw [List.map_cons,fL,fL,lY xs]
  by_cases h:x=0
  ·rw [if_pos h,if_pos (by rw [h];rfl)]
  ·rw [if_neg h,if_neg (by unfold sgI;rw [if_neg h];split<;>lia)]
theorem mM:∀ (k:Nat) (xs:List Int),zrs k xs=match fL xs with | none=>[] | some j=>((k+j:Nat):Int)::zrs (k+j+1) (xs.drop (j+1))
 | _,[]=>rfl
 | k,x::xs=>by
  rw [zrs,fL]
  by_cases h:x=0
  ·rw [if_pos h,if_pos h];rfl
  ·rw [if_neg h,if_neg h,mM (k+1) xs]
   cases fL xs with
   | none=>rfl
   | some j=>
    show ((k+1+j:Nat):Int)::zrs (k+1+j+1) (xs.drop (j+1))=((k+(j+1):Nat):Int)::zrs (k+(j+1)+1) ((x::xs).drop (j+1+1))
    rw [List.drop_succ_cons,show k+1+j=k+(j+1) by lia]
section
variable {st:Sto}{a0 a1 a2:Option W}
theorem tj {g:Tg}{body:Sf}{d:D}{ds:List D}{env e1 e2:Ev}{s:Sto} (h1:fk g (.d d) env=some e1) (h2:body e1 st=some (.nx e2 s)):fK g body (d::ds) env st=fK g body ds e2 s:=by
 rw [fK,h1,Option.bind_some,h2,Option.bind_some]
theorem sv {k x:Int}{ds:List D}{o3 o4:Option W} (h:x≠0):fK (.tp [3,4]) bi (.tup [.int k,.int x]::ds) [a0,a1,a2,o3,o4] st=fK (.tp [3,4]) bi ds [a0,a1,a2,some (.d (.int k)),some (.d (.int x))] st:=by
 have f0:(x==(0:Int))=false:=by simp [h]
 exact tj (e1:=[a0,a1,a2,some (.d (.int k)),some (.d (.int x))]) rfl (rQ (bg rfl rfl (by rw [iy,f0])) rfl)
theorem ul {k:Int}{ds:List D}{o3 o4:Option W}:fK (.tp [3,4]) bi (.tup [.int k,.int 0]::ds) [a0,a1,a2,o3,o4] st=none:=by
 have h1:fk (.tp [3,4]) (.d (.tup [.int k,.int 0])) [a0,a1,a2,o3,o4]=some [a0,a1,a2,some (.d (.int k)),some (.d (.int 0))]:=rfl
 have h2:bi [a0,a1,a2,some (.d (.int k)),some (.d (.int 0))] st=none:=vT (bg rfl rfl (iy _ _ _)) rfl
 rw [fK,h1,Option.bind_some,h2];rfl
theorem su:∀ (xs:List Int) (k:Nat) (o3 o4:Option W),fL xs=none->∃ p3 p4,fK (.tp [3,4]) bi (bS k (xs.map D.int)) [a0,a1,a2,o3,o4] st=some (.nx [a0,a1,a2,p3,p4] st)
 | [],_,o3,o4,_=>⟨o3,o4,rfl⟩
 | x::xs,k,o3,o4,h=>by
  rw [fL] at h
  by_cases h0:x=0
  ·rw [if_pos h0] at h;cases h
  ·rw [if_neg h0] at h
   obtain⟨p3,p4,e⟩:=su xs (k+1) (some (.d (.int (k:Int)))) (some (.d (.int x))) (Option.map_eq_none_iff.mp h)
   exact⟨p3,p4,(sv h0).trans e⟩
theorem pE:∀ (xs:List Int) (k j:Nat) (o3 o4:Option W),fL xs=some j->fK (.tp [3,4]) bi (bS k (xs.map D.int)) [a0,a1,a2,o3,o4] st=none
 | [],_,_,_,_,h=>by cases h
 | x::xs,k,j,o3,o4,h=>by
  rw [fL] at h
  by_cases h0:x=0
  ·subst h0;exact ul
  ·rw [if_neg h0] at h
   obtain⟨i,hi,_⟩:=Option.map_eq_some_iff.mp h
   exact (sv h0).trans (pE xs (k+1) i _ _ hi)
theorem xz (r:Int):∀ (xs:List Int) (k j:Nat) (o3 o4:Option W),fL xs=some j->lX (.tp [3,4]) ck (bo r) (bS k (xs.map D.int)) [a0,a1,a2,o3,o4] st=if ((k+j:Nat):Int)=r then some st else none
 | [],_,_,_,_,h=>by cases h
 | x::xs,k,j,o3,o4,h=>by
  rw [fL] at h
  have s1:fk (.tp [3,4]) (.d (.tup [.int (k:Int),.int x])) [a0,a1,a2,o3,o4]=some [a0,a1,a2,some (.d (.int (k:Int))),some (.d (.int x))]:=rfl
  have t1:bP dEq (iV 4) (iC (.int 0)) [a0,a1,a2,some (.d (.int (k:Int))),some (.d (.int x))] st=some (x==0,st):=bg rfl rfl (iy _ _ _)
  rw [List.map_cons,bS,lX,s1,Option.bind_some]
  by_cases h0:x=0
  ·subst h0
   rw [if_pos rfl] at h
   cases h
   have b1:ck [a0,a1,a2,some (.d (.int (k:Int))),some (.d (.int 0))] st=none:=vT t1 rfl
   have x1:bo r [a0,a1,a2,some (.d (.int (k:Int))),some (.d (.int 0))] st=if (k:Int)=r then some st else none:=by
    unfold bo
    simp only [xIf,t1,Option.bind_some,beq_self_eq_true,if_true]
    rfl
   rw [x1,b1]
   show _=if (k:Int)=r then some st else none
   by_cases hk:(k:Int)=r
   ·rw [if_pos hk]<;>rfl
   ·rw [if_neg hk]<;>rfl
  ·rw [if_neg h0] at h
   obtain⟨i,hi,rfl⟩:=Option.map_eq_some_iff.mp h
   have f0:(x==(0:Int))=false:=by simp [h0]
   rw [f0] at t1
   have b1:ck [a0,a1,a2,some (.d (.int (k:Int))),some (.d (.int x))] st=some (.nx [a0,a1,a2,some (.d (.int (k:Int))),some (.d (.int x))] st):=rQ t1 rfl
   have x1:bo r [a0,a1,a2,some (.d (.int (k:Int))),some (.d (.int x))] st=none:=by
    unfold bo
    simp only [xIf,t1,Option.bind_some,Bool.false_eq_true,if_false]
    rfl
   rw [x1,b1]
   show lX (.tp [3,4]) ck (bo r) (bS (k+1) (xs.map D.int)) _ st=_
   rw [xz r xs (k+1) i _ _ hi,show k+1+i=k+(i+1) by lia]
end
noncomputable def fB (x:Int):Int:=if x > 0 then 1 else 0
section
variable {st:Sto}{b:Bool}{ps:List Prt}{n:Int}
theorem sA (hp:∀ p ∈ ps,hX p) (hl:ps.length<=1000) (n0:0<=n) (n1:n<=6) (hz:fL (bC (cB b ps) (2 ^ n.toNat))=none):fu [.d (bd (aJ b) ps),.d (.int n)] st=some (.d (.tup (((bC (cB b ps) (2 ^ n.toNat)).map fB).map D.int)),st):=by
 have hs:=iN (st:=st) (b:=b) hp hl n0 n1
 have h64:2 ^ n.toNat<=64:=Nat.le_trans (Nat.pow_le_pow_right (by decide) (by lia:n.toNat<=6)) (by decide)
 rw [<-lY] at hz
 have ep:((bC (cB b ps) (2 ^ n.toNat)).map fB).map D.int=(((bC (cB b ps) (2 ^ n.toNat)).map sgI).map D.int).map λd=>match d with | .int j=>.int (fB j) | d=>d:=by
  rw [List.map_map,List.map_map,List.map_map]
  refine List.map_congr_left λx _=>?_
  show D.int (fB x)=.int (fB (sgI x))
  unfold fB sgI
  by_cases h:x=0
  ·subst h;rfl
  ·rw [if_neg h]
   by_cases h1:x > 0
   ·rw [if_pos h1,if_pos h1];rfl
   ·rw [if_neg h1,if_neg h1];rfl
 have key:lcI (.nm 0) cR gr [none] (((bC (cB b ps) (2 ^ n.toNat)).map sgI).map D.int) st=some (((bC (cB b ps) (2 ^ n.toNat)).map fB).map D.int,st):=by
  rw [ep]
  refine eQ _ λd hd=>?_
  obtain⟨x,_,rfl⟩:=List.mem_map.mp hd
  refine⟨_,rfl,?_⟩
  show _=some (W.d (.int (fB x)),st)
  unfold fB
  by_cases h1:x > 0<;>simp only [gr,iV,iC,bP,iB,gZ,dGt,Option.bind_some,Option.map_some,List.getD_cons_zero,List.set_cons_zero,if_true,if_false,Bool.false_eq_true,decide_true,decide_false,h1]
 have hz1:(((bC (cB b ps) (2 ^ n.toNat)).map sgI).map D.int).length<=1000000:=by rw [List.length_map,List.length_map,jl];lia
 clear ep
 generalize ((bC (cB b ps) (2 ^ n.toNat)).map fB).map D.int=TT at *
 generalize bd (aJ b) ps=P at *
 generalize (bC (cB b ps) (2 ^ n.toNat)).map sgI=sg at *
 obtain⟨p3,p4,ef⟩:=su (st:=st) (a0:=some (.d P)) (a1:=some (.d (.int n))) (a2:=some (.d (.tup (sg.map D.int)))) sg 0 none none hz
 exact aY (n:=5) (k:=2) (b:=cK) rfl (dC (aF (i:=2) (az (ah rfl (ah rfl rfl)) hs)) (dC (jJ (ds:=bS 0 (sg.map D.int)) rfl ef) (bh (c6 (ah (bD (fU (k:=1) (js:=[]) (jd rfl) hz1 key)) rfl) rfl))))
theorem sB {j:Nat} (hp:∀ p ∈ ps,hX p) (hl:ps.length<=1000) (n0:0<=n) (n1:n<=6) (hz:fL (bC (cB b ps) (2 ^ n.toNat))=some j):fu [.d (bd (aJ b) ps),.d (.int n)] st=none/\∀ r:Int,fE r [.d (bd (aJ b) ps),.d (.int n)] st=if (j:Int)=r then some st else none:=by
 have hs:=iN (st:=st) (b:=b) hp hl n0 n1
 rw [<-lY] at hz
 generalize bd (aJ b) ps=P at *
 generalize (bC (cB b ps) (2 ^ n.toNat)).map sgI=sg at *
 have f1:bt (.nm 2) (ax bJ (ae (iV 0) (ae (iV 1) ak))) [some (.d P),some (.d (.int n)),none,none,none] st=some (.nx [some (.d P),some (.d (.int n)),some (.d (.tup (sg.map D.int))),none,none] st):=aF (i:=2) (az (ah rfl (ah rfl rfl)) hs)
 have fn:fK (.tp [3,4]) bi (bS 0 (sg.map D.int)) [some (.d P),some (.d (.int n)),some (.d (.tup (sg.map D.int))),none,none] st=none:=pE sg 0 j none none hz
 have it:d5 (ae (iV 2) ak) [some (.d P),some (.d (.int n)),some (.d (.tup (sg.map D.int))),none,none] st=some (bS 0 (sg.map D.int),st):=rfl
 have fn2:i4 (d5 (ae (iV 2) ak)) (.tp [3,4]) bi [some (.d P),some (.d (.int n)),some (.d (.tup (sg.map D.int))),none,none] st=none:=by simp only [i4,it,Option.bind_some,fn]
 refine⟨?_,λr=>?_⟩
 ·have:cK [some (.d P),some (.d (.int n)),none,none,none] st=none:=by
   unfold cK
   refine dC f1 ?_
   simp only [av,fn2,Option.bind_none]
  show bK 5 2 cK [.d P,.d (.int n)] st=none
  show (if [W.d P,.d (.int n)].length=2 then (cK [some (.d P),some (.d (.int n)),none,none,none] st).bind _ else none)=none
  rw [if_pos (show [W.d P,W.d (.int n)].length=2 from rfl),this];rfl
 ·have fx:=xz (st:=st) (a0:=some (.d P)) (a1:=some (.d (.int n))) (a2:=some (.d (.tup (sg.map D.int)))) r sg 0 j none none hz
  rw [Nat.zero_add] at fx
  have xf:sH (d5 (ae (iV 2) ak)) (.tp [3,4]) ck (bo r) [some (.d P),some (.d (.int n)),some (.d (.tup (sg.map D.int))),none,none] st=if (j:Int)=r then some st else none:=by simp only [sH,it,Option.bind_some,fx]
  have xb:dh r [some (.d P),some (.d (.int n)),none,none,none] st=if (j:Int)=r then some st else none:=by
   unfold dh
   have x2:iR=bi:=rfl
   simp only [xNo,sI,f1,Option.bind_some,xf,x2,fn2,Option.bind_none]
   by_cases hj:(j:Int)=r
   ·rw [if_pos hj]<;>rfl
   ·rw [if_neg hj]<;>rfl
  show (if [W.d P,.d (.int n)].length=2 then (dh r ([W.d P,.d (.int n)].map some++List.replicate (5 - 2) none) st).map (λs=>s.take st.length) else none)=_
  rw [if_pos (show [W.d P,W.d (.int n)].length=2 from rfl),show ([W.d P,.d (.int n)].map some++List.replicate (5 - 2) none:Ev)=[some (.d P),some (.d (.int n)),none,none,none] from rfl,xb]
  by_cases hj:(j:Int)=r
  ·rw [if_pos hj,Option.map_some,List.take_length]
  ·rw [if_neg hj];rfl
end
end Own
set_option maxHeartbeats 1000000
namespace Own
open PySem L2
theorem uo {i j:Nat}{gb:Sf}{xb:Int->Rf}{env:Ev}{st:Sto}{r:Fl} (h:gb env st=some r):j7 i j gb xb env st=some r:=by simp only [j7,h]
theorem rZ {xb:Int->Rf}{env:Ev}{st s:Sto}{k:Int} (h:∀ r,xb r env st=if k=r then some s else none):lE xb env st=some (k,s):=by
 have hx:∃ p:Int×Sto,xb p.1 env st=some p.2:=⟨(k,s),by rw [h,if_pos rfl]⟩
 cases q:lE xb env st with
 | none=>
  unfold lE at q
  rw [dif_pos hx] at q
  cases q
 | some p=>
  have e:=nJ q
  rw [h] at e
  by_cases hk:k=p.1
  ·rw [if_pos hk] at e
   cases e
   rw [hk]
  ·rw [if_neg hk] at e;cases e
theorem sC {i j:Nat}{gb:Sf}{xb:Int->Rf}{env:Ev}{st s:Sto}{k:Int} (h:gb env st=none) (hx:∀ r,xb r env st=if k=r then some s else none):j7 i j gb xb env st=some (.nx (((List.replicate env.length none).set j (some (.d (.bl false)))).set i (some (.d (.lst [.int k])))) s):=by simp only [j7,h,rZ hx,Option.map_some]
section
variable {st:Sto}{b:Bool}{ps:List Prt}{n:Int}
theorem n3 (hp:∀ p ∈ ps,hX p) (hl:ps.length<=1000) (n0:0<=n) (n1:n<=6) (hz:fL (bC (cB b ps) (2 ^ n.toNat))=none):bj [.d (bd (aJ b) ps),.d (.int n)] st=some (.d (.tup (((bC (cB b ps) (2 ^ n.toNat)).map fB).map D.int)),st):=by
 have ht:=sA (st:=st) (b:=b) hp hl n0 n1 hz
 generalize ((bC (cB b ps) (2 ^ n.toNat)).map fB).map D.int=TT at *
 generalize bd (aJ b) ps=P at *
 exact aY (n:=5) (k:=2) (b:=cp) rfl (dC (e:=[some (.d P),some (.d (.int n)),some (.d .non),none,none]) rfl (dC (uo (aF (i:=2) (az (ah rfl (ah rfl rfl)) ht))) (bh rfl)))
theorem gY {j:Nat} (hp:∀ p ∈ ps,hX p) (hl:ps.length<=1000) (n0:0<=n) (n1:n<=6) (hz:fL (bC (cB b ps) (2 ^ n.toNat))=some j):bj [.d (bd (aJ b) ps),.d (.int n)] st=some (.d (.lst [.int (j:Int)]),st):=by
 obtain⟨h1,h2⟩:=sB (st:=st) (b:=b) hp hl n0 n1 hz
 generalize bd (aJ b) ps=P at *
 have ea:∀ {x:D},ae (iV 0) (ae (iV 1) ak) [some (.d P),some (.d (.int n)),some (.d x),none,none] st=some ([.d P,.d (.int n)],st):=λ{x}=>rfl
 have g1:bt (.nm 2) (ax fu (ae (iV 0) (ae (iV 1) ak))) [some (.d P),some (.d (.int n)),some (.d .non),none,none] st=none:=by
  simp only [bt,ax,ea,Option.bind_some,h1,Option.bind_none]
 have g2:∀ r,(λr=>lJ (fE r) (ae (iV 0) (ae (iV 1) ak))) r [some (.d P),some (.d (.int n)),some (.d .non),none,none] st=if (j:Int)=r then some st else none:=λr=>by
  show lJ (fE r) (ae (iV 0) (ae (iV 1) ak)) _ st=_
  simp only [lJ,ea,Option.bind_some]
  exact h2 r
 exact aY (n:=5) (k:=2) (b:=cp) rfl (dC (e:=[some (.d P),some (.d (.int n)),some (.d .non),none,none]) rfl (dC (sC g1 g2) (bh rfl)))
theorem v5 (n0:0<=n) (n1:n<=6):∃ q:Int,(∀ s,og s (.d (.int 1)) (.d (.int n))=some (.int q))/\q.toNat=2 ^ n.toNat/\0<=q/\q<=64:=by
 have h:n=0\/n=1\/n=2\/n=3\/n=4\/n=5\/n=6:=by lia
 rcases h with rfl | rfl | rfl | rfl | rfl | rfl | rfl
 ·exact⟨1,λs=>rfl,by decide,by decide,by decide⟩
 ·exact⟨2,λs=>rfl,by decide,by decide,by decide⟩
 ·exact⟨4,λs=>rfl,by decide,by decide,by decide⟩
 ·exact⟨8,λs=>rfl,by decide,by decide,by decide⟩
 ·exact⟨16,λs=>rfl,by decide,by decide,by decide⟩
 ·exact⟨32,λs=>rfl,by decide,by decide,by decide⟩
 ·exact⟨64,λs=>rfl,by decide,by decide,by decide⟩
end
theorem xk (n:Nat):eB 0 n=(List.range' 0 n).map λk:Nat=>D.int (k:Int):=by
 unfold eB
 rw [List.range_eq_range']
 refine List.map_congr_left λk _=>?_
 rw [Int.zero_add]
theorem qZ {st:Sto}{L:List Int}:∀ (m k:Nat) (o:Option W),L.length=k+m->lcI (.nm 0) ez dZ [o,some (.d (.lst (L.map D.int)))] ((List.range' k m).map λi:Nat=>D.int (i:Int)) st=some ((zrs k (L.drop k)).map D.int,st)
 | 0,k,o,h=>by
  rw [List.drop_of_length_le (by lia)];rfl
 | m+1,k,o,h=>by
  have hk:k < L.length:=by lia
  have r:=qZ (st:=st) (L:=L) m (k+1) o (by lia)
  rw [List.range'_succ,List.map_cons,lcI,List.drop_eq_getElem_cons hk,zrs]
  have s1:fk (.nm 0) (.d (.int (k:Int))) [o,some (.d (.lst (L.map D.int)))]=some [some (.d (.int (k:Int))),some (.d (.lst (L.map D.int)))]:=rfl
  have ix:∀ s,dIx s (.d (.lst (L.map D.int))) (.d (.int (k:Int)))=some (.int L[k]):=λs=>gD (by rw [List.getElem?_map,List.getElem?_eq_getElem hk];rfl)
  have t1:ez [some (.d (.int (k:Int))),some (.d (.lst (L.map D.int)))] st=some (L[k]==0,st):=by
   generalize L.map D.int=LL at *
   exact bg (ao rfl rfl (ix _)) rfl (iy _ _ _)
  have e1:dZ [some (.d (.int (k:Int))),some (.d (.lst (L.map D.int)))] st=some (.d (.int (k:Int)),st):=rfl
  by_cases h0:L[k]=0
  ·rw [if_pos h0]
   rw [h0] at t1
   simp only [s1,t1,e1,r,Option.bind_some,Option.map_some,beq_self_eq_true,if_true,List.map_cons]
   rfl
  ·rw [if_neg h0]
   have f0:(L[k]==(0:Int))=false:=by simp [h0]
   rw [f0] at t1
   simp only [s1,t1,r,Option.bind_some,Bool.false_eq_true,if_false]
theorem vp (s:Sto) (z:Int) (zs:List Int):dNe s (.d (.tup ((z::zs).map D.int))) (.d (.tup []))=some (.bl true):=rfl
theorem mF (ns:List Int) (h:ns.length<=1000000) (m:Nat):smD (m+2) (.tup (ns.map D.int)):=.inr (.inr ⟨_,rfl,by rw [List.length_map];exact h,λe he=>by
 obtain⟨x,_,rfl⟩:=List.mem_map.mp he
 exact .inl ⟨x,rfl⟩⟩)
theorem xn (x:Int) (s:Sto):dIx s (.d (.lst [.int (if x > 0 then 1 else 0),.int (-1)])) (.d (.int (if x < 0 then 1 else 0)))=some (.int (sgI x)):=by
 unfold sgI
 by_cases h0:x=0
 ·subst h0;rfl
 ·rw [if_neg h0]
  by_cases h1:x > 0
  ·rw [if_pos h1,if_neg (by lia),if_pos h1];rfl
  ·rw [if_neg h1,if_pos (by lia),if_neg h1];rfl
section
variable {st:Sto}{b:Bool}{ps:List Prt}{n:Int}
theorem rY (hp:∀ p ∈ ps,hX p) (hl:ps.length<=1000) (n0:0<=n) (n1:n<=6):cW [.d (bd (aJ b) ps),.d (.int n)] st=some (.d (.bl true),st):=by
 obtain⟨q,c1,ct,c2,c3⟩:=v5 n0 n1
 have hs:=iN (st:=st) (b:=b) hp hl n0 n1
 have hn:=oA (st:=st) (b:=b) hp hl n0 n1
 have h64:2 ^ n.toNat<=64:=by lia
 have kv:lcI (.nm 0) cR gq [none,some (.d (bd (aJ b) ps))] (eB 0 (2 ^ n.toNat)) st=some ((bC (cB b ps) (2 ^ n.toNat)).map D.int,st):=by
  have:=wF (cB b ps) (2 ^ n.toNat) (λd=>match d with | .int j=>.int (cB b ps j) | d=>d) id λj=>rfl
  rw [List.map_id] at this
  rw [<-this]
  refine eQ _ λd hd=>?_
  obtain⟨i,hi⟩:=List.mem_iff_getElem?.mp hd
  obtain⟨rfl,_⟩:=iL hi
  exact⟨_,rfl,az (ah rfl (ah rfl rfl)) (nk hp hl)⟩
 have LL:(bC (cB b ps) (2 ^ n.toNat)).length=2 ^ n.toNat:=jl _ _
 have aw1:=λhz=>n3 (st:=st) (b:=b) hp hl n0 n1 hz
 have aw2:=λj hz=>gY (st:=st) (b:=b) (j:=j) hp hl n0 n1 hz
 generalize bC (cB b ps) (2 ^ n.toNat)=L at *
 generalize bd (aJ b) ps=P at *
 have ks:lcI (.nm 0) cR gp [none] (L.map D.int) st=some ((L.map sgI).map D.int,st):=by
  have e:(L.map sgI).map D.int=(L.map D.int).map λd=>match d with | .int j=>.int (sgI j) | d=>d:=by rw [List.map_map,List.map_map];rfl
  rw [e]
  refine eQ _ λd hd=>?_
  obtain⟨x,_,rfl⟩:=List.mem_map.mp hd
  refine⟨_,rfl,?_⟩
  have g1:iCB iq (ae (iOp dGt (iV 0) (iC (.int 0))) ak) [some (.d (.int x))] st=some (.d (.int (if x > 0 then 1 else 0)),st):=by
   by_cases h:x > 0<;>simp only [iV,iC,iOp,ak,ae,iCB,dGt,iq,Option.bind_some,Option.map_some,List.getD_cons_zero,if_true,if_false,Bool.false_eq_true,decide_true,decide_false,h]
  have g2:iCB iq (ae (iOp dLt (iV 0) (iC (.int 0))) ak) [some (.d (.int x))] st=some (.d (.int (if x < 0 then 1 else 0)),st):=by
   by_cases h:x < 0<;>simp only [iV,iC,iOp,ak,ae,iCB,dLt,iq,Option.bind_some,Option.map_some,List.getD_cons_zero,if_true,if_false,Bool.false_eq_true,decide_true,decide_false,h]
  exact ao (bD (mw (ds:=[.int (if x > 0 then 1 else 0),.int (-1)]) (ah g1 (ah (x:=.d (.int (-1))) rfl rfl)) rfl (by show 2<=1000;decide))) g2 (xn x st)
 have kp:lcI (.nm 0) cR dY [none] (L.map D.int) st=some ((L.map fB).map D.int,st):=by
  have e:(L.map fB).map D.int=(L.map D.int).map λd=>match d with | .int j=>.int (fB j) | d=>d:=by rw [List.map_map,List.map_map];rfl
  rw [e]
  refine eQ _ λd hd=>?_
  obtain⟨x,_,rfl⟩:=List.mem_map.mp hd
  refine⟨_,rfl,?_⟩
  show _=some (W.d (.int (fB x)),st)
  unfold fB
  by_cases h:x > 0<;>simp only [dY,iV,iC,iOp,ak,ae,iCB,dGt,iq,Option.bind_some,Option.map_some,List.getD_cons_zero,List.set_cons_zero,if_true,if_false,Bool.false_eq_true,decide_true,decide_false,h]
 have kz:=qZ (st:=st) (L:=L) (2 ^ n.toNat) 0 none (by lia)
 rw [List.drop_zero,<-xk] at kz
 have hz:(eB 0 (2 ^ n.toNat)).length<=1000000:=by rw [gA];lia
 have hzl:(L.map D.int).length<=1000000:=by rw [List.length_map];lia
 have s1:=iM (st:=st) (mF (L.map sgI) (by rw [List.length_map];lia) 3)
 have s2:=iM (st:=st) (mF (zrs 0 L) (by
  have:∀ (xs:List Int) (k:Nat),(zrs k xs).length<=xs.length:=λxs=>by
   induction xs with
   | nil=>exact λ_=>Nat.le_refl _
   | cons x xs ih=>
    intro k
    rw [zrs,List.length_cons]
    split
    ·rw [List.length_cons];exact Nat.succ_le_succ (ih _)
    ·exact Nat.le_succ_of_le (ih _)
  have:=this L 0
  lia) 3)
 have s3:=iM (st:=st) (mF (L.map fB) (by rw [List.length_map];lia) 3)
 have sh:∀ {a2 a3 a4 a5:Option W},iOp og (iC (.int 1)) (iV 1) [some (.d P),some (.d (.int n)),a2,a3,a4,a5] st=some (.d (.int q),st):=λ{a2 a3 a4 a5}=>ao rfl rfl (c1 _)
 have ri:∀ {a2 a3 a4 a5:Option W},de (ae (iOp og (iC (.int 1)) (iV 1)) ak) [some (.d P),some (.d (.int n)),a2,a3,a4,a5] st=some (eB 0 (2 ^ n.toNat),st):=λ{a2 a3 a4 a5}=>mz sh c2 (by lia) ct
 have tail:gz [some (.d P),some (.d (.int n)),some (.d (.lst (L.map D.int))),some (.d (.tup ((L.map sgI).map D.int))),some (.d (.tup ((zrs 0 L).map D.int))),none] st=some (.rt (.d (.bl true)) st):=by
  cases hf:fL L with
  | none=>
   have an:=aw1 hf
   have zn:zrs 0 L=[]:=by rw [mM,hf]
   rw [zn]
   generalize (L.map fB).map D.int=PP at *
   generalize (L.map sgI).map D.int=SS at *
   generalize L.map D.int=LD at *
   exact dC (aF (i:=5) (az (ah rfl (ah rfl rfl)) an)) (dC (rQ (bg (k:=false) rfl (jK (ds:=[]) rfl rfl) rfl) rfl) (bh (az (ah rfl (ah (c6 (ah (bD (fU (k:=1) (js:=[]) (jc rfl) hzl kp)) rfl) rfl) rfl)) s3)))
  | some j=>
   have an:=aw2 j hf
   have zn:∃ zs,zrs 0 L=(j:Int)::zs:=by
    rw [mM,hf]
    exact⟨_,by show ((0+j:Nat):Int)::_=_;rw [Nat.zero_add]⟩
   obtain⟨zs,zn⟩:=zn
   rw [zn]
   have hne:=vp st (j:Int) zs
   have hix:dIx st (.d (.tup (((j:Int)::zs).map D.int))) (.d (.int 0))=some (.int (j:Int)):=n4 _ _
   have sj:=iM (n:=5) (st:=st) (d:=.int (j:Int)) (.inl ⟨_,rfl⟩)
   generalize ((j:Int)::zs).map D.int=ZZ at *
   generalize (L.map sgI).map D.int=SS at *
   generalize L.map D.int=LD at *
   exact dC (aF (i:=5) (az (ah rfl (ah rfl rfl)) an)) (wZ (vT (bg (k:=true) rfl (jK (ds:=[]) rfl rfl) hne) (bh (wY (c6 (ah rfl (ah rfl rfl)) rfl) (az (ah (ao rfl rfl (d:=.int (j:Int)) rfl) (ah (ao rfl rfl hix) rfl)) sj)))))
 generalize (L.map fB).map D.int=PP at *
 generalize (L.map sgI).map D.int=SS at *
 generalize (zrs 0 L).map D.int=ZZ at *
 generalize L.map D.int=LD at *
 exact aY (n:=6) (k:=2) (b:=dH) rfl (dC (aF (i:=2) (bD (fU (k:=1) (js:=[0]) ri hz kv))) (dC (aF (i:=3) (c6 (ah (bD (fU (k:=1) (js:=[]) (jc rfl) hzl ks)) rfl) rfl)) (dC (aF (i:=4) (c6 (ah (bD (fU (k:=1) (js:=[2]) ri hz kz)) rfl) rfl)) (dC (rQ (uM (rT (k:=true) (vU (az (ah (az (ah rfl (ah rfl rfl)) hs) (ah rfl rfl)) s1))) (rT (k:=true) (vU (az (ah (az (ah rfl (ah rfl rfl)) hn) (ah rfl rfl)) s2)))) rfl) tail))))
end
end Own
section
set_option maxHeartbeats 1000000
namespace Own
open PySem L2
theorem sX {st:Sto}{ns:List Int}{k:Nat}{a2 a3 a4:Option W}:∃ b2 b3 b4 st',me [some (.d (.scr ns)),some (.d (.int k)),a2,a3,a4] st=some (.nx [some (.d (.scr ns)),some (.d (.int k)),b2,b3,b4] st'):=by
 obtain⟨s1,h1,_,_,e1⟩:=tz (st:=st) (ns:=ns) (k:=k)
 obtain⟨d1,s2,m1,w1,h2,e2⟩:=pr (ds:=[.str "both",.str "odd"]) h1 (by decide) (by simp) (by simp)
 have hk:∃ b,d1=.str (aJ b):=by
  simp only [List.mem_cons,List.not_mem_nil,or_false] at m1
  rcases m1 with rfl | rfl
  ·exact⟨true,rfl⟩
  ·exact⟨false,rfl⟩
 obtain⟨b,rfl⟩:=hk
 obtain⟨n,s3,n0,n1,w3,h3,e3⟩:=e8 h2 (m:=7) (by decide) (by decide) (by decide)
 obtain⟨ps,s4,hp,hsub,w4,h4,e4⟩:=t8 (kd:=aJ b) h3 (by decide) n0 (by lia)
 have hl:ps.length<=1000:=by
  have:=hsub.length_le
  rw [List.length_map] at this
  have:=oY (n:=n) (by lia)
  lia
 obtain⟨m,s5,m0,m1,w5,h5,e5⟩:=nS (kd:=aJ b) h4 (by decide) hp hl
 have e6:=rY (st:=s5) (b:=b) hp hl m0 m1
 refine⟨some (.h st.length),some (.d (bd (aJ b) ps)),some (.d (.int m)),s5,?_⟩
 generalize bd (aJ b) ps=P at e4 e5 e6 ⊢
 generalize aJ b=kd at e2 e4
 have kinds:∀ {a2 a3 a4:Option W} (s:Sto),aD (dw (ae (iC (.str "both")) (ae (iC (.str "odd")) ak))) [some (.d (.scr ns)),some (.d (.int k)),a2,a3,a4] s=some (.d (.lst [.str "both",.str "odd"]),s):=λs=>rfl
 have rr:∀ (s:Sto),s=s5->fq (h8 iP (ax cW (ae (iV 3) (ae (iV 4) ak)))) [some (.d (.scr ns)),some (.d (.int k)),some (.h st.length),some (.d P),some (.d (.int m))] s=some (false,s5):=λs hs=>by
  subst hs
  exact rT (k:=true) (vU (az (ah rfl (ah rfl rfl)) e6))
 exact dC (aF (i:=2) (az (ah rfl (ah rfl rfl)) e1)) (dC (aF (i:=3) (az (ah rfl (ah (az (ah rfl (ah (kinds _) rfl)) e2) (ah (az (ah rfl (ah rfl rfl)) e3) rfl))) e4)) (dC (aF (i:=4) (az (ah rfl (ah rfl rfl)) e5)) (rQ (uM (rr _ rfl) (rr _ rfl)) rfl)))
theorem qT (s:Sto):bj [.d (.tup [.str "odd",.tup []]),.d (.int 0)] s=some (.d (.lst [.int 0]),s):=gY (st:=s) (b:=false) (ps:=[]) (n:=0) (j:=0) (λp h=>nomatch h) (by decide) (by decide) (by decide) (by decide +kernel)
theorem qU (s:Sto):bj [.d (.tup [.str "both",.tup [.tup [.tup [.int 0],.int 1]]]),.d (.int 1)] s=some (.d (.lst [.int 0]),s):=gY (st:=s) (b:=true) (ps:=[([0],1)]) (n:=1) (j:=0) (λp h=>by
  rw [List.mem_singleton.mp h]
  exact⟨⟨List.pairwise_singleton _ _,λk hk=>by rw [List.mem_singleton.mp hk];lia⟩,by decide,by decide⟩) (by decide) (by decide) (by decide) (by decide +kernel)
theorem qX (ns:List Int) (hl:ns.length<=63):∃ st,lB [.d (.scr ns)] []=some (.d (.bl true),st):=by
 obtain⟨r,hr⟩:∃ r:Int,(if (if ((ns.map D.int).length:Int) < 4 then ((ns.map D.int).length:Int) else 4) > 2 then (if ((ns.map D.int).length:Int) < 4 then ((ns.map D.int).length:Int) else 4) else 2)=r:=⟨_,rfl⟩
 obtain⟨env',s2,e2,b1,b2,b3,b4,rfl⟩:=gt (g:=.nm 1) (body:=me) (ds:=eB 0 r.toNat) (λi env s=>∃ b1 b2 b3 b4,env=[some (.d (.scr ns)),b1,b2,b3,b4]) (env:=[some (.d (.scr ns)),none,none,none,none]) (st:=[])
  ⟨_,_,_,_,rfl⟩ (λi d env s hd ⟨b1,b2,b3,b4,e⟩=>by
   subst e
   obtain⟨rfl,hi⟩:=iL hd
   obtain⟨c2,c3,c4,s5,e5⟩:=sX (st:=s) (ns:=ns) (k:=i) (a2:=b2) (a3:=b3) (a4:=b4)
   exact⟨_,_,s5,rfl,.inl e5,_,_,_,_,rfl⟩)
 have hb:-(2 ^ 62)<=r/\r < 2 ^ 62:=by rw [<-hr];split<;>split<;>lia
 have e3:=qT s2
 have e4:=qU s2
 have e5:∀ s:Sto,dEq s (.d (.lst [.int 0])) (.d (.lst [.int 0]))=some (.bl true):=λs=>rfl
 refine⟨s2.take 0,?_⟩
 simp only [lB,o6,iV,iC,iOp,fo,ak,ae,iCB,ax,cu,dw,aD,av,bf,i4,de,se,tm,gM,blW,eD,lsD,ir,u4,lsI,dMx,Option.bind_some,Option.map_some,List.getD_cons_zero,List.map_cons,List.map_nil,List.length_cons,List.length_nil,List.replicate_succ,List.replicate_zero,List.cons_append,List.nil_append,Nat.reduceAdd,Nat.reduceSub,if_true,Nat.zero_add,and_self,lg,hr,hb,e2,e3,e4,e5,show (2:Nat)<=1000 by decide,show (1:Nat)<=1000 by decide,show (0:Nat)<=1000 by decide]
end Own
end
namespace Own
open PySem L2
theorem re {us:List Value} (h:us.length=1):∃ a0,us=[a0]:=match us,h with | [a0],_=>⟨a0,rfl⟩
theorem iE {us:List Value} (h:us.length=2):∃ a0 a1,us=[a0,a1]:=match us,h with | [a0,a1],_=>⟨a0,a1,rfl⟩
theorem vm {us:List Value} (h:us.length=3):∃ a0 a1 a2,us=[a0,a1,a2]:=match us,h with | [a0,a1,a2],_=>⟨a0,a1,a2,rfl⟩
theorem txt_mk {K:PySem.W.Frag}{h:Heap}{mg:Str->Option Value} (X:K.In h) (G:h.Ns mainGlobals mg)
  {f0:Addr}{g0:FuncData}
  (a0:PySem.W.nsIn K mainGlobals "power_of_two" = some (some (.ref f0))) (F0:Fun K "power_of_two" "power_of_two" da f0 g0)
  {f1:Addr}{g1:FuncData}
  (a1:PySem.W.nsIn K mainGlobals "on_in" = some (some (.ref f1))) (F1:Fun K "on_in" "on_in" jM f1 g1)
  {f2:Addr}{g2:FuncData}
  (a2:PySem.W.nsIn K mainGlobals "value_of" = some (some (.ref f2))) (F2:Fun K "value_of" "value_of" em f2 g2)
  {f3:Addr}{g3:FuncData}
  (a3:PySem.W.nsIn K mainGlobals "value_at" = some (some (.ref f3))) (F3:Fun K "value_at" "value_at" ek f3 g3)
  {f4:Addr}{g4:FuncData}
  (a4:PySem.W.nsIn K mainGlobals "sign_of" = some (some (.ref f4))) (F4:Fun K "sign_of" "sign_of" gJ f4 g4)
  {f5:Addr}{g5:FuncData}
  (a5:PySem.W.nsIn K mainGlobals "signs_of" = some (some (.ref f5))) (F5:Fun K "signs_of" "signs_of" eh f5 g5)
  {f6:Addr}{g6:FuncData}
  (a6:PySem.W.nsIn K mainGlobals "noughts_of" = some (some (.ref f6))) (F6:Fun K "noughts_of" "noughts_of" c9 f6 g6)
  {f7:Addr}{g7:FuncData}
  (a7:PySem.W.nsIn K mainGlobals "told_by" = some (some (.ref f7))) (F7:Fun K "told_by" "told_by" dS f7 g7)
  {f8:Addr}{g8:FuncData}
  (a8:PySem.W.nsIn K mainGlobals "_law_hand" = some (some (.ref f8))) (F8:Fun K "_law_hand" "_law_hand" eW f8 g8)
  {f9:Addr}{g9:FuncData}
  (a9:PySem.W.nsIn K mainGlobals "_law_take" = some (some (.ref f9))) (F9:Fun K "_law_take" "_law_take" eY f9 g9)
  {f10:Addr}{g10:FuncData}
  (a10:PySem.W.nsIn K mainGlobals "_law_pick" = some (some (.ref f10))) (F10:Fun K "_law_pick" "_law_pick" eX f10 g10)
  {f11:Addr}{g11:FuncData}
  (a11:PySem.W.nsIn K mainGlobals "_law_same" = some (some (.ref f11))) (F11:Fun K "_law_same" "_law_same" ce f11 g11)
  {f12:Addr}{g12:FuncData}
  (a12:PySem.W.nsIn K mainGlobals "_law_term_value" = some (some (.ref f12))) (F12:Fun K "_law_term_value" "_law_term_value" bW f12 g12)
  {f13:Addr}{g13:FuncData}
  (a13:PySem.W.nsIn K mainGlobals "_law_value" = some (some (.ref f13))) (F13:Fun K "_law_value" "_law_value" c8 f13 g13)
  {f14:Addr}{g14:FuncData}
  (a14:PySem.W.nsIn K mainGlobals "_law_all_terms" = some (some (.ref f14))) (F14:Fun K "_law_all_terms" "_law_all_terms" bE f14 g14)
  {f15:Addr}{g15:FuncData}
  (a15:PySem.W.nsIn K mainGlobals "_law_number" = some (some (.ref f15))) (F15:Fun K "_law_number" "_law_number" dk f15 g15)
  {f16:Addr}{g16:FuncData}
  (a16:PySem.W.nsIn K mainGlobals "_law_poly" = some (some (.ref f16))) (F16:Fun K "_law_poly" "_law_poly" cP f16 g16)
  {f17:Addr}{g17:FuncData}
  (a17:PySem.W.nsIn K mainGlobals "_law_switches" = some (some (.ref f17))) (F17:Fun K "_law_switches" "_law_switches" bN f17 g17)
  {f18:Addr}{g18:FuncData}
  (a18:PySem.W.nsIn K mainGlobals "_law_answer" = some (some (.ref f18))) (F18:Fun K "_law_answer" "_law_answer" dj f18 g18)
  {f19:Addr}{g19:FuncData}
  (a19:PySem.W.nsIn K mainGlobals "_law_right" = some (some (.ref f19))) (F19:Fun K "_law_right" "_law_right" bz f19 g19)
  {f20:Addr}{g20:FuncData}
  (a20:PySem.W.nsIn K mainGlobals "law" = some (some (.ref f20))) (F20:Fun K "law" "law" pz f20 g20)
  (z_ValueError:PySem.W.nsIn K mainGlobals "ValueError" = some none)
  (z_all:PySem.W.nsIn K mainGlobals "all" = some none)
  (z_bool:PySem.W.nsIn K mainGlobals "bool" = some none)
  (z_enumerate:PySem.W.nsIn K mainGlobals "enumerate" = some none)
  (z_int:PySem.W.nsIn K mainGlobals "int" = some none)
  (z_isinstance:PySem.W.nsIn K mainGlobals "isinstance" = some none)
  (z_len:PySem.W.nsIn K mainGlobals "len" = some none)
  (z_list:PySem.W.nsIn K mainGlobals "list" = some none)
  (z_max:PySem.W.nsIn K mainGlobals "max" = some none)
  (z_min:PySem.W.nsIn K mainGlobals "min" = some none)
  (z_range:PySem.W.nsIn K mainGlobals "range" = some none)
  (z_sorted:PySem.W.nsIn K mainGlobals "sorted" = some none)
  (z_str:PySem.W.nsIn K mainGlobals "str" = some none)
  (z_sum:PySem.W.nsIn K mainGlobals "sum" = some none)
  (z_tuple:PySem.W.nsIn K mainGlobals "tuple" = some none)
  (z_zip:PySem.W.nsIn K mainGlobals "zip" = some none)
  {ca_SignError:Addr} (cm_SignError:PySem.W.nsIn K mainGlobals "SignError" = some (some (.ref ca_SignError)))
  {ca_NoText:Addr} (cm_NoText:PySem.W.nsIn K mainGlobals "NoText" = some (some (.ref ca_NoText)))
  {ca_NoLine:Addr} (cm_NoLine:PySem.W.nsIn K mainGlobals "NoLine" = some (some (.ref ca_NoLine)))
  {ca_OnNought:Addr} (cm_OnNought:PySem.W.nsIn K mainGlobals "OnNought" = some (some (.ref ca_OnNought)))
  {fI:Addr}{gI:FuncData} (aI:PySem.W.findIn K (.ref ca_OnNought) "__init__" = some (some (.ref fI))) (FI:Fun K "__init__" "OnNought.__init__" oJ fI gI)
  (ci:qM K ca_OnNought fI "ValueError.__new__" = true)
  (cs:nR K ca_OnNought ca_SignError "row" = true)
  (cx:kX K ca_OnNought=true)
  (cr:pP K ca_OnNought "row" = true)
  (ch:tD K ca_OnNought ca_SignError=true)
  (cT:PySem.W.kitOne K (.ref ca_OnNought) (.ref ca_NoText)=some false)
  (cL:PySem.W.kitOne K (.ref ca_OnNought) (.ref ca_NoLine)=some false)
  (cV:PySem.W.kitOne K (.ref ca_OnNought) (.type "ValueError")=some true)
  : ∃ t,Txt K mg t/\t.f20=f20:=by
 refine⟨⟨f0,g0,f1,g1,f2,g2,f3,g3,f4,g4,f5,g5,f6,g6,f7,g7,f8,g8,f9,g9,f10,g10,f11,g11,f12,g12,f13,g13,f14,g14,f15,g15,f16,g16,f17,g17,f18,g18,f19,g19,f20,g20,ca_SignError,ca_NoText,ca_NoLine,ca_OnNought,fI,gI⟩,⟨PySem.W.mg_of X G cm_SignError,PySem.W.mg_of X G cm_NoText,PySem.W.mg_of X G cm_NoLine,PySem.W.mg_of X G cm_OnNought,ci,cs,cx,cr,ch,cT,cL,cV,FI,FI.binds λ_ _ _ _ _ _ us hl=>(by obtain⟨_,_,rfl⟩:=iE hl;rfl),F0,PySem.W.mg_of X G a0,F0.binds λ_ _ _ _ _ _ us hl=>(by obtain⟨_,rfl⟩:=re hl;rfl),F1,PySem.W.mg_of X G a1,F1.binds λ_ _ _ _ _ _ us hl=>(by obtain⟨_,_,rfl⟩:=iE hl;rfl),F2,PySem.W.mg_of X G a2,F2.binds λ_ _ _ _ _ _ us hl=>(by obtain⟨_,_,_,rfl⟩:=vm hl;rfl),F3,PySem.W.mg_of X G a3,F3.binds λ_ _ _ _ _ _ us hl=>(by obtain⟨_,_,rfl⟩:=iE hl;rfl),F4,PySem.W.mg_of X G a4,F4.binds λ_ _ _ _ _ _ us hl=>(by obtain⟨_,rfl⟩:=re hl;rfl),F5,PySem.W.mg_of X G a5,F5.binds λ_ _ _ _ _ _ us hl=>(by obtain⟨_,_,rfl⟩:=iE hl;rfl),F6,PySem.W.mg_of X G a6,F6.binds λ_ _ _ _ _ _ us hl=>(by obtain⟨_,_,rfl⟩:=iE hl;rfl),F7,PySem.W.mg_of X G a7,F7.binds λ_ _ _ _ _ _ us hl=>(by obtain⟨_,_,rfl⟩:=iE hl;rfl),F8,PySem.W.mg_of X G a8,F8.binds λ_ _ _ _ _ _ us hl=>(by obtain⟨_,_,rfl⟩:=iE hl;rfl),F9,PySem.W.mg_of X G a9,F9.binds λ_ _ _ _ _ _ us hl=>(by obtain⟨_,_,rfl⟩:=iE hl;rfl),F10,PySem.W.mg_of X G a10,F10.binds λ_ _ _ _ _ _ us hl=>(by obtain⟨_,_,rfl⟩:=iE hl;rfl),F11,PySem.W.mg_of X G a11,F11.binds λ_ _ _ _ _ _ us hl=>(by obtain⟨_,_,rfl⟩:=iE hl;rfl),F12,PySem.W.mg_of X G a12,F12.binds λ_ _ _ _ _ _ us hl=>(by obtain⟨_,_,_,rfl⟩:=vm hl;rfl),F13,PySem.W.mg_of X G a13,F13.binds λ_ _ _ _ _ _ us hl=>(by obtain⟨_,_,rfl⟩:=iE hl;rfl),F14,PySem.W.mg_of X G a14,F14.binds λ_ _ _ _ _ _ us hl=>(by obtain⟨_,rfl⟩:=re hl;rfl),F15,PySem.W.mg_of X G a15,F15.binds λ_ _ _ _ _ _ us hl=>(by obtain⟨_,rfl⟩:=re hl;rfl),F16,PySem.W.mg_of X G a16,F16.binds λ_ _ _ _ _ _ us hl=>(by obtain⟨_,_,_,rfl⟩:=vm hl;rfl),F17,PySem.W.mg_of X G a17,F17.binds λ_ _ _ _ _ _ us hl=>(by obtain⟨_,_,rfl⟩:=iE hl;rfl),F18,PySem.W.mg_of X G a18,F18.binds λ_ _ _ _ _ _ us hl=>(by obtain⟨_,_,rfl⟩:=iE hl;rfl),F19,PySem.W.mg_of X G a19,F19.binds λ_ _ _ _ _ _ us hl=>(by obtain⟨_,_,rfl⟩:=iE hl;rfl),F20,PySem.W.mg_of X G a20,F20.binds λ_ _ _ _ _ _ us hl=>(by obtain⟨_,rfl⟩:=re hl;rfl),PySem.W.mg_none_of X G z_ValueError,PySem.W.mg_none_of X G z_all,PySem.W.mg_none_of X G z_bool,PySem.W.mg_none_of X G z_enumerate,PySem.W.mg_none_of X G z_int,PySem.W.mg_none_of X G z_isinstance,PySem.W.mg_none_of X G z_len,PySem.W.mg_none_of X G z_list,PySem.W.mg_none_of X G z_max,PySem.W.mg_none_of X G z_min,PySem.W.mg_none_of X G z_range,PySem.W.mg_none_of X G z_sorted,PySem.W.mg_none_of X G z_str,PySem.W.mg_none_of X G z_sum,PySem.W.mg_none_of X G z_tuple,PySem.W.mg_none_of X G z_zip⟩,rfl⟩
theorem txt_ex {K:PySem.W.Frag}{mg:Str->Option Value}{f:Addr} (h:∃ t,Txt K mg t/\t.f20=f):∃ t,Txt K mg t:=let ⟨t,a,_⟩:=h;⟨t,a⟩
theorem walk {l:PySem.W.OpenLaw}{q:Program}{loose:List Str}{XP:(Str->Option Value)->Heap->Prop}{YP:World->Heap->Prop}{d:DefRec}{K:Params->PySem.W.Frag} (hn:l.most=some 63) (hdf:d.params.defaults=[])
  (hY:∀ (w:World) (h:Heap),YP w h->(K w.params).In h)
  (F:∀ (w:World) (mg:Str->Option Value) (fa:Addr) (h:Heap),(K w.params).In h->h.Ns mainGlobals mg->mg d.name=some (.ref fa)->
    ∃ fd:FuncData,(∀ (s:Shared) (u:Value),BindsTo s fd ⟨[u],[]⟩ [("_law_script",u)])/\∀ base:Heap,(K w.params).In base->base.Ns mainGlobals mg->bv l.prog w (K w.params) mg base CX0 9 fa fd ["_law_script"] (spI (K w.params) lB)) :
  PySem.W.WalkO q loose XP YP l.row.toRowW d [] (λf vs=>PySem.call f vs):=
 L2.walk_of (n:=63) (k:=9) (x:="_law_script") (CX:=λ_=>CX0) (sp:=λw=>spI (K w.params) lB) hn (by decide) hdf ⟨rfl,by decide,by decide,rfl⟩ hY F (λ_ _ a ns hl hO hS=>uk hO hS (qX ns hl)) λ_ _ _ _ _ z=>z
theorem law_mk {l:PySem.W.OpenLaw}{w:World}{K:PySem.W.Frag}{h:Heap}{mg:Str->Option Value}{fa:Addr} (hfa:mg "law" = some (.ref fa)) (T0:∃ t,Txt K mg t) :
  ∃ fd:FuncData,(∀ (s:Shared) (v:Value),BindsTo s fd ⟨[v],[]⟩ [("_law_script",v)])/\∀ base:Heap,K.In base->base.Ns mainGlobals mg->bv l.prog w K mg base CX0 9 fa fd ["_law_script"] (spI K lB):=by
 obtain⟨t,T⟩:=T0
 have e:=hfa.symm.trans T.m20
 cases e
 refine⟨t.g20,λs v=>?_,λbase _ _=>vt T⟩
 obtain⟨oc,od,kV,doc,pm,an,cdv,ct,osl,e,_⟩:=T.F20.ex
 rw [e]
 exact .of_eq rfl
end Own
open PySem PySem.W PyProof.Rows
set_option maxRecDepth 100000 in
set_option maxHeartbeats 0 in
theorem PySem.Challenge.cw_signpoly_k18_signs_and_noughts_holds : PySem.Challenge.rw_signpoly_k18_signs_and_noughts.Holds := by
 w_on;o_law;k_head;(case hw=>w_witness2)
 k_fill
 refine Own.walk (l:=PySem.Challenge.rw_signpoly_k18_signs_and_noughts) rfl rfl (λw h Y=>PySem.W.kIn_of Y) ?F
 case F=>
  intro w mg fa h KX G hmg
  refine Own.law_mk (h:=h) hmg ?T
  case T=>
   refine' Own.txt_ex (Own.txt_mk KX G ?a0 ?F0 ?a1 ?F1 ?a2 ?F2 ?a3 ?F3 ?a4 ?F4 ?a5 ?F5 ?a6 ?F6 ?a7 ?F7 ?a8 ?F8 ?a9 ?F9 ?a10 ?F10 ?a11 ?F11 ?a12 ?F12 ?a13 ?F13 ?a14 ?F14 ?a15 ?F15 ?a16 ?F16 ?a17 ?F17 ?a18 ?F18 ?a19 ?F19 ?a20 ?F20 ?z_ValueError ?z_all ?z_bool ?z_enumerate ?z_int ?z_isinstance ?z_len ?z_list ?z_max ?z_min ?z_range ?z_sorted ?z_str ?z_sum ?z_tuple ?z_zip ?cm_SignError ?cm_NoText ?cm_NoLine ?cm_OnNought ?aI ?FI ?ci ?cs ?cx ?cr ?ch ?cT ?cL ?cV)
   case a0=>k_is
   case F0=>refine' L2.fun_mk ?l ?c ?k;(case l=>k_is);(case c=>k_is);case k=>k_is
   case a1=>k_is
   case F1=>refine' L2.fun_mk ?l ?c ?k;(case l=>k_is);(case c=>k_is);case k=>k_is
   case a2=>k_is
   case F2=>refine' L2.fun_mk ?l ?c ?k;(case l=>k_is);(case c=>k_is);case k=>k_is
   case a3=>k_is
   case F3=>refine' L2.fun_mk ?l ?c ?k;(case l=>k_is);(case c=>k_is);case k=>k_is
   case a4=>k_is
   case F4=>refine' L2.fun_mk ?l ?c ?k;(case l=>k_is);(case c=>k_is);case k=>k_is
   case a5=>k_is
   case F5=>refine' L2.fun_mk ?l ?c ?k;(case l=>k_is);(case c=>k_is);case k=>k_is
   case a6=>k_is
   case F6=>refine' L2.fun_mk ?l ?c ?k;(case l=>k_is);(case c=>k_is);case k=>k_is
   case a7=>k_is
   case F7=>refine' L2.fun_mk ?l ?c ?k;(case l=>k_is);(case c=>k_is);case k=>k_is
   case a8=>k_is
   case F8=>refine' L2.fun_mk ?l ?c ?k;(case l=>k_is);(case c=>k_is);case k=>k_is
   case a9=>k_is
   case F9=>refine' L2.fun_mk ?l ?c ?k;(case l=>k_is);(case c=>k_is);case k=>k_is
   case a10=>k_is
   case F10=>refine' L2.fun_mk ?l ?c ?k;(case l=>k_is);(case c=>k_is);case k=>k_is
   case a11=>k_is
   case F11=>refine' L2.fun_mk ?l ?c ?k;(case l=>k_is);(case c=>k_is);case k=>k_is
   case a12=>k_is
   case F12=>refine' L2.fun_mk ?l ?c ?k;(case l=>k_is);(case c=>k_is);case k=>k_is
   case a13=>k_is
   case F13=>refine' L2.fun_mk ?l ?c ?k;(case l=>k_is);(case c=>k_is);case k=>k_is
   case a14=>k_is
   case F14=>refine' L2.fun_mk ?l ?c ?k;(case l=>k_is);(case c=>k_is);case k=>k_is
   case a15=>k_is
   case F15=>refine' L2.fun_mk ?l ?c ?k;(case l=>k_is);(case c=>k_is);case k=>k_is
   case a16=>k_is
   case F16=>refine' L2.fun_mk ?l ?c ?k;(case l=>k_is);(case c=>k_is);case k=>k_is
   case a17=>k_is
   case F17=>refine' L2.fun_mk ?l ?c ?k;(case l=>k_is);(case c=>k_is);case k=>k_is
   case a18=>k_is
   case F18=>refine' L2.fun_mk ?l ?c ?k;(case l=>k_is);(case c=>k_is);case k=>k_is
   case a19=>k_is
   case F19=>refine' L2.fun_mk ?l ?c ?k;(case l=>k_is);(case c=>k_is);case k=>k_is
   case a20=>k_is
   case F20=>refine' L2.fun_mk ?l ?c ?k;(case l=>k_is);(case c=>k_is);case k=>k_is
   case z_ValueError=>k_is
   case z_all=>k_is
   case z_bool=>k_is
   case z_enumerate=>k_is
   case z_int=>k_is
   case z_isinstance=>k_is
   case z_len=>k_is
   case z_list=>k_is
   case z_max=>k_is
   case z_min=>k_is
   case z_range=>k_is
   case z_sorted=>k_is
   case z_str=>k_is
   case z_sum=>k_is
   case z_tuple=>k_is
   case z_zip=>k_is
   case cm_SignError=>k_is
   case cm_NoText=>k_is
   case cm_NoLine=>k_is
   case cm_OnNought=>k_is
   case aI=>k_is
   case FI=>refine' L2.fun_mk ?l ?c ?k;(case l=>k_is);(case c=>k_is);case k=>k_is
   case ci=>kernel_rfl
   case cs=>kernel_rfl
   case cx=>kernel_rfl
   case cr=>kernel_rfl
   case ch=>kernel_rfl
   case cT=>kernel_rfl
   case cL=>kernel_rfl
   case cV=>kernel_rfl
