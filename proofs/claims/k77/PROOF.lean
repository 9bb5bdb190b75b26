import PyProof.Rows.All
import Wide.All
import OpenK.AllK
import Wide.FinOn
import Lean
import PyProof.EqAt
import PyProof.EqKinds
import PyProof.TupleCall
import PyProof.ListRange
import PyProof.NeKinds
import KE.KSortTup
import PyProof.ZipIter
import PyProof.Rows.CallKwBuiltin
import PyProof.ListStr
import PySem.Challenge.RW_signpoly_k77_rules_written
set_option Elab.async false
set_option linter.all false
set_option maxRecDepth 100000
set_option genSizeOf false
noncomputable section
namespace L2
open PySem PySem.Spec PyProof.Rows
abbrev Key:=Sum Int Str
noncomputable def mr:Key->Value->Bool
 | .inl k,v=>Value.isInt k v
 | .inr x,v=>Value.isStrOf x v
noncomputable def uq (w:World):Key->Int
 | .inl k=>hashInt k
 | .inr x=>hashStr w x
theorem bx:∀ {k:Key}{v:Value},mr k v=true->(∃ i t,k=Sum.inl i/\v=Value.int i t)\/(∃ x t,k=Sum.inr x/\v=Value.str x t)
 | .inl i,v,h=>by
  obtain⟨t,e⟩:=Value.isInt_shape (k:=i) (v:=v) h
  exact .inl ⟨i,t,rfl,e⟩
 | .inr x,v,h=>by
  obtain⟨t,e⟩:=Value.isStrOf_shape (x:=x) (v:=v) h
  exact .inr ⟨x,t,rfl,e⟩
theorem mM (x:Str) (t:Tok):mr (.inr x) (.str x t)=true:=by simp [mr,Value.isStrOf]
theorem rE (a b:Int):decide ((Sum.inl a:Key)=Sum.inl b)=(a==b):=by
 by_cases e:a=b
 ·subst e;simp
 ·have h:¬ (Sum.inl a:Key)=Sum.inl b:=λq=>e (Sum.inl.inj q)
  rw [decide_eq_false h]
  exact (beq_eq_false_iff_ne.mpr e).symm
theorem rG (a b:Str):decide ((Sum.inr a:Key)=Sum.inr b)=decide (a=b):=by
 by_cases e:a=b
 ·subst e;simp
 ·have h:¬ (Sum.inr a:Key)=Sum.inr b:=λq=>e (Sum.inr.inj q)
  rw [decide_eq_false h,decide_eq_false e]
theorem qp (a:Int) (b:Str):decide ((Sum.inl a:Key)=Sum.inr b)=false:=decide_eq_false (λq=>nomatch q)
theorem rC (a:Str) (b:Int):decide ((Sum.inr a:Key)=Sum.inl b)=false:=decide_eq_false (λq=>nomatch q)
noncomputable def bD (prog:Program) (w:World):PySem.KeyKind prog w Key where
 is:=mr
 hash:=uq w
 inj:=λv a b ha hb=>by
  rcases bx ha with⟨i,t,rfl,rfl⟩ | ⟨x,t,rfl,rfl⟩
  ·rcases bx hb with⟨j,u,rfl,e⟩ | ⟨y,u,rfl,e⟩
   ·injection e with e1 _;rw [e1]
   ·exact nomatch e
  ·rcases bx hb with⟨j,u,rfl,e⟩ | ⟨y,u,rfl,e⟩
   ·exact nomatch e
   ·injection e with e1 _;rw [e1]
 byValue:=λk v h=>by
  rcases bx h with⟨i,t,rfl,rfl⟩ | ⟨x,t,rfl,rfl⟩<;>rfl
 pyHash:=λhv h=>by
  rcases bx hv with⟨i,t,rfl,rfl⟩ | ⟨x,t,rfl,rfl⟩
  ·exact wpAny_pyHash_int h
  ·exact wpAny_pyHash_str h
 eqBool:=λhu hv h=>by
  rcases bx hu with⟨i,t,rfl,rfl⟩ | ⟨x,t,rfl,rfl⟩
  ·rcases bx hv with⟨j,u,rfl,rfl⟩ | ⟨y,u,rfl,rfl⟩
   ·rw [rE] at h;exact wpAny_eqBool_int h
   ·rw [qp] at h;exact SeqAt.EqAt.int_str i t y u _ _ _ _ h
  ·rcases bx hv with⟨j,u,rfl,rfl⟩ | ⟨y,u,rfl,rfl⟩
   ·rw [rC] at h;exact SeqAt.EqAt.str_int x t j u _ _ _ _ h
   ·rw [rG] at h;exact wpAny_eqBool_str h
 «strs»:=λk x t v h=>by
  rcases bx h with⟨i,u,rfl,e⟩ | ⟨y,u,rfl,e⟩
  ·exact nomatch e
  ·injection e with e1 _
   subst e1
   cases v<;>rfl
theorem bG (prog:Program) (w:World) (x:Str) (t:Tok):(bD prog w).is (.inr x) (.str x t)=true:=mM x t
end L2
namespace L2
open PySem PySem.Spec PyProof.Rows
inductive V where
 | non | bl (b:Bool) | int (i:Int) | str (x:Str) | byt (b:Array UInt8) | flt (b:UInt64) | ref (a:Addr) | ty (n:String)
 deriving DecidableEq
noncomputable def aP:V->Value->Prop
 | .non,u=>u=Value.none
 | .bl b,u=>u=Value.bool b
 | .int i,u=>∃ t,u=Value.int i t
 | .str x,u=>∃ t,u=Value.str x t
 | .byt b,u=>∃ t,u=Value.bytes b t
 | .flt b,u=>∃ t,u=Value.float b t
 | .ref a,u=>u=Value.ref a
 | .ty n,u=>u=Value.type n
abbrev aC:List V->List Value->Prop:=Paired aP
theorem aC.length {xs:List V}{us:List Value} (r:aC xs us):xs.length=us.length:=Paired.length r
theorem aC.get:∀ {xs:List V}{us:List Value}{i:Nat}{x:V},aC xs us->xs[i]?=some x->∃ u,us[i]?=some u/\aP x u
 | _,_,_,_,.nil,e=>by simp at e
 | _,_,0,_,.cons r _,e=>by simp at e;subst e;exact⟨_,rfl,r⟩
 | _,_,i+1,x,.cons _ t,e=>by
  obtain⟨u,h1,h2⟩:=aC.get (i:=i) (x:=x) t (by simpa using e)
  exact⟨u,by simpa using h1,h2⟩
theorem aC.set {x:V}{u:Value} (r:aP x u):∀ {xs:List V}{us:List Value} (i:Nat),aC xs us->aC (xs.set i x) (us.set i u)
 | _,_,_,.nil=>.nil
 | _,_,0,.cons _ t=>.cons r t
 | _,_,i+1,.cons q t=>.cons q (aC.set r i t)
theorem aC.append:∀ {xs ys:List V}{us ws:List Value},aC xs us->aC ys ws->aC (xs++ys) (us++ws)
 | _,_,_,_,.nil,s=>s
 | _,_,_,_,.cons r t,s=>.cons r (aC.append t s)
theorem aC.take:∀ {xs:List V}{us:List Value} (n:Nat),aC xs us->aC (xs.take n) (us.take n)
 | _,_,0,_=>.nil
 | _,_,_+1,.nil=>.nil
 | _,_,n+1,.cons r t=>.cons r (aC.take n t)
theorem aC.drop:∀ {xs:List V}{us:List Value} (n:Nat),aC xs us->aC (xs.drop n) (us.drop n)
 | _,_,0,r=>r
 | _,_,_+1,.nil=>.nil
 | _,_,n+1,.cons _ t=>aC.drop n t
noncomputable def rT:Option V->Option Value->Prop
 | some v,some u=>aP v u
 | none,none=>True
 | _,_=>False
noncomputable def KV {κ:Type}:List (κ×V)->List (κ×Value)->Prop:=Paired λ(p:κ×V) (q:κ×Value)=>p.1=q.1/\aP p.2 q.2
noncomputable def kV:Key->V
 | .inl i=>.int i
 | .inr x=>.str x
inductive HO where
 | lst (xs:List V)
 | tup (xs:List V)
 | dK (kvs:List (Key×V)) | dT (kvs:List (List Key×V))
 | set (S:Int->Bool) (n:Nat)
 | ins (C dx:Addr) (fs:List (Str×V))
 | own (x:Addr)
 | xd (fs:List (Str×V))
 | met (f x:Addr)
 | rng (lo hi:Int)
 | frz (o:Obj) (u:HO)
 | tbl (ps:Array Value)
 | ext (φ:Heap->Prop)
abbrev Hp:=Addr->Option HO
noncomputable def upd (H:Hp) (a:Addr) (o:HO):Hp:=λb=>if b=a then some o else H b
theorem bi {H:Hp}{a:Addr}{o:HO}:upd H a o a=some o:=by unfold upd;rw [if_pos rfl]
theorem aO {H:Hp}{a b:Addr}{o:HO} (h:b≠a):upd H a o b=H b:=by unfold upd;rw [if_neg h]
theorem bb {H:Hp}{a b:Addr}{o:HO} (h:H a=some o) (h':H b=none):a≠b:=by
 intro e;subst e;rw [h] at h';cases h'
noncomputable def eD (h:Heap) (a:Addr) (its:Array Value):Prop:=∃ o:Obj,h.get? a=some o/\o.cls=.type "tuple"/\(∃ n,o.data=.seq its n)/\o.dict=none
theorem eD.tup {h:Heap}{a:Addr}{its:Array Value} (x:eD h a its):IsTup h a its:=let ⟨o,e,c,n,_⟩:=x;⟨o,e,c,n⟩
theorem eD.new (h:Heap) (its:Array Value):eD (h.push { cls:=.type "tuple",data:=.seq its }) h.objs.size its:=⟨_,Heap.get?_push_size _ rfl,rfl,⟨_,rfl⟩,rfl⟩
section
variable (P:Program) (w:World)
noncomputable def cw (H:Hp) (h:Heap) (a:Addr):HO->Prop
 | .lst xs=>xs.length<=sizeLine/\∃ (its:List Value) (n:Nat),aC xs its/\h.get? a=some { cls:=.type "list",data:=.seq its.toArray n }
 | .tup xs=>xs.length<=sizeLine/\∃ its:List Value,aC xs its/\eD h a its.toArray
 | .dK kvs=>kvs.length<=sizeLine/\(a==sysModules)=false/\∃ vs,KV kvs vs/\h.DictOf (bD P w) a vs
 | .dT kvs=>kvs.length<=sizeLine/\(a==sysModules)=false/\∃ xs:List (List Key×Addr×Value),
   Paired (λ(p:List Key×V) (q:List Key×Addr×Value)=>p.1=q.1/\H q.2.1=some (.tup (p.1.map kV))/\aP p.2 q.2.2) kvs xs/\
   ∃ o es ep,h.get? a=some o/\o.ExactDict/\o.data=.dict es ep/\es.toList=xs.map (entryOfKey (tupleKind (bD P w)))/\(xs.map (·.1)).Nodup
 | .set S n=>h.SetOf (intKind P w) a S n
 | .ins C dx fs=>H dx=some (.own a)/\fs.length<=1000/\dx≠a/\h.get? a=some (PySem.W.instObj C dx)/\
   ∃ mA,h.Ns1 dx mA/\(∀ f,rT (fs.lookup f) (mA f))/\PySem.Within mA (fs.map (·.1))
 | .own _=>∃ o,h.get? a=some o
 | .xd fs=>∃ mA,h.Ns1 a mA/\∀ f,rT (fs.lookup f) (mA f)
 | .rng lo hi=>∃ t u v,h.get? a=some { cls:=.type "range",data:=.fields #[.int lo t,.int hi u,.int 1 v] }
 | .frz o u=>h.get? a=some o/\cw H h a u
 | .tbl ps=>h.get? a=some { cls:=.none,data:=.fields ps }
 | .met f x=>h.get? a=some (PySem.W.methodObj (.ref f) (.ref x))
 | .ext φ=>φ h/\(∃ o,h.get? a=some o)/\∀ h1 h2:Heap,φ h1->(∀ o,h1.get? a=some o->h2.get? a=some o)->φ h2
noncomputable def HOk (H:Hp) (h:Heap):Prop:=∀ a o,H a=some o->cw P w H h a o
end
section
variable {P:Program}{w:World}{H H':Hp}{h h':Heap}{a:Addr}{o:HO}
theorem cw.lt (x:cw P w H h a o):a < h.objs.size:=by
 cases o with
 | lst xs=>obtain⟨_,_,_,_,e⟩:=x;exact Heap.lt_size e
 | tup xs=>obtain⟨_,_,_,p⟩:=x;exact p.tup.lt
 | dK kvs=>obtain⟨_,_,_,_,o,_,_,e,_⟩:=x;exact Heap.lt_size e
 | dT kvs=>obtain⟨_,_,_,_,o,_,_,e,_⟩:=x;exact Heap.lt_size e
 | set S n=>obtain⟨o,_,_,_,e,_⟩:=x;exact Heap.lt_size e
 | ins C dx fs=>obtain⟨_,_,_,e,_⟩:=x;exact Heap.lt_size e
 | own y=>obtain⟨_,e⟩:=x;exact Heap.lt_size e
 | xd fs=>obtain⟨_,⟨_,_,_,e,_⟩,_⟩:=x;exact Heap.lt_size e
 | rng lo hi=>obtain⟨_,_,_,e⟩:=x;exact Heap.lt_size e
 | frz ob u=>obtain⟨e,_⟩:=x;exact Heap.lt_size e
 | tbl ps=>exact Heap.lt_size (show h.get? a=some _ from x)
 | met f y=>exact Heap.lt_size (show h.get? a=some _ from x)
 | ext φ=>obtain⟨_,⟨_,e⟩,_⟩:=x;exact Heap.lt_size e
theorem Paired.mapP {α β:Type}{F G:α->β->Prop}:∀ {l₁:List α}{l₂:List β},Paired F l₁ l₂->(∀ a b,F a b->G a b)->Paired G l₁ l₂
 | _,_,.nil,_=>.nil
 | _,_,.cons r t,f=>.cons (f _ _ r) (Paired.mapP t f)
theorem cw.stay (x:cw P w H h a o) (k:∀ b u,(b=a\/H b=some (.own a))->h.get? b=some u->h'.get? b=some u)
  (ho:∀ b,H b=some (.own a)->H' b=some (.own a)) (ht:∀ b xs,H b=some (.tup xs)->H' b=some (.tup xs)):cw P w H' h' a o:=by
 induction o with
 | lst xs=>obtain⟨z,its,n,r,e⟩:=x;exact⟨z,its,n,r,k _ _ (.inl rfl) e⟩
 | tup xs=>obtain⟨z,its,r,ob,e,c⟩:=x;exact⟨z,its,r,ob,k _ _ (.inl rfl) e,c⟩
 | dK kvs=>obtain⟨z,y,vs,r,ob,es,ep,e,c⟩:=x;exact⟨z,y,vs,r,ob,es,ep,k _ _ (.inl rfl) e,c⟩
 | dT kvs=>
  obtain⟨z,y,xs,r,ob,es,ep,e,c⟩:=x
  exact⟨z,y,xs,Paired.mapP r λp q z=>⟨z.1,ht _ _ z.2.1,z.2.2⟩,ob,es,ep,k _ _ (.inl rfl) e,c⟩
 | set S n=>obtain⟨ob,es,ep,t,e,c⟩:=x;exact⟨ob,es,ep,t,k _ _ (.inl rfl) e,c⟩
 | ins C dx fs=>
  obtain⟨d,z,ne,e,mA,⟨od,es,ep,e2,c⟩,r⟩:=x
  exact⟨ho _ d,z,ne,k _ _ (.inl rfl) e,mA,⟨od,es,ep,k _ _ (.inr d) e2,c⟩,r⟩
 | own y=>obtain⟨ob,e⟩:=x;exact⟨ob,k _ _ (.inl rfl) e⟩
 | xd fs=>obtain⟨mA,⟨od,es,ep,e,c⟩,r⟩:=x;exact⟨mA,⟨od,es,ep,k _ _ (.inl rfl) e,c⟩,r⟩
 | rng lo hi=>obtain⟨t,u,v,e⟩:=x;exact⟨t,u,v,k _ _ (.inl rfl) e⟩
 | frz ob u ih=>obtain⟨e,q⟩:=x;exact⟨k _ _ (.inl rfl) e,ih q⟩
 | tbl ps=>
  have e:h.get? a=some { cls:=.none,data:=.fields ps }:=x
  show h'.get? a=some { cls:=.none,data:=.fields ps }
  exact k a _ (.inl rfl) e
 | met f y=>
  have e:h.get? a=some (PySem.W.methodObj (.ref f) (.ref y)):=x
  show h'.get? a=some (PySem.W.methodObj (.ref f) (.ref y))
  exact k a _ (.inl rfl) e
 | ext φ=>obtain⟨p,⟨o,e⟩,st⟩:=x;exact⟨st _ _ p λo q=>k _ _ (.inl rfl) q,⟨o,k _ _ (.inl rfl) e⟩,st⟩
theorem HOk.lt (x:HOk P w H h) (e:H a=some o):a < h.objs.size:=(x a o e).lt
theorem HOk.fresh (x:HOk P w H h) (e:h.objs.size<=a):H a=none:=by
 cases q:H a with
 | none=>rfl
 | some u=>exact absurd (Nat.lt_of_lt_of_le (x.lt q) e) (Nat.lt_irrefl _)
theorem HOk.kept (x:HOk P w H h) (k:∀ b u,h.get? b=some u->h'.get? b=some u):HOk P w H h':=λa o e=>
 (x a o e).stay (λb u _ q=>k b u q) (λ_ q=>q) λ_ _ q=>q
theorem HOk.laid (x:HOk P w H h) (k:∀ b u,h.get? b=some u->h'.get? b=some u) (hp:h.objs.size<=a) (new:cw P w (upd H a o) h' a o):HOk P w (upd H a o) h':=λb u e=>by
 have hn:=x.fresh hp
 by_cases hb:b=a
 ·subst hb;rw [bi] at e;cases e;exact new
 ·rw [aO hb] at e
  exact (x b u e).stay (λc v _ q=>k c v q) (λc q=>by rw [aO (bb q hn)];exact q) λc xs q=>by rw [aO (bb q hn)];exact q
end
noncomputable def Rd (H:Hp) (a:Addr) (u:HO):Prop:=H a=some u\/∃ o,H a=some (.frz o u)
theorem Rd.of {H:Hp}{a:Addr}{u:HO} (h:H a=some u):Rd H a u:=.inl h
theorem Rd.ok {P:Program}{w:World}{H:Hp}{h:Heap}{a:Addr}{u:HO} (r:Rd H a u) (x:HOk P w H h):cw P w H h a u:=by
 rcases r with r | ⟨o,r⟩
 ·exact x a u r
 ·obtain⟨_,q⟩:=x a _ r
  exact q
noncomputable def Mut:Option HO->Prop
 | some (.lst _)=>True
 | some (.dK _)=>True
 | some (.dT _)=>True
 | some (.set _ _)=>True
 | some (.ins _ _ _)=>True
 | some (.ext _)=>True
 | _=>False
section
variable {P:Program}{w:World}{H:Hp}{h h':Heap}{x e:Addr}{o':HO}
theorem HOk.write (ok:HOk P w H h) (mu:Mut (H x)) (he:e=x\/H e=some (.own x)) (k:∀ b u,b≠e->h.get? b=some u->h'.get? b=some u) (heo:∃ u,h'.get? e=some u)
  (new:cw P w (upd H x o') h' x o'):HOk P w (upd H x o') h':=λb u q=>by
 have nown:∀ c y,H c=some (.own y)->c≠x:=λc y r z=>by subst z;rw [r] at mu;exact mu
 have ntup:∀ c xs,H c=some (.tup xs)->c≠x:=λc xs r z=>by subst z;rw [r] at mu;exact mu
 by_cases hb:b=x
 ·subst hb;rw [bi] at q;cases q;exact new
 ·rw [aO hb] at q
  by_cases hbe:b=e
  ·have q':H b=some (.own x):=by
    rcases he with z | z
    ·exact absurd (hbe.trans z) hb
    ·rw [hbe];exact z
   rw [q] at q';cases q'
   obtain⟨v,hv⟩:=heo
   exact⟨v,by rw [hbe];exact hv⟩
  ·refine (ok b u q).stay (λc v hc r=>k c v ?_ r) (λc r=>by rw [aO (nown c b r)];exact r) λc xs r=>by rw [aO (ntup c xs r)];exact r
   rcases hc with rfl | hc
   ·exact hbe
   ·rintro rfl
    rcases he with z | z
    ·exact nown c b hc z
    ·rw [hc] at z;cases z;exact hb rfl
end
structure Un (fs ex:List Addr) (H H':Hp) (h h':Heap):Prop where
 keep:∀ b o,h.get? b=some o->H b=none->b ∉ fs->b ∉ ex->h'.get? b=some o
 slot:∀ b o,h.get? b=some o->H b=none->b ∈ fs->b ∉ ex->∃ sl,h'.get? b=some { o with slots:=sl }
 free:∀ b o,h.get? b=some o->H b=none->b ∉ ex->H' b=none
 there:∀ b o,h.get? b=some o->b ∉ ex->∃ o',h'.get? b=some o'
 tups:∀ b xs,H b=some (.tup xs)->H' b=some (.tup xs)
 frzs:∀ b o u,H b=some (.frz o u)->H' b=some (.frz o u)
 tbls:∀ b ps,H b=some (.tbl ps)->∃ more,H' b=some (.tbl (ps++more))
section
variable {fs fs' ex ex':List Addr}{H H1 H2:Hp}{h h1 h2 h':Heap}{a x e:Addr}{o:HO}
theorem Un.any (u:Un fs ex H H1 h h1) {b:Addr}{ob:Obj} (q:h.get? b=some ob) (n:H b=none) (hx:b ∉ ex):∃ sl,h1.get? b=some { ob with slots:=sl }:=by
 by_cases hb:b ∈ fs
 ·exact u.slot b ob q n hb hx
 ·exact⟨ob.slots,u.keep b ob q n hb hx⟩
theorem Un.trans (a:Un fs ex H H1 h h1) (b:Un fs ex H1 H2 h1 h2):Un fs ex H H2 h h2 where
 keep:=λc ob q n hc hx=>b.keep c ob (a.keep c ob q n hc hx) (a.free c ob q n hx) hc hx
 slot:=λc ob q n hc hx=>by
  obtain⟨sl,e1⟩:=a.slot c ob q n hc hx
  obtain⟨sl',e2⟩:=b.slot c _ e1 (a.free c ob q n hx) hc hx
  exact⟨sl',e2⟩
 free:=λc ob q n hx=>by
  obtain⟨o',e1⟩:=a.there c ob q hx
  exact b.free c o' e1 (a.free c ob q n hx) hx
 there:=λc ob q hx=>by
  obtain⟨o',e1⟩:=a.there c ob q hx
  exact b.there c o' e1 hx
 tups:=λc xs q=>b.tups c xs (a.tups c xs q)
 frzs:=λc ob xs q=>b.frzs c ob xs (a.frzs c ob xs q)
 tbls:=λc ps q=>by
  obtain⟨m1,e1⟩:=a.tbls c ps q
  obtain⟨m2,e2⟩:=b.tbls c _ e1
  exact⟨m1++m2,by rw [e2,Array.append_assoc]⟩
theorem Un.kept (k:∀ b u,h.get? b=some u->h'.get? b=some u):Un fs ex H H h h':=
 ⟨λb ob q _ _ _=>k b ob q,λb ob q _ _ _=>⟨ob.slots,k b ob q⟩,λ_ _ _ n _=>n,λb ob q _=>⟨ob,k b ob q⟩,λ_ _ q=>q,λ_ _ _ q=>q,λ_ ps q=>⟨#[],by rw [q];simp⟩⟩
theorem Un.refl:Un fs ex H H h h:=Un.kept λ_ _ q=>q
theorem Un.laid (k:∀ b u,h.get? b=some u->h'.get? b=some u) (hp:h.objs.size<=a) (hn:H a=none):Un fs ex H (upd H a o) h h' where
 keep:=λb u q _ _ _=>k b u q
 slot:=λb u q _ _ _=>⟨u.slots,k b u q⟩
 free:=λb u q n _=>by rw [aO (Nat.ne_of_lt (Nat.lt_of_lt_of_le (Heap.lt_size q) hp))];exact n
 there:=λb u q _=>⟨u,k b u q⟩
 tups:=λb xs q=>by rw [aO (bb q hn)];exact q
 frzs:=λb u xs q=>by rw [aO (bb q hn)];exact q
 tbls:=λb ps q=>⟨#[],by rw [aO (bb q hn),q];simp⟩
theorem Un.write (mu:Mut (H x)) (he:e=x\/H e=some (.own x)) (k:∀ b u,b≠e->h.get? b=some u->h'.get? b=some u) (heo:∃ u,h'.get? e=some u):Un fs ex H (upd H x o) h h':=by
 have hx:∀ b,H b=none->b≠x:=λb n z=>by subst z;rw [n] at mu;exact mu
 have hb:∀ b,H b=none->b≠e:=λb n z=>by
  subst z
  rcases he with r | r
  ·exact hx b n r
  ·rw [n] at r;cases r
 have hm:∀ b u,H b=some u->¬ Mut (some u)->b≠x:=λb u q nm z=>by subst z;rw [q] at mu;exact nm mu
 refine⟨λb u q n _ _=>k b u (hb b n) q,λb u q n _ _=>⟨u.slots,k b u (hb b n) q⟩,λb u q n _=>by rw [aO (hx b n)];exact n,λb u q _=>?_,
  λb xs q=>by rw [aO (hm b _ q λz=>z)];exact q,λb u xs q=>by rw [aO (hm b _ q λz=>z)];exact q,λb ps q=>⟨#[],by rw [aO (hm b _ q λz=>z),q];simp⟩⟩
 by_cases hbe:b=e
 ·subst hbe;exact heo
 ·exact⟨u,k b u hbe q⟩
theorem Un.mono (u:Un fs ex H H1 h h1) (hs:∀ b ∈ fs,b ∈ fs') (hx:∀ b ∈ ex,b ∈ ex'):Un fs' ex' H H1 h h1:=
 ⟨λb ob q n hb he=>u.keep b ob q n (λz=>hb (hs b z)) λz=>he (hx b z),λ_ _ q n _ he=>u.any q n λz=>he (hx _ z),λb ob q n he=>u.free b ob q n λz=>he (hx b z),λb ob q he=>u.there b ob q λz=>he (hx b z),u.tups,u.frzs,u.tbls⟩
end
noncomputable def trk (h:Heap) (H:Hp):List Addr:=(List.range h.objs.size).filter λa=>(H a).isSome
noncomputable def jA (h:Heap) (H:Hp):Heap:=PySem.W.hideAll h (trk h H)
theorem mW (h:Heap) (H:Hp):(jA h H).objs.size=h.objs.size:=PySem.W.hideAll_size _ _
theorem nX {h:Heap}{H:Hp}{b:Addr}{o:Obj} (e:h.get? b=some o) (n:H b=none):(jA h H).get? b=some o:=
 PySem.W.hideAll_get _ e λhm=>by
  have q:(H b).isSome=true:=(List.mem_filter.mp hm).2
  rw [n] at q;simp at q
theorem ph {h:Heap}{H:Hp}{b:Addr}{o:Obj} (e:(jA h H).get? b=some o):h.get? b=some o/\H b=none:=by
 have e':h.get? b=some o:=PySem.W.of_hideAll (trk h H) e
 refine⟨e',?_⟩
 cases q:H b with
 | none=>rfl
 | some x=>
  have hm:b ∈ trk h H:=List.mem_filter.mpr ⟨List.mem_range.mpr (Heap.lt_size e'),by simp [q]⟩
  have z:(jA h H).get? b=none:=PySem.W.hideAll_none (trk h H) hm
  rw [z] at e;cases e
noncomputable def pN (g h:Heap) (L:Addr):List (Addr×Obj):=(List.range h.objs.size).filterMap λa=>if a=L\/(g.get? a).isSome=true then none else (h.get? a).map λo=>(a,o)
noncomputable def bW (g h:Heap) (L d:Addr):List (Addr×Obj):=(pN g h L).filter λp=>decide (p.1≠d)
end L2
namespace L2
open PySem PySem.Spec PyProof.Rows
structure Mod (K:PySem.W.Frag) (mg:Str->Option Value) (base:Heap):Prop where
 kin:K.In base
 glob:base.Ns mainGlobals mg
 blt:∃ mb,base.Ns builtinsNs mb/\∀ x:Str,x≠"__name__"->mb x=bootBuiltins x
 nolimit:base.NoLimit
structure Cx where
 prog:Program
 w:World
 K:PySem.W.Frag
 mg:Str->Option Value
 base:Heap
 A:Around
 N:List Str
 s₀:Shared
 H₀:Hp
 env:Env
 outer:List Env
 stack:List Env
 ex:List Addr
 fn:Str->Bool
 calm:Bool
 pn:List (Addr×Obj)
 xe:Value->Shared->Prop
noncomputable def frs (l:List Env):List Addr:=l.filterMap (·.frame)
abbrev Cx.fs (X:Cx):List Addr:=frs X.outer
noncomputable def Vis (sc:Scope) (x:Str):Prop:=sc.names.lookup x=some .local\/sc.names.lookup x=some .cell\/sc.names.lookup x=some .free
noncomputable def Loc (sc:Scope) (x:Str):Prop:=sc.names.lookup x=some .local\/sc.names.lookup x=some .cell
noncomputable def uh (env:Env) (h:Heap) (m:Str->Option Value) (x:Str) (u:Value):Prop:=
 (env.kindOf x=some .local/\m x=some u)\/((env.kindOf x=some .cell\/env.kindOf x=some .free)/\∃ c,env.cells.lookup x=some c/\h.IsCell c (some u))
structure Cx.Ok (X:Cx):Prop where
 mod:Mod X.K X.mg X.base
 kind:X.env.scope.kind=.function
 glob:X.env.globals=mainGlobals
 blt:X.env.builtins=builtinsNs
 above:X.s₀.heap.objs.size<=X.env.locals
 inj:∀ x y c,X.env.cells.lookup x=some c->X.env.cells.lookup y=some c->x=y
 has:∀ x,(X.env.kindOf x=some .cell\/X.env.kindOf x=some .free)->∃ c,X.env.cells.lookup x=some c
 cab:∀ x c,X.fn x=true->X.env.cells.lookup x=some c->X.s₀.heap.objs.size<=c
 hd:X.calm=true->X.A.handled=none
 frames:X.A.frames=some X.stack
 stk:X.stack=X.outer\/(X.stack=X.env::X.outer/\X.env.frame=some X.env.locals)
 exf:∀ b ∈ X.ex,b≠X.env.locals/\∀ x c,X.env.cells.lookup x=some c->c≠b
 bs:∀ b o,X.base.get? b=some o->X.s₀.heap.get? b=some o/\X.H₀ b=none
 bsz:X.base.objs.size<=X.s₀.heap.objs.size
 noex:∀ b o,X.base.get? b=some o->b ∉ X.ex
 exfs:∀ b ∈ X.ex,b ∉ X.fs
 funs:X.s₀.heap.FunFrames X.base X.outer
 frf:∀ b ∈ X.fs,X.H₀ b=none
structure Inv (X:Cx) (pins:List (Addr×Obj)) (σ:List (Option V)) (H:Hp) (s:Shared):Prop where
 ok:X.Ok
 os:s.os=X.s₀.os
 bare:AllBare s.gens
 base:Un X.fs X.ex X.H₀ H X.s₀.heap s.heap
 loc:∃ m,s.heap.Ns X.env.locals m/\∀ (i:Nat) (x:Str) (v:V),X.N[i]?=some x->σ[i]?=some (some v)->Vis X.env.scope x->∃ u,aP v u/\uh X.env s.heap m x u
 cell:∀ x c,X.env.cells.lookup x=some c->∃ v,s.heap.IsCell c v
 free:H X.env.locals=none
 freeC:∀ x c,X.env.cells.lookup x=some c->H c=none
 pin:∀ p ∈ X.pn++pins,s.heap.get? p.1=some p.2/\H p.1=none/\p.1≠X.env.locals/\p.1 ∉ X.fs/\∀ v,p.2.data≠.cell v
 hok:HOk X.prog X.w H s.heap
 len:σ.length=X.N.length
section
variable {X:Cx}{pins:List (Addr×Obj)}{σ:List (Option V)}{H H':Hp}{s:Shared}{h':Heap}
theorem Cx.Ok.nofr (ok:X.Ok) {b:Addr}{o:Obj} (e:X.base.get? b=some o):b ∉ X.fs:=λhb=>by
 have:=(ok.funs.mem hb).1
 rw [e] at this;cases this
theorem Inv.bs (I:Inv X pins σ H s):∀ b o,X.base.get? b=some o->s.heap.get? b=some o/\H b=none:=λb o e=>
 ⟨I.base.keep b o (I.ok.bs b o e).1 (I.ok.bs b o e).2 (I.ok.nofr e) (I.ok.noex b o e),I.base.free b o (I.ok.bs b o e).1 (I.ok.bs b o e).2 (I.ok.noex b o e)⟩
theorem Inv.bk (I:Inv X pins σ H s):∀ b o,X.base.get? b=some o->s.heap.get? b=some o:=λb o e=>(I.bs b o e).1
theorem Inv.mod (I:Inv X pins σ H s):Mod X.K X.mg X.base:=I.ok.mod
theorem Inv.kIn (I:Inv X pins σ H s):X.K.In s.heap:=I.ok.mod.kin.keeps I.bk
theorem Inv.nolimit (I:Inv X pins σ H s):s.heap.NoLimit:=I.ok.mod.nolimit.keeps I.bk
theorem Inv.lt (I:Inv X pins σ H s):X.env.locals < s.heap.objs.size:=let ⟨_,hn,_⟩:=I.loc;hn.lt
theorem Inv.sz (I:Inv X pins σ H s):X.s₀.heap.objs.size<=s.heap.objs.size:=Nat.le_trans I.ok.above (Nat.le_of_lt I.lt)
theorem Inv.nofs (I:Inv X pins σ H s) {a:Addr} (h:s.heap.objs.size<=a):a ∉ X.fs:=λhb=>by
 obtain⟨_,o,ho,_⟩:=I.ok.funs.mem hb
 exact absurd (Nat.lt_of_lt_of_le (Heap.lt_size ho) (Nat.le_trans I.sz h)) (Nat.lt_irrefl _)
theorem Inv.cne (I:Inv X pins σ H s):∀ x c,X.env.cells.lookup x=some c->c≠X.env.locals:=λx c e z=>by
 obtain⟨v,o,ho,hd⟩:=I.cell x c e
 obtain⟨m,⟨o',es,ep,ho',hd',_⟩,_⟩:=I.loc
 rw [z,ho'] at ho;cases ho;rw [hd'] at hd;cases hd
theorem Inv.funs (I:Inv X pins σ H s):s.heap.FunFrames X.base X.outer:=by
 have all:∀ (l:List Env),(∀ b ∈ frs l,b ∈ X.fs)->X.s₀.heap.FunFrames X.base l->s.heap.FunFrames X.base l:=by
  intro l
  induction l with
  | nil=>intro _ _;trivial
  | cons env r ih=>
   intro hs hl
   obtain⟨hk,⟨L,o,hf,hn,ho,hd⟩,hr⟩:=hl
   have hL:L ∈ X.fs:=hs L (by unfold frs;rw [List.filterMap_cons,hf];exact List.mem_cons_self)
   obtain⟨sl,e⟩:=I.base.slot L o ho (I.ok.frf L hL) hL λz=>I.ok.exfs L z hL
   exact⟨hk,⟨L,_,hf,hn,e,hd⟩,ih (λb hb=>hs b (by unfold frs;rw [List.filterMap_cons,hf];exact List.mem_cons_of_mem _ hb)) hr⟩
 exact all X.outer (λ_ hb=>hb) I.ok.funs
theorem Inv.stack (I:Inv X pins σ H s):s.heap.FunFrames X.base X.stack:=by
 rcases I.ok.stk with e | ⟨e,hf⟩
 ·rw [e];exact I.funs
 ·rw [e]
  obtain⟨m,hn,_⟩:=I.loc
  refine .cons (by rw [I.ok.kind];decide) hf hn ?_ I.funs
  exact Heap.get?_none_of_le (Nat.le_trans I.ok.bsz I.ok.above)
theorem Inv.stkSub (I:Inv X pins σ H s):∀ b ∈ frs X.stack,b ∈ X.env.locals::X.fs:=λb hb=>by
 rcases I.ok.stk with e | ⟨e,hf⟩
 ·rw [e] at hb;exact List.mem_cons_of_mem _ hb
 ·rw [e] at hb
  unfold frs at hb
  rw [List.filterMap_cons,hf] at hb
  exact hb
theorem Inv.stkFree (I:Inv X pins σ H s):∀ b ∈ frs X.stack,H b=none:=λb hb=>by
 rcases List.mem_cons.mp (I.stkSub b hb) with e | hb
 ·rw [e];exact I.free
 ·obtain⟨_,o,ho,_⟩:=I.ok.funs.mem hb
  exact I.base.free b o ho (I.ok.frf b hb) λz=>I.ok.exfs b z hb
theorem Inv.step {g':Array GenState}{t':Nat}{d':Drawn}{ch:List Addr} (I:Inv X pins σ H s)
  (hch:∀ b ∈ ch,(b ∈ X.ex\/X.s₀.heap.objs.size<=b)/\b≠X.env.locals/\(∀ x c,X.env.cells.lookup x=some c->c≠b)/\∀ p ∈ X.pn++pins,p.1≠b)
  (keep:∀ b o,b≠X.env.locals->b ∉ X.fs->b ∉ ch->s.heap.get? b=some o->H b=none->h'.get? b=some o)
  (slot:∀ b o,b≠X.env.locals->b ∈ X.fs->b ∉ ch->s.heap.get? b=some o->H b=none->∃ sl,h'.get? b=some { o with slots:=sl }) (free:∀ b o,b ∉ ch->s.heap.get? b=some o->H b=none->H' b=none)
  (there:∀ b o,b ∉ ch->s.heap.get? b=some o->∃ o',h'.get? b=some o')
  (tups:∀ b xs,H b=some (.tup xs)->H' b=some (.tup xs)) (frzs:∀ b o u,H b=some (.frz o u)->H' b=some (.frz o u)) (tbls:∀ b ps,H b=some (.tbl ps)->∃ more,H' b=some (.tbl (ps++more)))
  (ns:∀ m,s.heap.Ns X.env.locals m->h'.Ns X.env.locals m) (hok:HOk X.prog X.w H' h') (hg:AllBare g') :
  Inv X pins σ H' { s with heap:=h',gens:=g',drawn:=d',toks:=t' }:=by
 have neL:∀ b o,X.s₀.heap.get? b=some o->b≠X.env.locals:=λb o e=>Nat.ne_of_lt (Nat.lt_of_lt_of_le (Heap.lt_size e) I.ok.above)
 have neC:∀ b o,X.s₀.heap.get? b=some o->b ∉ X.ex->b ∉ ch:=λb o e hx hb=>by
  rcases (hch b hb).1 with z | z
  ·exact hx z
  ·exact absurd (Nat.lt_of_lt_of_le (Heap.lt_size e) z) (Nat.lt_irrefl _)
 have cellK:∀ x c,X.env.cells.lookup x=some c->∀ v,s.heap.IsCell c v->h'.IsCell c v:=λx c e v ⟨o,ho,hd⟩=>by
  have nch:c ∉ ch:=λz=>(hch c z).2.2.1 x c e rfl
  by_cases hc:c ∈ X.fs
  ·obtain⟨sl,q⟩:=slot c o (I.cne x c e) hc nch ho (I.freeC x c e)
   exact⟨_,q,hd⟩
  ·exact⟨o,keep c o (I.cne x c e) hc nch ho (I.freeC x c e),hd⟩
 refine⟨I.ok,I.os,hg,⟨λb o e n hb hx=>?_,λb o e n hb hx=>?_,λb o e n hx=>?_,λb o e hx=>?_,λb xs e=>tups b xs (I.base.tups b xs e),λb o xs e=>frzs b o xs (I.base.frzs b o xs e),λb ps e=>?_⟩,?_,λx c e=>?_,?_,λx c e=>?_,λp hp=>?_,hok,I.len⟩
 ·exact keep b o (neL b o e) hb (neC b o e hx) (I.base.keep b o e n hb hx) (I.base.free b o e n hx)
 ·obtain⟨sl,e1⟩:=I.base.slot b o e n hb hx
  obtain⟨sl',e2⟩:=slot b _ (neL b o e) hb (neC b o e hx) e1 (I.base.free b o e n hx)
  exact⟨sl',e2⟩
 ·obtain⟨o',e1⟩:=I.base.there b o e hx
  exact free b o' (neC b o e hx) e1 (I.base.free b o e n hx)
 ·obtain⟨o',e1⟩:=I.base.there b o e hx
  exact there b o' (neC b o e hx) e1
 ·obtain⟨m1,e1⟩:=I.base.tbls b ps e
  obtain⟨m2,e2⟩:=tbls b _ e1
  exact⟨m1++m2,by rw [e2,Array.append_assoc]⟩
 ·obtain⟨m,hn,hl⟩:=I.loc
  refine⟨m,ns m hn,λi x v e1 e2 e3=>?_⟩
  obtain⟨u,r,l⟩:=hl i x v e1 e2 e3
  refine⟨u,r,?_⟩
  rcases l with l | ⟨k,c,e,z⟩
  ·exact .inl l
  ·exact .inr ⟨k,c,e,cellK x c e _ z⟩
 ·obtain⟨v,z⟩:=I.cell x c e
  exact⟨v,cellK x c e v z⟩
 ·obtain⟨m,⟨o,_,_,ho,_⟩,_⟩:=I.loc
  exact free _ o (λz=>(hch _ z).2.1 rfl) ho I.free
 ·obtain⟨v,o,ho,hd⟩:=I.cell x c e
  exact free c o (λz=>(hch c z).2.2.1 x c e rfl) ho (I.freeC x c e)
 ·obtain⟨e,n,ne,nf,d⟩:=I.pin p hp
  have nch:p.1 ∉ ch:=λz=>(hch p.1 z).2.2.2 p hp rfl
  exact⟨keep p.1 p.2 ne nf nch e n,free p.1 p.2 nch e n,ne,nf,d⟩
theorem Inv.un {t':Nat} (I:Inv X pins σ H s) (u:Un X.fs [] H H' s.heap h') (hok:HOk X.prog X.w H' h'):Inv X pins σ H' { s with heap:=h',toks:=t' }:=by
 obtain⟨m,⟨o,es,ep,ho,r⟩,_⟩:=id I.loc
 obtain⟨sl,hL⟩:=u.any ho I.free (by simp)
 exact I.step (g':=s.gens) (d':=s.drawn) (ch:=[]) (λ_ z=>nomatch z) (λb o _ hb _ e n=>u.keep b o e n hb (by simp)) (λb o _ hb _ e n=>u.slot b o e n hb (by simp)) (λb o _ e n=>u.free b o e n (by simp)) (λb o _ e=>u.there b o e (by simp)) u.tups u.frzs u.tbls (λm' hm=>by
  obtain⟨o',es',ep',ho',r'⟩:=hm
  rw [ho] at ho';cases ho'
  exact⟨_,es',ep',hL,r'⟩) hok I.bare
theorem Inv.call {g':Array GenState}{t':Nat}{d':Drawn}{ch:List Addr} (I:Inv X pins σ H s) (u:Un (frs X.stack) ch H H' s.heap h') (hok:HOk X.prog X.w H' h') (hg:AllBare g')
  (hch:∀ b ∈ ch,(b ∈ X.ex\/X.s₀.heap.objs.size<=b)/\b≠X.env.locals/\(∀ x c,X.env.cells.lookup x=some c->c≠b)/\∀ p ∈ X.pn++pins,p.1≠b) :
  Inv X pins σ H' { s with heap:=h',gens:=g',drawn:=d',toks:=t' }:=by
 obtain⟨m,⟨o,es,ep,ho,r⟩,_⟩:=id I.loc
 obtain⟨sl,hL⟩:=u.any ho I.free λz=>(hch _ z).2.1 rfl
 exact I.step (ch:=ch) hch (λb o hL hb hc e n=>u.keep b o e n (λz=>(List.mem_cons.mp (I.stkSub b z)).elim hL hb) hc) (λb o _ _ hc e n=>u.any e n hc) (λb o hc e n=>u.free b o e n hc) (λb o hc e=>u.there b o e hc) u.tups u.frzs u.tbls (λm' hm=>by
  obtain⟨o',es',ep',ho',r'⟩:=hm
  rw [ho] at ho';cases ho'
  exact⟨_,es',ep',hL,r'⟩) hok hg
theorem Inv.turned {t':Nat}{it:Addr} (I:Inv X pins σ H s) (k:∀ b o,b≠it->s.heap.get? b=some o->h'.get? b=some o) (hn:H it=none) (hL:it≠X.env.locals)
  (h1:it ∈ X.ex\/X.s₀.heap.objs.size<=it) (h2:∀ x c,X.env.cells.lookup x=some c->c≠it) (h3:∀ p ∈ X.pn++pins,p.1≠it):Inv X pins σ H { s with heap:=h',toks:=t' }:=by
 have nit:∀ b u,H b=some u->b≠it:=λb u e z=>by rw [z,hn] at e;cases e
 refine I.step (g':=s.gens) (d':=s.drawn) (ch:=[it]) (λb hb=>?_) (λb o _ _ hc e _=>k b o (λz=>hc (by simp [z])) e) (λb o _ _ hc e _=>⟨o.slots,k b o (λz=>hc (by simp [z])) e⟩) (λ_ _ _ _ n=>n)
  (λb o hc e=>⟨o,k b o (λz=>hc (by simp [z])) e⟩) (λ_ _ e=>e) (λ_ _ _ e=>e) (λb ps e=>⟨#[],by rw [e];simp⟩) (λm hm=>?_) (λb u e=>?_) I.bare
 ·have e:b=it:=by simpa using hb
  subst e
  exact⟨h1,hL,h2,h3⟩
 ·obtain⟨o,es,ep,ho,r⟩:=hm
  exact⟨o,es,ep,k _ o (Ne.symm hL) ho,r⟩
 ·refine (I.hok b u e).stay (λc v hc q=>k c v ?_ q) (λ_ q=>q) λ_ _ q=>q
  rcases hc with z | z
  ·rw [z];exact nit b u e
  ·exact nit c _ z
theorem Inv.tok (I:Inv X pins σ H s) (t:Nat):Inv X pins σ H { s with toks:=t }:=I.un (h':=s.heap) (t':=t) Un.refl I.hok
theorem Inv.kept {t':Nat} (I:Inv X pins σ H s) (k:∀ b u,s.heap.get? b=some u->h'.get? b=some u):Inv X pins σ H { s with heap:=h',toks:=t' }:=I.un (Un.kept k) (I.hok.kept k)
theorem Inv.laid {a:Addr}{o:HO}{t':Nat} (I:Inv X pins σ H s) (k:∀ b u,s.heap.get? b=some u->h'.get? b=some u) (hp:s.heap.objs.size<=a) (new:cw X.prog X.w (upd H a o) h' a o) :
  Inv X pins σ (upd H a o) { s with heap:=h',toks:=t' }:=I.un (Un.laid k hp (I.hok.fresh hp)) (I.hok.laid k hp new)
theorem Inv.write {x e:Addr}{o:HO}{t':Nat} (I:Inv X pins σ H s) (mu:Mut (H x)) (he:e=x\/H e=some (.own x)) (k:∀ b u,b≠e->s.heap.get? b=some u->h'.get? b=some u) (heo:∃ u,h'.get? e=some u)
  (new:cw X.prog X.w (upd H x o) h' x o):Inv X pins σ (upd H x o) { s with heap:=h',toks:=t' }:=I.un (Un.write mu he k heo) (I.hok.write mu he k heo new)
theorem Inv.weak {σ':List (Option V)} (I:Inv X pins σ H s) (hl:σ'.length=σ.length) (w:∀ (i:Nat) v,σ'[i]?=some (some v)->σ[i]?=some (some v)):Inv X pins σ' H s:=
 ⟨I.ok,I.os,I.bare,I.base,let ⟨m,hn,hl'⟩:=I.loc;⟨m,hn,λi x v e1 e2 e3=>hl' i x v e1 (w i v e2) e3⟩,I.cell,I.free,I.freeC,I.pin,I.hok,hl.trans I.len⟩
theorem Inv.pins_of {pins':List (Addr×Obj)} (I:Inv X pins σ H s) (h:∀ p ∈ pins',s.heap.get? p.1=some p.2/\H p.1=none/\p.1≠X.env.locals/\p.1 ∉ X.fs/\∀ v,p.2.data≠.cell v):Inv X pins' σ H s:=
 ⟨I.ok,I.os,I.bare,I.base,I.loc,I.cell,I.free,I.freeC,λp hp=>(List.mem_append.mp hp).elim (λz=>I.pin p (List.mem_append_left _ z)) (h p),I.hok,I.len⟩
theorem kR {N:List Str} (hN:N.Nodup) {i j:Nat}{x:Str} (a:N[i]?=some x) (b:N[j]?=some x):i=j:=by
 obtain⟨h1,e1⟩:=List.getElem?_eq_some_iff.mp a
 obtain⟨h2,e2⟩:=List.getElem?_eq_some_iff.mp b
 exact (List.getElem_inj hN).mp (e1.trans e2.symm)
theorem mY {M:Model}{A:Around}{E:Value->Shared->Prop}{i:Nat}{x:Str}{v:V}{u:Value}{Q:Unit->Shared->Prop} (I:Inv X pins σ H s) (hN:X.N.Nodup) (hi:X.N[i]?=some x) (hx:Loc X.env.scope x) (r:aP v u)
  (h:∀ s',Inv X pins (σ.set i (some v)) H s'->(∃ a,Heap.SameBut a s.heap s'.heap/\(a=X.env.locals\/X.env.cells.lookup x=some a))->Q () s') (hf:X.fn x=true\/X.env.scope.names.lookup x=some .local:=by first | exact .inl rfl | exact .inr rfl | assumption):wpAny M A (storeName X.env x u) Q E s:=by
 obtain⟨m,hn,hl⟩:=id I.loc
 have hcls:(X.env.scope.kind==.class || (X.env.scope.kind==.module && X.env.locals != X.env.globals))=false:=by rw [I.ok.kind];rfl
 have hiσ:i < σ.length:=by rw [I.len];exact (List.getElem?_eq_some_iff.mp hi).1
 have cne:=I.cne
 have tracked:∀ {a:Addr}{h':Heap},(∃ o,s.heap.get? a=some o/\H a=none)->Heap.SameBut a s.heap h'->HOk X.prog X.w H h':=λ{a h'} ha hs b ob e=>by
  obtain⟨_,_,hfree⟩:=ha
  refine (I.hok b ob e).stay (λc w' hc q=>(hs.2 c ?_).trans q) (λ_ q=>q) λ_ _ q=>q
  rintro rfl
  rcases hc with rfl | hc
  ·rw [hfree] at e;cases e
  ·rw [hfree] at hc;cases hc
 rcases hx with hk | hk
 ·refine wpAny_storeName_local hk hn (λh' hn' hs=>?_) hcls
  obtain⟨oL,_,_,hoL,_⟩:=id hn
  refine h _ ⟨I.ok,I.os,I.bare,⟨λb o e n hb hx=>?_,λb o e n hb hx=>?_,I.base.free,λb o e hx=>?_,I.base.tups,I.base.frzs,I.base.tbls⟩,⟨_,hn',λj y v' e1 e2 e3=>?_⟩,λy c e=>?_,I.free,I.freeC,λp hp=>?_,tracked ⟨oL,hoL,I.free⟩ hs,by simpa using I.len⟩ ⟨_,hs,.inl rfl⟩
  ·exact (hs.2 b (Nat.ne_of_lt (Nat.lt_of_lt_of_le (Heap.lt_size e) I.ok.above))).trans (I.base.keep b o e n hb hx)
  ·obtain⟨sl,e1⟩:=I.base.slot b o e n hb hx
   exact⟨sl,(hs.2 b (Nat.ne_of_lt (Nat.lt_of_lt_of_le (Heap.lt_size e) I.ok.above))).trans e1⟩
  ·obtain⟨o',e1⟩:=I.base.there b o e hx
   exact⟨o',(hs.2 b (Nat.ne_of_lt (Nat.lt_of_lt_of_le (Heap.lt_size e) I.ok.above))).trans e1⟩
  ·by_cases hj:j=i
   ·subst hj
    rw [hi] at e1;cases e1
    rw [List.getElem?_set_self hiσ] at e2
    cases e2
    exact⟨u,r,.inl ⟨hk,by simp⟩⟩
   ·rw [List.getElem?_set_ne (Ne.symm hj)] at e2
    obtain⟨u',r',q⟩:=hl j y v' e1 e2 e3
    refine⟨u',r',?_⟩
    rcases q with⟨k,e⟩ | ⟨k,c,e,z⟩
    ·refine .inl ⟨k,?_⟩
     have:y≠x:=λe=>hj (kR hN e1 (e ▸ hi))
     simp [this,e]
    ·exact .inr ⟨k,c,e,z.sameBut hs (cne y c e)⟩
  ·obtain⟨w',z⟩:=I.cell y c e
   exact⟨w',z.sameBut hs (cne y c e)⟩
  ·obtain⟨e,n,ne,nf,d⟩:=I.pin p hp
   exact⟨(hs.2 p.1 ne).trans e,n,ne,nf,d⟩
 ·have hfn:X.fn x=true:=by
   rcases hf with z | z
   ·exact z
   ·rw [z] at hk;cases hk
  obtain⟨c,hc⟩:=I.ok.has x (.inl hk)
  obtain⟨w',z⟩:=I.cell x c hc
  refine wpAny_storeName_cell I.ok.kind hk hc z (λh' hc' hs=>?_)
  obtain⟨oc,hoc,hocd⟩:=id z
  refine h { s with heap:=h' } ⟨I.ok,I.os,I.bare,⟨λb o e n hb hx=>?_,λb o e n hb hx=>?_,I.base.free,λb o e hx=>?_,I.base.tups,I.base.frzs,I.base.tbls⟩,⟨m,hn.sameBut hs (Ne.symm (cne x c hc)),λj y v' e1 e2 e3=>?_⟩,λy c' e=>?_,I.free,I.freeC,λp hp=>?_,tracked ⟨oc,hoc,I.freeC x c hc⟩ hs,by simpa using I.len⟩ ⟨c,hs,.inr hc⟩
  ·exact (hs.2 b (Nat.ne_of_lt (Nat.lt_of_lt_of_le (Heap.lt_size e) (I.ok.cab x c hfn hc)))).trans (I.base.keep b o e n hb hx)
  ·obtain⟨sl,e1⟩:=I.base.slot b o e n hb hx
   exact⟨sl,(hs.2 b (Nat.ne_of_lt (Nat.lt_of_lt_of_le (Heap.lt_size e) (I.ok.cab x c hfn hc)))).trans e1⟩
  ·obtain⟨o',e1⟩:=I.base.there b o e hx
   exact⟨o',(hs.2 b (Nat.ne_of_lt (Nat.lt_of_lt_of_le (Heap.lt_size e) (I.ok.cab x c hfn hc)))).trans e1⟩
  ·by_cases hj:j=i
   ·subst hj
    rw [hi] at e1;cases e1
    rw [List.getElem?_set_self hiσ] at e2
    cases e2
    exact⟨u,r,.inr ⟨.inl hk,c,hc,hc'⟩⟩
   ·rw [List.getElem?_set_ne (Ne.symm hj)] at e2
    obtain⟨u',r',q⟩:=hl j y v' e1 e2 e3
    refine⟨u',r',?_⟩
    rcases q with q | ⟨k,c',e,z'⟩
    ·exact .inl q
    ·refine .inr ⟨k,c',e,z'.sameBut hs ?_⟩
     rintro rfl
     exact hj (kR hN e1 (I.ok.inj _ _ _ e hc ▸ hi))
  ·by_cases hcc:c'=c
   ·subst hcc;exact⟨_,hc'⟩
   ·obtain⟨w2,z2⟩:=I.cell y c' e
    exact⟨w2,z2.sameBut hs hcc⟩
  ·obtain⟨e,n,ne,nf,d⟩:=I.pin p hp
   refine⟨(hs.2 p.1 ?_).trans e,n,ne,nf,d⟩
   intro q
   rw [q,hoc] at e
   have q':oc=p.2:=Option.some.inj e
   exact d w' (by rw [<-q'];exact hocd)
theorem kT {M:Model}{A:Around}{E:Value->Shared->Prop}{i:Nat}{x:Str}{v:V}{u:Value}{Q:Unit->Shared->Prop} (I:Inv X pins σ H s) (hN:X.N.Nodup) (hi:X.N[i]?=some x) (hx:Loc X.env.scope x) (r:aP v u)
  (h:∀ s',Inv X pins (σ.set i (some v)) H s'->Q () s') (hf:X.fn x=true\/X.env.scope.names.lookup x=some .local:=by first | exact .inl rfl | exact .inr rfl | assumption):wpAny M A (storeName X.env x u) Q E s:=
 mY I hN hi hx r (λs' I' _=>h s' I') hf
theorem Inv.call' {s':Shared}{ch:List Addr} (I:Inv X pins σ H s) (ho:s'.os=s.os) (u:Un (frs X.stack) ch H H' s.heap s'.heap) (hok:HOk X.prog X.w H' s'.heap) (hg:AllBare s'.gens)
  (hch:∀ b ∈ ch,(b ∈ X.ex\/X.s₀.heap.objs.size<=b)/\b≠X.env.locals/\(∀ x c,X.env.cells.lookup x=some c->c≠b)/\∀ p ∈ X.pn++pins,p.1≠b):Inv X pins σ H' s':=by
 obtain⟨h',g',d',t',o'⟩:=s'
 have e:o'=s.os:=ho
 subst e
 exact I.call (g':=g') (t':=t') (d':=d') u hok hg hch
end
abbrev XK:=Value->Option Addr->Hp->Prop
abbrev St:=List (Option V)
abbrev VK:=V->Hp->Prop
abbrev TE:=St->Hp->VK->Prop
abbrev TT:=St->Hp->(Bool->Hp->Prop)->Prop
abbrev TA:=St->Hp->(List V->Hp->Prop)->Prop
structure lL where
 nx:St->Hp->Prop
 rt:VK
 bk:St->Hp->Prop:=λ_ _=>False
 ct:St->Hp->Prop:=λ_ _=>False
abbrev TS:=lL->St->Hp->Prop
noncomputable def EP (X:Cx) (pins:List (Addr×Obj)) (σ:St) (Q:VK) (u:Value) (s':Shared):Prop:=∃ v H',Inv X pins σ H' s'/\aP v u/\Q v H'
noncomputable def TP (X:Cx) (pins:List (Addr×Obj)) (σ:St) (Q:Bool->Hp->Prop) (b:Bool) (s':Shared):Prop:=∃ H',Inv X pins σ H' s'/\Q b H'
noncomputable def AP (X:Cx) (pins:List (Addr×Obj)) (σ:St) (Q:List V->Hp->Prop) (us:List Value) (s':Shared):Prop:=∃ vs H',Inv X pins σ H' s'/\aC vs us/\Q vs H'
noncomputable def SP (X:Cx) (pins:List (Addr×Obj)) (D:lL) (f:Flow) (s':Shared):Prop:=
 match f with
 | .next=>∃ σ' H',Inv X pins σ' H' s'/\D.nx σ' H'
 | .brk=>∃ σ' H',Inv X pins σ' H' s'/\D.bk σ' H'
 | .cont=>∃ σ' H',Inv X pins σ' H' s'/\D.ct σ' H'
 | .ret u=>∃ v σ' H',Inv X pins σ' H' s'/\aP v u/\D.rt v H'
noncomputable def PE (X:Cx) (e:Expr) (t:TE):Prop:=
 ∀ (pins:List (Addr×Obj)) (s:Shared) (σ:St) (H:Hp) (Q:VK),Inv X pins σ H s->t σ H Q->wpAny (model X.prog X.w) X.A (eval e X.env) (EP X pins σ Q) X.xe s
noncomputable def PT (X:Cx) (e:Expr) (t:TT):Prop:=
 ∀ (pins:List (Addr×Obj)) (s:Shared) (σ:St) (H:Hp) (Q:Bool->Hp->Prop),Inv X pins σ H s->t σ H Q->wpAny (model X.prog X.w) X.A (isTrue e X.env (eval e X.env)) (TP X pins σ Q) X.xe s
noncomputable def PW (X:Cx) (e:Expr) (t:TT):Prop:=
 ∀ (whole:Sem Value) (pins:List (Addr×Obj)) (s:Shared) (σ:St) (H:Hp) (Q:Bool->Hp->Prop),Inv X pins σ H s->t σ H Q->wpAny (model X.prog X.w) X.A (isTrue e X.env whole) (TP X pins σ Q) X.xe s
theorem PW.pt {X:Cx}{e:Expr}{t:TT} (h:PW X e t):PT X e t:=h _
noncomputable def PA (X:Cx) (es:List Expr) (t:TA):Prop:=
 ∀ (pos:Pos) (pins:List (Addr×Obj)) (s:Shared) (σ:St) (H:Hp) (Q:List V->Hp->Prop),Inv X pins σ H s->t σ H Q->wpAny (model X.prog X.w) X.A (spliced (backTo pos (starEach es X.env))) (AP X pins σ Q) X.xe s
noncomputable def PS (X:Cx) (st:Stmt) (t:TS):Prop:=
 ∀ (pins:List (Addr×Obj)) (s:Shared) (σ:St) (H:Hp) (D:lL),Inv X pins σ H s->t D σ H->wpAny (model X.prog X.w) X.A (exec st X.env) (SP X pins D) X.xe s
noncomputable def PSs (X:Cx) (st:List Stmt) (t:TS):Prop:=
 ∀ (pins:List (Addr×Obj)) (s:Shared) (σ:St) (H:Hp) (D:lL),Inv X pins σ H s->t D σ H->wpAny (model X.prog X.w) X.A (execs st X.env) (SP X pins D) X.xe s
theorem thn {α:Type}{t:Sem α}{Q Q':α->Shared->Prop}{M:Model}{A:Around}{E:Value->Shared->Prop}{s:Shared} (h:wpAny M A t Q E s) (hQ:∀ a s,Q a s->Q' a s):wpAny M A t Q' E s:=wpAny_mono h hQ λ_ _ x=>x
end L2
namespace L2
open PySem PySem.Spec PyProof.Rows
section
variable {X:Cx}
noncomputable def re (i:Nat):TE:=λσ H Q=>∃ v,σ[i]?=some (some v)/\Q v H
noncomputable def tC (v:V):TE:=λ_ H Q=>Q v H
theorem rm {i:Nat}{x:Str}{pos:Pos} (hN:X.N[i]?=some x) (hv:Vis X.env.scope x) (hd:(x==("__debug__" : Str))=false:=by decide) (hcd:(x==("__classdict__" : Str))=false:=by decide):PE X (.Name x pos) (re i):=by
 intro pins s σ H Q I h
 obtain⟨v,e,h⟩:=h
 obtain⟨m,hn,hl⟩:=I.loc
 obtain⟨u,r,l⟩:=hl i x v hN e hv
 have fin:EP X pins σ Q u s:=⟨v,H,I,r,h⟩
 rcases l with⟨hk,hm⟩ | ⟨hk,c,hc,hcell⟩
 ·exact wpAny_Name (wpAny_loadName_local I.ok.kind hk hn hm fin) hd
 ·rcases hk with hk | hk
  ·exact wpAny_Name (wpAny_loadName_cell I.ok.kind hk hc hcell fin) hd
  ·exact wpAny_Name (wpAny_loadName_free I.ok.kind hk hc hcell fin hcd) hd
theorem qX {i j pos}:PE X (.Constant (.int i) j pos) (tC (.int i)):=λ_ _ _ H _ I h=>wpAny_Constant_int ⟨.int i,H,I.tok _,⟨_,rfl⟩,h⟩
theorem tN {b j pos}:PE X (.Constant (.bool b) j pos) (tC (.bl b)):=λ_ _ _ H _ I h=>Constant_bool ⟨.bl b,H,I,rfl,h⟩
theorem qq {j pos}:PE X (.Constant .none j pos) (tC .non):=λ_ _ _ H _ I h=>Constant_none ⟨.non,H,I,rfl,h⟩
theorem rO {x j pos}:PE X (.Constant (.str x) j pos) (tC (.str x)):=λ_ _ _ H _ I h=>Calls.Constant_str ⟨.str x,H,I.tok _,⟨_,rfl⟩,h⟩
noncomputable def Gl (X:Cx) (x:Str):Prop:=X.env.kindOf x=some .globalImplicit
theorem lY {E:Value->Shared->Prop}{pins:List (Addr×Obj)}{s:Shared}{σ:St}{H:Hp}{x:Str}{u:Value}{pos:Pos}{Q:Value->Shared->Prop} (I:Inv X pins σ H s) (hg:Gl X x) (hm:X.mg x=some u) (h:Q u s)
  (hd:(x==("__debug__" : Str))=false:=by decide):wpAny (model X.prog X.w) X.A (eval (.Name x pos) X.env) Q E s:=
 Calls.Name_function_global I.ok.kind hg (Calls.loadGlobal_global (by rw [I.ok.glob];exact I.mod.glob.keeps I.bk) hm h) hd
theorem ke {E:Value->Shared->Prop}{pins:List (Addr×Obj)}{s:Shared}{σ:St}{H:Hp}{x:Str}{u:Value}{pos:Pos}{Q:Value->Shared->Prop} (I:Inv X pins σ H s) (hg:Gl X x) (hm:X.mg x=none) (hv:bootBuiltins x=some u) (h:Q u s)
  (hn:x≠"__name__":=by decide) (hd:(x==("__debug__" : Str))=false:=by decide):wpAny (model X.prog X.w) X.A (eval (.Name x pos) X.env) Q E s:=by
 obtain⟨mb,h1,h2⟩:=I.mod.blt
 exact Calls.Name_function_global I.ok.kind hg (Calls.loadGlobal_builtin (by rw [I.ok.glob];exact I.mod.glob.keeps I.bk) hm (by rw [I.ok.blt];exact h1.keeps I.bk) ((h2 x hn).trans hv) h) hd
theorem jM {x:Str}{v:V}{u:Value}{pos:Pos} (hg:Gl X x) (hm:X.mg x=some u) (r:aP v u) (hd:(x==("__debug__" : Str))=false:=by decide):PE X (.Name x pos) (tC v):=
 λ_ _ _ H _ I h=>lY I hg hm ⟨v,H,I,r,h⟩ hd
theorem pj {x:Str}{v:V}{u:Value}{pos:Pos} (hg:Gl X x) (hm:X.mg x=none) (hv:bootBuiltins x=some u) (r:aP v u) (hn:x≠"__name__":=by decide) (hd:(x==("__debug__" : Str))=false:=by decide):PE X (.Name x pos) (tC v):=
 λ_ _ _ H _ I h=>ke I hg hm hv ⟨v,H,I,r,h⟩ hn hd
variable {a b:Expr}{ta tb:TE}{pos:Pos}
variable {tA tB':TT}{bW:List Expr}
noncomputable def tOr (t u:TT):TT:=λσ H Q=>t σ H λc H1=>if c=true then Q true H1 else u σ H1 Q
noncomputable def ut (t:TT):TT:=λσ H Q=>t σ H λc H1=>Q (!c) H1
theorem qV (ha:PT X a tA):PW X (.BoolOp .Or [a] pos) tA:=by
 intro wh pins s σ H Q I h
 refine isTrue_or (thn (ha pins s σ H Q I h) λc s1 e=>?_)
 cases c with
 | false=>exact isTrue_or_nil e
 | true=>exact e
theorem qj (ha:PT X a tA) (hb:PW X (.BoolOp .Or (b::bW) pos) tB'):PW X (.BoolOp .Or (a::b::bW) pos) (tOr tA tB'):=by
 intro wh pins s σ H Q I h
 refine isTrue_or (thn (ha pins s σ H _ I h) λc s1 ⟨H1,I1,q1⟩=>?_)
 cases c with
 | true=>exact⟨H1,I1,q1⟩
 | false=>exact hb wh pins s1 σ H1 Q I1 q1
theorem qr (ha:PT X a tA):PT X (.UnaryOp .Not a pos) (ut tA):=by
 intro pins s σ H Q I h
 exact isTrue_not (ha pins s σ H (λc H1=>Q (!c) H1) I h)
noncomputable def sF (ta tb:TE):TE:=λσ H Q=>ta σ H λx H1=>∃ c,x=.bl c/\if c=true then tb σ H1 Q else Q (.bl false) H1
noncomputable def sG (ta:TE):TE:=λσ H Q=>ta σ H λx H1=>∃ c,x=.bl c/\Q (.bl (!c)) H1
theorem qY {op}{t:TE} (h:PE X a t):PE X (.BoolOp op [a] pos) t:=λpins s σ H Q I hw=>BoolOp_one (h pins s σ H Q I hw)
theorem nz (ha:PE X a ta) (hb:PE X (.BoolOp .And (b::bW) pos) tb):PE X (.BoolOp .And (a::b::bW) pos) (sF ta tb):=by
 intro pins s σ H Q I h
 refine BoolOp_and (thn (ha pins s σ H _ I h) λv s1 ⟨x,H1,I1,r1,q1⟩=>?_)
 obtain⟨c,rfl,q1⟩:=q1
 cases r1
 refine wpAny_truthy_bool ?_
 cases c with
 | true=>exact hb pins s1 σ H1 Q I1 q1
 | false=>exact⟨.bl false,H1,I1,rfl,q1⟩
theorem qx (ha:PE X a ta):PE X (.UnaryOp .Not a pos) (sG ta):=by
 intro pins s σ H Q I h
 refine UnaryOp_ (thn (ha pins s σ H _ I h) λv s1 ⟨x,H1,I1,r1,q1⟩=>?_)
 obtain⟨c,rfl,q1⟩:=q1
 cases r1
 exact not_of (wpAny_truthy_bool ⟨.bl (!c),H1,I1,rfl,q1⟩)
noncomputable def tIf (t:TT) (ta tb:TE):TE:=λσ H Q=>t σ H λc H1=>if c=true then ta σ H1 Q else tb σ H1 Q
theorem kt {c:Expr} (hc:PT X c tA) (ha:PE X a ta) (hb:PE X b tb):PE X (.IfExp c a b pos) (tIf tA ta tb):=by
 intro pins s σ H Q I h
 refine wpAny_IfExp (thn (hc pins s σ H _ I h) λd s1 ⟨H1,I1,q1⟩=>?_)
 cases d with
 | true=>exact ha pins s1 σ H1 Q I1 q1
 | false=>exact hb pins s1 σ H1 Q I1 q1
end
end L2
namespace L2
open PySem PySem.Spec PyProof.Rows
noncomputable def SqL (K:PySem.W.Frag) (H:Hp) (a:Addr) (xs:List V):Prop:=
 Rd H a (.lst xs)\/
  ∃ (o:Obj) (its:Array Value) (n:Nat),K.lookup a=some o/\o.cls=.type "list"/\o.dict=none/\o.data=.seq its n/\its.size<=sizeLine/\aC xs its.toList
noncomputable def SqT (K:PySem.W.Frag) (H:Hp) (a:Addr) (xs:List V):Prop:=
 Rd H a (.tup xs)\/
  ∃ (o:Obj) (its:Array Value) (n:Nat),K.lookup a=some o/\o.cls=.type "tuple"/\o.data=.seq its n/\its.size<=sizeLine/\aC xs its.toList/\o.dict=none
noncomputable def ue:Value->Option V
 | .none=>some .non
 | .bool b=>some (.bl b)
 | .int i _=>some (.int i)
 | .str x _=>some (.str x)
 | .bytes b _=>some (.byt b)
 | .float b _=>some (.flt b)
 | .ref a=>some (.ref a)
 | .type n=>some (.ty n)
 | _=>none
theorem aP.abs {x:V}{u:Value} (r:aP x u):ue u=some x:=by
 cases x with
 | non=>cases r;rfl
 | bl _=>cases r;rfl
 | int _=>obtain⟨t,rfl⟩:=r;rfl
 | str _=>obtain⟨t,rfl⟩:=r;rfl
 | byt _=>obtain⟨t,rfl⟩:=r;rfl
 | flt _=>obtain⟨t,rfl⟩:=r;rfl
 | ref _=>cases r;rfl
 | ty _=>cases r;rfl
theorem aP.inj {x y:V}{u:Value} (r:aP x u) (q:aP y u):x=y:=Option.some.inj (r.abs.symm.trans q.abs)
theorem aC.inj:∀ {xs ys:List V}{us:List Value},aC xs us->aC ys us->xs=ys
 | _,_,_,.nil,.nil=>rfl
 | _,_,_,.cons r t,.cons r' t'=>by rw [r.inj r',aC.inj t t']
section
variable {X:Cx}{pins:List (Addr×Obj)}{σ:St}{H:Hp}{s:Shared}{a:Addr}{xs ys:List V}
theorem SqL.of {K:PySem.W.Frag} (h:H a=some (.lst xs)):SqL K H a xs:=.inl (.inl h)
theorem SqT.of {K:PySem.W.Frag} (h:H a=some (.tup xs)):SqT K H a xs:=.inl (.inl h)
theorem Inv.list (I:Inv X pins σ H s) (h:SqL X.K H a xs):∃ its:List Value,aC xs its/\PlainL s.heap a its.toArray/\xs.length<=sizeLine:=by
 rcases h with h | ⟨o,its,n,hk,hc,hd,hs,hz,r⟩
 ·obtain⟨z,its,n,r,e⟩:=h.ok I.hok
  exact⟨its,r,⟨_,n,e,rfl,rfl,rfl⟩,z⟩
 ·refine⟨its.toList,r,⟨o,n,I.kIn a o hk,hc,hd,by simpa using hs⟩,?_⟩
  have e:=r.length
  simp only [Array.length_toList] at e
  lia
theorem Inv.tuple (I:Inv X pins σ H s) (h:SqT X.K H a xs):∃ its:List Value,aC xs its/\IsTup s.heap a its.toArray/\xs.length<=sizeLine:=by
 rcases h with h | ⟨o,its,n,hk,hc,hs,hz,r,_⟩
 ·obtain⟨z,its,r,p⟩:=h.ok I.hok
  exact⟨its,r,p.tup,z⟩
 ·refine⟨its.toList,r,⟨o,I.kIn a o hk,hc,n,by simpa using hs⟩,?_⟩
  have e:=r.length
  simp only [Array.length_toList] at e
  lia
theorem Inv.tuple1 (I:Inv X pins σ H s) (h:SqT X.K H a xs):∃ o:Obj,s.heap.get? a=some o/\o.cls=.type "tuple"/\o.dict=none:=by
 rcases h with h | ⟨o,its,n,hk,hc,hs,hz,r,hd⟩
 ·obtain⟨z,its,r,o,e,c,_,hd⟩:=h.ok I.hok
  exact⟨o,e,c,hd⟩
 ·exact⟨o,I.kIn a o hk,hc,hd⟩
theorem Inv.list_inj (I:Inv X pins σ H s) (h:SqL X.K H a xs) (h':SqL X.K H a ys):xs=ys:=by
 obtain⟨its,r,⟨o,n,e,_,_,d⟩,_⟩:=I.list h
 obtain⟨its',r',⟨o',n',e',_,_,d'⟩,_⟩:=I.list h'
 rw [e] at e';cases e'
 rw [d] at d'
 injection d' with d1 _
 have:its=its':=by simpa using congrArg Array.toList d1
 subst this
 exact r.inj r'
theorem Inv.tuple_inj (I:Inv X pins σ H s) (h:SqT X.K H a xs) (h':SqT X.K H a ys):xs=ys:=by
 obtain⟨its,r,⟨o,e,_,n,d⟩,_⟩:=I.tuple h
 obtain⟨its',r',⟨o',e',_,n',d'⟩,_⟩:=I.tuple h'
 rw [e] at e';cases e'
 rw [d] at d'
 injection d' with d1 _
 have:its=its':=by simpa using congrArg Array.toList d1
 subst this
 exact r.inj r'
end
abbrev Cx.wish (X:Cx) (E:Value->Shared->Prop):Cx:={ X with xe:=E }
abbrev Cx.nox (X:Cx):Cx:=X.wish λ_ _=>False
theorem Cx.Ok.wish {X:Cx} (ok:X.Ok) (E:Value->Shared->Prop):(X.wish E).Ok:=
 ⟨ok.mod,ok.kind,ok.glob,ok.blt,ok.above,ok.inj,ok.has,ok.cab,ok.hd,ok.frames,ok.stk,ok.exf,ok.bs,ok.bsz,ok.noex,ok.exfs,ok.funs,ok.frf⟩
theorem Cx.Ok.unwish {X:Cx}{E:Value->Shared->Prop} (ok:(X.wish E).Ok):X.Ok:=
 ⟨ok.mod,ok.kind,ok.glob,ok.blt,ok.above,ok.inj,ok.has,ok.cab,ok.hd,ok.frames,ok.stk,ok.exf,ok.bs,ok.bsz,ok.noex,ok.exfs,ok.funs,ok.frf⟩
section
variable {X:Cx}{pins:List (Addr×Obj)}{σ:St}{H:Hp}{s:Shared}{E:Value->Shared->Prop}
theorem Inv.wish (I:Inv X pins σ H s) (E:Value->Shared->Prop):Inv (X.wish E) pins σ H s:=⟨I.ok.wish E,I.os,I.bare,I.base,I.loc,I.cell,I.free,I.freeC,I.pin,I.hok,I.len⟩
theorem Inv.unwish (I:Inv (X.wish E) pins σ H s):Inv X pins σ H s:=⟨I.ok.unwish,I.os,I.bare,I.base,I.loc,I.cell,I.free,I.freeC,I.pin,I.hok,I.len⟩
theorem SP.unwish {D:lL}{f:Flow}{s':Shared} (h:SP (X.wish E) pins D f s'):SP X pins D f s':=by
 cases f with
 | next=>obtain⟨σ',H',I,q⟩:=h;exact⟨σ',H',I.unwish,q⟩
 | brk=>obtain⟨σ',H',I,q⟩:=h;exact⟨σ',H',I.unwish,q⟩
 | cont=>obtain⟨σ',H',I,q⟩:=h;exact⟨σ',H',I.unwish,q⟩
 | ret u=>obtain⟨v,σ',H',I,r,q⟩:=h;exact⟨v,σ',H',I.unwish,r,q⟩
theorem PE.nox {e:Expr}{t:TE} (h:PE X.nox e t):PE X e t:=λpins s σ H Q I hw=>
 wpAny_mono (h pins s σ H Q (I.wish _) hw) (λ_ _ ⟨v,H',I',r,q⟩=>⟨v,H',I'.unwish,r,q⟩) λ_ _ z=>False.elim z
theorem PT.nox {e:Expr}{t:TT} (h:PT X.nox e t):PT X e t:=λpins s σ H Q I hw=>
 wpAny_mono (h pins s σ H Q (I.wish _) hw) (λ_ _ ⟨H',I',q⟩=>⟨H',I'.unwish,q⟩) λ_ _ z=>False.elim z
theorem PSs.nox {st:List Stmt}{t:TS} (h:PSs X.nox st t):PSs X st t:=λpins s σ H D I hw=>
 wpAny_mono (h pins s σ H D (I.wish _) hw) (λ_ _ q=>q.unwish) λ_ _ z=>False.elim z
end
section
variable {X:Cx}{st:Stmt}{bW:List Stmt}{t u:TS}{e:Expr}{te:TE}{pos:Pos}
noncomputable def sY:TS:=λD σ H=>D.nx σ H
noncomputable def t7 (t u:TS):TS:=λD σ H=>t { D with nx:=u D } σ H
theorem pi:PSs X [] sY:=λ_ _ σ H _ I h=>wpAny_execs_nil ⟨σ,H,I,h⟩
theorem gf (h1:PS X st t) (h2:PSs X bW u):PSs X (st::bW) (t7 t u):=by
 intro pins s σ H D I h
 refine wpAny_execs_cons (thn (h1 pins s σ H { D with nx:=u D } I h) λf s1 q=>?_)
 cases f with
 | next=>
  obtain⟨σ',H',I',q⟩:=q
  exact h2 pins s1 σ' H' D I' q
 | ret v=>exact q
 | brk=>exact q
 | cont=>exact q
theorem pd (h1:PS X st t):PSs X [st] t:=by
 intro pins s σ H D I h
 refine wpAny_execs_cons (thn (h1 pins s σ H D I h) λf s1 q=>?_)
 cases f with
 | next=>exact wpAny_execs_nil q
 | ret v=>exact q
 | brk=>exact q
 | cont=>exact q
theorem Inv.quiet {pins:List (Addr×Obj)}{σ:St}{H:Hp}{s:Shared} (I:Inv X pins σ H s):interactive X.env=false:=by simp [interactive,I.ok.kind]
noncomputable def sj (te:TE):TS:=λD σ H=>te σ H λ_ H1=>D.nx σ H1
theorem oX (he:PE X e te) (hs:swapsWith e none pos.line X.env=pure false:=by rfl):PS X (.Expr e pos) (sj te):=by
 intro pins s σ H D I h
 exact wpAny_Expr_any (thn (he pins s σ H _ I h) λv s1 ⟨x,H1,I1,r1,q1⟩=>⟨σ,H1,I1,q1⟩) I.quiet hs
noncomputable def tZ (te:TE):TS:=λD σ H=>te σ H D.rt
theorem rA (he:PE X e te):PS X (.Return (some e) pos) (tZ te):=by
 intro pins s σ H D I h
 exact wpAny_Return_some (thn (he pins s σ H _ I h) λv s1 ⟨x,H1,I1,r1,q1⟩=>⟨x,σ,H1,I1,r1,q1⟩)
noncomputable def t5 (c:TT) (t u:TS):TS:=λD σ H=>c σ H λb H1=>if b=true then t D σ H1 else u D σ H1
theorem qe {c:Expr}{a b:List Stmt}{tc:TT} (hc:PT X c tc) (ha:PSs X a t) (hb:PSs X b u):PS X (.If c a b pos) (t5 tc t u):=by
 intro pins s σ H D I h
 refine wpAny_If (thn (hc pins s σ H _ I h) λd s1 ⟨H1,I1,q1⟩=>?_)
 cases d with
 | true=>exact ha pins s1 σ H1 D I1 q1
 | false=>exact hb pins s1 σ H1 D I1 q1
noncomputable def rL:TS:=λ_ _ _=>False
theorem dW {sts:List Stmt}:PSs X sts rL:=λ_ _ _ _ _ _ h=>h.elim
end
abbrev TG:=V->St->Hp->(St->Hp->Prop)->Prop
noncomputable def PG (X:Cx) (target:Expr) (t:TG):Prop:=
 ∀ (pins:List (Addr×Obj)) (s:Shared) (σ:St) (H:Hp) (v:V) (u:Value) (Q:St->Hp->Prop),Inv X pins σ H s->aP v u->t v σ H Q->
  wpAny (model X.prog X.w) X.A (assign target X.env u) (λ_ s'=>∃ σ' H',Inv X pins σ' H' s'/\Q σ' H') X.xe s
abbrev rM:=V->V->V->Hp->(Hp->Prop)->Prop
noncomputable def sO (X:Cx) (t:rM):Prop:=
 ∀ (pins:List (Addr×Obj)) (s:Shared) (σ:St) (H:Hp) (o i v:V) (ov iv u:Value) (Q:Hp->Prop),Inv X pins σ H s->aP o ov->aP i iv->aP v u->t o i v H Q->
  wpAny (model X.prog X.w) X.A (setItem ov iv u) (λ_ s'=>∃ H',Inv X pins σ H' s'/\Q H') X.xe s
section
variable {X:Cx}{pos:Pos}
noncomputable def oh (i:Nat):TG:=λv σ H Q=>Q (σ.set i (some v)) H
theorem ek {i:Nat}{x:Str} (hN:X.N.Nodup) (hi:X.N[i]?=some x) (hx:Loc X.env.scope x) (hf:X.fn x=true\/X.env.scope.names.lookup x=some .local:=by first | exact .inl rfl | exact .inr rfl | assumption):PG X (.Name x pos) (oh i):=by
 intro pins s σ H v u Q I r h
 exact wpAny_assign_Name (kT I hN hi hx r (λs' I'=>⟨_,H,I',h⟩) hf)
noncomputable def ug (to ti:TE) (t:rM):TG:=λv σ H Q=>to σ H λo H1=>ti σ H1 λi H2=>t o i v H2 λH3=>Q σ H3
theorem qv {o i:Expr}{to ti:TE}{t:rM} (ho:PE X o to) (hi:PE X i ti) (hs:sO X t)
  (ha:∀ v,assign (.Subscript o i pos) X.env v=(do
    let ov <-holding [v] (eval o X.env)
    let iv <-holding [v,ov] (eval i X.env)
    standAt pos
    holding [v,ov,iv] (setItem ov iv v)
    release [v,ov,iv] []):=by intro _;rfl):PG X (.Subscript o i pos) (ug to ti t):=by
 intro pins s σ H v u Q I r h
 rw [ha]
 refine wpAny_bind (wpAny_holding (thn (ho pins s σ H _ I h) λov s1 ⟨x,H1,I1,r1,q1⟩=>?_))
 refine wpAny_bind (wpAny_holding (thn (hi pins s1 σ H1 _ I1 q1) λiv s2 ⟨y,H2,I2,r2,q2⟩=>?_))
 refine wpAny_bind (wpAny_standAt (wpAny_bind (wpAny_holding (thn (hs pins s2 σ H2 x y v ov iv u _ I2 r1 r2 r q2) λ_ s3 ⟨H3,I3,q3⟩=>?_))))
 exact wpAny_release ⟨σ,H3,I3,q3⟩
noncomputable def tQ (te:TE) (g:TG):TS:=λD σ H=>te σ H λx H1=>g x σ H1 D.nx
theorem rY {tg e:Expr}{te:TE}{g:TG} (he:PE X e te) (hg:PG X tg g) (hs:swapsWithSole [tg] e pos.line X.env=pure false:=by rfl) (hw:swappedStores [tg] e X.env=pure none:=by rfl)
  (h1:(assignEach [tg] X.env).map (·.2)=[assign tg X.env]:=by rfl):PS X (.Assign [tg] e pos) (tQ te g):=by
 intro pins s σ H D I h
 refine wpAny_Assign_stores (thn (he pins s σ H _ I h) λv s1 ⟨x,H1,I1,r1,q1⟩=>?_) hs hw
 rw [h1]
 exact thn (hg pins s1 σ H1 x v _ I1 r1 q1) λ_ s2 q=>q
theorem qL {i:Nat}{x:Str}{e:Expr}{te:TE}{pos':Pos} (hN:X.N.Nodup) (hi:X.N[i]?=some x) (hx:Loc X.env.scope x) (he:PE X e te) (hs:swapsWith e (some (.Name x pos')) pos.line X.env=pure false:=by rfl) (hf:X.fn x=true\/X.env.scope.names.lookup x=some .local:=by first | exact .inl rfl | exact .inr rfl | assumption) :
  PS X (.Assign [.Name x pos'] e pos) (tQ te (oh i)):=by
 intro pins s σ H D I h
 refine wpAny_Assign_Name (thn (he pins s σ H _ I h) λv s1 ⟨y,H1,I1,r1,q1⟩=>?_) hs
 exact kT I1 hN hi hx r1 (λs2 I2=>⟨_,H1,I2,q1⟩) hf
end
section
variable {X:Cx}{pos:Pos}
noncomputable def rQ (c:TT) (tb:TS):TS:=λD σ H=>∃ W:Nat->St->Hp->Prop,(∃ m,W m σ H)/\∀ m σ H,W m σ H->
 c σ H λb H1=>if b=true then ∃ N:St->Hp->Prop,(∀ σ' H',N σ' H'->∃ m',m' < m/\W m' σ' H')/\tb { D with nx:=N,ct:=N,bk:=D.nx } σ H1 else D.nx σ H1
theorem ow {c:Expr}{body:List Stmt}{tc:TT}{tb:TS} (hp:PassesOwn (model X.prog X.w) X.A X.env X.xe) (hc:PT X c tc) (hb:PSs X body tb):PS X (.While c body [] pos) (rQ tc tb):=by
 intro pins s σ H D I h
 obtain⟨W,⟨m0,w0⟩,turn⟩:=h
 refine wpAny_While (codeAny_whileLoop (λn s'=>∃ σ' H',Inv X pins σ' H' s'/\W n σ' H') ?_ m0 ⟨σ,H,I,w0⟩)
 rintro n s1 ⟨σ1,H1,I1,w1⟩
 refine wpAny_passesOwn hp (thn (hc pins s1 σ1 H1 _ I1 (turn n σ1 H1 w1)) λb s2 ⟨H2,I2,q2⟩=>?_)
 cases b with
 | true=>
  obtain⟨N,hN,q2⟩:=q2
  rw [if_pos rfl]
  refine wpAny_passesOwn hp (thn (hb pins s2 σ1 H2 _ I2 q2) λf s3 q3=>?_)
  cases f with
  | next=>
   obtain⟨σ3,H3,I3,n3⟩:=q3
   obtain⟨m',hm,w3⟩:=hN σ3 H3 n3
   exact⟨m',hm,σ3,H3,I3,w3⟩
  | cont=>
   obtain⟨σ3,H3,I3,n3⟩:=q3
   obtain⟨m',hm,w3⟩:=hN σ3 H3 n3
   exact⟨m',hm,σ3,H3,I3,w3⟩
  | brk=>exact q3
  | ret v=>exact q3
 | false=>
  rw [if_neg Bool.false_ne_true]
  exact wpAny_execs_nil ⟨σ1,H2,I2,q2⟩
end
structure It where
 go:Nat->Hp->Prop
 yld:Nat->Hp->V->Hp->Prop
 stop:Nat->Hp->Prop
noncomputable def gJ (X:Cx) (pins:List (Addr×Obj)) (H:Hp) (b:Addr):Prop:=
 H b=none/\b≠X.env.locals/\b ∉ X.fs/\(b ∈ X.ex\/X.s₀.heap.objs.size<=b)/\(∀ x c,X.env.cells.lookup x=some c->c≠b)/\∀ p ∈ X.pn++pins,p.1≠b
theorem Inv.fpOk {X:Cx}{pins:List (Addr×Obj)}{σ:St}{H H':Hp}{s:Shared}{b:Addr} (I:Inv X pins σ H s) (hb:s.heap.objs.size<=b) (hn:H' b=none):gJ X pins H' b:=by
 refine⟨hn,Nat.ne_of_gt (Nat.lt_of_lt_of_le I.lt hb),I.nofs hb,.inr (Nat.le_trans I.sz hb),λx c e z=>?_,λp hp z=>?_⟩
 ·obtain⟨v,q⟩:=I.cell x c e
  exact absurd (Nat.lt_of_lt_of_le q.lt (by rw [z];exact hb)) (Nat.lt_irrefl _)
 ·exact absurd (Nat.lt_of_lt_of_le (Heap.lt_size (I.pin p hp).1) (by rw [z];exact hb)) (Nat.lt_irrefl _)
structure o9 (P:Program) (w:World) (K:PySem.W.Frag) (tg:Expr) (J:It) (fp:List Addr) (it:Addr) (tn:Nat->Heap->Prop):Prop where
 mem:it ∈ fp
 obj:∀ i h,tn i h->∀ b ∈ fp,∃ o,h.get? b=some o/\∀ v,o.data≠.cell v
 keep:∀ i h h',tn i h->(∀ b ∈ fp,∀ o,h.get? b=some o->h'.get? b=some o)->tn i h'
 item:∀ (X:Cx),X.prog=P->X.w=w->X.K=K->X.calm=true->∀ (i:Nat) (pins:List (Addr×Obj)) (s:Shared) (σ:St) (H:Hp) (E:Value->Shared->Prop),Inv X pins σ H s->(∀ b ∈ fp,gJ X pins H b)->tn i s.heap->J.go i H->
  wpAny (model P w) X.A (pyNext (.ref it)) (λr s1=>∃ u,r=some u/\
   wpAny (model P w) X.A (letOwnedTupleGo tg (.ref it) u) (λ_ s2=>∃ x H',Inv X pins σ H' s2/\aP x u/\J.yld i H x H'/\tn (i+1) s2.heap/\∀ b ∈ fp,H' b=none) E s1) E s
 done:∀ (X:Cx),X.prog=P->X.w=w->X.K=K->X.calm=true->∀ (i:Nat) (pins:List (Addr×Obj)) (s:Shared) (σ:St) (H:Hp) (E:Value->Shared->Prop),Inv X pins σ H s->(∀ b ∈ fp,gJ X pins H b)->tn i s.heap->J.stop i H->
  wpAny (model P w) X.A (pyNext (.ref it)) (λr s1=>r=none/\Inv X pins σ H s1) E s
 self:∀ (A:Around) (i:Nat) (s:Shared) (Q:Value->Shared->Prop) (E:Value->Shared->Prop),tn i s.heap->Q (.ref it) s->wpAny (model P w) A (pyIter (.ref it)) Q E s
abbrev TI:=St->Hp->(It->Hp->Prop)->Prop
noncomputable def PIE (X:Cx) (pins:List (Addr×Obj)) (σ:St) (tg:Expr) (R:It->Hp->Prop) (itv:Value) (s2:Shared):Prop:=
 ∃ (it:Addr) (fp:List Addr) (tn:Nat->Heap->Prop) (J:It) (H':Hp),itv=.ref it/\Inv X pins σ H' s2/\o9 X.prog X.w X.K tg J fp it tn/\tn 0 s2.heap/\(∀ b ∈ fp,gJ X pins H' b)/\R J H'
noncomputable def PI (X:Cx) (tg iter:Expr) (wi:TI):Prop:=
 ∀ (pins:List (Addr×Obj)) (s:Shared) (σ:St) (H:Hp) (R:It->Hp->Prop),Inv X pins σ H s->wi σ H R->
  wpAny (model X.prog X.w) X.A (eval iter X.env) (λv s1=>wpAny (model X.prog X.w) X.A (pyIter v) (PIE X pins σ tg R) X.xe s1) X.xe s
theorem ou {M:Model}{A:Around}{E:Value->Shared->Prop}{s:Shared}{tg:Expr}{it:Addr}{u:Value}{o:Obj}{n:String}{vs:Array Value}{Q:Unit->Shared->Prop} (ho:s.heap.get? it=some o) (hc:o.cls=.type n) (hd:o.data=.fields vs)
  (hn:["enumerate","zip","dict_itemiterator","dict_reverseitemiterator","odict_iterator","itertools.zip_longest","itertools.pairwise"].contains n=false) (hQ:Q () s):wpAny M A (letOwnedTupleGo tg (.ref it) u) Q E s:=by
 unfold letOwnedTupleGo
 cases tg<;>first
  | exact wpAny_pure hQ
  | (cases u<;>first
      | exact wpAny_pure hQ
      | (refine wpAny_bind (wpAny_load ho ?_)
         rw [hc,hd]
         show wpAny M A (if (["enumerate","zip","dict_itemiterator","dict_reverseitemiterator","odict_iterator","itertools.zip_longest","itertools.pairwise"].contains n && vs[0]?==some (rawInt _))=true then _ else _) Q E s
         rw [if_neg (by intro h;rw [hn,Bool.false_and] at h;cases h)]
         exact wpAny_pure hQ))
noncomputable def Itl (K:PySem.W.Frag) (a:Addr):It:=
 ⟨λi H=>∃ xs x,SqL K H a xs/\xs[i]?=some x,λi H x H'=>H'=H/\∀ xs,SqL K H a xs->xs[i]?=some x,λi H=>∃ xs,SqL K H a xs/\xs.length<=i⟩
noncomputable def Itt (K:PySem.W.Frag) (a:Addr):It:=
 ⟨λi H=>∃ xs x,SqT K H a xs/\xs[i]?=some x,λi H x H'=>H'=H/\∀ xs,SqT K H a xs->xs[i]?=some x,λi H=>∃ xs,SqT K H a xs/\xs.length<=i⟩
noncomputable def Itr (lo:Int) (n:Nat):It:=⟨λi _=>i < n,λi H x H'=>H'=H/\x=.int (lo+i),λi _=>n<=i⟩
theorem mK {P:Program}{w:World}{K:PySem.W.Frag}{tg:Expr} (a it:Addr):o9 P w K tg (Itl K a) [it] it (λi h=>h.IsListIter it a i) where
 mem:=by simp
 obj:=λi h st b hb=>by
  have e:b=it:=by simpa using hb
  subst e
  obtain⟨o,e,c,d⟩:=st
  exact⟨o,e,λv z=>by rw [d] at z;cases z⟩
 keep:=λi h h' st k=>st.at λo e=>k it (by simp) o e
 item:=by
  intro X hP hw hK hc i pins s σ H E I hf st hg
  subst hP hw hK
  obtain⟨xs,x,hq,hx⟩:=hg
  obtain⟨its,rv,p,hz⟩:=I.list hq
  obtain⟨u,hu,ru⟩:=rv.get hx
  obtain⟨f0,f1,f2,f3,f4,f5⟩:=hf it (by simp)
  refine wpAny_pyNext_list_item st p.isList (x:=u) (by simpa using hu) λh' st' sb=>?_
  have I1:Inv X pins σ H { s with heap:=h' }:=I.turned (t':=s.toks) (λb o hb e=>(sb.2 b hb).trans e) f0 f1 f3 f4 f5
  obtain⟨o,e,c,d⟩:=id st'
  exact⟨u,rfl,ou (s:={ s with heap:=h' }) e c d (by decide) ⟨x,H,I1,ru,⟨rfl,λys hy=>by rw [I.list_inj hy hq];exact hx⟩,st',λb hb=>(hf b hb).1⟩⟩
 done:=by
  intro X hP hw hK hc i pins s σ H E I hf st hg
  subst hP hw hK
  obtain⟨xs,hq,hx⟩:=hg
  obtain⟨its,rv,p,hz⟩:=I.list hq
  obtain⟨f0,f1,f2,f3,f4,f5⟩:=hf it (by simp)
  have hl:=rv.length
  exact wpAny_pyNext_list_end (I.ok.hd hc) st p.isList (by simp;lia) λh' eb=>⟨rfl,I.turned (t':=s.toks) (λb o hb e=>eb b o hb e) f0 f1 f3 f4 f5⟩
 self:=λ_ _ _ _ _ st h=>wpAny_pyIter_listiter st h
theorem lj {P:Program}{w:World}{K:PySem.W.Frag}{tg:Expr} (a it:Addr):o9 P w K tg (Itt K a) [it] it (λi h=>h.IsTupleIter it a i) where
 mem:=by simp
 obj:=λi h st b hb=>by
  have e:b=it:=by simpa using hb
  subst e
  obtain⟨o,e,c,d⟩:=st
  exact⟨o,e,λv z=>by rw [d] at z;cases z⟩
 keep:=λi h h' st k=>st.at λo e=>k it (by simp) o e
 item:=by
  intro X hP hw hK hc i pins s σ H E I hf st hg
  subst hP hw hK
  obtain⟨xs,x,hq,hx⟩:=hg
  obtain⟨its,rv,p,hz⟩:=I.tuple hq
  obtain⟨u,hu,ru⟩:=rv.get hx
  obtain⟨f0,f1,f2,f3,f4,f5⟩:=hf it (by simp)
  refine wpAny_pyNext_tuple_item st (show s.heap.IsTuple a its.toArray from p) (x:=u) (by simpa using hu) λh' st' sb=>?_
  have I1:Inv X pins σ H { s with heap:=h' }:=I.turned (t':=s.toks) (λb o hb e=>(sb.2 b hb).trans e) f0 f1 f3 f4 f5
  obtain⟨o,e,c,d⟩:=id st'
  exact⟨u,rfl,ou (s:={ s with heap:=h' }) e c d (by decide) ⟨x,H,I1,ru,⟨rfl,λys hy=>by rw [I.tuple_inj hy hq];exact hx⟩,st',λb hb=>(hf b hb).1⟩⟩
 done:=by
  intro X hP hw hK hc i pins s σ H E I hf st hg
  subst hP hw hK
  obtain⟨xs,hq,hx⟩:=hg
  obtain⟨its,rv,p,hz⟩:=I.tuple hq
  obtain⟨f0,f1,f2,f3,f4,f5⟩:=hf it (by simp)
  have hl:=rv.length
  exact wpAny_pyNext_tuple_end (I.ok.hd hc) st (show s.heap.IsTuple a its.toArray from p) (by simp;lia) λh' eb=>⟨rfl,I.turned (t':=s.toks) (λb o hb e=>eb b o hb e) f0 f1 f3 f4 f5⟩
 self:=λ_ _ _ _ _ st h=>wpAny_pyIter_tupleiter st h
theorem lu {P:Program}{w:World}{K:PySem.W.Frag}{tg:Expr} (it:Addr) (lo:Int) (n:Nat):o9 P w K tg (Itr lo n) [it] it (λi h=>IsRangeIter h it (lo+(i:Nat)*1) ((n:Int) - (i:Nat)) 1) where
 mem:=by simp
 obj:=λi h st b hb=>by
  have e:b=it:=by simpa using hb
  subst e
  exact⟨_,st,λv z=>by
   have z':Data.fields _=Data.cell v:=z
   cases z'⟩
 keep:=λi h h' st k=>k it (by simp) _ st
 item:=by
  intro X hP hw hK hc i pins s σ H E I hf st hg
  subst hP hw hK
  obtain⟨f0,f1,f2,f3,f4,f5⟩:=hf it (by simp)
  have W:=Walks.range (prog:=X.prog) (w:=X.w) (I.ok.hd hc) it lo 1 n
  refine W.item i s _ _ hg st λv h' tk hv st' kk=>?_
  obtain⟨t,rfl⟩:=hv
  have I1:Inv X pins σ H { s with heap:=h',toks:=tk }:=I.turned (λb o hb e=>kk b o (by simpa using hb) e) f0 f1 f3 f4 f5
  refine⟨_,rfl,ou (s:={ s with heap:=h',toks:=tk }) (n:="range_iterator") st' rfl rfl (by decide) ⟨.int (lo+i),H,I1,⟨t,?_⟩,⟨rfl,rfl⟩,st',λb hb=>(hf b hb).1⟩⟩
  rw [Int.mul_one]
 done:=by
  intro X hP hw hK hc i pins s σ H E I hf st hg
  subst hP hw hK
  obtain⟨f0,f1,f2,f3,f4,f5⟩:=hf it (by simp)
  exact wpAny_pyNext_range_end (I.ok.hd hc) st (by have:n<=i:=hg;lia) λh' eb=>⟨rfl,I.turned (t':=s.toks) (λb o hb e=>eb b o hb e) f0 f1 f3 f4 f5⟩
 self:=λ_ _ _ _ _ st h=>wpAny_pyIter_rangeiter st h
end L2
namespace L2
open PySem PySem.Spec PyProof.Rows
section
variable {X:Cx}{tg:Expr}
noncomputable def sD (K:PySem.W.Frag) (tl:TE):TI:=λσ H R=>tl σ H λx H1=>∃ a,x=.ref a/\(∃ xs,SqL K H1 a xs)/\R (Itl K a) H1
noncomputable def uk (K:PySem.W.Frag) (tl:TE):TI:=λσ H R=>tl σ H λx H1=>∃ a,x=.ref a/\(∃ xs,SqT K H1 a xs)/\R (Itt K a) H1
theorem pS {l:Expr}{tl:TE} (hl:PE X l tl):PI X tg l (sD X.K tl):=by
 intro pins s σ H R I h
 refine thn (hl pins s σ H _ I h) λv s1 ⟨x,H1,I1,r1,q1⟩=>?_
 obtain⟨a,e,⟨xs,hq⟩,q⟩:=q1
 subst e
 cases r1
 obtain⟨its,rv,p,hz⟩:=I1.list hq
 refine wpAny_pyIter_list p.isList ?_
 refine⟨s1.heap.objs.size,[s1.heap.objs.size],_,_,H1,rfl,I1.kept (t':=s1.toks) λb o e=>Heap.get?_push_of_some _ e,mK a _,⟨_,Heap.get?_push_size _ rfl,rfl,rfl⟩,λb hb=>?_,q⟩
 have e:b=s1.heap.objs.size:=by simpa using hb
 subst e
 exact I1.fpOk (Nat.le_refl _) (I1.hok.fresh (Nat.le_refl _))
theorem se {l:Expr}{tl:TE} (hl:PE X l tl):PI X tg l (uk X.K tl):=by
 intro pins s σ H R I h
 refine thn (hl pins s σ H _ I h) λv s1 ⟨x,H1,I1,r1,q1⟩=>?_
 obtain⟨a,e,⟨xs,hq⟩,q⟩:=q1
 subst e
 cases r1
 obtain⟨its,rv,p,hz⟩:=I1.tuple hq
 refine wpAny_pyIter_tuple (show s1.heap.IsTuple a its.toArray from p) ?_
 refine⟨s1.heap.objs.size,[s1.heap.objs.size],_,_,H1,rfl,I1.kept (t':=s1.toks) λb o e=>Heap.get?_push_of_some _ e,lj a _,⟨_,Heap.get?_push_size _ rfl,rfl,rfl⟩,λb hb=>?_,q⟩
 have e:b=s1.heap.objs.size:=by simpa using hb
 subst e
 exact I1.fpOk (Nat.le_refl _) (I1.hok.fresh (Nat.le_refl _))
theorem nu {pins:List (Addr×Obj)}{σ:St}{H:Hp}{s:Shared}{R:It->Hp->Prop}{E:Value->Shared->Prop}{lo hi:Int}{t u v:Tok}{tk:Nat} (I:Inv X pins σ H s) (h1:-(2 ^ 62)<=lo) (h2:lo < 2 ^ 62) (h3:-(2 ^ 62)<=hi) (h4:hi < 2 ^ 62)
  (q:R (Itr lo (hi - lo).toNat) H):wpAny (model X.prog X.w) X.A (pyIter (.ref s.heap.objs.size)) (PIE X pins σ tg R) E { s with heap:=s.heap.push { cls:=.type "range",data:=.fields #[.int lo t,.int hi u,.int 1 v] },toks:=tk }:=by
 refine wpAny_pyIter_range (IsRange.new ..) (small_one h1 h2 h3 h4) ?_
 have I1:Inv X pins σ H { s with heap:=s.heap.push { cls:=.type "range",data:=.fields #[.int lo t,.int hi u,.int 1 v] },toks:=tk }:=I.kept λb o e=>Heap.get?_push_of_some _ e
 refine⟨(s.heap.push { cls:=.type "range",data:=.fields #[.int lo t,.int hi u,.int 1 v] }).objs.size,[(s.heap.push { cls:=.type "range",data:=.fields #[.int lo t,.int hi u,.int 1 v] }).objs.size],_,_,H,rfl,
  I1.kept (t':=tk) λb o e=>Heap.get?_push_of_some _ e,lu _ lo (hi - lo).toNat,?_,λb hb=>?_,q⟩
 ·have e1:lo+((0:Nat):Int)*1=lo:=by simp
  have e2:(((hi - lo).toNat:Nat):Int) - ((0:Nat):Int)=Builtin.Range.rangeSize lo hi 1:=by rw [rangeSize_one];split<;>lia
  show IsRangeIter _ _ (lo+((0:Nat):Int)*1) ((((hi - lo).toNat:Nat):Int) - ((0:Nat):Int)) 1
  rw [e1,e2]
  exact Heap.get?_push_size _ rfl
 ·have e:b=(s.heap.push { cls:=.type "range",data:=.fields #[.int lo t,.int hi u,.int 1 v] }).objs.size:=by simpa using hb
  subst e
  exact I1.fpOk (Nat.le_refl _) (I1.hok.fresh (Nat.le_refl _))
noncomputable def tj (ta:TA):TI:=λσ H R=>ta σ H λvs H1=>∃ j:Int,vs=[.int j]/\-(2 ^ 62)<=j/\j < 2 ^ 62/\R (Itr 0 j.toNat) H1
theorem mQ {a:Expr}{ta:TA}{p pos:Pos} (hg:Gl X "range") (hm:X.mg "range" = none) (ha:PA X [a] ta) (hs:starEach [a] X.env=[(false,eval a X.env)]:=by rfl):PI X tg (.Call (.Name "range" p) [a] [] pos) (tj ta):=by
 intro pins s σ H R I h
 refine Call_ (ke I hg hm boot_range (PyProof.Rows.callWith_type1 (thn (ha pos pins s σ H _ I h) λus s1 ⟨vs,H1,I1,r1,q1⟩=>?_) hs rfl))
 obtain⟨j,e,q1,q2,q⟩:=q1
 subst e
 cases r1 with
 | cons r rr=>
  cases rr
  obtain⟨t,rfl⟩:=r
  exact call_range_1 (nu I1 (by lia) (by lia) q1 q2 (by simpa using q))
noncomputable def ul (wi:TI) (g:TG) (tb:TS):TS:=λD σ H=>wi σ H λJ H1=>∃ W:Nat->Nat->St->Hp->Prop,(∃ m,W 0 m σ H1)/\∀ i m σ H,W i m σ H->
 (J.stop i H/\D.nx σ H)\/(J.go i H/\∃ N:St->Hp->Prop,(∀ σ' H',N σ' H'->∃ m',m' < m/\W (i+1) m' σ' H')/\∀ x H',J.yld i H x H'->g x σ H' λσ2 H2=>tb { D with nx:=N,ct:=N,bk:=D.nx } σ2 H2)
noncomputable def h7 (fp:List Addr) (h:Heap):List (Addr×Obj):=fp.filterMap λb=>(h.get? b).map λo=>(b,o)
theorem dZ {fp:List Addr}{h:Heap}{b:Addr}{o:Obj} (hb:b ∈ fp) (e:h.get? b=some o):(b,o) ∈ h7 fp h:=List.mem_filterMap.mpr ⟨b,hb,by rw [e];rfl⟩
theorem mN {fp:List Addr}{h:Heap}{p:Addr×Obj} (hp:p ∈ h7 fp h):p.1 ∈ fp/\h.get? p.1=some p.2:=by
 obtain⟨b,hb,e⟩:=List.mem_filterMap.mp hp
 cases q:h.get? b with
 | none=>rw [q] at e;cases e
 | some o=>
  rw [q] at e
  have e':(b,o)=p:=Option.some.inj e
  subst e'
  exact⟨hb,q⟩
theorem Inv.pinned {pins:List (Addr×Obj)}{σ:St}{H:Hp}{s:Shared}{fp:List Addr} (I:Inv X pins σ H s) (hf:∀ b ∈ fp,gJ X pins H b) (ho:∀ b ∈ fp,∃ o,s.heap.get? b=some o/\∀ v,o.data≠.cell v):Inv X (pins++h7 fp s.heap) σ H s:=
 I.pins_of λp hp=>(List.mem_append.mp hp).elim (λz=>I.pin p (List.mem_append_right _ z)) λz=>by
  obtain⟨hb,e⟩:=mN z
  obtain⟨f0,f1,f2,_⟩:=hf p.1 hb
  obtain⟨o,e',d⟩:=ho p.1 hb
  rw [e] at e';cases e'
  exact⟨e,f0,f1,f2,d⟩
theorem Inv.unpinned {pins pl:List (Addr×Obj)}{σ:St}{H:Hp}{s:Shared} (I:Inv X (pins++pl) σ H s):Inv X pins σ H s:=I.pins_of λp hp=>I.pin p (List.mem_append_right _ (List.mem_append_left _ hp))
theorem qC {iter:Expr}{body:List Stmt}{wi:TI}{g:TG}{tb:TS}{pos:Pos} (hp:PassesOwn (model X.prog X.w) X.A X.env X.xe) (hc:X.calm=true) (hi:PI X tg iter wi) (hg:PG X tg g) (hb:PSs X body tb)
  (hs:∀ x,foldedSetIterable iter X.env x=pure x:=by intro _;rfl):PS X (.For tg iter body [] pos) (ul wi g tb):=by
 intro pins s σ H D I h
 refine wpAny_For (thn (hi pins s σ H _ I h) λv s1 h1=>thn h1 λitv s2 h2=>?_) hs
 obtain⟨it,fp,tn,J,H2,e,I2,T,st2,f2,W,⟨m0,w0⟩,turn⟩:=h2
 subst e
 -- what stays true of the iterator's objects through the loop
 have stat:∀ {H':Hp},(∀ b ∈ fp,H' b=none)->∀ b ∈ fp,gJ X pins H' b:=λhn b hb=>⟨hn b hb,(f2 b hb).2⟩
 refine codeAny_forLoop_any (λn s'=>∃ i σ' H',Inv X pins σ' H' s'/\tn i s'.heap/\(∀ b ∈ fp,H' b=none)/\W i n σ' H') ?_ m0 ⟨0,σ,H2,I2,st2,λb hb=>(f2 b hb).1,w0⟩
 rintro n s3 ⟨i,σ3,H3,I3,st3,fr3,w3⟩
 rcases turn i n σ3 H3 w3 with⟨stop,qn⟩ | ⟨go,N,hN,step⟩
 ·refine wpAny_passesOwn hp (thn (T.done X rfl rfl rfl hc i pins s3 σ3 H3 X.xe I3 (stat fr3) st3 stop) λr s4 ⟨hr,I4⟩=>?_)
  subst hr
  exact wpAny_execs_nil ⟨σ3,H3,I4,qn⟩
 ·refine wpAny_passesOwn hp (thn (T.item X rfl rfl rfl hc i pins s3 σ3 H3 X.xe I3 (stat fr3) st3 go) λr s4 ⟨u,hr,h4⟩=>?_)
  subst hr
  refine wpAny_passesOwn hp (thn h4 λ_ s5 ⟨x,H5,I5,r5,y5,st5,fr5⟩=>?_)
  have I5':=I5.pinned (stat fr5) (T.obj _ _ st5)
  refine wpAny_passesOwn hp (thn (hg _ s5 σ3 H5 x u _ I5' r5 (step x H5 y5)) λ_ s6 ⟨σ6,H6,I6,q6⟩=>?_)
  refine wpAny_passesOwn hp (thn (hb _ s6 σ6 H6 _ I6 q6) λf s7 q7=>?_)
  have again:∀ {σ7:St}{H7:Hp},Inv X (pins++h7 fp s5.heap) σ7 H7 s7->N σ7 H7->∃ m,m < n/\∃ i σ' H',Inv X pins σ' H' s7/\tn i s7.heap/\(∀ b ∈ fp,H' b=none)/\W i m σ' H':=λ{σ7 H7} I7 n7=>by
   obtain⟨m',hm,w7⟩:=hN σ7 H7 n7
   refine⟨m',hm,i+1,σ7,H7,I7.unpinned,T.keep _ _ _ st5 λb hb o e=>(I7.pin (b,o) (List.mem_append_right _ (List.mem_append_right _ (dZ hb e)))).1,λb hb=>?_,w7⟩
   obtain⟨o,e,d⟩:=T.obj _ _ st5 b hb
   exact (I7.pin (b,o) (List.mem_append_right _ (List.mem_append_right _ (dZ hb e)))).2.1
  cases f with
  | next=>obtain⟨σ7,H7,I7,n7⟩:=q7;exact again I7 n7
  | cont=>obtain⟨σ7,H7,I7,n7⟩:=q7;exact again I7 n7
  | brk=>obtain⟨σ7,H7,I7,q7⟩:=q7;exact⟨σ7,H7,I7.unpinned,q7⟩
  | ret v=>obtain⟨x7,σ7,H7,I7,r7,q7⟩:=q7;exact⟨x7,σ7,H7,I7.unpinned,r7,q7⟩
end
end L2
namespace L2
open PySem PySem.Spec PyProof.Rows
abbrev R2:=V->V->Hp->VK->Prop
noncomputable def OpR (X:Cx) (f:Value->Value->Sem Value) (r:R2):Prop:=
 ∀ (pins:List (Addr×Obj)) (s:Shared) (σ:St) (H:Hp) (x y:V) (v u:Value) (Q:VK),Inv X pins σ H s->aP x v->aP y u->r x y H Q->
  wpAny (model X.prog X.w) X.A (f v u) (EP X pins σ Q) X.xe s
noncomputable def UnR (X:Cx) (f:Value->Sem Value) (r:V->Hp->VK->Prop):Prop:=
 ∀ (pins:List (Addr×Obj)) (s:Shared) (σ:St) (H:Hp) (x:V) (v:Value) (Q:VK),Inv X pins σ H s->aP x v->r x H Q->
  wpAny (model X.prog X.w) X.A (f v) (EP X pins σ Q) X.xe s
noncomputable def cx (X:Cx) (f:Value) (r:List V->Hp->VK->Prop):Prop:=
 ∀ (pins:List (Addr×Obj)) (s:Shared) (σ:St) (H:Hp) (xs:List V) (us:List Value) (Q:VK),Inv X pins σ H s->aC xs us->r xs H Q->
  wpAny (model X.prog X.w) X.A (call f us) (EP X pins σ Q) X.xe s
noncomputable def tX (X:Cx) (r:V->Hp->(Bool->Hp->Prop)->Prop):Prop:=
 ∀ (pins:List (Addr×Obj)) (s:Shared) (σ:St) (H:Hp) (x:V) (v:Value) (Q:Bool->Hp->Prop),Inv X pins σ H s->aP x v->r x H Q->
  wpAny (model X.prog X.w) X.A (truthy v) (TP X pins σ Q) X.xe s
noncomputable def tOp (r:R2) (ta tb:TE):TE:=λσ H Q=>ta σ H λx H1=>tb σ H1 λy H2=>r x y H2 Q
noncomputable def tUn (r:V->Hp->VK->Prop) (ta:TE):TE:=λσ H Q=>ta σ H λx H1=>r x H1 Q
noncomputable def rI (C:Int->Int->Prop) (g:Int->Int->V):R2:=λx y H Q=>∃ i j,x=.int i/\y=.int j/\C i j/\Q (g i j) H
noncomputable def rI0 (g:Int->Int->V):R2:=λx y H Q=>∃ i j,x=.int i/\y=.int j/\Q (g i j) H
noncomputable def rU (g:Int->V):V->Hp->VK->Prop:=λx H Q=>∃ i,x=.int i/\Q (g i) H
section
variable {X:Cx}{a b c:Expr}{ta tb tc:TE}{pos:Pos}
theorem ql (ha:PE X a ta) (hb:PE X b tb) {pins:List (Addr×Obj)}{s:Shared}{σ:St}{H:Hp}{R:V->V->Hp->Prop} (I:Inv X pins σ H s)
  (h:ta σ H λx H1=>tb σ H1 λy H2=>R x y H2) {Q:Value->Shared->Prop}{f:Value->Value->Sem Value}
  (hf:∀ v u s2 x y H2,Inv X pins σ H2 s2->aP x v->aP y u->R x y H2->wpAny (model X.prog X.w) X.A (f v u) Q X.xe s2) :
  wpAny (model X.prog X.w) X.A (eval a X.env) (λv s₁=>wpAny (model X.prog X.w) X.A (eval b X.env) (λu s₂=>wpAny (model X.prog X.w) X.A (f v u) Q X.xe s₂) X.xe s₁) X.xe s:=by
 refine thn (ha pins s σ H _ I h) λv s1 ⟨x,H1,I1,r1,q1⟩=>?_
 refine thn (hb pins s1 σ H1 _ I1 q1) λu s2 ⟨y,H2,I2,r2,q2⟩=>?_
 exact hf v u s2 x y H2 I2 r1 r2 q2
theorem sX {op:Operator}{r:R2} (ho:OpR X (binaryOp op) r) (ha:PE X a ta) (hb:PE X b tb):PE X (.BinOp a op b pos) (tOp r ta tb):=by
 intro pins s σ H Q I h
 exact wpAny_BinOp (ql ha hb I h λv u s2 x y H2 I2 rx ry q=>ho pins s2 σ H2 x y v u Q I2 rx ry q)
theorem s0 {op:UnaryOp}{r:V->Hp->VK->Prop} (ho:UnR X (unaryOp op) r) (ha:PE X a ta):PE X (.UnaryOp op a pos) (tUn r ta):=by
 intro pins s σ H Q I h
 exact UnaryOp_ (thn (ha pins s σ H _ I h) λv s1 ⟨x,H1,I1,r1,q1⟩=>ho pins s1 σ H1 x v Q I1 r1 q1)
theorem opI {f:Value->Value->Sem Value}{C:Int->Int->Prop}{g:Int->Int->Int}
  (rule:∀ (i j:Int) (t u:Tok) (s:Shared) (Q:Value->Shared->Prop) (E:Value->Shared->Prop),C i j->Q (.int (g i j) s.toks) { s with toks:=s.toks+1 }->wpAny (model X.prog X.w) X.A (f (.int i t) (.int j u)) Q E s) :
  OpR X f (rI C λi j=>.int (g i j)):=by
 intro pins s σ H x y v u Q I rx ry h
 obtain⟨i,j,rfl,rfl,hc,q⟩:=h
 obtain⟨t,rfl⟩:=rx
 obtain⟨t',rfl⟩:=ry
 exact rule i j t t' s _ _ hc ⟨.int (g i j),H,I.tok _,⟨_,rfl⟩,q⟩
theorem sZ {f:Value->Value->Sem Value}{g:Int->Int->Int}
  (rule:∀ (i j:Int) (t u:Tok) (s:Shared) (Q:Value->Shared->Prop) (E:Value->Shared->Prop),Q (.int (g i j) s.toks) { s with toks:=s.toks+1 }->wpAny (model X.prog X.w) X.A (f (.int i t) (.int j u)) Q E s) :
  OpR X f (rI0 λi j=>.int (g i j)):=by
 intro pins s σ H x y v u Q I rx ry h
 obtain⟨i,j,rfl,rfl,q⟩:=h
 obtain⟨t,rfl⟩:=rx
 obtain⟨t',rfl⟩:=ry
 exact rule i j t t' s _ _ ⟨.int (g i j),H,I.tok _,⟨_,rfl⟩,q⟩
theorem oR {f:Value->Value->Sem Value}{g:Int->Int->Bool}
  (rule:∀ (i j:Int) (t u:Tok) (s:Shared) (Q:Value->Shared->Prop) (E:Value->Shared->Prop),Q (.bool (g i j)) s->wpAny (model X.prog X.w) X.A (f (.int i t) (.int j u)) Q E s) :
  OpR X f (rI0 λi j=>.bl (g i j)):=by
 intro pins s σ H x y v u Q I rx ry h
 obtain⟨i,j,rfl,rfl,q⟩:=h
 obtain⟨t,rfl⟩:=rx
 obtain⟨t',rfl⟩:=ry
 exact rule i j t t' s _ _ ⟨.bl (g i j),H,I,rfl,q⟩
noncomputable def um (i j:Int):Prop:=0 < j/\j < 1073741824
noncomputable def kZ (i j:Int):Prop:=0<=j/\j<=1000000/\i.natAbs < 2 ^ 64
noncomputable def pE (i j:Int):Prop:=(-(2 ^ 64) < i/\i < 2 ^ 64)\/(-(2 ^ 64) < j/\j < 2 ^ 64)
theorem pE.ok {i j:Int} (h:pE i j):IntMulOk i j:=by
 rcases h with⟨h1,h2⟩ | ⟨h1,h2⟩
 ·exact .of_left (intBits_le_64 h1 h2)
 ·exact .of_right (intBits_le_64 h1 h2)
theorem rW:OpR X (binaryOp .Add) (rI0 λi j=>.int (i+j)):=sZ λ_ _ _ _ _ _ _ q=>add_int q
theorem qI:OpR X (binaryOp .Sub) (rI0 λi j=>.int (i - j)):=sZ λ_ _ _ _ _ _ _ q=>sub_int q
theorem oQ:OpR X (binaryOp .FloorDiv) (rI um λi j=>.int (i / j)):=opI λi j _ _ _ _ _ hc q=>by
 have h1:(0:Int) < j:=hc.1
 have h2:j < 1073741824:=hc.2
 exact floordiv_int (by lia) (by rw [Int.fdiv_eq_ediv_of_nonneg i (by lia)];exact q) (.inl (PyProof.noPylong_small (by lia)))
theorem qo:OpR X (binaryOp .Mod) (rI (λ_ j=>0 < j) λi j=>.int (i % j)):=opI λi j _ _ _ _ _ hc q=>by
 have h1:(0:Int) < j:=hc
 exact mod_int' (by lia) (by rw [Int.fmod_eq_emod_of_nonneg i (by lia)];exact q)
theorem qN:OpR X (binaryOp .Pow) (rI kZ λi j=>.int (i ^ j.toNat)):=opI λ_ _ _ _ _ _ _ hc q=>pow_int_small hc.1 hc.2.1 hc.2.2 q
theorem unI {f:Value->Sem Value}{g:Int->Int}
  (rule:∀ (i:Int) (t:Tok) (s:Shared) (Q:Value->Shared->Prop) (E:Value->Shared->Prop),Q (.int (g i) s.toks) { s with toks:=s.toks+1 }->wpAny (model X.prog X.w) X.A (f (.int i t)) Q E s) :
  UnR X f (rU λi=>.int (g i)):=by
 intro pins s σ H x v Q I rx h
 obtain⟨i,rfl,q⟩:=h
 obtain⟨t,rfl⟩:=rx
 exact rule i t s _ _ ⟨.int (g i),H,I.tok _,⟨_,rfl⟩,q⟩
theorem qA:UnR X (unaryOp .USub) (rU λi=>.int (-i)):=unI λ_ _ _ _ _ q=>neg_int q
end
section
variable {X:Cx}{a b c:Expr}{ta tb tc:TE}{pos:Pos}
theorem nU {pins:List (Addr×Obj)}{σ:St}{H:Hp}{s:Shared}{Q:VK}{k k':Bool} (I:Inv X pins σ H s) (q:Q (.bl k) H) (e:k=k'):EP X pins σ Q (.bool k') s:=by
 subst e
 exact⟨.bl k,H,I,rfl,q⟩
theorem sB:OpR X (compareOp .Lt) (rI0 λi j=>.bl (decide (i < j))):=oR λ_ _ _ _ _ _ _ q=>lt_int q
theorem sQ:OpR X (compareOp .LtE) (rI0 λi j=>.bl (decide (i<=j))):=oR λ_ _ _ _ _ _ _ q=>le_int q
theorem sk:OpR X (compareOp .Gt) (rI0 λi j=>.bl (decide (j < i))):=oR λ_ _ _ _ _ _ _ q=>gt_int q
theorem sU:OpR X (compareOp .GtE) (rI0 λi j=>.bl (decide (j<=i))):=oR λ_ _ _ _ _ _ _ q=>ge_int q
theorem qM:OpR X (compareOp .Is) (λx y H Q=>y=.non/\Q (.bl (decide (x=.non))) H):=by
 intro pins s σ H x y v u Q I rx ry h
 obtain⟨rfl,q⟩:=h
 cases ry
 refine is_none_gen (nU I q ?_)
 cases x<;>first
  | (cases rx;rfl)
  | (obtain⟨t,rfl⟩:=rx;rfl)
theorem pP:OpR X (compareOp .IsNot) (λx y H Q=>y=.non/\Q (.bl (!decide (x=.non))) H):=by
 intro pins s σ H x y v u Q I rx ry h
 obtain⟨rfl,q⟩:=h
 cases ry
 refine isnot_none_gen (nU I q ?_)
 cases x<;>first
  | (cases rx;rfl)
  | (obtain⟨t,rfl⟩:=rx;rfl)
theorem OpR.or {f:Value->Value->Sem Value}{r r':R2} (h:OpR X f r) (h':OpR X f r'):OpR X f (λx y H Q=>r x y H Q\/r' x y H Q):=by
 intro pins s σ H x y v u Q I rx ry q
 rcases q with q | q
 ·exact h pins s σ H x y v u Q I rx ry q
 ·exact h' pins s σ H x y v u Q I rx ry q
theorem aJ (b:Expr) {op:CmpOp} (h:op≠.In:=by decide) (h2:op≠.NotIn:=by decide):behindInMarks op b=false:=by
 have e1:(op==CmpOp.In)=false:=by cases op<;>first | rfl | exact absurd rfl h
 have e2:(op==CmpOp.NotIn)=false:=by cases op<;>first | rfl | exact absurd rfl h2
 cases b<;>simp [behindInMarks,e1,e2]
theorem pH {op:CmpOp}{r:R2} (ho:OpR X (compareOp op) r) (ha:PE X a ta) (hb:PE X b tb) (hm:behindInMarks op b=false):PE X (.Compare a [op] [b] pos) (tOp r ta tb):=by
 intro pins s σ H Q I h
 exact wpAny_Compare1 (ql ha hb I h λv u s2 x y H2 I2 rx ry q=>ho pins s2 σ H2 x y v u Q I2 rx ry q) hm
noncomputable def tq (t:TE):TT:=λσ H Q=>t σ H λx H'=>∃ k,x=.bl k/\Q k H'
theorem mm {op:CmpOp}{r:R2} (ho:OpR X (compareOp op) r) (ha:PE X a ta) (hb:PE X b tb) (hm:behindInMarks op b=false):PT X (.Compare a [op] [b] pos) (tq (tOp r ta tb)):=by
 intro pins s σ H Q I h
 refine wpAny_isTrue_Compare1 (thn (ha pins s σ H _ I h) λv s1 ⟨x,H1,I1,r1,q1⟩=>thn (hb pins s1 σ H1 _ I1 q1) λu s2 ⟨y,H2,I2,r2,q2⟩=>
  thn (ho pins s2 σ H2 x y v u _ I2 r1 r2 q2) λc s3 ⟨z,H3,I3,r3,k,e,q3⟩=>?_) hm
 subst e
 cases r3
 exact wpAny_truthy_bool ⟨H3,I3,q3⟩
noncomputable def sf (r r':R2) (ta tb tc:TE):TE:=λσ H Q=>ta σ H λx H1=>tb σ H1 λy H2=>r x y H2 λz H3=>∃ k,z=.bl k/\
 (if k=true then tc σ H3 λw' H4=>r' y w' H4 Q else Q (.bl false) H3)
theorem kO {op op':CmpOp}{r r':R2} (ho:OpR X (compareOp op) r) (ho':OpR X (compareOp op') r') (ha:PE X a ta) (hb:PE X b tb) (hc:PE X c tc)
  (hm:lastMarks [op,op'] [b,c]=false:=by with_unfolding_all rfl):PE X (.Compare a [op,op'] [b,c] pos) (sf r r' ta tb tc):=by
 intro pins s σ H Q I h
 refine Compare_chain (thn (ha pins s σ H _ I h) λv s1 ⟨x,H1,I1,r1,q1⟩=>chain_link (thn (hb pins s1 σ H1 _ I1 q1) λu s2 ⟨y,H2,I2,r2,q2⟩=>
  thn (ho pins s2 σ H2 x y v u _ I2 r1 r2 q2) λd s3 ⟨z,H3,I3,r3,k,e,q3⟩=>?_)) hm
 subst e
 cases r3
 refine wpAny_truthy_bool ?_
 cases k with
 | false=>exact ite_ff ⟨.bl false,H3,I3,rfl,q3⟩
 | true=>exact ite_tt (chain_last (thn (hc pins s3 σ H3 _ I3 q3) λw' s4 ⟨z',H4,I4,r4,q4⟩=>ho' pins s4 σ H4 y z' u w' Q I4 r2 r4 q4))
noncomputable def pL (K:PySem.W.Frag) (x:V) (H:Hp) (k:Bool):Prop:=
 match x with
 | .non=>k=false
 | .bl b=>k=b
 | .int i=>k=(i != 0)
 | .str y=>y.length<=sizeLine/\k=((y.length:Int) != 0)
 | .byt y=>y.size<=sizeLine/\k=((y.size:Int) != 0)
 | .ref p=>(∃ xs,SqL K H p xs/\k=!xs.isEmpty)\/(∃ xs,SqT K H p xs/\k=!xs.isEmpty)\/∃ kvs,H p=some (.dK kvs)/\k=!kvs.isEmpty
 | _=>False
theorem lx {κ:Type}{kvs:List (κ×V)}{vs:List (κ×Value)} (r:KV kvs vs):(!vs.isEmpty)=!kvs.isEmpty:=by
 cases r<;>rfl
theorem iA {xs:List V}{its:List Value} (r:aC xs its):(!its.toArray.isEmpty)=!xs.isEmpty:=by
 cases r<;>simp
theorem fA:(sizeLine:Nat) < 2 ^ 63:=by rw [sizeLine_eq];decide
theorem qP:tX X (λx H Q=>∃ k,pL X.K x H k/\Q k H):=by
 intro pins s σ H x v Q I rx h
 obtain⟨k,e,q⟩:=h
 have hl:=fA
 have hs:sizeLine=16777216:=sizeLine_eq
 cases x with
 | non=>
  cases rx
  have e':k=false:=e
  subst e'
  exact truthy_none ⟨H,I,q⟩
 | bl b=>
  cases rx
  have e':k=b:=e
  subst e'
  exact wpAny_truthy_bool ⟨H,I,q⟩
 | int i=>
  obtain⟨t,rfl⟩:=rx
  have e':k=(i != 0):=e
  subst e'
  exact PySem.P.truthy_int ⟨H,I,q⟩
 | str y=>
  obtain⟨t,rfl⟩:=rx
  obtain⟨hy,e'⟩:y.length<=sizeLine/\k=((y.length:Int) != 0):=e
  subst e'
  exact PySem.P.truthy_str (by lia) ⟨H,I.tok _,q⟩
 | byt y=>
  obtain⟨t,rfl⟩:=rx
  obtain⟨hy,e'⟩:y.size<=sizeLine/\k=((y.size:Int) != 0):=e
  subst e'
  exact PySem.W.truthy_bytes (by lia) ⟨H,I.tok _,q⟩
 | ref p=>
  cases rx
  have e':(∃ xs,SqL X.K H p xs/\k=!xs.isEmpty)\/(∃ xs,SqT X.K H p xs/\k=!xs.isEmpty)\/∃ kvs,H p=some (.dK kvs)/\k=!kvs.isEmpty:=e
  rcases e' with⟨xs,hx,e'⟩ | ⟨xs,hx,e'⟩ | ⟨kvs,hx,e'⟩
  ·subst e'
   obtain⟨its,r,pl,hz⟩:=I.list hx
   have hlen:=r.length
   exact wpAny_truthy_list pl.isList (by simp only [List.size_toArray];lia) ⟨H,I.tok _,by rw [iA r];exact q⟩
  ·subst e'
   obtain⟨its,r,pl,hz⟩:=I.tuple hx
   have hlen:=r.length
   exact truthy_tuple pl (by simp only [List.size_toArray];lia) ⟨H,I.tok _,by rw [iA r];exact q⟩
  ·subst e'
   obtain⟨hz,hS,vs,r,m⟩:kvs.length<=sizeLine/\(p==sysModules)=false/\∃ vs,KV kvs vs/\s.heap.DictOf (bD X.prog X.w) p vs:=I.hok p _ hx
   have hlen:kvs.length=vs.length:=Paired.length r
   exact wpAny_truthy_dict hS m (by lia) ⟨H,I.tok _,by rw [lx r];exact q⟩
 | _=>exact (show False from e).elim
theorem ng (ha:PE X a ta) (he:∀ whole,isTrue a X.env whole=(do let v <-whole;standAt a.pos;holding [v] (truthy v))) :
  PT X a (λσ H Q=>ta σ H λx H'=>∃ k,pL X.K x H' k/\Q k H'):=by
 intro pins s σ H Q I h
 exact isTrue_plain (thn (ha pins s σ H _ I h) λv s1 ⟨x,H1,I1,r1,q1⟩=>qP pins s1 σ H1 x v Q I1 r1 q1) (he _)
theorem lr:OpR X (binaryOp .Add) (λx y H Q=>∃ i j,x=.str i/\y=.str j/\i.length+j.length<=sizeLine/\Q (.str (i++j)) H):=by
 intro pins s σ H x y v u Q I rx ry h
 obtain⟨i,j,rfl,rfl,hz,q⟩:=h
 obtain⟨t,rfl⟩:=rx
 obtain⟨t',rfl⟩:=ry
 exact add_str (λt' tk=>⟨.str (i++j),H,I.tok _,⟨_,rfl⟩,q⟩) hz
theorem fo {x:V}{us:List Value} (r:aC [x] us):∃ u,us=[u]/\aP x u:=by
 cases r with
 | cons r1 r2=>cases r2;exact⟨_,rfl,r1⟩
theorem sh {x y:V}{us:List Value} (r:aC [x,y] us):∃ u w',us=[u,w']/\aP x u/\aP y w':=by
 cases r with
 | cons r1 r2=>
  cases r2 with
  | cons r3 r4=>cases r4;exact⟨_,_,rfl,r1,r3⟩
theorem nw:cx X (.builtin "abs") (λxs H Q=>∃ i,xs=[.int i]/\Q (.int (if i < 0 then -i else i)) H):=by
 intro pins s σ H xs us Q I r h
 obtain⟨i,rfl,q⟩:=h
 obtain⟨u,rfl,t,rfl⟩:=fo r
 exact call_abs_int λu tk=>⟨.int (if i < 0 then -i else i),H,I.tok _,⟨_,rfl⟩,q⟩
theorem mB (hc:X.calm=true):cx X (.builtin "min") (λxs H Q=>∃ i j,xs=[.int i,.int j]/\Q (.int (if j < i then j else i)) H):=by
 intro pins s σ H xs us Q I r h
 obtain⟨i,j,rfl,q⟩:=h
 obtain⟨u,w',rfl,⟨t,rfl⟩,⟨t',rfl⟩⟩:=sh r
 refine min_two_ints (I.ok.hd hc) λh' tk k=>⟨_,H,I.kept k,?_,q⟩
 by_cases hj:j < i
 ·rw [if_pos hj,if_pos hj];exact⟨_,rfl⟩
 ·rw [if_neg hj,if_neg hj];exact⟨_,rfl⟩
theorem i6:cx X (.type "int") (λxs H Q=>(∃ i,xs=[.int i]/\Q (.int i) H)\/∃ k,xs=[.bl k]/\Q (.int (if k then 1 else 0)) H):=by
 intro pins s σ H xs us Q I r h
 rcases h with⟨i,rfl,q⟩ | ⟨k,rfl,q⟩
 ·obtain⟨u,rfl,t,rfl⟩:=fo r
  exact call_int_int ⟨.int i,H,I,⟨_,rfl⟩,q⟩
 ·obtain⟨u,rfl,r1⟩:=fo r
  cases r1
  exact call_int_bool ⟨.int (if k then 1 else 0),H,I.tok _,⟨_,rfl⟩,q⟩
theorem jr:cx X (.type "str") (λxs H Q=>∃ i,xs=[.int i]/\i.natAbs.log2 < 1920/\Q (.str (toString i)) H):=by
 intro pins s σ H xs us Q I r h
 obtain⟨i,rfl,hz,q⟩:=h
 obtain⟨u,rfl,t,rfl⟩:=fo r
 exact PySem.P.str_of_int hz ⟨.str _,H,I.tok _,⟨_,rfl⟩,q⟩
end
end L2
namespace L2
open PySem PySem.Spec PyProof.Rows
structure rf (h:Heap) (x dx C:Addr) (mA:Str->Option Value):Prop where
 obj:h.get? x=some (PySem.W.instObj C dx)
 ns:h.Ns1 dx mA
 ne:dx≠x
theorem mz {h:Heap}{dx:Addr}{mA:Str->Option Value} (n:h.Ns1 dx mA):∃ od,h.get? dx=some od/\∀ name,PySem.W.lookIn name od=some (mA name):=by
 obtain⟨o,es,ep,ho,hd,hk,_,hm⟩:=n
 refine⟨o,ho,λname=>?_⟩
 have e:=hm name
 unfold nsFind findBy at e
 rw [<-Array.find?_toList] at e
 unfold PySem.W.lookIn
 rw [hd]
 dsimp only
 split
 ·rename_i y q
  rw [q] at e
  exact congrArg some e
 ·rename_i q
  rw [q] at e
  have a:es.toList.any (·.refKey)=false:=by
   rw [List.any_eq_false]
   intro y hy
   obtain⟨z,t,hkey⟩:=hk y (Array.mem_toList_iff.mp hy)
   simp [DictEntry.refKey,hkey]
  have a':¬ es.toList.any (·.refKey)=true:=by rw [a];exact Bool.false_ne_true
  rw [if_neg a']
  exact congrArg some e
theorem rf.look {h:Heap}{x dx C:Addr}{mA:Str->Option Value} (I:rf h x dx C mA):∃ od,PySem.W.InstAt h x (PySem.W.instObj C dx) C (some od)/\∀ name,PySem.W.lookIn name od=some (mA name):=
 let ⟨od,ho,hl⟩:=mz I.ns
 ⟨od,⟨I.obj,rfl,rfl,ho⟩,hl⟩
section
variable {prog:Program}{w:World}{A:Around}{E:Value->Shared->Prop}{s:Shared}{K:PySem.W.Frag}{x dx C f:Addr}{mA:Str->Option Value}{name:Str}{v:Value}
end
section
variable {P:Program}{w:World}{H H':Hp}{h h':Heap}{a C dx:Addr}{fs fs':List (Str×V)}
theorem pf (hok:HOk P w H h) (e:H a=some (.ins C dx fs)):∃ mA,rf h a dx C mA/\(∀ f,rT (fs.lookup f) (mA f))/\PySem.Within mA (fs.map (·.1))/\fs.length<=1000/\H dx=some (.own a):=by
 obtain⟨d,z,ne,ob,mA,n,r,q⟩:=(show cw P w H h a (.ins C dx fs) from hok a _ e)
 exact⟨mA,⟨ob,n,ne⟩,r,q,z,d⟩
end
structure Cls (K:PySem.W.Frag) (C:Addr):Prop where
 pg:PySem.W.plainGet K C Str.empty=true
 hd:PySem.W.hasDictIn K C=true
 po:PySem.W.plainOver K C=true
 sa:PySem.W.findIn K (.ref C) "__setattr__" = some (some (.builtin "object.__setattr__"))
theorem Cls.get {K:PySem.W.Frag}{C:Addr} (c:Cls K C) (f:Str):PySem.W.plainGet K C f=true:=c.pg
section
variable {X:Cx}{pins:List (Addr×Obj)}{σ:St}{H:Hp}{s:Shared}{a C dx:Addr}{fs:List (Str×V)}{f:Str}{v:V}{A:Around}{E:Value->Shared->Prop}
theorem Inv.made (I:Inv X pins σ H s):Inv X pins σ (upd (upd H s.heap.objs.size (.own (s.heap.objs.size+1))) (s.heap.objs.size+1) (.ins C s.heap.objs.size []))
  { s with heap:=(s.heap.push PySem.W.emptyDict).push (PySem.W.instObj C s.heap.objs.size) }:=by
 have e1:(s.heap.push PySem.W.emptyDict).get? s.heap.objs.size=some PySem.W.emptyDict:=Heap.get?_push_size s.heap rfl
 have e2:((s.heap.push PySem.W.emptyDict).push (PySem.W.instObj C s.heap.objs.size)).get? (s.heap.objs.size+1)=some (PySem.W.instObj C s.heap.objs.size):=by
  have:=Heap.get?_push_size (s.heap.push PySem.W.emptyDict) (o:=PySem.W.instObj C s.heap.objs.size) rfl
  rwa [Heap.size_push] at this
 have e3:(s.heap.push PySem.W.emptyDict).Ns s.heap.objs.size (λ_=>none):=⟨PySem.W.emptyDict,#[],_,e1,rfl,(λe he=>absurd he (by simp)),λ_=>rfl⟩
 have I1:=I.laid (a:=s.heap.objs.size) (o:=.own (s.heap.objs.size+1)) (h':=s.heap.push PySem.W.emptyDict) (t':=s.toks) (λb u q=>Heap.get?_push_of_some _ q) (Nat.le_refl _) ⟨_,e1⟩
 refine I1.laid (a:=s.heap.objs.size+1) (o:=.ins C s.heap.objs.size []) (t':=s.toks) (λb u q=>Heap.get?_push_of_some _ q) (Nat.le_of_eq (Heap.size_push _ _)) ?_
 have ne:s.heap.objs.size≠s.heap.objs.size+1:=Nat.ne_of_lt (Nat.lt_succ_self _)
 refine⟨by rw [aO ne,bi],Nat.zero_le _,ne,e2,λ_=>none,(Heap.Ns1.of_empty e3).at λo q=>Heap.get?_push_of_some _ q,λ_=>True.intro,λy hy=>absurd rfl hy⟩
end
section
variable {X:Cx}{o e value:Expr}{f:Str}{pos pos' tpos:Pos}{ta tv:TE}
end
section
variable {X:Cx}{pins:List (Addr×Obj)}{σ:St}{H:Hp}{s:Shared}{A:Around}{E:Value->Shared->Prop}{Q:Value->Shared->Prop}{c:Value}{b:Bool}
inductive gI (K:PySem.W.Frag) (H:Hp):V->Value->Prop where
 | non:gI K H .non (.type "NoneType")
 | bl (x:Bool):gI K H (.bl x) (.type "bool")
 | int (i:Int):gI K H (.int i) (.type "int")
 | str (x:Str):gI K H (.str x) (.type "str")
 | flt (x:UInt64):gI K H (.flt x) (.type "float")
 | lst {a:Addr}{xs:List V} (e:H a=some (.lst xs)):gI K H (.ref a) (.type "list")
 | frz {a:Addr}{o:Obj}{xs:List V} (e:H a=some (.frz o (.lst xs))):gI K H (.ref a) (.type "list")
 | tup {a:Addr}{xs:List V} (e:H a=some (.tup xs)):gI K H (.ref a) (.type "tuple")
 | dK {a:Addr}{kvs:List (Key×V)} (e:H a=some (.dK kvs)):gI K H (.ref a) (.type "dict")
 | dT {a:Addr}{kvs:List (List Key×V)} (e:H a=some (.dT kvs)):gI K H (.ref a) (.type "dict")
 | ins {a C dx:Addr}{fs:List (Str×V)} (e:H a=some (.ins C dx fs)) (cl:Cls K C) (ha:PySem.W.findIn K (.ref C) "__class__" = some (some (.builtin "object.__class__")))
   (hn:PySem.W.specialIn K (.builtin "object.__class__") "__get__" = some (some (.builtin "getset_descriptor.__get__"))) (htk:PySem.W.takesIn K (.builtin "object.__class__")=some true)
   (hm:PySem.W.mroIn K C (.type "object")=some true):gI K H (.ref a) (.ref C)
theorem cm {x:V}{u t:Value} (I:Inv X pins σ H s) (rx:aP x u) (ty:gI X.K H x t) (e:PySem.W.kitOne X.K t c=some b) (h:∀ tk,Q (.bool b) { s with toks:=tk }) :
  wpAny (model X.prog X.w) A (call (.builtin "isinstance") [u,c]) Q E s:=by
 cases ty with
 | non=>cases (show u=Value.none from rx);exact PySem.W.kia_one PySem.W.kitx_none I.kIn True.intro e (λz=>nomatch z) h
 | bl y=>cases (show u=Value.bool y from rx);exact PySem.W.kia_one PySem.W.kitx_bool I.kIn True.intro e (λz=>nomatch z) h
 | int i=>obtain⟨t,q⟩:=(show ∃ t,u=Value.int i t from rx);cases q;exact PySem.W.kia_one PySem.W.kitx_int I.kIn True.intro e (λz=>nomatch z) h
 | str y=>obtain⟨t,q⟩:=(show ∃ t,u=Value.str y t from rx);cases q;exact PySem.W.kia_one PySem.W.kitx_str I.kIn True.intro e (λz=>nomatch z) h
 | flt y=>obtain⟨t,q⟩:=(show ∃ t,u=Value.float y t from rx);cases q;exact PySem.W.kia_one PySem.W.kitx_float I.kIn True.intro e (λz=>nomatch z) h
 | @lst a xs ea=>
  cases (show u=Value.ref a from rx)
  obtain⟨_,_,n,_,h1⟩:=(show cw X.prog X.w H s.heap a (.lst xs) from I.hok a _ ea)
  exact PySem.W.kia_one PySem.W.kitx_list I.kIn ⟨_,h1,rfl⟩ e (λz=>nomatch z) h
 | @frz a ob xs ea=>
  cases (show u=Value.ref a from rx)
  obtain⟨_,_,_,n,_,h1⟩:=(show cw X.prog X.w H s.heap a (.frz ob (.lst xs)) from I.hok a _ ea)
  exact PySem.W.kia_one PySem.W.kitx_list I.kIn ⟨_,h1,rfl⟩ e (λz=>nomatch z) h
 | @tup a xs ea=>
  cases (show u=Value.ref a from rx)
  obtain⟨_,_,_,p⟩:=(show cw X.prog X.w H s.heap a (.tup xs) from I.hok a _ ea)
  obtain⟨o,h1,h2,_⟩:=p
  exact PySem.W.kia_one PySem.W.kitx_tuple I.kIn ⟨o,h1,h2⟩ e (λz=>nomatch z) h
 | @dK a kvs ea=>
  cases (show u=Value.ref a from rx)
  obtain⟨_,_,vs,_,p⟩:=(show cw X.prog X.w H s.heap a (.dK kvs) from I.hok a _ ea)
  obtain⟨o,es,ep,h1,h2,_⟩:=p
  exact PySem.W.kia_one PySem.W.kitx_dict I.kIn ⟨o,h1,h2.1⟩ e (λz=>nomatch z) h
 | @dT a kvs ea=>
  cases (show u=Value.ref a from rx)
  obtain⟨_,_,xs,_,o,es,ep,h1,h2,_⟩:=(show cw X.prog X.w H s.heap a (.dT kvs) from I.hok a _ ea)
  exact PySem.W.kia_one PySem.W.kitx_dict I.kIn ⟨o,h1,h2.1⟩ e (λz=>nomatch z) h
 | @ins a C dx fs ea cl ha hn htk hm=>
  cases (show u=Value.ref a from rx)
  obtain⟨mA,O,_⟩:=pf I.hok ea
  obtain⟨od,J,_⟩:=O.look
  exact PySem.W.kia_one (PySem.W.kitx_own (cl.get _) cl.hd ha hn htk hm) I.kIn J e (λz=>nomatch z) h
end
end L2
namespace L2
open PySem PySem.Spec PyProof.Rows
structure bO (k:Nat) (A:Around):Prop where
 hd:A.handled=none
 dp:A.depth+3*k+5 < recursionLimit
 un:A.units+16*k+200 < cLine
 gd:A.guards=some []
theorem bO.mono {j k:Nat}{A:Around} (r:bO k A) (h:j<=k):bO j A:=⟨r.hd,by have:=r.dp;lia,by have:=r.un;lia,r.gd⟩
theorem bO.deeper {k:Nat}{A:Around} (r:bO (k+1) A) (env:Env):bO k (A.deeper env):=
 ⟨r.hd,by have:=r.dp;show A.depth+1+3*k+5 < _;lia,by have:=r.un;show A.units+3+16*k+200 < _;lia,r.gd⟩
theorem bO.in1 {k:Nat}{A:Around} (r:bO (k+1) A):bO k A.in1:=
 ⟨r.hd,by have:=r.dp;show A.depth+3*k+5 < _;lia,by have:=r.un;show A.units+1+16*k+200 < _;lia,r.gd⟩
theorem bO.depth {k:Nat}{A:Around} (r:bO k A):A.depth < recursionLimit:=by have:=r.dp;lia
theorem bO.units {k:Nat}{A:Around} (r:bO k A):A.units+64 < cLine:=by have:=r.un;lia
theorem bO.units0 {k:Nat}{A:Around} (r:bO k A):A.units < cLine:=by have:=r.un;lia
noncomputable def ud:TA:=λ_ H Q=>Q [] H
noncomputable def sy (ta:TE) (tr:TA):TA:=λσ H Q=>ta σ H λx H1=>tr σ H1 λxs H2=>Q (x::xs) H2
section
variable {X:Cx}{e:Expr}{es:List Expr}{te:TE}{t:TA}{pos:Pos}
theorem qT:PA X [] ud:=λ_ _ _ _ H Q I h=>Calls.spliced_nil ⟨[],H,I,.nil,h⟩
theorem oN (ha:PE X e te) (hr:PA X es t) (hs:starEach (e::es) X.env=(false,eval e X.env)::starEach es X.env:=by rfl):PA X (e::es) (sy te t):=by
 intro pos pins s σ H Q I h
 rw [hs]
 show wpAny _ _ (spliced ((false,eval e X.env)::backTo pos (starEach es X.env))) _ _ s
 refine Calls.spliced_cons (thn (ha pins s σ H _ I h) λu s1 ⟨x,H1,I1,r1,q1⟩=>?_)
 exact thn (hr pos pins s1 σ H1 _ I1 q1) λus s2 ⟨xs,H2,I2,r2,q2⟩=>⟨x::xs,H2,I2,.cons r1 r2,q2⟩
noncomputable def tW (t:TA):TE:=λσ H Q=>t σ H λxs H1=>xs.length<=sizeLine/\∀ p,H1 p=none->Q (.ref p) (upd H1 p (.tup xs))
noncomputable def ui (t:TA):TE:=λσ H Q=>t σ H λxs H1=>xs.length<=sizeLine/\∀ p,H1 p=none->Q (.ref p) (upd H1 p (.lst xs))
theorem qz {x1} (h:PA X es t):PE X (.Tuple es x1 pos) (tW t):=by
 intro pins s σ H Q I hq
 refine wpAny_Tuple_spliced (thn (h pos pins s σ H _ I hq) λus s1 ⟨xs,H1,I1,r,z,q⟩=>⟨by rw [<-r.length];exact z,?_⟩)
 have hf:H1 s1.heap.objs.size=none:=I1.hok.fresh (Nat.le_refl _)
 refine⟨.ref s1.heap.objs.size,upd H1 s1.heap.objs.size (.tup xs),I1.laid (t':=s1.toks) (λb u e=>Heap.get?_push_of_some _ e) (Nat.le_refl _) ?_,rfl,q _ hf⟩
 exact⟨z,us,r,eD.new _ _⟩
theorem rV (h:PA X es t):PE X (.List es pos) (ui t):=by
 intro pins s σ H Q I hq
 refine wpAny_List_spliced (thn (h pos pins s σ H _ I hq) λus s1 ⟨xs,H1,I1,r,z,q⟩=>⟨by rw [<-r.length];exact z,?_⟩)
 have hf:H1 s1.heap.objs.size=none:=I1.hok.fresh (Nat.le_refl _)
 refine⟨.ref s1.heap.objs.size,upd H1 s1.heap.objs.size (.lst xs),I1.laid (t':=s1.toks) (λb u e=>Heap.get?_push_of_some _ e) (Nat.le_refl _) ?_,rfl,q _ hf⟩
 exact⟨z,us,0,r,Heap.get?_push_size _ rfl⟩
end
abbrev Sp:=List V->Hp->VK->XK->Prop
abbrev CXT:=List Env->Hp->Shared->XK->Value->Shared->Prop
structure lJ (P:Program) (w:World) (K:PySem.W.Frag) (mg:Str->Option Value) (base:Heap) (A:Around) (outer:List Env) (s:Shared) (H:Hp):Prop where
 frames:A.frames=some outer
 mod:Mod K mg base
 bs:∀ b o,base.get? b=some o->s.heap.get? b=some o/\H b=none
 bsz:base.objs.size<=s.heap.objs.size
 funs:s.heap.FunFrames base outer
 frf:∀ b ∈ frs outer,H b=none
 hok:HOk P w H s.heap
 bare:AllBare s.gens
noncomputable def CE (outer:List Env) (P:Program) (w:World) (H:Hp) (s:Shared) (Q:VK) (u:Value) (s':Shared):Prop:=
 ∃ v H',s'.os=s.os/\AllBare s'.gens/\Un (frs outer) [] H H' s.heap s'.heap/\HOk P w H' s'.heap/\aP v u/\Q v H'
noncomputable def CR (CX:CXT) (outer:List Env) (P:Program) (w:World) (H:Hp) (s:Shared) (Q:VK) (E:XK) (r:Result) (s':Shared):Prop:=
 match r with
 | .ok (.ret u)=>CE outer P w H s Q u s'
 | .ok _=>False
 | .error e=>CX outer H s E e s'
structure bp (P:Program) (w:World) (K:PySem.W.Frag) (mg:Str->Option Value) (base:Heap) (CX:CXT) (k:Nat) (f:Addr) (fd:FuncData) (ps:List Str) (sp:Sp):Prop where
 len:∀ vs H Q E,sp vs H Q E->vs.length=ps.length
 run:∀ (A:Around) (outer:List Env) (s:Shared) (H:Hp) (args:Args) (us:List Value) (vs:List V) (Q:VK) (E:XK),bO k A->lJ P w K mg base A outer s H->BindsTo s fd args (ps.zip us)->aC vs us->sp vs H Q E->
  codeAny (model P w) A (.call (.ref f) args) (CR CX outer P w H s Q E) s
theorem bp.mono {P:Program}{w:World}{K:PySem.W.Frag}{mg:Str->Option Value}{base:Heap}{CX:CXT}{j k:Nat}{f:Addr}{fd:FuncData}{ps:List Str}{sp:Sp} (F:bp P w K mg base CX j f fd ps sp) (h:j<=k) :
  bp P w K mg base CX k f fd ps sp:=⟨F.len,λA outer s H args us vs Q E hr=>F.run A outer s H args us vs Q E (hr.mono h)⟩
theorem bp.imp {P:Program}{w:World}{K:PySem.W.Frag}{mg:Str->Option Value}{base:Heap}{CX:CXT}{k:Nat}{f:Addr}{fd:FuncData}{ps:List Str}{sp sp':Sp} (F:bp P w K mg base CX k f fd ps sp)
  (h:∀ vs H Q E,sp' vs H Q E->sp vs H Q E):bp P w K mg base CX k f fd ps sp':=
 ⟨λvs H Q E q=>F.len vs H Q E (h _ _ _ _ q),λA outer s H args us vs Q E hr he hb hv hs=>F.run A outer s H args us vs Q E hr he hb hv (h _ _ _ _ hs)⟩
theorem lJ.in1 {P:Program}{w:World}{K:PySem.W.Frag}{mg:Str->Option Value}{base:Heap}{A:Around}{outer:List Env}{s:Shared}{H:Hp} (e:lJ P w K mg base A outer s H) :
  lJ P w K mg base A.in1 outer s H:=⟨e.frames,e.mod,e.bs,e.bsz,e.funs,e.frf,e.hok,e.bare⟩
section
variable {X:Cx}{pins:List (Addr×Obj)}{σ:St}{H:Hp}{s s':Shared}
theorem Inv.env0 (I:Inv X pins σ H s):lJ X.prog X.w X.K X.mg X.base X.A X.stack s H:=
 ⟨I.ok.frames,I.ok.mod,I.bs,Nat.le_trans I.ok.bsz I.sz,I.stack,I.stkFree,I.hok,I.bare⟩
theorem Inv.after {Q:VK}{u:Value} (I:Inv X pins σ H s) (h:CE X.stack X.prog X.w H s Q u s'):EP X pins σ Q u s':=by
 obtain⟨v,H',os,bare,un,hok,r,q⟩:=h
 obtain⟨hh,g,d,t,os'⟩:=s'
 obtain rfl:os'=s.os:=os
 exact⟨v,H',I.call (h':=hh) (g':=g) (d':=d) (t':=t) (ch:=[]) un hok bare (λb z=>absurd z (by simp)),r,q⟩
end
noncomputable def sC (sp:Sp) (dvs:List V) (E:XK) (t:TA):TE:=λσ H Q=>t σ H λvs H1=>sp (vs++dvs) H1 Q E
noncomputable def bP (K:PySem.W.Frag) (fd:FuncData) (ps:List Str) (ds:List Value):Prop:=
 ∀ (s:Shared) (us:List Value),K.In s.heap->(us++ds).length=ps.length->BindsTo s fd ⟨us,[]⟩ (ps.zip (us++ds))
theorem bP.all {K:PySem.W.Frag}{fd:FuncData}{ps:List Str} (h:∀ us:List Value,us.length=ps.length->bindArgs fd ⟨us,[]⟩=pure (ps.zip us)):bP K fd ps []:=λs us _ hl=>by
 rw [List.append_nil] at hl ⊢
 exact .of_eq (h us hl)
noncomputable def lK (CX:CXT) (X:Cx) (E:XK):Prop:=∀ (pins:List (Addr×Obj)) (σ:St) (H:Hp) (s:Shared) (e:Value) (s':Shared),Inv X pins σ H s->CX X.stack H s E e s'->X.xe e s'
section
variable {X:Cx}{CX:CXT}{k:Nat}{f C:Addr}{fd:FuncData}{ps:List Str}{sp:Sp}{dvs:List V}{ds:List Value}{E:XK}{x m:Str}{p pos apos:Pos}{e o:Expr}{es:List Expr}{ta:TE}{t:TA}
theorem qZ {pins:List (Addr×Obj)}{σ:St}{H:Hp}{s:Shared}{Q:VK}{us:List Value}{vs:List V} (F:bp X.prog X.w X.K X.mg X.base CX k f fd ps sp) (hr:bO k X.A) (hb:bP X.K fd ps ds) (hd:aC dvs ds) (hx:lK CX X E)
  (I:Inv X pins σ H s) (r:aC vs us) (h:sp (vs++dvs) H Q E):wpAny (model X.prog X.w) X.A (call (.ref f) us) (EP X pins σ Q) X.xe s:=by
 have r2:aC (vs++dvs) (us++ds):=r.append hd
 have hl:(us++ds).length=ps.length:=by rw [<-r2.length];exact F.len _ _ _ _ h
 refine wpAny_call (codeAny_mono (F.run X.A X.stack s H ⟨us,[]⟩ (us++ds) (vs++dvs) Q E hr I.env0 (hb s us I.kIn hl) r2 h) λr s' hq=>?_)
 cases r with
 | error e=>exact hx pins σ H s e s' I hq
 | ok fl=>
  cases fl with
  | ret u=>exact I.after hq
  | next=>exact False.elim hq
  | brk=>exact False.elim hq
  | cont=>exact False.elim hq
theorem oJ (F:bp X.prog X.w X.K X.mg X.base CX k f fd ps sp) (hr:bO k X.A) (hg:Gl X x) (hm:X.mg x=some (.ref f)) (hk:PySem.W.keepIn X.K (.ref f)=true) (hb:bP X.K fd ps ds) (hd:aC dvs ds) (hx:lK CX X E)
  (ha:PA X (e::es) t) (hdb:(x==("__debug__" : Str))=false:=by decide) (he:starEach (e::es) X.env=(false,eval e X.env)::starEach es X.env:=by rfl) (hpl:(backTo pos (starEach es X.env)).any (·.1)=false:=by rfl) :
  PE X (.Call (.Name x p) (e::es) [] pos) (sC sp dvs E t):=by
 intro pins s σ H Q I h
 refine wpAny_Call_Name_kw (lY I hg hm ?_ hdb)
 refine PySem.W.callWith_K (h₀:=X.base) I.ok.mod.kin hk (thn (ha pos pins s σ H _ I h) λus s1 ⟨vs,H1,I1,r,q⟩=>⟨I1.kIn,?_⟩) he hpl
 exact qZ F hr hb hd hx I1 r q
end
section
variable {X:Cx}{CX:CXT}{k:Nat}{f C:Addr}{fd:FuncData}{ps ks:List Str}{sp:Sp}{E:XK}{x m:Str}{p pos apos kpos:Pos}{e o:Expr}{es:List Expr}{kws:List Keyword}{te ta:TE}{t tk:TA}{nm:Option Str}
variable {g:List Value->List Value->List Value}{gV:List V->List V->List V}
end
structure aS (N P:List Str) (sc:Scope):Prop where
 kind:sc.kind=.function
 co:sc.isCoroutine=false
 gen:sc.isGenerator=false
 nd:N.Nodup
 pre:N.take P.length=P
 par:∀ x ∈ P,sc.names.lookup x=some .local\/sc.names.lookup x=some .cell
 nofree:∀ y ∈ sc.names,y.2≠.free
theorem jd {kindOf:Str->Option NameKind}{x:Str}:∀ {binds:List (Str×Value)}{m:Str->Option Value},(∀ v,(x,v) ∉ binds)->bindL kindOf binds m x=m x
 | [],_,_=>rfl
 | (n,v)::r,m,h=>by
  unfold bindL
  rw [jd λw hw=>h w (List.mem_cons_of_mem _ hw)]
  split
  ·have:x≠n:=by rintro rfl;exact h v List.mem_cons_self
   simp [this]
  ·rfl
theorem ji {kindOf:Str->Option NameKind}{x:Str}:∀ {binds:List (Str×Value)}{m:Str->Option Value},(∀ v,(x,v) ∉ binds)->bindC kindOf binds m x=m x
 | [],_,_=>rfl
 | (n,v)::r,m,h=>by
  unfold bindC
  rw [ji λw hw=>h w (List.mem_cons_of_mem _ hw)]
  split
  ·rfl
  ·have:x≠n:=by rintro rfl;exact h v List.mem_cons_self
   simp [this]
theorem i3 {kindOf:Str->Option NameKind}{x:Str}{v:Value}:∀ {P:List Str}{vs:List Value}{i:Nat}{m:Str->Option Value},P.Nodup->P[i]?=some x->vs[i]?=some v->kindOf x=some .local->
  bindL kindOf (P.zip vs) m x=some v
 | [],_,_,_,_,h,_,_=>by simp at h
 | _::_,[],_,_,_,_,h,_=>by simp at h
 | p::P,w::vs,0,m,nd,h1,h2,hk=>by
  simp at h1 h2;subst h1;subst h2
  show bindL kindOf ((p,w)::P.zip vs) m p=_
  unfold bindL
  rw [jd λv hv=>(List.nodup_cons.mp nd).1 (List.of_mem_zip hv).1,if_pos hk]
  simp
 | p::P,w::vs,i+1,m,nd,h1,h2,hk=>by
  show bindL kindOf ((p,w)::P.zip vs) m x=_
  unfold bindL
  exact i3 (i:=i) (List.nodup_cons.mp nd).2 (by simpa using h1) (by simpa using h2) hk
theorem jl {kindOf:Str->Option NameKind}{x:Str}{v:Value}:∀ {P:List Str}{vs:List Value}{i:Nat}{m:Str->Option Value},P.Nodup->P[i]?=some x->vs[i]?=some v->kindOf x≠some .local->
  bindC kindOf (P.zip vs) m x=some v
 | [],_,_,_,_,h,_,_=>by simp at h
 | _::_,[],_,_,_,_,h,_=>by simp at h
 | p::P,w::vs,0,m,nd,h1,h2,hk=>by
  simp at h1 h2;subst h1;subst h2
  show bindC kindOf ((p,w)::P.zip vs) m p=_
  unfold bindC
  rw [ji λv hv=>(List.nodup_cons.mp nd).1 (List.of_mem_zip hv).1,if_neg hk]
  simp
 | p::P,w::vs,i+1,m,nd,h1,h2,hk=>by
  show bindC kindOf ((p,w)::P.zip vs) m x=_
  unfold bindC
  exact jl (i:=i) (List.nodup_cons.mp nd).2 (by simpa using h1) (by simpa using h2) hk
noncomputable def start (N:List Str) (vs:List V):St:=vs.map some++List.replicate (N.length - vs.length) none
noncomputable def gm (CX:CXT) (P:Program) (w:World) (K:PySem.W.Frag) (mg:Str->Option Value) (base:Heap) (N:List Str) (qual:Str) (scope:Scope) (f:Addr) (cd:Value) (A:Around) (outer:List Env) (s:Shared) (H:Hp) (E:XK):Cx where
 prog:=P
 w:=w
 K:=K
 mg:=mg
 base:=base
 A:=A.deeper (envOfC qual scope s.heap.objs.size f cd)
 N:=N
 s₀:=s
 H₀:=H
 env:=envOfC qual scope s.heap.objs.size f cd
 outer:=outer
 stack:=envOfC qual scope s.heap.objs.size f cd::outer
 ex:=[]
 calm:=true
 fn:=λ_=>true
 pn:=[]
 xe:=λe s'=>wpAny (model P w) (A.deeper (envOfC qual scope s.heap.objs.size f cd)) (leaving (envOfC qual scope s.heap.objs.size f cd) e) (λ_ s''=>CX outer H s E e s'') (λe' s''=>CX outer H s E e' s'') s'
theorem kN {sc:Scope}{n:Nat}{x:Str} (h:sc.names.lookup x=some .cell):∃ c,(cellsFrom n sc.names []).lookup x=some c:=by
 have q:=PySem.W.cellsFrom_some sc.names n [] (.inl h)
 exact Option.isSome_iff_exists.mp q
theorem mX {CX:CXT}{P:Program}{w:World}{K:PySem.W.Frag}{mg:Str->Option Value}{base:Heap}{N ps:List Str}{qual:Str}{scope:Scope}{f:Addr}{cd:Value}{A:Around}{outer:List Env}{s s1:Shared}{H:Hp}{E:XK}{us:List Value}{vs:List V}
  (S:aS N ps scope) (hd:A.handled=none) (e0:lJ P w K mg base A outer s H) (hl:vs.length=ps.length) (r:aC vs us)
  (x:InCallC s s.heap.objs.size (bindL (envOfC qual scope s.heap.objs.size f cd).kindOf (ps.zip us) λ_=>none) (cellsFrom (s.heap.objs.size+1) scope.names []) (bindC (envOfC qual scope s.heap.objs.size f cd).kindOf (ps.zip us) λ_=>none) s1) :
  Inv (gm CX P w K mg base N qual scope f cd A outer s H E) [] (start N vs) H s1:=by
 have hpl:ps.length<=N.length:=by have:=congrArg List.length S.pre;rw [List.length_take] at this;lia
 obtain⟨h1,tk,rfl,hk⟩:=x.done
 have noA:∀ b:Addr,b ∉ (gm CX P w K mg base N qual scope f cd A outer s H E).ex:=λb z=>absurd (show b ∈ ([]:List Addr) from z) (by simp)
 refine⟨⟨e0.mod,S.kind,rfl,rfl,Nat.le_refl _,λy z c h1 h2=>?_,λy hy=>?_,λy c _ h=>?_,λ_=>hd,Around.frames_deeper e0.frames,.inr ⟨rfl,rfl⟩,λb z=>absurd z (noA b),e0.bs,e0.bsz,λb _ _=>noA b,λb z=>absurd z (noA b),e0.funs,e0.frf⟩,
  rfl,e0.bare,Un.kept hk,⟨_,x.toInCall.ns,λi y v h1 h2 h3=>?_⟩,λy c h=>⟨_,x.cell y c h⟩,e0.hok.fresh (Nat.le_refl _),λy c h=>?_,λp hp=>absurd (show p ∈ ([]:List (Addr×Obj)) from hp) (by simp),e0.hok.kept hk,?_⟩
 ·exact name_of_addr x.apart (PySem.mem_of_lookup h1) (PySem.mem_of_lookup h2)
 ·have hy:scope.names.lookup y=some .cell\/scope.names.lookup y=some .free:=hy
  rcases hy with hy | hy
  ·exact kN hy
  ·exact absurd rfl (S.nofree _ (PySem.mem_of_lookup hy))
 ·exact Nat.le_of_lt (x.above y c (PySem.mem_of_lookup h))
 ·have hi:i < vs.length:=by
   unfold start at h2
   by_cases hi:i < vs.length
   ·exact hi
   ·rw [List.getElem?_append_right (by simpa using hi)] at h2
    rw [List.getElem?_replicate] at h2
    split at h2<;>cases h2
  have ha:vs[i]?=some v:=by
   unfold start at h2
   rw [List.getElem?_append_left (by simpa using hi),List.getElem?_map] at h2
   cases e:vs[i]? with
   | none=>rw [e] at h2;cases h2
   | some a=>rw [e] at h2;cases h2;rfl
  obtain⟨u,hu,rv⟩:=r.get ha
  have hp:ps[i]?=some y:=by
   rw [<-S.pre,List.getElem?_take_of_lt (by lia)];exact h1
  have ndP:ps.Nodup:=by rw [<-S.pre];exact S.nd.sublist (List.take_sublist _ _)
  refine⟨u,rv,?_⟩
  rcases S.par y (List.mem_of_getElem? hp) with k | k
  ·exact .inl ⟨k,i3 ndP hp hu k⟩
  ·obtain⟨c,e⟩:=kN (n:=s.heap.objs.size+1) k
   refine .inr ⟨.inl k,c,e,?_⟩
   have q:=x.cell y c e
   rw [jl ndP hp hu (by show scope.names.lookup y≠_;rw [k];decide)] at q
   exact q
 ·exact e0.hok.fresh (Nat.le_of_lt (x.above y c (PySem.mem_of_lookup h)))
 ·unfold start
  show _=N.length
  rw [List.length_append,List.length_map,List.length_replicate]
  lia
theorem so {CX:CXT}{P:Program}{w:World}{K:PySem.W.Frag}{mg:Str->Option Value}{base:Heap}{k:Nat}{f:Addr}{name qual:Str}{params:Arguments}{body:List Stmt}{scope:Scope}{dV kV doc pm cdv ct oc:Value}{an od:Option Addr}
  {osl:Array (Option Value)}{N ps:List Str}{sp:Sp} (lk:K.lookup f=some ⟨oc,od,.func (PySem.W.fnOf name qual params body scope dV kV doc pm an cdv ct),osl⟩) (hcd:PySem.W.codeIn K cdv qual=true) (S:aS N ps scope)
  (len:∀ vs H Q E,sp vs H Q E->vs.length=ps.length)
  (hbody:∀ (A:Around) (outer:List Env) (s:Shared) (H:Hp) (vs:List V) (Q:VK) (E:XK),bO k (A.deeper (envOfC qual scope s.heap.objs.size f cdv))->sp vs H Q E->
    ∃ t,PSs (gm CX P w K mg base N qual scope f cdv A outer s H E) body t/\t { nx:=λ_ H'=>Q .non H',rt:=Q } (start N vs) H) :
  bp P w K mg base CX (k+1) f (PySem.W.fnOf name qual params body scope dV kV doc pm an cdv ct) ps sp:=by
 refine⟨len,λA outer s H args us vs Q E hr e0 hb r hsp=>?_⟩
 have hl:=len _ _ _ _ hsp
 have KX:K.In s.heap:=e0.mod.kin.keeps λb o e=>(e0.bs b o e).1
 have lim:s.heap.NoLimit:=e0.mod.nolimit.keeps λb o e=>(e0.bs b o e).1
 have hkind:∀ y ∈ ps.zip us,scope.names.lookup y.1=some .local\/(scope.names.lookup y.1=some .cell/\((cellsFrom (s.heap.objs.size+1) scope.names []).lookup y.1).isSome=true):=λ⟨n,v⟩ hy=>by
  rcases S.par n (List.of_mem_zip hy).1 with q | q
  ·exact .inl q
  ·exact .inr ⟨q,PySem.W.cellsFrom_some _ _ _ (.inl q)⟩
 refine codeAny_call_function hr.depth (KX _ _ lk) rfl S.co S.gen rfl (PySem.W.codeRec_of KX hcd) (hb _ _ _ _ ?_)
 refine wpAny_newFunctionEnv_cells S.kind hkind λenv he s1 x=>?_
 subst he
 refine⟨lim.keeps x.toInCall.keep,codeAny_func ?_⟩
 obtain⟨t,ht,hq⟩:=hbody A outer s H vs Q E (hr.deeper _) hsp
 have I:Inv (gm CX P w K mg base N qual scope f cdv A outer s H E) [] (start N vs) H s1:=mX S hr.hd e0 hl r x
 refine wpAny_mono (ht [] s1 (start N vs) H _ I hq) (λfl s' hs=>?_) λe s' hs=>hs
 have fin:∀ {σ':St}{H':Hp}{v:V}{u:Value},Inv (gm CX P w K mg base N qual scope f cdv A outer s H E) [] σ' H' s'->aP v u->Q v H'->CE outer P w H s Q u s':=
  λ{σ' H' v u} J rv q=>⟨v,H',J.os,J.bare,J.base,J.hok,rv,q⟩
 cases fl with
 | ret u=>
  obtain⟨v,σ',H',J,rv,q⟩:=hs
  exact fin J rv q
 | next=>
  obtain⟨σ',H',J,q⟩:=hs
  exact fin (v:=V.non) (u:=Value.none) J rfl q
 | brk=>
  obtain⟨_,_,_,q⟩:=hs
  exact False.elim q
 | cont=>
  obtain⟨_,_,_,q⟩:=hs
  exact False.elim q
end L2
namespace L2
open PySem PySem.Spec PyProof.Rows
section
variable {X:Cx}{x:Str}{p pos:Pos}{e:Expr}{es:List Expr}{t:TA}{id T:String}{r:List V->Hp->VK->Prop}
noncomputable def tCB (r:List V->Hp->VK->Prop) (t:TA):TE:=λσ H Q=>t σ H λvs H1=>r vs H1 Q
theorem oi (hc:cx X (.builtin id) r) (hg:Gl X x) (hm:X.mg x=none) (hv:bootBuiltins x=some (.builtin id)) (ha:PA X (e::es) t) (hn:x≠"__name__":=by decide) (hdb:(x==("__debug__" : Str))=false:=by decide)
  (he:starEach (e::es) X.env=(false,eval e X.env)::starEach es X.env:=by rfl) (hpl:(backTo pos (starEach es X.env)).any (·.1)=false:=by rfl):PE X (.Call (.Name x p) (e::es) [] pos) (tCB r t):=by
 intro pins s σ H Q I h
 refine wpAny_Call_Name_kw (ke I hg hm hv ?_ hn hdb)
 exact PyProof.Rows.callWith_builtin1 (thn (ha pos pins s σ H _ I h) λus s1 ⟨vs,H1,I1,r1,q1⟩=>hc pins s1 σ H1 vs us Q I1 r1 q1) he hpl
theorem i5 (hc:cx X (.type T) r) (hg:Gl X x) (hm:X.mg x=none) (hv:bootBuiltins x=some (.type T)) (ha:PA X (e::es) t) (hn:x≠"__name__":=by decide) (hdb:(x==("__debug__" : Str))=false:=by decide)
  (he:starEach (e::es) X.env=(false,eval e X.env)::starEach es X.env:=by rfl) (hpl:(backTo pos (starEach es X.env)).any (·.1)=false:=by rfl):PE X (.Call (.Name x p) (e::es) [] pos) (tCB r t):=by
 intro pins s σ H Q I h
 refine wpAny_Call_Name_kw (ke I hg hm hv ?_ hn hdb)
 exact PyProof.Rows.callWith_type1 (thn (ha pos pins s σ H _ I h) λus s1 ⟨vs,H1,I1,r1,q1⟩=>hc pins s1 σ H1 vs us Q I1 r1 q1) he hpl
end
end L2
namespace HT
open PySem PyProof.Rows
section
open PySem.SeqAt
open PySem.AutoSeq1 (wpAny_loadPart')
open PySem.MeetsSeq PySem.MeetsSeq2 PySem.MeetsSeq3
end
section
variable {prog:Program}{w:World}{A:Around}{E:Value->Shared->Prop}{s:Shared}
theorem cat_tup {t b:Addr}{vs ws:List Value}{Q:Value->Shared->Prop} (ht:IsTup s.heap t vs.toArray) (hb:IsTup s.heap b ws.toArray) (hv:vs≠[])
  (h1:ws=[]->Q (.ref t) s) (h2:ws≠[]->Q (.ref s.heap.objs.size) { s with heap:=s.heap.push { cls:=.type "tuple",data:=.seq (vs++ws).toArray } })
  (hsz:vs.length+ws.length<=sizeLine):wpAny (model prog w) A (binaryOp .Add (.ref t) (.ref b)) Q E s:=by
 obtain⟨⟨cls,dd,data,sl⟩,ho,hc,n,hd⟩:=id ht
 obtain⟨⟨cls2,dd2,data2,sl2⟩,ho2,hc2,n2,hd2⟩:=id hb
 simp only at hc hd hc2 hd2
 subst hc hd hc2 hd2
 have e:vs.toArray++ws.toArray=(vs++ws).toArray:=by simp
 by_cases hw:ws=[]
 ·exact concat_meets ⟨_,ho,rfl⟩ ⟨_,ho2,rfl⟩ noFill_tuple_add seq_tuple_add PySem.F.slot_tuple_add PySem.F.entry_tuple_add (PySem.F.args_tuple_add_2 _ _)
   (tuple_addW1 t b vs.toArray ws.toArray n n2 dd dd2 sl sl2 (by simpa using hv) (by simp [hw])) ⟨ho,ho2,h1 hw⟩
 ·refine concat_meets ⟨_,ho,rfl⟩ ⟨_,ho2,rfl⟩ noFill_tuple_add seq_tuple_add PySem.F.slot_tuple_add PySem.F.entry_tuple_add (PySem.F.args_tuple_add_2 _ _)
   (tuple_addW2 t b vs.toArray ws.toArray n n2 dd dd2 sl sl2 (by simpa using hv) (by simpa using hw) (by rw [List.size_toArray,List.size_toArray];exact hsz)) ⟨ho,ho2,?_⟩
  rw [e]
  exact h2 hw
noncomputable def sIx (n d:Nat):Option Int->Nat
 | none=>d
 | some v=>if v < 0 then (v+(n:Int)).toNat else min v.toNat n
theorem lm (n d:Nat) (hd:d<=n) (o:Option Int):sIx n d o<=n:=by
 cases o with
 | none=>exact hd
 | some v=>
  show (if v < 0 then (v+(n:Int)).toNat else min v.toNat n)<=n
  by_cases hv:v < 0
  ·rw [if_pos hv];lia
  ·rw [if_neg hv];exact Nat.min_le_right _ _
end
end HT
namespace L2
open PySem PySem.Spec PyProof.Rows
abbrev TO:=St->Hp->(Option Int->Hp->Prop)->Prop
noncomputable def PO (X:Cx) (e:Option Expr) (t:TO):Prop:=
 ∀ (pins:List (Addr×Obj)) (s:Shared) (σ:St) (H:Hp) (Q:Option Int->Hp->Prop),Inv X pins σ H s->t σ H Q->
  wpAny (model X.prog X.w) X.A (evalPart e X.env) (λu s'=>∃ o H',Inv X pins σ H' s'/\IsPart u o/\Q o H') X.xe s
noncomputable def sV (t:TE):TO:=λσ H Q=>t σ H λx H1=>∃ i,x=.int i/\Q (some i) H1
section
variable {X:Cx}{e:Expr}{te:TE}{lo hi:Option Expr}{tl th:TO}{pos p2:Pos}
theorem pc (h:PE X e te):PO X (some e) (sV te):=by
 intro pins s σ H Q I hw
 rw [evalPart_some]
 refine thn (h pins s σ H _ I hw) λu s1 ⟨x,H1,I1,r1,q1⟩=>?_
 obtain⟨i,rfl,q⟩:=q1
 obtain⟨t,rfl⟩:=r1
 exact⟨some i,H1,I1,.int i t,q⟩
noncomputable def SlR (X:Cx) (r:V->Option Int->Option Int->Hp->VK->Prop):Prop:=
 ∀ (pins:List (Addr×Obj)) (s:Shared) (σ:St) (H:Hp) (x:V) (v vl vu:Value) (lo hi:Option Int) (sl:Addr) (Q:VK),Inv X pins σ H s->aP x v->s.heap.IsSliceOf sl vl vu .none->IsPart vl lo->IsPart vu hi->r x lo hi H Q->
  ∃ T id,typeLookup (.type T) "__getitem__" = pure (some (.builtin id))/\s.TypeIs v T/\wpAny (model X.prog X.w) X.A (getItem v (.ref sl)) (EP X pins σ Q) X.xe s
theorem SlR.or {r r':V->Option Int->Option Int->Hp->VK->Prop} (h:SlR X r) (h':SlR X r'):SlR X (λx lo hi H Q=>r x lo hi H Q\/r' x lo hi H Q):=by
 intro pins s σ H x v vl vu lo hi sl Q I rx hs pl pu q
 rcases q with q | q
 ·exact h pins s σ H x v vl vu lo hi sl Q I rx hs pl pu q
 ·exact h' pins s σ H x v vl vu lo hi sl Q I rx hs pl pu q
noncomputable def tSl (r:V->Option Int->Option Int->Hp->VK->Prop) (te:TE) (tl th:TO):TE:=λσ H Q=>te σ H λx H1=>tl σ H1 λl H2=>th σ H2 λu H3=>r x l u H3 Q
theorem nl {r:V->Option Int->Option Int->Hp->VK->Prop} (hr:SlR X r) (he:PE X e te) (hl:PO X lo tl) (hu:PO X hi th):PE X (.Subscript e (.Slice lo hi none p2) pos) (tSl r te tl th):=by
 intro pins s σ H Q I h
 refine Subscript_ (thn (he pins s σ H _ I h) λv s1 ⟨x,H1,I1,r1,q1⟩=>?_)
 refine wpAny_Slice (thn (hl pins s1 σ H1 _ I1 q1) λvl s2 ⟨l,H2,I2,pl,q2⟩=>thn (hu pins s2 σ H2 _ I2 q2) λvu s3 ⟨u,H3,I3,pu,q3⟩=>?_)
 rw [evalPart_none]
 refine wpAny_pure ?_
 have I4:Inv X pins σ H3 { s3 with heap:=s3.heap.push { cls:=.type "slice",data:=.fields #[vl,vu,.none] } }:=I3.kept (t':=s3.toks) λb ob q=>Heap.get?_push_of_some _ q
 obtain⟨T,id,hT,ht,hg⟩:=hr pins { s3 with heap:=s3.heap.push { cls:=.type "slice",data:=.fields #[vl,vu,.none] } } σ H3 x v vl vu l u s3.heap.objs.size Q I4 r1 (Heap.IsSliceOf.new ..) pl pu q3
 show wpAny (model X.prog X.w) X.A (subscriptTail e (.Slice lo hi none p2) v (.ref s3.heap.objs.size)) (EP X pins σ Q) X.xe { s3 with heap:=s3.heap.push { cls:=.type "slice",data:=.fields #[vl,vu,.none] } }
 exact tail_any (ops:=[.ref s3.heap.objs.size,v]) ht hT hg (by with_unfolding_all rfl)
noncomputable def sP (K:PySem.W.Frag):R2:=λx y H Q=>∃ a b xs ys,x=.ref a/\y=.ref b/\SqT K H a xs/\SqT K H b ys/\xs≠[]/\xs.length+ys.length<=sizeLine/\
 (ys=[]->Q (.ref a) H)/\(ys≠[]->∀ p,H p=none->Q (.ref p) (upd H p (.tup (xs++ys))))
theorem aC.nil_iff {xs:List V}{us:List Value} (r:aC xs us):us=[]↔xs=[]:=by
 cases r with
 | nil=>simp
 | cons _ _=>simp
theorem pF:OpR X (binaryOp .Add) (sP X.K):=by
 intro pins s σ H x y v u Q I rx ry h
 obtain⟨a,b,xs,ys,rfl,rfl,ha,hb,hx,hz,q1,q2⟩:=h
 cases rx
 cases ry
 obtain⟨its,r1,p1,_⟩:=I.tuple ha
 obtain⟨its2,r2,p2,_⟩:=I.tuple hb
 refine HT.cat_tup p1 p2 (λz=>hx (r1.nil_iff.mp z)) (λz=>⟨.ref a,H,I,rfl,q1 (r2.nil_iff.mp z)⟩) (λz=>?_) (by rw [<-r1.length,<-r2.length];exact hz)
 refine⟨.ref s.heap.objs.size,_,I.laid (t':=s.toks) (o:=.tup (xs++ys)) (λb ob q=>Heap.get?_push_of_some _ q) (Nat.le_refl _) ?_,rfl,q2 (λw=>z (r2.nil_iff.mpr w)) _ (I.hok.fresh (Nat.le_refl _))⟩
 exact⟨by rw [List.length_append];exact hz,_,r1.append r2,eD.new _ _⟩
end
end L2
namespace L2
open PySem PySem.Spec PyProof.Rows
noncomputable def ixN (n:Nat) (i:Int):Option Nat:=if 0<=i then (if i < n then some i.toNat else none) else if -(n:Int)<=i then some (i+n).toNat else none
noncomputable def atI {α:Type} (xs:List α) (i:Int):Option α:=(ixN xs.length i).bind λj=>xs[j]?
theorem lU {n:Nat}{i:Int}{j:Nat} (h:ixN n i=some j):seqIndex? i n=some j/\j < n/\-(n:Int)<=i/\i < n:=by
 unfold ixN at h
 by_cases h0:0<=i
 ·rw [if_pos h0] at h
  by_cases h1:i < n
  ·rw [if_pos h1] at h
   have e:i.toNat=j:=Option.some.inj h
   exact⟨by rw [seqIndex_of h0 h1,e],by lia,by lia,h1⟩
  ·rw [if_neg h1] at h;cases h
 ·rw [if_neg h0] at h
  by_cases h1:-(n:Int)<=i
  ·rw [if_pos h1] at h
   have e:(i+n).toNat=j:=Option.some.inj h
   exact⟨by rw [seqIndex_neg (by lia) h1,e],by lia,h1,by lia⟩
  ·rw [if_neg h1] at h;cases h
theorem jP {α:Type}{xs:List α}{i:Int}{v:α} (h:atI xs i=some v):∃ j,seqIndex? i xs.length=some j/\xs[j]?=some v/\j < xs.length/\-(xs.length:Int)<=i/\i < xs.length:=by
 unfold atI at h
 cases e:ixN xs.length i with
 | none=>rw [e] at h;cases h
 | some j=>
  rw [e] at h
  obtain⟨h1,h2,h3,h4⟩:=lU e
  exact⟨j,h1,h,h2,h3,h4⟩
theorem gi {α:Type}{xs:List α}{j:Nat}{v:α} (h:xs[j]?=some v):atI xs (j:Int)=some v:=by
 have hj:j < xs.length:=(List.getElem?_eq_some_iff.mp h).1
 have e:ixN xs.length (j:Int)=some j:=by
  unfold ixN
  rw [if_pos (by lia),if_pos (by lia)];simp
 unfold atI;rw [e];exact h
theorem ko {α:Type} (xs:List α) (v:α):atI (xs++[v]) (-1)=some v:=by
 have hl:(xs++[v]).length=xs.length+1:=by simp
 have e:ixN (xs++[v]).length (-1)=some xs.length:=by
  unfold ixN
  rw [hl,if_neg (by decide),if_pos (by lia)]
  congr 1
  lia
 unfold atI
 rw [e]
 show (xs++[v])[xs.length]?=some v
 simp
noncomputable def jW (b:Expr):Prop:=∀ o i,subscripted b false o i=operate [o,i] (getItem o i)
noncomputable def IxR (X:Cx) (r:R2):Prop:=
 ∀ (value slice:Expr) (pins:List (Addr×Obj)) (s:Shared) (σ:St) (H:Hp) (x y:V) (v u:Value) (Q:VK),Inv X pins σ H s->aP x v->aP y u->r x y H Q->
  subscripted slice false v u=operate [v,u] (getItem v u)->wpAny (model X.prog X.w) X.A (subscriptTail value slice v u) (EP X pins σ Q) X.xe s
noncomputable def MtR (X:Cx) (id:String) (r:V->List V->Hp->VK->Prop):Prop:=
 ∀ (pins:List (Addr×Obj)) (s:Shared) (σ:St) (H:Hp) (x:V) (xs:List V) (v:Value) (us:List Value) (Q:VK),Inv X pins σ H s->aP x v->aC xs us->r x xs H Q->
  wpAny (model X.prog X.w) X.A (call (.builtin id) (v::us)) (EP X pins σ Q) X.xe s
section
variable {X:Cx}{a b:Expr}{ta tb:TE}{pos:Pos}
theorem IxR.or {r r':R2} (h:IxR X r) (h':IxR X r'):IxR X (λx y H Q=>r x y H Q\/r' x y H Q):=by
 intro value slice pins s σ H x y v u Q I rx ry q hs
 rcases q with q | q
 ·exact h value slice pins s σ H x y v u Q I rx ry q hs
 ·exact h' value slice pins s σ H x y v u Q I rx ry q hs
theorem MtR.or {id:String}{r r':V->List V->Hp->VK->Prop} (h:MtR X id r) (h':MtR X id r'):MtR X id (λx xs H Q=>r x xs H Q\/r' x xs H Q):=by
 intro pins s σ H x xs v us Q I rx rs q
 rcases q with q | q
 ·exact h pins s σ H x xs v us Q I rx rs q
 ·exact h' pins s σ H x xs v us Q I rx rs q
theorem qc {r:R2} (hr:IxR X r) (ha:PE X a ta) (hb:PE X b tb) (hs:jW b):PE X (.Subscript a b pos) (tOp r ta tb):=by
 intro pins s σ H Q I h
 exact Subscript_ (ql ha hb I h λv u s2 x y H2 I2 rx ry q=>hr a b pins s2 σ H2 x y v u Q I2 rx ry q (hs _ _))
noncomputable def tw (K:PySem.W.Frag):R2:=λx y H Q=>∃ p xs i v,x=.ref p/\y=.int i/\SqL K H p xs/\atI xs i=some v/\Q v H
noncomputable def sE (K:PySem.W.Frag):R2:=λx y H Q=>∃ p xs i v,x=.ref p/\y=.int i/\SqT K H p xs/\atI xs i=some v/\Q v H
noncomputable def su:R2:=λx y H Q=>∃ z i c,x=.str z/\y=.int i/\z.length<=sizeLine/\atI z.cps.toList i=some c/\Q (.str ⟨#[c]⟩) H
theorem pU:IxR X (tw X.K):=by
 intro value slice pins s σ H x y v u Q I rx ry h hs
 obtain⟨p,xs,i,z,rfl,rfl,hq,he,q⟩:=h
 cases rx
 obtain⟨t,rfl⟩:=ry
 obtain⟨its,r,pl,hz⟩:=I.list hq
 obtain⟨j,h1,h2,h3,h4,h5⟩:=jP he
 obtain⟨w,ew,rw'⟩:=r.get h2
 have hl:=r.length
 have hn:=fA
 have fin:EP X pins σ Q w s:=⟨z,H,I,rw',q⟩
 by_cases h0:0<=i
 ·have hj:i.toNat=j:=by
   rw [seqIndex_of h0 h5] at h1
   exact Option.some.inj h1
  exact item_listR pl.isList h0 (by lia) (by rw [hj];simpa using ew) fin hs
 ·have hj:(i+(its.toArray.size:Int)).toNat=j:=by
   rw [seqIndex_neg (by lia) h4] at h1
   rw [List.size_toArray,<-hl]
   exact Option.some.inj h1
  exact subscriptTail_builtinR (x:=w) pl.isList.typeIs slot_list_getitem.lookup
   (wpAny_getItem_list_neg (Q:=λr s'=>r=w/\EP X pins σ Q r s') pl.isList (by lia) (by rw [List.size_toArray]<;>lia) (by lia) (by rw [hj];simpa using ew) ⟨rfl,fin⟩) hs
theorem qt:IxR X (sE X.K):=by
 intro value slice pins s σ H x y v u Q I rx ry h hs
 obtain⟨p,xs,i,z,rfl,rfl,hq,he,q⟩:=h
 cases rx
 obtain⟨t,rfl⟩:=ry
 obtain⟨its,r,pl,hz⟩:=I.tuple hq
 obtain⟨j,h1,h2,h3,h4,h5⟩:=jP he
 obtain⟨w,ew,rw'⟩:=r.get h2
 have hl:=r.length
 have hn:=fA
 have fin:EP X pins σ Q w s:=⟨z,H,I,rw',q⟩
 exact subscriptTail_builtinR (x:=w) pl.typeIs slot_tuple_getitem.lookup
  (getItem_tuple (j:=j) (Q:=λr s'=>r=w/\EP X pins σ Q r s') pl (by lia) (by lia) (by rw [List.size_toArray,<-hl];exact h1) (by simpa using ew) ⟨rfl,fin⟩) hs
theorem rc:IxR X su:=by
 intro value slice pins s σ H x y v u Q I rx ry h hs
 obtain⟨z,i,c,rfl,rfl,hz,he,q⟩:=h
 obtain⟨t,rfl⟩:=rx
 obtain⟨t',rfl⟩:=ry
 obtain⟨j,h1,h2,h3,h4,h5⟩:=jP he
 have hl:z.cps.toList.length=z.length:=by simp [Str.length]
 rw [hl] at h1 h4 h5
 have hn:=fA
 exact tail_any (typeIs_str s z t) slot_str_getitem.lookup (getItem_str (c:=c) (by
  have e1:decide (i < -(2 ^ 63:Int))=false:=decide_eq_false (by lia)
  have e2:decide (i>=2 ^ 63)=false:=decide_eq_false (by lia)
  rw [e1,e2,Bool.or_false]) (by rw [h1];simpa using h2) ⟨.str ⟨#[c]⟩,H,I.tok _,⟨_,rfl⟩,q⟩) hs
noncomputable def rIx (K:PySem.W.Frag):R2:=λx y H Q=>tw K x y H Q\/sE K x y H Q\/su x y H Q
theorem nS:IxR X (rIx X.K):=pU.or (qt.or rc)
theorem lE (its:List Value) (n j:Nat) (u:Value):Obj.mapSeq (·.setIfInBounds j u) { cls:=.type "list",data:=.seq its.toArray n }={ cls:=.type "list",data:=.seq (its.set j u).toArray n }:=by
 simp [Obj.mapSeq]
theorem Inv.lst {pins:List (Addr×Obj)}{σ:St}{H:Hp}{s:Shared}{p:Addr}{xs:List V} (I:Inv X pins σ H s) (h:H p=some (.lst xs)) :
  ∃ (its:List Value) (n:Nat),aC xs its/\s.heap.get? p=some { cls:=.type "list",data:=.seq its.toArray n }/\xs.length<=sizeLine:=by
 obtain⟨z,its,n,r,e⟩:=I.hok p _ h
 exact⟨its,n,r,e,z⟩
theorem Inv.lstUpd {pins:List (Addr×Obj)}{σ:St}{H:Hp}{s:Shared}{p:Addr}{xs ys:List V}{its its':List Value}{n n':Nat}{f:Obj->Obj} (I:Inv X pins σ H s) (h:H p=some (.lst xs))
  (ho:s.heap.get? p=some { cls:=.type "list",data:=.seq its.toArray n }) (hf:f { cls:=.type "list",data:=.seq its.toArray n }={ cls:=.type "list",data:=.seq its'.toArray n' }) (r:aC ys its') (hz:ys.length<=sizeLine) (t:Nat) :
  Inv X pins σ (upd H p (.lst ys)) { s with heap:=s.heap.update p f,toks:=t }:=by
 have e:(s.heap.update p f).get? p=some { cls:=.type "list",data:=.seq its'.toArray n' }:=by
  rw [Heap.get?_update_self f ho (by rw [hf]<;>rfl),hf]
 refine I.write (x:=p) (e:=p) (by rw [h];trivial) (.inl rfl) (λb u hb q=>(Heap.get?_update_other _ _ (Ne.symm hb)).trans q) ⟨_,e⟩ ?_
 exact⟨hz,its',n',r,e⟩
noncomputable def tF:V->V->V->Hp->(Hp->Prop)->Prop:=λo i v H Q=>∃ p xs k j,o=.ref p/\i=.int k/\H p=some (.lst xs)/\ixN xs.length k=some j/\Q (upd H p (.lst (xs.set j v)))
theorem nK:sO X tF:=by
 intro pins s σ H o i v ov iv u Q I ro ri rv h
 obtain⟨p,xs,k,j,rfl,rfl,hp,hj,q⟩:=h
 cases ro
 obtain⟨t,rfl⟩:=ri
 obtain⟨its,n,r,ho,hz⟩:=I.lst hp
 obtain⟨h1,h2,h3,h4⟩:=lU hj
 have hl:=r.length
 have hn:=fA
 have I':Inv X pins σ (upd H p (.lst (xs.set j v))) { s with heap:=s.heap.update p (Obj.mapSeq (·.setIfInBounds j u)) }:=
  I.lstUpd hp ho (lE its n j u) (r.set rv j) (by rw [List.length_set];exact hz) s.toks
 by_cases h0:0<=k
 ·have hk:k.toNat=j:=by
   rw [seqIndex_of h0 h4] at h1
   exact Option.some.inj h1
  exact PySem.W.ki_setAt ho h0 (by lia) (by rw [List.size_toArray,<-hl];exact h4) (by rw [hk];exact⟨_,I',q⟩)
 ·have hk:(k+(its.toArray.size:Int)).toNat=j:=by
   rw [seqIndex_neg (by lia) h3] at h1
   rw [List.size_toArray,<-hl]
   exact Option.some.inj h1
  exact PySem.W.ki_setBack ho (by lia) (by rw [List.size_toArray,<-hl];exact h3) (by lia) (by rw [hk];exact⟨_,I',q⟩)
noncomputable def dy:V->Bool
 | .non=>true
 | .bl _=>true
 | .int _=>true
 | .str _=>true
 | _=>false
noncomputable def eqV:V->V->Bool
 | .non,.non=>true
 | .bl a,.bl b=>a==b
 | .bl a,.int b=>(if a then 1 else 0)==b
 | .int a,.bl b=>a==(if b then 1 else 0)
 | .int a,.int b=>a==b
 | .str a,.str b=>a==b
 | _,_=>false
theorem lI {A:Around}{s:Shared}{y x:V}{u v:Value} (ry:aP y u) (rx:aP x v) (fy:dy y=true) (fx:dy x=true):SeqAt.EqAt A s u v (eqV y x):=by
 cases y with
 | non=>
  cases ry
  cases x with
  | non=>cases rx;exact SeqAt.EqAt.same _
  | bl b=>cases rx;exact SeqAt.EqAt.none_bool b
  | int b=>obtain⟨t,rfl⟩:=rx;exact SeqAt.EqAt.none_int b t
  | str b=>obtain⟨t,rfl⟩:=rx;exact SeqAt.EqAt.none_str b t
  | _=>exact absurd (show false=true from fx) Bool.false_ne_true
 | bl a=>
  cases ry
  cases x with
  | non=>cases rx;exact SeqAt.EqAt.bool_none a
  | bl b=>cases rx;exact SeqAt.EqAt.bool_bool a b
  | int b=>obtain⟨t,rfl⟩:=rx;exact SeqAt.EqAt.bool_int a b t
  | str b=>obtain⟨t,rfl⟩:=rx;exact SeqAt.EqAt.bool_str a b t
  | _=>exact absurd (show false=true from fx) Bool.false_ne_true
 | int a=>
  obtain⟨t',rfl⟩:=ry
  cases x with
  | non=>cases rx;exact SeqAt.EqAt.int_none a t'
  | bl b=>cases rx;exact SeqAt.EqAt.int_bool a t' b
  | int b=>obtain⟨t,rfl⟩:=rx;exact SeqAt.EqAt.int_int a t' b t
  | str b=>obtain⟨t,rfl⟩:=rx;exact SeqAt.EqAt.int_str a t' b t
  | _=>exact absurd (show false=true from fx) Bool.false_ne_true
 | str a=>
  obtain⟨t',rfl⟩:=ry
  cases x with
  | non=>cases rx;exact SeqAt.EqAt.str_none a t'
  | bl b=>cases rx;exact SeqAt.EqAt.str_bool a t' b
  | int b=>obtain⟨t,rfl⟩:=rx;exact SeqAt.EqAt.str_int a t' b t
  | str b=>obtain⟨t,rfl⟩:=rx;exact SeqAt.EqAt.str_str a t' b t
  | _=>exact absurd (show false=true from fx) Bool.false_ne_true
 | _=>exact absurd (show false=true from fy) Bool.false_ne_true
noncomputable def eqU (x:V) (u:Value):Bool:=match u with
 | .none=>eqV .non x
 | .bool b=>eqV (.bl b) x
 | .int i _=>eqV (.int i) x
 | .str z _=>eqV (.str z) x
 | _=>false
theorem nH {x y:V}{u:Value} (r:aP y u) (f:dy y=true):eqU x u=eqV y x:=by
 cases y with
 | non=>cases r;rfl
 | bl b=>cases r;rfl
 | int i=>obtain⟨t,rfl⟩:=r;rfl
 | str z=>obtain⟨t,rfl⟩:=r;rfl
 | _=>exact absurd (show false=true from f) Bool.false_ne_true
theorem fS {x:V}:∀ {xs:List V}{us:List Value},aC xs us->xs.all dy=true->us.any (eqU x)=xs.any λy=>eqV y x
 | _,_,.nil,_=>rfl
 | y::xs,u::us,.cons r t,f=>by
  rw [List.all_cons,Bool.and_eq_true] at f
  rw [List.any_cons,List.any_cons,nH r f.1,fS t f.2]
theorem eH {A:Around}{s:Shared}{x:V}{v:Value} (rx:aP x v) (fx:dy x=true):∀ {xs:List V}{us:List Value},aC xs us->xs.all dy=true->∀ u ∈ us,SeqAt.EqAt A s u v (eqU x u)
 | _,_,.nil,_=>λu hu=>by cases hu
 | y::xs,u::us,.cons r t,f=>λu' hu=>by
  rw [List.all_cons,Bool.and_eq_true] at f
  rcases List.mem_cons.mp hu with rfl | hu
  ·rw [nH r f.1];exact lI r rx f.1 fx
  ·exact eH rx fx t f.2 u' hu
noncomputable def inV (x:V) (xs:List V):Bool:=xs.any λy=>eqV y x
noncomputable def rIn (K:PySem.W.Frag) (neg:Bool):R2:=λx y H Q=>∃ p xs,y=.ref p/\(SqL K H p xs\/SqT K H p xs)/\dy x=true/\xs.all dy=true/\Q (.bl (if neg then !inV x xs else inV x xs)) H
theorem mx:OpR X (compareOp .In) (rIn X.K false):=by
 intro pins s σ H x y v u Q I rx ry h
 obtain⟨p,xs,rfl,hq,fx,fs,q⟩:=h
 cases ry
 rcases hq with hq | hq
 ·obtain⟨its,r,pl,hz⟩:=I.list hq
  refine SeqAt.in_listAt (eqU x) pl.isList (λw hw=>eH rx fx r fs w (by simpa using hw)) ⟨.bl _,H,I,rfl,?_⟩
  rw [show its.toArray.any (eqU x)=its.any (eqU x) by simp,fS r fs]
  exact q
 ·obtain⟨its,r,pl,hz⟩:=I.tuple hq
  refine SeqAt.in_tupleAt (eqU x) pl (λw hw=>eH rx fx r fs w (by simpa using hw)) ⟨.bl _,H,I,rfl,?_⟩
  rw [show its.toArray.any (eqU x)=its.any (eqU x) by simp,fS r fs]
  exact q
theorem j8:OpR X (compareOp .NotIn) (rIn X.K true):=by
 intro pins s σ H x y v u Q I rx ry h
 obtain⟨p,xs,rfl,hq,fx,fs,q⟩:=h
 cases ry
 rcases hq with hq | hq
 ·obtain⟨its,r,pl,hz⟩:=I.list hq
  refine SeqAt.notIn_listAt (eqU x) pl.isList (λw hw=>eH rx fx r fs w (by simpa using hw)) ⟨.bl _,H,I,rfl,?_⟩
  rw [show its.toArray.any (eqU x)=its.any (eqU x) by simp,fS r fs]
  exact q
 ·obtain⟨its,r,pl,hz⟩:=I.tuple hq
  refine SeqAt.notIn_tupleAt (eqU x) pl (λw hw=>eH rx fx r fs w (by simpa using hw)) ⟨.bl _,H,I,rfl,?_⟩
  rw [show its.toArray.any (eqU x)=its.any (eqU x) by simp,fS r fs]
  exact q
theorem jY:cx X (.builtin "len") (λxs H Q=>∃ p ys,xs=[.ref p]/\(SqL X.K H p ys\/SqT X.K H p ys)/\Q (.int ys.length) H):=by
 intro pins s σ H xs us Q I r h
 obtain⟨p,ys,rfl,hq,q⟩:=h
 obtain⟨u,rfl,rx⟩:=fo r
 cases rx
 have hn:=fA
 rcases hq with hq | hq
 ·obtain⟨its,r',pl,hz⟩:=I.list hq
  have hlen:=r'.length
  exact Calls.call_len_list pl.isList (by simp only [List.size_toArray]<;>lia) ⟨.int ys.length,H,I.tok _,⟨s.toks+1,by rw [List.size_toArray,hlen]⟩,q⟩
 ·obtain⟨its,r',pl,hz⟩:=I.tuple hq
  have hlen:=r'.length
  exact len_tuple pl (by simp only [List.size_toArray]<;>lia) ⟨.int ys.length,H,I.tok _,⟨s.toks+1,by rw [List.size_toArray,hlen]⟩,q⟩
theorem jR:cx X (.builtin "len") (λxs H Q=>∃ z,xs=[.str z]/\z.length<=sizeLine/\Q (.int z.length) H):=by
 intro pins s σ H xs us Q I r h
 obtain⟨z,rfl,hz,q⟩:=h
 obtain⟨u,rfl,t,rfl⟩:=fo r
 have hn:=fA
 exact len_str (by lia) ⟨.int z.length,H,I.tok _,⟨_,rfl⟩,q⟩
theorem cx.or {f:Value}{r r':List V->Hp->VK->Prop} (h:cx X f r) (h':cx X f r'):cx X f (λxs H Q=>r xs H Q\/r' xs H Q):=by
 intro pins s σ H xs us Q I rs q
 rcases q with q | q
 ·exact h pins s σ H xs us Q I rs q
 ·exact h' pins s σ H xs us Q I rs q
theorem iG:cx X (.type "tuple") (λxs H Q=>∃ p ys,xs=[.ref p]/\((SqL X.K H p ys/\∀ l,H l=none->Q (.ref l) (upd H l (.tup ys)))\/(SqT X.K H p ys/\Q (.ref p) H))):=by
 intro pins s σ H xs us Q I r h
 obtain⟨p,ys,rfl,h⟩:=h
 obtain⟨u,rfl,rx⟩:=fo r
 cases rx
 rcases h with⟨hq,q⟩ | ⟨hq,q⟩
 ·obtain⟨its,r',pl,hz⟩:=I.list hq
  have hlen:=r'.length
  refine call_tuple_list pl.isList (λh' kp=>?_) (by simp only [List.size_toArray]<;>lia)
  have I1:Inv X pins σ H { s with heap:=h' }:=I.kept (t':=s.toks) kp
  have I2:Inv X pins σ (upd H h'.objs.size (.tup ys)) { s with heap:=h'.push { cls:=.type "tuple",data:=.seq its.toArray } }:=
   I1.laid (t':=s.toks) (λb o e=>Heap.get?_push_of_some _ e) (Nat.le_refl _) (show cw X.prog X.w _ _ _ (.tup ys) from ⟨hz,its,r',eD.new _ _⟩)
  exact⟨.ref h'.objs.size,_,I2,rfl,q _ (I1.hok.fresh (Nat.le_refl _))⟩
 ·obtain⟨its,r',pl,hz⟩:=I.tuple hq
  exact call_tuple_same pl ⟨.ref p,H,I,rfl,q⟩
noncomputable def tyV (K:PySem.W.Frag) (T:String) (x:V) (H:Hp):Prop:=match x with
 | .str _=>T = "str"
 | .int _=>T = "int"
 | .ref p=>(T = "list"/\∃ xs,SqL K H p xs)\/(T = "tuple"/\((∃ o,K.lookup p=some o/\o.cls=.type "tuple"/\o.dict=none)\/∃ xs,SqT K H p xs))\/
   (T = "dict"/\((∃ kvs,H p=some (.dK kvs))\/∃ kvs,H p=some (.dT kvs)))\/(T = "set"/\∃ S n,H p=some (.set S n))
 | _=>False
theorem rp {pins:List (Addr×Obj)}{σ:St}{H:Hp}{s:Shared}{T:String}{x:V}{v:Value} (I:Inv X pins σ H s) (r:aP x v) (ty:tyV X.K T x H) :
  s.TypeIs v T/\∀ a,v=.ref a->∃ ob,s.heap.get? a=some ob/\ob.dict=none:=by
 cases x with
 | str z=>
  obtain⟨t,rfl⟩:=r
  cases (show T = "str" from ty)
  exact⟨typeIs_str s z t,λ_ e=>nomatch e⟩
 | int i=>
  obtain⟨t,rfl⟩:=r
  cases (show T = "int" from ty)
  exact⟨typeIs_int s i t,λ_ e=>nomatch e⟩
 | ref p=>
  cases r
  rcases ty with⟨rfl,xs,hq⟩ | ⟨rfl,ht⟩ | ⟨rfl,hk⟩ | ⟨rfl,S,n,hk⟩
  ·obtain⟨its,_,pl,_⟩:=I.list hq
   refine⟨pl.isList.typeIs,λa e=>?_⟩
   cases e
   obtain⟨o,n,e,c,hd,_⟩:=pl
   exact⟨o,e,hd⟩
  ·have z:∃ o:Obj,s.heap.get? p=some o/\o.cls=.type "tuple"/\o.dict=none:=by
    rcases ht with⟨o,hk,hc,hd⟩ | ⟨xs,hq⟩
    ·exact⟨o,I.kIn p o hk,hc,hd⟩
    ·exact I.tuple1 hq
   obtain⟨o,e1,hc,hd⟩:=z
   refine⟨⟨o,e1,hc⟩,λa e=>?_⟩
   cases e
   exact⟨o,e1,hd⟩
  ·have z:∃ o,s.heap.get? p=some o/\o.ExactDict:=by
    rcases hk with⟨kvs,hk⟩ | ⟨kvs,hk⟩
    ·obtain⟨_,_,_,_,o,_,_,e,ex,_⟩:=I.hok p _ hk
     exact⟨o,e,ex⟩
    ·obtain⟨_,_,_,_,o,_,_,e,ex,_⟩:=I.hok p _ hk
     exact⟨o,e,ex⟩
   obtain⟨o,e,ex⟩:=z
   refine⟨⟨o,e,ex.1⟩,λa e2=>?_⟩
   cases e2
   exact⟨o,e,ex.2.1⟩
  ·obtain⟨o,_,_,_,e,ex,_⟩:=I.hok p _ hk
   refine⟨⟨o,e,ex.1⟩,λa e2=>?_⟩
   cases e2
   exact⟨o,e,ex.2.1⟩
 | _=>exact False.elim ty
noncomputable def tBM (K:PySem.W.Frag) (T:String) (r:V->List V->Hp->VK->Prop) (to:TE) (t:TA):TE:=λσ H Q=>to σ H λx H1=>tyV K T x H1/\t σ H1 λxs H2=>r x xs H2 Q
variable {o e:Expr}{es:List Expr}{to:TE}{t:TA}{name:Str}{apos cpos:Pos}{T id:String}{r:V->List V->Hp->VK->Prop}
theorem nD (pa:PlainAttrs T) (slot:Slot T name id) (hty:typeOf (.builtin id)=pure (.type "method_descriptor")) (hm:MtR X id r) (ho:PE X o to) (ha:PA X (e::es) t)
  (hbase:attributeBase o name X.env (eval o X.env)=eval o X.env:=by rfl)
  (hfew:((backTo cpos (starEach (e::es) X.env)).all (λx=>!x.1) && (backToKw cpos (keywordEach [] X.env)).all (λx=>x.1.isSome)
    && decide ((e::es).length+([]:List Keyword).length+(if ([]:List Keyword).isEmpty then 0 else 1) < 30))=true:=by rfl)
  (hline:(apos.endLine==cpos.line)=true:=by rfl) (hs:starEach (e::es) X.env=(false,eval e X.env)::starEach es X.env:=by rfl) (hplain:(backTo cpos (starEach es X.env)).any (·.1)=false:=by rfl) :
  PE X (.Call (.Attribute o name apos) (e::es) [] cpos) (tBM X.K T r to t):=by
 intro pins s σ H Q I h
 refine wpAny_Call_method_late hbase hfew hline rfl (thn (ho pins s σ H _ I h) λv s1 ⟨x,H1,I1,r1,ty,q1⟩=>?_)
 obtain⟨h1,h2⟩:=rp I1 r1 ty
 refine⟨T,id,pa,slot,hty,h1,h2,?_⟩
 have hA:=ha cpos pins s1 σ H1 _ I1 q1
 rw [hs] at hA ⊢
 refine Calls.callWith_builtin (by show (false || (backTo cpos (starEach es X.env)).any (·.1))=false;rw [hplain]<;>rfl) (Calls.evalArgs_plain ?_)
 exact thn hA λus s2 ⟨vs,H2,I2,r2,q2⟩=>hm pins s2 σ H2 x vs v us Q I2 r1 r2 q2
end
end L2
namespace L2
open PySem PySem.Spec PyProof.Rows
noncomputable def MtM (X:Cx) (id:String) (r:V->List V->Hp->VK->Prop):Prop:=
 ∀ (pins:List (Addr×Obj)) (s:Shared) (σ:St) (H:Hp) (x:V) (xs:List V) (v:Value) (us:List Value) (Q:VK),Inv X pins σ H s->aP x v->aC xs us->r x xs H Q->
  wpAny (model X.prog X.w) X.A (call (.builtin id) (v::us)) (EP X pins σ Q) X.xe s
theorem aC.one:∀ {x:V}{us:List Value},aC [x] us->∃ u,us=[u]/\aP x u
 | _,_,.cons r .nil=>⟨_,rfl,r⟩
theorem aC.two {x y:V}{us:List Value} (h:aC [x,y] us):∃ u v,us=[u,v]/\aP x u/\aP y v:=by
 cases h with
 | cons r t=>cases t with
  | cons q t2=>cases t2;exact⟨_,_,rfl,r,q⟩
theorem aC.zero:∀ {us:List Value},aC [] us->us=[]
 | _,.nil=>rfl
theorem aC.reverse {xs:List V}{us:List Value} (h:aC xs us):aC xs.reverse us.reverse:=by
 induction h with
 | nil=>exact .nil
 | cons r t ih=>rw [List.reverse_cons,List.reverse_cons];exact aC.append ih (.cons r .nil)
theorem aC.rep {xs:List V}{us:List Value} (h:aC xs us):∀ k:Nat,aC (List.replicate k xs).flatten (List.replicate k us).flatten
 | 0=>.nil
 | k+1=>by
  rw [List.replicate_succ,List.replicate_succ,List.flatten_cons,List.flatten_cons]
  exact aC.append h (aC.rep h k)
theorem gA (its:List Value):∀ (k:Nat) (acc:List Value),
  List.foldl (λx1 x2=>x1++x2) acc.toArray (List.replicate k its.toArray)=(acc++(List.replicate k its).flatten).toArray
 | 0,acc=>by simp
 | k+1,acc=>by
  have e:acc.toArray++its.toArray=(acc++its).toArray:=by simp
  have e2:(acc++its)++(List.replicate k its).flatten=acc++(List.replicate (k+1) its).flatten:=by
   rw [List.replicate_succ,List.flatten_cons,List.append_assoc]
  rw [<-e2,<-gA its k (acc++its),<-e,List.replicate_succ,List.foldl_cons]
section
variable {X:Cx}{pins:List (Addr×Obj)}{σ:St}{H:Hp}{s:Shared}{l b:Addr}{xs ys zs:List V}
theorem Inv.lset {its its':List Value}{n:Nat}{f:Array Value->Array Value}{t':Nat} (I:Inv X pins σ H s) (hH:H l=some (.lst xs))
  (e:s.heap.get? l=some { cls:=.type "list",data:=.seq its.toArray n }) (hf:f its.toArray=its'.toArray) (hv:aC ys its') (hz:ys.length<=sizeLine) :
  Inv X pins σ (upd H l (.lst ys)) { s with heap:=s.heap.update l (Obj.mapSeq f),toks:=t' }:=by
 have q:=PySem.IsL.update e f
 rw [hf] at q
 refine I.write (x:=l) (e:=l) (by rw [hH];exact trivial) (.inl rfl) (λb' u hb hu=>(Heap.get?_update_other s.heap (Obj.mapSeq f) (Ne.symm hb)).trans hu) ⟨_,q⟩ ?_
 exact⟨hz,its',_,hv,q⟩
theorem Inv.lnew {its:List Value}{t':Nat} (I:Inv X pins σ H s) (hv:aC ys its) (hz:ys.length<=sizeLine) :
  Inv X pins σ (upd H s.heap.objs.size (.lst ys)) { s with heap:=s.heap.push { cls:=.type "list",data:=.seq its.toArray },toks:=t' }:=
 I.laid (λ_ _ q=>Heap.get?_push_of_some _ q) (Nat.le_refl _) ⟨hz,its,0,hv,Heap.get?_push_size _ rfl⟩
theorem Inv.fresh (I:Inv X pins σ H s):H s.heap.objs.size=none:=I.hok.fresh (Nat.le_refl _)
theorem Inv.lstM (I:Inv X pins σ H s) (hH:H l=some (.lst xs)):xs.length<=sizeLine/\∃ (its:List Value) (n:Nat),aC xs its/\xs.length=its.length/\s.heap.get? l=some { cls:=.type "list",data:=.seq its.toArray n }:=by
 obtain⟨z,its,n,r,e⟩:=I.hok l _ hH
 exact⟨z,its,n,r,r.length,e⟩
theorem nL {n:Nat} (h:n<=sizeLine):Builtin.List.listTooLong n=false:=by
 unfold Builtin.List.listTooLong
 exact decide_eq_false (by lia)
end
section
variable {X:Cx}
noncomputable def o8:V->List V->Hp->VK->Prop:=λx vs H Q=>∃ l xs y,x=.ref l/\vs=[y]/\H l=some (.lst xs)/\xs.length < sizeLine/\Q .non (upd H l (.lst (xs++[y])))
theorem mO:MtM X "list.append" o8:=by
 intro pins s σ H x vs v us Q I rx rv h
 obtain⟨l,xs,y,rfl,rfl,hH,hz,q⟩:=h
 cases rx
 obtain⟨u,rfl,ru⟩:=rv.one
 obtain⟨z,its,n,r,hl,e⟩:=I.lstM hH
 refine call_meets F.slot_list_append ⟨_,e,rfl⟩ F.entry_list_append (F.args_list_append_2 _ _) (PySem.list_append l its.toArray n u (by rw [List.size_toArray];lia)) ⟨e,?_⟩
 refine⟨.non,_,I.lset (its':=its++[u]) hH e (by simp) (r.append (.cons ru .nil)) ?_,rfl,q⟩
 rw [List.length_append,List.length_singleton]
 lia
theorem jq {α:Type} (xs:List α) (k:Nat):(List.replicate k xs).flatten.length=k*xs.length:=by
 induction k with
 | zero=>simp
 | succ k ih=>rw [List.replicate_succ,List.flatten_cons,List.length_append,ih,Nat.succ_mul,Nat.add_comm]
end
section
variable {prog:Program}{w:World}{A:Around}{E:Value->Shared->Prop}{s:Shared}
end
section
variable {X:Cx}
end
end L2
namespace Att
open PySem PySem.W PySem.Calls PyProof.Rows
theorem gK {P:Params}{h:Heap}:∀ (ns:List Int) (vs:List Value),WellAll P h vs (ns.map WData.int)->IntsAre vs ns:=by
 intro ns
 induction ns with
 | nil=>
  intro vs w
  rw [List.map_nil] at w
  cases w
  exact .nil
 | cons n ns ih=>
  intro vs w
  rw [List.map_cons] at w
  cases w with
  | cons a b=>
   cases a
   exact .cons _ _ (ih _ b)
theorem my {l:OpenLaw}{n:Nat} (hn:l.most=some n) {P:Params}{h:Heap}{args:List WData}{vals:List Value}
  (hpre:l.row.toRowW.claim.pre args=true) (hwl:WellAll P h vals args) :
  ∃ a vs ns,vals=[Value.ref a]/\args=[WData.list (ns.map WData.int)]/\h.get? a=some { cls:=.type "list",data:=.seq vs.toArray }/\IntsAre vs ns/\ns.length<=n:=by
 have hsh:WShape.hasAll [] args [.list .int]=true:=(pre_splitW hpre).1
 have hc:l.pre.holds [] { args:=args }=true:=(pre_splitW hpre).2
 obtain⟨d,r,rfl,h1,h2⟩:=hasAllW_cons hsh
 obtain rfl:=hasAllW_nil h2
 obtain⟨xs,rfl,h3⟩:=hasW_list h1
 obtain⟨ns,rfl⟩:=items_int h3
 have hlen:ns.length<=n:=by
  unfold OpenLaw.pre at hc
  have h4:(WTm.not (.lt (.lit (.int (n:Int))) (.len (.arg 0)))).holds [] { args:=[.list (ns.map .int)] }=true:=by
   have h4:=(holds_andW hc).1
   rw [hn] at h4
   exact h4
  have h5:=condW_of h4 (w_not (w_lt w_lit (w_len_list (w_arg rfl))))
  rw [List.length_map] at h5
  refine Nat.le_of_not_lt λq=>?_
  have q':(n:Int) < ((ns.length:Nat):Int):=by lia
  first
   | (rw [decide_eq_true q'] at h5;exact absurd h5 (by decide))
   | (simp at h5;lia)
 cases hwl with
 | cons w1 w2=>
  cases w2
  cases w1 with
  | list ho hall=>exact⟨_,_,ns,rfl,rfl,ho,gK ns _ hall,hlen⟩
theorem mP (l:OpenLaw) (args:List WData):l.row.toRowW.claim.post args (.bool true) args=true:=
 postW_of (r:=l.row.toRowW) (X:=(true==true))
  (show WShape.has [] (.bool true) .bool=true by first | rfl | decide | simp [WShape.has,WShape.arms,WShape.armsAll])
  (show (WTm.eq .res (.lit (.bool true))).value [] { args:=args,res:=some (.bool true),after:=args }=some (.bool (true==true)) from w_eq_bool (w_res rfl) w_lit) rfl
theorem attach_call {l:OpenLaw}{n:Nat}{q:Program}{loose:List Str}{XP:(Str->Option Value)->Heap->Prop}{YP:World->Heap->Prop}{d:DefRec}
  (hn:l.most=some n) (hdf:d.params.defaults=[])
  (call:∀ (w:World) (s₀ s₁:Shared) (mg mb:Str->Option Value) (fa:Addr) (o:Obj) (pm cd doc:Value) (a:Addr) (vs:List Value) (ns:List Int),
    Ground q loose [] XP w s₀ mg mb s₁.heap->YP w s₁.heap->
    s₁.heap.get? fa=some o->o.data=.func (docDef d.name d.params d.body d.scope pm cd doc)->s₁.heap.CodeRec cd d.name->mg d.name=some (.ref fa)->
    s₁.heap.get? a=some { cls:=.type "list",data:=.seq vs.toArray }->IntsAre vs ns->ns.length<=n->s₁.gens=#[]->
    codeAny (model l.prog w) callerA (.call (.ref fa) ⟨[.ref a],[]⟩) (λr s'=>r=.ok (.ret (.bool true))/\OldK s₁.heap s'.heap/\s'.os=s₁.os/\AllBare s'.gens) s₁) :
  WalkO q loose XP YP l.row.toRowW d [] (λf vs=>PySem.call f vs):=by
 intro w s₀ s₁ mg mb G Y fa o pm cd doc dV kV ho hd hcd hD hmg hg args vals as hpre hlay hrd hwl hlo
 obtain rfl:dV=.none:=Dflts.none hD hdf
 obtain rfl:kV=.none:=Dflts.noKw hD
 obtain⟨a,vs,ns,rfl,rfl,hobj,hints,hlen⟩:=my hn hpre hwl
 refine enter_call (codeAny_mono (call w s₀ s₁ mg mb fa o pm cd doc a vs ns G Y ho (fd_plain hd) hcd hmg hobj hints hlen hg) λr s' hq=>?_)
 obtain⟨rfl,h2,h3,h4⟩:=hq
 exact⟨.inl ⟨.bool true,.bool true,[],rfl,λ_=>rfl,.bool true,mP l _,λ_=>⟨List.Pairwise.nil,λ_ hm=>(nomatch hm)⟩⟩,h2,h3,h4⟩
section
variable {prog:Program}{w:World}{A:Around}{E:Value->Shared->Prop}{s:Shared}{K:Frag}
noncomputable def uj (h:Heap) (L d:Addr):List (Addr×Obj):=(List.range h.objs.size).filterMap λa=>if a=L\/a=d then none else (h.get? a).map λo=>(a,o)
end
end Att
namespace L2
open PySem PySem.Spec PyProof.Rows
theorem i9:∀ {vs:List Value}{ns:List Int},IntsAre vs ns->aC (ns.map V.int) vs
 | _,_,.nil=>.nil
 | _,_,.cons n t h=>.cons ⟨t,rfl⟩ (i9 h)
noncomputable def pp (H:Hp):Prop:=∀ b,H b=none\/∃ o xs,H b=some (.frz o (.lst xs))
theorem oF {P:Program}{w:World}{K:PySem.W.Frag}{mg mb:Str->Option Value}{CX:CXT}{k:Nat}{fa a:Addr}{fd:FuncData}{x:Str}{sp:Sp}{s₁:Shared}{vs:List Value}{ns:List Int}
  (KX:K.In s₁.heap) (hns:s₁.heap.Ns mainGlobals mg) (hb:s₁.heap.Ns builtinsNs mb) (hbb:∀ x:Str,x≠"__name__"->mb x=bootBuiltins x) (hlim:s₁.heap.NoLimit) (hg:s₁.gens=#[])
  (ha:s₁.heap.get? a=some { cls:=.type "list",data:=.seq vs.toArray }) (hi:IntsAre vs ns) (hl:ns.length<=sizeLine) (hr:bO k callerA)
  (F:∀ base:Heap,K.In base->base.Ns mainGlobals mg->bp P w K mg base CX k fa fd [x] sp) (hbind:∀ (s:Shared) (u:Value),BindsTo s fd ⟨[u],[]⟩ [(x,u)])
  (hsp:∀ H:Hp,pp H->SqL K H a (ns.map V.int)->sp [.ref a] H (λv _=>v=.bl true) λ_ _ _=>False)
  (hCX:∀ H e s',CX [] H s₁ (λ_ _ _=>False) e s'->False) :
  codeAny (model P w) callerA (.call (.ref fa) ⟨[.ref a],[]⟩) (λr s'=>r=.ok (.ret (.bool true))/\OldK s₁.heap s'.heap/\s'.os=s₁.os/\AllBare s'.gens) s₁:=by
 have rv:=i9 hi
 have tK:=hi.length
 -- from an abstract heap in which nothing but the script may be tracked
 have core:∀ H:Hp,pp H->SqL K H a (ns.map V.int)->HOk P w H s₁.heap->(∀ b,H b≠none->b=a)->(H a≠none->K.lookup a=none)->
   codeAny (model P w) callerA (.call (.ref fa) ⟨[.ref a],[]⟩) (λr s'=>r=.ok (.ret (.bool true))/\OldK s₁.heap s'.heap/\s'.os=s₁.os/\AllBare s'.gens) s₁:=by
  intro H hO hS hok hA hK
  have base_of:∀ {b:Addr}{o:Obj},s₁.heap.get? b=some o->H b=none->(jA s₁.heap H).get? b=some o:=λe n=>nX e n
  have noA:∀ {b:Addr}{o:Obj}{es:Array DictEntry}{ep:Nat},s₁.heap.get? b=some o->o.data=.dict es ep->H b=none:=λ{b o es ep} e d=>by
   cases q:H b with
   | none=>rfl
   | some u=>
    have e':b=a:=hA b (by rw [q];simp)
    subst e'
    rw [ha] at e;cases e
    have d':Data.seq vs.toArray _=Data.dict es ep:=d
    cases d'
  have nsK:∀ {b:Addr}{m:Str->Option Value},s₁.heap.Ns b m->(jA s₁.heap H).Ns b m:=λ{b m} ⟨o,es,ep,e,d,r⟩=>⟨o,es,ep,base_of e (noA e d),d,r⟩
  have hKb:K.In (jA s₁.heap H):=λb o e=>base_of (KX b o e) (by
   cases q:H b with
   | none=>rfl
   | some u=>
    have e':b=a:=hA b (by rw [q];simp)
    subst e'
    rw [hK (by rw [q];simp)] at e;cases e)
  have hM:Mod K mg (jA s₁.heap H):=⟨hKb,nsK hns,⟨mb,nsK hb,hbb⟩,let ⟨mc,h1,h2⟩:=hlim;⟨mc,nsK h1,h2⟩⟩
  have e0:lJ P w K mg (jA s₁.heap H) callerA [] s₁ H:=⟨rfl,hM,λb o e=>ph e,Nat.le_of_eq (mW _ _),trivial,λb hb=>absurd (show b ∈ ([]:List Addr) from hb) (by simp),hok,.of_eq hg⟩
  refine codeAny_mono ((F _ hKb (nsK hns)).run callerA [] s₁ H ⟨[.ref a],[]⟩ [.ref a] [.ref a] _ _ hr e0 (hbind s₁ (.ref a)) (.cons rfl .nil) (hsp H hO hS)) λr s' h=>?_
  cases r with
  | error e=>exact (hCX H e s' h).elim
  | ok fl=>
   cases fl with
   | next=>exact False.elim h
   | brk=>exact False.elim h
   | cont=>exact False.elim h
   | ret u=>
    obtain⟨v,H',os,bare,un,hok',r',q⟩:=h
    have q':v=.bl true:=q
    subst q'
    obtain rfl:u=Value.bool true:=r'
    refine⟨rfl,OldK.of_keep λb o e=>?_,os,bare⟩
    cases q:H b with
    | none=>exact un.keep b o e q (by intro z;exact absurd (show b ∈ ([]:List Addr) from z) (by simp)) (by simp)
    | some u=>
     rcases hO b with z | ⟨ob,xs,z⟩
     ·rw [q] at z;cases z
     ·have z2:=un.frzs b ob _ z
      obtain⟨e1,_⟩:=hok b _ z
      obtain⟨e2,_⟩:=hok' b _ z2
      rw [e] at e1;cases e1
      exact e2
 cases hk:K.lookup a with
 | some o=>
  -- the script is one of the module's own objects
  have e:=KX a o hk
  rw [ha] at e
  cases e
  refine core (λ_=>none) (λ_=>.inl rfl) (.inr ⟨_,vs.toArray,_,hk,rfl,rfl,rfl,by rw [List.size_toArray,tK];exact hl,by simpa using rv⟩) (λb u z=>by have z':(none:Option HO)=some u:=z;cases z') (λb z=>absurd rfl z) λz=>absurd rfl z
 | none=>
  refine core (λb=>if b=a then some (.frz { cls:=.type "list",data:=.seq vs.toArray } (.lst (ns.map V.int))) else none) (λb=>?_) (.inl (.inr ⟨{ cls:=.type "list",data:=.seq vs.toArray },if_pos rfl⟩)) (λb u z=>?_) (λb z=>?_) λ_=>hk
  ·by_cases hb:b=a
   ·exact .inr ⟨_,_,if_pos hb⟩
   ·exact .inl (if_neg hb)
  ·by_cases hb:b=a
   ·have z':=(if_pos hb).symm.trans z
    cases z'
    subst hb
    exact⟨ha,by rw [List.length_map];exact hl,vs,_,rv,ha⟩
   ·have z':=(if_neg hb).symm.trans z
    cases z'
  ·by_cases hb:b=a
   ·exact hb
   ·exact absurd (if_neg hb) z
end L2
namespace L2
open PySem PySem.Spec PyProof.Rows
theorem walk_of {l:PySem.W.OpenLaw}{n k:Nat}{q:Program}{loose:List Str}{XP:(Str->Option Value)->Heap->Prop}{YP:World->Heap->Prop}{d:DefRec}{K:Params->PySem.W.Frag}{CX:World->CXT}{sp:World->Sp}{x:Str}
  (hn:l.most=some n) (hn2:n<=sizeLine) (hdf:d.params.defaults=[]) (hr:bO k callerA)
  (hY:∀ (w:World) (h:Heap),YP w h->(K w.params).In h)
  (F:∀ (w:World) (mg:Str->Option Value) (fa:Addr) (h:Heap),(K w.params).In h->h.Ns mainGlobals mg->mg d.name=some (.ref fa)->
    ∃ fd:FuncData,(∀ (s:Shared) (u:Value),BindsTo s fd ⟨[u],[]⟩ [(x,u)])/\
     ∀ base:Heap,(K w.params).In base->base.Ns mainGlobals mg->bp l.prog w (K w.params) mg base (CX w) k fa fd [x] (sp w))
  (hsp:∀ (w:World) (H:Hp) (a:Addr) (ns:List Int),ns.length<=n->pp H->SqL (K w.params) H a (ns.map V.int)->sp w [.ref a] H (λv _=>v=.bl true) λ_ _ _=>False)
  (hCX:∀ (w:World) (H:Hp) (s:Shared) (e:Value) (s':Shared),CX w [] H s (λ_ _ _=>False) e s'->False) :
  PySem.W.WalkO q loose XP YP l.row.toRowW d [] (λf vs=>PySem.call f vs):=by
 refine Att.attach_call hn hdf λw s₀ s₁ mg mb fa o pm cd doc a vs ns G Y ho hd hcd hmg hobj hints hlen hg=>?_
 have KX:=hY w _ Y
 obtain⟨fd,hb,hF⟩:=F w mg fa _ KX G.T.g hmg
 exact oF KX G.T.g G.T.b G.T.builtins G.T.nolimit hg hobj hints (Nat.le_trans hlen hn2) hr hF hb (λH hO hS=>hsp w H a ns hlen hO hS) λH e s'=>hCX w H s₁ e s'
end L2
namespace L2
open PySem PySem.Spec PyProof.Rows
noncomputable def aU (s:Stmt):Arguments:=match s with
 | .FunctionDef _ a _ _ _ _ _ _ _ _=>a
 | _=>{ posonlyargs:=[],args:=[],vararg:=none,kwonlyargs:=[],kw_defaults:=[],kwarg:=none,defaults:=[] }
noncomputable def aE (s:Stmt):List Stmt:=match s with
 | .FunctionDef _ _ b _ _ _ _ _ _ _=>b
 | _=>[]
noncomputable def ah (s:Stmt):Scope:=match s with
 | .FunctionDef _ _ _ _ _ _ sc _ _ _=>sc
 | _=>{ kind:=.function,names:=[],isGenerator:=false,isCoroutine:=false }
abbrev CX0:CXT:=λ_ _ _ _ _ _=>False
abbrev E0:XK:=λ_ _ _=>False
theorem tu {X:Cx}:lK CX0 X E0:=λ_ _ _ _ _ _ _ h=>h.elim
structure Fun (K:PySem.W.Frag) (x qual:Str) (st:Stmt) (f:Addr) (fd:FuncData):Prop where
 ex:∃ (oc:Value) (od:Option Addr) (kV doc pm:Value) (an:Option Addr) (cdv ct:Value) (osl:Array (Option Value)),
  fd=PySem.W.fnOf x qual (aU st) (aE st) (ah st) .none kV doc pm an cdv ct/\K.lookup f=some ⟨oc,od,.func fd,osl⟩/\PySem.W.codeIn K cdv qual=true
 kp:PySem.W.keepIn K (.ref f)=true
section
variable {P:Program}{w:World}{K:PySem.W.Frag}{mg:Str->Option Value}{base:Heap}
theorem Fun.ok {x qual:Str}{st:Stmt}{f:Addr}{fd:FuncData}{N ps:List Str}{k:Nat}{sp:Sp} (F:Fun K x qual st f fd) (S:aS N ps (ah st)) (len:∀ vs H Q E,sp vs H Q E->vs.length=ps.length)
  (hbody:∀ (cdv:Value) (A:Around) (outer:List Env) (s:Shared) (H:Hp) (vs:List V) (Q:VK) (E:XK),bO k (A.deeper (envOfC qual (ah st) s.heap.objs.size f cdv))->sp vs H Q E->
    ∃ t,PSs (gm CX0 P w K mg base N qual (ah st) f cdv A outer s H E).nox (aE st) t/\t { nx:=λ_ H'=>Q .non H',rt:=Q } (start N vs) H):bp P w K mg base CX0 (k+1) f fd ps sp:=by
 obtain⟨oc,od,kV,doc,pm,an,cdv,ct,osl,rfl,lk,hcd⟩:=F.ex
 refine so lk hcd S len λA outer s H vs Q E hr hsp=>?_
 obtain⟨t,h,q⟩:=hbody cdv A outer s H vs Q E hr hsp
 exact⟨t,h.nox,q⟩
theorem Fun.binds {x qual:Str}{st:Stmt}{f:Addr}{fd:FuncData}{ps:List Str} (F:Fun K x qual st f fd)
  (h:∀ (kV doc pm:Value) (an:Option Addr) (cdv ct:Value) (us:List Value),us.length=ps.length->bindArgs (PySem.W.fnOf x qual (aU st) (aE st) (ah st) .none kV doc pm an cdv ct) ⟨us,[]⟩=pure (ps.zip us)):bP K fd ps []:=by
 obtain⟨oc,od,kV,doc,pm,an,cdv,ct,osl,rfl,lk,hcd⟩:=F.ex
 exact .all (h kV doc pm an cdv ct)
theorem bJ {x qual:Str}{st:Stmt}{f:Addr}{oc:Value}{od an:Option Addr}{osl:Array (Option Value)}{kV doc pm cdv ct:Value} (l:K.lookup f=some ⟨oc,od,.func (PySem.W.fnOf x qual (aU st) (aE st) (ah st) .none kV doc pm an cdv ct),osl⟩)
  (c:PySem.W.codeIn K cdv qual=true) (k:PySem.W.keepIn K (.ref f)=true):Fun K x qual st f (PySem.W.fnOf x qual (aU st) (aE st) (ah st) .none kV doc pm an cdv ct):=⟨⟨oc,od,kV,doc,pm,an,cdv,ct,osl,rfl,l,c⟩,k⟩
end
theorem mw {n:Nat} (h:n<=1000):n < sizeLine:=Nat.lt_of_le_of_lt h (by decide)
section
variable {X:Cx}
end
theorem nC {A B:Prop} (h:B):if false=true then A else B:=by
 rw [if_neg Bool.false_ne_true]
 exact h
theorem nr {A B:Prop} (h:A):if true=true then A else B:=by
 rw [if_pos rfl]
 exact h
noncomputable def aL (H H':Hp):Prop:=∀ b o,H b=some o->H' b=some o
theorem aL.refl (H:Hp):aL H H:=λ_ _ h=>h
theorem aL.trans {H H1 H2:Hp} (a:aL H H1) (b:aL H1 H2):aL H H2:=λc o h=>b c o (a c o h)
theorem aL.free {H H':Hp} (e:aL H H') {l:Addr} (h:H' l=Option.none):H l=Option.none:=by
 cases q:H l with
 | none=>rfl
 | some o=>
  rw [e l o q] at h
  cases h
theorem aL.seq {K:PySem.W.Frag}{H H':Hp}{a:Addr}{xs:List V} (e:aL H H') (h:SqL K H a xs):SqL K H' a xs:=by
 rcases h with (h | ⟨o,h⟩) | h
 ·exact .inl (.inl (e _ _ h))
 ·exact .inl (.inr ⟨o,e _ _ h⟩)
 ·exact .inr h
end L2
namespace L2
open PySem PySem.Spec PyProof.Rows
noncomputable def bC (cells:List (Str×Addr)):List (Str×NameKind)->List (Str×Addr)->List (Str×Addr)
 | [],acc=>acc
 | (n,k)::r,acc=>if k==.free then bC cells r ((n,(cells.lookup n).getD 0)::acc) else bC cells r acc
theorem fE {env:Env} (f:Str×NameKind->List (Str×Addr)->Sem (ForInStep (List (Str×Addr))))
  (hf:∀ n k cs,f (n,k) cs=if k==.free then (do let c <-cellOf env n;pure (.yield ((n,c)::cs))) else pure (.yield cs)) :
  ∀ (names:List (Str×NameKind)) (acc:List (Str×Addr)),(∀ x ∈ names,x.2=.free->∃ c,env.cells.lookup x.1=some c)->
   forIn names acc f=pure (bC env.cells names acc)
 | [],acc,_=>by rw [List.forIn_nil];rfl
 | (n,k)::r,acc,h=>by
  rw [List.forIn_cons,hf]
  unfold bC
  by_cases hk:(k==.free)=true
  ·obtain⟨c,hc⟩:=h (n,k) List.mem_cons_self (beq_iff_eq.mp hk)
   have hc':env.cells.lookup n=some c:=hc
   rw [if_pos hk,if_pos hk]
   have:cellOf env n=pure c:=by unfold cellOf;rw [hc']
   rw [this,hc']
   simp only [pure_bind,Option.getD_some]
   exact fE f hf r _ λx hx=>h x (List.mem_cons_of_mem _ hx)
  ·rw [if_neg hk,if_neg hk]
   simp only [pure_bind]
   exact fE f hf r _ λx hx=>h x (List.mem_cons_of_mem _ hx)
theorem iL {scope:Scope}{env:Env} (h:∀ x ∈ scope.names,x.2=.free->∃ c,env.cells.lookup x.1=some c) :
  closureFor scope env=pure (bC env.cells scope.names []):=by
 simp only [closureFor]
 rw [fE (env:=env) _ (λn k cs=>by cases hk:k==NameKind.free<;>simp [hk]) scope.names [] h]
 simp
theorem dS {cells:List (Str×Addr)}:∀ (names:List (Str×NameKind)) (acc:List (Str×Addr)) {x:Str}{c:Addr},(bC cells names acc).lookup x=some c->
  acc.lookup x=some c\/((x,NameKind.free) ∈ names/\c=(cells.lookup x).getD 0)
 | [],_,_,_,h=>.inl h
 | (n,k)::r,acc,x,c,h=>by
  unfold bC at h
  by_cases hk:(k==.free)=true
  ·rw [if_pos hk] at h
   rcases dS r _ h with q | ⟨q1,q2⟩
   ·rw [List.lookup_cons] at q
    cases hx:x==n with
    | true=>
     rw [hx] at q
     have e:=beq_iff_eq.mp hx
     subst e
     exact .inr ⟨by rw [<-beq_iff_eq.mp hk];exact List.mem_cons_self,(Option.some.inj q).symm⟩
    | false=>rw [hx] at q;exact .inl q
   ·exact .inr ⟨List.mem_cons_of_mem _ q1,q2⟩
  ·rw [if_neg hk] at h
   rcases dS r _ h with q | ⟨q1,q2⟩
   ·exact .inl q
   ·exact .inr ⟨List.mem_cons_of_mem _ q1,q2⟩
theorem dO {cells:List (Str×Addr)}{x:Str}:∀ (names:List (Str×NameKind)) (acc:List (Str×Addr)),((x,NameKind.free) ∈ names\/(acc.lookup x).isSome=true)->((bC cells names acc).lookup x).isSome=true
 | [],_,h=>h.elim (λz=>nomatch z) id
 | (n,k)::r,acc,h=>by
  unfold bC
  by_cases hk:(k==.free)=true
  ·rw [if_pos hk]
   refine dO r _ ?_
   rcases h with h | h
   ·rcases List.mem_cons.mp h with e | h
    ·cases e
     exact .inr (by rw [List.lookup_cons,beq_self_eq_true];rfl)
    ·exact .inl h
   ·refine .inr ?_
    rw [List.lookup_cons]
    cases x==n
    ·exact h
    ·rfl
  ·rw [if_neg hk]
   refine dO r _ ?_
   rcases h with h | h
   ·rcases List.mem_cons.mp h with e | h
    ·cases e;exact absurd rfl hk
    ·exact .inl h
   ·exact .inr h
theorem cU:∀ (names:List (Str×NameKind)) (n:Nat) (acc:List (Str×Addr)) {x:Str}{c:Addr},(cellsFrom n names acc).lookup x=some c->acc.lookup x=some c\/((x,NameKind.cell) ∈ names/\n<=c)
 | [],_,_,_,_,h=>.inl h
 | (m,k)::r,n,acc,x,c,h=>by
  unfold cellsFrom at h
  by_cases hk:(k==.cell)=true
  ·rw [if_pos hk] at h
   rcases cU r _ _ h with q | ⟨q1,q2⟩
   ·rw [List.lookup_cons] at q
    cases hx:x==m with
    | true=>
     rw [hx] at q
     have e:=beq_iff_eq.mp hx
     subst e
     exact .inr ⟨by rw [<-beq_iff_eq.mp hk];exact List.mem_cons_self,by rw [Option.some.inj q];exact Nat.le_refl _⟩
    | false=>rw [hx] at q;exact .inl q
   ·exact .inr ⟨List.mem_cons_of_mem _ q1,Nat.le_of_succ_le q2⟩
  ·rw [if_neg hk] at h
   rcases cU r _ _ h with q | ⟨q1,q2⟩
   ·exact .inl q
   ·exact .inr ⟨List.mem_cons_of_mem _ q1,q2⟩
theorem iX:∀ (names:List (Str×NameKind)) (n:Nat) (acc:List (Str×Addr)),(∀ p ∈ acc,p.2 < n)->∀ {x y:Str}{c:Addr},(cellsFrom n names acc).lookup x=some c->(cellsFrom n names acc).lookup y=some c->n<=c->x=y:=by
 have key:∀ (names:List (Str×NameKind)) (n:Nat) (acc:List (Str×Addr)) (lo:Nat),lo<=n->(∀ p ∈ acc,p.2 < n)->(∀ p ∈ acc,∀ q ∈ acc,lo<=p.2->p.2=q.2->p.1=q.1)->
   ∀ p ∈ cellsFrom n names acc,∀ q ∈ cellsFrom n names acc,lo<=p.2->p.2=q.2->p.1=q.1:=by
  intro names
  induction names with
  | nil=>intro n acc lo _ _ h;exact h
  | cons z r ih=>
   intro n acc lo hlo hlt h
   obtain⟨m,k⟩:=z
   unfold cellsFrom
   by_cases hk:(k==.cell)=true
   ·rw [if_pos hk]
    refine ih _ _ lo (Nat.le_succ_of_le hlo) (λp hp=>?_) (λp hp q hq l e=>?_)
    ·rcases List.mem_cons.mp hp with e | hp
     ·rw [e];exact Nat.lt_succ_self _
     ·exact Nat.lt_succ_of_lt (hlt p hp)
    ·rcases List.mem_cons.mp hp with e1 | hp<;>rcases List.mem_cons.mp hq with e2 | hq
     ·rw [e1,e2]
     ·rw [e1] at e;exact absurd (hlt q hq) (by rw [<-e];exact Nat.lt_irrefl _)
     ·rw [e2] at e;exact absurd (hlt p hp) (by rw [e];exact Nat.lt_irrefl _)
     ·exact h p hp q hq l e
   ·rw [if_neg hk]
    exact ih _ _ lo hlo hlt h
 intro names n acc hlt x y c hx hy hc
 exact key names n acc n (Nat.le_refl _) hlt (λp hp q hq l _=>absurd (hlt p hp) (Nat.not_lt.mpr l)) _ (PySem.mem_of_lookup hx) _ (PySem.mem_of_lookup hy) hc rfl
theorem de:∀ (names:List (Str×NameKind)) (h:Heap) (acc:List (Str×Addr)),(∀ p ∈ acc,∃ v,h.IsCell p.2 v)->∀ p ∈ cellsFrom h.objs.size names acc,∃ v,(pushCells h names).IsCell p.2 v
 | [],_,_,h=>h
 | (m,k)::r,h,acc,hc=>by
  unfold cellsFrom pushCells
  by_cases hk:(k==.cell)=true
  ·rw [if_pos hk,if_pos hk]
   have:=de r (h.push { cls:=.type "cell",data:=.cell none }) ((m,h.objs.size)::acc) (λp hp=>by
    rcases List.mem_cons.mp hp with e | hp
    ·rw [e];exact⟨none,_,Heap.get?_push_size _ rfl,rfl⟩
    ·obtain⟨v,z⟩:=hc p hp
     exact⟨v,z.keeps λb o e=>Heap.get?_push_of_some _ e⟩)
   rwa [Heap.size_push] at this
  ·rw [if_neg hk,if_neg hk]
   exact de r h acc hc
theorem d4 {names:List (Str×NameKind)} (nd:(names.map (·.1)).Nodup):∀ {x:Str}{k:NameKind},(x,k) ∈ names->names.lookup x=some k:=by
 induction names with
 | nil=>intro x k h;cases h
 | cons z r ih=>
  intro x k h
  obtain⟨m,k'⟩:=z
  rw [List.map_cons,List.nodup_cons] at nd
  rw [List.lookup_cons]
  rcases List.mem_cons.mp h with e | h
  ·cases e;rw [beq_self_eq_true]
  ·have:(x==m)=false:=beq_eq_false_iff_ne.mpr λe=>nd.1 (e ▸ List.mem_map.mpr ⟨(x,k),by assumption,rfl⟩)
   rw [this]
   exact ih nd.2 h
theorem cP {env:Env}:∀ {names:List (Str×NameKind)}{x:Str}{k:NameKind},
  (names.map λ(n,k)=>if (k==NameKind.free && env.scope.kind==.function && env.kindOf n==some .cell) then (n,NameKind.cell) else (n,k)).lookup x=some k->
  ∃ k0,names.lookup x=some k0/\(k=k0\/(k0=.free/\k=.cell))
 | [],_,_,h=>by cases h
 | (n,k0)::r,x,k,h=>by
  rw [List.map_cons] at h
  dsimp only at h
  rw [List.lookup_cons]
  by_cases hc:(k0==NameKind.free && env.scope.kind==.function && env.kindOf n==some .cell)=true
  ·rw [if_pos hc,List.lookup_cons] at h
   cases hx:x==n with
   | true=>
    rw [hx] at h
    refine⟨k0,rfl,.inr ⟨?_,(Option.some.inj h).symm⟩⟩
    simp only [Bool.and_eq_true] at hc
    exact beq_iff_eq.mp hc.1.1
   | false=>rw [hx] at h;exact cP h
  ·rw [if_neg hc,List.lookup_cons] at h
   cases hx:x==n with
   | true=>rw [hx] at h;exact⟨k0,rfl,.inl (Option.some.inj h).symm⟩
   | false=>rw [hx] at h;exact cP h
theorem d6 {env:Env}:∀ {names:List (Str×NameKind)}{x:Str},names.lookup x=some .free->
  (names.map λ(n,k)=>if (k==NameKind.free && env.scope.kind==.function && env.kindOf n==some .cell) then (n,NameKind.cell) else (n,k)).lookup x=some .free\/
  (names.map λ(n,k)=>if (k==NameKind.free && env.scope.kind==.function && env.kindOf n==some .cell) then (n,NameKind.cell) else (n,k)).lookup x=some .cell
 | [],_,h=>by cases h
 | (n,k0)::r,x,h=>by
  rw [List.map_cons]
  dsimp only
  rw [List.lookup_cons] at h
  by_cases hc:(k0==NameKind.free && env.scope.kind==.function && env.kindOf n==some .cell)=true
  ·rw [if_pos hc,List.lookup_cons]
   cases hx:x==n with
   | true=>exact .inr rfl
   | false=>rw [hx] at h;exact d6 h
  ·rw [if_neg hc,List.lookup_cons]
   cases hx:x==n with
   | true=>rw [hx] at h;exact .inl h
   | false=>rw [hx] at h;exact d6 h
theorem kc {M:Model}{A:Around}{E:Value->Shared->Prop}{s:Shared}{scope:Scope}{env:Env}{cl:List (Str×Addr)}{Q:Env->Shared->Prop}
  (hQ:Q (newEnv scope s.heap.objs.size env.globals (cellsFrom (s.heap.objs.size+1) scope.names cl) env.qual none .none (some env) builtinsNs)
    { s with heap:=pushCells (s.heap.push { cls:=.type "dict",data:=.dict #[] }) scope.names }) :
  wpAny M A (newFunctionEnv scope env.globals cl [] env.qual none .none (some env)) Q E s:=by
 simp only [newFunctionEnv,Option.isSome_some,if_true]
 refine wpAny_bind (wpAny_alloc ?_)
 refine wpAny_bind (wpAny_layCells _ (λname kind cells=>by cases hkc:kind==NameKind.cell<;>simp [hkc]) _ _ _ _ ?_)
 rw [show ({ s with heap:=s.heap.push { cls:=.type "dict",data:=.dict #[] } }:Shared).heap.objs.size=s.heap.objs.size+1 from Heap.size_push ..]
 refine wpAny_bind ?_
 rw [List.forIn_nil]
 exact wpAny_pure (wpAny_pure hQ)
theorem eI {prog:Program}{w:World}{A:Around}{R:Result->Shared->Prop}{s:Shared}{elt target iter:Expr}{ifs:List Expr}{scope:Scope}{pos:Pos}{it acc:Value}{env:Env} (I:Nat->Shared->Prop)
  (turn:∀ n s,I n s->wpAny (model prog w) A (pyNext it) (λr s₁=>match r with
    | none=>R (.ok .next) s₁
    | some v=>wpAny (model prog w) A (letOwnedTupleGo target it v) (λ_ s₁'=>wpAny (model prog w) A (assign target env v) (λ_ s₂=>
      wpAny (model prog w) A (forIn ifs true λc r=>if r=true then do let ok <-isTrue c env (eval c env);pure (ForInStep.yield ok) else pure (ForInStep.yield r)) (λok s₃=>
       if ok=true then wpAny (model prog w) A (eval elt env) (λx s₄=>
        wpAny (model prog w) A (call (.builtin "list.append") [acc,x]) (λ_ s₅=>∃ m,m < n/\I m s₅) (λ_ _=>False) s₄) (λ_ _=>False) s₃
       else ∃ m,m < n/\I m s₃) (λ_ _=>False) s₂) (λ_ _=>False) s₁') (λ_ _=>False) s₁) (λ_ _=>False) s)
  (n:Nat) (h:I n s) :
  codeAny (model prog w) A (.compLoop (.ListComp elt [⟨target,iter,ifs,0⟩] scope pos) 0 it acc env) R s:=by
 refine codeAny_loop rfl I (λn s hI=>?_) n h
 show wpAny _ A ((compTurn (.ListComp elt [⟨target,iter,ifs,0⟩] scope pos) 0 it acc env).onRaise (λx=>do noteFrame x env;theTreesLotGoes x)) _ _ s
 refine wpAny_noted ?_
 rw [compTurn_list]
 refine wpAny_bind (wpAny_standAt (wpAny_bind (wpAny_mono (turn n s hI) (λr s₁ h₁=>?_) λ_ _ h'=>h'.elim)))
 cases r with
 | none=>exact wpAny_pure h₁
 | some v=>
  refine wpAny_bind (wpAny_mono h₁ (λ_ s₁' h₁'=>?_) λ_ _ h'=>h'.elim)
  refine wpAny_bind (wpAny_mono h₁' (λ_ s₂ h₂=>wpAny_bind (wpAny_mono h₂ (λok s₃ h₃=>?_) λ_ _ h'=>h'.elim)) λ_ _ h'=>h'.elim)
  cases ok with
  | false=>exact wpAny_pure ⟨rfl,h₃⟩
  | true=>
   exact wpAny_bind (wpAny_bind (wpAny_mono h₃ (λx s₄ h₄=>wpAny_bind (wpAny_mono h₄ (λ_ s₅ h₅=>wpAny_pure (wpAny_pure ⟨rfl,h₅⟩)) λ_ _ h'=>h'.elim)) λ_ _ h'=>h'.elim))
noncomputable def lcX (X:Cx) (scope:Scope) (cells:List (Str×Addr)) (Nc:List Str) (s:Shared) (H:Hp) (C:Addr) (fp:List Addr):Cx where
 prog:=X.prog
 w:=X.w
 K:=X.K
 mg:=X.mg
 base:=X.base
 A:=X.A
 N:=Nc
 s₀:=s
 H₀:=H
 env:=compEnvC scope cells C X.env
 outer:=X.stack
 stack:=X.stack
 ex:=fp
 fn:=λx=>scope.names.lookup x==some .cell
 calm:=X.calm
 pn:=[]
 xe:=λ_ _=>False
structure eU (X:Cx) (scope:Scope) (Nc:List Str) (emb:St->St):Prop where
 kind:scope.kind=.function
 nd:(scope.names.map (·.1)).Nodup
 nN:Nc.Nodup
 free:∀ x ∈ scope.names,x.2=.free->X.env.kindOf x.1=some .cell\/X.env.kindOf x.1=some .free
 len:∀ σ:St,σ.length=X.N.length->(emb σ).length=Nc.length
 emb:∀ σ:St,σ.length=X.N.length->∀ (i:Nat) (x:Str) (v:V),Nc[i]?=some x->(emb σ)[i]?=some (some v)->∃ j:Nat,X.N[j]?=some x/\σ[j]?=some (some v)/\scope.names.lookup x=some .free
section
variable {X:Cx}{pins:List (Addr×Obj)}{σ:St}{H:Hp}{s:Shared}{scope:Scope}{Nc:List Str}{emb:St->St}
theorem eU.clos (S:eU X scope Nc emb) (ok:X.Ok):∀ x ∈ scope.names,x.2=.free->∃ c,X.env.cells.lookup x.1=some c:=λx hx h=>ok.has x.1 (S.free x hx h)
theorem nv (S:eU X scope Nc emb) (I:Inv X pins σ H s) {fp:List Addr} (hf:∀ b ∈ fp,gJ X pins H b) (hfo:∀ b ∈ fp,∃ o,s.heap.get? b=some o) {lo:Obj} (hlo:∀ v,lo.data≠.cell v) (hfr:lo.isFreed=false) :
  Inv (lcX X scope (cellsFrom (s.heap.objs.size+2) scope.names (bC X.env.cells scope.names [])) Nc s H (s.heap.objs.size+1) fp) [(s.heap.objs.size,lo)] (emb σ) H
   { s with heap:=pushCells ((s.heap.push lo).push { cls:=.type "dict",data:=.dict #[] }) scope.names }:=by
 have hsz2:((s.heap.push lo).push { cls:=.type "dict",data:=.dict #[] }).objs.size=s.heap.objs.size+2:=by rw [Heap.size_push,Heap.size_push]
 have hsz1:(s.heap.push lo).objs.size=s.heap.objs.size+1:=by rw [Heap.size_push]
 have hk:∀ b o,s.heap.get? b=some o->(pushCells ((s.heap.push lo).push { cls:=.type "dict",data:=.dict #[] }) scope.names).get? b=some o:=λb o e=>
  pushCells_keeps _ _ b o (Heap.get?_push_of_some _ (Heap.get?_push_of_some _ e))
 have has:=S.clos I.ok
 have cl_old:∀ {x:Str}{c:Addr},(bC X.env.cells scope.names []).lookup x=some c->X.env.cells.lookup x=some c/\(x,NameKind.free) ∈ scope.names:=λ{x c} h=>by
  rcases dS _ _ h with q | ⟨q1,q2⟩
  ·cases q
  ·obtain⟨c',hc'⟩:=has _ q1 rfl
   have hc'':X.env.cells.lookup x=some c':=hc'
   rw [hc''] at q2
   exact⟨by rw [hc'',q2];rfl,q1⟩
 have cells_cases:∀ {x:Str}{c:Addr},(cellsFrom (s.heap.objs.size+2) scope.names (bC X.env.cells scope.names [])).lookup x=some c->
   (X.env.cells.lookup x=some c/\(x,NameKind.free) ∈ scope.names)\/((x,NameKind.cell) ∈ scope.names/\s.heap.objs.size+2<=c):=λ{x c} h=>by
  rcases cU _ _ _ h with q | q
  ·exact .inl (cl_old q)
  ·exact .inr q
 have oldlt:∀ {x:Str}{c:Addr},X.env.cells.lookup x=some c->c < s.heap.objs.size:=λ{x c} h=>by
  obtain⟨v,z⟩:=I.cell x c h
  exact z.lt
 have fplt:∀ b ∈ fp,b < s.heap.objs.size:=λb hb=>by obtain⟨o,e⟩:=hfo b hb;exact Heap.lt_size e
 have accmem:∀ p ∈ bC X.env.cells scope.names [],∃ x,X.env.cells.lookup x=some p.2:=by
  have key:∀ (names:List (Str×NameKind)) (acc:List (Str×Addr)),(∀ x ∈ names,x.2=.free->∃ c,X.env.cells.lookup x.1=some c)->(∀ p ∈ acc,∃ x,X.env.cells.lookup x=some p.2)->∀ p ∈ bC X.env.cells names acc,∃ x,X.env.cells.lookup x=some p.2:=by
   intro names
   induction names with
   | nil=>intro acc _ h;exact h
   | cons z r ih=>
    intro acc hn h
    obtain⟨m,k⟩:=z
    unfold bC
    by_cases hk:(k==.free)=true
    ·rw [if_pos hk]
     refine ih _ (λx hx=>hn x (List.mem_cons_of_mem _ hx)) λp hp=>?_
     rcases List.mem_cons.mp hp with e | hp
     ·obtain⟨c,hc⟩:=hn _ List.mem_cons_self (beq_iff_eq.mp hk)
      have hc':X.env.cells.lookup m=some c:=hc
      exact⟨m,by rw [e,hc'];rfl⟩
     ·exact h p hp
    ·rw [if_neg hk]
     exact ih _ (λx hx=>hn x (List.mem_cons_of_mem _ hx)) h
  exact key _ _ has λp hp=>nomatch hp
 refine⟨⟨I.ok.mod,S.kind,I.ok.glob,I.ok.blt,Nat.le_succ _,λx y c h1 h2=>?_,λx hx=>?_,λx c hx h=>?_,I.ok.hd,I.ok.frames,.inl rfl,λb hb=>?_,I.bs,Nat.le_trans I.ok.bsz I.sz,λb o e hb=>?_,λb hb=>?_,I.stack,I.stkFree⟩,
  rfl,I.bare,Un.kept hk,⟨_,(Heap.Ns.new (s.heap.push lo) (.type "dict")).keeps (pushCells_keeps _ _) |> λq=>by rw [hsz1] at q;exact q,λi x v h1 h2 _=>?_⟩,λx c h=>?_,I.hok.fresh (Nat.le_succ _),λx c h=>?_,λp hp=>?_,I.hok.kept hk,S.len σ I.len⟩
 ·-- inj
  have h1':(cellsFrom (s.heap.objs.size+2) scope.names (bC X.env.cells scope.names [])).lookup x=some c:=h1
  have h2':(cellsFrom (s.heap.objs.size+2) scope.names (bC X.env.cells scope.names [])).lookup y=some c:=h2
  rcases cells_cases h1' with⟨q1,_⟩ | ⟨_,q1⟩
  ·rcases cells_cases h2' with⟨q2,_⟩ | ⟨_,q2⟩
   ·exact I.ok.inj x y c q1 q2
   ·exact absurd (Nat.lt_of_lt_of_le (Nat.lt_succ_of_lt (Nat.lt_succ_of_lt (oldlt q1))) q2) (Nat.lt_irrefl _)
  ·refine iX scope.names _ _ (λp hp=>?_) h1' h2' q1
   obtain⟨z,hz⟩:=accmem p hp
   exact Nat.lt_succ_of_lt (Nat.lt_succ_of_lt (oldlt hz))
 ·-- has
  have hx':(relabel scope X.env).names.lookup x=some .cell\/(relabel scope X.env).names.lookup x=some .free:=hx
  have:∃ k0,scope.names.lookup x=some k0/\(k0=.cell\/k0=.free):=by
   rcases hx' with q | q
   ·obtain⟨k0,h1,h2⟩:=cP q
    exact⟨k0,h1,h2.elim (λe=>.inl e.symm) λe=>.inr e.1⟩
   ·obtain⟨k0,h1,h2⟩:=cP q
    exact⟨k0,h1,h2.elim (λe=>.inr e.symm) λe=>by cases e.2⟩
  obtain⟨k0,h1,h2⟩:=this
  refine Option.isSome_iff_exists.mp (PySem.W.cellsFrom_some scope.names _ _ ?_)
  rcases h2 with rfl | rfl
  ·exact .inl h1
  ·exact .inr (dO _ _ (.inl (PySem.mem_of_lookup h1)))
 ·-- cab
  have hx':scope.names.lookup x=some .cell:=beq_iff_eq.mp hx
  rcases cells_cases h with⟨_,q⟩ | ⟨_,q⟩
  ·have:=d4 S.nd q
   rw [hx'] at this;cases this
  ·exact Nat.le_trans (Nat.le_add_right _ 2) q
 ·-- exf
  refine⟨Nat.ne_of_lt (Nat.lt_succ_of_lt (fplt b hb)),λx c h=>?_⟩
  rcases cells_cases h with⟨q,_⟩ | ⟨_,q⟩
  ·exact (hf b hb).2.2.2.2.1 x c q
  ·intro e
   exact absurd (Nat.lt_of_lt_of_le (Nat.lt_succ_of_lt (Nat.lt_succ_of_lt (fplt b hb))) (e ▸ q)) (Nat.lt_irrefl _)
 ·-- noex
  have hb':b ∈ fp:=hb
  rcases (hf b hb').2.2.2.1 with q | q
  ·exact I.ok.noex b o e q
  ·exact absurd (Nat.lt_of_lt_of_le (Heap.lt_size (I.ok.bs b o e).1) q) (Nat.lt_irrefl _)
 ·-- exfs
  intro hb2
  rcases List.mem_cons.mp (I.stkSub b hb2) with q | q
  ·exact (hf b hb).2.1 q
  ·exact (hf b hb).2.2.1 q
 ·-- loc
  obtain⟨j,e1,e2,e3⟩:=S.emb σ I.len i x v h1 h2
  have kx:=S.free (x,.free) (PySem.mem_of_lookup e3) rfl
  have kx':X.env.kindOf x=some .cell\/X.env.kindOf x=some .free:=kx
  obtain⟨m,hn,hl⟩:=I.loc
  obtain⟨u,ru,lk⟩:=hl j x v e1 e2 (.inr kx')
  refine⟨u,ru,.inr ⟨?_,?_⟩⟩
  ·rcases d6 (env:=X.env) e3 with q | q
   ·exact .inr q
   ·exact .inl q
  ·rcases lk with⟨z,_⟩ | ⟨_,c,hc,hcell⟩
   ·rcases kx' with q | q<;>(rw [z] at q;cases q)
   ·obtain⟨c',hc'⟩:=Option.isSome_iff_exists.mp (PySem.W.cellsFrom_some scope.names (s.heap.objs.size+2) (bC X.env.cells scope.names []) (x:=x) (.inr (dO _ _ (.inl (PySem.mem_of_lookup e3)))))
    rcases cells_cases hc' with⟨q,_⟩ | ⟨q,_⟩
    ·rw [hc] at q
     cases q
     exact⟨c,hc',hcell.keeps hk⟩
    ·have:=d4 S.nd q
     rw [e3] at this;cases this
 ·-- cell
  have h':(cellsFrom (s.heap.objs.size+2) scope.names (bC X.env.cells scope.names [])).lookup x=some c:=h
  have:=de scope.names ((s.heap.push lo).push { cls:=.type "dict",data:=.dict #[] }) (bC X.env.cells scope.names []) (λp hp=>by
   obtain⟨z,hz⟩:=accmem p hp
   obtain⟨v,q⟩:=I.cell z p.2 hz
   exact⟨v,q.keeps λb o e=>Heap.get?_push_of_some _ (Heap.get?_push_of_some _ e)⟩) (x,c) (by rw [hsz2];exact PySem.mem_of_lookup h')
  exact this
 ·-- freeC
  rcases cells_cases h with⟨q,_⟩ | ⟨_,q⟩
  ·exact I.freeC x c q
  ·exact I.hok.fresh (Nat.le_trans (Nat.le_add_right _ 2) q)
 ·-- pin
  have hp':p=(s.heap.objs.size,lo):=by
   have:p ∈ ([]:List (Addr×Obj))++[(s.heap.objs.size,lo)]:=hp
   simpa using this
  subst hp'
  refine⟨pushCells_keeps _ _ _ _ (Heap.get?_push_of_some _ (Heap.get?_push_size _ hfr)),I.hok.fresh (Nat.le_refl _),Nat.ne_of_lt (Nat.lt_succ_self _),λhb=>?_,hlo⟩
  rcases List.mem_cons.mp (I.stkSub _ hb) with q | q
  ·exact absurd I.lt (by rw [<-q];exact Nat.lt_irrefl _)
  ·exact I.nofs (Nat.le_refl _) q
end
end L2
namespace L2
open PySem PySem.Spec PyProof.Rows
noncomputable def PTs (X:Cx) (ifs:List Expr) (t:TT):Prop:=
 ∀ (pins:List (Addr×Obj)) (s:Shared) (σ:St) (H:Hp) (Q:Bool->Hp->Prop),Inv X pins σ H s->t σ H Q->
  wpAny (model X.prog X.w) X.A (forIn ifs true λc r=>if r=true then do let ok <-isTrue c X.env (eval c X.env);pure (ForInStep.yield ok) else pure (ForInStep.yield r)) (TP X pins σ Q) X.xe s
noncomputable def uo:TT:=λ_ H Q=>Q true H
theorem oS {X:Cx}:PTs X [] uo:=λ_ _ _ H _ I h=>wpAny_tests_nil ⟨H,I,h⟩
noncomputable def Sub (σ σ':St):Prop:=σ.length=σ'.length/\∀ (i:Nat) (v:V),σ[i]?=some (some v)->σ'[i]?=some (some v)
noncomputable def sM (J:It) (σe:St) (g:TG) (tt:TT) (te:TE) (H1:Hp) (Q:VK):Prop:=∃ W:Nat->Nat->List V->Hp->Prop,(∃ m,W 0 m [] H1)/\∀ i m ys H,W i m ys H->
 (J.stop i H/\∀ D,H D=none->Q (.ref D) (upd H D (.lst ys)))\/
 (J.go i H/\ys.length < sizeLine/\∃ N:List V->Hp->Prop,(∀ ys' H',N ys' H'->∃ m',m' < m/\W (i+1) m' ys' H')/\∀ x H',J.yld i H x H'->g x σe H' λσ2 H2=>Sub σe σ2/\tt σ2 H2 λb H3=>if b=true then te σ2 H3 λv H4=>N (ys++[v]) H4 else N ys H3)
noncomputable def tLc (emb:St->St) (wi:TI) (g:TG) (tt:TT) (te:TE):TE:=λσ H Q=>wi σ H λJ H1=>sM J (emb σ) g tt te H1 Q
section
variable {X:Cx}{scope:Scope}{Nc:List Str}{emb:St->St}{elt iter tg:Expr}{ifs:List Expr}{pos:Pos}{wi:TI}{g:TG}{tt:TT}{te:TE}
theorem sJ (S:eU X scope Nc emb) (hc:X.calm=true) (hi:PI X tg iter wi)
  (hg:∀ cells s H C fp,PG (lcX X scope cells Nc s H C fp) tg g) (ht:∀ cells s H C fp,PTs (lcX X scope cells Nc s H C fp) ifs tt) (he:∀ cells s H C fp,PE (lcX X scope cells Nc s H C fp) elt te)
  (hs:∀ x,foldedSetIterable iter X.env x=pure x:=by intro _;rfl):PE X (.ListComp elt [⟨tg,iter,ifs,0⟩] scope pos) (tLc emb wi g tt te):=by
 intro pins s σ H Q I h
 rw [eval_ListComp]
 refine wpAny_comprehension_free (use:=none) rfl hs (iL (S.clos I.ok)) S.kind (λx hx hl=>d4 S.nd (by rw [<-hl];exact hx)) ?_
 refine thn (hi pins s σ H _ I h) λv s1 h1=>thn h1 λitv s2 h2=>?_
 obtain⟨it,fp,tn,J,H2,e,I2,T,st2,f2,W,⟨m0,w0⟩,turn⟩:=h2
 subst e
 refine wpAny_newObj_type (kc ?_)
 rw [show (s2.heap.push { cls:=.type "list",dict:=none,data:=.seq ([]:List Value).toArray }).objs.size=s2.heap.objs.size+1 from Heap.size_push ..]
 generalize hD:s2.heap.objs.size=D
 generalize hlo:({ cls:=.type "list",dict:=none,data:=.seq ([]:List Value).toArray }:Obj)=lo
 have fplt:∀ b ∈ fp,b < s2.heap.objs.size:=λb hb=>by obtain⟨o,e,_⟩:=T.obj _ _ st2 b hb;exact Heap.lt_size e
 have I3:=nv (lo:=lo) S I2 f2 (λb hb=>by obtain⟨o,e,_⟩:=T.obj _ _ st2 b hb;exact⟨o,e⟩) (by rw [<-hlo];intro v z;cases z) (by rw [<-hlo];rfl)
 rw [hD] at I3
 generalize hcells:cellsFrom (D+2) scope.names (bC X.env.cells scope.names [])=cells at I3
 generalize hX':lcX X scope cells Nc s2 H2 (D+1) fp=X' at I3
 have hfpX:∀ {H':Hp}{ps:List (Addr×Obj)},(∀ b ∈ fp,H' b=none)->(∀ p ∈ ps,p.1=D)->∀ b ∈ fp,gJ X' ps H' b:=λ{H' ps} hn hps b hb=>by
  have ok:=I3.ok
  refine⟨hn b hb,?_,?_,.inl (by rw [<-hX'];exact hb),?_,λp hp=>?_⟩
  ·exact (ok.exf b (by rw [<-hX'];exact hb)).1
  ·exact ok.exfs b (by rw [<-hX'];exact hb)
  ·exact (ok.exf b (by rw [<-hX'];exact hb)).2
  ·have hp':p ∈ ([]:List (Addr×Obj))++ps:=by rw [<-hX'] at hp;exact hp
   have e:p.1=D:=hps p (by simpa using hp')
   rw [e,<-hD]
   exact Nat.ne_of_gt (fplt b hb)
 have Dex:D ∈ X'.ex\/X'.s₀.heap.objs.size<=D:=.inr (by rw [<-hX',<-hD];exact Nat.le_refl _)
 have Dloc:D≠X'.env.locals:=by rw [<-hX'];exact Nat.ne_of_lt (Nat.lt_succ_self _)
 have pD:=I3.pin (D,lo) (by rw [<-hX'];exact List.mem_append_right _ List.mem_cons_self)
 have Dfs:D ∉ X'.fs:=pD.2.2.2.1
 have Dcell:∀ x c,X'.env.cells.lookup x=some c->c≠D:=λx c hc' e=>by
  obtain⟨v,o,ho,hd⟩:=I3.cell x c hc'
  rw [e,pD.1] at ho
  cases ho
  exact pD.2.2.2.2 v hd
 -- the loop
 have loop:∀ s3:Shared,s3={ s2 with heap:=pushCells ((s2.heap.push lo).push { cls:=.type "dict",data:=.dict #[] }) scope.names }->
   codeAny (model X.prog X.w) X.A (.compLoop (.ListComp elt [⟨tg,iter,ifs,0⟩] scope pos) 0 (.ref it) (.ref D) (compEnvC scope cells (D+1) X.env))
    (compPost (model X.prog X.w) X.A X.xe none (EP X pins σ Q) (.ref D) (D+1)) s3:=by
  rintro s3 rfl
  refine eI (λn s'=>∃ i ys its k H',Inv X' [(D,{ cls:=.type "list",data:=.seq its.toArray k })] (emb σ) H' s'/\aC ys its/\tn i s'.heap/\(∀ b ∈ fp,H' b=none)/\ys.length<=sizeLine/\W i n ys H') ?_ m0
   ⟨0,[],[],0,H2,?_,.nil,?_,λb hb=>(f2 b hb).1,Nat.zero_le _,w0⟩
  ·rintro n s4 ⟨i,ys,its,k,H4,I4,rv,st4,fr4,hlen,w4⟩
   have hps:∀ p ∈ [(D,({ cls:=.type "list",data:=.seq its.toArray k }:Obj))],p.1=D:=λp hp=>by
    have:=List.mem_singleton.mp hp
    rw [this]
   rcases turn i n ys H4 w4 with⟨stop,qn⟩ | ⟨go,hlt,N,hN,step⟩
   ·-- the end
    have TD:=T.done X' (by rw [<-hX'];rfl) (by rw [<-hX'];rfl) (by rw [<-hX'];rfl) (by rw [<-hX'];exact hc) i _ s4 (emb σ) H4 (λ_ _=>False) I4 (hfpX fr4 hps) st4 stop
    rw [show X'.A=X.A by rw [<-hX'];rfl] at TD
    refine thn TD λr s5 ⟨hr,I5⟩=>?_
    subst hr
    obtain⟨m5,hn5,_⟩:=id I5.loc
    have eC:X'.env.locals=D+1:=by rw [<-hX'];rfl
    rw [eC] at hn5
    refine⟨m5,hn5,λh' hsb=>?_⟩
    have pD5:=I5.pin (D,{ cls:=.type "list",data:=.seq its.toArray k }) (by rw [<-hX'];exact List.mem_append_right _ List.mem_cons_self)
    have neC:∀ b u,H4 b=some u->b≠D+1:=λb u e z=>by
     have:=I5.free
     rw [eC,<-z,e] at this
     cases this
    have hD4:H4 D=none:=pD5.2.1
    have un:=I5.base
    have un':Un (frs X.stack) fp H2 H4 s2.heap s5.heap:=by rw [<-hX'] at un;exact un
    have old_ne:∀ b o,s2.heap.get? b=some o->b≠D/\b≠D+1:=λb o e=>by
     have q:=Heap.lt_size e
     rw [hD] at q
     exact⟨Nat.ne_of_lt q,Nat.ne_of_lt (Nat.lt_succ_of_lt q)⟩
    have h2D:H2 D=none:=by rw [<-hD];exact I2.fresh
    have hok':HOk X.prog X.w H4 h':=λb u e=>by
     have ob:cw X.prog X.w H4 s5.heap b u:=by have:=I5.hok b u e;rw [<-hX'] at this;exact this
     refine ob.stay (λc v hcv q=>(hsb.2 c ?_).trans q) (λ_ q=>q) λ_ _ q=>q
     rcases hcv with z | z
     ·rw [z];exact neC b u e
     ·exact neC c _ z
    have hokD:HOk X.prog X.w (upd H4 D (.lst ys)) h':=λb u e=>by
     by_cases hb:b=D
     ·subst hb
      rw [bi] at e
      cases e
      exact⟨hlen,its,k,rv,(hsb.2 b (Nat.ne_of_lt (Nat.lt_succ_self _))).trans pD5.1⟩
     ·rw [aO hb] at e
      refine (hok' b u e).stay (λ_ _ _ q=>q) (λc q=>?_) λc z q=>?_
      all_goals first
       | (rw [aO (bb q hD4)];exact q)
       | (rw [aO (bb z hD4)];exact z)
    refine⟨.ref D,upd H4 D (.lst ys),?_,rfl,qn D hD4⟩
    refine I2.call' (s':={ s5 with heap:=h' }) (ch:=fp) ?_ ⟨λb o e nb hb hx=>?_,λb o e nb hb hx=>?_,λb o e nb hx=>?_,λb o e hx=>?_,λb xs e=>?_,λb o u e=>?_,λb ps e=>?_⟩ hokD I5.bare (λb hb=>?_)
    ·have:=I5.os
     rw [<-hX'] at this
     exact this
    ·exact (hsb.2 b (old_ne b o e).2).trans (un'.keep b o e nb hb hx)
    ·obtain⟨sl,q⟩:=un'.slot b o e nb hb hx
     exact⟨sl,(hsb.2 b (old_ne b o e).2).trans q⟩
    ·rw [aO (old_ne b o e).1]
     exact un'.free b o e nb hx
    ·obtain⟨o',q⟩:=un'.there b o e hx
     exact⟨o',(hsb.2 b (old_ne b o e).2).trans q⟩
    ·rw [aO (bb e h2D)]
     exact un'.tups b xs e
    ·rw [aO (bb e h2D)]
     exact un'.frzs b o u e
    ·obtain⟨m,q⟩:=un'.tbls b ps e
     exact⟨m,by rw [aO (bb e h2D)];exact q⟩
    ·obtain⟨q0,q1,q2,q3,q4,q5⟩:=f2 b hb
     exact⟨q3,q1,q4,q5⟩
   ·-- a turn
    have hA:X'.A=X.A:=by rw [<-hX'];rfl
    have hP:X'.prog=X.prog:=by rw [<-hX'];rfl
    have hw:X'.w=X.w:=by rw [<-hX'];rfl
    have hE:X'.env=compEnvC scope cells (D+1) X.env:=by rw [<-hX'];rfl
    have hxe:X'.xe=λ_ _=>False:=by rw [<-hX'];rfl
    have TI':=T.item X' hP hw (by rw [<-hX'];rfl) (by rw [<-hX'];exact hc) i _ s4 (emb σ) H4 (λ_ _=>False) I4 (hfpX fr4 hps) st4 go
    rw [hA] at TI'
    refine thn TI' λr s5 ⟨u,hr,h5⟩=>?_
    subst hr
    refine thn h5 λ_ s6 ⟨x,H6,I6,r6,y6,st6,fr6⟩=>?_
    have I6':=I6.pinned (hfpX fr6 hps) (T.obj _ _ st6)
    have G:=hg cells s2 H2 (D+1) fp
    have TT':=ht cells s2 H2 (D+1) fp
    have EE:=he cells s2 H2 (D+1) fp
    rw [hX'] at G TT' EE
    have G':=G _ s6 (emb σ) H6 x u _ I6' r6 (step x H6 y6)
    rw [hA,hP,hw,hE,hxe] at G'
    refine thn G' λ_ s7 ⟨σ7,H7,I7,sb7,q7⟩=>?_
    have T':=TT' _ s7 σ7 H7 _ I7 q7
    rw [hA,hP,hw,hE,hxe] at T'
    refine thn T' λok s8 ⟨H8,I8,q8⟩=>?_
    -- what is pinned
    have pin_fp:∀ {σ9:St}{H9:Hp}{s9:Shared},Inv X' ([(D,({ cls:=.type "list",data:=.seq its.toArray k }:Obj))]++h7 fp s6.heap) σ9 H9 s9->tn (i+1) s9.heap/\∀ b ∈ fp,H9 b=none:=λ{σ9 H9 s9} I9=>
     ⟨T.keep _ _ _ st6 λb hb o e=>(I9.pin (b,o) (List.mem_append_right _ (List.mem_append_right _ (dZ hb e)))).1,λb hb=>by
      obtain⟨o,e,_⟩:=T.obj _ _ st6 b hb
      exact (I9.pin (b,o) (List.mem_append_right _ (List.mem_append_right _ (dZ hb e)))).2.1⟩
    cases ok with
    | false=>
     rw [if_neg (by decide)] at q8
     rw [if_neg (by decide)]
     obtain⟨m',hm,w8⟩:=hN _ _ q8
     exact⟨m',hm,i+1,ys,its,k,H8,I8.unpinned.weak sb7.1 sb7.2,rv,(pin_fp I8).1,(pin_fp I8).2,hlen,w8⟩
    | true=>
     rw [if_pos rfl] at q8
     rw [if_pos rfl]
     have E':=EE _ s8 σ7 H8 _ I8 q8
     rw [hA,hP,hw,hE,hxe] at E'
     refine thn E' λy s9 ⟨v9,H9,I9,r9,n9⟩=>?_
     obtain⟨m',hm,w9⟩:=hN _ _ n9
     have pD9:=I9.pin (D,{ cls:=.type "list",data:=.seq its.toArray k }) (List.mem_append_right _ (List.mem_append_left _ List.mem_cons_self))
     have hl:=rv.length
     have I9n:Inv X' [] σ7 H9 s9:=I9.pins_of λp hp=>nomatch hp
     refine call_meets F.slot_list_append ⟨_,pD9.1,rfl⟩ F.entry_list_append (F.args_list_append_2 _ _) (PySem.list_append D its.toArray k y (by rw [List.size_toArray];lia)) ⟨pD9.1,?_⟩
     have up:∃ k':Nat,(s9.heap.update D (Obj.mapSeq λxs=>xs.push y)).get? D=some { cls:=.type "list",data:=.seq (its++[y]).toArray k' }:=by
      have q:=PySem.IsL.update pD9.1 (λxs:Array Value=>xs.push y)
      simp only [List.push_toArray] at q
      exact⟨_,q⟩
     obtain⟨k',up⟩:=up
     have hoth:∀ b o,b≠D->s9.heap.get? b=some o->(s9.heap.update D (Obj.mapSeq λxs=>xs.push y)).get? b=some o:=λb o hb e=>(Heap.get?_update_other s9.heap _ (Ne.symm hb)).trans e
     have I10:=I9n.turned (t':=s9.toks) hoth pD9.2.1 Dloc Dex Dcell (λp hp=>absurd (show p ∈ ([]:List (Addr×Obj)) by rw [<-hX'] at hp;exact hp) (by simp))
     refine⟨m',hm,i+1,ys++[v9],its++[y],k',H9,(I10.weak sb7.1 sb7.2).pins_of (λp hp=>?_),rv.append (.cons r9 .nil),T.keep _ _ _ (pin_fp I9).1 (λb hb o e=>hoth b o (by rw [<-hD];exact Nat.ne_of_lt (fplt b hb)) e),(pin_fp I9).2,?_,w9⟩
     ·have:=List.mem_singleton.mp hp
      subst this
      exact⟨up,pD9.2.1,Dloc,Dfs,λv z=>by cases z⟩
     ·rw [List.length_append,List.length_singleton]
      lia
  ·have q:lo={ cls:=.type "list",data:=.seq ([]:List Value).toArray 0 }:=hlo.symm
   rw [<-q]
   exact I3
  ·exact T.keep _ _ _ st2 λb hb o e=>pushCells_keeps _ _ b o (Heap.get?_push_of_some _ (Heap.get?_push_of_some _ e))
 refine codeAny_compStart_list ?_ ?_
 ·exact loop _ rfl
 ·refine T.self X.A 0 _ _ _ (T.keep _ _ _ st2 λb hb o e=>pushCells_keeps _ _ b o (Heap.get?_push_of_some _ (Heap.get?_push_of_some _ e))) ?_
  exact loop _ rfl
end
end L2
namespace L2
open PySem PySem.Spec PyProof.Rows
open PySem.AutoSeq1 (wpAny_loadPart')
section
variable {prog:Program}{w:World}{A:Around}{E:Value->Shared->Prop}{s:Shared}
end
section
variable {X:Cx}{pins:List (Addr×Obj)}{σ:St}{H:Hp}{s:Shared}{h':Heap}{fp:List Addr}
theorem gJ.ch (hf:∀ b ∈ fp,gJ X pins H b):∀ b ∈ fp,(b ∈ X.ex\/X.s₀.heap.objs.size<=b)/\b≠X.env.locals/\(∀ x c,X.env.cells.lookup x=some c->c≠b)/\∀ p ∈ X.pn++pins,p.1≠b:=λb hb=>
 let ⟨_,f1,_,f3,f4,f5⟩:=hf b hb
 ⟨f3,f1,f4,f5⟩
theorem Inv.turns {t':Nat} (I:Inv X pins σ H s) (hf:∀ b ∈ fp,gJ X pins H b) (k:∀ b o,b ∉ fp->s.heap.get? b=some o->h'.get? b=some o):Inv X pins σ H { s with heap:=h',toks:=t' }:=by
 have nit:∀ b u,H b=some u->b ∉ fp:=λb u e z=>by have:=(hf b z).1;rw [e] at this;cases this
 refine I.step (g':=s.gens) (d':=s.drawn) (ch:=fp) (gJ.ch hf) (λb o _ _ hc e _=>k b o hc e) (λb o _ _ hc e _=>⟨o.slots,k b o hc e⟩) (λ_ _ _ _ n=>n)
  (λb o hc e=>⟨o,k b o hc e⟩) (λ_ _ e=>e) (λ_ _ _ e=>e) (λb ps e=>⟨#[],by rw [e];simp⟩) (λm hm=>?_) (λb u e=>?_) I.bare
 ·obtain⟨o,es,ep,ho,r⟩:=hm
  exact⟨o,es,ep,k _ o (λz=>(hf _ z).2.1 rfl) ho,r⟩
 ·refine (I.hok b u e).stay (λc v hc q=>k c v ?_ q) (λ_ q=>q) λ_ _ q=>q
  rcases hc with z | z
  ·rw [z];exact nit b u e
  ·exact nit c _ z
end
end L2
namespace L2
open PySem PySem.Spec PyProof.Rows
section
variable {X:Cx}
noncomputable def qG (y:V):Prop:=y=.non\/∃ i:Int,y=.int i/\0<=i/\i < 1024
end
end L2
namespace L2
open PySem PySem.Spec PyProof.Rows
noncomputable def eO (k:Nat) (js:List Nat) (σ:St):St:=List.replicate k none++js.map λj=>(σ[j]?).getD none
noncomputable def tD (scope:Scope) (ns:List (Str×NameKind)) (N Nc:List Str) (k:Nat) (js:List Nat):Bool:=
 decide ((scope.names.map (·.1)).Nodup) && decide Nc.Nodup && decide (Nc.length=k+js.length) &&
 (scope.names.all λx=>x.2 != .free || ns.lookup x.1==some .cell || ns.lookup x.1==some .free) &&
 ((List.range js.length).all λi=>match Nc[k+i]?,js[i]? with | some x,some j=>N[j]?==some x && scope.names.lookup x==some .free | _,_=>false)
theorem qf {X:Cx}{scope:Scope} (ns:List (Str×NameKind)) (N Nc:List Str) (k:Nat) (js:List Nat) (hns:X.env.scope.names=ns) (hN:X.N=N) (hk:scope.kind=.function) (h:tD scope ns N Nc k js=true):eU X scope Nc (eO k js):=by
 unfold tD at h
 simp only [Bool.and_eq_true,decide_eq_true_eq] at h
 obtain⟨⟨⟨⟨h1,h2⟩,h3⟩,h4⟩,h5⟩:=h
 refine⟨hk,h1,h2,λx hx hf=>?_,λσ _=>?_,λσ _ i x v e1 e2=>?_⟩
 ·have:=List.all_eq_true.mp h4 x hx
  rw [hf] at this
  simp only [Bool.or_eq_true,beq_iff_eq,bne_self_eq_false,Bool.false_eq_true,false_or] at this
  unfold Env.kindOf
  rw [hns]
  exact this
 ·unfold eO
  rw [List.length_append,List.length_replicate,List.length_map,h3]
 ·unfold eO at e2
  by_cases hi:i < k
  ·rw [List.getElem?_append_left (by simpa using hi),List.getElem?_replicate,if_pos hi] at e2
   cases e2
  ·rw [List.getElem?_append_right (by simpa using hi),List.length_replicate,List.getElem?_map] at e2
   cases ej:js[i - k]? with
   | none=>rw [ej] at e2;cases e2
   | some j=>
    rw [ej] at e2
    have hlt:=(List.getElem?_eq_some_iff.mp ej).1
    have:=List.all_eq_true.mp h5 (i - k) (List.mem_range.mpr hlt)
    rw [show k+(i - k)=i by lia,e1,ej] at this
    simp only [Bool.and_eq_true,beq_iff_eq] at this
    refine⟨j,by rw [hN];exact this.1,?_,this.2⟩
    have e3:(σ[j]?).getD none=some v:=Option.some.inj e2
    cases eq:σ[j]? with
    | none=>rw [eq] at e3;cases e3
    | some o=>rw [eq] at e3;rw [show o=some v from e3]
theorem Sub.one (x:V) (tl:St):Sub (none::tl) (some x::tl):=⟨rfl,λi v h=>by
 cases i with
 | zero=>cases h
 | succ i=>exact h⟩
theorem Sub.two (x y:V) (tl:St):Sub (none::none::tl) (some x::some y::tl):=⟨rfl,λi v h=>by
 match i with
 | 0=>cases h
 | 1=>cases h
 | i+2=>exact h⟩
section
variable {σe tl:St}{tt:TT}{te:TE}{H:Hp}{Q:VK}
end
section
variable {X:Cx}
theorem oW:OpR X (binaryOp .Mult) (rI IntMulOk λi j=>.int (i*j)):=opI λ_ _ _ _ _ _ _ hc q=>mul_int q hc
end
theorem aL.new {H:Hp}{p:Addr} (h:H p=none) (o:HO):aL H (upd H p o):=λb u q=>by rw [aO (bb q h)];exact q
noncomputable def iO (l:Addr) (H:Hp):Prop:=∃ x y z:Int,0<=x/\H l=some (.lst [.int x,.int y,.int z])
noncomputable def Fr1 (l:Addr) (H H':Hp):Prop:=(∀ b o,b≠l->H b=some o->H' b=some o)/\iO l H'
theorem Fr1.refl {l:Addr}{H:Hp} (h:iO l H):Fr1 l H H:=⟨λ_ _ _ h=>h,h⟩
theorem Fr1.trans {l:Addr}{H H1 H2:Hp} (a:Fr1 l H H1) (b:Fr1 l H1 H2):Fr1 l H H2:=⟨λc o n h=>b.1 c o n (a.1 c o n h),b.2⟩
theorem Fr1.same {l:Addr}{H H1 H2:Hp} (a:Fr1 l H H1) (b:aL H1 H2):Fr1 l H H2:=⟨λc o n h=>b c o (a.1 c o n h),let ⟨x,y,z,h0,h⟩:=a.2;⟨x,y,z,h0,b _ _ h⟩⟩
theorem Fr1.upd {l:Addr}{H:Hp}{x y z:Int} (h0:0<=x):Fr1 l H (upd H l (.lst [.int x,.int y,.int z])):=⟨λb o n h=>by rw [aO n];exact h,x,y,z,h0,bi⟩
theorem Fr1.tup {l:Addr}{H H':Hp}{a:Addr}{xs:List V} (e:Fr1 l H H') (hl:iO l H) (h:H a=some (.tup xs)):H' a=some (.tup xs):=
 e.1 a _ (by rintro rfl;obtain⟨x,y,z,_,q⟩:=hl;rw [q] at h;cases h) h
theorem Fr1.free {l:Addr}{H H':Hp} (e:Fr1 l H H') (hl:iO l H) {a:Addr} (h:H' a=none):H a=none:=by
 cases q:H a with
 | none=>rfl
 | some o=>
  by_cases z:a=l
  ·subst z
   obtain⟨x,y,w,_,q'⟩:=e.2
   rw [q'] at h;cases h
  ·rw [e.1 a o z q] at h;cases h
end L2
namespace L2
open PySem PySem.Spec PyProof.Rows
noncomputable def tM (v:V):Prop:=v=.non\/v=.int 0\/v=.int 1
theorem tM.plain {v:V} (h:tM v):qG v:=by
 rcases h with h | h | h
 ·exact .inl h
 ·exact .inr ⟨0,h,by decide,by decide⟩
 ·exact .inr ⟨1,h,by decide,by decide⟩
theorem lR {n:Nat} (h:n<=1000):n<=sizeLine:=Nat.le_of_lt (mw h)
theorem SqT.inj {K:PySem.W.Frag}{H:Hp}{a:Addr}{xs ys:List V} (h:H a=some (.tup xs)) (hk:∀ o,K.lookup a=some o->False) (h':SqT K H a ys):ys=xs:=by
 rcases h' with (h' | ⟨o,h'⟩) | ⟨o,its,n,hk',_⟩
 ·rw [h] at h';cases h';rfl
 ·rw [h] at h';cases h'
 ·exact (hk o hk').elim
end L2
namespace L2
open PySem PySem.Spec PyProof.Rows
theorem sR:IntMulOk (10 ^ Int.toNat 60) (10 ^ Int.toNat 60):=by unfold IntMulOk;decide +kernel
theorem sn:IntMulOk (10 ^ Int.toNat 60*10 ^ Int.toNat 60) (10 ^ Int.toNat 60):=by unfold IntMulOk;decide +kernel
theorem tm:IntMulOk (10 ^ Int.toNat 60*10 ^ Int.toNat 60*10 ^ Int.toNat 60) (10 ^ Int.toNat 60):=by unfold IntMulOk;decide +kernel
theorem jw:(0:Int) < 10 ^ Int.toNat 60*10 ^ Int.toNat 60*10 ^ Int.toNat 60*10 ^ Int.toNat 60:=by decide +kernel
theorem tL (b:Bool):-(2 ^ 64) < (if b=true then (1:Int) else 0):=by cases b<;>decide
theorem sH (b:Bool):(if b=true then (1:Int) else 0) < 2 ^ 64:=by cases b<;>decide
theorem pV (b:Bool):0<=(if b=true then (1:Int) else 0):=by cases b<;>decide
theorem p60:kZ 10 60:=⟨by decide,by decide,by decide⟩
theorem p18:kZ 10 18:=⟨by decide,by decide,by decide⟩
end L2
namespace L2
open PySem PySem.Spec PyProof.Rows
open PySem.AutoSeq1 (wpAny_loadPart')
theorem n4 (l:Addr) (items:Array Value) (n:Nat) (dct:Option Addr) (sl:Array (Option Value)) (u:Tok) :
  Meets (Builtin.«tuple.__mul__» ⟨[.ref l,.int 1 u],[]⟩) (λ_ R s=>s.heap.get? l=some { cls:=.type "tuple",dict:=dct,data:=.seq items n,slots:=sl }/\R (.ok (.ret (.ref l))) s):=
 .of_wp λprog w A R s h=>by
  obtain⟨hp,g,d,tk,os⟩:=s;obtain⟨hl,h⟩:=h
  wp_walk using wpAny_loadPart' hl
  exact⟨_,rfl,h⟩
theorem mD (l:Addr) (items:Array Value) (n:Nat) (dct:Option Addr) (sl:Array (Option Value)) (x:Int) (u:Tok) (h2:2<=x) (h3:x < 1000) (he:items.isEmpty=false) (hz:items.size<=1000)
  (hsz:((List.replicate x.toNat items).foldl (λx1 x2=>x1++x2) #[]).size<=sizeLine) :
  Meets (Builtin.«tuple.__mul__» ⟨[.ref l,.int x u],[]⟩) (λ_ R s=>s.heap.get? l=some { cls:=.type "tuple",dict:=dct,data:=.seq items n,slots:=sl }/\
   R (.ok (.ret (.ref s.heap.objs.size))) { s with heap:=s.heap.push { cls:=.type "tuple",data:=.seq ((List.replicate x.toNat items).foldl (λx1 x2=>x1++x2) #[]) } }):=
 .of_wp λprog w A R s h=>by
  obtain⟨hp,g,d,tk,os⟩:=s;obtain⟨hl,h⟩:=h
  have c1:(x < -(2 ^ 63) || x>=2 ^ 63)=false:=by simp;lia
  have c2:(items.isEmpty || x==1)=false:=by rw [he];simp;lia
  have c3:(x<=0 || items.isEmpty)=false:=by rw [he];simp;lia
  have hpr:(items.size:Int)*x<=1000000:=by
   have a1:(items.size:Int)*x<=1000*x:=Int.mul_le_mul_of_nonneg_right (by lia) (by lia)
   lia
  have c4:¬ ((items.size:Int)*x > (2 ^ 63 - 1) / 8):=by lia
  have c5:Builtin.Tuple.tupleTooMany ((items.size:Int)*x)=false:=by
   unfold Builtin.Tuple.tupleTooMany
   exact decide_eq_false (by have:(sizeLine:Nat)=16777216:=rfl
                             lia)
  wp_walk using wpAny_loadPart' hl
  refine wpAny_ite_false (decide_eq_false (by rw [c1];exact Bool.false_ne_true)) ?_
  wp_walk using wpAny_loadPart' hl
  refine wpAny_ite_false (decide_eq_false (by rw [c2];exact Bool.false_ne_true)) ?_
  wp_walk using wpAny_loadPart' hl
  refine wpAny_ite_false (decide_eq_false (by rw [c3];exact Bool.false_ne_true)) ?_
  wp_walk using wpAny_loadPart' hl
  refine wpAny_ite_false (decide_eq_false c4) ?_
  wp_walk using wpAny_loadPart' hl
  exact⟨_,rfl,h⟩
theorem gu:fillsNumberSlot (.type "tuple") "mul" = pure false:=
 PySem.fillsNumberSlot_seq (id:="tuple.__mul__") (r:=some (.builtin "tuple.__rmul__")) F.slot_tuple_mul.lookup (by decide +kernel) F.slot_tuple_rmul.lookup (by decide +kernel)
theorem ka:seqRepeat? (.type "tuple")=pure (some (.builtin "tuple.__mul__")):=by
 unfold seqRepeat?
 rw [PySem.seqSlot_of (T:="tuple") (name:="__mul__") (id:="tuple.__mul__") F.slot_tuple_mul.lookup (by decide +kernel),PySem.seqSlot_of (T:="tuple") (name:="__rmul__") (id:="tuple.__rmul__") F.slot_tuple_rmul.lookup (by decide +kernel)]
 rfl
theorem hU (a:Int) (t:Tok) (l:Addr) (items:Array Value) (n:Nat) (dct:Option Addr) (sl:Array (Option Value)) :
  Meets (Builtin.«int.__rmul__» ⟨[.int a t,.ref l],[]⟩) (λ_ R s=>s.heap.get? l=some { cls:=.type "tuple",dict:=dct,data:=.seq items n,slots:=sl }/\R (.ok (.ret Value.notImplemented)) s):=
 .of_wp λprog w A R s h=>by obtain⟨hp,g,d,tk,os⟩:=s;obtain⟨hl,h⟩:=h;wp_walk using wpAny_loadPart' hl;exact⟨_,rfl,h⟩
section
variable {X:Cx}
noncomputable def sS (K:PySem.W.Frag):R2:=λx y H Q=>∃ l k xs,x=.ref l/\y=.int k/\SqT K H l xs/\xs≠[]/\xs.length<=1000/\1<=k/\k < 1000/\(k=1->Q (.ref l) H)/\
 (k≠1->∀ p,H p=none->Q (.ref p) (upd H p (.tup (List.replicate k.toNat xs).flatten)))
theorem oP:OpR X (binaryOp .Mult) (sS X.K):=by
 intro pins s σ H x y v u Q I rx ry h
 obtain⟨l,k,xs,rfl,rfl,hq,hne,hl1,h1,h2,q1,q2⟩:=h
 cases rx
 obtain⟨t,rfl⟩:=ry
 obtain⟨its,rv,p,hz⟩:=I.tuple hq
 obtain⟨⟨c,dct,dt,sl⟩,e,hc,n,hd⟩:=p
 replace hc:c=.type "tuple":=hc
 replace hd:dt=.seq its.toArray n:=hd
 subst hc hd
 have hlen:=rv.length
 refine wpAny_binaryOp_repeat_ref (T:="tuple") (U:="int") (by decide) ⟨_,e,rfl⟩ (λs'=>typeIs_int s' k t) gu F.fills_int_mul F.slot_int_rmul ka F.slot_int_index.lookup
  (call_meets F.slot_int_rmul (typeIs_int s k t) F.entry_int_rmul (F.args_int_rmul_2 _ _) (hU k t l its.toArray n dct sl) ⟨e,rfl,⟨_,e,rfl⟩,?_⟩)
 by_cases hk:k=1
 ·subst hk
  exact call_meets F.slot_tuple_mul ⟨_,e,rfl⟩ F.entry_tuple_mul (F.args_tuple_mul_2 _ _) (n4 l its.toArray n dct sl t) ⟨e,.ref l,H,I,rfl,q1 rfl⟩
 ·have f0:List.foldl (λx1 x2=>x1++x2) #[] (List.replicate k.toNat its.toArray)=(List.replicate k.toNat its).flatten.toArray:=by
   have:=gA its k.toNat []
   rw [List.nil_append] at this
   exact this
  have hsz:(List.replicate k.toNat xs).flatten.length<=sizeLine:=by
   rw [jq]
   have:k.toNat*xs.length<=1000*1000:=Nat.mul_le_mul (by lia) hl1
   have hs:sizeLine=16777216:=rfl
   lia
  have hsz2:(List.replicate k.toNat its).flatten.length<=sizeLine:=by
   rw [jq] at hsz ⊢
   rw [<-hlen];exact hsz
  refine call_meets F.slot_tuple_mul ⟨_,e,rfl⟩ F.entry_tuple_mul (F.args_tuple_mul_2 _ _) (mD l its.toArray n dct sl k t (by lia) h2 ?_ (by rw [List.size_toArray];lia) (by rw [f0,List.size_toArray];exact hsz2)) ⟨e,?_⟩
  ·cases its with
   | nil=>cases xs with
    | nil=>exact absurd rfl hne
    | cons _ _=>cases hlen
   | cons _ _=>rfl
  ·rw [f0]
   refine⟨.ref _,_,I.laid (t':=s.toks) (o:=.tup (List.replicate k.toNat xs).flatten) (λ_ _ q=>Heap.get?_push_of_some _ q) (Nat.le_refl _) ⟨hsz,(List.replicate k.toNat its).flatten,rv.rep k.toNat,⟨_,Heap.get?_push_size _ rfl,rfl,⟨0,rfl⟩,rfl⟩⟩,rfl,q2 hk _ I.fresh⟩
end
end L2
namespace L2
open PySem PySem.Spec PyProof.Rows
theorem iO.ne {l p:Addr}{H:Hp} (h:iO l H) (hp:H p=none):p≠l:=by
 rintro rfl
 obtain⟨x,y,z,_,q⟩:=h
 rw [q] at hp;cases hp
theorem iO.new {l p:Addr}{H:Hp} (h:iO l H) (hp:H p=none) (o:HO):iO l (upd H p o):=let ⟨x,y,z,h0,q⟩:=h;⟨x,y,z,h0,by rw [aO (Ne.symm (h.ne hp))];exact q⟩
theorem Fr1.new {l p:Addr}{H H':Hp} (e:Fr1 l H H') (hp:H' p=none) (o:HO):Fr1 l H (L2.upd H' p o):=e.same (aL.new hp o)
end L2
namespace L2
open PySem PySem.Spec PyProof.Rows
section
variable {X:Cx}{K:PySem.W.Frag}
end
end L2
namespace L2
open PySem PySem.Spec PyProof.Rows
section
variable {X:Cx}
end
end L2
namespace L2
open PySem PySem.Spec PyProof.Rows
theorem Fr1.own {l L:Addr}{H H':Hp} (e:Fr1 l H H') (hh:iO l H) (hL:H L=none) (o:HO):Fr1 l H (L2.upd H' L o):=
 ⟨λb u n q=>by rw [aO (bb q hL)];exact e.1 b u n q,let ⟨x,y,z,h0,q⟩:=e.2;⟨x,y,z,h0,by rw [aO (Ne.symm (hh.ne hL))];exact q⟩⟩
theorem aL.own {L:Addr}{H H':Hp} (e:aL H H') (hL:H L=none) (o:HO):aL H (L2.upd H' L o):=λb u q=>by rw [aO (bb q hL)];exact e b u q
theorem jE {n j:Nat} (h:j < n):ixN n (j:Int)=some j:=by
 unfold ixN
 rw [if_pos (by lia),if_pos (by lia),Int.toNat_natCast]
end L2
namespace L2
open PySem PySem.Spec PyProof.Rows
theorem Inv.bigG {X:Cx}{pins:List (Addr×Obj)}{σ:St}{H:Hp}{s:Shared} (I:Inv X pins σ H s):sysModules < s.heap.objs.size:=by
 have h:mainGlobals < s.heap.objs.size:=(I.mod.glob.keeps I.bk).lt
 exact Nat.lt_trans (by decide) h
section
variable {X:Cx}{e:Expr}{ty:TE}{p1 p2 p3 p4 dpos apos cpos:Pos}{j1 j2 j3 j4:Nat}
end
end L2
namespace L2
open PySem PySem.Spec PyProof.Rows
end L2
namespace L2
open PySem PySem.Spec PyProof.Rows
open PySem.AutoSeq1 (wpAny_loadPart')
section
variable {prog:Program}{w:World}{A:Around}{E:Value->Shared->Prop}{s:Shared}
end
section
variable {X:Cx}
end
section
variable {prog:Program}{w:World}{A:Around}{E:Value->Shared->Prop}{s:Shared}
end
section
variable {X:Cx}{e:Expr}{te:TE}{p1 p2 p3 pos:Pos}{j:Nat}
end
end L2
namespace L2
open PySem PySem.Spec PyProof.Rows
end L2
namespace L2
open PySem PySem.Spec PyProof.Rows
theorem aC.at {xs:List V}{us:List Value} (r:aC xs us):∀ (j:Nat) (h:j < us.length) ,∃ h':j < xs.length,aP xs[j] us[j]:=by
 induction r with
 | nil=>intro j h;exact absurd h (Nat.not_lt_zero j)
 | cons a t ih=>
  intro j h
  cases j with
  | zero=>exact⟨Nat.zero_lt_succ _,a⟩
  | succ j=>
   obtain⟨h1,r1⟩:=ih j (Nat.lt_of_succ_lt_succ h)
   exact⟨Nat.succ_lt_succ h1,r1⟩
theorem ij (e:Nat->Bool) (n:Nat):(List.range (n+1)).all e=(e 0 && (List.range n).all λj=>e (j+1)):=by
 rw [List.range_succ_eq_map,List.all_cons,List.all_map];rfl
section
variable {X:Cx}{K:PySem.W.Frag}{pins:List (Addr×Obj)}{σ:St}{H:Hp}{s:Shared}{A:Around}{a b:Addr}{xs ys:List V}
end
end L2
namespace L2
open PySem PySem.Spec PyProof.Rows
section
variable {X:Cx}{pos p1 p2:Pos}{j1 j2:Nat}
end
section
variable {K:PySem.W.Frag}{H:Hp}
end
noncomputable def Kd (H:Hp):V->Prop
 | .non=>True
 | .bl _=>True
 | .int _=>True
 | .str _=>True
 | .ref a=>(∃ xs,H a=some (.lst xs))\/(∃ xs,H a=some (.tup xs))\/(∃ d,H a=some (.dK d))\/∃ d,H a=some (.dT d)
 | _=>False
section
variable {X:Cx}{K:PySem.W.Frag}
end
theorem Kd.same {H H':Hp}{x:V} (s:aL H H') (h:Kd H x):Kd H' x:=by
 cases x with
 | ref a=>
  rcases h with⟨xs,e⟩ | ⟨xs,e⟩ | ⟨d,e⟩ | ⟨d,e⟩
  ·exact .inl ⟨xs,s _ _ e⟩
  ·exact .inr (.inl ⟨xs,s _ _ e⟩)
  ·exact .inr (.inr (.inl ⟨d,s _ _ e⟩))
  ·exact .inr (.inr (.inr ⟨d,s _ _ e⟩))
 | _=>exact h
noncomputable def tK:List V:=[.int 1,.int 2,.int 4,.int 8,.int 16,.int 32,.int 64]
noncomputable def Th (H:Hp) (x:V):Prop:=Kd H x/\∀ a xs,x=.ref a->H a=some (.tup xs)->xs.length<=1000/\∀ y ∈ xs,Kd H y
theorem Th.same {H H':Hp}{x:V} (s:aL H H') (h:Th H x):Th H' x:=by
 refine⟨h.1.same s,λa xs e q=>?_⟩
 subst e
 rcases h.1 with⟨ys,e⟩ | ⟨ys,e⟩ | ⟨d,e⟩ | ⟨d,e⟩
 ·rw [s _ _ e] at q;cases q
 ·have:=s _ _ e
  rw [this] at q
  cases q
  obtain⟨h1,h2⟩:=h.2 a _ rfl e
  exact⟨h1,λy hy=>(h2 y hy).same s⟩
 ·rw [s _ _ e] at q;cases q
 ·rw [s _ _ e] at q;cases q
end L2
namespace HT
open PySem PySem.Spec PyProof.Rows L2
section
variable {prog:Program}{w:World}{A:Around}{E:Value->Shared->Prop}{s:Shared}
end
end HT
namespace L2
open PySem PySem.Spec PyProof.Rows
theorem Kd.own {D:Addr}{H:Hp}{x:V}{ys:List V} (h:Kd H x) (e:∃ zs,H D=some (.lst zs)):Kd (upd H D (.lst ys)) x:=by
 cases x with
 | ref a=>
  by_cases q:a=D
  ·subst q;exact .inl ⟨ys,bi⟩
  ·show (∃ xs,upd H D (.lst ys) a=some (.lst xs))\/_
   rw [aO q]
   exact h
 | _=>exact h
theorem Th.flat {H:Hp}{x:V} (h:dy x=true):Th H x:=by
 cases x<;>first | exact⟨trivial,λa xs e=>nomatch e⟩ | cases h
theorem Th.lst {H:Hp}{a:Addr}{xs:List V} (h:H a=some (.lst xs)):Th H (.ref a):=
 ⟨.inl ⟨xs,h⟩,λb ys e q=>by cases e;rw [h] at q;cases q⟩
theorem Th.tup {H:Hp}{a:Addr}{xs:List V} (h:H a=some (.tup xs)) (hl:xs.length<=1000) (hk:∀ y ∈ xs,Kd H y):Th H (.ref a):=
 ⟨.inr (.inl ⟨xs,h⟩),λb ys e q=>by cases e;rw [h] at q;cases q;exact⟨hl,hk⟩⟩
theorem Th.dK {H:Hp}{a:Addr}{d} (h:H a=some (.dK d)):Th H (.ref a):=
 ⟨.inr (.inr (.inl ⟨d,h⟩)),λb ys e q=>by cases e;rw [h] at q;cases q⟩
theorem Th.dT {H:Hp}{a:Addr}{d} (h:H a=some (.dT d)):Th H (.ref a):=
 ⟨.inr (.inr (.inr ⟨d,h⟩)),λb ys e q=>by cases e;rw [h] at q;cases q⟩
end L2
namespace L2
open PySem PySem.Spec PyProof.Rows
section
variable {X:Cx}{scope:Scope}{Nc:List Str}{emb:St->St}{elt iter tg:Expr}{ifs:List Expr}{pos:Pos}{wi:TI}{g:TG}{tt:TT}{te:TE}
end
end L2
namespace L2
open PySem PySem.Spec PyProof.Rows
noncomputable def aR:Expr->Bool
 | .Starred _ _=>false
 | _=>true
theorem bR {e:Expr}{es:List Expr}{env:Env} (h:aR e=true):starEach (e::es) env=(false,eval e env)::starEach es env:=by
 cases e<;>first | (cases h;done) | rfl
theorem cS {pos:Pos}{env:Env}:∀ {es:List Expr},es.all aR=true->(backTo pos (starEach es env)).any (·.1)=false
 | [],_=>by simp [starEach,backTo]
 | e::es,h=>by
  rw [List.all_cons,Bool.and_eq_true] at h
  rw [bR h.1]
  have:=cS (pos:=pos) (env:=env) h.2
  unfold backTo at this ⊢
  rw [List.map_cons,List.any_cons,this]
  rfl
theorem ix {pos:Pos}{env:Env}{es:List Expr} (h:es.all aR=true) (hl:es.length < 30):((backTo pos (starEach es env)).all (λx=>!x.1) && (backToKw pos (keywordEach [] env)).all (λx=>x.1.isSome)
   && decide (es.length+([]:List Keyword).length+(if ([]:List Keyword).isEmpty then 0 else 1) < 30))=true:=by
 have h1:(backTo pos (starEach es env)).all (λx=>!x.1)=true:=by
  have:=cS (pos:=pos) (env:=env) h
  rw [List.all_eq_true]
  intro x hx
  rw [List.any_eq_false] at this
  simpa using this x hx
 have h2:(backToKw pos (keywordEach [] env)).all (λx=>x.1.isSome)=true:=by simp [keywordEach,backToKw]
 rw [h1,h2]
 simpa using hl
theorem nY {e:Expr}{env:Env} (h:aR e=true):starEach [e] env=[(false,eval e env)]:=by rw [bR h];rfl
noncomputable def oE:Expr->Bool
 | .UnaryOp .Not _ _=>false
 | .BoolOp _ _ _=>false
 | .IfExp _ _ _ _=>false
 | .Compare _ _ _ _=>false
 | _=>true
theorem mZ {a:Expr}{env:Env} (h:oE a=true):∀ whole,PySem.isTrue a env whole=(do let v <-whole;standAt a.pos;holding [v] (truthy v)):=by
 intro whole
 cases a with
 | UnaryOp op x p=>cases op<;>first | (cases h;done) | rfl
 | BoolOp _ _ _=>cases h
 | IfExp _ _ _ _=>cases h
 | Compare _ _ _ _=>cases h
 | _=>rfl
theorem nI {t:Expr}{ts:List Expr}{env:Env} (h:aR t=true):assignEach (t::ts) env=(false,assign t env)::assignEach ts env:=by
 cases t<;>first | (cases h;done) | rfl
theorem pq {t:Expr}{ts:List Expr}{env:Env} (h:aR t=true):(assignEach (t::ts) env).map (·.2)=assign t env::(assignEach ts env).map (·.2):=by rw [nI h];rfl
theorem pR {t:Expr}{env:Env} (h:aR t=true):(assignEach [t] env).map (·.2)=[assign t env]:=by rw [pq h];simp [assignEach]
noncomputable def ip:Expr->Bool
 | .Slice _ _ _ _=>false
 | _=>true
theorem pT {o i:Expr}{pos:Pos}{env:Env} (h:ip i=true) (v:Value):assign (.Subscript o i pos) env v=(do
   let ov <-holding [v] (eval o env)
   let iv <-holding [v,ov] (eval i env)
   standAt pos
   holding [v,ov,iv] (setItem ov iv v)
   release [v,ov,iv] []):=by
 cases i<;>first | (cases h;done) | rfl
theorem ku {i:Expr} (h:ip i=true):jW i:=by
 intro o j
 cases i<;>first | (cases h;done) | rfl
end L2
namespace L2
open PySem PySem.Spec PyProof.Rows
inductive D where
 | non | bl (b:Bool) | int (i:Int) | str (x:Str) | ty (n:String) | dct | scr (ns:List Int) | tup (ds:List D) | lst (ds:List D)
 deriving Inhabited
inductive W where
 | d (x:D) | h (n:Nat)
 deriving Inhabited
abbrev Sto:=List (List D)
abbrev Ev:=List (Option W)
noncomputable def KLs (K:PySem.W.Frag) (a:Addr) (xs:List V):Prop:=
 ∃ (o:Obj) (its:Array Value) (n:Nat),K.lookup a=some o/\o.cls=.type "list"/\o.dict=none/\o.data=.seq its n/\its.size<=sizeLine/\aC xs its.toList
section
variable (K:PySem.W.Frag) (H:Hp) (φ:List Addr)
mutual
noncomputable def Rl:D->V->Prop
 | .non,v=>v=.non
 | .bl b,v=>v=.bl b
 | .int i,v=>v=.int i
 | .str x,v=>v=.str x
 | .ty n,v=>v=.ty n
 | .dct,v=>∃ a,v=.ref a/\((∃ d,H a=some (.dK d))\/∃ d,H a=some (.dT d))
 | .scr ns,v=>∃ a,v=.ref a/\((∃ o,H a=some (.frz o (.lst (ns.map V.int))))\/KLs K a (ns.map V.int))
 | .tup ds,v=>∃ a vs,v=.ref a/\SqT K H a vs/\Rls ds vs
 | .lst ds,v=>∃ a vs,v=.ref a/\a ∉ φ/\Rd H a (.lst vs)/\Rls ds vs
noncomputable def Rls:List D->List V->Prop
 | [],vs=>vs=[]
 | d::ds,vs=>∃ v r,vs=v::r/\Rl d v/\Rls ds r
end
noncomputable def Rw:W->V->Prop
 | .d x,v=>Rl K H φ x v
 | .h n,v=>∃ a,φ[n]?=some a/\v=.ref a
noncomputable def Rws:List W->List V->Prop
 | [],vs=>vs=[]
 | d::ds,vs=>∃ v r,vs=v::r/\Rw K H φ d v/\Rws ds r
structure Sr (st:Sto):Prop where
 nd:φ.Nodup
 len:φ.length=st.length
 at_:∀ (n:Nat) a ds,φ[n]?=some a->st[n]?=some ds->∃ vs,H a=some (.lst vs)/\Rls K H φ ds vs
structure Er (env:Ev) (σ:St):Prop where
 len:env.length=σ.length
 at_:∀ (i:Nat) w,env[i]?=some (some w)->∃ v,σ[i]?=some (some v)/\Rw K H φ w v
end
structure Fw (φ φ':List Addr) (H H':Hp):Prop where
 ext:∃ ψ,φ'=φ++ψ/\∀ a ∈ ψ,H a=none
 keep:∀ b o,b ∉ φ->H b=some o->H' b=some o
 there:∀ b o,H b=some o->∃ o',H' b=some o'
section
variable {K:PySem.W.Frag}{H H1 H2 H':Hp}{φ φ1 φ2 φ':List Addr}{st st':Sto}
theorem Fw.refl (φ:List Addr) (H:Hp):Fw φ φ H H:=⟨⟨[],by simp,by simp⟩,λ_ _ _ h=>h,λ_ o h=>⟨o,h⟩⟩
theorem Fw.trans (a:Fw φ φ1 H H1) (b:Fw φ1 φ2 H1 H2):Fw φ φ2 H H2:=by
 obtain⟨ψ,rfl,e1⟩:=a.ext
 obtain⟨ψ2,rfl,e2⟩:=b.ext
 refine⟨⟨ψ++ψ2,by rw [List.append_assoc],λc hc=>?_⟩,λc o hc h=>?_,λc o h=>?_⟩
 ·rcases List.mem_append.mp hc with z | z
  ·exact e1 c z
  ·cases q:H c with
   | none=>rfl
   | some o=>
    obtain⟨o',q'⟩:=a.there c o q
    rw [e2 c z] at q';cases q'
 ·refine b.keep c o (λz=>?_) (a.keep c o hc h)
  rcases List.mem_append.mp z with z | z
  ·exact hc z
  ·rw [e1 c z] at h;cases h
 ·obtain⟨o',q⟩:=a.there c o h
  exact b.there c o' q
theorem Fw.same (s:aL H H'):Fw φ φ H H':=⟨⟨[],by simp,by simp⟩,λb o _ h=>s b o h,λb o h=>⟨o,s b o h⟩⟩
theorem Fw.new {p:Addr}{o:HO} (hp:H p=none):Fw φ φ H (upd H p o):=.same (aL.new hp o)
theorem Fw.get (f:Fw φ φ' H H') {n:Nat}{a:Addr} (h:φ[n]?=some a):φ'[n]?=some a:=by
 obtain⟨ψ,rfl,_⟩:=f.ext
 rw [List.getElem?_append_left (List.getElem?_eq_some_iff.mp h).1];exact h
theorem Fw.nin (f:Fw φ φ' H H') {a:Addr}{o:HO} (h:a ∉ φ) (q:H a=some o):a ∉ φ':=by
 obtain⟨ψ,rfl,e⟩:=f.ext
 intro z
 rcases List.mem_append.mp z with z | z
 ·exact h z
 ·rw [e a z] at q;cases q
theorem Sr.lst (S:Sr K H φ st) {a:Addr} (h:a ∈ φ):∃ vs,H a=some (.lst vs):=by
 obtain⟨n,hn,e⟩:=List.mem_iff_getElem.mp h
 have hs:n < st.length:=by rw [<-S.len];exact hn
 obtain⟨vs,q,_⟩:=S.at_ n a st[n] (by rw [List.getElem?_eq_getElem hn,e]) (by rw [List.getElem?_eq_getElem hs])
 exact⟨vs,q⟩
theorem Sr.nin (S:Sr K H φ st) {a:Addr} (h:H a=none):a ∉ φ:=λz=>by
 obtain⟨vs,q⟩:=S.lst z
 rw [q] at h;cases h
theorem Rd.nin (S:Sr K H φ st) {a:Addr}{vs:List V} (h:Rd H a (.tup vs)):a ∉ φ:=λz=>by
 obtain⟨ws,q⟩:=S.lst z
 rcases h with h | ⟨o,h⟩<;>(rw [q] at h;cases h)
theorem Rd.fw (f:Fw φ φ' H H') {a:Addr}{u:HO} (hn:a ∉ φ) (h:Rd H a u):Rd H' a u:=by
 rcases h with h | ⟨o,h⟩
 ·exact .inl (f.keep _ _ hn h)
 ·exact .inr ⟨o,f.keep _ _ hn h⟩
theorem SqT.fw (S:Sr K H φ st) (f:Fw φ φ' H H') {a:Addr}{vs:List V} (h:SqT K H a vs):SqT K H' a vs:=by
 rcases h with h | h
 ·exact .inl (h.fw f (h.nin S))
 ·exact .inr h
theorem Rd.some {a:Addr}{u:HO} (h:Rd H a u):∃ o,H a=some o:=by
 rcases h with h | ⟨o,h⟩
 ·exact⟨_,h⟩
 ·exact⟨_,h⟩
mutual
theorem Rl.fw (S:Sr K H φ st) (f:Fw φ φ' H H'):∀ {d:D}{v:V},Rl K H φ d v->Rl K H' φ' d v
 | .non,_,h=>h
 | .bl _,_,h=>h
 | .int _,_,h=>h
 | .str _,_,h=>h
 | .ty _,_,h=>h
 | .dct,_,h=>by
  obtain⟨a,rfl,h⟩:=h
  refine⟨a,rfl,?_⟩
  have hn:a ∉ φ:=λz=>by
   obtain⟨ws,q⟩:=S.lst z
   rcases h with⟨d,h⟩ | ⟨d,h⟩<;>(rw [q] at h;cases h)
  rcases h with⟨d,h⟩ | ⟨d,h⟩
  ·exact .inl ⟨d,f.keep _ _ hn h⟩
  ·exact .inr ⟨d,f.keep _ _ hn h⟩
 | .scr ns,_,h=>by
  obtain⟨a,rfl,h⟩:=h
  refine⟨a,rfl,?_⟩
  rcases h with⟨o,h⟩ | h
  ·refine .inl ⟨o,f.keep _ _ (λz=>?_) h⟩
   obtain⟨ws,q⟩:=S.lst z
   rw [q] at h;cases h
  ·exact .inr h
 | .tup ds,_,h=>by
  obtain⟨a,vs,rfl,h1,h2⟩:=h
  exact⟨a,vs,rfl,h1.fw S f,Rls.fw S f h2⟩
 | .lst ds,_,h=>by
  obtain⟨a,vs,rfl,h0,h1,h2⟩:=h
  obtain⟨o,e⟩:=h1.some
  exact⟨a,vs,rfl,f.nin h0 e,h1.fw f h0,Rls.fw S f h2⟩
theorem Rls.fw (S:Sr K H φ st) (f:Fw φ φ' H H'):∀ {ds:List D}{vs:List V},Rls K H φ ds vs->Rls K H' φ' ds vs
 | [],_,h=>h
 | d::ds,_,h=>by
  obtain⟨v,r,rfl,h1,h2⟩:=h
  exact⟨v,r,rfl,Rl.fw S f h1,Rls.fw S f h2⟩
end
theorem Rw.fw (S:Sr K H φ st) (f:Fw φ φ' H H') {w:W}{v:V} (h:Rw K H φ w v):Rw K H' φ' w v:=by
 cases w with
 | d x=>exact Rl.fw S f h
 | h n=>obtain⟨a,e,rfl⟩:=h;exact⟨a,f.get e,rfl⟩
theorem Rws.fw (S:Sr K H φ st) (f:Fw φ φ' H H'):∀ {ws:List W}{vs:List V},Rws K H φ ws vs->Rws K H' φ' ws vs
 | [],_,h=>h
 | d::ds,_,h=>by
  obtain⟨v,r,rfl,h1,h2⟩:=h
  exact⟨v,r,rfl,h1.fw S f,Rws.fw S f h2⟩
theorem Er.fw (S:Sr K H φ st) (f:Fw φ φ' H H') {env:Ev}{σ:St} (h:Er K H φ env σ):Er K H' φ' env σ:=
 ⟨h.len,λi w e=>let ⟨v,e1,r⟩:=h.at_ i w e;⟨v,e1,r.fw S f⟩⟩
theorem Sr.same (S:Sr K H φ st) (s:aL H H'):Sr K H' φ st:=
 ⟨S.nd,S.len,λn a ds e1 e2=>let ⟨vs,q,r⟩:=S.at_ n a ds e1 e2;⟨vs,s _ _ q,Rls.fw S (Fw.same s) r⟩⟩
theorem Sr.new (S:Sr K H φ st) {p:Addr}{o:HO} (hp:H p=none):Sr K (upd H p o) φ st:=S.same (aL.new hp o)
theorem Rls.length:∀ {ds:List D}{vs:List V},Rls K H φ ds vs->ds.length=vs.length
 | [],_,h=>by cases h;rfl
 | d::ds,_,h=>by
  obtain⟨v,r,rfl,h1,h2⟩:=h
  rw [List.length_cons,List.length_cons,Rls.length h2]
theorem Rws.length:∀ {ds:List W}{vs:List V},Rws K H φ ds vs->ds.length=vs.length
 | [],_,h=>by cases h;rfl
 | d::ds,_,h=>by
  obtain⟨v,r,rfl,h1,h2⟩:=h
  rw [List.length_cons,List.length_cons,Rws.length h2]
theorem Rls.append:∀ {ds es:List D}{vs us:List V},Rls K H φ ds vs->Rls K H φ es us->Rls K H φ (ds++es) (vs++us)
 | [],_,_,_,h,h'=>by cases h;exact h'
 | d::ds,_,_,_,h,h'=>by
  obtain⟨v,r,rfl,h1,h2⟩:=h
  exact⟨v,r++_,rfl,h1,Rls.append h2 h'⟩
theorem Rls.get:∀ {ds:List D}{vs:List V},Rls K H φ ds vs->∀ {i:Nat}{d:D},ds[i]?=some d->∃ v,vs[i]?=some v/\Rl K H φ d v
 | [],_,h,i,d,e=>by simp at e
 | d::ds,_,h,i,e,q=>by
  obtain⟨v,r,rfl,h1,h2⟩:=h
  cases i with
  | zero=>simp at q;subst q;exact⟨v,rfl,h1⟩
  | succ i=>simpa using Rls.get h2 (i:=i) (d:=e) (by simpa using q)
theorem Rls.take:∀ {ds:List D}{vs:List V} (n:Nat),Rls K H φ ds vs->Rls K H φ (ds.take n) (vs.take n)
 | _,_,0,_=>by rw [List.take_zero,List.take_zero];exact rfl
 | [],_,n+1,h=>by cases h;exact rfl
 | d::ds,_,n+1,h=>by
  obtain⟨v,r,rfl,h1,h2⟩:=h
  exact⟨v,_,rfl,h1,Rls.take n h2⟩
theorem Rls.drop:∀ {ds:List D}{vs:List V} (n:Nat),Rls K H φ ds vs->Rls K H φ (ds.drop n) (vs.drop n)
 | _,_,0,h=>h
 | [],_,n+1,h=>by cases h;exact rfl
 | d::ds,_,n+1,h=>by
  obtain⟨v,r,rfl,h1,h2⟩:=h
  exact Rls.drop n h2
theorem Rls.set:∀ {ds:List D}{vs:List V} (n:Nat) {d:D}{v:V},Rls K H φ ds vs->Rl K H φ d v->Rls K H φ (ds.set n d) (vs.set n v)
 | [],_,_,_,_,h,_=>by cases h;exact rfl
 | e::ds,_,0,d,v,h,hd=>by
  obtain⟨u,r,rfl,h1,h2⟩:=h
  exact⟨v,r,rfl,hd,h2⟩
 | e::ds,_,n+1,d,v,h,hd=>by
  obtain⟨u,r,rfl,h1,h2⟩:=h
  exact⟨u,_,rfl,h1,Rls.set n h2 hd⟩
theorem Rls.rep {ds:List D}{vs:List V} (h:Rls K H φ ds vs):∀ k:Nat,Rls K H φ (List.replicate k ds).flatten (List.replicate k vs).flatten
 | 0=>rfl
 | k+1=>by rw [List.replicate_succ,List.replicate_succ,List.flatten_cons,List.flatten_cons];exact h.append (Rls.rep h k)
theorem Rls.ints:∀ {ns:List Int}{vs:List V},Rls K H φ (ns.map D.int) vs->vs=ns.map V.int
 | [],_,h=>h
 | n::ns,_,h=>by
  obtain⟨v,r,rfl,h1,h2⟩:=h
  rw [show v=.int n from h1,Rls.ints h2];rfl
theorem Rls.bools:∀ {ns:List Bool}{vs:List V},Rls K H φ (ns.map D.bl) vs->vs=ns.map V.bl
 | [],_,h=>h
 | n::ns,_,h=>by
  obtain⟨v,r,rfl,h1,h2⟩:=h
  rw [show v=.bl n from h1,Rls.bools h2];rfl
theorem Rls.of_ints:∀ (ns:List Int),Rls K H φ (ns.map D.int) (ns.map V.int)
 | []=>rfl
 | n::ns=>⟨_,_,rfl,rfl,Rls.of_ints ns⟩
theorem Rl.less {ψ:List Addr}:∀ {d:D}{v:V},Rl K H (φ++ψ) d v->Rl K H φ d v:=by
 intro d v
 refine (?_:∀ v,Rl K H (φ++ψ) d v->Rl K H φ d v) v
 refine D.rec (motive_1:=λd=>∀ v,Rl K H (φ++ψ) d v->Rl K H φ d v) (motive_2:=λds=>∀ vs,Rls K H (φ++ψ) ds vs->Rls K H φ ds vs) ?_ ?_ ?_ ?_ ?_ ?_ ?_ ?_ ?_ ?_ ?_ d
 ·exact λv h=>h
 ·exact λb v h=>h
 ·exact λb v h=>h
 ·exact λb v h=>h
 ·exact λb v h=>h
 ·exact λv h=>h
 ·exact λns v h=>h
 ·rintro ds ih v ⟨a,vs,rfl,h1,h2⟩;exact⟨a,vs,rfl,h1,ih vs h2⟩
 ·rintro ds ih v ⟨a,vs,rfl,h0,h1,h2⟩;exact⟨a,vs,rfl,λz=>h0 (List.mem_append_left _ z),h1,ih vs h2⟩
 ·exact λvs h=>h
 ·rintro d ds ih1 ih2 vs ⟨v,r,rfl,h1,h2⟩;exact⟨v,r,rfl,ih1 v h1,ih2 r h2⟩
theorem Rls.less {ψ:List Addr}:∀ {ds:List D}{vs:List V},Rls K H (φ++ψ) ds vs->Rls K H φ ds vs
 | [],_,h=>h
 | d::ds,_,h=>by
  obtain⟨v,r,rfl,h1,h2⟩:=h
  exact⟨v,r,rfl,Rl.less h1,Rls.less h2⟩
theorem Sr.less {ψ:List Addr} (S:Sr K H (φ++ψ) st):Sr K H φ (st.take φ.length):=by
 have hl:=S.len
 rw [List.length_append] at hl
 refine⟨(List.nodup_append.mp S.nd).1,by rw [List.length_take];lia,λn a ds e1 e2=>?_⟩
 have hn:=(List.getElem?_eq_some_iff.mp e1).1
 rw [List.getElem?_take_of_lt hn] at e2
 obtain⟨vs,q,r⟩:=S.at_ n a ds (by rw [List.getElem?_append_left hn];exact e1) e2
 exact⟨vs,q,Rls.less r⟩
end
end L2
namespace L2
open PySem PySem.Spec PyProof.Rows
abbrev Ef:=Ev->Sto->Option (W×Sto)
abbrev Af:=Ev->Sto->Option (List W×Sto)
abbrev Tf:=Ev->Sto->Option (Bool×Sto)
abbrev Lf:=Ev->Sto->Option (List D×Sto)
abbrev Fn:=List W->Sto->Option (W×Sto)
section
variable (K:PySem.W.Frag)
noncomputable def tI (env:Ev) (st:Sto) (r:W×Sto):TE:=λσ H Q=>∃ φ,Er K H φ env σ/\Sr K H φ st/\∀ v H' φ',Fw φ φ' H H'->Sr K H' φ' r.2->Rw K H' φ' r.1 v->Q v H'
noncomputable def tIA (env:Ev) (st:Sto) (r:List W×Sto):TA:=λσ H Q=>∃ φ,Er K H φ env σ/\Sr K H φ st/\∀ vs H' φ',Fw φ φ' H H'->Sr K H' φ' r.2->Rws K H' φ' r.1 vs->Q vs H'
noncomputable def tIT (env:Ev) (st:Sto) (r:Bool×Sto):TT:=λσ H Q=>∃ φ,Er K H φ env σ/\Sr K H φ st/\∀ H' φ',Fw φ φ' H H'->Sr K H' φ' r.2->Q r.1 H'
noncomputable def tIL (env:Ev) (st:Sto) (r:List D×Sto):TE:=λσ H Q=>∃ φ,Er K H φ env σ/\Sr K H φ st/\∀ a vs H1 φ',Fw φ φ' H H1->Sr K H1 φ' r.2->H1 a=none->Rls K H1 φ' r.1 vs->Q (.ref a) (upd H1 a (.lst vs))
structure IE (X:Cx) (e:Expr) (f:Ef):Prop where
 run:∀ env st r,f env st=some r->PE X e (tI K env st r)
structure IA (X:Cx) (es:List Expr) (f:Af):Prop where
 run:∀ env st r,f env st=some r->PA X es (tIA K env st r)
structure IT (X:Cx) (e:Expr) (f:Tf):Prop where
 run:∀ env st r,f env st=some r->PT X e (tIT K env st r)
structure ITW (X:Cx) (e:Expr) (f:Tf):Prop where
 run:∀ env st r,f env st=some r->PW X e (tIT K env st r)
structure IL (X:Cx) (e:Expr) (f:Lf):Prop where
 run:∀ env st r,f env st=some r->PE X e (tIL K env st r)
noncomputable def rD (st:Sto) (x y:W) (d:D):R2:=λvx vy H Q=>∃ φ,Sr K H φ st/\Rw K H φ x vx/\Rw K H φ y vy/\∀ v H',aL H H'->Rl K H' φ d v->Q v H'
structure OpD (X:Cx) (f:Value->Value->Sem Value) (g:Sto->W->W->Option D):Prop where
 run:∀ st x y d,g st x y=some d->OpR X f (rD K st x y d)
noncomputable def rCD (st:Sto) (ws:List W) (d:D):List V->Hp->VK->Prop:=λvs H Q=>∃ φ,Sr K H φ st/\Rws K H φ ws vs/\∀ v H',aL H H'->Rl K H' φ d v->Q v H'
structure fq (X:Cx) (f:Value) (g:Sto->List W->Option D):Prop where
 run:∀ st ws d,g st ws=some d->cx X f (rCD K st ws d)
noncomputable def rCL (st:Sto) (ws:List W) (ds:List D):List V->Hp->VK->Prop:=λvs H Q=>∃ φ,Sr K H φ st/\Rws K H φ ws vs/\∀ a us H1,aL H H1->H1 a=none->Rls K H1 φ ds us->Q (.ref a) (upd H1 a (.lst us))
structure pW (X:Cx) (f:Value) (g:Sto->List W->Option (List D)):Prop where
 run:∀ st ws d,g st ws=some d->cx X f (rCL K st ws d)
end
noncomputable def iV (i:Nat):Ef
 | env,st=>(env.getD i none).map λw=>(w,st)
noncomputable def iC (d:D):Ef
 | _,st=>some (.d d,st)
noncomputable def iOp (g:Sto->W->W->Option D) (a b:Ef):Ef
 | env,st=>(a env st).bind λx=>(b env x.2).bind λy=>(g y.2 x.1 y.1).map λd=>(.d d,y.2)
noncomputable def bN:D->Option Bool
 | .bl b=>some b
 | _=>none
noncomputable def blW:W->Option Bool
 | .d (.bl b)=>some b
 | _=>none
noncomputable def aB (g:Sto->W->W->Option D) (a b:Ef):Tf
 | env,st=>(a env st).bind λx=>(b env x.2).bind λy=>(g y.2 x.1 y.1).bind λd=>(bN d).map λk=>(k,y.2)
noncomputable def jN (g g':Sto->W->W->Option D) (a b c:Ef):Ef
 | env,st=>(a env st).bind λx=>(b env x.2).bind λy=>(g y.2 x.1 y.1).bind λd=>(bN d).bind λk=>
 if k=true then (c env y.2).bind λz=>(g' z.2 y.1 z.1).map λd=>(.d d,z.2) else some (.d (.bl false),y.2)
noncomputable def iUn (g:W->Option D) (a:Ef):Ef
 | env,st=>(a env st).bind λx=>(g x.1).map λd=>(.d d,x.2)
noncomputable def mi (a:Ef):Ef
 | env,st=>(a env st).bind λx=>(blW x.1).map λk=>(.d (.bl (!k)),x.2)
noncomputable def cT (a b:Ef):Ef
 | env,st=>(a env st).bind λx=>(blW x.1).bind λk=>if k=true then b env x.2 else some (.d (.bl false),x.2)
noncomputable def lM (c:Tf) (a b:Ef):Ef
 | env,st=>(c env st).bind λr=>if r.1=true then a env r.2 else b env r.2
noncomputable def cb (c:Tf):Tf
 | env,st=>(c env st).map λr=>(!r.1,r.2)
noncomputable def cI (a b:Tf):Tf
 | env,st=>(a env st).bind λr=>if r.1=true then some (true,r.2) else b env r.2
noncomputable def dz (g:Sto->W->Option Bool) (a:Ef):Tf
 | env,st=>(a env st).bind λx=>(g x.2 x.1).map λk=>(k,x.2)
noncomputable def ai:Af
 | _,st=>some ([],st)
noncomputable def ab (a:Ef) (r:Af):Af
 | env,st=>(a env st).bind λx=>(r env x.2).map λy=>(x.1::y.1,y.2)
noncomputable def iCB (g:Sto->List W->Option D) (a:Af):Ef
 | env,st=>(a env st).bind λr=>(g r.2 r.1).map λd=>(.d d,r.2)
noncomputable def iCL (g:Sto->List W->Option (List D)) (a:Af):Lf
 | env,st=>(a env st).bind λr=>(g r.2 r.1).map λd=>(d,r.2)
noncomputable def am (m:Fn) (a:Af):Ef
 | env,st=>(a env st).bind λr=>m r.1 r.2
noncomputable def cp:List W->Option (List D)
 | []=>some []
 | .d x::ws=>(cp ws).map λr=>x::r
 | .h _::_=>none
noncomputable def aw (a:Af):Ef
 | env,st=>(a env st).bind λr=>(cp r.1).bind λds=>if ds.length<=1000 then some (.d (.tup ds),r.2) else none
noncomputable def cQ (a:Af):Lf
 | env,st=>(a env st).bind λr=>(cp r.1).bind λds=>if ds.length<=1000 then some (ds,r.2) else none
noncomputable def bh (a:Lf):Ef
 | env,st=>(a env st).map λr=>(.d (.lst r.1),r.2)
noncomputable def fI (a:Lf):Ef
 | env,st=>(a env st).map λr=>(.h r.2.length,r.2++[r.1])
section
variable {K:PySem.W.Frag}{X:Cx}{e a b c:Expr}{es:List Expr}{pos:Pos}{f fa fb fc:Ef}
theorem PE.imp {t t':TE} (h:PE X e t) (m:∀ σ H Q,t' σ H Q->t σ H Q):PE X e t':=λpins s σ H Q I q=>h pins s σ H Q I (m σ H Q q)
theorem PT.imp {t t':TT} (h:PT X e t) (m:∀ σ H Q,t' σ H Q->t σ H Q):PT X e t':=λpins s σ H Q I q=>h pins s σ H Q I (m σ H Q q)
theorem PW.imp {t t':TT} (h:PW X e t) (m:∀ σ H Q,t' σ H Q->t σ H Q):PW X e t':=λwh pins s σ H Q I q=>h wh pins s σ H Q I (m σ H Q q)
theorem PA.imp {t t':TA} (h:PA X es t) (m:∀ σ H Q,t' σ H Q->t σ H Q):PA X es t':=λpos pins s σ H Q I q=>h pos pins s σ H Q I (m σ H Q q)
theorem OpR.imp {g:Value->Value->Sem Value}{r r':R2} (h:OpR X g r) (m:∀ x y H Q,r' x y H Q->r x y H Q):OpR X g r':=λpins s σ H x y v u Q I rx ry q=>h pins s σ H x y v u Q I rx ry (m _ _ _ _ q)
theorem cx.imp {g:Value}{r r':List V->Hp->VK->Prop} (h:cx X g r) (m:∀ xs H Q,r' xs H Q->r xs H Q):cx X g r':=λpins s σ H xs us Q I rx q=>h pins s σ H xs us Q I rx (m _ _ _ q)
theorem fO:PE X e (λ_ _ _=>False):=λ_ _ _ _ _ _ q=>q.elim
theorem n8:PW X e (λ_ _ _=>False):=λ_ _ _ _ _ _ _ q=>q.elim
theorem rh {i:Nat}{x:Str}{t:TE} (h:PE X (.Name x pos) (re i)):IE K X (.Name x pos) (iV i):=by
 refine⟨λenv st r hr=>?_⟩
 unfold iV at hr
 obtain⟨w,hw,rfl⟩:=Option.map_eq_some_iff.mp hr
 refine h.imp ?_
 rintro σ H Q ⟨φ,hE,hS,q⟩
 have hi:env[i]?=some (some w):=by
  rw [List.getD] at hw
  cases q:env[i]? with
  | none=>rw [q] at hw;cases hw
  | some o=>rw [q] at hw;rw [show o=some w from hw]
 obtain⟨v,e1,r⟩:=hE.at_ i w hi
 exact⟨v,e1,q v H φ (Fw.refl φ H) hS r⟩
theorem iv (i:Nat) {x:Str} (hN:X.N[i]?=some x:=by rfl) (hv:Vis X.env.scope x:=by first | exact Or.inl rfl | exact Or.inr (Or.inl rfl) | exact Or.inr (Or.inr rfl)) (hd:(x==("__debug__" : Str))=false:=by decide)
  (hcd:(x==("__classdict__" : Str))=false:=by decide):IE K X (.Name x pos) (iV i):=rh (t:=re i) (rm hN hv hd hcd)
theorem mT {d:D}{v:V} (h:PE X e (tC v)) (r:∀ H φ,Rl K H φ d v):IE K X e (iC d):=by
 refine⟨λenv st r hr=>?_⟩
 cases hr
 refine h.imp ?_
 rintro σ H Q ⟨φ,hE,hS,q⟩
 exact q v H φ (Fw.refl φ H) hS (r H φ)
theorem ac {i j}:IE K X (.Constant (.int i) j pos) (iC (.int i)):=mT qX λ_ _=>rfl
theorem kz {i j}:IE K X (.Constant (.bool i) j pos) (iC (.bl i)):=mT tN λ_ _=>rfl
theorem jo {j}:IE K X (.Constant .none j pos) (iC .non):=mT qq λ_ _=>rfl
theorem au {x j}:IE K X (.Constant (.str x) j pos) (iC (.str x)):=mT rO λ_ _=>rfl
theorem jF {env:Ev}{st:Sto}{x y:W×Sto}{d:D}{σ:St}{H:Hp}{Q:VK} (h:tI K env st (.d d,y.2) σ H Q):tOp (rD K y.2 x.1 y.1 d) (tI K env st x) (tI K env x.2 y) σ H Q:=by
 obtain⟨φ,hE,hS,q⟩:=h
 refine⟨φ,hE,hS,λv H1 φ1 f1 s1 w1=>⟨φ1,hE.fw hS f1,s1,λu H2 φ2 f2 s2 w2=>⟨φ2,s2,w1.fw s1 f2,w2,λv3 H3 f3 w3=>?_⟩⟩⟩
 exact q v3 H3 φ2 ((f1.trans f2).trans (Fw.same f3)) (s2.same f3) w3
theorem aq {op:Operator}{g:Sto->W->W->Option D} (ho:OpD K X (binaryOp op) g) (ha:IE K X a fa) (hb:IE K X b fb):IE K X (.BinOp a op b pos) (iOp g fa fb):=by
 refine⟨λenv st r hr=>?_⟩
 simp only [iOp,Option.bind_eq_some_iff,Option.map_eq_some_iff] at hr
 obtain⟨x,hx,y,hy,d,hd,rfl⟩:=hr
 exact (sX (ho.run _ _ _ _ hd) (ha.run _ _ _ hx) (hb.run _ _ _ hy)).imp λσ H Q h=>jF h
theorem fz {op:CmpOp}{g:Sto->W->W->Option D} (ho:OpD K X (compareOp op) g) (ha:IE K X a fa) (hb:IE K X b fb) (hm:behindInMarks op b=false):IE K X (.Compare a [op] [b] pos) (iOp g fa fb):=by
 refine⟨λenv st r hr=>?_⟩
 simp only [iOp,Option.bind_eq_some_iff,Option.map_eq_some_iff] at hr
 obtain⟨x,hx,y,hy,d,hd,rfl⟩:=hr
 exact (pH (ho.run _ _ _ _ hd) (ha.run _ _ _ hx) (hb.run _ _ _ hy) hm).imp λσ H Q h=>jF h
theorem je {d:D}{k:Bool} (h:bN d=some k):d=.bl k:=by
 cases d<;>first | (cases h;done) | (injection h with h;subst h;rfl)
theorem kq {d:W}{k:Bool} (h:blW d=some k):d=.d (.bl k):=by
 cases d with
 | h n=>cases h
 | d x=>cases x<;>first | (cases h;done) | (injection h with h;subst h;rfl)
theorem aM {op:CmpOp}{g:Sto->W->W->Option D} (ho:OpD K X (compareOp op) g) (ha:IE K X a fa) (hb:IE K X b fb) (hm:behindInMarks op b=false):IT K X (.Compare a [op] [b] pos) (aB g fa fb):=by
 refine⟨λenv st r hr=>?_⟩
 simp only [aB,Option.bind_eq_some_iff,Option.map_eq_some_iff] at hr
 obtain⟨x,hx,y,hy,d,hd,k,hk,rfl⟩:=hr
 cases je hk
 refine (mm (ho.run _ _ _ _ hd) (ha.run _ _ _ hx) (hb.run _ _ _ hy) hm).imp λσ H Q h=>?_
 obtain⟨φ,hE,hS,q⟩:=h
 refine jF ⟨φ,hE,hS,λv H1 φ1 f1 s1 w1=>⟨k,w1,q H1 φ1 f1 s1⟩⟩
theorem nQ {op op':CmpOp}{g g':Sto->W->W->Option D} (ho:OpD K X (compareOp op) g) (ho':OpD K X (compareOp op') g') (ha:IE K X a fa) (hb:IE K X b fb) (hc:IE K X c fc)
  (hm:lastMarks [op,op'] [b,c]=false:=by with_unfolding_all rfl):IE K X (.Compare a [op,op'] [b,c] pos) (jN g g' fa fb fc):=by
 refine⟨λenv st r hr=>?_⟩
 simp only [jN,Option.bind_eq_some_iff] at hr
 obtain⟨x,hx,y,hy,d,hd,k,hk,hr⟩:=hr
 cases je hk
 cases k with
 | false=>
  rw [if_neg Bool.false_ne_true] at hr
  cases hr
  refine (kO (r':=λ_ _ _ _=>False) (ho.run _ _ _ _ hd) (λ_ _ _ _ _ _ _ _ _ _ _ _ q=>q.elim) (ha.run _ _ _ hx) (hb.run _ _ _ hy) fO hm).imp ?_
  rintro σ H Q ⟨φ,hE,hS,q⟩
  refine⟨φ,hE,hS,λv H1 φ1 f1 s1 w1=>⟨φ1,hE.fw hS f1,s1,λu H2 φ2 f2 s2 w2=>⟨φ2,s2,w1.fw s1 f2,w2,λv3 H3 f3 w3=>⟨false,w3,?_⟩⟩⟩⟩
  rw [if_neg Bool.false_ne_true]
  exact q _ H3 φ2 ((f1.trans f2).trans (Fw.same f3)) (s2.same f3) rfl
 | true=>
  simp only [if_true,Option.bind_eq_some_iff,Option.map_eq_some_iff] at hr
  obtain⟨z,hz,d',hd',rfl⟩:=hr
  refine (kO (ho.run _ _ _ _ hd) (ho'.run _ _ _ _ hd') (ha.run _ _ _ hx) (hb.run _ _ _ hy) (hc.run _ _ _ hz) hm).imp ?_
  rintro σ H Q ⟨φ,hE,hS,q⟩
  refine⟨φ,hE,hS,λv H1 φ1 f1 s1 w1=>⟨φ1,hE.fw hS f1,s1,λu H2 φ2 f2 s2 w2=>⟨φ2,s2,w1.fw s1 f2,w2,λv3 H3 f3 w3=>⟨true,w3,?_⟩⟩⟩⟩
  rw [if_pos rfl]
  have f13:=(f1.trans f2).trans (Fw.same (φ:=φ2) f3)
  refine⟨φ2,hE.fw hS f13,s2.same f3,λu4 H4 φ4 f4 s4 w4=>⟨φ4,s4,(w2.fw s2 (Fw.same f3)).fw (s2.same f3) f4,w4,λv5 H5 f5 w5=>?_⟩⟩
  exact q v5 H5 φ4 (f13.trans (f4.trans (Fw.same f5))) (s4.same f5) w5
noncomputable def e7:W->Option D
 | .d (.int i)=>some (.int (-i))
 | _=>none
theorem lp (ha:IE K X a fa):IE K X (.UnaryOp .USub a pos) (iUn e7 fa):=by
 refine⟨λenv st r hr=>?_⟩
 simp only [iUn,Option.bind_eq_some_iff,Option.map_eq_some_iff] at hr
 obtain⟨⟨x,s1⟩,hx,d,hd,rfl⟩:=hr
 cases x with
 | h n=>cases hd
 | d x=>
  cases x with
  | int i=>
   cases hd
   refine (s0 qA (ha.run _ _ _ hx)).imp ?_
   rintro σ H Q ⟨φ,hE,hS,q⟩
   exact⟨φ,hE,hS,λv H1 φ1 f1 s1 w1=>⟨i,w1,q _ H1 φ1 f1 s1 rfl⟩⟩
  | _=>cases hd
theorem rP (ha:IE K X a fa):IE K X (.UnaryOp .Not a pos) (mi fa):=by
 refine⟨λenv st r hr=>?_⟩
 simp only [mi,Option.bind_eq_some_iff,Option.map_eq_some_iff] at hr
 obtain⟨x,hx,k,hk,rfl⟩:=hr
 have e:=kq hk
 refine (qx (ha.run _ _ _ hx)).imp ?_
 rintro σ H Q ⟨φ,hE,hS,q⟩
 exact⟨φ,hE,hS,λv H1 φ1 f1 s1 w1=>⟨k,by rw [e] at w1;exact w1,q _ H1 φ1 f1 s1 rfl⟩⟩
theorem gn {op} (h:IE K X a fa):IE K X (.BoolOp op [a] pos) fa:=⟨λenv st r hr=>qY (h.run env st r hr)⟩
theorem fD {bW:List Expr} (ha:IE K X a fa) (hb:IE K X (.BoolOp .And (b::bW) pos) fb):IE K X (.BoolOp .And (a::b::bW) pos) (cT fa fb):=by
 refine⟨λenv st r hr=>?_⟩
 simp only [cT,Option.bind_eq_some_iff] at hr
 obtain⟨x,hx,k,hk,hr⟩:=hr
 have e:=kq hk
 cases k with
 | false=>
  rw [if_neg Bool.false_ne_true] at hr
  cases hr
  refine (nz (ha.run _ _ _ hx) fO).imp ?_
  rintro σ H Q ⟨φ,hE,hS,q⟩
  refine⟨φ,hE,hS,λv H1 φ1 f1 s1 w1=>⟨false,by rw [e] at w1;exact w1,?_⟩⟩
  rw [if_neg Bool.false_ne_true]
  exact q _ H1 φ1 f1 s1 rfl
 | true=>
  rw [if_pos rfl] at hr
  refine (nz (ha.run _ _ _ hx) (hb.run _ _ _ hr)).imp ?_
  rintro σ H Q ⟨φ,hE,hS,q⟩
  refine⟨φ,hE,hS,λv H1 φ1 f1 s1 w1=>⟨true,by rw [e] at w1;exact w1,?_⟩⟩
  rw [if_pos rfl]
  exact⟨φ1,hE.fw hS f1,s1,λu H2 φ2 f2 s2 w2=>q u H2 φ2 (f1.trans f2) s2 w2⟩
variable {ta tb:Tf}
theorem fG (ha:IT K X a ta):IT K X (.UnaryOp .Not a pos) (cb ta):=by
 refine⟨λenv st r hr=>?_⟩
 simp only [cb,Option.map_eq_some_iff] at hr
 obtain⟨x,hx,rfl⟩:=hr
 refine (qr (ha.run _ _ _ hx)).imp ?_
 rintro σ H Q ⟨φ,hE,hS,q⟩
 exact⟨φ,hE,hS,λH1 φ1 f1 s1=>q H1 φ1 f1 s1⟩
theorem gt (h:ITW K X a ta):IT K X a ta:=⟨λenv st r hr=>(h.run env st r hr).pt⟩
theorem eW (h:IT K X a ta):ITW K X (.BoolOp .Or [a] pos) ta:=⟨λenv st r hr=>qV (h.run env st r hr)⟩
theorem eB {bW:List Expr} (ha:IT K X a ta) (hb:ITW K X (.BoolOp .Or (b::bW) pos) tb):ITW K X (.BoolOp .Or (a::b::bW) pos) (cI ta tb):=by
 refine⟨λenv st r hr=>?_⟩
 simp only [cI,Option.bind_eq_some_iff] at hr
 obtain⟨⟨k,s1⟩,hx,hr⟩:=hr
 cases k with
 | true=>
  rw [if_pos rfl] at hr
  cases hr
  refine (qj (ha.run _ _ _ hx) n8).imp ?_
  rintro σ H Q ⟨φ,hE,hS,q⟩
  refine⟨φ,hE,hS,λH1 φ1 f1 s1=>?_⟩
  refine nr ?_
  exact q H1 φ1 f1 s1
 | false=>
  rw [if_neg Bool.false_ne_true] at hr
  refine (qj (ha.run _ _ _ hx) (hb.run _ _ _ hr)).imp ?_
  rintro σ H Q ⟨φ,hE,hS,q⟩
  refine⟨φ,hE,hS,λH1 φ1 f1 s1=>?_⟩
  refine nC ?_
  exact⟨φ1,hE.fw hS f1,s1,λH2 φ2 f2 s2=>q H2 φ2 (f1.trans f2) s2⟩
theorem tJ {tc:Tf} (hc:IT K X c tc) (ha:IE K X a fa) (hb:IE K X b fb):IE K X (.IfExp c a b pos) (lM tc fa fb):=by
 refine⟨λenv st r hr=>?_⟩
 simp only [lM,Option.bind_eq_some_iff] at hr
 obtain⟨⟨k,s1⟩,hx,hr⟩:=hr
 cases k with
 | true=>
  rw [if_pos rfl] at hr
  refine (kt (hc.run _ _ _ hx) (ha.run _ _ _ hr) fO).imp ?_
  rintro σ H Q ⟨φ,hE,hS,q⟩
  refine⟨φ,hE,hS,λH1 φ1 f1 s1=>?_⟩
  refine nr ?_
  exact⟨φ1,hE.fw hS f1,s1,λu H2 φ2 f2 s2 w2=>q u H2 φ2 (f1.trans f2) s2 w2⟩
 | false=>
  rw [if_neg Bool.false_ne_true] at hr
  refine (kt (hc.run _ _ _ hx) fO (hb.run _ _ _ hr)).imp ?_
  rintro σ H Q ⟨φ,hE,hS,q⟩
  refine⟨φ,hE,hS,λH1 φ1 f1 s1=>?_⟩
  refine nC ?_
  exact⟨φ1,hE.fw hS f1,s1,λu H2 φ2 f2 s2 w2=>q u H2 φ2 (f1.trans f2) s2 w2⟩
noncomputable def bt (st:Sto):W->Option (List D)
 | .d (.tup ds)=>some ds
 | .d (.lst ds)=>some ds
 | .d (.scr ns)=>some (ns.map D.int)
 | .h n=>st[n]?
 | _=>none
theorem eY {st:Sto}{H:Hp}{φ:List Addr}{w:W}{v:V}{ds:List D} (S:Sr K H φ st) (r:Rw K H φ w v) (e:bt st w=some ds):∃ a vs,v=.ref a/\(SqL K H a vs\/SqT K H a vs)/\Rls K H φ ds vs:=by
 cases w with
 | h n=>
  obtain⟨a,ea,rfl⟩:=r
  obtain⟨vs,q,rl⟩:=S.at_ n a ds ea e
  exact⟨a,vs,rfl,.inl (SqL.of q),rl⟩
 | d x=>
  cases x with
  | tup es=>cases e;obtain⟨a,vs,rfl,h1,h2⟩:=r;exact⟨a,vs,rfl,.inr h1,h2⟩
  | lst es=>cases e;obtain⟨a,vs,rfl,h0,h1,h2⟩:=r;exact⟨a,vs,rfl,.inl (.inl h1),h2⟩
  | scr ns=>
   cases e
   obtain⟨a,rfl,h⟩:=r
   refine⟨a,_,rfl,.inl ?_,Rls.of_ints ns⟩
   rcases h with⟨o,h⟩ | h
   ·exact .inl (.inr ⟨o,h⟩)
   ·exact .inr h
  | _=>cases e
noncomputable def dE (st:Sto):W->Option Bool
 | .d .non=>some false
 | .d (.bl b)=>some b
 | .d (.int i)=>some (i != 0)
 | w=>(bt st w).map λds=>!ds.isEmpty
theorem py {st:Sto}{H:Hp}{φ:List Addr}{w:W}{v:V}{k:Bool} (S:Sr K H φ st) (r:Rw K H φ w v) (e:dE st w=some k):pL K v H k:=by
 have seq:∀ ds,bt st w=some ds->k=!ds.isEmpty->pL K v H k:=λds h hk=>by
  obtain⟨a,vs,rfl,h1,h2⟩:=eY S r h
  have hl:=h2.length
  have e':k=!vs.isEmpty:=by
   rw [hk]
   cases ds<;>cases vs<;>first | rfl | cases hl
  rcases h1 with h1 | h1
  ·exact .inl ⟨vs,h1,e'⟩
  ·exact .inr (.inl ⟨vs,h1,e'⟩)
 cases w with
 | h n=>
  obtain⟨ds,h1,h2⟩:=Option.map_eq_some_iff.mp e
  exact seq ds h1 h2.symm
 | d x=>
  cases x with
  | non=>have r':v=.non:=r;subst r';cases e;exact rfl
  | bl b=>have r':v=.bl b:=r;subst r';cases e;exact rfl
  | int i=>have r':v=.int i:=r;subst r';cases e;exact rfl
  | tup ds=>exact seq ds rfl (Option.some.inj e).symm
  | lst ds=>exact seq ds rfl (Option.some.inj e).symm
  | scr ds=>exact seq _ rfl (Option.some.inj e).symm
  | _=>cases e
theorem fv (ha:IE K X a fa) (he:oE a=true:=by rfl) (hK:X.K=K:=by rfl):IT K X a (dz dE fa):=by
 subst hK
 refine⟨λenv st r hr=>?_⟩
 simp only [dz,Option.bind_eq_some_iff,Option.map_eq_some_iff] at hr
 obtain⟨x,hx,k,hk,rfl⟩:=hr
 refine (ng (ha.run _ _ _ hx) (mZ he)).imp ?_
 rintro σ H Q ⟨φ,hE,hS,q⟩
 exact⟨φ,hE,hS,λv H1 φ1 f1 s1 w1=>⟨k,py s1 w1 hk,q H1 φ1 f1 s1⟩⟩
variable {af:Af}
theorem ae:IA K X [] ai:=by
 refine⟨λenv st r hr=>?_⟩
 cases hr
 refine qT.imp ?_
 rintro σ H Q ⟨φ,hE,hS,q⟩
 exact q [] H φ (Fw.refl φ H) hS rfl
theorem aa (ha:IE K X e fa) (hr:IA K X es af) (hs:aR e=true:=by rfl):IA K X (e::es) (ab fa af):=by
 refine⟨λenv st r h=>?_⟩
 simp only [ab,Option.bind_eq_some_iff,Option.map_eq_some_iff] at h
 obtain⟨x,hx,y,hy,rfl⟩:=h
 refine (oN (ha.run _ _ _ hx) (hr.run _ _ _ hy) (bR hs)).imp ?_
 rintro σ H Q ⟨φ,hE,hS,q⟩
 refine⟨φ,hE,hS,λv H1 φ1 f1 s1 w1=>⟨φ1,hE.fw hS f1,s1,λu H2 φ2 f2 s2 w2=>?_⟩⟩
 exact q _ H2 φ2 (f1.trans f2) s2 ⟨v,u,rfl,w1.fw s1 f2,w2⟩
theorem cF {x:Str}{id:String}{p:Pos}{g:Sto->List W->Option D} (hc:fq K X (.builtin id) g) (hg:Gl X x) (hm:X.mg x=none) (hv:bootBuiltins x=some (.builtin id)) (ha:IA K X (e::es) af)
  (hn:x≠"__name__":=by decide) (hdb:(x==("__debug__" : Str))=false:=by decide) (hs:aR e=true:=by rfl) (hp:es.all aR=true:=by rfl) :
  IE K X (.Call (.Name x p) (e::es) [] pos) (iCB g af):=by
 refine⟨λenv st r hr=>?_⟩
 simp only [iCB,Option.bind_eq_some_iff,Option.map_eq_some_iff] at hr
 obtain⟨y,hy,d,hd,rfl⟩:=hr
 refine (oi (hc.run _ _ _ hd) hg hm hv (ha.run _ _ _ hy) hn hdb (bR hs) (cS hp)).imp ?_
 rintro σ H Q ⟨φ,hE,hS,q⟩
 exact⟨φ,hE,hS,λv H1 φ1 f1 s1 w1=>⟨φ1,s1,w1,λu H2 f2 w2=>q u H2 φ1 (f1.trans (Fw.same f2)) (s1.same f2) w2⟩⟩
theorem iZ {x:Str}{T:String}{p:Pos}{g:Sto->List W->Option D} (hc:fq K X (.type T) g) (hg:Gl X x) (hm:X.mg x=none) (hv:bootBuiltins x=some (.type T)) (ha:IA K X (e::es) af)
  (hn:x≠"__name__":=by decide) (hdb:(x==("__debug__" : Str))=false:=by decide) (hs:aR e=true:=by rfl) (hp:es.all aR=true:=by rfl) :
  IE K X (.Call (.Name x p) (e::es) [] pos) (iCB g af):=by
 refine⟨λenv st r hr=>?_⟩
 simp only [iCB,Option.bind_eq_some_iff,Option.map_eq_some_iff] at hr
 obtain⟨y,hy,d,hd,rfl⟩:=hr
 refine (i5 (hc.run _ _ _ hd) hg hm hv (ha.run _ _ _ hy) hn hdb (bR hs) (cS hp)).imp ?_
 rintro σ H Q ⟨φ,hE,hS,q⟩
 exact⟨φ,hE,hS,λv H1 φ1 f1 s1 w1=>⟨φ1,s1,w1,λu H2 f2 w2=>q u H2 φ1 (f1.trans (Fw.same f2)) (s1.same f2) w2⟩⟩
theorem qh {x:Str}{T:String}{p:Pos}{g:Sto->List W->Option (List D)} (hc:pW K X (.type T) g) (hg:Gl X x) (hm:X.mg x=none) (hv:bootBuiltins x=some (.type T)) (ha:IA K X (e::es) af)
  (hn:x≠"__name__":=by decide) (hdb:(x==("__debug__" : Str))=false:=by decide) (hs:aR e=true:=by rfl) (hp:es.all aR=true:=by rfl) :
  IL K X (.Call (.Name x p) (e::es) [] pos) (iCL g af):=by
 refine⟨λenv st r hr=>?_⟩
 simp only [iCL,Option.bind_eq_some_iff,Option.map_eq_some_iff] at hr
 obtain⟨y,hy,d,hd,rfl⟩:=hr
 refine (i5 (hc.run _ _ _ hd) hg hm hv (ha.run _ _ _ hy) hn hdb (bR hs) (cS hp)).imp ?_
 rintro σ H Q ⟨φ,hE,hS,q⟩
 exact⟨φ,hE,hS,λv H1 φ1 f1 s1 w1=>⟨φ1,s1,w1,λa us H2 f2 n2 w2=>q a us H2 φ1 (f1.trans (Fw.same f2)) (s1.same f2) n2 w2⟩⟩
theorem gW {H:Hp}{φ:List Addr}:∀ {ws:List W}{vs:List V}{ds:List D},cp ws=some ds->Rws K H φ ws vs->Rls K H φ ds vs
 | [],_,_,e,h=>by cases e;exact h
 | .d x::ws,_,_,e,h=>by
  obtain⟨v,r,rfl,h1,h2⟩:=h
  obtain⟨es,e1,rfl⟩:=Option.map_eq_some_iff.mp e
  exact⟨v,r,rfl,h1,gW e1 h2⟩
 | .h n::ws,_,_,e,h=>by cases e
theorem aZ {x1} (h:IA K X es af):IE K X (.Tuple es x1 pos) (aw af):=by
 refine⟨λenv st r hr=>?_⟩
 simp only [aw,Option.bind_eq_some_iff] at hr
 obtain⟨y,hy,ds,hd,hr⟩:=hr
 split at hr
 ·cases hr
  rename_i hl
  refine (qz (h.run _ _ _ hy)).imp ?_
  rintro σ H Q ⟨φ,hE,hS,q⟩
  refine⟨φ,hE,hS,λvs H1 φ1 f1 s1 w1=>?_⟩
  have w:=gW hd w1
  refine⟨by rw [<-w.length];exact lR hl,λp hp=>?_⟩
  exact q _ _ φ1 (f1.trans (Fw.new hp)) (s1.new hp) ⟨p,vs,rfl,SqT.of bi,w.fw s1 (Fw.new hp)⟩
 ·cases hr
theorem eg (h:IA K X es af):IL K X (.List es pos) (cQ af):=by
 refine⟨λenv st r hr=>?_⟩
 simp only [cQ,Option.bind_eq_some_iff] at hr
 obtain⟨y,hy,ds,hd,hr⟩:=hr
 split at hr
 ·cases hr
  rename_i hl
  refine (rV (h.run _ _ _ hy)).imp ?_
  rintro σ H Q ⟨φ,hE,hS,q⟩
  refine⟨φ,hE,hS,λvs H1 φ1 f1 s1 w1=>?_⟩
  have w:=gW hd w1
  exact⟨by rw [<-w.length];exact lR hl,λp hp=>q p vs H1 φ1 f1 s1 hp w⟩
 ·cases hr
theorem dm {lf:Lf} (h:IL K X e lf):IE K X e (bh lf):=by
 refine⟨λenv st r hr=>?_⟩
 simp only [bh,Option.map_eq_some_iff] at hr
 obtain⟨y,hy,rfl⟩:=hr
 refine (h.run _ _ _ hy).imp ?_
 rintro σ H Q ⟨φ,hE,hS,q⟩
 refine⟨φ,hE,hS,λa vs H1 φ1 f1 s1 n1 w1=>?_⟩
 exact q _ _ φ1 (f1.trans (Fw.new n1)) (s1.new n1) ⟨a,vs,rfl,s1.nin n1,.inl bi,w1.fw s1 (Fw.new n1)⟩
theorem Sr.more {H:Hp}{φ:List Addr}{st:Sto}{a:Addr}{vs:List V}{ds:List D} (S:Sr K H φ st) (n:H a=none) (w:Rls K H φ ds vs):Sr K (upd H a (.lst vs)) (φ++[a]) (st++[ds]):=by
 have f:Fw φ (φ++[a]) H (upd H a (.lst vs)):=⟨⟨[a],rfl,λb hb=>by rw [List.mem_singleton.mp hb];exact n⟩,λb o _ h=>aL.new n _ b o h,λb o h=>⟨o,aL.new n _ b o h⟩⟩
 refine⟨?_,by rw [List.length_append,List.length_append,S.len];rfl,λi b es e1 e2=>?_⟩
 ·rw [List.nodup_append]
  refine⟨S.nd,by simp,λx hx y hy e=>?_⟩
  rw [List.mem_singleton.mp hy] at e
  rw [e] at hx
  exact S.nin n hx
 ·by_cases hi:i < φ.length
  ·rw [List.getElem?_append_left hi] at e1
   rw [List.getElem?_append_left (by rw [<-S.len];exact hi)] at e2
   obtain⟨us,q,r⟩:=S.at_ i b es e1 e2
   exact⟨us,aL.new n _ _ _ q,r.fw S f⟩
  ·have e:i=φ.length:=by
    have:=(List.getElem?_eq_some_iff.mp e1).1
    rw [List.length_append] at this
    simp at this
    lia
   subst e
   rw [List.getElem?_append_right (Nat.le_refl _)] at e1
   rw [S.len,List.getElem?_append_right (Nat.le_refl _)] at e2
   simp at e1 e2
   subst e1 e2
   exact⟨vs,bi,w.fw S f⟩
theorem Fw.more {H:Hp}{φ:List Addr}{a:Addr}{vs:List V} (n:H a=none):Fw φ (φ++[a]) H (upd H a (.lst vs)):=
 ⟨⟨[a],rfl,λb hb=>by rw [List.mem_singleton.mp hb];exact n⟩,λb o _ h=>aL.new n _ b o h,λb o h=>⟨o,aL.new n _ b o h⟩⟩
theorem jy {lf:Lf} (h:IL K X e lf):IE K X e (fI lf):=by
 refine⟨λenv st r hr=>?_⟩
 simp only [fI,Option.map_eq_some_iff] at hr
 obtain⟨y,hy,rfl⟩:=hr
 refine (h.run _ _ _ hy).imp ?_
 rintro σ H Q ⟨φ,hE,hS,q⟩
 refine⟨φ,hE,hS,λa vs H1 φ1 f1 s1 n1 w1=>?_⟩
 exact q _ _ (φ1++[a]) (f1.trans (Fw.more n1)) (s1.more n1 w1) ⟨a,by rw [<-s1.len];simp,rfl⟩
noncomputable def spI (K:PySem.W.Frag) (m:Fn):Sp:=λvs H Q _=>∃ φ st ws r,m ws st=some r/\Rws K H φ ws vs/\Sr K H φ st/\∀ v H' φ',Fw φ φ' H H'->Sr K H' φ' r.2->Rw K H' φ' r.1 v->Q v H'
theorem ap {x:Str}{k j:Nat}{ff:Addr}{fd:FuncData}{ps:List Str}{m:Fn}{p:Pos} (F:bp X.prog X.w X.K X.mg X.base CX0 j ff fd ps (spI K m)) (hjk:j<=k) (hr:bO k X.A) (hg:Gl X x) (hm:X.mg x=some (.ref ff)) (hk:PySem.W.keepIn X.K (.ref ff)=true) (hb:bP X.K fd ps [])
  (ha:IA K X (e::es) af) (hdb:(x==("__debug__" : Str))=false:=by decide) (hs:aR e=true:=by rfl) (hp:es.all aR=true:=by rfl) :
  IE K X (.Call (.Name x p) (e::es) [] pos) (am m af):=by
 refine⟨λenv st r h=>?_⟩
 simp only [am,Option.bind_eq_some_iff] at h
 obtain⟨y,hy,h⟩:=h
 refine (oJ (F.mono hjk) hr hg hm hk hb .nil tu (ha.run _ _ _ hy) hdb (bR hs) (cS hp)).imp ?_
 rintro σ H Q ⟨φ,hE,hS,q⟩
 refine⟨φ,hE,hS,λvs H1 φ1 f1 s1 w1=>?_⟩
 show spI K m (vs++[]) H1 Q E0
 rw [List.append_nil]
 exact⟨φ1,y.2,y.1,r,h,w1,s1,λv H2 φ2 f2 s2 w2=>q v H2 φ2 (f1.trans f2) s2 w2⟩
end
end L2
namespace L2
open PySem PySem.Spec PyProof.Rows
inductive Fl where
 | nx (env:Ev) (st:Sto) | rt (w:W) (st:Sto) | bk (env:Ev) (st:Sto) | ct (env:Ev) (st:Sto)
abbrev Sf:=Ev->Sto->Option Fl
noncomputable def oO (K:PySem.W.Frag) (φ:List Addr) (H:Hp) (D:lL):Fl->Prop
 | .nx e s=>∀ σ' H' φ',Fw φ φ' H H'->Er K H' φ' e σ'->Sr K H' φ' s->D.nx σ' H'
 | .rt w s=>∀ v H' φ',Fw φ φ' H H'->Sr K H' φ' s->Rw K H' φ' w v->D.rt v H'
 | .bk e s=>∀ σ' H' φ',Fw φ φ' H H'->Er K H' φ' e σ'->Sr K H' φ' s->D.bk σ' H'
 | .ct e s=>∀ σ' H' φ',Fw φ φ' H H'->Er K H' φ' e σ'->Sr K H' φ' s->D.ct σ' H'
theorem oO.fw {K:PySem.W.Frag}{φ φ1:List Addr}{H H1:Hp}{D:lL}{r:Fl} (h:oO K φ H D r) (f:Fw φ φ1 H H1):oO K φ1 H1 D r:=by
 cases r with
 | nx e s=>exact λσ' H' φ' f'=>h σ' H' φ' (f.trans f')
 | rt w s=>exact λv H' φ' f'=>h v H' φ' (f.trans f')
 | bk e s=>exact λσ' H' φ' f'=>h σ' H' φ' (f.trans f')
 | ct e s=>exact λσ' H' φ' f'=>h σ' H' φ' (f.trans f')
noncomputable def tS (K:PySem.W.Frag) (env:Ev) (st:Sto) (r:Fl):TS:=λD σ H=>∃ φ,Er K H φ env σ/\Sr K H φ st/\oO K φ H D r
structure IS (K:PySem.W.Frag) (X:Cx) (s:Stmt) (g:Sf):Prop where
 run:∀ env st r,g env st=some r->PS X s (tS K env st r)
structure ISs (K:PySem.W.Frag) (X:Cx) (s:List Stmt) (g:Sf):Prop where
 run:∀ env st r,g env st=some r->PSs X s (tS K env st r)
inductive Tg where
 | nm (i:Nat) | tp (is:List Nat)
noncomputable def qE:Tg->List Nat
 | .nm i=>[i]
 | .tp is=>is
noncomputable def pX:List Nat->List D->Ev->Ev
 | i::is,d::ds,env=>pX is ds (env.set i (some (.d d)))
 | _,_,env=>env
noncomputable def bV:Tg->W->Ev->Option Ev
 | .nm i,w,env=>some (env.set i (some w))
 | .tp is,.d (.tup ds),env=>if is.length=ds.length then some (pX is ds env) else none
 | _,_,_=>none
noncomputable def qJ (is:List Nat) (σ σ':St):Prop:=σ'.length=σ.length/\∀ j,j ∉ is->σ'[j]?=σ[j]?
noncomputable def tG (K:PySem.W.Frag) (g:Tg):TG:=λv σ H Q=>∃ φ st env w env',Er K H φ env σ/\Sr K H φ st/\Rw K H φ w v/\bV g w env=some env'/\∀ σ',Er K H φ env' σ'->qJ (qE g) σ σ'->Q σ' H
noncomputable def ao:Sf
 | env,st=>some (.nx env st)
noncomputable def aj (a b:Sf):Sf
 | env,st=>(a env st).bind λr=>match r with
 | .nx e s=>b e s
 | r=>some r
noncomputable def aT (g:Tg) (f:Ef):Sf
 | env,st=>(f env st).bind λr=>(bV g r.1 env).map λe=>.nx e r.2
noncomputable def dU (st:Sto) (o i v:W):Option Sto:=match o,i,v with
 | .h n,.d (.int k),.d x=>(st[n]?).bind λds=>(ixN ds.length k).map λj=>st.set n (ds.set j x)
 | _,_,_=>none
noncomputable def cv (o i v:Ef):Sf
 | env,st=>(v env st).bind λrv=>(o env rv.2).bind λro=>(i env ro.2).bind λri=>(dU ri.2 ro.1 ri.1 rv.1).map λs=>.nx env s
noncomputable def ax (f:Ef):Sf
 | env,st=>(f env st).map λr=>.rt r.1 r.2
noncomputable def gF (f:Ef):Sf
 | env,st=>(f env st).map λr=>.nx env r.2
noncomputable def aH (c:Tf) (a b:Sf):Sf
 | env,st=>(c env st).bind λr=>if r.1=true then a env r.2 else b env r.2
noncomputable def eE (g:Tg) (body:Sf):List D->Ev->Sto->Option Fl
 | [],env,st=>some (.nx env st)
 | d::ds,env,st=>(bV g (.d d) env).bind λe=>(body e st).bind λr=>match r with
  | .nx e s=>eE g body ds e s
  | .ct e s=>eE g body ds e s
  | .bk e s=>some (.nx e s)
  | .rt w s=>some (.rt w s)
noncomputable def fe (fi:Lf) (g:Tg) (body:Sf):Sf
 | env,st=>(fi env st).bind λr=>eE g body r.1 env r.2
noncomputable def dg (c:Tf) (body:Sf):Nat->Ev->Sto->Option Fl
 | 0,_,_=>none
 | n+1,env,st=>(c env st).bind λk=>if k.1=true then (body env k.2).bind λr=>match r with
   | .nx e s=>dg c body n e s
   | .ct e s=>dg c body n e s
   | .bk e s=>some (.nx e s)
   | .rt w s=>some (.rt w s)
  else some (.nx env k.2)
noncomputable def lcI (g:Tg) (tt:Tf) (te:Ef) (env:Ev):List D->Sto->Option (List D×Sto)
 | [],st=>some ([],st)
 | d::ds,st=>(bV g (.d d) env).bind λe=>(tt e st).bind λb=>if b.1=true then (te e b.2).bind λx=>(cp [x.1]).bind λys=>(lcI g tt te env ds x.2).map λr=>(ys++r.1,r.2)
   else lcI g tt te env ds b.2
noncomputable def iR (k:Nat) (js:List Nat) (env:Ev):Ev:=List.replicate k none++js.map λj=>env.getD j none
noncomputable def iLc (k:Nat) (js:List Nat) (fi:Lf) (g:Tg) (tt:Tf) (te:Ef):Lf
 | env,st=>(fi env st).bind λr=>if r.1.length<=1000000 then lcI g tt te (iR k js env) r.1 r.2 else none
noncomputable def iI:Tf
 | _,st=>some (true,st)
noncomputable def cO (f:Ef):Lf
 | env,st=>(f env st).bind λr=>match r.1 with
 | .d (.tup ds)=>some (ds,r.2)
 | .d (.lst ds)=>some (ds,r.2)
 | _=>none
noncomputable def fk (lo:Int) (n:Nat):List D:=(List.range n).map λk:Nat=>D.int (lo+k)
noncomputable def df (a:Af):Lf
 | env,st=>(a env st).bind λr=>match r.1 with
 | [.d (.int j)]=>if -(2 ^ 62)<=j/\j < 2 ^ 62 then some (fk 0 j.toNat,r.2) else none
 | _=>none
section
variable {K:PySem.W.Frag}{X:Cx}{pos:Pos}
theorem PS.imp {s:Stmt}{t t':TS} (h:PS X s t) (m:∀ D σ H,t' D σ H->t D σ H):PS X s t':=λpins s σ H D I q=>h pins s σ H D I (m D σ H q)
theorem PSs.imp {s:List Stmt}{t t':TS} (h:PSs X s t) (m:∀ D σ H,t' D σ H->t D σ H):PSs X s t':=λpins s σ H D I q=>h pins s σ H D I (m D σ H q)
theorem Er.set {H:Hp}{φ:List Addr}{env:Ev}{σ:St} (h:Er K H φ env σ) (i:Nat) {w:W}{v:V} (r:Rw K H φ w v):Er K H φ (env.set i (some w)) (σ.set i (some v)):=by
 refine⟨by rw [List.length_set,List.length_set,h.len],λj w' e=>?_⟩
 by_cases hj:i=j
 ·subst hj
  have hi:i < env.length:=by
   have:=(List.getElem?_eq_some_iff.mp e).1
   rwa [List.length_set] at this
  rw [List.getElem?_set_self hi] at e
  cases e
  exact⟨v,by rw [List.getElem?_set_self (by rw [<-h.len];exact hi)],r⟩
 ·rw [List.getElem?_set_ne hj] at e
  obtain⟨v',e1,r1⟩:=h.at_ j w' e
  exact⟨v',by rw [List.getElem?_set_ne hj];exact e1,r1⟩
theorem og (i:Nat) (σ:St) (v:Option V):qJ [i] σ (σ.set i v):=⟨by rw [List.length_set],λj hj=>by rw [List.getElem?_set_ne (by rintro rfl;simp at hj)]⟩
theorem d9 {i:Nat}{x:Str} (h:PG X (.Name x pos) (oh i)):PG X (.Name x pos) (tG K (.nm i)):=by
 intro pins s σ H v u Q I rv q
 obtain⟨φ,st,env,w,env',hE,hS,r,e,q⟩:=q
 cases e
 exact h pins s σ H v u Q I rv (q _ (hE.set i r) (og i σ _))
variable {s:Stmt}{ss bW:List Stmt}{e a b c:Expr}{ga gb:Sf}{f fa fb fc:Ef}
theorem aF:ISs K X [] ao:=by
 refine⟨λenv st r hr=>?_⟩
 cases hr
 exact pi.imp λD σ H ⟨φ,hE,hS,q⟩=>q σ H φ (Fw.refl φ H) hE hS
theorem al (h:IS K X s ga):ISs K X [s] ga:=⟨λenv st r hr=>pd (h.run env st r hr)⟩
theorem ag (h1:IS K X s ga) (h2:ISs K X bW gb):ISs K X (s::bW) (aj ga gb):=by
 refine⟨λenv st r hr=>?_⟩
 simp only [aj,Option.bind_eq_some_iff] at hr
 obtain⟨r1,e1,hr⟩:=hr
 cases r1 with
 | nx e s1=>
  refine (gf (h1.run _ _ _ e1) (h2.run _ _ _ hr)).imp ?_
  rintro D σ H ⟨φ,hE,hS,q⟩
  exact⟨φ,hE,hS,λσ' H' φ' f' e' s'=>⟨φ',e',s',q.fw f'⟩⟩
 | rt w s1=>
  cases hr
  exact (gf (h1.run _ _ _ e1) dW).imp λD σ H ⟨φ,hE,hS,q⟩=>⟨φ,hE,hS,q⟩
 | bk w s1=>
  cases hr
  exact (gf (h1.run _ _ _ e1) dW).imp λD σ H ⟨φ,hE,hS,q⟩=>⟨φ,hE,hS,q⟩
 | ct w s1=>
  cases hr
  exact (gf (h1.run _ _ _ e1) dW).imp λD σ H ⟨φ,hE,hS,q⟩=>⟨φ,hE,hS,q⟩
theorem ba {i:Nat}{x:Str}{pos':Pos} (hN:X.N.Nodup) (hi:X.N[i]?=some x) (hx:Loc X.env.scope x) (he:IE K X e f) (hs:swapsWith e (some (.Name x pos')) pos.line X.env=pure false:=by rfl) (hf:X.fn x=true\/X.env.scope.names.lookup x=some .local:=by first | exact .inl rfl | exact .inr rfl | assumption) :
  IS K X (.Assign [.Name x pos'] e pos) (aT (.nm i) f):=by
 refine⟨λenv st r hr=>?_⟩
 simp only [aT,bV,Option.bind_eq_some_iff,Option.map_eq_some_iff] at hr
 obtain⟨y,hy,e',ee,rfl⟩:=hr
 cases ee
 refine (qL hN hi hx (he.run _ _ _ hy) hs hf).imp ?_
 rintro D σ H ⟨φ,hE,hS,q⟩
 exact⟨φ,hE,hS,λv H1 φ1 f1 s1 w1=>q _ H1 φ1 f1 ((hE.fw hS f1).set i w1) s1⟩
theorem Sr.put {H:Hp}{φ:List Addr}{st:Sto}{n:Nat}{a:Addr}{vs:List V}{ds:List D} (S:Sr K H φ st) (hn:φ[n]?=some a) (w:Rls K H φ ds vs) :
  Fw φ φ H (upd H a (.lst vs))/\Sr K (upd H a (.lst vs)) φ (st.set n ds):=by
 have ha:a ∈ φ:=List.mem_of_getElem? hn
 have f:Fw φ φ H (upd H a (.lst vs)):=⟨⟨[],by simp,by simp⟩,λb o hb h=>by rw [aO (λz=>hb (by rw [z];exact ha))];exact h,λb o h=>by
  by_cases z:b=a
  ·subst z;exact⟨_,bi⟩
  ·exact⟨o,by rw [aO z];exact h⟩⟩
 refine⟨f,S.nd,by rw [List.length_set];exact S.len,λm b es e1 e2=>?_⟩
 by_cases hm:n=m
 ·subst hm
  rw [e1] at hn;cases hn
  have hl:n < st.length:=by rw [<-S.len];exact (List.getElem?_eq_some_iff.mp e1).1
  rw [List.getElem?_set_self hl] at e2
  cases e2
  exact⟨vs,bi,w.fw S f⟩
 ·rw [List.getElem?_set_ne hm] at e2
  obtain⟨us,q,r⟩:=S.at_ m b es e1 e2
  have hne:b≠a:=by
   rintro rfl
   obtain⟨h1,h1'⟩:=List.getElem?_eq_some_iff.mp hn
   obtain⟨h2,h2'⟩:=List.getElem?_eq_some_iff.mp e1
   exact hm ((List.getElem_inj S.nd).mp (h1'.trans h2'.symm))
  exact⟨us,by rw [aO hne];exact q,r.fw S f⟩
theorem lF {st s':Sto}{o i v:W} (h:dU st o i v=some s'):∃ n k x ds j,o=.h n/\i=.d (.int k)/\v=.d x/\st[n]?=some ds/\ixN ds.length k=some j/\s'=st.set n (ds.set j x):=by
 unfold dU at h
 split at h
 ·obtain⟨ds,e1,h⟩:=Option.bind_eq_some_iff.mp h
  obtain⟨j,e2,h⟩:=Option.map_eq_some_iff.mp h
  exact⟨_,_,_,ds,j,rfl,rfl,rfl,e1,e2,h.symm⟩
 ·cases h
theorem fV {tpos:Pos} (ho:IE K X a fa) (hi:IE K X b fb) (hv:IE K X e f) (hb:ip b=true:=by rfl) (hs:swapsWithSole [.Subscript a b tpos] e pos.line X.env=pure false:=by rfl) (hw:swappedStores [.Subscript a b tpos] e X.env=pure none:=by rfl) :
  IS K X (.Assign [.Subscript a b tpos] e pos) (cv fa fb f):=by
 refine⟨λenv st r hr=>?_⟩
 simp only [cv,Option.bind_eq_some_iff,Option.map_eq_some_iff] at hr
 obtain⟨rv,ev,ro,eo,ri,ei,s',es,rfl⟩:=hr
 refine (rY (hv.run _ _ _ ev) (qv (ho.run _ _ _ eo) (hi.run _ _ _ ei) nK (pT hb)) hs hw (pR rfl)).imp ?_
 rintro D σ H ⟨φ,hE,hS,q⟩
 refine⟨φ,hE,hS,λv H1 φ1 f1 s1 w1=>⟨φ1,hE.fw hS f1,s1,λo H2 φ2 f2 s2 w2=>⟨φ2,(hE.fw hS f1).fw s1 f2,s2,λi H3 φ3 f3 s3 w3=>?_⟩⟩⟩
 have e3:=((hE.fw hS f1).fw s1 f2).fw s2 f3
 have w1':=(w1.fw s1 f2).fw s2 f3
 have w2':=w2.fw s2 f3
 obtain⟨ro1,ro2⟩:=ro
 obtain⟨rv1,rv2⟩:=rv
 obtain⟨ri1,ri2⟩:=ri
 obtain⟨n,k,x,ds,j,rfl,rfl,rfl,eds,ej,rfl⟩:=lF es
 obtain⟨p,ep,rfl⟩:=w2'
 obtain⟨vs,hp,rl⟩:=s3.at_ n p ds ep eds
 have w3':i=.int k:=w3
 subst w3'
 obtain⟨f4,s4⟩:=s3.put ep (Rls.set j rl w1')
 refine⟨p,vs,k,j,rfl,rfl,hp,by rw [<-rl.length];exact ej,?_⟩
 exact q _ _ φ3 (((f1.trans f2).trans f3).trans f4) (e3.fw s3 f4) s4
theorem ay (h:IE K X e f):IS K X (.Return (some e) pos) (ax f):=by
 refine⟨λenv st r hr=>?_⟩
 simp only [ax,Option.map_eq_some_iff] at hr
 obtain⟨y,hy,rfl⟩:=hr
 exact (rA (h.run _ _ _ hy)).imp λD σ H ⟨φ,hE,hS,q⟩=>⟨φ,hE,hS,q⟩
theorem mh (h:IE K X e f) (hs:swapsWith e none pos.line X.env=pure false:=by rfl):IS K X (.Expr e pos) (gF f):=by
 refine⟨λenv st r hr=>?_⟩
 simp only [gF,Option.map_eq_some_iff] at hr
 obtain⟨y,hy,rfl⟩:=hr
 exact (oX (h.run _ _ _ hy) hs).imp λD σ H ⟨φ,hE,hS,q⟩=>⟨φ,hE,hS,λv H1 φ1 f1 s1 w1=>q σ H1 φ1 f1 (hE.fw hS f1) s1⟩
theorem bq {tc:Tf}{sa sb:List Stmt} (hc:IT K X c tc) (ha:ISs K X sa ga) (hb:ISs K X sb gb):IS K X (.If c sa sb pos) (aH tc ga gb):=by
 refine⟨λenv st r hr=>?_⟩
 simp only [aH,Option.bind_eq_some_iff] at hr
 obtain⟨⟨k,s1⟩,hx,hr⟩:=hr
 cases k with
 | true=>
  rw [if_pos rfl] at hr
  refine (qe (hc.run _ _ _ hx) (ha.run _ _ _ hr) dW).imp ?_
  rintro D σ H ⟨φ,hE,hS,q⟩
  refine⟨φ,hE,hS,λH1 φ1 f1 s1=>nr ?_⟩
  exact⟨φ1,hE.fw hS f1,s1,q.fw f1⟩
 | false=>
  rw [if_neg Bool.false_ne_true] at hr
  refine (qe (hc.run _ _ _ hx) dW (hb.run _ _ _ hr)).imp ?_
  rintro D σ H ⟨φ,hE,hS,q⟩
  refine⟨φ,hE,hS,λH1 φ1 f1 s1=>nC ?_⟩
  exact⟨φ1,hE.fw hS f1,s1,q.fw f1⟩
noncomputable def sx (K:PySem.W.Frag) (g:Sf):TS:=λD σ H=>∃ env st r,g env st=some r/\tS K env st r D σ H
noncomputable def pY (K:PySem.W.Frag) (f:Ef):TE:=λσ H Q=>∃ env st r,f env st=some r/\tI K env st r σ H Q
noncomputable def oy (K:PySem.W.Frag) (f:Tf):TT:=λσ H Q=>∃ env st r,f env st=some r/\tIT K env st r σ H Q
theorem ISs.any (h:ISs K X ss ga):PSs X ss (sx K ga):=λpins s σ H D I ⟨env,st,r,e,q⟩=>h.run env st r e pins s σ H D I q
theorem IE.any (h:IE K X e f):PE X e (pY K f):=λpins s σ H D I ⟨env,st,r,e,q⟩=>h.run env st r e pins s σ H D I q
theorem IT.any {tf:Tf} (h:IT K X e tf):PT X e (oy K tf):=λpins s σ H D I ⟨env,st,r,e,q⟩=>h.run env st r e pins s σ H D I q
noncomputable def Yl (K:PySem.W.Frag) (φ0:List Addr) (H0:Hp) (J:It) (ds:List D):Prop:=∀ (H:Hp) (φ:List Addr) (st:Sto) (i:Nat),Fw φ0 φ H0 H->Sr K H φ st->
 (∀ d,ds[i]?=some d->J.go i H/\∀ x H',J.yld i H x H'->aL H H'/\Rl K H' φ d x)/\(ds.length=i->J.stop i H)
noncomputable def tII (K:PySem.W.Frag) (env:Ev) (st:Sto) (r:List D×Sto):TI:=λσ H R=>∃ φ,Er K H φ env σ/\Sr K H φ st/\∀ J H' φ',Fw φ φ' H H'->Sr K H' φ' r.2->Yl K φ' H' J r.1->R J H'
structure II (K:PySem.W.Frag) (X:Cx) (tg iter:Expr) (f:Lf):Prop where
 run:∀ env st r,f env st=some r->PI X tg iter (tII K env st r)
theorem PI.imp {tg iter:Expr}{t t':TI} (h:PI X tg iter t) (m:∀ σ H R,t' σ H R->t σ H R):PI X tg iter t':=λpins s σ H R I q=>h pins s σ H R I (m σ H R q)
variable {tg:Expr}
end
end L2
namespace L2
open PySem PySem.Spec PyProof.Rows
section
variable {K:PySem.W.Frag}{X:Cx}{pos:Pos}{tg e a b:Expr}{f:Ef}{af:Af}
theorem ln (h:IE K X e f) (hK:X.K=K:=by rfl):II K X tg e (cO f):=by
 subst hK
 refine⟨λenv st r hr=>?_⟩
 simp only [cO,Option.bind_eq_some_iff] at hr
 obtain⟨⟨w,s1⟩,hy,hr⟩:=hr
 match w,hr with
 | .d (.tup ds),hr=>
  cases hr
  refine (se (h.run _ _ _ hy)).imp ?_
  rintro σ H R ⟨φ,hE,hS,q⟩
  refine⟨φ,hE,hS,λv H1 φ1 f1 s1 w1=>?_⟩
  obtain⟨a,vs,rfl,hq,hr⟩:=w1
  refine⟨a,rfl,⟨vs,hq⟩,q _ H1 φ1 f1 s1 λH2 φ2 st2 i f2 s2=>?_⟩
  have hq2:=hq.fw s1 f2
  have hr2:=hr.fw s1 f2
  refine⟨λd hd=>?_,λhi=>⟨vs,hq2,by rw [<-hr2.length];exact Nat.le_of_eq hi⟩⟩
  obtain⟨v,ev,rv⟩:=hr2.get hd
  refine⟨⟨vs,v,hq2,ev⟩,λx H' y=>?_⟩
  obtain⟨rfl,y⟩:=y
  have:=y vs hq2
  rw [ev] at this
  cases this
  exact⟨aL.refl _,rv⟩
 | .d (.lst ds),hr=>
  cases hr
  refine (pS (h.run _ _ _ hy)).imp ?_
  rintro σ H R ⟨φ,hE,hS,q⟩
  refine⟨φ,hE,hS,λv H1 φ1 f1 s1 w1=>?_⟩
  obtain⟨a,vs,rfl,h0,hq,hr⟩:=w1
  refine⟨a,rfl,⟨vs,.inl hq⟩,q _ H1 φ1 f1 s1 λH2 φ2 st2 i f2 s2=>?_⟩
  have hq2:SqL X.K H2 a vs:=.inl (hq.fw f2 h0)
  have hr2:=hr.fw s1 f2
  refine⟨λd hd=>?_,λhi=>⟨vs,hq2,by rw [<-hr2.length];exact Nat.le_of_eq hi⟩⟩
  obtain⟨v,ev,rv⟩:=hr2.get hd
  refine⟨⟨vs,v,hq2,ev⟩,λx H' y=>?_⟩
  obtain⟨rfl,y⟩:=y
  have:=y vs hq2
  rw [ev] at this
  cases this
  exact⟨aL.refl _,rv⟩
theorem kn (lo:Int) (n i:Nat):(fk lo n)[i]?=if i < n then some (.int (lo+i)) else none:=by
 unfold fk
 rw [List.getElem?_map]
 by_cases h:i < n
 ·rw [List.getElem?_range h,if_pos h];rfl
 ·rw [List.getElem?_eq_none (by simpa using h),if_neg h];rfl
theorem ld (lo:Int) (n:Nat):(fk lo n).length=n:=by unfold fk;rw [List.length_map,List.length_range]
theorem rJ (lo:Int) (n:Nat) {φ:List Addr}{H:Hp}:Yl K φ H (Itr lo n) (fk lo n):=by
 intro H2 φ2 st2 i f2 s2
 refine⟨λd hd=>?_,λhi=>by rw [ld] at hi;exact Nat.le_of_eq hi⟩
 rw [kn] at hd
 by_cases h:i < n
 ·rw [if_pos h] at hd
  cases hd
  refine⟨h,λx H' y=>?_⟩
  obtain⟨rfl,rfl⟩:=y
  exact⟨aL.refl _,rfl⟩
 ·rw [if_neg h] at hd;cases hd
theorem gQ {p:Pos} (hg:Gl X "range") (hm:X.mg "range" = none) (ha:IA K X [a] af) (hs:aR a=true:=by rfl):II K X tg (.Call (.Name "range" p) [a] [] pos) (df af):=by
 refine⟨λenv st r hr=>?_⟩
 simp only [df,Option.bind_eq_some_iff] at hr
 obtain⟨⟨ws,s1⟩,hy,hr⟩:=hr
 match ws,hr with
 | [.d (.int j)],hr=>
  have hr':(if -(2 ^ 62)<=j/\j < 2 ^ 62 then some (fk 0 j.toNat,s1) else none)=some r:=hr
  by_cases hj:-(2 ^ 62)<=j/\j < 2 ^ 62
  ·rw [if_pos hj] at hr'
   cases hr'
   refine (mQ hg hm (ha.run _ _ _ hy) (nY hs)).imp ?_
   rintro σ H R ⟨φ,hE,hS,q⟩
   refine⟨φ,hE,hS,λvs H1 φ1 f1 s1 w1=>?_⟩
   obtain⟨v,r,rfl,r1,rfl⟩:=w1
   exact⟨j,by rw [show v=.int j from r1],hj.1,hj.2,q _ H1 φ1 f1 s1 (rJ 0 _)⟩
  ·rw [if_neg hj] at hr';cases hr'
theorem im {iter:Expr}{body:List Stmt}{fi:Lf}{g:Tg}{gb:Sf} (hi:II K X tg iter fi) (hg:PG X tg (tG K g)) (hb:ISs K X body gb) (hp:PassesOwn (model X.prog X.w) X.A X.env X.xe) (hc:X.calm=true:=by rfl)
  (hs:∀ x,foldedSetIterable iter X.env x=pure x:=by intro _;rfl):IS K X (.For tg iter body [] pos) (fe fi g gb):=by
 refine⟨λenv st r hr=>?_⟩
 simp only [fe,Option.bind_eq_some_iff] at hr
 obtain⟨⟨ds,s1⟩,hy,hr⟩:=hr
 refine (qC hp hc (hi.run _ _ _ hy) hg hb.any hs).imp ?_
 rintro D σ H ⟨φ,hE,hS,q⟩
 refine⟨φ,hE,hS,λJ H1 φ1 f1 S1 yl=>?_⟩
 refine⟨λi m σ H=>m=ds.length - i/\i<=ds.length/\∃ env st φ2,Fw φ1 φ2 H1 H/\Er K H φ2 env σ/\Sr K H φ2 st/\eE g gb (ds.drop i) env st=some r,⟨ds.length,by simp,Nat.zero_le _,env,s1,φ1,Fw.refl _ _,hE.fw hS f1,S1,hr⟩,?_⟩
 rintro i m σ H2 ⟨rfl,hi,env2,st2,φ2,f2,e2,S2,h2⟩
 obtain⟨y1,y2⟩:=yl H2 φ2 st2 i f2 S2
 by_cases hlt:i < ds.length
 ·obtain⟨go,yld⟩:=y1 ds[i] (List.getElem?_eq_getElem hlt)
  rw [List.drop_eq_getElem_cons hlt] at h2
  simp only [eE,Option.bind_eq_some_iff] at h2
  obtain⟨e3,he3,r3,hr3,h3⟩:=h2
  refine .inr ⟨go,λσ' H'=>i+1<=ds.length/\∃ env st φ2,Fw φ1 φ2 H1 H'/\Er K H' φ2 env σ'/\Sr K H' φ2 st/\eE g gb (ds.drop (i+1)) env st=some r,λσ' H' ⟨hn,p'⟩=>⟨ds.length - (i+1),by lia,rfl,hn,p'⟩,λx H' y=>?_⟩
  obtain⟨sm,rx⟩:=yld x H' y
  have S3:=S2.same sm
  have f3:=f2.trans (Fw.same (φ:=φ2) sm)
  refine⟨φ2,st2,env2,.d ds[i],e3,e2.fw S2 (Fw.same sm),S3,rx,he3,λσ' e' _=>?_⟩
  refine⟨e3,st2,r3,hr3,φ2,e',S3,?_⟩
  cases r3 with
  | nx e4 s4=>exact λσ4 H4 φ4 f4 e4' s4'=>⟨hlt,e4,s4,φ4,f3.trans f4,e4',s4',h3⟩
  | ct e4 s4=>exact λσ4 H4 φ4 f4 e4' s4'=>⟨hlt,e4,s4,φ4,f3.trans f4,e4',s4',h3⟩
  | bk e4 s4=>
   cases h3
   exact λσ4 H4 φ4 f4 e4' s4'=>q σ4 H4 φ4 (f1.trans (f3.trans f4)) e4' s4'
  | rt w s4=>
   cases h3
   exact λv H4 φ4 f4 s4' w4=>q v H4 φ4 (f1.trans (f3.trans f4)) s4' w4
 ·have hi':i=ds.length:=by lia
  subst hi'
  rw [List.drop_length] at h2
  cases h2
  exact .inl ⟨y2 rfl,q σ H2 φ2 (f1.trans f2) e2 S2⟩
noncomputable def oz (n:Nat) (c:Tf) (b:Sf):Sf
 | env,st=>dg c b n env st
theorem nT {c:Expr}{body:List Stmt}{tc:Tf}{gb:Sf} (n:Nat) (hc:IT K X c tc) (hb:ISs K X body gb) (hp:PassesOwn (model X.prog X.w) X.A X.env X.xe):IS K X (.While c body [] pos) (oz n tc gb):=by
 refine⟨λenv st r hr=>?_⟩
 refine (ow hp hc.any hb.any).imp ?_
 rintro D σ H ⟨φ,hE,hS,q⟩
 refine⟨λm σ H'=>∃ env st φ2,Fw φ φ2 H H'/\Er K H' φ2 env σ/\Sr K H' φ2 st/\dg tc gb m env st=some r,⟨n,env,st,φ,Fw.refl _ _,hE,hS,hr⟩,?_⟩
 rintro m σ H2 ⟨env2,st2,φ2,f2,e2,S2,h2⟩
 cases m with
 | zero=>cases h2
 | succ m=>
  simp only [dg,Option.bind_eq_some_iff] at h2
  obtain⟨⟨k,s3⟩,hk,h2⟩:=h2
  refine⟨env2,st2,_,hk,φ2,e2,S2,λH3 φ3 f3 S3=>?_⟩
  cases k with
  | false=>
   rw [if_neg Bool.false_ne_true] at h2
   cases h2
   exact nC (q σ H3 φ3 (f2.trans f3) (e2.fw S2 f3) S3)
  | true=>
   simp only [if_true,Option.bind_eq_some_iff] at h2
   obtain⟨r3,hr3,h3⟩:=h2
   refine nr ⟨λσ' H'=>∃ env st φ2,Fw φ φ2 H H'/\Er K H' φ2 env σ'/\Sr K H' φ2 st/\dg tc gb m env st=some r,λσ' H' p'=>⟨m,Nat.lt_succ_self _,p'⟩,?_⟩
   refine⟨env2,s3,r3,hr3,φ3,e2.fw S2 f3,S3,?_⟩
   have f3':=f2.trans f3
   cases r3 with
   | nx e4 s4=>exact λσ4 H4 φ4 f4 e4' s4'=>⟨e4,s4,φ4,f3'.trans f4,e4',s4',h3⟩
   | ct e4 s4=>exact λσ4 H4 φ4 f4 e4' s4'=>⟨e4,s4,φ4,f3'.trans f4,e4',s4',h3⟩
   | bk e4 s4=>
    cases h3
    exact λσ4 H4 φ4 f4 e4' s4'=>q σ4 H4 φ4 (f3'.trans f4) e4' s4'
   | rt w s4=>
    cases h3
    exact λv H4 φ4 f4 s4' w4=>q v H4 φ4 (f3'.trans f4) s4' w4
structure ITs (K:PySem.W.Frag) (X:Cx) (ifs:List Expr) (t:Tf):Prop where
 run:PTs X ifs (oy K t)
theorem lO:ITs K X [] iI:=by
 refine⟨λpins s σ H Q I ⟨env,st,r,e,φ,hE,hS,q⟩=>?_⟩
 cases e
 exact oS pins s σ H Q I (q H φ (Fw.refl φ H) hS)
theorem Er.emb {H:Hp}{φ:List Addr}{env:Ev}{σ:St} (h:Er K H φ env σ) (k:Nat) (js:List Nat):Er K H φ (iR k js env) (eO k js σ):=by
 refine⟨by unfold iR eO;simp,λi w e=>?_⟩
 unfold iR at e
 unfold eO
 by_cases hi:i < k
 ·rw [List.getElem?_append_left (by simpa using hi),List.getElem?_replicate,if_pos hi] at e
  cases e
 ·rw [List.getElem?_append_right (by simpa using hi),List.length_replicate,List.getElem?_map,Option.map_eq_some_iff] at e
  obtain⟨j,ej,e⟩:=e
  have ej2:env[j]?=some (some w):=by
   rw [List.getD] at e
   cases q:env[j]? with
   | none=>rw [q] at e;cases e
   | some o=>rw [q] at e;rw [show o=some w from e]
  obtain⟨v,ev,rv⟩:=h.at_ j w ej2
  refine⟨v,?_,rv⟩
  rw [List.getElem?_append_right (by simpa using hi),List.length_replicate,List.getElem?_map,ej]
  show some ((σ[j]?).getD none)=_
  rw [ev];rfl
theorem Sub.stay {k:Nat}{js is:List Nat}{σ σ':St} (h:qJ is (eO k js σ) σ') (hi:∀ j ∈ is,j < k):Sub (eO k js σ) σ':=by
 refine⟨h.1.symm,λj v e=>?_⟩
 by_cases hj:j ∈ is
 ·have:=hi j hj
  unfold eO at e
  rw [List.getElem?_append_left (by simpa using this),List.getElem?_replicate,if_pos this] at e
  cases e
 ·rw [h.2 j hj];exact e
theorem rS {k:Nat}{js:List Nat}{g:Tg}{tt:Tf}{te:Ef}{env:Ev}{st s1:Sto}{ds:List D}{r:List D×Sto} (hgi:∀ j ∈ qE g,j < k) (hdl:ds.length<=1000000) (hr':lcI g tt te (iR k js env) ds s1=some r) :
  ∀ σ H Q,tIL K env st r σ H Q->tLc (eO k js) (tII K env st (ds,s1)) (tG K g) (oy K tt) (pY K te) σ H Q:=by
 rintro σ H Q ⟨φ,hE,hS,q⟩
 refine⟨φ,hE,hS,λJ H1 φ1 f1 S1 yl=>?_⟩
 have hE1:=(hE.fw hS f1).emb k js
 refine⟨λi m ys H2=>m=ds.length - i/\i<=ds.length/\∃ st φ2 es r2,Fw φ1 φ2 H1 H2/\Sr K H2 φ2 st/\Rls K H2 φ2 es ys/\es.length<=i/\lcI g tt te (iR k js env) (ds.drop i) st=some r2/\r=(es++r2.1,r2.2),⟨ds.length,by simp,Nat.zero_le _,s1,φ1,[],r,Fw.refl _ _,S1,rfl,Nat.le_refl _,hr',rfl⟩,?_⟩
 rintro i m ys H2 ⟨rfl,hi,st2,φ2,es,r2,f2,S2,rl2,hle,h2,rfl⟩
 obtain⟨y1,y2⟩:=yl H2 φ2 st2 i f2 S2
 by_cases hlt:i < ds.length
 ·obtain⟨go,yld⟩:=y1 ds[i] (List.getElem?_eq_getElem hlt)
  rw [List.drop_eq_getElem_cons hlt] at h2
  simp only [lcI,Option.bind_eq_some_iff] at h2
  obtain⟨e3,he3,⟨kb,s3⟩,hb3,h3⟩:=h2
  have hz:ys.length < sizeLine:=by
   rw [<-rl2.length]
   have:sizeLine=16777216:=sizeLine_eq
   lia
  refine .inr ⟨go,hz,λys' H'=>i+1<=ds.length/\∃ st φ2 es' r2',Fw φ1 φ2 H1 H'/\Sr K H' φ2 st/\Rls K H' φ2 es' ys'/\es'.length<=i+1/\lcI g tt te (iR k js env) (ds.drop (i+1)) st=some r2'/\(es++r2.1,r2.2)=(es'++r2'.1,r2'.2),λys' H' ⟨hn,p'⟩=>⟨ds.length - (i+1),by lia,rfl,hn,p'⟩,λx H' y=>?_⟩
  obtain⟨sm,rx⟩:=yld x H' y
  have S3:=S2.same sm
  have f3:=f2.trans (Fw.same (φ:=φ2) sm)
  refine⟨φ2,st2,iR k js env,.d ds[i],e3,hE1.fw S1 f3,S3,rx,he3,λσ' e' stay=>⟨Sub.stay stay hgi,?_⟩⟩
  refine⟨e3,st2,_,hb3,φ2,e',S3,λH4 φ4 f4 S4=>?_⟩
  cases kb with
  | false=>
   rw [if_neg Bool.false_ne_true] at h3
   exact nC ⟨hlt,s3,φ4,es,r2,f3.trans f4,S4,(rl2.fw S2 (Fw.same sm)).fw S3 f4,by lia,h3,rfl⟩
  | true=>
   simp only [if_true,Option.bind_eq_some_iff,Option.map_eq_some_iff] at h3
   obtain⟨x5,hx5,zs,hzs,r5,hr5,rfl⟩:=h3
   refine nr ⟨e3,s3,x5,hx5,φ4,e'.fw S3 f4,S4,λv H5 φ5 f5 S5 w5=>?_⟩
   obtain⟨x5,s5⟩:=x5
   cases x5 with
   | h n=>cases hzs
   | d z=>
    cases hzs
    refine⟨hlt,s5,φ5,es++[z],r5,(f3.trans f4).trans f5,S5,(((rl2.fw S2 (Fw.same sm)).fw S3 f4).fw S4 f5).append ⟨v,[],rfl,w5,rfl⟩,by rw [List.length_append];simp;lia,hr5,?_⟩
    simp
 ·have hi':i=ds.length:=by lia
  subst hi'
  rw [List.drop_length] at h2
  cases h2
  refine .inl ⟨y2 rfl,λDn hD=>?_⟩
  have:=q Dn ys H2 φ2 (f1.trans f2) S2 hD
  exact this (by simpa using rl2)
theorem p9 {scope:Scope}{Nc:List Str}{k:Nat}{js:List Nat}{elt iter:Expr}{ifs:List Expr}{fi:Lf}{g:Tg}{tt:Tf}{te:Ef}
  (S:eU X scope Nc (eO k js)) (hc:X.calm=true) (hgi:∀ j ∈ qE g,j < k) (hi:II K X tg iter fi)
  (hg:∀ cells s H C fp,PG (lcX X scope cells Nc s H C fp) tg (tG K g)) (ht:∀ cells s H C fp,ITs K (lcX X scope cells Nc s H C fp) ifs tt) (he:∀ cells s H C fp,IE K (lcX X scope cells Nc s H C fp) elt te)
  (hs:∀ x,foldedSetIterable iter X.env x=pure x:=by intro _;rfl):IL K X (.ListComp elt [⟨tg,iter,ifs,0⟩] scope pos) (iLc k js fi g tt te):=by
 refine⟨λenv st r hr=>?_⟩
 simp only [iLc,Option.bind_eq_some_iff] at hr
 obtain⟨⟨ds,s1⟩,hy,hr⟩:=hr
 have hr':(if ds.length<=1000000 then lcI g tt te (iR k js env) ds s1 else none)=some r:=hr
 by_cases hdn:¬ ds.length<=1000000
 ·rw [if_neg hdn] at hr';cases hr'
 have hdl:ds.length<=1000000:=by lia
 rw [if_pos hdl] at hr'
 refine (sJ S hc (hi.run _ _ _ hy) hg (λcells s H C fp=>(ht cells s H C fp).run) (λcells s H C fp=>(he cells s H C fp).any) hs).imp (rS hgi hdl hr')
end
end L2
namespace L2
open PySem PySem.Spec PyProof.Rows
noncomputable def bj (n k:Nat) (b:Sf):Fn
 | ws,st=>if ws.length=k then (b (ws.map some++List.replicate (n - k) none) st).bind λr=>match r with
 | .nx _ s=>some (.d .non,s)
 | .rt w s=>some (w,s)
 | _=>none
 else none
noncomputable def gk (n:Nat) (w:W) (s:Sto):Option (W×Sto):=match w with
 | .d x=>some (.d x,s.take n)
 | .h m=>if m < n then some (.h m,s.take n) else (s[m]?).map λds=>(.d (.lst ds),s.take n)
noncomputable def dB (n k:Nat) (b:Sf):Fn
 | ws,st=>if ws.length=k then (b (ws.map some++List.replicate (n - k) none) st).bind λr=>match r with
 | .nx _ s=>some (.d .non,s.take st.length)
 | .rt w s=>gk st.length w s
 | _=>none
 else none
section
variable {P:Program}{w:World}{K:PySem.W.Frag}{mg:Str->Option Value}{base:Heap}
theorem la {H:Hp}{φ:List Addr}{N:List Str}{k:Nat}:∀ {ws:List W}{vs:List V},Rws K H φ ws vs->ws.length=k->Er K H φ (ws.map some++List.replicate (N.length - k) none) (start N vs):=by
 intro ws vs r hk
 have hl:=r.length
 refine⟨by unfold start;simp;lia,λi x e=>?_⟩
 unfold start
 by_cases hi:i < ws.length
 ·rw [List.getElem?_append_left (by simpa using hi),List.getElem?_map,Option.map_eq_some_iff] at e
  obtain⟨y,ey,e⟩:=e
  have:∃ v,vs[i]?=some v/\Rw K H φ y v:=by
   clear hk hl hi e
   induction ws generalizing vs i with
   | nil=>simp at ey
   | cons w ws ih=>
    obtain⟨v,r',rfl,r1,r2⟩:=r
    cases i with
    | zero=>simp at ey;subst ey;exact⟨v,rfl,r1⟩
    | succ i=>simpa using ih r2 i (by simpa using ey)
  obtain⟨v,ev,rv⟩:=this
  cases e
  refine⟨v,?_,rv⟩
  rw [List.getElem?_append_left (by rw [List.length_map,<-hl];exact hi),List.getElem?_map,ev];rfl
 ·rw [List.getElem?_append_right (by simpa using hi)] at e
  have:=List.mem_of_getElem? e
  have:=(List.mem_replicate.mp this).2
  cases this
theorem fj {x qual:Str}{st:Stmt}{f:Addr}{fd:FuncData}{N ps:List Str}{k:Nat}{b:Sf} (F:Fun K x qual st f fd) (S:aS N ps (ah st))
  (hb:∀ (cdv:Value) (A:Around) (outer:List Env) (s:Shared) (H:Hp) (E:XK),bO k (A.deeper (envOfC qual (ah st) s.heap.objs.size f cdv))->ISs K (gm CX0 P w K mg base N qual (ah st) f cdv A outer s H E).nox (aE st) b) :
  bp P w K mg base CX0 (k+1) f fd ps (spI K (bj N.length ps.length b)):=by
 refine F.ok S (λvs H Q E h=>?_) λcdv A outer s H vs Q E hr h=>?_
 ·obtain⟨φ,st,ws,r,e,rw,_⟩:=h
  rw [bj] at e
  by_cases hl:ws.length=ps.length
  ·rw [<-rw.length,hl]
  ·rw [if_neg hl] at e;cases e
 ·obtain⟨φ,st',ws,r,e,rw,S',q⟩:=h
  rw [bj] at e
  by_cases hl:ws.length=ps.length
  ·rw [if_pos hl] at e
   obtain⟨fl,e1,e2⟩:=Option.bind_eq_some_iff.mp e
   refine⟨_,(hb cdv A outer s H E hr).run _ _ _ e1,φ,la rw hl,S',?_⟩
   cases fl with
   | nx e s=>cases e2;exact λσ' H' φ' f' e' s'=>q .non H' φ' f' s' rfl
   | rt w s=>cases e2;exact λv H' φ' f' s' w'=>q v H' φ' f' s' w'
   | bk e s=>cases e2
   | ct e s=>cases e2
  ·rw [if_neg hl] at e;cases e
theorem Fw.less {φ φ':List Addr}{H H':Hp} (f:Fw φ φ' H H'):Fw φ φ H H':=⟨⟨[],by simp,by simp⟩,f.keep,f.there⟩
theorem rq {x qual:Str}{st:Stmt}{f:Addr}{fd:FuncData}{N ps:List Str}{k:Nat}{b:Sf} (F:Fun K x qual st f fd) (S:aS N ps (ah st))
  (hb:∀ (cdv:Value) (A:Around) (outer:List Env) (s:Shared) (H:Hp) (E:XK),bO k (A.deeper (envOfC qual (ah st) s.heap.objs.size f cdv))->ISs K (gm CX0 P w K mg base N qual (ah st) f cdv A outer s H E).nox (aE st) b) :
  bp P w K mg base CX0 (k+1) f fd ps (spI K (dB N.length ps.length b)):=by
 refine F.ok S (λvs H Q E h=>?_) λcdv A outer s H vs Q E hr h=>?_
 ·obtain⟨φ,st,ws,r,e,rw,_⟩:=h
  rw [dB] at e
  by_cases hl:ws.length=ps.length
  ·rw [<-rw.length,hl]
  ·rw [if_neg hl] at e;cases e
 ·obtain⟨φ,st',ws,r,e,rw,S',q⟩:=h
  rw [dB] at e
  by_cases hl:ws.length=ps.length
  ·rw [if_pos hl] at e
   obtain⟨fl,e1,e2⟩:=Option.bind_eq_some_iff.mp e
   refine⟨_,(hb cdv A outer s H E hr).run _ _ _ e1,φ,la rw hl,S',?_⟩
   have less:∀ {H':Hp}{φ':List Addr}{s':Sto},Fw φ φ' H H'->Sr K H' φ' s'->Sr K H' φ (s'.take st'.length):=λ{H' φ' s'} f' S2=>by
    obtain⟨ψ,rfl,_⟩:=f'.ext
    rw [<-S'.len]
    exact S2.less
   cases fl with
   | nx e s=>cases e2;exact λσ' H' φ' f' e' s'=>q .non H' φ f'.less (less f' s') rfl
   | rt w s=>
    intro v H' φ' f' s' w'
    have e3:gk st'.length w s=some r:=e2
    obtain⟨ψ,eψ,_⟩:=f'.ext
    cases w with
    | d x=>
     cases e3
     subst eψ
     exact q v H' φ f'.less (less f' s') (Rl.less w')
    | h m=>
     obtain⟨a,ea,rfl⟩:=w'
     unfold gk at e3
     by_cases hm:m < st'.length
     ·have e4:some (W.h m,s.take st'.length)=some r:=by
       have:=e3
       simp only [hm,if_true] at this
       exact this
      cases e4
      subst eψ
      rw [List.getElem?_append_left (by rw [S'.len];exact hm)] at ea
      exact q _ H' φ f'.less (less f' s') ⟨a,ea,rfl⟩
     ·simp only [hm,if_false] at e3
      obtain⟨ds,eds,rfl⟩:=Option.map_eq_some_iff.mp e3
      obtain⟨vs,hv,rl⟩:=s'.at_ m a ds ea eds
      have hn:a ∉ φ:=λz=>by
       obtain⟨i,hi,ei⟩:=List.mem_iff_getElem.mp z
       have h1:φ'[i]?=some a:=by subst eψ;rw [List.getElem?_append_left hi,List.getElem?_eq_getElem hi,ei]
       obtain⟨h2,h2'⟩:=List.getElem?_eq_some_iff.mp h1
       obtain⟨h3,h3'⟩:=List.getElem?_eq_some_iff.mp ea
       have:=(List.getElem_inj s'.nd).mp (h2'.trans h3'.symm)
       rw [S'.len] at hi
       lia
      subst eψ
      exact q _ H' φ f'.less (less f' s') ⟨a,vs,rfl,hn,.inl hv,rl.less⟩
   | bk e s=>cases e2
   | ct e s=>cases e2
  ·rw [if_neg hl] at e;cases e
end
noncomputable def cg:D->Bool
 | .non=>true
 | .bl _=>true
 | .int _=>true
 | .str _=>true
 | _=>false
noncomputable def vOf:D->V
 | .bl b=>.bl b
 | .int i=>.int i
 | .str x=>.str x
 | _=>.non
mutual
noncomputable def eqD:D->D->Bool
 | .non,.non=>true
 | .bl a,.bl b=>a==b
 | .bl a,.int b=>(if a then 1 else 0)==b
 | .int a,.bl b=>a==(if b then 1 else 0)
 | .int a,.int b=>a==b
 | .str a,.str b=>a==b
 | .tup as,.tup bs=>fg as bs
 | .lst as,.lst bs=>fg as bs
 | _,_=>false
noncomputable def fg:List D->List D->Bool
 | [],[]=>true
 | a::as,b::bs=>eqD a b && fg as bs
 | _,_=>false
end
noncomputable def okD:Nat->D->Bool
 | _,.non=>true
 | _,.bl _=>true
 | _,.int _=>true
 | _,.str _=>true
 | n+1,.tup ds=>ds.all (okD n)
 | n+1,.lst ds=>ds.all (okD n)
 | _,_=>false
noncomputable def lsD (st:Sto):W->Option (List D)
 | .d (.lst ds)=>some ds
 | .h n=>st[n]?
 | _=>none
noncomputable def bf (st:Sto) (x y:W):Option D:=match x,y with
 | .d (.int i),.d (.int j)=>some (.int (i+j))
 | .d (.tup a),.d (.tup b)=>if a.length+b.length<=1000000 then some (.tup (a++b)) else none
 | .d (.str a),.d (.str b)=>if a.length+b.length<=1000000 then some (.str (a++b)) else none
 | x,y=>(lsD st x).bind λa=>(lsD st y).bind λb=>if a.length+b.length<=1000000 then some (.lst (a++b)) else none
noncomputable def dF (_:Sto):W->W->Option D
 | .d (.int i),.d (.int j)=>some (.int (i - j))
 | _,_=>none
instance (a b:Int):Decidable (IntMulOk a b):=by unfold IntMulOk;infer_instance
noncomputable def eK (_:Sto):W->W->Option D
 | .d (.int i),.d (.int j)=>if IntMulOk i j then some (.int (i*j)) else none
 | .d (.tup a),.d (.int k)=>if a≠[]/\a.length<=1000/\1<=k/\k < 1000 then some (.tup (List.replicate k.toNat a).flatten) else none
 | .d (.lst a),.d (.int k)=>if a.length<=1000/\-1000<=k/\k < 1000 then some (.lst (List.replicate k.toNat a).flatten) else none
 | _,_=>none
noncomputable def eM (_:Sto):W->W->Option D
 | .d (.int i),.d (.int j)=>if 0 < j/\j < 1073741824 then some (.int (i / j)) else none
 | _,_=>none
noncomputable def fU (_:Sto):W->W->Option D
 | .d (.int i),.d (.int j)=>if 0 < j then some (.int (i % j)) else none
 | _,_=>none
instance (i j:Int):Decidable (kZ i j):=by unfold kZ;infer_instance
noncomputable def jp (_:Sto):W->W->Option D
 | .d (.int i),.d (.int j)=>if kZ i j then some (.int (i ^ j.toNat)) else none
 | _,_=>none
noncomputable def dLt (_:Sto):W->W->Option D
 | .d (.int i),.d (.int j)=>some (.bl (decide (i < j)))
 | _,_=>none
noncomputable def dLe (_:Sto):W->W->Option D
 | .d (.int i),.d (.int j)=>some (.bl (decide (i<=j)))
 | _,_=>none
noncomputable def dGt (_:Sto):W->W->Option D
 | .d (.int i),.d (.int j)=>some (.bl (decide (j < i)))
 | _,_=>none
noncomputable def dGe (_:Sto):W->W->Option D
 | .d (.int i),.d (.int j)=>some (.bl (decide (j<=i)))
 | _,_=>none
noncomputable def kf:D->Bool
 | .non=>true
 | _=>false
noncomputable def qB (_:Sto):W->W->Option D
 | .d x,.d .non=>some (.bl (kf x))
 | _,_=>none
noncomputable def no (_:Sto):W->W->Option D
 | .d x,.d .non=>some (.bl (!kf x))
 | _,_=>none
noncomputable def inD (x:D) (ds:List D):Bool:=ds.any λy=>eqD y x
noncomputable def dIn (st:Sto) (x y:W):Option D:=match x with
 | .d x=>(bt st y).bind λds=>if cg x=true/\ds.all cg=true then some (.bl (inD x ds)) else none
 | _=>none
noncomputable def dA (st:Sto) (x y:W):Option D:=match x with
 | .d x=>(bt st y).bind λds=>if cg x=true/\ds.all cg=true then some (.bl (!inD x ds)) else none
 | _=>none
section
variable {K:PySem.W.Frag}{X:Cx}
theorem d8 {H:Hp}{φ:List Addr}{d:D}{v:V} (h:cg d=true) (r:Rl K H φ d v):v=vOf d/\dy v=true:=by
 cases d with
 | non=>cases (show v=.non from r);exact⟨rfl,rfl⟩
 | bl b=>cases (show v=.bl b from r);exact⟨rfl,rfl⟩
 | int b=>cases (show v=.int b from r);exact⟨rfl,rfl⟩
 | str b=>cases (show v=.str b from r);exact⟨rfl,rfl⟩
 | _=>cases h
theorem jS {a b:D} (ha:cg a=true) (hb:cg b=true):eqV (vOf a) (vOf b)=eqD a b:=by
 cases a<;>cases b<;>first | rfl | (cases ha;done) | (cases hb;done) | (simp [eqV,vOf,eqD];done)
theorem iy {H:Hp}{φ:List Addr}:∀ {ds:List D}{vs:List V},ds.all cg=true->Rls K H φ ds vs->vs=ds.map vOf/\vs.all dy=true
 | [],_,_,h=>by cases h;exact⟨rfl,rfl⟩
 | d::ds,_,h,r=>by
  rw [List.all_cons,Bool.and_eq_true] at h
  obtain⟨v,vr,rfl,r1,r2⟩:=r
  obtain⟨e1,e2⟩:=d8 h.1 r1
  obtain⟨e3,e4⟩:=iy h.2 r2
  exact⟨by rw [e1,e3];rfl,by rw [List.all_cons,e2,e4];rfl⟩
theorem jz {x:D} (hx:cg x=true):∀ {ds:List D},ds.all cg=true->inV (vOf x) (ds.map vOf)=inD x ds
 | [],_=>rfl
 | d::ds,h=>by
  rw [List.all_cons,Bool.and_eq_true] at h
  have ih:=jz hx h.2
  unfold inV inD at ih ⊢
  rw [List.map_cons,List.any_cons,List.any_cons,ih,jS h.1 hx]
theorem eF {f:Value->Value->Sem Value}{g:Sto->W->W->Option D} (h:∀ st x y d,g st x y=some d->∃ i j,x=.d (.int i)/\y=.d (.int j)/\OpR X f (λvx vy H Q=>vx=.int i/\vy=.int j/\Q (vOf d) H)/\cg d=true):OpD K X f g:=by
 refine⟨λst x y d hd=>?_⟩
 obtain⟨i,j,rfl,rfl,ho,hf⟩:=h st x y d hd
 refine ho.imp ?_
 rintro vx vy H Q ⟨φ,S,r1,r2,q⟩
 refine⟨r1,r2,q _ H (aL.refl H) ?_⟩
 cases d<;>first | rfl | cases hf
theorem fF:OpD K X (binaryOp .Sub) dF:=eF λst x y d h=>by
 match x,y,h with
 | .d (.int i),.d (.int j),h=>cases h;exact⟨i,j,rfl,rfl,qI.imp λvx vy H Q ⟨a,b,q⟩=>⟨i,j,a,b,q⟩,rfl⟩
theorem nA:OpD K X (compareOp .Lt) dLt:=eF λst x y d h=>by
 match x,y,h with
 | .d (.int i),.d (.int j),h=>cases h;exact⟨i,j,rfl,rfl,sB.imp λvx vy H Q ⟨a,b,q⟩=>⟨i,j,a,b,q⟩,rfl⟩
theorem lP:OpD K X (compareOp .LtE) dLe:=eF λst x y d h=>by
 match x,y,h with
 | .d (.int i),.d (.int j),h=>cases h;exact⟨i,j,rfl,rfl,sQ.imp λvx vy H Q ⟨a,b,q⟩=>⟨i,j,a,b,q⟩,rfl⟩
theorem p7:OpD K X (compareOp .Gt) dGt:=eF λst x y d h=>by
 match x,y,h with
 | .d (.int i),.d (.int j),h=>cases h;exact⟨i,j,rfl,rfl,sk.imp λvx vy H Q ⟨a,b,q⟩=>⟨i,j,a,b,q⟩,rfl⟩
theorem tP:OpD K X (compareOp .GtE) dGe:=eF λst x y d h=>by
 match x,y,h with
 | .d (.int i),.d (.int j),h=>cases h;exact⟨i,j,rfl,rfl,sU.imp λvx vy H Q ⟨a,b,q⟩=>⟨i,j,a,b,q⟩,rfl⟩
theorem jv:OpD K X (binaryOp .FloorDiv) eM:=eF λst x y d h=>by
 match x,y,h with
 | .d (.int i),.d (.int j),h=>
  simp only [eM] at h
  split at h
  ·rename_i hc
   cases h;exact⟨i,j,rfl,rfl,oQ.imp λvx vy H Q ⟨a,b,q⟩=>⟨i,j,a,b,hc,q⟩,rfl⟩
  ·cases h
theorem eQ:OpD K X (binaryOp .Mod) fU:=eF λst x y d h=>by
 match x,y,h with
 | .d (.int i),.d (.int j),h=>
  simp only [fU] at h
  split at h
  ·rename_i hc
   cases h;exact⟨i,j,rfl,rfl,qo.imp λvx vy H Q ⟨a,b,q⟩=>⟨i,j,a,b,hc,q⟩,rfl⟩
  ·cases h
theorem iu:OpD K X (binaryOp .Pow) jp:=eF λst x y d h=>by
 match x,y,h with
 | .d (.int i),.d (.int j),h=>
  simp only [jp] at h
  split at h
  ·rename_i hc
   cases h;exact⟨i,j,rfl,rfl,qN.imp λvx vy H Q ⟨a,b,q⟩=>⟨i,j,a,b,hc,q⟩,rfl⟩
  ·cases h
theorem oD {H:Hp}{φ:List Addr}{d:D}{v:V} (r:Rl K H φ d v):decide (v=.non)=kf d:=by
 cases d with
 | non=>cases (show v=.non from r);rfl
 | bl b=>cases (show v=.bl b from r);rfl
 | int b=>cases (show v=.int b from r);rfl
 | str b=>cases (show v=.str b from r);rfl
 | ty b=>cases (show v=.ty b from r);rfl
 | dct=>obtain⟨a,rfl,_⟩:=r;rfl
 | scr ns=>obtain⟨a,rfl,_⟩:=r;rfl
 | tup ds=>obtain⟨a,vs,rfl,_⟩:=r;rfl
 | lst ds=>obtain⟨a,vs,rfl,_⟩:=r;rfl
theorem rF:OpD K X (compareOp .Is) qB:=by
 refine⟨λst x y d h=>?_⟩
 match x,y,h with
 | .d x,.d .non,h=>
  cases h
  refine qM.imp ?_
  rintro vx vy H Q ⟨φ,S,r1,r2,q⟩
  refine⟨r2,q _ H (aL.refl H) ?_⟩
  rw [oD r1];rfl
theorem oM:OpD K X (compareOp .IsNot) no:=by
 refine⟨λst x y d h=>?_⟩
 match x,y,h with
 | .d x,.d .non,h=>
  cases h
  refine pP.imp ?_
  rintro vx vy H Q ⟨φ,S,r1,r2,q⟩
  refine⟨r2,q _ H (aL.refl H) ?_⟩
  rw [oD r1];rfl
theorem nJ (hK:X.K=K:=by rfl):OpD K X (compareOp .In) dIn:=by
 subst hK
 refine⟨λst x y d h=>?_⟩
 match x,h with
 | .d x,h=>
  simp only [dIn,Option.bind_eq_some_iff] at h
  obtain⟨ds,hs,h⟩:=h
  split at h
  ·rename_i hc
   cases h
   refine mx.imp ?_
   rintro vx vy H Q ⟨φ,S,r1,r2,q⟩
   obtain⟨a,vs,rfl,h1,h2⟩:=eY S r2 hs
   obtain⟨e1,e2⟩:=d8 hc.1 r1
   obtain⟨e3,e4⟩:=iy hc.2 h2
   refine⟨a,vs,rfl,h1,e2,e4,q _ H (aL.refl H) ?_⟩
   rw [e1,e3,jz hc.1 hc.2];rfl
  ·cases h
theorem kM (hK:X.K=K:=by rfl):OpD K X (compareOp .NotIn) dA:=by
 subst hK
 refine⟨λst x y d h=>?_⟩
 match x,h with
 | .d x,h=>
  simp only [dA,Option.bind_eq_some_iff] at h
  obtain⟨ds,hs,h⟩:=h
  split at h
  ·rename_i hc
   cases h
   refine j8.imp ?_
   rintro vx vy H Q ⟨φ,S,r1,r2,q⟩
   obtain⟨a,vs,rfl,h1,h2⟩:=eY S r2 hs
   obtain⟨e1,e2⟩:=d8 hc.1 r1
   obtain⟨e3,e4⟩:=iy hc.2 h2
   refine⟨a,vs,rfl,h1,e2,e4,q _ H (aL.refl H) ?_⟩
   rw [e1,e3,jz hc.1 hc.2];rfl
  ·cases h
end
end L2
namespace L2
open PySem PySem.Spec PyProof.Rows
section
variable {K:PySem.W.Frag}{X:Cx}
theorem pJ:OpR X (binaryOp .Add) (λx y H Q=>∃ l b xs zs,x=.ref l/\y=.ref b/\Rd H l (.lst xs)/\Rd H b (.lst zs)/\xs.length+zs.length<=sizeLine/\∀ p,H p=none->Q (.ref p) (upd H p (.lst (xs++zs)))):=by
 intro pins s σ H x y v u Q I rx ry h
 obtain⟨l,b,xs,zs,rfl,rfl,hH,hB,hz,q⟩:=h
 cases rx
 cases ry
 obtain⟨z,its,n,r,e⟩:=hH.ok I.hok
 obtain⟨z2,its2,n2,r2,e2⟩:=hB.ok I.hok
 have hl:=r.length
 have hl2:=r2.length
 refine PySem.P.add_list e e2 ?_ (by rw [List.size_toArray,List.size_toArray];lia)
 have ea:its.toArray++its2.toArray=(its++its2).toArray:=by simp
 rw [ea]
 exact⟨.ref _,_,I.lnew (t':=s.toks) (r.append r2) (by rw [List.length_append];lia),rfl,q _ I.fresh⟩
theorem np:OpR X (binaryOp .Add) (λx y H Q=>∃ a b xs ys,x=.ref a/\y=.ref b/\SqT X.K H a xs/\SqT X.K H b ys/\xs.length+ys.length<=sizeLine/\
  (xs=[]->Q (.ref b) H)/\(ys=[]->Q (.ref a) H)/\∀ p,H p=none->Q (.ref p) (upd H p (.tup (xs++ys)))):=by
 intro pins s σ H x y v u Q I rx ry h
 obtain⟨a,b,xs,ys,rfl,rfl,ha,hb,hz,q0,q1,q2⟩:=h
 by_cases hx:xs=[]
 ·cases rx
  cases ry
  obtain⟨its,r1,p1,_⟩:=I.tuple ha
  obtain⟨its2,r2,p2,_⟩:=I.tuple hb
  obtain⟨⟨cls,dd,data,sl⟩,ho,hc,n,hd⟩:=id p1
  obtain⟨⟨cls2,dd2,data2,sl2⟩,ho2,hc2,n2,hd2⟩:=id p2
  simp only at hc hd hc2 hd2
  subst hc hd hc2 hd2
  exact concat_meets ⟨_,ho,rfl⟩ ⟨_,ho2,rfl⟩ noFill_tuple_add seq_tuple_add PySem.F.slot_tuple_add PySem.F.entry_tuple_add (PySem.F.args_tuple_add_2 _ _)
   (tuple_addW0 a b its.toArray its2.toArray n n2 dd dd2 sl sl2 (by simp [r1.nil_iff.mpr hx])) ⟨ho,ho2,.ref b,H,I,rfl,q0 hx⟩
 ·exact pF pins s σ H _ _ v u Q I rx ry ⟨a,b,xs,ys,rfl,rfl,ha,hb,hx,hz,q1,λ_ p hp=>q2 p hp⟩
theorem nR {st:Sto}{H:Hp}{φ:List Addr}{w:W}{v:V}{ds:List D} (S:Sr K H φ st) (r:Rw K H φ w v) (e:lsD st w=some ds):∃ a vs,v=.ref a/\Rd H a (.lst vs)/\Rls K H φ ds vs:=by
 cases w with
 | h n=>
  obtain⟨a,ea,rfl⟩:=r
  obtain⟨vs,q,rl⟩:=S.at_ n a ds ea e
  exact⟨a,vs,rfl,.inl q,rl⟩
 | d x=>
  cases x with
  | lst es=>cases e;obtain⟨a,vs,rfl,h0,h1,h2⟩:=r;exact⟨a,vs,rfl,h1,h2⟩
  | _=>cases e
theorem mil:(1000000:Nat)<=sizeLine:=by rw [sizeLine_eq];decide
theorem aW (hK:X.K=K:=by rfl):OpD K X (binaryOp .Add) bf:=by
 subst hK
 refine⟨λst x y d h=>?_⟩
 have lists:(lsD st x).bind (λa=>(lsD st y).bind λb=>if a.length+b.length<=1000000 then some (.lst (a++b)) else none)=some d->OpR X (binaryOp .Add) (rD X.K st x y d):=λh=>by
  simp only [Option.bind_eq_some_iff] at h
  obtain⟨as,ha,bs,hb,h⟩:=h
  split at h
  ·rename_i hl
   cases h
   refine pJ.imp ?_
   rintro vx vy H Q ⟨φ,S,r1,r2,q⟩
   obtain⟨a,us,rfl,h1,h2⟩:=nR S r1 ha
   obtain⟨b,vs,rfl,h3,h4⟩:=nR S r2 hb
   refine⟨a,b,us,vs,rfl,rfl,h1,h3,by rw [<-h2.length,<-h4.length];exact Nat.le_trans hl mil,λp hp=>q _ _ (aL.new hp _) ?_⟩
   exact⟨p,_,rfl,S.nin hp,.inl bi,(h2.append h4).fw S (Fw.new hp)⟩
  ·cases h
 match x,y,h with
 | .d (.int i),.d (.int j),h=>
  cases h
  refine rW.imp ?_
  rintro vx vy H Q ⟨φ,S,r1,r2,q⟩
  exact⟨i,j,r1,r2,q _ H (aL.refl H) rfl⟩
 | .d (.tup as),.d (.tup bs),h=>
  simp only [bf] at h
  split at h
  ·rename_i hl
   cases h
   refine np.imp ?_
   rintro vx vy H Q ⟨φ,S,⟨a,us,rfl,h1,h2⟩,⟨b,vs,rfl,h3,h4⟩,q⟩
   refine⟨a,b,us,vs,rfl,rfl,h1,h3,by rw [<-h2.length,<-h4.length];exact Nat.le_trans hl mil,λe=>?_,λe=>?_,λp hp=>?_⟩
   ·subst e
    have:as=[]:=by cases as with | nil=>rfl | cons _ _=>cases h2.length
    subst this
    exact q _ H (aL.refl H) ⟨b,vs,rfl,h3,h4⟩
   ·subst e
    have:bs=[]:=by cases bs with | nil=>rfl | cons _ _=>cases h4.length
    subst this
    exact q _ H (aL.refl H) ⟨a,us,rfl,h1,by rw [List.append_nil];exact h2⟩
   ·exact q _ _ (aL.new hp _) ⟨p,_,rfl,SqT.of bi,(h2.append h4).fw S (Fw.new hp)⟩
  ·cases h
 | .d (.str as),.d (.str bs),h=>
  simp only [bf] at h
  split at h
  ·rename_i hl
   cases h
   refine lr.imp ?_
   rintro vx vy H Q ⟨φ,S,r1,r2,q⟩
   exact⟨as,bs,r1,r2,Nat.le_trans hl mil,q _ H (aL.refl H) rfl⟩
  ·cases h
 | .d (.lst as),y,h=>exact lists (by cases y with | h n=>exact h | d y=>cases y<;>exact h)
 | .h n,y,h=>exact lists (by cases y with | h n=>exact h | d y=>cases y<;>exact h)
theorem pk:OpR X (binaryOp .Mult) (λx y H Q=>∃ l k xs,x=.ref l/\y=.int k/\Rd H l (.lst xs)/\-(2 ^ 63)<=k/\k < 2 ^ 63/\xs.length*k.toNat<=sizeLine/\
 ∀ p,H p=none->Q (.ref p) (upd H p (.lst (List.replicate k.toNat xs).flatten))):=by
 intro pins s σ H x y v u Q I rx ry h
 obtain⟨l,k,xs,rfl,rfl,hH,h1,h2,hz,q⟩:=h
 cases rx
 obtain⟨t,rfl⟩:=ry
 obtain⟨z,its,n,r,e⟩:=hH.ok I.hok
 have hl:=r.length
 have hlen:its.toArray.size*k.toNat<=sizeLine:=by rw [List.size_toArray,<-hl];exact hz
 have hcap:¬ its.toArray.size*k.toNat > (2 ^ 63 - 1) / 8:=by
  have:(sizeLine:Nat)<=(2 ^ 63 - 1) / 8:=by decide
  lia
 have hfit:¬ (!Builtin.List.listFitsIndex k)=true:=by
  rw [fitsIndex_both h1 h2]
  exact Bool.false_ne_true
 have hlong:¬ Builtin.List.listTooLong (its.toArray.size*k.toNat)=true:=by
  rw [nL hlen]
  exact Bool.false_ne_true
 have hnew:List.foldl (λx1 x2=>x1++x2) #[] (List.replicate (if its.toArray.isEmpty=true then 0 else k.toNat) its.toArray)=(List.replicate k.toNat its).flatten.toArray:=by
  have f0:∀ m:Nat,List.foldl (λx1 x2=>x1++x2) #[] (List.replicate m its.toArray)=(List.replicate m its).flatten.toArray:=λm=>by
   have:=gA its m []
   rw [List.nil_append] at this
   exact this
  rw [f0]
  cases its with
  | nil=>simp
  | cons a r'=>rw [if_neg (by simp)]
 refine wpAny_binaryOp_repeat_ref (T:="list") (U:="int") (by decide) ⟨_,e,rfl⟩ (λs'=>typeIs_int s' k t) noFill_list_mul F.fills_int_mul F.slot_int_rmul repeat_list F.slot_int_index.lookup
  (call_meets F.slot_int_rmul (typeIs_int s k t) F.entry_int_rmul (F.args_int_rmul_2 _ _) (int___rmul___int_list k t l its.toArray n)
    ⟨e,rfl,⟨_,e,rfl⟩,call_meets F.slot_list_mul ⟨_,e,rfl⟩ F.entry_list_mul (F.args_list_mul_2 _ _) (AutoListH.list___mul___list_int_3 l its.toArray n k t hfit hcap hlong) ⟨e,?_⟩⟩)
 rw [hnew]
 exact⟨.ref _,_,I.lnew (t':=s.toks) (r.rep k.toNat) (by rw [jq,Nat.mul_comm];exact hz),rfl,q _ I.fresh⟩
theorem ef (hK:X.K=K:=by rfl):OpD K X (binaryOp .Mult) eK:=by
 subst hK
 refine⟨λst x y d h=>?_⟩
 match x,y,h with
 | .d (.int i),.d (.int j),h=>
  simp only [eK] at h
  split at h
  ·rename_i hl
   cases h
   refine oW.imp ?_
   rintro vx vy H Q ⟨φ,S,r1,r2,q⟩
   exact⟨i,j,r1,r2,hl,q _ H (aL.refl H) rfl⟩
  ·cases h
 | .d (.tup as),.d (.int k),h=>
  simp only [eK] at h
  split at h
  ·rename_i hl
   cases h
   refine oP.imp ?_
   rintro vx vy H Q ⟨φ,S,⟨a,us,rfl,h1,h2⟩,r2,q⟩
   have hne:us≠[]:=by rintro rfl;cases as with | nil=>exact hl.1 rfl | cons _ _=>cases h2.length
   refine⟨a,k,us,rfl,r2,h1,hne,by rw [<-h2.length];exact hl.2.1,hl.2.2.1,hl.2.2.2,λe=>?_,λ_ p hp=>?_⟩
   ·subst e
    exact q _ H (aL.refl H) ⟨a,us,rfl,h1,by simpa using h2⟩
   ·exact q _ _ (aL.new hp _) ⟨p,_,rfl,SqT.of bi,(h2.rep _).fw S (Fw.new hp)⟩
  ·cases h
 | .d (.lst as),.d (.int k),h=>
  simp only [eK] at h
  split at h
  ·rename_i hl
   cases h
   refine pk.imp ?_
   rintro vx vy H Q ⟨φ,S,⟨a,us,rfl,h0,h1,h2⟩,r2,q⟩
   refine⟨a,k,us,rfl,r2,h1,by lia,by lia,?_,λp hp=>?_⟩
   ·rw [<-h2.length]
    have:as.length*k.toNat<=1000*1000:=Nat.mul_le_mul hl.1 (by lia)
    exact Nat.le_trans this mil
   ·exact q _ _ (aL.new hp _) ⟨p,_,rfl,S.nin hp,.inl bi,(h2.rep _).fw S (Fw.new hp)⟩
  ·cases h
noncomputable def dIx (st:Sto) (x y:W):Option D:=match x,y with
 | .d (.str z),.d (.int i)=>if z.length<=1000000 then (atI z.cps.toList i).map λc=>.str ⟨#[c]⟩ else none
 | x,.d (.int i)=>(bt st x).bind λds=>atI ds i
 | _,_=>none
theorem qH {H:Hp}{φ:List Addr}{ds:List D}{vs:List V}{i:Int}{d:D} (r:Rls K H φ ds vs) (e:atI ds i=some d):∃ v,atI vs i=some v/\Rl K H φ d v:=by
 unfold atI at e ⊢
 rw [<-r.length]
 obtain⟨j,e1,e2⟩:=Option.bind_eq_some_iff.mp e
 obtain⟨v,ev,rv⟩:=r.get e2
 exact⟨v,by rw [e1];exact ev,rv⟩
theorem IxR.imp {r r':R2} (h:IxR X r) (m:∀ x y H Q,r' x y H Q->r x y H Q):IxR X r':=λvalue slice pins s σ H x y v u Q I rx ry q hs=>h value slice pins s σ H x y v u Q I rx ry (m _ _ _ _ q) hs
theorem tO (st:Sto) (x y:W) (d:D) (h:dIx st x y=some d) (hK:X.K=K):IxR X (rD K st x y d):=by
 subst hK
 match y,h with
 | .d (.int i),h=>
  have seq:(bt st x).bind (λds=>atI ds i)=some d->IxR X (rD X.K st x (.d (.int i)) d):=λh=>by
   obtain⟨ds,e1,e2⟩:=Option.bind_eq_some_iff.mp h
   refine nS.imp ?_
   rintro vx vy H Q ⟨φ,S,r1,r2,q⟩
   obtain⟨a,vs,rfl,h1,h2⟩:=eY S r1 e1
   obtain⟨v,ev,rv⟩:=qH h2 e2
   rcases h1 with h1 | h1
   ·exact .inl ⟨a,vs,i,v,rfl,r2,h1,ev,q _ H (aL.refl H) rv⟩
   ·exact .inr (.inl ⟨a,vs,i,v,rfl,r2,h1,ev,q _ H (aL.refl H) rv⟩)
  match x,h with
  | .d (.str z),h=>
   simp only [dIx] at h
   split at h
   ·rename_i hl
    obtain⟨c,e1,rfl⟩:=Option.map_eq_some_iff.mp h
    refine nS.imp ?_
    rintro vx vy H Q ⟨φ,S,r1,r2,q⟩
    exact .inr (.inr ⟨z,i,c,r1,r2,Nat.le_trans hl mil,e1,q _ H (aL.refl H) rfl⟩)
   ·cases h
  | .d (.tup z),h=>exact seq h
  | .d (.lst z),h=>exact seq h
  | .d (.scr z),h=>exact seq h
  | .h z,h=>exact seq h
 | .d .non,h=>cases x with | h n=>cases h | d x=>cases x<;>cases h
 | .d (.bl _),h=>cases x with | h n=>cases h | d x=>cases x<;>cases h
 | .d (.str _),h=>cases x with | h n=>cases h | d x=>cases x<;>cases h
 | .d (.ty _),h=>cases x with | h n=>cases h | d x=>cases x<;>cases h
 | .d (.scr _),h=>cases x with | h n=>cases h | d x=>cases x<;>cases h
 | .d .dct,h=>cases x with | h n=>cases h | d x=>cases x<;>cases h
 | .d (.tup _),h=>cases x with | h n=>cases h | d x=>cases x<;>cases h
 | .d (.lst _),h=>cases x with | h n=>cases h | d x=>cases x<;>cases h
 | .h _,h=>cases x with | h n=>cases h | d x=>cases x<;>cases h
variable {e a b:Expr}{pos p2:Pos}{f fa fb:Ef}
theorem aD (ha:IE K X a fa) (hb:IE K X b fb) (hs:ip b=true:=by rfl) (hK:X.K=K:=by rfl):IE K X (.Subscript a b pos) (iOp dIx fa fb):=by
 refine⟨λenv st r hr=>?_⟩
 simp only [iOp,Option.bind_eq_some_iff,Option.map_eq_some_iff] at hr
 obtain⟨x,hx,y,hy,d,hd,rfl⟩:=hr
 exact (qc (tO _ _ _ _ hd hK) (ha.run _ _ _ hx) (hb.run _ _ _ hy) (ku hs)).imp λσ H Q h=>jF h
abbrev Pf:=Ev->Sto->Option (Option Int×Sto)
noncomputable def rH:W->Option Int
 | .d (.int i)=>some i
 | _=>none
theorem mE {w:W}{i:Int} (h:rH w=some i):w=.d (.int i):=by
 cases w with
 | h n=>cases h
 | d x=>cases x<;>first | (cases h;done) | (injection h with h;subst h;rfl)
noncomputable def iPs (f:Ef):Pf
 | env,st=>(f env st).bind λr=>(rH r.1).map λi=>(some i,r.2)
noncomputable def tIO (K:PySem.W.Frag) (env:Ev) (st:Sto) (r:Option Int×Sto):TO:=λσ H Q=>∃ φ,Er K H φ env σ/\Sr K H φ st/\∀ H' φ',Fw φ φ' H H'->Sr K H' φ' r.2->Q r.1 H'
structure IO (K:PySem.W.Frag) (X:Cx) (e:Option Expr) (f:Pf):Prop where
 run:∀ env st r,f env st=some r->PO X e (tIO K env st r)
theorem PO.imp {e:Option Expr}{t t':TO} (h:PO X e t) (m:∀ σ H Q,t' σ H Q->t σ H Q):PO X e t':=λpins s σ H Q I q=>h pins s σ H Q I (m σ H Q q)
theorem SlR.imp {r r':V->Option Int->Option Int->Hp->VK->Prop} (h:SlR X r) (m:∀ x l u H Q,r' x l u H Q->r x l u H Q):SlR X r':=λpins s σ H x v vl vu lo hi sl Q I rx hs pl pu q=>h pins s σ H x v vl vu lo hi sl Q I rx hs pl pu (m _ _ _ _ _ q)
theorem dN (h:IE K X e f):IO K X (some e) (iPs f):=by
 refine⟨λenv st r hr=>?_⟩
 simp only [iPs,Option.bind_eq_some_iff,Option.map_eq_some_iff] at hr
 obtain⟨⟨x,s1⟩,hx,i,hi,rfl⟩:=hr
 cases mE hi
 refine (pc (h.run _ _ _ hx)).imp ?_
 rintro σ H Q ⟨φ,hE,hS,q⟩
 exact⟨φ,hE,hS,λv H1 φ1 f1 s1 w1=>⟨i,w1,q H1 φ1 f1 s1⟩⟩
end
end L2
namespace L2
open PySem PySem.Spec PyProof.Rows
section
variable {K:PySem.W.Frag}{X:Cx}{pins:List (Addr×Obj)}{σ:St}{H:Hp}{s:Shared}{φ:List Addr}{st:Sto}
theorem dv:∀ (xs ys:List D),((List.range (min xs.length ys.length)).all (λj=>eqD (xs.getD j .non) (ys.getD j .non)) && xs.length==ys.length)=fg xs ys
 | [],[]=>rfl
 | [],y::ys=>by simp [fg]
 | x::xs,[]=>by simp [fg]
 | x::xs,y::ys=>by
  show ((List.range (min (xs.length+1) (ys.length+1))).all (λj=>eqD ((x::xs).getD j .non) ((y::ys).getD j .non)) && (xs.length+1==ys.length+1))=(eqD x y && fg xs ys)
  rw [show min (xs.length+1) (ys.length+1)=min xs.length ys.length+1 by lia,ij,<-dv xs ys]
  have e:(xs.length+1==ys.length+1)=(xs.length==ys.length):=by rw [Bool.eq_iff_iff];simp
  rw [e,Bool.and_assoc]
  rfl
theorem fr {xs ys:List D} (h:xs.length=ys.length):(List.range xs.length).all (λj=>eqD (xs.getD j .non) (ys.getD j .non))=fg xs ys:=by
 rw [<-dv xs ys,<-h,Nat.min_self];simp
theorem lg:∀ {xs ys:List D},xs.length≠ys.length->fg xs ys=false
 | [],[],h=>absurd rfl h
 | [],_::_,_=>rfl
 | _::_,[],_=>rfl
 | x::xs,y::ys,h=>by
  show (eqD x y && fg xs ys)=false
  rw [lg (by intro e;apply h;rw [List.length_cons,List.length_cons,e]),Bool.and_false]
theorem oI (I:Inv X pins σ H s) {a:Addr}{vs ws:List V} (h:Rd H a (.lst vs)) (h':Rd H a (.lst ws)):vs=ws:=I.list_inj (.inl h) (.inl h')
theorem mt (I:Inv X pins σ H s):∀ (n:Nat) {d e:D}{v:V},Rl X.K H φ d v->Rl X.K H φ e v->okD n d=true->okD n e=true->eqD d e=true:=by
 intro n
 induction n with
 | zero=>
  intro d e v r1 r2 o1 o2
  cases d<;>first | (cases o1;done) | skip
  all_goals (cases e<;>first | (cases o2;done) | skip)
  all_goals (first | rfl | (cases r1.symm.trans r2;done) | (cases r1.symm.trans r2;simp [eqD]))
 | succ n ih=>
  have lists:∀ {ds es:List D}{vs:List V},Rls X.K H φ ds vs->Rls X.K H φ es vs->(∀ d ∈ ds,okD n d=true)->(∀ d ∈ es,okD n d=true)->fg ds es=true:=by
   intro ds
   induction ds with
   | nil=>
    intro es vs r1 r2 _ _
    cases r1
    cases es with
    | nil=>rfl
    | cons e es=>obtain⟨_,_,q,_⟩:=r2;cases q
   | cons d ds ihd=>
    intro es vs r1 r2 o1 o2
    obtain⟨v,r,rfl,a1,a2⟩:=r1
    cases es with
    | nil=>cases r2
    | cons e es=>
     obtain⟨v',r',q,b1,b2⟩:=r2
     cases q
     show (eqD d e && fg ds es)=true
     rw [ih a1 b1 (o1 d List.mem_cons_self) (o2 e List.mem_cons_self),ihd a2 b2 (λx hx=>o1 x (List.mem_cons_of_mem _ hx)) (λx hx=>o2 x (List.mem_cons_of_mem _ hx))]
     rfl
  intro d e v r1 r2 o1 o2
  cases d with
  | tup ds=>
   obtain⟨a,vs,rfl,h1,h2⟩:=r1
   cases e with
   | tup es=>
    obtain⟨b,us,q,h3,h4⟩:=r2
    cases q
    rw [I.tuple_inj h3 h1] at h4
    exact lists h2 h4 (List.all_eq_true.mp o1) (List.all_eq_true.mp o2)
   | lst es=>
    obtain⟨b,us,q,_,h3,h4⟩:=r2
    cases q
    obtain⟨_,_,p1,_⟩:=I.tuple h1
    obtain⟨_,_,p2,_⟩:=I.list (.inl h3)
    exact absurd rfl (SeqAt.ne_of_list_tuple p2.isList p1)
   | _=>first | (cases o2;done) | (cases r2;done)
  | lst ds=>
   obtain⟨a,vs,rfl,h0,h1,h2⟩:=r1
   cases e with
   | lst es=>
    obtain⟨b,us,q,_,h3,h4⟩:=r2
    cases q
    rw [oI I h3 h1] at h4
    exact lists h2 h4 (List.all_eq_true.mp o1) (List.all_eq_true.mp o2)
   | tup es=>
    obtain⟨b,us,q,h3,h4⟩:=r2
    cases q
    obtain⟨_,_,p1,_⟩:=I.tuple h3
    obtain⟨_,_,p2,_⟩:=I.list (.inl h1)
    exact absurd rfl (SeqAt.ne_of_list_tuple p2.isList p1)
   | _=>first | (cases o2;done) | (cases r2;done)
  | non=>cases e<;>first | rfl | (cases o2;done) | (cases r1.symm.trans r2;done) | (cases r1;obtain⟨_,_,q,_⟩:=r2;cases q)
  | bl b=>cases e<;>first | (cases o2;done) | (cases r1.symm.trans r2;simp [eqD];done) | (cases r1.symm.trans r2;done) | (cases r1;obtain⟨_,_,q,_⟩:=r2;cases q)
  | int b=>cases e<;>first | (cases o2;done) | (cases r1.symm.trans r2;simp [eqD];done) | (cases r1.symm.trans r2;done) | (cases r1;obtain⟨_,_,q,_⟩:=r2;cases q)
  | str b=>cases e<;>first | (cases o2;done) | (cases r1.symm.trans r2;simp [eqD];done) | (cases r1.symm.trans r2;done) | (cases r1;obtain⟨_,_,q,_⟩:=r2;cases q)
  | ty b=>cases o1
  | scr b=>cases o1
  | dct=>cases o1
theorem du {ds:List D}{vs:List V}{us:List Value} (r:Rls K H φ ds vs) (rv:aC vs us):∀ (j:Nat) (h:j < us.length),∃ v,Rl K H φ (ds.getD j .non) v/\aP v us[j]/\ds.getD j .non ∈ ds:=by
 intro j h
 obtain⟨h',q⟩:=rv.at j h
 have hd:j < ds.length:=by rw [r.length];exact h'
 have e:ds[j]?=some ds[j]:=List.getElem?_eq_getElem hd
 obtain⟨v,ev,rl⟩:=r.get e
 rw [List.getElem?_eq_getElem h'] at ev
 cases ev
 refine⟨_,?_,q,?_⟩
 ·rw [List.getD,e];exact rl
 ·rw [List.getD,e];exact List.getElem_mem hd
theorem qD (I:Inv X pins σ H s):∀ (n:Nat) {A:Around}{d e:D}{v u:V}{vv uu:Value},Rl X.K H φ d v->Rl X.K H φ e u->aP v vv->aP u uu->okD n d=true->okD n e=true->A.units+n < cLine->SeqAt.EqAt A s vv uu (eqD d e):=by
 have flat:∀ {A:Around}{d e:D}{v u:V}{vv uu:Value},cg d=true->cg e=true->Rl X.K H φ d v->Rl X.K H φ e u->aP v vv->aP u uu->SeqAt.EqAt A s vv uu (eqD d e):=by
  intro A d e v u vv uu f1 f2 r1 r2 q1 q2
  obtain⟨e1,g1⟩:=d8 f1 r1
  obtain⟨e2,g2⟩:=d8 f2 r2
  rw [<-jS f1 f2,<-e1,<-e2]
  exact lI q1 q2 g1 g2
 intro n
 induction n with
 | zero=>
  intro A d e v u vv uu r1 r2 q1 q2 o1 o2 hu
  refine flat ?_ ?_ r1 r2 q1 q2
  ·cases d<;>first | rfl | cases o1
  ·cases e<;>first | rfl | cases o2
 | succ n ih=>
  intro A d e v u vv uu r1 r2 q1 q2 o1 o2 hu
  have hu0:A.units < cLine:=by lia
  have hu1:A.in1.units+n < cLine:=by show A.units+1+n < cLine;lia
  cases d with
  | tup ds=>
   obtain⟨a,vs,rfl,h1,h2⟩:=r1
   cases q1
   obtain⟨its,rv,p1,_⟩:=I.tuple h1
   cases e with
   | tup es=>
    obtain⟨b,us,rfl,h3,h4⟩:=id r2
    cases q2
    by_cases hab:a=b
    ·subst hab
     rw [mt I (n+1) (d:=.tup ds) ⟨a,vs,rfl,h1,h2⟩ r2 o1 o2]
     exact SeqAt.EqAt.same _
    ·obtain⟨its2,rv2,p2,_⟩:=I.tuple h3
     have z:=SeqAt.RcAt.tuples (A:=A) (e:=λj=>eqD (ds.getD j .non) (es.getD j .non)) p1 p2 hu0 λj g1 g2=>by
      obtain⟨v1,k1,k2,k3⟩:=du h2 rv j (by simpa using g1)
      obtain⟨v2,k4,k5,k6⟩:=du h4 rv2 j (by simpa using g2)
      exact ih k1 k4 (by simpa using k2) (by simpa using k5) (List.all_eq_true.mp o1 _ k3) (List.all_eq_true.mp o2 _ k6) hu1
     have e1:its.toArray.size=ds.length:=by simp [<-rv.length,h2.length]
     have e2:its2.toArray.size=es.length:=by simp [<-rv2.length,h4.length]
     rw [e1,e2,dv] at z
     exact SeqAt.EqAt.of_refs hab z
   | lst es=>
    obtain⟨b,us,rfl,_,h3,h4⟩:=id r2
    cases q2
    obtain⟨its2,rv2,p2,_⟩:=I.list (.inl h3)
    exact SeqAt.EqAt.tuple_list p1 p2.isList hu0
   | non=>cases r2;cases q2;exact SeqAt.EqAt.tuple_none p1 hu0
   | bl x=>cases r2;cases q2;exact SeqAt.EqAt.tuple_bool x p1 hu0
   | int x=>cases r2;obtain⟨t,rfl⟩:=q2;exact SeqAt.EqAt.tuple_int x t p1 hu0
   | str x=>cases r2;obtain⟨t,rfl⟩:=q2;exact SeqAt.EqAt.tuple_str x t p1 hu0
   | ty _=>cases o2
   | scr _=>cases o2
   | dct=>cases o2
  | lst ds=>
   obtain⟨a,vs,rfl,h0,h1,h2⟩:=r1
   cases q1
   obtain⟨its,rv,p1,_⟩:=I.list (.inl h1)
   cases e with
   | lst es=>
    obtain⟨b,us,rfl,_,h3,h4⟩:=id r2
    cases q2
    by_cases hab:a=b
    ·subst hab
     rw [mt I (n+1) (d:=.lst ds) ⟨a,vs,rfl,h0,h1,h2⟩ r2 o1 o2]
     exact SeqAt.EqAt.same _
    ·obtain⟨its2,rv2,p2,_⟩:=I.list (.inl h3)
     have e1:its.toArray.size=ds.length:=by simp [<-rv.length,h2.length]
     have e2:its2.toArray.size=es.length:=by simp [<-rv2.length,h4.length]
     by_cases hl:ds.length=es.length
     ·have z:=SeqAt.RcAt.lists (A:=A) (e:=λj=>eqD (ds.getD j .non) (es.getD j .non)) p1.isList p2.isList (by rw [e1,e2,hl]) hu0 λj g1 g2=>by
       obtain⟨v1,k1,k2,k3⟩:=du h2 rv j (by simpa using g1)
       obtain⟨v2,k4,k5,k6⟩:=du h4 rv2 j (by simpa using g2)
       exact ih k1 k4 (by simpa using k2) (by simpa using k5) (List.all_eq_true.mp o1 _ k3) (List.all_eq_true.mp o2 _ k6) hu1
      rw [e1,fr hl] at z
      exact SeqAt.EqAt.of_refs hab z
     ·have z:=SeqAt.RcAt.lists_lengths (A:=A) p1.isList p2.isList (by rw [e1,e2];simpa using hl) hu0
      show SeqAt.EqAt A s _ _ (fg ds es)
      rw [lg hl]
      exact SeqAt.EqAt.of_refs hab z
   | tup es=>
    obtain⟨b,us,rfl,h3,h4⟩:=id r2
    cases q2
    obtain⟨its2,rv2,p2,_⟩:=I.tuple h3
    exact SeqAt.EqAt.list_tuple p1.isList p2 hu0
   | non=>cases r2;cases q2;exact SeqAt.EqAt.list_none p1.isList hu0
   | bl x=>cases r2;cases q2;exact SeqAt.EqAt.list_bool x p1.isList hu0
   | int x=>cases r2;obtain⟨t,rfl⟩:=q2;exact SeqAt.EqAt.list_int x t p1.isList hu0
   | str x=>cases r2;obtain⟨t,rfl⟩:=q2;exact SeqAt.EqAt.list_str x t p1.isList hu0
   | ty _=>cases o2
   | scr _=>cases o2
   | dct=>cases o2
  | non=>
   cases r1;cases q1
   cases e with
   | tup es=>obtain⟨b,us,rfl,h3,h4⟩:=r2;cases q2;obtain⟨_,_,p2,_⟩:=I.tuple h3;exact SeqAt.EqAt.none_tuple p2 hu0
   | lst es=>obtain⟨b,us,rfl,_,h3,h4⟩:=r2;cases q2;obtain⟨_,_,p2,_⟩:=I.list (.inl h3);exact SeqAt.EqAt.none_list p2.isList hu0
   | _=>first | (cases o2;done) | exact flat rfl rfl (d:=.non) rfl r2 (v:=.non) rfl q2
  | bl x=>
   cases r1;cases q1
   cases e with
   | tup es=>obtain⟨b,us,rfl,h3,h4⟩:=r2;cases q2;obtain⟨_,_,p2,_⟩:=I.tuple h3;exact SeqAt.EqAt.bool_tuple x p2 hu0
   | lst es=>obtain⟨b,us,rfl,_,h3,h4⟩:=r2;cases q2;obtain⟨_,_,p2,_⟩:=I.list (.inl h3);exact SeqAt.EqAt.bool_list x p2.isList hu0
   | _=>first | (cases o2;done) | exact flat rfl rfl (d:=.bl x) rfl r2 (v:=.bl x) rfl q2
  | int x=>
   cases r1;obtain⟨t1,rfl⟩:=q1
   cases e with
   | tup es=>obtain⟨b,us,rfl,h3,h4⟩:=r2;cases q2;obtain⟨_,_,p2,_⟩:=I.tuple h3;exact SeqAt.EqAt.int_tuple x t1 p2 hu0
   | lst es=>obtain⟨b,us,rfl,_,h3,h4⟩:=r2;cases q2;obtain⟨_,_,p2,_⟩:=I.list (.inl h3);exact SeqAt.EqAt.int_list x t1 p2.isList hu0
   | _=>first | (cases o2;done) | exact flat rfl rfl (d:=.int x) rfl r2 (v:=.int x) ⟨t1,rfl⟩ q2
  | str x=>
   cases r1;obtain⟨t1,rfl⟩:=q1
   cases e with
   | tup es=>obtain⟨b,us,rfl,h3,h4⟩:=r2;cases q2;obtain⟨_,_,p2,_⟩:=I.tuple h3;exact SeqAt.EqAt.str_tuple x t1 p2 hu0
   | lst es=>obtain⟨b,us,rfl,_,h3,h4⟩:=r2;cases q2;obtain⟨_,_,p2,_⟩:=I.list (.inl h3);exact SeqAt.EqAt.str_list x t1 p2.isList hu0
   | _=>first | (cases o2;done) | exact flat rfl rfl (d:=.str x) rfl r2 (v:=.str x) ⟨t1,rfl⟩ q2
  | ty _=>cases o1
  | scr _=>cases o1
  | dct=>cases o1
theorem qS {A:Around}{y x:V}{u v:Value} (ry:aP y u) (rx:aP x v) (fy:dy y=true) (fx:dy x=true):SeqAt.RcAt A s u v (eqV y x):=by
 cases y with
 | non=>
  cases ry
  cases x with
  | non=>cases rx;exact SeqAt.RcAt.none_none
  | bl b=>cases rx;exact SeqAt.RcAt.none_bool b
  | int b=>obtain⟨t,rfl⟩:=rx;exact SeqAt.RcAt.none_int b t
  | str b=>obtain⟨t,rfl⟩:=rx;exact SeqAt.RcAt.none_str b t
  | _=>cases fx
 | bl a=>
  cases ry
  cases x with
  | non=>cases rx;exact SeqAt.RcAt.bool_none a
  | bl b=>cases rx;exact SeqAt.RcAt.bool_bool a b
  | int b=>obtain⟨t,rfl⟩:=rx;exact SeqAt.RcAt.bool_int a b t
  | str b=>obtain⟨t,rfl⟩:=rx;exact SeqAt.RcAt.bool_str a b t
  | _=>cases fx
 | int a=>
  obtain⟨t',rfl⟩:=ry
  cases x with
  | non=>cases rx;exact SeqAt.RcAt.int_none a t'
  | bl b=>cases rx;exact SeqAt.RcAt.int_bool a t' b
  | int b=>obtain⟨t,rfl⟩:=rx;exact SeqAt.RcAt.int_int a t' b t
  | str b=>obtain⟨t,rfl⟩:=rx;exact SeqAt.RcAt.int_str a t' b t
  | _=>cases fx
 | str a=>
  obtain⟨t',rfl⟩:=ry
  cases x with
  | non=>cases rx;exact SeqAt.RcAt.str_none a t'
  | bl b=>cases rx;exact SeqAt.RcAt.str_bool a t' b
  | int b=>obtain⟨t,rfl⟩:=rx;exact SeqAt.RcAt.str_int a t' b t
  | str b=>obtain⟨t,rfl⟩:=rx;exact SeqAt.RcAt.str_str a t' b t
  | _=>cases fx
 | _=>cases fy
theorem n6 {A:Around}{y x:V}{u v:Value} (ry:aP y u) (rx:aP x v) (fy:dy y=true) (fx:dy x=true):SeqAt.RcNeAt A s u v (!eqV y x):=by
 cases y with
 | non=>
  cases ry
  cases x with
  | non=>cases rx;exact SeqAt.RcNeAt.none_none
  | bl b=>cases rx;exact SeqAt.RcNeAt.none_bool b
  | int b=>obtain⟨t,rfl⟩:=rx;exact SeqAt.RcNeAt.none_int b t
  | str b=>obtain⟨t,rfl⟩:=rx;exact SeqAt.RcNeAt.none_str b t
  | _=>cases fx
 | bl a=>
  cases ry
  cases x with
  | non=>cases rx;exact SeqAt.RcNeAt.bool_none a
  | bl b=>cases rx;exact SeqAt.RcNeAt.bool_bool a b
  | int b=>obtain⟨t,rfl⟩:=rx;exact SeqAt.RcNeAt.bool_int a b t
  | str b=>obtain⟨t,rfl⟩:=rx;exact SeqAt.RcNeAt.bool_str a b t
  | _=>cases fx
 | int a=>
  obtain⟨t',rfl⟩:=ry
  cases x with
  | non=>cases rx;exact SeqAt.RcNeAt.int_none a t'
  | bl b=>cases rx;exact SeqAt.RcNeAt.int_bool a t' b
  | int b=>obtain⟨t,rfl⟩:=rx;exact SeqAt.RcNeAt.int_int a t' b t
  | str b=>obtain⟨t,rfl⟩:=rx;exact SeqAt.RcNeAt.int_str a t' b t
  | _=>cases fx
 | str a=>
  obtain⟨t',rfl⟩:=ry
  cases x with
  | non=>cases rx;exact SeqAt.RcNeAt.str_none a t'
  | bl b=>cases rx;exact SeqAt.RcNeAt.str_bool a t' b
  | int b=>obtain⟨t,rfl⟩:=rx;exact SeqAt.RcNeAt.str_int a t' b t
  | str b=>obtain⟨t,rfl⟩:=rx;exact SeqAt.RcNeAt.str_str a t' b t
  | _=>cases fx
 | _=>cases fy
inductive Kin where
 | fl (d:D) | tp (ds:List D) | ls (ds:List D)
noncomputable def bc (st:Sto):W->Option Kin
 | .d (.tup ds)=>some (.tp ds)
 | .d (.lst ds)=>some (.ls ds)
 | .h n=>(st[n]?).map .ls
 | .d .non=>some (.fl .non)
 | .d (.bl b)=>some (.fl (.bl b))
 | .d (.int i)=>some (.fl (.int i))
 | .d (.str x)=>some (.fl (.str x))
 | _=>none
noncomputable def eqK:Kin->Kin->Option Bool
 | .fl a,.fl b=>some (eqD a b)
 | .tp as,.tp bs=>if (as.isEmpty || bs.isEmpty)=true then some (as.isEmpty && bs.isEmpty) else if as.all (okD 60)=true/\bs.all (okD 60)=true then some (fg as bs) else none
 | .ls as,.ls bs=>if as.length=bs.length then (if as.all (okD 60)=true/\bs.all (okD 60)=true then some (fg as bs) else none) else some false
 | .fl _,.tp _=>some false
 | .tp _,.fl _=>some false
 | .fl _,.ls _=>some false
 | .ls _,.fl _=>some false
 | .tp _,.ls _=>some false
 | .ls _,.tp _=>some false
noncomputable def dEq (st:Sto) (x y:W):Option D:=(bc st x).bind λa=>(bc st y).bind λb=>(eqK a b).map λk=>.bl k
noncomputable def dNe (st:Sto) (x y:W):Option D:=(bc st x).bind λa=>(bc st y).bind λb=>(eqK a b).map λk=>.bl (!k)
noncomputable def qO (K:PySem.W.Frag) (H:Hp) (φ:List Addr):Kin->V->Prop
 | .fl d,v=>cg d=true/\Rl K H φ d v
 | .tp ds,v=>∃ a vs,v=.ref a/\SqT K H a vs/\Rls K H φ ds vs
 | .ls ds,v=>∃ a vs,v=.ref a/\Rd H a (.lst vs)/\Rls K H φ ds vs
theorem gP {w:W}{v:V}{k:Kin} (S:Sr K H φ st) (r:Rw K H φ w v) (e:bc st w=some k):qO K H φ k v:=by
 cases w with
 | h n=>
  obtain⟨a,ea,rfl⟩:=r
  obtain⟨ds,e1,rfl⟩:=Option.map_eq_some_iff.mp e
  obtain⟨vs,q,rl⟩:=S.at_ n a ds ea e1
  exact⟨a,vs,rfl,.inl q,rl⟩
 | d x=>
  cases x with
  | tup es=>cases e;exact r
  | lst es=>cases e;obtain⟨a,vs,rfl,h0,h1,h2⟩:=r;exact⟨a,vs,rfl,h1,h2⟩
  | non=>cases e;exact⟨rfl,r⟩
  | bl b=>cases e;exact⟨rfl,r⟩
  | int b=>cases e;exact⟨rfl,r⟩
  | str b=>cases e;exact⟨rfl,r⟩
  | _=>cases e
theorem rz {A:Around}{k:Nat} (hr:bO k A):A.in1.units+60 < cLine:=by
 have:=hr.un
 show A.units+1+60 < cLine
 lia
theorem nB {k:Nat} (hr:bO k X.A) (I:Inv X pins σ H s) {a b:Kin}{v u:V}{vv uu:Value}{r:Bool} (ra:qO X.K H φ a v) (rb:qO X.K H φ b u) (qa:aP v vv) (qb:aP u uu) (e:eqK a b=some r) :
  SeqAt.RcAt X.A s vv uu r/\SeqAt.RcNeAt X.A s vv uu (!r):=by
 have hu0:=hr.units0
 have items:∀ {ds es:List D}{vs us:List V}{its its2:List Value},Rls X.K H φ ds vs->Rls X.K H φ es us->aC vs its->aC us its2->ds.all (okD 60)=true->es.all (okD 60)=true->
   ∀ j (g1:j < its.toArray.size) (g2:j < its2.toArray.size),SeqAt.EqAt X.A.in1 s its.toArray[j] its2.toArray[j] (eqD (ds.getD j .non) (es.getD j .non)):=by
  intro ds es vs us its its2 h2 h4 rv rv2 o1 o2 j g1 g2
  obtain⟨v1,k1,k2,k3⟩:=du h2 rv j (by simpa using g1)
  obtain⟨v2,k4,k5,k6⟩:=du h4 rv2 j (by simpa using g2)
  exact qD I 60 k1 k4 (by simpa using k2) (by simpa using k5) (List.all_eq_true.mp o1 _ k3) (List.all_eq_true.mp o2 _ k6) (rz hr)
 match a,b,e with
 | .fl d,.fl d',e=>
  cases e
  obtain⟨f1,r1⟩:=ra
  obtain⟨f2,r2⟩:=rb
  obtain⟨e1,g1⟩:=d8 f1 r1
  obtain⟨e2,g2⟩:=d8 f2 r2
  rw [<-jS f1 f2,<-e1,<-e2]
  exact⟨qS qa qb g1 g2,n6 qa qb g1 g2⟩
 | .tp ds,.tp es,e=>
  simp only [eqK] at e
  obtain⟨a,vs,rfl,h1,h2⟩:=ra
  obtain⟨b,us,rfl,h3,h4⟩:=rb
  cases qa;cases qb
  obtain⟨its,rv,p1,_⟩:=I.tuple h1
  obtain⟨its2,rv2,p2,_⟩:=I.tuple h3
  have e1:its.toArray.size=ds.length:=by simp [<-rv.length,h2.length]
  have e2:its2.toArray.size=es.length:=by simp [<-rv2.length,h4.length]
  split at e
  ·rename_i hc
   cases e
   have hv:∀ j (g1:j < its.toArray.size) (g2:j < its2.toArray.size),SeqAt.EqAt X.A.in1 s its.toArray[j] its2.toArray[j] (eqD (ds.getD j .non) (es.getD j .non)):=λj g1 g2=>by
    rw [e1] at g1
    rw [e2] at g2
    rw [Bool.or_eq_true] at hc
    rcases hc with hc | hc
    ·rw [List.isEmpty_iff.mp hc] at g1;exact absurd g1 (Nat.not_lt_zero _)
    ·rw [List.isEmpty_iff.mp hc] at g2;exact absurd g2 (Nat.not_lt_zero _)
   have z:=SeqAt.RcAt.tuples (A:=X.A) p1 p2 hu0 hv
   have z':=SeqAt.RcNeAt.tuples (A:=X.A) p1 p2 hu0 hv
   rw [e1,e2,dv] at z z'
   have e3:fg ds es=(ds.isEmpty && es.isEmpty):=by
    cases ds with
    | nil=>cases es<;>rfl
    | cons _ _=>cases es with
     | nil=>rfl
     | cons _ _=>cases hc
   rw [e3] at z z'
   exact⟨z,z'⟩
  ·split at e
   ·rename_i hc
    cases e
    have z:=SeqAt.RcAt.tuples (A:=X.A) p1 p2 hu0 (items h2 h4 rv rv2 hc.1 hc.2)
    have z':=SeqAt.RcNeAt.tuples (A:=X.A) p1 p2 hu0 (items h2 h4 rv rv2 hc.1 hc.2)
    rw [e1,e2,dv] at z z'
    exact⟨z,z'⟩
   ·cases e
 | .ls ds,.ls es,e=>
  simp only [eqK] at e
  obtain⟨a,vs,rfl,h1,h2⟩:=ra
  obtain⟨b,us,rfl,h3,h4⟩:=rb
  cases qa;cases qb
  obtain⟨its,rv,p1,_⟩:=I.list (.inl h1)
  obtain⟨its2,rv2,p2,_⟩:=I.list (.inl h3)
  have e1:its.toArray.size=ds.length:=by simp [<-rv.length,h2.length]
  have e2:its2.toArray.size=es.length:=by simp [<-rv2.length,h4.length]
  split at e
  ·rename_i hl
   split at e
   ·rename_i hc
    cases e
    have z:=SeqAt.RcAt.lists (A:=X.A) p1.isList p2.isList (by rw [e1,e2,hl]) hu0 (items h2 h4 rv rv2 hc.1 hc.2)
    have z':=SeqAt.RcNeAt.lists (A:=X.A) p1.isList p2.isList (by rw [e1,e2,hl]) hu0 (items h2 h4 rv rv2 hc.1 hc.2)
    rw [e1,fr hl] at z z'
    exact⟨z,z'⟩
   ·cases e
  ·rename_i hl
   cases e
   have z:=SeqAt.RcAt.lists_lengths (A:=X.A) p1.isList p2.isList (by rw [e1,e2];simpa using hl) hu0
   have z':=SeqAt.RcNeAt.lists_lengths (A:=X.A) p1.isList p2.isList (by rw [e1,e2];simpa using hl) hu0
   exact⟨z,z'⟩
 | .fl d,.tp es,e=>
  cases e
  obtain⟨f1,r1⟩:=ra
  obtain⟨b,us,rfl,h3,h4⟩:=rb
  cases qb
  obtain⟨its2,rv2,p2,_⟩:=I.tuple h3
  cases d with
  | non=>cases r1;cases qa;exact⟨SeqAt.RcAt.none_tuple p2 hu0,SeqAt.RcNeAt.none_tuple p2 hu0⟩
  | bl x=>cases r1;cases qa;exact⟨SeqAt.RcAt.bool_tuple x p2 hu0,SeqAt.RcNeAt.bool_tuple x p2 hu0⟩
  | int x=>cases r1;obtain⟨t,rfl⟩:=qa;exact⟨SeqAt.RcAt.int_tuple x t p2 hu0,SeqAt.RcNeAt.int_tuple x t p2 hu0⟩
  | str x=>cases r1;obtain⟨t,rfl⟩:=qa;exact⟨SeqAt.RcAt.str_tuple x t p2 hu0,SeqAt.RcNeAt.str_tuple x t p2 hu0⟩
  | _=>cases f1
 | .tp es,.fl d,e=>
  cases e
  obtain⟨f1,r1⟩:=rb
  obtain⟨b,us,rfl,h3,h4⟩:=ra
  cases qa
  obtain⟨its2,rv2,p2,_⟩:=I.tuple h3
  cases d with
  | non=>cases r1;cases qb;exact⟨SeqAt.RcAt.tuple_none p2 hu0,SeqAt.RcNeAt.tuple_none p2 hu0⟩
  | bl x=>cases r1;cases qb;exact⟨SeqAt.RcAt.tuple_bool x p2 hu0,SeqAt.RcNeAt.tuple_bool x p2 hu0⟩
  | int x=>cases r1;obtain⟨t,rfl⟩:=qb;exact⟨SeqAt.RcAt.tuple_int x t p2 hu0,SeqAt.RcNeAt.tuple_int x t p2 hu0⟩
  | str x=>cases r1;obtain⟨t,rfl⟩:=qb;exact⟨SeqAt.RcAt.tuple_str x t p2 hu0,SeqAt.RcNeAt.tuple_str x t p2 hu0⟩
  | _=>cases f1
 | .fl d,.ls es,e=>
  cases e
  obtain⟨f1,r1⟩:=ra
  obtain⟨b,us,rfl,h3,h4⟩:=rb
  cases qb
  obtain⟨its2,rv2,p2,_⟩:=I.list (.inl h3)
  replace p2:=p2.isList
  cases d with
  | non=>cases r1;cases qa;exact⟨SeqAt.RcAt.none_list p2 hu0,SeqAt.RcNeAt.none_list p2 hu0⟩
  | bl x=>cases r1;cases qa;exact⟨SeqAt.RcAt.bool_list x p2 hu0,SeqAt.RcNeAt.bool_list x p2 hu0⟩
  | int x=>cases r1;obtain⟨t,rfl⟩:=qa;exact⟨SeqAt.RcAt.int_list x t p2 hu0,SeqAt.RcNeAt.int_list x t p2 hu0⟩
  | str x=>cases r1;obtain⟨t,rfl⟩:=qa;exact⟨SeqAt.RcAt.str_list x t p2 hu0,SeqAt.RcNeAt.str_list x t p2 hu0⟩
  | _=>cases f1
 | .ls es,.fl d,e=>
  cases e
  obtain⟨f1,r1⟩:=rb
  obtain⟨b,us,rfl,h3,h4⟩:=ra
  cases qa
  obtain⟨its2,rv2,p2,_⟩:=I.list (.inl h3)
  replace p2:=p2.isList
  cases d with
  | non=>cases r1;cases qb;exact⟨SeqAt.RcAt.list_none p2 hu0,SeqAt.RcNeAt.list_none p2 hu0⟩
  | bl x=>cases r1;cases qb;exact⟨SeqAt.RcAt.list_bool x p2 hu0,SeqAt.RcNeAt.list_bool x p2 hu0⟩
  | int x=>cases r1;obtain⟨t,rfl⟩:=qb;exact⟨SeqAt.RcAt.list_int x t p2 hu0,SeqAt.RcNeAt.list_int x t p2 hu0⟩
  | str x=>cases r1;obtain⟨t,rfl⟩:=qb;exact⟨SeqAt.RcAt.list_str x t p2 hu0,SeqAt.RcNeAt.list_str x t p2 hu0⟩
  | _=>cases f1
 | .tp ds,.ls es,e=>
  cases e
  obtain⟨a,vs,rfl,h1,h2⟩:=ra
  obtain⟨b,us,rfl,h3,h4⟩:=rb
  cases qa;cases qb
  obtain⟨its,rv,p1,_⟩:=I.tuple h1
  obtain⟨its2,rv2,p2,_⟩:=I.list (.inl h3)
  exact⟨SeqAt.RcAt.tuple_list p1 p2.isList hu0,SeqAt.RcNeAt.tuple_list p1 p2.isList hu0⟩
 | .ls ds,.tp es,e=>
  cases e
  obtain⟨a,vs,rfl,h1,h2⟩:=ra
  obtain⟨b,us,rfl,h3,h4⟩:=rb
  cases qa;cases qb
  obtain⟨its,rv,p1,_⟩:=I.list (.inl h1)
  obtain⟨its2,rv2,p2,_⟩:=I.tuple h3
  exact⟨SeqAt.RcAt.list_tuple p1.isList p2 hu0,SeqAt.RcNeAt.list_tuple p1.isList p2 hu0⟩
theorem cz {k:Nat} (hr:bO k X.A) (hK:X.K=K:=by rfl):OpD K X (compareOp .Eq) dEq:=by
 subst hK
 refine⟨λst x y d h=>?_⟩
 simp only [dEq,Option.bind_eq_some_iff,Option.map_eq_some_iff] at h
 obtain⟨a,ha,b,hb,r,e,rfl⟩:=h
 intro pins s σ H vx vy v u Q I rx ry q
 obtain⟨φ,S,r1,r2,q⟩:=q
 exact (nB hr I (gP S r1 ha) (gP S r2 hb) rx ry e).1 _ _ _ _ ⟨.bl r,H,I,rfl,q _ H (aL.refl H) rfl⟩
theorem lZ {k:Nat} (hr:bO k X.A) (hK:X.K=K:=by rfl):OpD K X (compareOp .NotEq) dNe:=by
 subst hK
 refine⟨λst x y d h=>?_⟩
 simp only [dNe,Option.bind_eq_some_iff,Option.map_eq_some_iff] at h
 obtain⟨a,ha,b,hb,r,e,rfl⟩:=h
 intro pins s σ H vx vy v u Q I rx ry q
 obtain⟨φ,S,r1,r2,q⟩:=q
 exact (nB hr I (gP S r1 ha) (gP S r2 hb) rx ry e).2 _ _ _ _ ⟨.bl (!r),H,I,rfl,q _ H (aL.refl H) rfl⟩
end
end L2
namespace L2
open PySem PySem.Spec PyProof.Rows
section
variable {K:PySem.W.Frag}{X:Cx}
noncomputable def cM (st:Sto):List W->Option D
 | [.d (.str x)]=>if x.length<=1000000 then some (.int x.length) else none
 | [w]=>(bt st w).map λds=>.int ds.length
 | _=>none
noncomputable def nW (_:Sto):List W->Option D
 | [.d (.int i)]=>some (.int (if i < 0 then -i else i))
 | _=>none
noncomputable def rX (_:Sto):List W->Option D
 | [.d (.int i),.d (.int j)]=>some (.int (if j < i then j else i))
 | _=>none
noncomputable def pK (_:Sto):List W->Option D
 | [.d (.int i)]=>some (.int i)
 | [.d (.bl k)]=>some (.int (if k then 1 else 0))
 | _=>none
noncomputable def iU (st:Sto):List W->Option D
 | [w]=>(bt st w).map λds=>.tup ds
 | _=>none
noncomputable def dQ:W->Option String
 | .d .non=>some "NoneType"
 | .d (.bl _)=>some "bool"
 | .d (.int _)=>some "int"
 | .d (.str _)=>some "str"
 | .d (.tup _)=>some "tuple"
 | .d (.lst _)=>some "list"
 | .d .dct=>some "dict"
 | .h _=>some "list"
 | _=>none
noncomputable def ll (t c:String):Option Bool:=
 if c = "int" then some (t=="int" || t=="bool")
 else if c = "bool"\/c = "str"\/c = "tuple"\/c = "list" then some (t==c)
 else none
noncomputable def eu (_:Sto):List W->Option D
 | [w,.d (.ty c)]=>(dQ w).bind λt=>(ll t c).map λb=>.bl b
 | _=>none
theorem ed (hK:X.K=K:=by rfl):fq K X (.builtin "len") cM:=by
 subst hK
 refine⟨λst ws d h=>?_⟩
 have seq:∀ w,(bt st w).map (λds=>D.int ds.length)=some d->cx X (.builtin "len") (rCD X.K st [w] d):=λw h=>by
  obtain⟨ds,e,rfl⟩:=Option.map_eq_some_iff.mp h
  refine jY.imp ?_
  rintro vs H Q ⟨φ,S,⟨v,r,rfl,r1,rfl⟩,q⟩
  obtain⟨a,us,rfl,h1,h2⟩:=eY S r1 e
  exact⟨a,us,rfl,h1,q _ H (aL.refl H) (by rw [<-h2.length];rfl)⟩
 cases ws with
 | nil=>cases h
 | cons w tl=>
  cases tl with
  | cons _ _=>
   cases w with
   | h n=>cases h
   | d x=>cases x<;>cases h
  | nil=>
   cases w with
   | h n=>exact seq _ h
   | d x=>
    cases x with
    | str x=>
     simp only [cM] at h
     split at h
     ·rename_i hl
      cases h
      refine jR.imp ?_
      rintro vs H Q ⟨φ,S,⟨v,r,rfl,r1,rfl⟩,q⟩
      exact⟨x,by rw [show v=.str x from r1],Nat.le_trans hl mil,q _ H (aL.refl H) rfl⟩
     ·cases h
    | tup ds=>exact seq _ h
    | lst ds=>exact seq _ h
    | scr ds=>exact seq _ h
    | _=>cases h
theorem oB:fq K X (.builtin "abs") nW:=by
 refine⟨λst ws d h=>?_⟩
 match ws,h with
 | [.d (.int i)],h=>
  cases h
  refine nw.imp ?_
  rintro vs H Q ⟨φ,S,⟨v,r,rfl,r1,rfl⟩,q⟩
  exact⟨i,by rw [show v=.int i from r1],q _ H (aL.refl H) rfl⟩
theorem qR (hc:X.calm=true:=by rfl):fq K X (.builtin "min") rX:=by
 refine⟨λst ws d h=>?_⟩
 match ws,h with
 | [.d (.int i),.d (.int j)],h=>
  cases h
  refine (mB hc).imp ?_
  rintro vs H Q ⟨φ,S,⟨v,r,rfl,r1,u,r',rfl,r2,rfl⟩,q⟩
  exact⟨i,j,by rw [show v=.int i from r1,show u=.int j from r2],q _ H (aL.refl H) rfl⟩
theorem qW:fq K X (.type "int") pK:=by
 refine⟨λst ws d h=>?_⟩
 match ws,h with
 | [.d (.int i)],h=>
  cases h
  refine i6.imp ?_
  rintro vs H Q ⟨φ,S,⟨v,r,rfl,r1,rfl⟩,q⟩
  exact .inl ⟨i,by rw [show v=.int i from r1],q _ H (aL.refl H) rfl⟩
 | [.d (.bl i)],h=>
  cases h
  refine i6.imp ?_
  rintro vs H Q ⟨φ,S,⟨v,r,rfl,r1,rfl⟩,q⟩
  exact .inr ⟨i,by rw [show v=.bl i from r1],q _ H (aL.refl H) rfl⟩
theorem lq (hK:X.K=K:=by rfl):fq K X (.type "tuple") iU:=by
 subst hK
 refine⟨λst ws d h=>?_⟩
 match ws,h with
 | [w],h=>
  obtain⟨ds,e,rfl⟩:=Option.map_eq_some_iff.mp h
  refine iG.imp ?_
  rintro vs H Q ⟨φ,S,⟨v,r,rfl,r1,rfl⟩,q⟩
  obtain⟨a,us,rfl,h1,h2⟩:=eY S r1 e
  refine⟨a,us,rfl,?_⟩
  rcases h1 with h1 | h1
  ·exact .inl ⟨h1,λl hl=>q _ _ (aL.new hl _) ⟨l,us,rfl,SqT.of bi,h2.fw S (Fw.new hl)⟩⟩
  ·exact .inr ⟨h1,q _ H (aL.refl H) ⟨a,us,rfl,h1,h2⟩⟩
theorem dR {t c:String}{b:Bool} (ht:t = "NoneType"\/t = "bool"\/t = "int"\/t = "str"\/t = "tuple"\/t = "list"\/t = "dict") (h:ll t c=some b):PySem.W.kitOne K (.type t) (.type c)=some b:=by
 unfold ll at h
 split at h
 ·rename_i hc
  subst hc
  rcases ht with rfl | rfl | rfl | rfl | rfl | rfl | rfl<;>(cases h;rfl)
 ·split at h
  ·rename_i _ hc
   rcases hc with rfl | rfl | rfl | rfl<;>rcases ht with rfl | rfl | rfl | rfl | rfl | rfl | rfl<;>(cases h;rfl)
  ·cases h
theorem gD (hK:X.K=K:=by rfl):fq K X (.builtin "isinstance") eu:=by
 subst hK
 refine⟨λst ws d h=>?_⟩
 match ws,h with
 | [w,.d (.ty c)],h=>
  simp only [eu,Option.bind_eq_some_iff,Option.map_eq_some_iff] at h
  obtain⟨t,ht,b,hb,rfl⟩:=h
  intro pins s σ H xs us Q I rv q
  obtain⟨φ,S,⟨v,r,rfl,r1,u,r',rfl,r2,rfl⟩,q⟩:=q
  cases (show u=.ty c from r2)
  obtain⟨vv,uu,rfl,rv1,rv2⟩:=rv.two
  cases rv2
  have fin:∀ tk,EP X pins σ Q (.bool b) { s with toks:=tk }:=λtk=>⟨.bl b,H,I.tok tk,rfl,q _ H (aL.refl H) rfl⟩
  cases w with
  | h n=>
   cases ht
   obtain⟨a,ea,rfl⟩:=r1
   have hn:n < st.length:=by rw [<-S.len];exact (List.getElem?_eq_some_iff.mp ea).1
   obtain⟨vs,hv,_⟩:=S.at_ n a _ ea (List.getElem?_eq_getElem hn)
   exact cm I rv1 (.lst hv) (dR (by simp) hb) fin
  | d x=>
   cases x with
   | non=>cases ht;cases r1;exact cm I rv1 .non (dR (by simp) hb) fin
   | bl x=>cases ht;cases r1;exact cm I rv1 (.bl x) (dR (by simp) hb) fin
   | int x=>cases ht;cases r1;exact cm I rv1 (.int x) (dR (by simp) hb) fin
   | str x=>cases ht;cases r1;exact cm I rv1 (.str x) (dR (by simp) hb) fin
   | lst ds=>
    cases ht
    obtain⟨a,vs,rfl,h0,h1,h2⟩:=r1
    rcases h1 with h1 | ⟨o,h1⟩
    ·exact cm I rv1 (.lst h1) (dR (by simp) hb) fin
    ·exact cm I rv1 (.frz h1) (dR (by simp) hb) fin
   | tup ds=>
    cases ht
    obtain⟨a,vs,rfl,h1,h2⟩:=r1
    cases rv1
    obtain⟨its,_,p,_⟩:=I.tuple h1
    obtain⟨o,e1,e2,_⟩:=p
    exact PySem.W.kia_one PySem.W.kitx_tuple I.kIn ⟨o,e1,e2⟩ (dR (by simp) hb) (λz=>nomatch z) fin
   | dct=>
    cases ht
    obtain⟨a,rfl,h1⟩:=r1
    rcases h1 with⟨d,h1⟩ | ⟨d,h1⟩
    ·exact cm I rv1 (.dK h1) (dR (by simp) hb) fin
    ·exact cm I rv1 (.dT h1) (dR (by simp) hb) fin
   | ty x=>cases ht
   | scr x=>cases ht
variable {e a b:Expr}{es:List Expr}{pos:Pos}{f fa fb:Ef}{af:Af}
theorem i0 {x:Str}{c:String} (hg:Gl X x) (hm:X.mg x=none) (hv:bootBuiltins x=some (.type c)) (hn:x≠"__name__":=by decide) (hd:(x==("__debug__" : Str))=false:=by decide):IE K X (.Name x pos) (iC (.ty c)):=
 mT (v:=.ty c) (pj hg hm hv rfl hn hd) λ_ _=>rfl
theorem eG {x:Str}{d:D}{v:V}{u:Value} (hg:Gl X x) (hm:X.mg x=some u) (r:aP v u) (h:∀ H φ,Rl K H φ d v) (hd:(x==("__debug__" : Str))=false:=by decide):IE K X (.Name x pos) (iC d):=
 mT (jM hg hm r hd) h
noncomputable def fR (g:List D->List W->Option (D×List D)) (o:Ef) (a:Af):Ef
 | env,st=>(o env st).bind λx=>(a env x.2).bind λr=>match x.1 with
 | .h n=>(r.2[n]?).bind λds=>(g ds r.1).map λy=>(.d y.1,r.2.set n y.2)
 | _=>none
noncomputable def dj (ds:List D):List W->Option (D×List D)
 | [.d x]=>if ds.length < 1000000 then some (.non,ds++[x]) else none
 | _=>none
theorem qu {name:Str}{id:String}{apos:Pos}{rr:V->List V->Hp->VK->Prop}{g:List D->List W->Option (D×List D)} (slot:Slot "list" name id) (hty:typeOf (.builtin id)=pure (.type "method_descriptor")) (hm:MtR X id rr)
  (hg:∀ (H:Hp) (φ:List Addr) (st:Sto) (n:Nat) (ad:Addr) (ds:List D) (vs:List V) (ws:List W) (us:List V) (y:D×List D) (Q:VK),Sr K H φ st->φ[n]?=some ad->st[n]?=some ds->H ad=some (.lst vs)->Rls K H φ ds vs->Rws K H φ ws us->g ds ws=some y->
    (∀ v vs',Rl K H φ y.1 v->Rls K H φ y.2 vs'->(∀ b,v≠.ref b)->Q v (upd H ad (.lst vs')))->rr (.ref ad) us H Q)
  (hfl:∀ ds ws y,g ds ws=some y->cg y.1=true)
  (ho:IE K X a fa) (ha:IA K X (e::es) af) (hbase:attributeBase a name X.env (eval a X.env)=eval a X.env:=by rfl)
  (hall:(e::es).all aR=true:=by rfl) (hfl30:(e::es).length < 30:=by decide) (hline:(apos.endLine==pos.line)=true:=by rfl) (hK:X.K=K:=by rfl) :
  IE K X (.Call (.Attribute a name apos) (e::es) [] pos) (fR g fa af):=by
 subst hK
 have hall2:aR e=true/\es.all aR=true:=by rw [List.all_cons,Bool.and_eq_true] at hall;exact hall
 refine⟨λenv st r hr=>?_⟩
 simp only [fR,Option.bind_eq_some_iff] at hr
 obtain⟨⟨x,s1⟩,hx,⟨ws,s2⟩,hw,hr⟩:=hr
 cases x with
 | d x=>cases hr
 | h n=>
  simp only [Option.bind_eq_some_iff,Option.map_eq_some_iff] at hr
  obtain⟨ds,hds,y,hy,rfl⟩:=hr
  refine (nD PySem.F.plainAttrs_list slot hty hm (ho.run _ _ _ hx) (ha.run _ _ _ hw) hbase (ix hall hfl30) hline (bR hall2.1) (cS hall2.2)).imp ?_
  rintro σ H Q ⟨φ,hE,hS,q⟩
  refine⟨φ,hE,hS,λv H1 φ1 f1 S1 w1=>?_⟩
  obtain⟨ad,ea,rfl⟩:=w1
  have hn:n < s1.length:=by rw [<-S1.len];exact (List.getElem?_eq_some_iff.mp ea).1
  obtain⟨vs1,hv1,_⟩:=S1.at_ n ad _ ea (List.getElem?_eq_getElem hn)
  refine⟨.inl ⟨rfl,vs1,SqL.of hv1⟩,φ1,hE.fw hS f1,S1,λus H2 φ2 f2 S2 w2=>?_⟩
  have ea2:=f2.get ea
  obtain⟨vs2,hv2,rl2⟩:=S2.at_ n ad ds ea2 hds
  refine hg H2 φ2 s2 n ad ds vs2 ws us y _ S2 ea2 hds hv2 rl2 w2 hy λv vs' r1 r2 hb=>?_
  obtain⟨f3,S3⟩:=S2.put ea2 r2
  exact q v _ φ2 ((f1.trans f2).trans f3) S3 (r1.fw S2 f3)
theorem jb {apos:Pos} (ho:IE K X a fa) (ha:IA K X (e::es) af) (hbase:attributeBase a "append" X.env (eval a X.env)=eval a X.env:=by rfl)
  (hall:(e::es).all aR=true:=by rfl) (hfl30:(e::es).length < 30:=by decide) (hline:(apos.endLine==pos.line)=true:=by rfl) (hK:X.K=K:=by rfl) :
  IE K X (.Call (.Attribute a "append" apos) (e::es) [] pos) (fR dj fa af):=by
 refine qu PySem.F.slot_list_append PySem.F.type_list_append mO (λH φ st n ad ds vs ws us y Q S ea eds hv rl rw hy q=>?_) (λds ws y h=>?_) ho ha hbase hall hfl30 hline hK
 ·match ws,hy with
  | [.d x],hy=>
   simp only [dj] at hy
   split at hy
   ·rename_i hl
    cases hy
    obtain⟨v,r,rfl,r1,rfl⟩:=rw
    exact⟨ad,vs,v,rfl,rfl,hv,by rw [<-rl.length];exact Nat.lt_of_lt_of_le hl mil,q _ _ rfl (rl.append ⟨v,[],rfl,r1,rfl⟩) (λb z=>nomatch z)⟩
   ·cases hy
 ·match ws,h with
  | [.d x],h=>
   simp only [dj] at h
   split at h
   ·cases h;rfl
   ·cases h
end
end L2
namespace L2
open PySem PySem.Spec PyProof.Rows
section
variable {K:PySem.W.Frag}{X:Cx}{e a b:Expr}{es:List Expr}{pos:Pos}{f fa fb:Ef}{af:Af}
theorem oU {H:Hp}{ad:Addr}{ns:List Int}{m:Fn} (hO:pp H) (hS:SqL K H ad (ns.map V.int)) (h:∃ st,m [.d (.scr ns)] []=some (.d (.bl true),st)):spI K m [.ref ad] H (λv _=>v=.bl true) λ_ _ _=>False:=by
 obtain⟨st,h⟩:=h
 refine⟨[],[],[.d (.scr ns)],_,h,⟨_,[],rfl,⟨ad,rfl,?_⟩,rfl⟩,⟨List.nodup_nil,rfl,λn a ds e=>by simp at e⟩,λv H' φ' _ _ r=>r⟩
 rcases hS with (h | h) | h
 ·rcases hO ad with z | ⟨o,xs,z⟩
  ·rw [h] at z;cases z
  ·rw [h] at z;cases z
 ·exact .inl h
 ·exact .inr h
end
end L2
namespace L2
open PySem
theorem eJ {g:Tg}{body:Sf}:∀ {ds:List D} (Pv:Nat->Ev->Sto->Prop) {env:Ev}{st:Sto},Pv 0 env st->
  (∀ i d env st,ds[i]?=some d->Pv i env st->∃ e1 e2 s2,bV g (.d d) env=some e1/\(body e1 st=some (.nx e2 s2)\/body e1 st=some (.ct e2 s2))/\Pv (i+1) e2 s2)->
  ∃ env' st',eE g body ds env st=some (.nx env' st')/\Pv ds.length env' st'
 | [],Pv,env,st,h0,_=>⟨env,st,rfl,h0⟩
 | d::ds,Pv,env,st,h0,hs=>by
  obtain⟨e1,e2,s2,h1,h2,h3⟩:=hs 0 d env st rfl h0
  obtain⟨e',s',h4,h5⟩:=eJ (g:=g) (body:=body) (ds:=ds) (λi=>Pv (i+1)) h3 λi d' env' st' hd p=>hs (i+1) d' env' st' (by simpa using hd) p
  refine⟨e',s',?_,h5⟩
  unfold eE
  rw [h1,Option.bind_some]
  rcases h2 with h2 | h2<;>(rw [h2,Option.bind_some];exact h4)
noncomputable def bT (st:Sto) (n:Nat):Prop:=∃ x y z:Int,0<=x/\st[n]?=some [.int x,.int y,.int z]
noncomputable def Stp (n:Nat) (st st':Sto):Prop:=(∃ v,st'=st.set n v)/\bT st' n
theorem bT.lt {st:Sto}{n:Nat} (h:bT st n):n < st.length:=by
 obtain⟨x,y,z,_,e⟩:=h
 exact (List.getElem?_eq_some_iff.mp e).1
theorem Stp.refl {st:Sto}{n:Nat} (h:bT st n):Stp n st st:=by
 obtain⟨x,y,z,h0,e⟩:=id h
 exact⟨⟨_,(List.set_getElem_self (h.lt)).symm⟩,h⟩
theorem Stp.trans {n:Nat}{a b c:Sto} (h:Stp n a b) (h':Stp n b c):Stp n a c:=by
 obtain⟨⟨v,rfl⟩,_⟩:=h
 obtain⟨⟨u,rfl⟩,q⟩:=h'
 exact⟨⟨u,by rw [List.set_set]⟩,q⟩
theorem Stp.hand {n:Nat}{a b:Sto} (h:Stp n a b):bT b n:=h.2
theorem Stp.len {n:Nat}{a b:Sto} (h:Stp n a b):b.length=a.length:=by obtain⟨⟨v,rfl⟩,_⟩:=h;rw [List.length_set]
theorem Stp.get {n m:Nat}{a b:Sto} (h:Stp n a b) (hm:m≠n):b[m]?=a[m]?:=by obtain⟨⟨v,rfl⟩,_⟩:=h;rw [List.getElem?_set_ne (Ne.symm hm)]
theorem Stp.take {n:Nat}{a b:Sto} (h:Stp n a b):b.take a.length=b:=by rw [<-h.len,List.take_length]
theorem kd {a b:Int} (h:-(2 ^ 64) < a/\a < 2 ^ 64):PySem.IntMulOk a b:=pE.ok (.inl h)
theorem jn {a b:Int} (h:-(2 ^ 64) < b/\b < 2 ^ 64):PySem.IntMulOk a b:=pE.ok (.inr h)
theorem gR {st:Sto}{n:Nat}{v:List D} (h:n < st.length):(st.set n v)[n]?=some v:=List.getElem?_set_self h
theorem d2 {α:Type} (a:α) (l:List α):atI (a::l) 0=some a:=gi (j:=0) rfl
theorem kF {α:Type} (a b:α) (l:List α):atI (a::b::l) 1=some b:=gi (j:=1) rfl
theorem sK {α:Type} (a b c:α) (l:List α):atI (a::b::c::l) 2=some c:=gi (j:=2) rfl
theorem iQ (n:Nat):ixN (n+1) 0=some 0:=jE (j:=0) (by lia)
theorem tT (n:Nat):ixN (n+2) 1=some 1:=jE (j:=1) (by lia)
theorem tY (n:Nat):ixN (n+3) 2=some 2:=jE (j:=2) (by lia)
end L2
namespace L2
open PySem
theorem lb:ll "int" "int" = some true:=rfl
theorem j0:ll "int" "bool" = some false:=rfl
theorem cj:ll "str" "str" = some true:=rfl
theorem bd:ll "tuple" "tuple" = some true:=rfl
theorem bT.app {st:Sto}{n:Nat} (h:bT st n) (u:List (List D)):bT (st++u) n:=by
 obtain⟨x,y,z,h0,e⟩:=id h
 exact⟨x,y,z,h0,by rw [List.getElem?_append_left h.lt];exact e⟩
theorem Stp.unapp {n:Nat}{a s:Sto}{u:List (List D)} (hn:n < a.length) (h:Stp n (a++u) s):∃ b,s=b++u/\Stp n a b:=by
 obtain⟨⟨v,rfl⟩,x,y,z,h0,e⟩:=h
 rw [List.set_append_left _ _ hn] at e ⊢
 exact⟨_,rfl,⟨v,rfl⟩,x,y,z,h0,by rw [List.getElem?_append_left (by rw [List.length_set];exact hn)] at e;exact e⟩
theorem jU {n i:Nat}{d:D} (h:(fk 0 n)[i]?=some d):d=.int (i:Int)/\i < n:=by
 rw [kn] at h
 by_cases hi:i < n
 ·rw [if_pos hi] at h
  cases h
  exact⟨by rw [Int.zero_add],hi⟩
 ·rw [if_neg hi] at h;cases h
end L2
namespace L2
open PySem PySem.Spec PyProof.Rows
abbrev rN (st:SortSt) (g:Nat):SortSt:=SortSt.mk' (kindOf st) (arrOf st) (pendingOf st) g (failedOf st)
section
variable {prog:Program}{w:World}{A:Around}{E:Value->Shared->Prop}{s:Shared}{κ:SortKind}{O:KeyOrd}{rk:Keyed->O.α}{S:Keyed->Prop}
noncomputable def kyd (arr:Array Keyed) (i:Nat):Keyed:=(arr[i]?).getD (.none,.none)
theorem gz {arr:Array Keyed}{i:Nat} (h:i < arr.size):arr[i]?=some (kyd arr i):=by
 unfold kyd;simp [h]
structure SB (κ:SortKind) (a0:Array Keyed) (lo:Nat) (p0:Array (Nat×Nat×Nat)) (g0:Nat) (st:SortSt):Prop where
 perm:(arrOf st).Perm a0
 pre:∀ k,k < lo->(arrOf st)[k]?=a0[k]?
 kind:kindOf st=κ
 fail:failedOf st=none
 pend:pendingOf st=p0
 gal:gallopOf st=g0
variable {a0:Array Keyed}{lo:Nat}{p0:Array (Nat×Nat×Nat)}{g0:Nat}{st:SortSt}
theorem SB.size (h:SB κ a0 lo p0 g0 st):(arrOf st).size=a0.size:=h.perm.size_eq
theorem SB.mem (h:SB κ a0 lo p0 g0 st) (hS:∀ x ∈ a0.toList,S x) {i:Nat} (hi:i < a0.size):S (kyd (arrOf st) i):=by
 have hi':i < (arrOf st).size:=by rw [h.size];exact hi
 refine hS _ ((Array.perm_iff_toList_perm.mp h.perm).mem_iff.mp ?_)
 have e:=gz hi'
 rw [Array.getElem?_eq_getElem hi'] at e
 rw [<-Option.some.inj e]
 exact Array.getElem_mem_toList hi'
theorem SB.set (h:SB κ a0 lo p0 g0 st) {xs:Array Keyed} (hp:xs.Perm (arrOf st)) (hl:∀ k,k < lo->xs[k]?=(arrOf st)[k]?):SB κ a0 lo p0 g0 (setArr st xs):=
 ⟨hp.trans h.perm,λk hk=>(hl k hk).trans (h.pre k hk),h.kind,h.fail,h.pend,h.gal⟩
noncomputable def Up (rk:Keyed->O.α) (arr:Array Keyed) (lo n:Nat):Prop:=∀ i j,lo<=i->i<=j->j < lo+n->O.kle (rk (kyd arr i)) (rk (kyd arr j))
noncomputable def mL (rk:Keyed->O.α) (arr:Array Keyed) (lo n:Nat):Prop:=∀ i j,lo<=i->i<=j->j < lo+n->O.kle (rk (kyd arr j)) (rk (kyd arr i))
theorem Up.more {arr:Array Keyed}{n:Nat} (h:Up rk arr lo n) (h1:1<=n) (hl:O.kle (rk (kyd arr (lo+n - 1))) (rk (kyd arr (lo+n)))):Up rk arr lo (n+1):=by
 intro i j hi hij hj
 by_cases hjx:j < lo+n
 ·exact h i j hi hij hjx
 ·have hj':j=lo+n:=by lia
  subst hj'
  by_cases hi':i=lo+n
  ·subst hi';exact KeyOrd.kle_refl _
  ·exact KeyOrd.kle_trans (h i (lo+n - 1) hi (by lia) (by lia)) hl
theorem mL.more {arr:Array Keyed}{n:Nat} (h:mL rk arr lo n) (h1:1<=n) (hl:O.kle (rk (kyd arr (lo+n))) (rk (kyd arr (lo+n - 1)))):mL rk arr lo (n+1):=by
 intro i j hi hij hj
 by_cases hjx:j < lo+n
 ·exact h i j hi hij hjx
 ·have hj':j=lo+n:=by lia
  subst hj'
  by_cases hi':i=lo+n
  ·subst hi';exact KeyOrd.kle_refl _
  ·exact KeyOrd.kle_trans hl (h i (lo+n - 1) hi (by lia) (by lia))
theorem Up.one {arr:Array Keyed}:Up rk arr lo 1:=λi j hi hij hj=>by
 have:i=j:=by lia
 subst this;exact KeyOrd.kle_refl _
theorem mL.congr {xs ys:Array Keyed}{n:Nat} (h:mL rk xs lo n) (e:∀ k,rk (kyd ys k)=rk (kyd xs k)):mL rk ys lo n:=λi j hi hij hj=>by
 rw [e,e];exact h i j hi hij hj
end
end L2
namespace L2
open PySem PySem.Spec PyProof.Rows
section
variable {prog:Program}{w:World}{A:Around}{E:Value->Shared->Prop}{s:Shared}{κ:SortKind}{O:KeyOrd}{rk:Keyed->O.α}{S:Keyed->Prop}
variable {a0:Array Keyed}{lo:Nat}{p0:Array (Nat×Nat×Nat)}{g0:Nat}{st:SortSt}
end
end L2
namespace L2
open PySem PySem.Spec PyProof.Rows
section
variable {prog:Program}{w:World}{A:Around}{E:Value->Shared->Prop}{s:Shared}{κ:SortKind}{O:KeyOrd}{rk:Keyed->O.α}{S:Keyed->Prop}
variable {a0:Array Keyed}{lo:Nat}{p0:Array (Nat×Nat×Nat)}{g0:Nat}{st:SortSt}
noncomputable def bey (O:KeyOrd) (rk:Keyed->O.α) (left:Bool) (key x:Keyed):Bool:=if left=true then O.blt (rk x) (rk key) else !O.blt (rk key) (rk x)
end
end L2
namespace L2
open PySem PySem.Spec PyProof.Rows
section
variable {O:KeyOrd}{rk:Keyed->O.α}
noncomputable def mrg (O:KeyOrd) (rk:Keyed->O.α) (xs ys:List Keyed):List Keyed:=List.merge xs ys λx y=>!O.blt (rk y) (rk x)
theorem gO (xs:List Keyed):mrg O rk xs []=xs:=by unfold mrg;simp
theorem gS (ys:List Keyed):mrg O rk [] ys=ys:=by unfold mrg;simp
theorem jc {x y:Keyed}{xs ys:List Keyed} (h:O.blt (rk y) (rk x)=false):mrg O rk (x::xs) (y::ys)=x::mrg O rk xs (y::ys):=by
 unfold mrg;rw [List.cons_merge_cons,h];rfl
theorem i8 {x y:Keyed}{xs ys:List Keyed} (h:O.blt (rk y) (rk x)=true):mrg O rk (x::xs) (y::ys)=y::mrg O rk (x::xs) ys:=by
 unfold mrg;rw [List.cons_merge_cons,h];rfl
theorem lS {x:Keyed}:∀ {ys:List Keyed},(∀ y ∈ ys,O.blt (rk y) (rk x)=true)->mrg O rk [x] ys=ys++[x]
 | [],_=>gO _
 | y::ys,h=>by rw [i8 (h y List.mem_cons_self),lS λz hz=>h z (List.mem_cons_of_mem _ hz)];rfl
theorem gy {x:Keyed}:∀ (xs ys:List Keyed),(∀ y ∈ ys,O.blt (rk y) (rk x)=true)->mrg O rk (xs++[x]) ys=mrg O rk xs ys++[x]
 | [],ys,h=>by rw [List.nil_append,lS h,gS]
 | a::xs,[],h=>by rw [gO,gO]
 | a::xs,y::ys,h=>by
  rw [List.cons_append]
  cases hb:O.blt (rk y) (rk a) with
  | true=>rw [i8 hb,i8 hb,<-List.cons_append,gy (a::xs) ys λz hz=>h z (List.mem_cons_of_mem _ hz)];rfl
  | false=>rw [jc hb,jc hb,gy xs (y::ys) h];rfl
termination_by xs ys=>xs.length+ys.length
theorem lN {y:Keyed}:∀ {xs:List Keyed},(∀ x ∈ xs,O.blt (rk y) (rk x)=false)->mrg O rk xs [y]=xs++[y]
 | [],_=>gS _
 | x::xs,h=>by rw [jc (h x List.mem_cons_self),lN λz hz=>h z (List.mem_cons_of_mem _ hz)];rfl
theorem gC {y:Keyed}:∀ (xs ys:List Keyed),(∀ x ∈ xs,O.blt (rk y) (rk x)=false)->mrg O rk xs (ys++[y])=mrg O rk xs ys++[y]
 | xs,[],h=>by rw [List.nil_append,lN h,gO]
 | [],b::ys,h=>by rw [gS,gS]
 | a::xs,b::ys,h=>by
  rw [List.cons_append]
  cases hb:O.blt (rk b) (rk a) with
  | true=>rw [i8 hb,i8 hb,gC (a::xs) ys h];rfl
  | false=>rw [jc hb,jc hb,<-List.cons_append,gC xs (b::ys) λz hz=>h z (List.mem_cons_of_mem _ hz)];rfl
termination_by xs ys=>xs.length+ys.length
theorem dX {a:Array Keyed}{i:Nat} (h:i < a.size):a.toList.drop i=kyd a i::a.toList.drop (i+1):=by
 have e:=gz h
 rw [Array.getElem?_eq_getElem h] at e
 rw [List.drop_eq_getElem_cons (by simpa using h)]
 rw [<-Option.some.inj e];simp
theorem kC {a:Array Keyed}{i:Nat} (h:i < a.size):a.toList.take (i+1)=a.toList.take i++[kyd a i]:=by
 have e:=gz h
 rw [Array.getElem?_eq_getElem h] at e
 rw [List.take_succ_eq_append_getElem (by simpa using h)]
 rw [<-Option.some.inj e];simp
noncomputable def MI (O:KeyOrd) (rk:Keyed->O.α) (a b out:Array Keyed) (ia ib:Nat):Prop:=out.toList++mrg O rk (a.toList.drop ia) (b.toList.drop ib)=mrg O rk a.toList b.toList
variable {a b out:Array Keyed}{ia ib:Nat}
theorem MI.start:MI O rk a b #[] 0 0:=by unfold MI;simp
theorem MI.b1 (h:MI O rk a b out ia ib) (hb:ib < b.size) (ha:ia < a.size) (hl:O.blt (rk (kyd b ib)) (rk (kyd a ia))=true):MI O rk a b (out.push (kyd b ib)) ia (ib+1):=by
 unfold MI at *
 rw [dX ha,dX hb,i8 hl] at h
 rw [<-h,dX ha];simp
theorem MI.a1 (h:MI O rk a b out ia ib) (hb:ib < b.size) (ha:ia < a.size) (hl:O.blt (rk (kyd b ib)) (rk (kyd a ia))=false):MI O rk a b (out.push (kyd a ia)) (ia+1) ib:=by
 unfold MI at *
 rw [dX ha,dX hb,jc hl] at h
 rw [<-h,dX hb];simp
theorem ik {a:Array Keyed}{i k:Nat} (h:i+k < a.size):(out++a.extract i (i+(k+1)))=(out++a.extract i (i+k)).push (kyd a (i+k)):=by
 apply Array.toList_inj.mp
 rw [Array.toList_push,Array.toList_append,Array.toList_append,Array.toList_extract,Array.toList_extract]
 simp only [List.extract_eq_take_drop,Nat.add_sub_cancel_left]
 have e:(a.toList.drop i).take (k+1)=(a.toList.drop i).take k++[kyd a (i+k)]:=by
  rw [List.take_succ_eq_append_getElem (by simp;lia)]
  have q:=gz h
  rw [Array.getElem?_eq_getElem h] at q
  rw [<-Option.some.inj q];simp
 rw [e,List.append_assoc]
theorem le {a:Array Keyed}{i:Nat}:out++a.extract i (i+0)=out:=by
 apply Array.toList_inj.mp
 simp
theorem MI.as (h:MI O rk a b out ia ib) (hb:ib < b.size):∀ k,ia+k<=a.size->(∀ i,i < k->bey O rk false (kyd b ib) (kyd a (ia+i))=true)->MI O rk a b (out++a.extract ia (ia+k)) (ia+k) ib
 | 0,_,_=>by rw [le];exact h
 | k+1,hk,hq=>by
  rw [ik (by lia)]
  have:=MI.a1 (MI.as h hb k (by lia) λi hi=>hq i (by lia)) hb (by lia) (by simpa [bey] using hq k (by lia))
  exact this
theorem MI.bs (h:MI O rk a b out ia ib) (ha:ia < a.size):∀ k,ib+k<=b.size->(∀ i,i < k->bey O rk true (kyd a ia) (kyd b (ib+i))=true)->MI O rk a b (out++b.extract ib (ib+k)) ia (ib+k)
 | 0,_,_=>by rw [le];exact h
 | k+1,hk,hq=>by
  rw [ik (by lia)]
  exact MI.b1 (MI.bs h ha k (by lia) λi hi=>hq i (by lia)) (by lia) ha (by simpa [bey] using hq k (by lia))
noncomputable def MH (O:KeyOrd) (rk:Keyed->O.α) (a b out:Array Keyed) (na nb:Nat):Prop:=mrg O rk (a.toList.take na) (b.toList.take nb)++out.toList.reverse=mrg O rk a.toList b.toList
variable {na nb:Nat}
theorem MH.start:MH O rk a b #[] a.size b.size:=by
 unfold MH
 rw [List.take_of_length_le (by simp),List.take_of_length_le (by simp)];simp
theorem MH.a1 (h:MH O rk a b out (na+1) nb) (ha:na < a.size) (hl:∀ i,i < nb->i < b.size->O.blt (rk (kyd b i)) (rk (kyd a na))=true):MH O rk a b (out.push (kyd a na)) na nb:=by
 unfold MH at *
 rw [kC ha,gy _ _ λy hy=>?_] at h
 ·rw [<-h];simp
 ·obtain⟨i,hi,e⟩:=List.mem_iff_getElem.mp hy
  have hi':i < nb/\i < b.size:=by simp at hi;lia
  have q:=gz hi'.2
  rw [Array.getElem?_eq_getElem hi'.2] at q
  have:y=kyd b i:=by rw [<-e,<-Option.some.inj q];simp
  rw [this];exact hl i hi'.1 hi'.2
theorem MH.b1 (h:MH O rk a b out na (nb+1)) (hb:nb < b.size) (hl:∀ i,i < na->i < a.size->O.blt (rk (kyd b nb)) (rk (kyd a i))=false):MH O rk a b (out.push (kyd b nb)) na nb:=by
 unfold MH at *
 rw [kC hb,gC _ _ λy hy=>?_] at h
 ·rw [<-h];simp
 ·obtain⟨i,hi,e⟩:=List.mem_iff_getElem.mp hy
  have hi':i < na/\i < a.size:=by simp at hi;lia
  have q:=gz hi'.2
  rw [Array.getElem?_eq_getElem hi'.2] at q
  have:y=kyd a i:=by rw [<-e,<-Option.some.inj q];simp
  rw [this];exact hl i hi'.1 hi'.2
end
end L2
namespace L2
open PySem PySem.Spec PyProof.Rows
section
variable {prog:Program}{w:World}{A:Around}{E:Value->Shared->Prop}{s:Shared}{κ:SortKind}{O:KeyOrd}{rk:Keyed->O.α}{S:Keyed->Prop}{st:SortSt}{a b:Array Keyed}
noncomputable def Gs (st st':SortSt):Prop:=∃ g,st'=rN st g
theorem Gs.refl:Gs st st:=⟨gallopOf st,rfl⟩
theorem Gs.kind {st':SortSt} (h:Gs st st'):kindOf st'=kindOf st:=by obtain⟨g,rfl⟩:=h;rfl
theorem Gs.set {st':SortSt} (h:Gs st st') (g:Nat):Gs st (SortSt.mk' (kindOf st') (arrOf st') (pendingOf st') g (failedOf st')):=by obtain⟨g',rfl⟩:=h;exact⟨g,rfl⟩
structure Two (O:KeyOrd) (rk:Keyed->O.α) (S:Keyed->Prop) (a b:Array Keyed):Prop where
 sa:∀ i,i < a.size->S (kyd a i)
 sb:∀ i,i < b.size->S (kyd b i)
 ua:Up rk a 0 a.size
 ub:Up rk b 0 b.size
 pa:0 < a.size
 pb:0 < b.size
 first:O.blt (rk (kyd b 0)) (rk (kyd a 0))=true
 last:∀ i,i < b.size->O.blt (rk (kyd b i)) (rk (kyd a (a.size - 1)))=true
end
end L2
namespace L2
open PySem PySem.Spec PyProof.Rows
section
variable {prog:Program}{w:World}{A:Around}{E:Value->Shared->Prop}{s:Shared}{κ:SortKind}{O:KeyOrd}{rk:Keyed->O.α}{S:Keyed->Prop}{st:SortSt}{a b out:Array Keyed}{na nb:Nat}
theorem lc {a:Array Keyed}{t k:Nat} (h:t+k < a.size):out++(a.extract t (t+(k+1))).reverse=(out.push (kyd a (t+k)))++(a.extract t (t+k)).reverse:=by
 apply Array.toList_inj.mp
 have e:=ik (out:=#[]) (a:=a) (i:=t) (k:=k) h
 have e':a.extract t (t+(k+1))=(a.extract t (t+k)).push (kyd a (t+k)):=by
  have z:∀ x:Array Keyed,#[]++x=x:=λx=>by simp
  rw [z,z] at e;exact e
 rw [e'];simp
theorem MH.as (T:Two O rk S a b) {t:Nat} (hb:∀ i,i < nb->i < b.size->∀ j,t<=j->j < a.size->O.blt (rk (kyd b i)) (rk (kyd a j))=true):∀ (k:Nat) {out:Array Keyed},MH O rk a b out (t+k) nb->t+k<=a.size->MH O rk a b (out++(a.extract t (t+k)).reverse) t nb
 | 0,out,h,_=>by
  have:out++(a.extract t (t+0)).reverse=out:=by apply Array.toList_inj.mp;simp
  rw [this];exact h
 | k+1,out,h,hz=>by
  rw [lc (by lia)]
  exact MH.as T hb k (MH.a1 (na:=t+k) h (by lia) λi h1 h2=>hb i h1 h2 (t+k) (by lia) (by lia)) (by lia)
theorem MH.bs (T:Two O rk S a b) {t:Nat} (hb:∀ i,i < na->i < a.size->∀ j,t<=j->j < b.size->O.blt (rk (kyd b j)) (rk (kyd a i))=false):∀ (k:Nat) {out:Array Keyed},MH O rk a b out na (t+k)->t+k<=b.size->MH O rk a b (out++(b.extract t (t+k)).reverse) na t
 | 0,out,h,_=>by
  have:out++(b.extract t (t+0)).reverse=out:=by apply Array.toList_inj.mp;simp
  rw [this];exact h
 | k+1,out,h,hz=>by
  rw [lc (by lia)]
  exact MH.bs T hb k (MH.b1 (nb:=t+k) h (by lia) λi h1 h2=>hb i h1 h2 (t+k) (by lia) (by lia)) (by lia)
end
end L2
namespace L2
open PySem PySem.Spec PyProof.Rows
section
variable {prog:Program}{w:World}{A:Around}{E:Value->Shared->Prop}{s:Shared}{κ:SortKind}{O:KeyOrd}{rk:Keyed->O.α}{S:Keyed->Prop}{st:SortSt}{arr:Array Keyed}{n1 n2:Nat}
end
end L2
namespace L2
open PySem PySem.Spec PyProof.Rows
section
variable {prog:Program}{w:World}{A:Around}{E:Value->Shared->Prop}{s:Shared}{κ:SortKind}{O:KeyOrd}{rk:Keyed->O.α}{S:Keyed->Prop}{st:SortSt}{a0:Array Keyed}
end
end L2
namespace L2
open PySem PySem.Spec PyProof.Rows PySem.SeqAt
open MeetsSeq MeetsSeq2 MeetsSeq3 SeqRoads2
open AutoSeq1 (wpAny_loadPart')
noncomputable def iP (A:Around) (s:Shared) (y x:Value) (b:Bool):Prop:=∀ (prog:Program) (w:World) (E:Value->Shared->Prop) (Q:Value->Shared->Prop),Q (.bool b) s->wpAny (model prog w) A (richCompare .Lt y x) Q E s
noncomputable def ir (e l:Nat->Bool) (fin:Bool):Nat->Nat->Bool
 | 0,_=>fin
 | k+1,i=>if e i=true then ir e l fin k (i+1) else l i
theorem h6 (p q:Addr) (us vs:Array Value) (n n2:Nat) (dd dd2:Option Addr) (sl sl2:Array (Option Value)) (e l:Nat->Bool) :
  Meets (Builtin.«tuple.__lt__» ⟨[.ref p,.ref q],[]⟩)
   (λA R s=>(s.heap.get? p=some ⟨.type "tuple",dd,.seq us n,sl⟩/\s.heap.get? q=some ⟨.type "tuple",dd2,.seq vs n2,sl2⟩)/\
     (∀ j (h1:j < us.size) (h2:j < vs.size),EqAt A.in1 s us[j] vs[j] (e j)/\(e j=false->iP A.in1 s us[j] vs[j] (l j)))/\
     R (.ok (.ret (.bool (ir e l (decide (us.size < vs.size)) (min us.size vs.size) 0)))) s):=
 .of_wp λprog w A R s h=>by
  obtain⟨hp,g,d,tk,os⟩:=s
  obtain⟨⟨h1,h2⟩,he,h⟩:=h
  have f2:=AutoSeq1.sub_tuple_tuple
  have hZ:(us.toList.zip vs.toList).length=min us.size vs.size:=by simp
  wp_walk using wpAny_loadPart' h1,wpAny_loadPart' h2,wpAny_forIn_list _ (λbW b s'=>b.1=none/\s'=⟨hp,g,d,tk,os⟩/\∃ i,i<=min us.size vs.size/\bW=(us.toList.zip vs.toList).drop i/\
   R (.ok (.ret (.bool (ir e l (decide (us.size < vs.size)) (min us.size vs.size - i) i)))) ⟨hp,g,d,tk,os⟩) _
  case turn=>
   rintro⟨y,x⟩ bW b s' ⟨hb',rfl,i,hi,hz,hR⟩
   have hlt:i < (us.toList.zip vs.toList).length:=by
    rcases Nat.lt_or_ge i (us.toList.zip vs.toList).length with h' | h'
    ·exact h'
    ·rw [List.drop_of_length_le h'] at hz;cases hz
   rw [hZ] at hlt
   have g1:i < us.size:=by lia
   have g2:i < vs.size:=by lia
   rw [List.drop_eq_getElem_cons (by rw [hZ];exact hlt)] at hz
   injection hz with hyx hrest
   have hy:y=us[i]:=by have:=congrArg Prod.fst hyx;simpa using this
   have hx:x=vs[i]:=by have:=congrArg Prod.snd hyx;simpa using this
   subst hy hx
   obtain⟨k,hk⟩:∃ k,min us.size vs.size - i=k+1:=⟨min us.size vs.size - i - 1,by lia⟩
   rw [hk] at hR
   have hR':R (.ok (.ret (.bool (if e i=true then ir e l (decide (us.size < vs.size)) k (i+1) else l i)))) ⟨hp,g,d,tk,os⟩:=hR
   refine wpAny_bind ((he i g1 g2).1 prog w _ _ ?_)
   cases hy:e i with
   | true=>
    rw [hy,if_pos rfl] at hR'
    wp_walk
    exact⟨rfl,rfl,i+1,by lia,hrest,by rw [show min us.size vs.size - (i+1)=k by lia];exact hR'⟩
   | false=>
    rw [hy,if_neg (by simp)] at hR'
    simp only [Bool.not_false,if_true]
    refine wpAny_bind (wpAny_rule ?_)
    refine wpAny_bind ((he i g1 g2).2 hy prog w _ _ ?_)
    wp_walk
    exact⟨_,rfl,hR'⟩
  case fin=>
   rintro⟨b1,b2⟩ s' ⟨hb',rfl,i,hi,hz,hR⟩
   simp only at hb'
   subst hb'
   have hge:min us.size vs.size<=i:=by
    rcases Nat.lt_or_ge i (us.toList.zip vs.toList).length with h' | h'
    ·rw [List.drop_eq_getElem_cons h'] at hz;cases hz
    ·rw [hZ] at h';exact h'
   rw [show min us.size vs.size - i=0 by lia] at hR
   wp_walk
   exact⟨_,rfl,by simpa [Builtin.Tuple.tupleCompareSizes,ir] using hR⟩
  case h=>exact⟨rfl,rfl,0,Nat.zero_le _,rfl,h⟩
section
variable {A:Around}{s:Shared}{p q:Addr}{us vs:Array Value}{e l:Nat->Bool}
theorem iP.tuples (hl:s.heap.IsTuple p us) (hb:s.heap.IsTuple q vs) (hu:A.units < cLine) (he:∀ j (h1:j < us.size) (h2:j < vs.size),EqAt A.in1 s us[j] vs[j] (e j)/\(e j=false->iP A.in1 s us[j] vs[j] (l j))) :
  iP A s (.ref p) (.ref q) (ir e l (decide (us.size < vs.size)) (min us.size vs.size) 0):=λprog w E Q h=>by
 obtain⟨⟨cls,dd,data,sl⟩,ho,hc,n,hd⟩:=id hl
 obtain⟨⟨cls2,dd2,data2,sl2⟩,ho2,hc2,n2,hd2⟩:=id hb
 simp only at hc hd hc2 hd2
 subst hc hd hc2 hd2
 exact richCompare_meets_room (op:=.Lt) ⟨_,ho,rfl⟩ ⟨_,ho2,rfl⟩ PySem.F.slot_tuple_lt PySem.F.entry_tuple_lt (PySem.F.args_tuple_lt_2 _ _) (h6 p q us vs n n2 dd dd2 sl sl2 e l)
  ⟨⟨ho,ho2⟩,he,(λx=>nomatch x),h⟩ hu
end
end L2
namespace L2
open PySem PySem.Spec PyProof.Rows PySem.SeqAt PySem.W
noncomputable def gx:List Int->List Int->Bool
 | [],[]=>false
 | [],_::_=>true
 | _::_,[]=>false
 | a::as,b::bs=>if a=b then gx as bs else decide (a < b)
noncomputable def TuI (h:Heap) (v:Value) (l:List Int):Prop:=∃ a its,v=.ref a/\h.IsTuple a its/\IntsAre its.toList l
noncomputable def nh:Value->Int
 | .int n _=>n
 | _=>0
noncomputable def tuI (h:Heap):Value->List Int
 | .ref a=>match h.get? a with
  | some o=>match o.data with
   | .seq its _=>its.toList.map nh
   | _=>[]
  | none=>[]
 | _=>[]
theorem ki:∀ {us:List Value}{l:List Int},IntsAre us l->us.map nh=l
 | _,_,.nil=>rfl
 | _,_,.cons n t h=>by rw [List.map_cons,ki h];rfl
theorem dD:∀ {us:List Value}{l:List Int},IntsAre us l->us.length=l.length
 | _,_,.nil=>rfl
 | _,_,.cons n t h=>by rw [List.length_cons,List.length_cons,dD h]
theorem eS:∀ {us:List Value}{l:List Int},IntsAre us l->∀ (j:Nat) (h:j < us.length),∃ t,us[j]=.int (l.getD j 0) t
 | _,_,.nil,j,h=>absurd h (Nat.not_lt_zero j)
 | _,_,.cons n t hh,0,h=>⟨t,rfl⟩
 | _,_,.cons n t hh,j+1,h=>by
  obtain⟨t',e⟩:=eS hh j (Nat.lt_of_succ_lt_succ h)
  exact⟨t',by simpa using e⟩
theorem TuI.is {h:Heap}{v:Value}{l:List Int} (t:TuI h v l):tuI h v=l:=by
 obtain⟨a,its,rfl,⟨o,ho,hc,n,hd⟩,hi⟩:=t
 simp only [tuI,ho,hd]
 exact ki hi
theorem gY:∀ (l m:List Int) (i:Nat) (e f:Nat->Bool),(∀ j,j < l.length->j < m.length->e (i+j)=decide (l.getD j 0=m.getD j 0)/\f (i+j)=decide (l.getD j 0 < m.getD j 0))->
  ir e f (decide (l.length < m.length)) (min l.length m.length) i=gx l m
 | [],[],i,e,f,_=>by simp [ir,gx]
 | [],b::m,i,e,f,_=>by simp [ir,gx]
 | a::l,[],i,e,f,_=>by simp [ir,gx]
 | a::l,b::m,i,e,f,h=>by
  have h0:=h 0 (by simp) (by simp)
  rw [List.length_cons,List.length_cons,show min (l.length+1) (m.length+1)=min l.length m.length+1 by lia]
  have e1:decide (l.length+1 < m.length+1)=decide (l.length < m.length):=by rw [Bool.eq_iff_iff];simp
  rw [e1]
  show (if e i=true then ir e f (decide (l.length < m.length)) (min l.length m.length) (i+1) else f i)=if a=b then gx l m else decide (a < b)
  rw [Nat.add_zero] at h0
  rw [h0.1,h0.2]
  by_cases q:a=b
  ·subst q
   simp only [List.getD_cons_zero,decide_true,if_true]
   exact gY l m (i+1) e f λj h1 h2=>by
    have:=h (j+1) (by simpa using h1) (by simpa using h2)
    rw [show i+1+j=i+(j+1) by lia]
    simpa using this
  ·simp [q]
section
variable {prog:Program}{w:World}{A:Around}{E:Value->Shared->Prop}{s:Shared}{x y:Value}{l m:List Int}
theorem iP.ints {a b:Int}{t u:Tok}:iP A s (.int a t) (.int b u) (decide (a < b)):=λprog w E Q h=>PyProof.Rows.lt_int h
theorem EqAt.ints {a b:Int}{t u:Tok}:EqAt A s (.int a t) (.int b u) (decide (a=b)):=by
 have:=lI (A:=A) (s:=s) (y:=.int a) (x:=.int b) (u:=.int a t) (v:=.int b u) ⟨t,rfl⟩ ⟨u,rfl⟩ rfl rfl
 have e:eqV (.int a) (.int b)=decide (a=b):=by simp [eqV,Bool.beq_eq_decide_eq]
 rw [e] at this;exact this
theorem TuI.lt (tx:TuI s.heap x l) (ty:TuI s.heap y m) (hu:A.units < cLine):iP A s x y (gx l m):=by
 obtain⟨a,us,rfl,h1,i1⟩:=tx
 obtain⟨b,vs,rfl,h2,i2⟩:=ty
 have e1:us.size=l.length:=by rw [<-Array.length_toList];exact dD i1
 have e2:vs.size=m.length:=by rw [<-Array.length_toList];exact dD i2
 have z:=iP.tuples (A:=A) (e:=λj=>decide (l.getD j 0=m.getD j 0)) (l:=λj=>decide (l.getD j 0 < m.getD j 0)) h1 h2 hu λj g1 g2=>by
  obtain⟨t,q1⟩:=eS i1 j (by simpa using g1)
  obtain⟨t',q2⟩:=eS i2 j (by simpa using g2)
  rw [Array.getElem_toList] at q1 q2
  rw [q1,q2]
  exact⟨EqAt.ints,λ_=>iP.ints⟩
 rw [e1,e2,gY l m 0 _ _ λj h1 h2=>by rw [Nat.zero_add];exact⟨rfl,rfl⟩] at z
 exact z
theorem TuI.ty (tx:TuI s.heap x l):s.TypeIs x "tuple":=by
 obtain⟨a,us,rfl,⟨o,ho,hc,_⟩,i1⟩:=tx
 exact⟨o,ho,hc⟩
theorem TuI.one (tx:TuI s.heap x l) (ty:TuI s.heap y m) (hu:A.units < cLine) {Q:Bool->Shared->Prop} (h:Q (gx l m) s) (b:Bool):wpAny (model prog w) A (oneLt' b x y) Q E s:=by
 cases b with
 | false=>exact kat_one _ _ (tx.lt ty hu _ _ _ _ h)
 | true=>
  rw [oneLt'_eq]
  simp only [if_true]
  refine wpAny_bind (wpAny_cRoomFor hu ?_)
  obtain⟨a,us,rfl,h1,i1⟩:=id tx
  obtain⟨c,vs,rfl,h2,i2⟩:=id ty
  obtain⟨⟨cls,dd,data,sl⟩,ho,hc,n,hd⟩:=id h1
  obtain⟨⟨cls2,dd2,data2,sl2⟩,ho2,hc2,n2,hd2⟩:=id h2
  simp only at hc hd hc2 hd2
  subst hc hd hc2 hd2
  have e1:us.size=l.length:=by rw [<-Array.length_toList];exact dD i1
  have e2:vs.size=m.length:=by rw [<-Array.length_toList];exact dD i2
  refine wpAny_bind (wpAny_callSpecialIfBound?_slot (T:="tuple") ⟨_,ho,rfl⟩ PySem.F.slot_tuple_lt (call_meets PySem.F.slot_tuple_lt ⟨_,ho,rfl⟩ PySem.F.entry_tuple_lt (PySem.F.args_tuple_lt_2 _ _)
   (h6 a c us vs n n2 dd dd2 sl sl2 (λj=>decide (l.getD j 0=m.getD j 0)) λj=>decide (l.getD j 0 < m.getD j 0)) ⟨⟨ho,ho2⟩,λj g1 g2=>?_,?_⟩))
  ·obtain⟨t,q1⟩:=eS i1 j (by simpa using g1)
   obtain⟨t',q2⟩:=eS i2 j (by simpa using g2)
   rw [Array.getElem_toList] at q1 q2
   rw [q1,q2]
   exact⟨EqAt.ints,λ_=>iP.ints⟩
  ·rw [e1,e2,gY l m 0 _ _ λj h1 h2=>by rw [Nat.zero_add];exact⟨rfl,rfl⟩]
   exact wpAny_truthy_bool h
theorem nk {Q:Bool->Shared->Prop}{fin:Bool}:∀ {us vs:List Value}{l m:List Int} (i:Nat),IntsAre us l->IntsAre vs m->(fin=decide (l.length < m.length))->Q (gx l m) s->KatLex prog w A true fin Q (us.zip vs) i s
 | _,_,_,_,i,.nil,.nil,hf,h=>kat_nil (by rw [hf];exact h)
 | _,_,_,_,i,.nil,.cons n t r,hf,h=>kat_nil (by rw [hf];simpa [gx] using h)
 | _,_,_,_,i,.cons n t r,.nil,hf,h=>kat_nil (by rw [hf];simpa [gx] using h)
 | _,_,_,_,i,.cons (vs:=us) (ns:=l) a t r,.cons (vs:=vs) (ns:=m) b u r',hf,h=>by
  rw [List.zip_cons_cons]
  refine kat_cons (EqAt.ints prog w _ _ ?_)
  unfold gx at h
  by_cases e:a=b
  ·subst e
   rw [if_pos rfl] at h
   rw [decide_eq_true rfl]
   exact kat_yes (nk (i+1) r r' (by rw [hf,Bool.eq_iff_iff];simp) h)
  ·rw [if_neg e] at h
   rw [decide_eq_false e]
   refine kat_no ?_
   cases (true && i==0) with
   | true=>exact oneLt_int h
   | false=>exact kat_one _ _ (PyProof.Rows.lt_int h)
theorem TuI.tups (tx:TuI s.heap x l) (ty:TuI s.heap y m) {Q:Bool->Shared->Prop} (h:Q (gx l m) s):wpAny (model prog w) A (keyLt' (tuples' true) x y) Q E s:=by
 obtain⟨a,us,rfl,⟨o,ho,hc,n,hd⟩,i1⟩:=tx
 obtain⟨c,vs,rfl,⟨o2,ho2,hc2,n2,hd2⟩,i2⟩:=ty
 have e1:us.size=l.length:=by rw [<-Array.length_toList];exact dD i1
 have e2:vs.size=m.length:=by rw [<-Array.length_toList];exact dD i2
 exact kat_lt ho hd ho2 hd2 (nk 0 i1 i2 (by rw [e1,e2]) h)
end
end L2
namespace L2
open PySem PySem.Spec PyProof.Rows PySem.SeqAt PySem.W
section
variable {prog:Program}{w:World}{A:Around}{E:Value->Shared->Prop}{s:Shared}{O:KeyOrd}{rk:Keyed->O.α}{S:Keyed->Prop}{vs:List Value}
end
end L2
namespace L2
open PySem PySem.Spec PyProof.Rows PySem.SeqAt PySem.W
noncomputable def qm (h:Heap):Value->Option Value
 | .ref a=>match h.get? a with
  | some o=>match o.data with
   | .seq its _=>its[0]?
   | _=>none
  | none=>none
 | _=>none
theorem TuI.fst {h:Heap}{v:Value}{l:List Int} (t:TuI h v l):qm h v=none\/∃ n t,qm h v=some (.int n t):=by
 obtain⟨a,its,rfl,⟨o,ho,hc,n,hd⟩,hi⟩:=t
 simp only [qm,ho,hd]
 by_cases hz:0 < its.size
 ·obtain⟨t,e⟩:=eS hi 0 (by simpa using hz)
  exact .inr ⟨_,t,by rw [Array.getElem?_eq_getElem hz];rw [Array.getElem_toList] at e;rw [e]⟩
 ·exact .inl (Array.getElem?_eq_none (by lia))
section
variable {prog:Program}{w:World}{A:Around}{E:Value->Shared->Prop}{s:Shared}
end
end L2
namespace L2
open PySem PySem.Spec PyProof.Rows PySem.SeqAt PySem.W
section
variable {K:PySem.W.Frag}{X:Cx}{pins:List (Addr×Obj)}{σ:St}{H:Hp}{s:Shared}{φ:List Addr}
end
end L2
namespace L2
open PySem PySem.Spec PyProof.Rows
open PySem.AutoSeq1 (wpAny_loadPart')
noncomputable def SIt (k:Bool) (h:Heap) (it l:Addr) (i:Nat):Prop:=match k with
 | true=>h.IsTupleIter it l i
 | false=>h.IsListIter it l i
noncomputable def SIs (k:Bool) (h:Heap) (l:Addr) (xs:Array Value):Prop:=match k with
 | true=>h.IsTuple l xs
 | false=>h.IsList l xs
theorem SIt.to {k:Bool}{h h':Heap}{it l:Addr}{i:Nat} (a:SIt k h it l i) (f:∀ o,h.get? it=some o->h'.get? it=some o):SIt k h' it l i:=by
 cases k with
 | true=>exact Heap.IsTupleIter.at a f
 | false=>exact Heap.IsListIter.at a f
theorem SIs.to {k:Bool}{h h':Heap}{l:Addr}{xs:Array Value} (a:SIs k h l xs) (f:∀ o,h.get? l=some o->h'.get? l=some o):SIs k h' l xs:=by
 cases k with
 | true=>obtain⟨o,e,r⟩:=a;exact⟨o,f o e,r⟩
 | false=>exact Heap.IsList.at a f
theorem SIt.cls {k:Bool}{h:Heap}{it l:Addr}{i:Nat} (a:SIt k h it l i) {o:Obj} (e:h.get? it=some o):o.cls≠.type "StopIteration":=by
 cases k with
 | true=>obtain⟨o',e',c,d⟩:=a;rw [e] at e';cases e';rw [c];simp
 | false=>obtain⟨o',e',c,d⟩:=a;rw [e] at e';cases e';rw [c];simp
section
variable {prog:Program}{w:World}{A:Around}{E:Value->Shared->Prop}{s:Shared}{k k2:Bool}
variable {z TI TO i1 i2 l1 l2:Addr}{n:Nat}{xs ys:Array Value}{a b:Value}
end
end L2
namespace L2
open PySem PySem.Spec PyProof.Rows
open PySem.AutoSeq1 (wpAny_loadPart')
section
variable {prog:Program}{w:World}{A:Around}{E:Value->Shared->Prop}{s:Shared}{k k2:Bool}
end
section
variable {K:PySem.W.Frag}{X:Cx}{a b:Expr}{pos:Pos}{af:Af}
end
end L2
namespace L2
open PySem PySem.Spec PyProof.Rows
section
variable {prog:Program}{w:World}{A:Around}{s:Shared}{I l S:Addr}{items:Array Value}{ns:List Int}{kw:List (Str×Value)}{R:Result->Shared->Prop}
variable {E:Value->Shared->Prop}
end
end L2
namespace L2
open PySem PySem.Spec PyProof.Rows
section
variable {K:PySem.W.Frag}{X:Cx}{e a b:Expr}{es:List Expr}{pos:Pos}{f fa fb:Ef}{af:Af}
end
end L2
namespace L2
open PySem PySem.Spec PyProof.Rows
section
variable {K:PySem.W.Frag}{X:Cx}
end
end L2
namespace L2
open PySem PySem.Spec PyProof.Rows
section
variable {K:PySem.W.Frag}{X:Cx}{pos:Pos}{a b:Expr}{af:Af}
end
end L2
namespace L2
open PySem PySem.Spec PyProof.Rows
open Classical in
noncomputable def lcH (n:Nat) (all:List D) (g:Tg) (tt:Tf) (te:Ef) (env:Ev):List D->Sto->Option (List D×Sto)
 | [],st=>if st[n]?=some all then some ([],st) else none
 | d::ds,st=>if st[n]?=some all then ((bV g (.d d) env).bind λe=>(tt e st).bind λb=>if b.1=true then (te e b.2).bind λx=>(cp [x.1]).bind λys=>(lcH n all g tt te env ds x.2).map λr=>(ys++r.1,r.2)
   else lcH n all g tt te env ds b.2) else none
section
variable {K:PySem.W.Frag}{X:Cx}{pos:Pos}{tg:Expr}
end
end L2
namespace L2
open PySem PySem.Spec PyProof.Rows
noncomputable def nc (c:Nat):Str:=⟨#[c]⟩
noncomputable def jm (x:Str):List D:=x.cps.toList.map λc=>D.str (nc c)
section
variable {K:PySem.W.Frag}{X:Cx}{pos:Pos}{tg e:Expr}{f:Ef}
end
end L2
namespace L2
open PySem PySem.Spec PyProof.Rows
section
variable {K:PySem.W.Frag}{X:Cx}{pos:Pos}{a e:Expr}{fa:Ef}{af:Af}
noncomputable def h8:List D->Option (List Str)
 | []=>some []
 | .str x::ds=>(h8 ds).map (x::·)
 | _::_=>none
noncomputable def ie (o:Ef) (a:Af):Ef
 | env,st=>(o env st).bind λx=>(a env x.2).bind λr=>match x.1,r.1 with
 | .d (.str s),[.d (.lst ds)]=>(h8 ds).bind λxs=>if JoinOk s xs=true then some (.d (.str (PySem.Txt.join s xs)),r.2) else none
 | _,_=>none
theorem gE:∀ {ds:List D}{xs:List Str}{vs:List V}{φ:List Addr}{H:Hp},h8 ds=some xs->Rls K H φ ds vs->vs=xs.map V.str
 | [],xs,vs,φ,H,h,r=>by
  cases h
  exact r
 | d::ds,xs,vs,φ,H,h,r=>by
  obtain⟨v,vr,rfl,r1,r2⟩:=r
  cases d with
  | str x=>
   obtain⟨ys,hy,rfl⟩:=Option.map_eq_some_iff.mp h
   have:=gE hy r2
   subst this
   have r1:v=.str x:=r1
   subst r1
   rfl
  | _=>cases h
theorem jf:∀ {xs:List Str}{its:List Value},aC (xs.map V.str) its->∃ l:List (Str×Tok),its=strValues l/\l.map (·.1)=xs
 | [],its,r=>by
  cases r
  exact⟨[],rfl,rfl⟩
 | x::xs,its,r=>by
  cases r with
  | cons r1 r2=>
   obtain⟨t,rfl⟩:=r1
   obtain⟨l,rfl,rfl⟩:=jf r2
   exact⟨(x,t)::l,rfl,rfl⟩
noncomputable def sI (X:Cx):V->List V->Hp->VK->Prop:=λx xs H Q=>∃ s p ts,x=.str s/\xs=[.ref p]/\SqL X.K H p (ts.map V.str)/\JoinOk s ts=true/\Q (.str (PySem.Txt.join s ts)) H
theorem pe:MtR X "str.join" (sI X):=by
 intro pins s σ H x xs v us Q I rx rv h
 obtain⟨z,p,ts,rfl,rfl,hq,hj,q⟩:=h
 obtain⟨t,rfl⟩:=rx
 obtain⟨u,rfl,ru⟩:=rv.one
 cases ru
 obtain⟨its,r,pl,hz⟩:=I.list hq
 obtain⟨l,rfl,rfl⟩:=jf r
 exact SC.join pl.isList rfl hj λt' k=>⟨.str _,H,I.tok k,⟨_,rfl⟩,q⟩
theorem lT {apos:Pos} (ho:IE K X a fa) (ha:IA K X [e] af) (hbase:attributeBase a "join" X.env (eval a X.env)=eval a X.env:=by rfl)
  (hall:[e].all aR=true:=by rfl) (hline:(apos.endLine==pos.line)=true:=by rfl) (hK:X.K=K:=by rfl) :
  IE K X (.Call (.Attribute a "join" apos) [e] [] pos) (ie fa af):=by
 subst hK
 have hall2:aR e=true:=by rw [List.all_cons,Bool.and_eq_true] at hall;exact hall.1
 refine⟨λenv st r hr'=>?_⟩
 simp only [ie,Option.bind_eq_some_iff] at hr'
 obtain⟨⟨x,s1⟩,hx,⟨ws,s2⟩,hw,hr'⟩:=hr'
 match x,ws,hr' with
 | .d (.str z),[.d (.lst ds)],hr'=>
  simp only [Option.bind_eq_some_iff] at hr'
  obtain⟨ts,hts,hr'⟩:=hr'
  by_cases hj:JoinOk z ts=true
  case neg=>rw [if_neg hj] at hr';cases hr'
  rw [if_pos hj] at hr'
  cases hr'
  refine (nD PySem.F.plainAttrs_str PySem.F.slot_str_join PySem.F.type_str_join pe (ho.run _ _ _ hx) (ha.run _ _ _ hw) hbase (ix hall (by show 1 < 30;decide)) hline (bR hall2) (cS rfl)).imp ?_
  rintro σ H Q ⟨φ,hE,hS,q⟩
  refine⟨φ,hE,hS,λv H1 φ1 f1 S1 w1=>?_⟩
  have w1:v=.str z:=w1
  subst w1
  refine⟨rfl,φ1,hE.fw hS f1,S1,λus H2 φ2 f2 S2 w2=>?_⟩
  obtain⟨y,us',rfl,ry,rfl⟩:=w2
  obtain⟨p,vs,rfl,h0,hq,hrl⟩:=ry
  have:=gE hts hrl
  subst this
  exact⟨z,p,ts,rfl,rfl,.inl hq,hj,q _ H2 φ2 (f1.trans f2) S2 rfl⟩
end
end L2
namespace L2
open PySem PySem.Spec PyProof.Rows
mutual
noncomputable def toP:D->PyData
 | .non=>.none
 | .bl b=>.bool b
 | .int i=>.int i
 | .str x=>.str x
 | .tup ds=>.tuple (eZ ds)
 | .lst ds=>.list (eZ ds)
 | _=>.none
noncomputable def eZ:List D->List PyData
 | []=>[]
 | d::ds=>toP d::eZ ds
end
mutual
noncomputable def rpD:D->Bool
 | .non=>true
 | .bl _=>true
 | .int i=>decide (i.natAbs.log2 < 1920)
 | .str _=>true
 | .tup ds=>gc ds
 | .lst ds=>gc ds
 | _=>false
noncomputable def gc:List D->Bool
 | []=>true
 | d::ds=>rpD d && gc ds
end
mutual
noncomputable def wtD:D->Nat
 | .non=>10
 | .bl _=>10
 | .int _=>2000
 | .str x=>(reprText x).length
 | .tup ds=>iE ds+5
 | .lst ds=>iE ds+5
 | _=>0
noncomputable def iE:List D->Nat
 | []=>0
 | d::ds=>wtD d+2+iE ds
end
mutual
noncomputable def dpD:D->Nat
 | .tup ds=>ig ds+1
 | .lst ds=>ig ds+1
 | _=>1
noncomputable def ig:List D->Nat
 | []=>0
 | d::ds=>max (dpD d) (ig ds)
end
noncomputable def eA (st:Sto):List W->Option D
 | [w]=>match w with
  | .d d=>if rpD d=true/\wtD d<=16000000/\dpD d<=50 then some (.str (toP d).shown) else none
  | .h _=>none
 | _=>none
theorem gG:∀ (ts:List Str) (k:Nat) (acc:Str),(textFrom k acc ts).length<=acc.length+piled ts
 | [],k,acc=>by show acc.length<=_;lia
 | t::r,k,acc=>by
  have h:=gG r (k+1) (acc++(if k > 0 then ", " else "" : String)++t)
  have e:(acc++(if k > 0 then ", " else "" : String)++t).length<=acc.length+2+t.length:=by
   rw [strLen_append,strLen_append]
   have:((if k > 0 then ", " else "" : String):Str).length<=2:=by split<;>decide
   lia
  rw [piled_cons]
  show (textFrom (k+1) _ r).length<=_
  lia
theorem oe (ts:List Str):(tupleText ts).length<=piled ts+3:=by
 have hz:(Str.join ", " ts).length<=piled ts:=by
  cases ts with
  | nil=>exact Nat.zero_le _
  | cons x r=>
   have:=join_length_add (x::r) (by simp)
   lia
 unfold tupleText
 rw [strLen_append,strLen_append]
 have h2:((if ts.length==1 then ",)" else ")" : String):Str).length<=2:=by split<;>decide
 have h1:((("(" : String):Str)).length=1:=rfl
 lia
theorem pw (ts:List Str):(listText ts).length<=piled ts+2:=by
 have h:=gG ts 0 "["
 unfold listText
 rw [strLen_append]
 have h1:((("[" : String):Str)).length=1:=rfl
 have h2:((("]" : String):Str)).length=1:=rfl
 lia
mutual
theorem kj:∀ d:D,rpD d=true->(toP d).shown.length<=wtD d
 | .non,_=>by rw [toP,wtD];decide
 | .bl b,_=>by rw [toP,wtD];cases b<;>decide
 | .int i,h=>by
  rw [rpD,decide_eq_true_eq] at h
  rw [toP,wtD,PyData.shown]
  have:=int_text_length_le (k:=1920) (by decide) h
  rw [PySem.ofString_length]
  lia
 | .str x,_=>by rw [toP,wtD,PyData.shown];exact Nat.le_refl _
 | .tup ds,h=>by
  rw [rpD] at h
  rw [toP,wtD,PyData.shown]
  have:=gl ds h
  have:=oe (PyData.shownAll (eZ ds))
  lia
 | .lst ds,h=>by
  rw [rpD] at h
  rw [toP,wtD,PyData.shown]
  have:=gl ds h
  have:=pw (PyData.shownAll (eZ ds))
  lia
 | .ty _,h=>by simp [rpD] at h
 | .dct,h=>by simp [rpD] at h
 | .scr _,h=>by simp [rpD] at h
theorem gl:∀ ds:List D,gc ds=true->piled (PyData.shownAll (eZ ds))<=iE ds
 | [],_=>by rw [eZ,iE,PyData.shownAll];exact Nat.le_refl _
 | d::ds,h=>by
  rw [gc,Bool.and_eq_true] at h
  rw [eZ,iE,PyData.shownAll,piled_cons]
  have:=kj d h.1
  have:=gl ds h.2
  lia
end
mutual
theorem mo:∀ d:D,rpD d=true->(toP d).showable=true/\(toP d).hasDict=false/\(toP d).depth<=dpD d
 | .non,_=>⟨rfl,rfl,by decide⟩
 | .bl b,_=>⟨rfl,rfl,by rw [toP,PyData.depth];exact Nat.zero_le _⟩
 | .int i,h=>by
  rw [rpD] at h
  rw [toP]
  exact⟨h,rfl,by rw [PyData.depth];exact Nat.zero_le _⟩
 | .str x,_=>⟨rfl,rfl,by rw [toP,PyData.depth];exact Nat.zero_le _⟩
 | .tup ds,h=>by
  rw [rpD] at h
  rw [toP,dpD,PyData.showable,PyData.hasDict,PyData.depth]
  obtain⟨a,b,c⟩:=ii ds h
  exact⟨a,b,by lia⟩
 | .lst ds,h=>by
  rw [rpD] at h
  rw [toP,dpD,PyData.showable,PyData.hasDict,PyData.depth]
  obtain⟨a,b,c⟩:=ii ds h
  exact⟨a,b,by lia⟩
 | .ty _,h=>by simp [rpD] at h
 | .dct,h=>by simp [rpD] at h
 | .scr _,h=>by simp [rpD] at h
theorem ii:∀ ds:List D,gc ds=true->PyData.showableAll (eZ ds)=true/\PyData.hasDictAll (eZ ds)=false/\PyData.depthAll (eZ ds)<=ig ds
 | [],_=>by rw [eZ,ig];exact⟨rfl,rfl,by simp [PyData.depthAll]⟩
 | d::ds,h=>by
  rw [gc,Bool.and_eq_true] at h
  obtain⟨a,b,c⟩:=mo d h.1
  obtain⟨a',b',c'⟩:=ii ds h.2
  rw [eZ,ig,PyData.showableAll,PyData.hasDictAll,PyData.depthAll,a,b,a',b']
  exact⟨rfl,rfl,by lia⟩
end
section
variable {K:PySem.W.Frag}{X:Cx}{pins:List (Addr×Obj)}{σ:St}{H:Hp}{s:Shared}{φ:List Addr}
mutual
theorem kg (I:Inv X pins σ H s):∀ (d:D) (v:V) (u:Value),rpD d=true->Rl X.K H φ d v->aP v u->∃ as,Reads s.heap u (toP d) as
 | .non,v,u,_,r,q=>by cases (show v=.non from r);cases q;exact⟨_,by rw [toP];exact .none⟩
 | .bl b,v,u,_,r,q=>by cases (show v=.bl b from r);cases q;exact⟨_,by rw [toP];exact .bool b⟩
 | .int i,v,u,_,r,q=>by cases (show v=.int i from r);obtain⟨t,rfl⟩:=q;exact⟨_,by rw [toP];exact .int i t⟩
 | .str x,v,u,_,r,q=>by cases (show v=.str x from r);obtain⟨t,rfl⟩:=q;exact⟨_,by rw [toP];exact .str x t⟩
 | .tup ds,v,u,h,r,q=>by
  rw [rpD] at h
  obtain⟨a,vs,rfl,h1,h2⟩:=r
  cases q
  obtain⟨its,rv,⟨o,ho,hc,n,hd⟩,_⟩:=I.tuple h1
  obtain⟨as,ra⟩:=gs I ds vs its h h2 rv
  exact⟨as,by rw [toP];exact .tuple ho hc hd (by simpa using ra)⟩
 | .lst ds,v,u,h,r,q=>by
  rw [rpD] at h
  obtain⟨a,vs,rfl,_,h1,h2⟩:=r
  cases q
  obtain⟨its,rv,⟨o,n,ho,hc,hdd,hd⟩,_⟩:=I.list (.inl h1)
  obtain⟨as,ra⟩:=gs I ds vs its h h2 rv
  exact⟨a::as,by rw [toP];exact .list ho hc hd (by simpa using ra)⟩
 | .ty _,_,_,h,_,_=>by simp [rpD] at h
 | .dct,_,_,h,_,_=>by simp [rpD] at h
 | .scr _,_,_,h,_,_=>by simp [rpD] at h
theorem gs (I:Inv X pins σ H s):∀ (ds:List D) (vs:List V) (us:List Value),gc ds=true->Rls X.K H φ ds vs->aC vs us->∃ as,ReadsAll s.heap us (eZ ds) as
 | [],vs,us,_,r,q=>by cases r;cases q;exact⟨[],by rw [eZ];exact .nil⟩
 | d::ds,vs,us,h,r,q=>by
  rw [gc,Bool.and_eq_true] at h
  obtain⟨v,r',rfl,h1,h2⟩:=r
  cases q with
  | cons q1 q2=>
   obtain⟨as,a1⟩:=kg I d v _ h.1 h1 q1
   obtain⟨bs,a2⟩:=gs I ds r' _ h.2 h2 q2
   exact⟨as++bs,by rw [eZ];exact .cons a1 a2⟩
end
end
section
variable {K:PySem.W.Frag}{X:Cx}
theorem lD:cx X (.builtin "repr") (λxs H Q=>∃ x,xs=[.str x]/\(reprText x).length<=sizeLine/\Q (.str (reprText x)) H):=by
 intro pins s σ H xs us Q I rv h
 obtain⟨x,rfl,hz,q⟩:=h
 obtain⟨u,rfl,t,rfl⟩:=fo rv
 exact call_repr_gives (typeIs_str s x t) PySem.F.slot_str_repr PySem.F.entry_str_repr (PySem.F.args_str_repr_1 _) (gives_str_repr x t) ⟨.str _,H,I.tok _,⟨_,rfl⟩,q⟩ rfl hz
noncomputable def gq (st:Sto):List W->Option D
 | [.d (.tup ds)]=>eA st [.d (.tup ds)]
 | [.d (.str x)]=>if (reprText x).length<=sizeLine then some (.str (reprText x)) else none
 | _=>none
theorem lV {k:Nat}{st:Sto}{ds:List D}{d:D}{fn:Value} (hr:bO k X.A)
  (go:∀ {pins:List (Addr×Obj)}{s:Shared}{σ:St}{H:Hp}{a:Addr}{as:List Addr}{p:PyData}{Q:VK},Inv X pins σ H s->Reads s.heap (.ref a) p as->p.showable=true->p.hasDict=false->p.depth<=50->p.shown.length<=sizeLine->Q (.str p.shown) H->wpAny (model X.prog X.w) X.A (call fn [.ref a]) (EP X pins σ Q) X.xe s)
  (h:eA st [.d (.tup ds)]=some d):cx X fn (rCD X.K st [.d (.tup ds)] d):=by
 simp only [eA] at h
 split at h
 ·rename_i hc
  cases h
  intro pins s σ H xs us Q I rv q
  obtain⟨φ,S,⟨v,r,rfl,r1,rfl⟩,q⟩:=q
  obtain⟨u,rfl,ru⟩:=fo rv
  obtain⟨as,rd⟩:=kg I _ v u hc.1 r1 ru
  obtain⟨a,vs,rfl,_⟩:=id r1
  cases ru
  obtain⟨b1,b2,b3⟩:=mo _ hc.1
  have hl:=kj _ hc.1
  exact go I rd b1 b2 (by lia) (by rw [sizeLine_eq];lia) (q _ H (aL.refl H) rfl)
 ·cases h
theorem kJ {k:Nat} (hr:bO k X.A) (hK:X.K=K:=by rfl):fq K X (.builtin "repr") gq:=by
 subst hK
 refine⟨λst ws d h=>?_⟩
 have hun:=hr.un
 match ws,h with
 | [.d (.tup ds)],h=>exact lV hr (λI rd b1 b2 b3 hz q=>repr_of_reads' rd b1 (PyData.noDict_hsm b2) hr.gd (by lia) (λ_ _ e=>e) (λh' u tk hk=>⟨.str _,_,I.kept (t':=tk) hk,⟨u,rfl⟩,q⟩) hz) h
 | [.d (.str x)],h=>
  dsimp only [gq] at h
  by_cases hl:(reprText x).length<=sizeLine
  case neg=>rw [if_neg hl] at h;cases h
  rw [if_pos hl] at h
  cases h
  refine lD.imp ?_
  rintro vs H Q ⟨φ,S,⟨v,r,rfl,r1,rfl⟩,q⟩
  exact⟨x,by rw [show v=.str x from r1],hl,q _ H (aL.refl H) rfl⟩
noncomputable def iM (st:Sto):List W->Option D
 | [.d (.int i)]=>if i.natAbs.log2 < 1920 then some (.str (toString i)) else none
 | [.d (.tup ds)]=>eA st [.d (.tup ds)]
 | _=>none
theorem oa {k:Nat} (hr:bO k X.A) (hK:X.K=K:=by rfl):fq K X (.type "str") iM:=by
 subst hK
 refine⟨λst ws d h=>?_⟩
 have hun:=hr.un
 match ws,h with
 | [.d (.tup ds)],h=>exact lV hr (λI rd b1 b2 b3 hz q=>str_of_reads rd b1 (PyData.noDict_hsm b2) hr.gd (by lia) (λ_ _ e=>e) (λh' u tk hk=>⟨.str _,_,I.kept (t':=tk) hk,⟨u,rfl⟩,q⟩) hz) h
 | [.d (.int i)],h=>
  dsimp only [iM] at h
  by_cases hl:i.natAbs.log2 < 1920
  case neg=>rw [if_neg hl] at h;cases h
  rw [if_pos hl] at h
  cases h
  refine jr.imp ?_
  rintro vs H Q ⟨φ,S,⟨v,r,rfl,r1,rfl⟩,q⟩
  exact⟨i,by rw [show v=.int i from r1],hl,q _ H (aL.refl H) rfl⟩
end
end L2
namespace L2
open PySem PySem.Spec PyProof.Rows
noncomputable def atS (x:Str):List (Str×D)->Option D
 | []=>none
 | (k,d)::r=>if k=x then some d else atS x r
noncomputable def iH:D->Option V
 | .non=>some .non
 | .bl b=>some (.bl b)
 | .int i=>some (.int i)
 | .str x=>some (.str x)
 | _=>none
theorem ml {K:PySem.W.Frag}{H:Hp}{φ:List Addr}:∀ {d:D}{v:V},iH d=some v->Rl K H φ d v
 | .non,_,h=>by cases h;rfl
 | .bl _,_,h=>by cases h;rfl
 | .int _,_,h=>by cases h;rfl
 | .str _,_,h=>by cases h;rfl
 | .ty _,_,h=>nomatch h
 | .dct,_,h=>nomatch h
 | .scr _,_,h=>nomatch h
 | .tup _,_,h=>nomatch h
 | .lst _,_,h=>nomatch h
inductive KPs:List (Str×D)->List (Key×Value)->Prop
 | nil:KPs [] []
 | cons {x:Str}{d:D}{v:V}{u:Value}{r:List (Str×D)}{vs:List (Key×Value)} (h:iH d=some v) (e:aP v u) (t:KPs r vs):KPs ((x,d)::r) ((.inr x,u)::vs)
theorem KPs.some {x:Str}{d:D}:∀ {kvs:List (Str×D)}{vs:List (Key×Value)},KPs kvs vs->atS x kvs=some d->∃ v u,iH d=some v/\aP v u/\valueAt vs (.inr x)=some u
 | _,_,.nil,h=>nomatch h
 | (k,d')::r,_,.cons (u:=u) hv e t,h=>by
  unfold atS at h
  by_cases hk:k=x
  ·subst hk
   rw [if_pos rfl] at h
   cases h
   exact⟨_,u,hv,e,by simp [valueAt]⟩
  ·rw [if_neg hk] at h
   obtain⟨v,u,h1,h2,h3⟩:=KPs.some t h
   refine⟨v,u,h1,h2,?_⟩
   rw [<-h3]
   have:¬ (Sum.inr k:Key)=Sum.inr x:=λq=>hk (Sum.inr.inj q)
   simp [valueAt,List.find?_cons,this]
theorem KPs.none {x:Str}:∀ {kvs:List (Str×D)}{vs:List (Key×Value)},KPs kvs vs->atS x kvs=none->valueAt vs (.inr x)=none
 | _,_,.nil,h=>rfl
 | (k,d')::r,_,.cons (u:=u) hv e t,h=>by
  unfold atS at h
  by_cases hk:k=x
  ·rw [if_pos hk] at h
   cases h
  ·rw [if_neg hk] at h
   rw [<-KPs.none t h]
   have:¬ (Sum.inr k:Key)=Sum.inr x:=λq=>hk (Sum.inr.inj q)
   simp [valueAt,List.find?_cons,this]
theorem KPs.isSome {x:Str}{kvs:List (Str×D)}{vs:List (Key×Value)} (h:KPs kvs vs):(valueAt vs (.inr x)).isSome=(atS x kvs).isSome:=by
 cases e:atS x kvs with
 | none=>rw [h.none e];rfl
 | some d=>
  obtain⟨v,u,_,_,h3⟩:=h.some e
  rw [h3];rfl
noncomputable def KDc (K:PySem.W.Frag) (P:Program) (w:World) (p:Addr) (kvs:List (Str×D)):Prop:=(p==sysModules)=false/\∃ o vs,K.lookup p=some o/\Obj.IsDictOf (bD P w) o vs/\KPs kvs vs
section
variable {K:PySem.W.Frag}{X:Cx}{pins:List (Addr×Obj)}{σ:St}{H:Hp}{s:Shared}{p:Addr}{kvs:List (Str×D)}
theorem KDc.at (h:KDc X.K X.prog X.w p kvs) (I:Inv X pins σ H s):∃ vs,s.heap.DictOf (bD X.prog X.w) p vs/\KPs kvs vs:=by
 obtain⟨_,o,vs,hk,⟨es,ep,hd⟩,kp⟩:=h
 exact⟨vs,⟨o,es,ep,I.kIn p o hk,hd⟩,kp⟩
variable {pos p1:Pos}{a:Expr}{fa:Ef}{x:Str}
noncomputable def mH (kvs:List (Str×D)) (f:Ef):Ef
 | env,st=>(f env st).bind λr=>match r.1 with
 | .d (.str x)=>(atS x kvs).map λd=>(.d d,r.2)
 | _=>none
noncomputable def kK (k:Bool) (kvs:List (Str×D)) (f:Ef):Tf
 | env,st=>(f env st).bind λr=>match r.1 with
 | .d (.str x)=>some (k != (atS x kvs).isSome,r.2)
 | _=>none
noncomputable def tU (td ty:TE) (X:Cx) (p:Addr) (kvs:List (Str×D)):TE:=λσ H Q=>td σ H λx H1=>ty σ H1 λy H2=>∃ z d v,x=.ref p/\y=.str z/\KDc X.K X.prog X.w p kvs/\atS z kvs=some d/\iH d=some v/\Q v H2
noncomputable def ur (X:Cx) (p:Addr) (kvs:List (Str×D)):R2:=λx y H Q=>∃ z d v,x=.ref p/\y=.str z/\KDc X.K X.prog X.w p kvs/\atS z kvs=some d/\iH d=some v/\Q v H
theorem rB:IxR X (ur X p kvs):=by
 intro value slice pins s σ H x y v u Q I rx ry h hs
 obtain⟨z,d,v',rfl,rfl,g,hz,hv,q⟩:=h
 cases rx
 obtain⟨t,rfl⟩:=ry
 obtain⟨vs,dd,kp⟩:=g.at I
 obtain⟨v2,u',h1,h2,h3⟩:=kp.some hz
 rw [hv] at h1
 cases h1
 exact tail_any dd.typeIs PySem.F.slot_dict_getitem.lookup (wpAny_getItem_of (bG _ _ z t) dd.mapOf h3 ⟨_,H,I.tok _,h2,q⟩) hs
theorem qy {o i:Expr}{td ty:TE} (ho:PE X o td) (hi:PE X i ty) (hs:jW i):PE X (.Subscript o i pos) (tU td ty X p kvs):=qc rB ho hi hs
noncomputable def sg (X:Cx) (p:Addr) (kvs:List (Str×D)) (k:Bool):R2:=λx y H Q=>∃ z,x=.str z/\y=.ref p/\KDc X.K X.prog X.w p kvs/\Q (.bl (k != (atS z kvs).isSome)) H
theorem q9:OpR X (compareOp .In) (sg X p kvs false):=by
 intro pins s σ H x y v u Q I rx ry h
 obtain⟨z,rfl,rfl,g,q⟩:=h
 obtain⟨t,rfl⟩:=rx
 cases ry
 obtain⟨vs,dd,kp⟩:=g.at I
 refine wpAny_in_of (bG _ _ z t) g.1 dd.mapOf ?_
 refine⟨.bl _,H,I.tok _,?_,q⟩
 show Value.bool _=Value.bool _
 rw [kp.isSome,Bool.false_bne]
theorem nE (hg:Gl X x) (hm:X.mg x=some (.ref p)) (g:KDc X.K X.prog X.w p kvs) (ha:IE K X a fa) (hb:ip a=true:=by rfl) (hd:(x==("__debug__" : Str))=false:=by decide):IE K X (.Subscript (.Name x p1) a pos) (mH kvs fa):=by
 refine⟨λenv st r hr=>?_⟩
 simp only [mH,Option.bind_eq_some_iff] at hr
 obtain⟨⟨w,s1⟩,hx,hr⟩:=hr
 match w,hr with
 | .d (.str z),hr=>
  obtain⟨d,hz,rfl⟩:=Option.map_eq_some_iff.mp hr
  have hv:∃ v,iH d=some v:=by
   obtain⟨_,o,vs,_,_,kp⟩:=g
   obtain⟨v,u,h1,_⟩:=kp.some hz
   exact⟨v,h1⟩
  obtain⟨v,hv⟩:=hv
  refine (qy (p:=p) (kvs:=kvs) (jM (v:=.ref p) hg hm rfl hd) (ha.run _ _ _ hx) (ku hb)).imp ?_
  rintro σ H Q ⟨φ,hE,hS,q⟩
  refine⟨φ,hE,hS,λy H1 φ1 f1 S1 w1=>?_⟩
  exact⟨z,d,v,rfl,w1,g,hz,hv,q _ H1 φ1 f1 S1 (ml hv)⟩
theorem rn {k:Bool}{op:CmpOp} (ho:OpR X (compareOp op) (sg X p kvs k)) (hg:Gl X x) (hm:X.mg x=some (.ref p)) (g:KDc X.K X.prog X.w p kvs) (ha:IE K X a fa) (hd:(x==("__debug__" : Str))=false:=by decide) (hb:behindInMarks op (.Name x p1)=false:=by rfl) :
  IT K X (.Compare a [op] [.Name x p1] pos) (kK k kvs fa):=by
 refine⟨λenv st r hr=>?_⟩
 simp only [kK,Option.bind_eq_some_iff] at hr
 obtain⟨⟨w,s1⟩,hx,hr⟩:=hr
 match w,hr with
 | .d (.str z),hr=>
  cases hr
  refine (mm ho (ha.run _ _ _ hx) (jM (v:=.ref p) hg hm rfl hd) hb).imp ?_
  rintro σ H Q ⟨φ,hE,hS,q⟩
  refine⟨φ,hE,hS,λy H1 φ1 f1 S1 w1=>?_⟩
  have w1:y=.str z:=w1
  subst w1
  exact⟨z,rfl,rfl,g,_,rfl,q H1 φ1 f1 S1⟩
end
end L2
namespace L2
open PySem PySem.Spec PyProof.Rows
theorem lm (n:Nat) (d:Nat) (hd:d<=n) (o:Option Int):HT.sIx n d o<=n:=by
 cases o with
 | none=>exact hd
 | some i=>unfold HT.sIx;split<;>lia
noncomputable def mF (z:Str) (lo hi:Option Int):Str:=⟨((z.cps.toList.drop (HT.sIx z.length 0 lo)).take (HT.sIx z.length z.length hi - HT.sIx z.length 0 lo)).toArray⟩
theorem nZ (lo hi:Option Int) (n:Nat):Builtin.Str.strSliceIndices lo hi 1 n=sliceRange ((HT.sIx n 0 lo:Nat):Int) ((HT.sIx n n hi:Nat):Int) 1:=by
 unfold Builtin.Str.strSliceIndices
 dsimp only
 simp only [show (1:Int) > 0 by decide,if_true]
 congr 1
 ·cases lo with
  | none=>simp [HT.sIx]
  | some i=>
   simp only [HT.sIx]
   by_cases h:i < 0
   ·simp only [h,if_true]<;>lia
   ·simp only [h,if_false]<;>lia
 ·cases hi with
  | none=>simp [HT.sIx]
  | some i=>
   simp only [HT.sIx]
   by_cases h:i < 0
   ·simp only [h,if_true]<;>lia
   ·simp only [h,if_false]<;>lia
theorem mv (z:Str) (lo hi:Option Int):Txt.slice z lo hi=mF z lo hi:=by
 have h1:=lm z.length 0 (Nat.zero_le _) lo
 have h2:=lm z.length z.length (Nat.le_refl _) hi
 unfold Txt.slice mF
 rw [nZ,sliceRange_one]
 generalize HT.sIx z.length 0 lo=a at *
 generalize HT.sIx z.length z.length hi=b at *
 split
 ·rename_i hc
  have hl:b - a=z.length:=by simpa using hc
  have ha:a=0:=by lia
  subst ha
  have hz:z.length=z.cps.toList.length:=by simp [Str.length]
  rw [hl,hz,List.drop_zero,List.take_length]
 ·rw [pick_run]
noncomputable def t9:V->Option Int->Option Int->Hp->VK->Prop:=λx lo hi H Q=>∃ z,x=.str z/\z.length<=sizeLine/\Q (.str (mF z lo hi)) H
section
variable {K:PySem.W.Frag}{X:Cx}{pos p2:Pos}{a e:Expr}{f fa:Ef}{af:Af}
theorem qs:SlR X t9:=by
 intro pins s σ H x v vl vu lo hi sl Q I rx hs pl pu h
 obtain⟨z,rfl,hz,q⟩:=h
 obtain⟨t,rfl⟩:=rx
 refine⟨"str",_,PySem.F.slot_str_getitem.lookup,typeIs_str _ _ _,?_⟩
 have key:∀ (l u:Option (Int×Tok)),vl=partValue l->vu=partValue u->lo=l.map (·.1)->hi=u.map (·.1)->wpAny (model X.prog X.w) X.A (getItem (.str z t) (.ref sl)) (EP X pins σ Q) X.xe s:=by
  rintro l u rfl rfl rfl rfl
  rw [<-mv] at q
  exact wpAny_getItem_str_slice (l:=l) (u:=u) (st:=none) hs rfl (post_val_or_str ⟨Nat.le_trans (Txt.slice_le z _ _) hz,λt' k=>⟨.str _,H,I.tok k,⟨_,rfl⟩,q⟩⟩)
 cases pl with
 | none=>cases pu with
  | none=>exact key none none rfl rfl rfl rfl
  | int j u=>exact key none (some (j,u)) rfl rfl rfl rfl
 | int i t=>cases pu with
  | none=>exact key (some (i,t)) none rfl rfl rfl rfl
  | int j u=>exact key (some (i,t)) (some (j,u)) rfl rfl rfl rfl
noncomputable def jL (f:Ef) (lo hi:Pf):Ef
 | env,st=>(f env st).bind λx=>(lo env x.2).bind λl=>(hi env l.2).bind λu=>match x.1 with
 | .d (.str z)=>if z.length<=1000000 then some (.d (.str (mF z l.1 u.1)),u.2) else none
 | _=>none
theorem jG {lo hi:Option Expr}{fl fh:Pf} (h:IE K X e f) (hl:IO K X lo fl) (hh:IO K X hi fh) (hK:X.K=K:=by rfl):IE K X (.Subscript e (.Slice lo hi none p2) pos) (jL f fl fh):=by
 subst hK
 refine⟨λenv st r hr=>?_⟩
 simp only [jL,Option.bind_eq_some_iff] at hr
 obtain⟨⟨x,s1⟩,hx,l,hl',u,hu',hr⟩:=hr
 match x,hr with
 | .d (.str z),hr=>
  dsimp only at hr
  by_cases hz:z.length<=1000000
  case neg=>rw [if_neg hz] at hr;cases hr
  rw [if_pos hz] at hr
  cases hr
  refine (nl qs (h.run _ _ _ hx) (hl.run _ _ _ hl') (hh.run _ _ _ hu')).imp ?_
  rintro σ H Q ⟨φ,hE,hS,q⟩
  refine⟨φ,hE,hS,λv H1 φ1 f1 s1 w1=>⟨φ1,hE.fw hS f1,s1,λH2 φ2 f2 s2=>⟨φ2,(hE.fw hS f1).fw s1 f2,s2,λH3 φ3 f3 s3=>?_⟩⟩⟩
  exact⟨z,w1,by rw [sizeLine_eq];lia,q _ _ φ3 ((f1.trans f2).trans f3) s3 rfl⟩
noncomputable def iTm (g:Str->Str->Option D) (o:Ef) (a:Af):Ef
 | env,st=>(o env st).bind λx=>(a env x.2).bind λr=>match x.1,r.1 with
 | .d (.str s),[.d (.str t)]=>(g s t).map λd=>(.d d,r.2)
 | _,_=>none
noncomputable def rTm (g:Str->Str->Option D):V->List V->Hp->VK->Prop:=λx xs H Q=>∃ z y d v,x=.str z/\xs=[.str y]/\g z y=some d/\iH d=some v/\Q v H
theorem p8 {apos:Pos}{name:Str}{id:String}{g:Str->Str->Option D} (slot:Slot "str" name id) (hty:typeOf (.builtin id)=pure (.type "method_descriptor")) (hm:MtR X id (rTm g)) (hf:∀ x y d,g x y=some d->∃ v,iH d=some v)
  (ho:IE K X a fa) (ha:IA K X [e] af) (hbase:attributeBase a name X.env (eval a X.env)=eval a X.env:=by rfl)
  (hall:[e].all aR=true:=by rfl) (hline:(apos.endLine==pos.line)=true:=by rfl) (hK:X.K=K:=by rfl) :
  IE K X (.Call (.Attribute a name apos) [e] [] pos) (iTm g fa af):=by
 subst hK
 have hall2:aR e=true:=by rw [List.all_cons,Bool.and_eq_true] at hall;exact hall.1
 refine⟨λenv st r hr'=>?_⟩
 simp only [iTm,Option.bind_eq_some_iff] at hr'
 obtain⟨⟨x,s1⟩,hx,⟨ws,s2⟩,hw,hr'⟩:=hr'
 match x,ws,hr' with
 | .d (.str z),[.d (.str y)],hr'=>
  obtain⟨d,hd,rfl⟩:=Option.map_eq_some_iff.mp hr'
  obtain⟨v,hv⟩:=hf _ _ _ hd
  refine (nD PySem.F.plainAttrs_str slot hty hm (ho.run _ _ _ hx) (ha.run _ _ _ hw) hbase (ix hall (by show 1 < 30;decide)) hline (bR hall2) (cS rfl)).imp ?_
  rintro σ H Q ⟨φ,hE,hS,q⟩
  refine⟨φ,hE,hS,λv' H1 φ1 f1 S1 w1=>?_⟩
  have w1:v'=.str z:=w1
  subst w1
  refine⟨rfl,φ1,hE.fw hS f1,S1,λus H2 φ2 f2 S2 w2=>?_⟩
  obtain⟨y',us',rfl,ry,rfl⟩:=w2
  have ry:y'=.str y:=ry
  subst ry
  exact⟨z,y,d,v,rfl,rfl,hd,hv,q _ H2 φ2 (f1.trans f2) S2 (ml hv)⟩
noncomputable def jj (x y:Str):Option D:=some (.int (Txt.find x y))
theorem ma:MtR X "str.find" (rTm jj):=by
 intro pins s σ H x xs v us Q I rx rv h
 obtain⟨z,y,d,v',rfl,rfl,hd,hv,q⟩:=h
 cases hd
 cases hv
 obtain⟨t,rfl⟩:=rx
 obtain⟨u,rfl,ru⟩:=rv.one
 obtain⟨t2,rfl⟩:=ru
 exact call_gives PySem.F.slot_str_find (typeIs_str _ _ _) PySem.F.entry_str_find (PySem.F.args_str_find_2 _ _) (gives_str_find z y t t2) ⟨.int _,H,I.tok _,⟨_,rfl⟩,q⟩
theorem jh:∀ x y d,jj x y=some d->∃ v,iH d=some v:=λx y d h=>by cases h;exact⟨_,rfl⟩
noncomputable def d5 (st:Sto):List W->Option (List D)
 | [.d (.str x)]=>if x.cps.size<=1000000 then some (jm x) else none
 | _=>none
theorem kl {H:Hp}{φ:List Addr}:∀ (cs:List Nat),Rls K H φ (cs.map λc=>D.str (nc c)) (cs.map λc=>V.str (nc c))
 | []=>rfl
 | c::cs=>⟨_,_,rfl,rfl,kl cs⟩
theorem ic:∀ (cs:List Nat) (vs:List Value),vs.length=cs.length->(∀ (j:Nat) (v:Value),vs[j]?=some v->∃ c u,cs[j]?=some c/\v=.str ⟨#[c]⟩ u)->aC (cs.map λc=>V.str (nc c)) vs
 | [],[],_,_=>.nil
 | c::cs,v::vs,hl,h=>by
  obtain⟨c',u,hc,rfl⟩:=h 0 v rfl
  cases hc
  exact .cons ⟨u,rfl⟩ (ic cs vs (by simpa using hl) λj v' hj=>h (j+1) v' hj)
theorem kH {k:Nat} (hr:bO k X.A):pW K X (.type "list") d5:=by
 refine⟨λst ws d h=>?_⟩
 match ws,h with
 | [.d (.str x)],h=>
  dsimp only [d5] at h
  by_cases hl:x.cps.size<=1000000
  case neg=>rw [if_neg hl] at h;cases h
  rw [if_pos hl] at h
  cases h
  intro pins s σ H xs us Q I rv q
  obtain⟨φ,S,⟨v,r,rfl,r1,rfl⟩,q⟩:=q
  have r1:v=.str x:=r1
  subst r1
  obtain⟨u,rfl,t,rfl⟩:=fo rv
  refine call_list_str hr.hd x t (λh' tk acc c kp e hac=>?_) (by rw [sizeLine_eq];lia)
  have hv:aC (x.cps.toList.map λc=>V.str (nc c)) acc.toList:=ic _ _ (by rw [Array.length_toList,Array.length_toList,hac.1]) λj v hj=>by
   obtain⟨c,u,hc,e⟩:=hac.2 j v (by simpa using hj)
   exact⟨c,u,by simpa using hc,e⟩
  refine⟨.ref s.heap.objs.size,_,I.laid (t':=tk) kp (Nat.le_refl _) (show cw X.prog X.w _ h' _ (.lst (x.cps.toList.map λc=>V.str (nc c))) from ⟨by rw [List.length_map,Array.length_toList,sizeLine_eq];lia,acc.toList,c,hv,by simpa using e⟩),rfl,?_⟩
  exact q _ _ H (aL.refl H) (I.hok.fresh (Nat.le_refl _)) (kl _)
noncomputable def lA:Sf
 | _,_=>none
theorem eT {s:Stmt}:IS K X s lA:=⟨λenv st r hr=>by cases hr⟩
end
end L2
namespace L2
open PySem PySem.Spec PyProof.Rows
inductive EPs (w:World):List DictEntry->List (Str×D)->List (Key×Value)->Prop
 | nil:EPs w [] [] []
 | cons {x:Str}{t:Tok}{d:D}{v:V}{u:Value}{es:List DictEntry}{kvs:List (Str×D)}{vs:List (Key×Value)} (h:iH d=some v) (r:aP v u) (q:EPs w es kvs vs) :
   EPs w (⟨PyData.keyHash w.params x,.str x t,u⟩::es) ((x,d)::kvs) ((.inr x,u)::vs)
theorem EPs.kps {w:World}:∀ {es:List DictEntry}{kvs:List (Str×D)}{vs:List (Key×Value)},EPs w es kvs vs->KPs kvs vs
 | _,_,_,.nil=>.nil
 | _,_,_,.cons h r q=>.cons h r q.kps
theorem EPs.keys {P:Program}{w:World}:∀ {es:List DictEntry}{kvs:List (Str×D)}{vs:List (Key×Value)},EPs w es kvs vs->(∀ e ∈ es,∃ k,(bD P w).is k e.key=true/\e.hash=(bD P w).hash k)/\Pairs (bD P w) es vs/\vs.map (·.1)=kvs.map λkv=>Sum.inr kv.1
 | _,_,_,.nil=>⟨λe he=>(nomatch he),.nil,rfl⟩
 | _,_,_,.cons (x:=x) (t:=t) h r q=>by
  obtain⟨h1,h2,h3⟩:=q.keys (P:=P)
  refine⟨λe he=>?_,.cons (bG P w x t) rfl h2,by rw [List.map_cons,List.map_cons,h3]⟩
  rcases List.mem_cons.mp he with rfl | he
  ·exact⟨.inr x,bG P w x t,rfl⟩
  ·exact h1 e he
theorem kdc_mk {P:Program}{w:World}{es:List DictEntry}{ep:Nat}{kvs:List (Str×D)}{vs:List (Key×Value)} (h:EPs w es kvs vs) (hn:(kvs.map (·.1)).Nodup) :
  ∃ vs,Obj.IsDictOf (bD P w) { cls:=.type "dict",data:=.dict es.toArray ep } vs/\KPs kvs vs:=by
 obtain⟨h1,h2,h3⟩:=h.keys (P:=P)
 refine⟨vs,⟨es.toArray,ep,⟨rfl,rfl,rfl⟩,rfl,λe he=>h1 e (by simpa using he),h2,?_⟩,h.kps⟩
 rw [h3]
 have:(kvs.map λkv=>(Sum.inr kv.1:Key))=(kvs.map (·.1)).map Sum.inr:=by rw [List.map_map];rfl
 rw [this]
 rw [List.nodup_iff_pairwise_ne,List.pairwise_map]
 exact (List.nodup_iff_pairwise_ne.mp hn).imp λh e=>h (Sum.inr.inj e)
end L2
namespace L2
open PySem PySem.Spec PyProof.Rows
theorem qQ (a b c:Value):merged [] [((Sum.inr "all" : Key),a),(Sum.inr "any",b),(Sum.inr "odd",c)]=[((Sum.inr "all" : Key),a),(Sum.inr "any",b),(Sum.inr "odd",c)]:=by
 have m12:¬ (Sum.inr ("all" : Str):Key)=Sum.inr ("any" : Str):=by decide
 have m13:¬ (Sum.inr ("all" : Str):Key)=Sum.inr ("odd" : Str):=by decide
 have m23:¬ (Sum.inr ("any" : Str):Key)=Sum.inr ("odd" : Str):=by decide
 simp [merged,stored,m12,m13,m23]
theorem tV (a b c:Value) (z:Str):valueAt [((Sum.inr "all" : Key),a),(Sum.inr "any",b),(Sum.inr "odd",c)] (Sum.inr z)=if z = "all" then some a else if z = "any" then some b else if z = "odd" then some c else none:=by
 have n:∀ k:Str,(decide ((Sum.inr k:Key)=Sum.inr z))=decide (z=k):=λk=>by
  by_cases e:z=k
  ·subst e;simp
  ·have:¬ (Sum.inr k:Key)=Sum.inr z:=λq=>e (Sum.inr.inj q).symm
   simp [e,this]
 simp only [valueAt,List.find?_cons,n,List.find?_nil]
 by_cases e1:z = "all"
 ·rw [if_pos e1,decide_eq_true e1];rfl
 rw [if_neg e1,decide_eq_false e1]
 by_cases e2:z = "any"
 ·rw [if_pos e2,decide_eq_true e2];rfl
 rw [if_neg e2,decide_eq_false e2]
 by_cases e3:z = "odd"
 ·rw [if_pos e3,decide_eq_true e3];rfl
 rw [if_neg e3,decide_eq_false e3];rfl
section
variable {X:Cx}{e d:Expr}{ty td:TE}{p1 p2 p3 p4 p5 p6 dpos apos cpos:Pos}{j1 j2 j3 j4 j5 j6:Nat}
noncomputable def tE (ty td:TE):TE:=λσ H Q=>ty σ H λy H1=>∃ z,y=.str z/\td σ H1 λu H2=>
 (z = "all"->Q (.str "&") H2)/\(z = "any"->Q (.str "|") H2)/\(z = "odd"->Q (.str "^") H2)/\(z≠"all"->z≠"any"->z≠"odd"->Q u H2)
set_option maxHeartbeats 2000000 in
theorem pr {D:Expr} (he:PE X e ty) (hd':PE X d td) (hD:D=.Dict [some (.Constant (.str "all") j1 p1),some (.Constant (.str "any") j2 p2),some (.Constant (.str "odd") j3 p3)] [.Constant (.str "&") j4 p4,.Constant (.str "|") j5 p5,.Constant (.str "^") j6 p6] dpos:=by rfl)
  (base:attributeBase D "get" X.env (eval D X.env)=eval D X.env:=by rfl)
  (few:((backTo cpos (starEach [e,d] X.env)).all (λx=>!x.1) && (backToKw cpos (keywordEach [] X.env)).all (λx=>x.1.isSome)
    && decide (([e,d]:List Expr).length+([]:List Keyword).length+(if ([]:List Keyword).isEmpty then 0 else 1) < 30))=true:=by rfl)
  (line:(apos.endLine==cpos.line)=true:=by rfl) (trees:backTo cpos (starEach [e,d] X.env)=[(false,eval e X.env),(false,eval d X.env)]:=by rfl) :
  PE X (.Call (.Attribute D "get" apos) [e,d] [] cpos) (tE ty td):=by
 intro pins s σ H Q I h
 refine wpAny_Call_method base few line PySem.F.plainAttrs_dict PySem.F.slot_dict_get PySem.F.type_dict_get ?_
 rw [hD]
 refine wpAny_Dict_walk (knd:=bD X.prog X.w) rfl rfl (by simp) (by simp) ?_
 refine pairTrees_cons_walk (Calls.Constant_str (Calls.Constant_str ?_))
 refine pairTrees_cons_walk (Calls.Constant_str (Calls.Constant_str ?_))
 refine pairTrees_cons_walk (Calls.Constant_str (Calls.Constant_str (pairTrees_nil_walk ?_)))
 refine⟨[(.inr "all",_),(.inr "any",_),(.inr "odd",_)],⟨bG _ _ _ _,rfl,bG _ _ _ _,rfl,bG _ _ _ _,rfl,trivial⟩,Heap.DictOf.new s.heap,λh' dd hs=>?_⟩
 have hdn:(s.heap.objs.size==sysModules)=false:=beq_eq_false_iff_ne.mpr (Ne.symm (Nat.ne_of_lt I.bigG))
 have hk:∀ b o,s.heap.get? b=some o->h'.get? b=some o:=λb o q=>(hs.2 b (Nat.ne_of_lt (Heap.lt_size q))).trans (Heap.get?_push_of_some _ q)
 rw [qQ] at dd
 obtain⟨ta,tb,tc,dd⟩:∃ ta tb tc,h'.DictOf (bD X.prog X.w) s.heap.objs.size [((Sum.inr "all" : Key),.str "&" ta),(Sum.inr "any",.str "|" tb),(Sum.inr "odd",.str "^" tc)]:=⟨_,_,_,dd⟩
 obtain⟨o,es,ep,ho,hc,hd,hr⟩:=id dd
 refine⟨dd.typeIs,λb q=>?_,?_⟩
 ·cases q
  exact⟨o,ho,hc.2.1⟩
 rw [trees]
 generalize hs2:({ s with heap:=h',toks:=_ }:Shared)=s2
 have I2:Inv X pins σ H s2:=by rw [<-hs2];exact I.kept hk
 have h2:s2.heap=h':=by rw [<-hs2]
 have I3:Inv X (pins++[(s.heap.objs.size,o)]) σ H s2:=I2.pins_of λp hp=>by
  rcases List.mem_append.mp hp with z | z
  ·exact I2.pin p (List.mem_append_right _ z)
  ·have:=List.mem_singleton.mp z
   subst this
   exact⟨by rw [h2];exact ho,I.hok.fresh (Nat.le_refl _),Nat.ne_of_gt I.lt,I.nofs (Nat.le_refl _),λv q=>by rw [hd] at q;cases q⟩
 refine Calls.callWith_builtin rfl (Calls.evalArgs_plain (Calls.spliced_cons (thn (he _ s2 σ H _ I3 h) λiv s4 ⟨y,H4,I4,ry,z,ez,q4⟩=>?_)))
 refine Calls.spliced_cons (thn (hd' _ s4 σ H4 _ I4 q4) λuv s5 ⟨u,H5,I5,ru,q1,q2,q3,q0⟩=>Calls.spliced_nil ?_)
 subst ez
 obtain⟨t,rfl⟩:=ry
 have pD:=(I5.pin (s.heap.objs.size,o) (List.mem_append_right _ (List.mem_append_right _ List.mem_cons_self))).1
 have dd5:s5.heap.DictOf (bD X.prog X.w) s.heap.objs.size _:=⟨o,es,ep,pD,hc,hd,hr⟩
 have I5':Inv X pins σ H5 s5:=I5.unpinned
 refine call_meetsIn PySem.F.slot_dict_get dd5.typeIs PySem.F.entry_dict_get (PySem.F.args_dict_get_3 _ _ _) (meets_dict_get_default (bD X.prog X.w) (k:=.inr z) s.heap.objs.size (bG _ _ _ _) hdn _) ⟨_,dd5.mapOf,?_⟩
 rw [tV]
 by_cases e1:z = "all"
 ·rw [if_pos e1]
  exact⟨.str "&",H5,I5'.tok _,⟨_,rfl⟩,q1 e1⟩
 rw [if_neg e1]
 by_cases e2:z = "any"
 ·rw [if_pos e2]
  exact⟨.str "|",H5,I5'.tok _,⟨_,rfl⟩,q2 e2⟩
 rw [if_neg e2]
 by_cases e3:z = "odd"
 ·rw [if_pos e3]
  exact⟨.str "^",H5,I5'.tok _,⟨_,rfl⟩,q3 e3⟩
 rw [if_neg e3]
 exact⟨u,H5,I5'.tok _,ru,q0 e1 e2 e3⟩
end
section
variable {K:PySem.W.Frag}{X:Cx}{e d:Expr}{f g:Ef}
noncomputable def atT (x:Str):List (Str×Str)->Option Str
 | []=>none
 | (k,d)::r=>if k=x then some d else atT x r
noncomputable def iz (kvs:List (Str×Str)) (a b:Ef):Ef
 | env,st=>(a env st).bind λx=>(b env x.2).bind λy=>match x.1 with
 | .d (.str z)=>some (match atT z kvs with | some v=>.d (.str v) | none=>y.1,y.2)
 | _=>none
theorem oV {p1 p2 p3 p4 p5 p6 dpos apos cpos:Pos}{j1 j2 j3 j4 j5 j6:Nat}{D':Expr} (he:IE K X e f) (hd:IE K X d g) (hD:D'=.Dict [some (.Constant (.str "all") j1 p1),some (.Constant (.str "any") j2 p2),some (.Constant (.str "odd") j3 p3)] [.Constant (.str "&") j4 p4,.Constant (.str "|") j5 p5,.Constant (.str "^") j6 p6] dpos:=by rfl)
  (base:attributeBase D' "get" X.env (eval D' X.env)=eval D' X.env:=by rfl)
  (few:((backTo cpos (starEach [e,d] X.env)).all (λx=>!x.1) && (backToKw cpos (keywordEach [] X.env)).all (λx=>x.1.isSome)
    && decide (([e,d]:List Expr).length+([]:List Keyword).length+(if ([]:List Keyword).isEmpty then 0 else 1) < 30))=true:=by rfl)
  (line:(apos.endLine==cpos.line)=true:=by rfl) (trees:backTo cpos (starEach [e,d] X.env)=[(false,eval e X.env),(false,eval d X.env)]:=by rfl) :
  IE K X (.Call (.Attribute D' "get" apos) [e,d] [] cpos) (iz [("all","&"),("any","|"),("odd","^")] f g):=by
 refine⟨λenv st r hr=>?_⟩
 simp only [iz,Option.bind_eq_some_iff] at hr
 obtain⟨⟨x,s1⟩,hx,⟨y,s2⟩,hy,hr⟩:=hr
 match x,hr with
 | .d (.str z),hr=>
  refine (pr (he.run _ _ _ hx) (hd.run _ _ _ hy) hD base few line trees).imp ?_
  rintro σ H Q ⟨φ,hE,hS,q⟩
  refine⟨φ,hE,hS,λv H1 φ1 f1 S1 w1=>?_⟩
  have w1:v=.str z:=w1
  refine⟨z,w1,φ1,hE.fw hS f1,S1,λu H2 φ2 f2 S2 w2=>⟨λez=>?_,λez=>?_,λez=>?_,λh1 h2 h3=>?_⟩⟩
  ·subst ez;cases hr;exact q _ H2 φ2 (f1.trans f2) S2 rfl
  ·subst ez;cases hr;exact q _ H2 φ2 (f1.trans f2) S2 rfl
  ·subst ez;cases hr;exact q _ H2 φ2 (f1.trans f2) S2 rfl
  ·have ea:atT z [("all","&"),("any","|"),("odd","^")]=none:=by
    simp only [atT,if_neg (Ne.symm h1),if_neg (Ne.symm h2),if_neg (Ne.symm h3)]
   dsimp only at hr
   rw [ea] at hr
   cases hr
   exact q _ H2 φ2 (f1.trans f2) S2 w2
end
end L2
namespace Own
open PySem L2
noncomputable def fm (self:Fn):Ef:=(am self (ab (iV 0) ai))
noncomputable def cY (self:Fn):Sf:=(aj (aH (aB dEq (iOp dIx (iV 0) (iC (.int 0))) (iC (.str "switch"))) (ax (iOp dIx (iC (.str "abcdef")) (iOp dIx (iV 0) (iC (.int 1))))) ao) (aj (aH (aB dEq (iOp dIx (iV 0) (iC (.int 0))) (iC (.str "not"))) (ax (iOp bf (iC (.str "!")) (am self (ab (iOp dIx (iV 0) (iC (.int 1))) ai)))) ao) (aj (aT (.nm 1) (lM (aB dEq (iOp dIx (iV 0) (iC (.int 0))) (iC (.str "least"))) (iCB iM (ab (iOp dIx (iV 0) (iC (.int 1))) ai)) (mH [("all",(.str "&")),("any",(.str "|")),("odd",(.str "^"))] (iOp dIx (iV 0) (iC (.int 0)))))) (ax (iOp bf (iOp bf (iOp bf (iV 1) (iC (.str "("))) (ie (iC (.str " ")) (ab (bh (iLc 1 [] (cO (iOp dIx (iV 0) (iUn e7 (iC (.int 1))))) (.nm 0) iI (fm self))) ai))) (iC (.str ")")))))))
noncomputable def aY:Nat->Fn
 | 0=>λ_ _=>none
 | n+1=>bj 2 1 (cY (aY n))
noncomputable def d3:Sf:=(ax (cT (iCB eu (ab (iV 0) (ab (iC (.ty "int")) ai))) (mi (iCB eu (ab (iV 0) (ab (iC (.ty "bool")) ai))))))
noncomputable def fB:Fn:=bj 1 1 d3
noncomputable def dI:Sf:=(ax (cT (am fB (ab (iV 0) ai)) (jN dLe dLe (iV 1) (iV 0) (iV 2))))
noncomputable def db:Fn:=bj 3 3 dI
noncomputable def bU:Sf:=(ax (cT (iCB eu (ab (iV 0) (ab (iC (.ty "tuple")) ai))) (iOp dLe (iCB cM (ab (iV 0) ai)) (iC (.int 6)))))
noncomputable def bw:Fn:=bj 1 1 bU
noncomputable def bK:Sf:=(aj (aH (aB dEq (iV 1) (iC (.str "switch"))) (ax (am db (ab (iOp dIx (iV 0) (iC (.int 1))) (ab (iC (.int 0)) (ab (iC (.int 5)) ai))))) ao) (aj (aH (aB dEq (iV 1) (iC (.str "not"))) (ax (iC (.bl true))) ao) (ax (cT (iOp dIn (iV 1) (aw (ab (iC (.str "all")) (ab (iC (.str "any")) (ab (iC (.str "odd")) ai))))) (am bw (ab (iOp dIx (iV 0) (iC (.int 1))) ai))))))
noncomputable def bH:Sf:=(aj (aH (cI (cb (dz dE (iCB eu (ab (iV 0) (ab (iC (.ty "tuple")) ai))))) (cI (aB dA (iCB cM (ab (iV 0) ai)) (aw (ab (iC (.int 2)) (ab (iC (.int 3)) ai)))) (cb (dz dE (iCB eu (ab (iOp dIx (iV 0) (iC (.int 0))) (ab (iC (.ty "str")) ai))))))) (ax (iC (.bl false))) ao) (aj (aT (.nm 1) (iOp dIx (iV 0) (iC (.int 0)))) (aj (aH (aB dEq (iV 1) (iC (.str "least"))) (ax (cT (iOp dEq (iCB cM (ab (iV 0) ai)) (iC (.int 3))) (cT (am db (ab (iOp dIx (iV 0) (iC (.int 1))) (ab (iC (.int 0)) (ab (iC (.int 9)) ai)))) (am bw (ab (iOp dIx (iV 0) (iC (.int 2))) ai))))) ao) (aj (aH (aB dNe (iCB cM (ab (iV 0) ai)) (iC (.int 2))) (ax (iC (.bl false))) ao) bK))))
noncomputable def bI:Fn:=bj 2 1 bH
noncomputable def bL:Sf:=(aj (aH (aB dEq (iOp dIx (iV 0) (iC (.int 0))) (iC (.str "switch"))) (ax (aw ai)) ao) (aj (aH (aB dEq (iOp dIx (iV 0) (iC (.int 0))) (iC (.str "not"))) (ax (aw (ab (iOp dIx (iV 0) (iC (.int 1))) ai))) ao) (ax (iOp dIx (iV 0) (iUn e7 (iC (.int 1)))))))
noncomputable def br:Fn:=bj 1 1 bL
noncomputable def cE (self:Fn):Sf:=(aj (aT (.nm 4) (am self (ab (iV 3) (ab (iOp dF (iV 1) (iC (.int 1))) ai)))) (aj (aH (aB qB (iV 4) (iC .non)) (ax (iC .non)) ao) (aT (.nm 2) (iOp bf (iV 2) (iV 4)))))
noncomputable def cH (self:Fn):Sf:=(aj (aH (cI (aB dEq (iV 1) (iC (.int 0))) (cb (dz dE (am bI (ab (iV 0) ai))))) (ax (iC .non)) ao) (aj (aT (.nm 2) (iC (.int 1))) (aj (fe (cO (am br (ab (iV 0) ai))) (.nm 3) (cE self)) (ax (iV 2)))))
noncomputable def bu:Nat->Fn
 | 0=>λ_ _=>none
 | n+1=>bj 5 2 (cH (bu n))
noncomputable def eX:Sf:=(aj (aT (.nm 1) (am (bu 7) (ab (iV 0) (ab (iC (.int 6)) ai)))) (ax (cT (iOp no (iV 1) (iC .non)) (iOp dLe (iV 1) (iC (.int 40))))))
noncomputable def dq:Fn:=bj 2 1 eX
noncomputable def eV:Sf:=(aj (aH (kK false [("&",(.str "all")),("|",(.str "any")),("^",(.str "odd"))] (iV 0)) (ax (aw (ab (mH [("&",(.str "all")),("|",(.str "any")),("^",(.str "odd"))] (iV 0)) ai))) ao) (aj (aH (aB dIn (iV 0) (bh (iCL d5 (ab (iC (.str "0123456789")) ai)))) (ax (aw (ab (iC (.str "least")) (ab (iTm jj (iC (.str "0123456789")) (ab (iV 0) ai)) ai)))) ao) lA))
noncomputable def gw:Fn:=bj 1 1 eV
noncomputable def cA (self:Fn):Tf:=(aB dNe (iV 3) (iC (.str ")")))
noncomputable def dH (self:Fn):Sf:=(aj (aT (.nm 5) (am self (ab (iV 0) (ab (iOp bf (iV 1) (iC (.int 1))) (ab (iV 2) ai))))) (aj (gF (fR dj (iV 4) (ab (iOp dIx (iV 5) (iC (.int 0))) ai))) (aj (aT (.nm 1) (iOp dIx (iV 5) (iC (.int 1)))) (aj (aT (.nm 3) (jL (iV 0) (iPs (iV 1)) (iPs (iOp bf (iV 1) (iC (.int 1)))))) (aH (aB dA (iV 3) (aw (ab (iC (.str " ")) (ab (iC (.str ")")) ai)))) lA ao)))))
noncomputable def cN (self:Fn):Sf:=(aj (aH (aB dEq (jL (iV 0) (iPs (iV 1)) (iPs (iOp bf (iV 1) (iC (.int 2))))) (iC (.str "()"))) (ax (aw (ab (aw ai) (ab (iOp bf (iV 1) (iC (.int 2))) ai)))) ao) (aj (aT (.nm 3) (jL (iV 0) (iPs (iV 1)) (iPs (iOp bf (iV 1) (iC (.int 1)))))) (aj (aH (aB dNe (iV 3) (iC (.str "("))) lA ao) (aj (aT (.nm 4) (fI (cQ ai))) (aj (oz 9 (cA self) (dH self)) (ax (aw (ab (iCB iU (ab (iV 4) ai)) (ab (iOp bf (iV 1) (iC (.int 1))) ai)))))))))
noncomputable def dk (self:Fn):Fn:=dB 6 3 (cN self)
noncomputable def iW (self:Fn):Sf:=(aj (aT (.nm 5) (am gw (ab (iV 3) ai))) (aj (aT (.nm 4) (am (dk self) (ab (iV 0) (ab (iOp bf (iV 1) (iC (.int 1))) (ab (iOp dF (iV 2) (iC (.int 1))) ai))))) (ax (aw (ab (iOp bf (iV 5) (aw (ab (iOp dIx (iV 4) (iC (.int 0))) ai))) (ab (iOp dIx (iV 4) (iC (.int 1))) ai))))))
noncomputable def cG (self:Fn):Sf:=(aj (aH (aB dEq (iV 2) (iC (.int 0))) lA ao) (aj (aT (.nm 3) (jL (iV 0) (iPs (iV 1)) (iPs (iOp bf (iV 1) (iC (.int 1)))))) (aj (aH (aB dIn (iV 3) (bh (iCL d5 (ab (iC (.str "abcdef")) ai)))) (ax (aw (ab (aw (ab (iC (.str "switch")) (ab (iTm jj (iC (.str "abcdef")) (ab (iV 3) ai)) ai))) (ab (iOp bf (iV 1) (iC (.int 1))) ai)))) ao) (aj (aH (aB dEq (iV 3) (iC (.str "!"))) (aj (aT (.nm 4) (am self (ab (iV 0) (ab (iOp bf (iV 1) (iC (.int 1))) (ab (iOp dF (iV 2) (iC (.int 1))) ai))))) (ax (aw (ab (aw (ab (iC (.str "not")) (ab (iOp dIx (iV 4) (iC (.int 0))) ai))) (ab (iOp dIx (iV 4) (iC (.int 1))) ai))))) ao) (iW self)))))
noncomputable def bn:Nat->Fn
 | 0=>λ_ _=>none
 | n+1=>bj 6 3 (cG (bn n))
noncomputable def dP:Sf:=(aj (aH (cb (dz dE (iCB eu (ab (iV 0) (ab (iC (.ty "str")) ai))))) lA ao) (aj (aT (.nm 1) (am (bn 7) (ab (iV 0) (ab (iC (.int 0)) (ab (iC (.int 6)) ai))))) (aj (aH (cI (aB dNe (iOp dIx (iV 1) (iC (.int 1))) (iCB cM (ab (iV 0) ai))) (cb (dz dE (am dq (ab (iOp dIx (iV 1) (iC (.int 0))) ai))))) lA ao) (ax (iOp dIx (iV 1) (iC (.int 0)))))))
noncomputable def dM:Fn:=bj 2 1 dP
noncomputable def da:Sf:=(aj (aT (.nm 2) (iC (.int 0))) (aj (aH (aB dLt (iV 1) (iCB cM (ab (iV 0) ai))) (aT (.nm 2) (iOp dIx (iV 0) (iV 1))) ao) (aj (aT (.nm 3) (iOp eK (iOp eK (iOp eK (iOp jp (iC (.int 10)) (iC (.int 60))) (iOp jp (iC (.int 10)) (iC (.int 60)))) (iOp jp (iC (.int 10)) (iC (.int 60)))) (iOp jp (iC (.int 10)) (iC (.int 60))))) (aj (aT (.nm 4) (iOp fU (iOp eK (iOp bf (iOp bf (iOp fU (iV 2) (iC (.int 2147483629))) (iOp eK (iC (.int 7919)) (iV 1))) (iC (.int 11))) (iC (.int 48271))) (iC (.int 2147483647)))) (ax (fI (cQ (ab (iOp eK (iOp fU (iCB nW (ab (iV 2) ai)) (iV 3)) (iCB pK (ab (iOp dGe (iCB nW (ab (iV 2) ai)) (iOp jp (iC (.int 10)) (iC (.int 18)))) ai))) (ab (iV 4) (ab (iC (.int 0)) ai))))))))))
noncomputable def dc:Fn:=bj 5 2 da
noncomputable def cX:Sf:=(aj (aH (aB dGt (iOp dIx (iV 0) (iC (.int 0))) (iC (.int 0))) (aj (aT (.nm 2) (iOp fU (iOp dIx (iV 0) (iC (.int 0))) (iV 1))) (aj (cv (iV 0) (iC (.int 0)) (iOp eM (iOp dIx (iV 0) (iC (.int 0))) (iV 1))) (ax (iV 2)))) ao) (aj (cv (iV 0) (iC (.int 2)) (iOp bf (iOp dIx (iV 0) (iC (.int 2))) (iC (.int 1)))) (aj (cv (iV 0) (iC (.int 1)) (iOp fU (iOp bf (iOp bf (iOp eK (iOp dIx (iV 0) (iC (.int 1))) (iC (.int 39373))) (iC (.int 12345))) (iOp eK (iC (.int 31)) (iOp dIx (iV 0) (iC (.int 2))))) (iC (.int 2147483647)))) (ax (iOp fU (iOp eM (iOp fU (iOp eK (iOp dIx (iV 0) (iC (.int 1))) (iOp bf (iOp fU (iOp dIx (iV 0) (iC (.int 1))) (iC (.int 40009))) (iC (.int 3)))) (iC (.int 2147483629))) (iC (.int 64))) (iV 1))))))
noncomputable def aI:Fn:=bj 3 2 cX
noncomputable def dJ:Sf:=(ax (iOp dIx (iV 1) (am aI (ab (iV 0) (ab (iCB cM (ab (iV 1) ai)) ai)))))
noncomputable def dL:Fn:=bj 2 2 dJ
noncomputable def cy (self:Fn):Sf:=(ax (aw (ab (iV 7) (ab (iCB iU (ab (iV 5) ai)) ai))))
noncomputable def bS (self:Fn):Sf:=(aH (aB dGt (iOp dIx (iV 1) (iC (.int 0))) (iC (.int 0))) (gF (fR dj (iV 5) (ab (am self (ab (iV 0) (ab (iV 1) (ab (iOp dF (iV 2) (iC (.int 1))) (ab (iV 3) ai))))) ai))) ao)
noncomputable def bB (self:Fn):Sf:=(aj (aT (.nm 5) (fI (cQ ai))) (aj (fe (df (ab (am aI (ab (iV 0) (ab (iOp dIx (bh (cQ (ab (iC (.int 4)) (ab (iC (.int 4)) (ab (iC (.int 4)) (ab (iC (.int 7)) ai)))))) (am aI (ab (iV 0) (ab (iC (.int 4)) ai)))) ai))) ai)) (.nm 6) (bS self)) (aj (aT (.nm 7) (iOp dIx (bh (cQ (ab (iC (.str "all")) (ab (iC (.str "any")) (ab (iC (.str "odd")) (ab (iC (.str "least")) (ab (iC (.str "all")) (ab (iC (.str "any")) ai)))))))) (iOp dF (iV 4) (iC (.int 2))))) (aj (aH (aB dEq (iV 7) (iC (.str "least"))) (ax (aw (ab (iV 7) (ab (am aI (ab (iV 0) (ab (iOp dIx (bh (cQ (ab (iOp bf (iCB cM (ab (iV 5) ai)) (iC (.int 2))) (ab (iC (.int 10)) ai)))) (iOp eM (am aI (ab (iV 0) (ab (iC (.int 4)) ai))) (iC (.int 3)))) ai))) (ab (iCB iU (ab (iV 5) ai)) ai))))) ao) (cy self)))))
noncomputable def aG (self:Fn):Sf:=(aj (cv (iV 1) (iC (.int 0)) (iOp dF (iOp dIx (iV 1) (iC (.int 0))) (iC (.int 1)))) (aj (aT (.nm 4) (am aI (ab (iV 0) (ab (iC (.int 8)) ai)))) (aj (aH (cI (aB dLt (iV 2) (iC (.int 2))) (cI (aB dLt (iOp dIx (iV 1) (iC (.int 0))) (iC (.int 1))) (aB dEq (iV 4) (iC (.int 0))))) (aj (aH (cI (aB dEq (iV 3) (iC (.int 0))) (aB dEq (iV 4) (iC (.int 3)))) (ax (am dL (ab (iV 0) (ab (bh (cQ (ab (aw (ab (iC (.str "all")) (ab (aw ai) ai))) (ab (aw (ab (iC (.str "any")) (ab (aw ai) ai))) (ab (aw (ab (iC (.str "odd")) (ab (aw ai) ai))) (ab (aw (ab (iC (.str "least")) (ab (am aI (ab (iV 0) (ab (iC (.int 10)) ai))) (ab (aw ai) ai)))) ai)))))) ai)))) ao) (ax (aw (ab (iC (.str "switch")) (ab (am aI (ab (iV 0) (ab (iV 3) ai))) ai))))) ao) (aj (aH (aB dEq (iV 4) (iC (.int 1))) (ax (aw (ab (iC (.str "not")) (ab (am self (ab (iV 0) (ab (iV 1) (ab (iOp dF (iV 2) (iC (.int 1))) (ab (iV 3) ai))))) ai)))) ao) (bB self)))))
noncomputable def av:Nat->Fn
 | 0=>λ_ _=>none
 | n+1=>dB 8 4 (aG (av n))
noncomputable def dY (self:Fn):Ef:=(am self (ab (iV 0) ai))
noncomputable def bX (self:Fn):Sf:=(aj (aH (aB dEq (iOp dIx (iV 0) (iC (.int 0))) (iC (.str "switch"))) (ax (iOp dIx (iC (.str "abcdef")) (iOp dIx (iV 0) (iC (.int 1))))) ao) (aj (aH (aB dEq (iOp dIx (iV 0) (iC (.int 0))) (iC (.str "not"))) (ax (iOp bf (iC (.str "!")) (am self (ab (iOp dIx (iV 0) (iC (.int 1))) ai)))) ao) (aj (aT (.nm 1) (iz [("all","&"),("any","|"),("odd","^")] (iOp dIx (iV 0) (iC (.int 0))) (iCB iM (ab (iOp dIx (iV 0) (iC (.int 1))) ai)))) (ax (iOp bf (iOp bf (iOp bf (iV 1) (iC (.str "("))) (ie (iC (.str " ")) (ab (bh (iLc 1 [] (cO (iOp dIx (iV 0) (iUn e7 (iC (.int 1))))) (.nm 0) iI (dY self))) ai))) (iC (.str ")")))))))
noncomputable def aK:Nat->Fn
 | 0=>λ_ _=>none
 | n+1=>bj 2 1 (bX (aK n))
noncomputable def cZ:Sf:=(ax (iOp dEq (iCB gq (ab (iV 0) ai)) (iCB gq (ab (iV 1) ai))))
noncomputable def bA:Fn:=bj 2 2 cZ
noncomputable def gN:Sf:=(aH (cI (cb (dz dE (am bA (ab (am (aY 7) (ab (iV 4) ai)) (ab (iV 5) ai))))) (cb (dz dE (am bA (ab (am dM (ab (iV 5) ai)) (ab (iV 4) ai)))))) (ax (iC (.bl false))) ao)
noncomputable def jQ:Sf:=(aj (aT (.nm 4) (am (av 7) (ab (iV 2) (ab (fI (cQ (ab (iOp dIx (bh (cQ (ab (iC (.int 30)) (ab (iC (.int 12)) (ab (iC (.int 4)) ai))))) (iV 3)) ai))) (ab (iOp bf (iC (.int 1)) (am aI (ab (iV 2) (ab (iC (.int 6)) ai)))) (ab (iC (.int 6)) ai)))))) (aj (aT (.nm 5) (am (aK 7) (ab (iV 4) ai))) (fe (df (ab (iC (.int 2)) ai)) (.nm 6) gN)))
noncomputable def j9:Sf:=(aj (aT (.nm 2) (am dc (ab (iV 0) (ab (iV 1) ai)))) (fe (df (ab (iC (.int 3)) ai)) (.nm 3) jQ))
noncomputable def me:Sf:=(aj (fe (df (ab (iOp bf (iC (.int 1)) (iCB rX (ab (iC (.int 10)) (ab (iCB cM (ab (iV 0) ai)) ai)))) ai)) (.nm 1) j9) (ax (iC (.bl true))))
noncomputable def kX:Fn:=dB 7 1 me
end Own
section
set_option maxHeartbeats 2000000
namespace Own
open PySem L2
noncomputable def top (i:Nat):Stmt:=PySem.Challenge.pw_signpoly_k77_rules_written.main.body.getD i (.Pass ⟨0,0,0,0⟩)
abbrev bo:Stmt:=top 3
abbrev cC:Stmt:=top 9
abbrev ci:Stmt:=top 10
abbrev aV:Stmt:=top 16
abbrev cB:Stmt:=top 17
abbrev cD:Stmt:=top 18
abbrev cq:Stmt:=top 19
abbrev cW:Stmt:=top 20
abbrev cV:Stmt:=top 24
abbrev bM:Stmt:=top 25
abbrev cc:Stmt:=top 26
abbrev bZ:Stmt:=top 27
abbrev bY:Stmt:=top 29
abbrev ce:Stmt:=top 30
abbrev cf:Stmt:=top 31
abbrev bv:Stmt:=top 32
abbrev aQ:Stmt:=top 33
abbrev ck:Stmt:=top 34
abbrev hC:Stmt:=top 35
theorem gg:aS ["rule","ahead"] ["rule"] (ah bo):=⟨rfl,rfl,rfl,by decide +kernel,rfl,by decide +kernel,by decide +kernel⟩
theorem kB:aS ["thing"] ["thing"] (ah cC):=⟨rfl,rfl,rfl,by decide +kernel,rfl,by decide +kernel,by decide +kernel⟩
theorem jH:aS ["thing","low","high"] ["thing","low","high"] (ah ci):=⟨rfl,rfl,rfl,by decide +kernel,rfl,by decide +kernel,by decide +kernel⟩
theorem ft:aS ["thing"] ["thing"] (ah aV):=⟨rfl,rfl,rfl,by decide +kernel,rfl,by decide +kernel,by decide +kernel⟩
theorem gH:aS ["thing","word"] ["thing"] (ah cB):=⟨rfl,rfl,rfl,by decide +kernel,rfl,by decide +kernel,by decide +kernel⟩
theorem kD:aS ["rule"] ["rule"] (ah cD):=⟨rfl,rfl,rfl,by decide +kernel,rfl,by decide +kernel,by decide +kernel⟩
theorem dG:aS ["thing","deep","many","part","within"] ["thing","deep"] (ah cq):=⟨rfl,rfl,rfl,by decide +kernel,rfl,by decide +kernel,by decide +kernel⟩
theorem gZ:aS ["thing","many"] ["thing"] (ah cW):=⟨rfl,rfl,rfl,by decide +kernel,rfl,by decide +kernel,by decide +kernel⟩
theorem lv:aS ["sign"] ["sign"] (ah cV):=⟨rfl,rfl,rfl,by decide +kernel,rfl,by decide +kernel,by decide +kernel⟩
theorem bQ:aS ["text","place","deep","ahead","rules","told"] ["text","place","deep"] (ah bM):=⟨rfl,rfl,rfl,by decide +kernel,rfl,by decide +kernel,by decide +kernel⟩
theorem cL:aS ["text","place","deep","sign","told","head"] ["text","place","deep"] (ah cc):=⟨rfl,rfl,rfl,by decide +kernel,rfl,by decide +kernel,by decide +kernel⟩
theorem fT:aS ["thing","told"] ["thing"] (ah bZ):=⟨rfl,rfl,rfl,by decide +kernel,rfl,by decide +kernel,by decide +kernel⟩
theorem cJ:aS ["_law_script","_law_k","_law_cell","_law_far","_law_seed"] ["_law_script","_law_k"] (ah bY):=⟨rfl,rfl,rfl,by decide +kernel,rfl,by decide +kernel,by decide +kernel⟩
theorem fW:aS ["_law_hand_here","_law_many","_law_digit"] ["_law_hand_here","_law_many"] (ah ce):=⟨rfl,rfl,rfl,by decide +kernel,rfl,by decide +kernel,by decide +kernel⟩
theorem jI:aS ["_law_hand_here","_law_some"] ["_law_hand_here","_law_some"] (ah cf):=⟨rfl,rfl,rfl,by decide +kernel,rfl,by decide +kernel,by decide +kernel⟩
theorem cK:aS ["_law_hand_here","_law_left","_law_deep","_law_most","_law_way","_law_some","_law_turn","_law_word"] ["_law_hand_here","_law_left","_law_deep","_law_most"] (ah bv):=⟨rfl,rfl,rfl,by decide +kernel,rfl,by decide +kernel,by decide +kernel⟩
theorem et:aS ["_law_rule_here","_law_mark"] ["_law_rule_here"] (ah aQ):=⟨rfl,rfl,rfl,by decide +kernel,rfl,by decide +kernel,by decide +kernel⟩
theorem ju:aS ["_law_found","_law_due"] ["_law_found","_law_due"] (ah ck):=⟨rfl,rfl,rfl,by decide +kernel,rfl,by decide +kernel,by decide +kernel⟩
theorem fH:aS ["_law_script","_law_k","_law_hand_here","_law_turn","_law_rule_here","_law_text","_law_again"] ["_law_script"] (ah hC):=⟨rfl,rfl,rfl,by decide +kernel,rfl,by decide +kernel,by decide +kernel⟩
set_option genSizeOf false in
set_option genInjectivity false in
structure Adr where
 f0:Addr
 g0:FuncData
 f1:Addr
 g1:FuncData
 f2:Addr
 g2:FuncData
 f3:Addr
 g3:FuncData
 f4:Addr
 g4:FuncData
 f5:Addr
 g5:FuncData
 f6:Addr
 g6:FuncData
 f7:Addr
 g7:FuncData
 f8:Addr
 g8:FuncData
 f9:Addr
 g9:FuncData
 f10:Addr
 g10:FuncData
 f11:Addr
 g11:FuncData
 f12:Addr
 g12:FuncData
 f13:Addr
 g13:FuncData
 f14:Addr
 g14:FuncData
 f15:Addr
 g15:FuncData
 f16:Addr
 g16:FuncData
 f17:Addr
 g17:FuncData
 f18:Addr
 g18:FuncData
 ga_FIGURES:Tok
 ga_GREATEST_LEAST:Tok
 ga_LAST_SWITCH:Tok
 ga_LETTERS:Tok
 ga_MOST_DEEP:Tok
 ga_MOST_PARTS:Tok
 ga_MOST_RULES:Tok
 ga_SIGNS:Addr
 ga_WORDS:Addr
structure Txt (P:Program) (w:World) (K:PySem.W.Frag) (mg:Str->Option Value) (t:Adr):Prop where
 F0:Fun K "show_rule" "show_rule" bo t.f0 t.g0
 m0:mg "show_rule" = some (.ref t.f0)
 b0:bP K t.g0 ["rule"] []
 F1:Fun K "is_whole" "is_whole" cC t.f1 t.g1
 m1:mg "is_whole" = some (.ref t.f1)
 b1:bP K t.g1 ["thing"] []
 F2:Fun K "is_within" "is_within" ci t.f2 t.g2
 m2:mg "is_within" = some (.ref t.f2)
 b2:bP K t.g2 ["thing","low","high"] []
 F3:Fun K "is_row_of_parts" "is_row_of_parts" aV t.f3 t.g3
 m3:mg "is_row_of_parts" = some (.ref t.f3)
 b3:bP K t.g3 ["thing"] []
 F4:Fun K "has_form" "has_form" cB t.f4 t.g4
 m4:mg "has_form" = some (.ref t.f4)
 b4:bP K t.g4 ["thing"] []
 F5:Fun K "parts_of" "parts_of" cD t.f5 t.g5
 m5:mg "parts_of" = some (.ref t.f5)
 b5:bP K t.g5 ["rule"] []
 F6:Fun K "counted" "counted" cq t.f6 t.g6
 m6:mg "counted" = some (.ref t.f6)
 b6:bP K t.g6 ["thing","deep"] []
 F7:Fun K "is_rule" "is_rule" cW t.f7 t.g7
 m7:mg "is_rule" = some (.ref t.f7)
 b7:bP K t.g7 ["thing"] []
 F8:Fun K "head_by" "head_by" cV t.f8 t.g8
 m8:mg "head_by" = some (.ref t.f8)
 b8:bP K t.g8 ["sign"] []
 F9:Fun K "rules_from" "rules_from" bM t.f9 t.g9
 m9:mg "rules_from" = some (.ref t.f9)
 b9:bP K t.g9 ["text","place","deep"] []
 F10:Fun K "rule_from" "rule_from" cc t.f10 t.g10
 m10:mg "rule_from" = some (.ref t.f10)
 b10:bP K t.g10 ["text","place","deep"] []
 F11:Fun K "read_rule" "read_rule" bZ t.f11 t.g11
 m11:mg "read_rule" = some (.ref t.f11)
 b11:bP K t.g11 ["thing"] []
 F12:Fun K "_law_hand" "_law_hand" bY t.f12 t.g12
 m12:mg "_law_hand" = some (.ref t.f12)
 b12:bP K t.g12 ["_law_script","_law_k"] []
 F13:Fun K "_law_take" "_law_take" ce t.f13 t.g13
 m13:mg "_law_take" = some (.ref t.f13)
 b13:bP K t.g13 ["_law_hand_here","_law_many"] []
 F14:Fun K "_law_pick" "_law_pick" cf t.f14 t.g14
 m14:mg "_law_pick" = some (.ref t.f14)
 b14:bP K t.g14 ["_law_hand_here","_law_some"] []
 F15:Fun K "_law_rule" "_law_rule" bv t.f15 t.g15
 m15:mg "_law_rule" = some (.ref t.f15)
 b15:bP K t.g15 ["_law_hand_here","_law_left","_law_deep","_law_most"] []
 F16:Fun K "_law_written" "_law_written" aQ t.f16 t.g16
 m16:mg "_law_written" = some (.ref t.f16)
 b16:bP K t.g16 ["_law_rule_here"] []
 F17:Fun K "_law_same" "_law_same" ck t.f17 t.g17
 m17:mg "_law_same" = some (.ref t.f17)
 b17:bP K t.g17 ["_law_found","_law_due"] []
 F18:Fun K "law" "law" hC t.f18 t.g18
 m18:mg "law" = some (.ref t.f18)
 b18:bP K t.g18 ["_law_script"] []
 z_abs:mg "abs" = none
 z_bool:mg "bool" = none
 z_int:mg "int" = none
 z_isinstance:mg "isinstance" = none
 z_len:mg "len" = none
 z_list:mg "list" = none
 z_min:mg "min" = none
 z_range:mg "range" = none
 z_repr:mg "repr" = none
 z_str:mg "str" = none
 z_tuple:mg "tuple" = none
 g_FIGURES:mg "FIGURES" = some (.str "0123456789" t.ga_FIGURES)
 gq_FIGURES:∀ H φ,Rl K H φ (.str "0123456789") (.str "0123456789")
 g_GREATEST_LEAST:mg "GREATEST_LEAST" = some (.int 9 t.ga_GREATEST_LEAST)
 gq_GREATEST_LEAST:∀ H φ,Rl K H φ (.int 9) (.int 9)
 g_LAST_SWITCH:mg "LAST_SWITCH" = some (.int 5 t.ga_LAST_SWITCH)
 gq_LAST_SWITCH:∀ H φ,Rl K H φ (.int 5) (.int 5)
 g_LETTERS:mg "LETTERS" = some (.str "abcdef" t.ga_LETTERS)
 gq_LETTERS:∀ H φ,Rl K H φ (.str "abcdef") (.str "abcdef")
 g_MOST_DEEP:mg "MOST_DEEP" = some (.int 6 t.ga_MOST_DEEP)
 gq_MOST_DEEP:∀ H φ,Rl K H φ (.int 6) (.int 6)
 g_MOST_PARTS:mg "MOST_PARTS" = some (.int 6 t.ga_MOST_PARTS)
 gq_MOST_PARTS:∀ H φ,Rl K H φ (.int 6) (.int 6)
 g_MOST_RULES:mg "MOST_RULES" = some (.int 40 t.ga_MOST_RULES)
 gq_MOST_RULES:∀ H φ,Rl K H φ (.int 40) (.int 40)
 g_SIGNS:mg "SIGNS" = some (.ref t.ga_SIGNS)
 gk_SIGNS:KDc K P w t.ga_SIGNS [("all",(.str "&")),("any",(.str "|")),("odd",(.str "^"))]
 g_WORDS:mg "WORDS" = some (.ref t.ga_WORDS)
 gk_WORDS:KDc K P w t.ga_WORDS [("&",(.str "all")),("|",(.str "any")),("^",(.str "odd"))]
abbrev Bdy (P:Program) (w:World) (K:PySem.W.Frag) (mg:Str->Option Value) (base:Heap) (k:Nat) (N:List Str) (x:Str) (sd:Stmt) (f:Addr) (b:Sf):Prop:=∀ (cdv:Value) (A:Around) (outer:List Env) (s:Shared) (H:Hp) (E:XK),bO k (A.deeper (PyProof.Rows.envOfC x (ah sd) s.heap.objs.size f cdv))->ISs K (gm CX0 P w K mg base N x (ah sd) f cdv A outer s H E).nox (aE sd) b
section
variable {P:Program}{w:World}{K:PySem.W.Frag}{mg:Str->Option Value}{base:Heap}{t:Adr}
theorem iq (T:Txt P w K mg t) (n:Nat) (ih:bp P w K mg base CX0 (0+n) t.f0 t.g0 ["rule"] (spI K (aY n))) (cdv:Value) (A:Around) (outer:List Env) (s:Shared) (H:Hp) (E:XK) (hr:bO (0+n) (A.deeper (PyProof.Rows.envOfC "show_rule" (ah bo) s.heap.objs.size t.f0 cdv))):ISs K (gm CX0 P w K mg base ["rule","ahead"] "show_rule" (ah bo) t.f0 cdv A outer s H E).nox (aE bo) (cY (aY n)):=
 (ag (bq (aM (cz hr rfl) (aD (iv 0) ac rfl rfl) au (aJ _)) (al (ay (aD (eG (v:=.str "abcdef") rfl T.g_LETTERS ⟨_,rfl⟩ T.gq_LETTERS (by decide)) (aD (iv 0) ac rfl rfl) rfl rfl))) aF) (ag (bq (aM (cz hr rfl) (aD (iv 0) ac rfl rfl) au (aJ _)) (al (ay (aq (aW rfl) au (ap ih (Nat.le_refl _) hr rfl T.m0 T.F0.kp T.b0 (aa (aD (iv 0) ac rfl rfl) ae rfl) (by decide) rfl rfl)))) aF) (ag (ba (i:=1) gg.nd rfl (.inl rfl) (tJ (aM (cz hr rfl) (aD (iv 0) ac rfl rfl) au (aJ _)) (iZ (oa hr rfl) rfl T.z_str PyProof.Rows.boot_str (aa (aD (iv 0) ac rfl rfl) ae rfl) (by decide) (by decide) rfl rfl) (nE rfl T.g_SIGNS T.gk_SIGNS (aD (iv 0) ac rfl rfl) rfl (by decide))) rfl (.inl rfl)) (al (ay (aq (aW rfl) (aq (aW rfl) (aq (aW rfl) (iv 1) au) (lT au (aa (dm (p9 (qf (ah bo).names ["rule","ahead"] ["part"] 1 [] rfl rfl rfl (by decide +kernel)) rfl (by decide) (ln (aD (iv 0) (lp ac) rfl rfl) rfl) (λ_ _ _ _ _=>(d9 (ek (i:=0) (show List.Nodup (α:=Str) ["part"] by decide +kernel) rfl (.inl rfl)))) (λ_ _ _ _ _=>lO) (λ_ _ _ _ _=>(ap ih (Nat.le_refl _) hr rfl T.m0 T.F0.kp T.b0 (aa (iv 0) ae rfl) (by decide) rfl rfl)) (λ_=>rfl))) ae rfl) rfl rfl rfl rfl)) au))))))
theorem fY (T:Txt P w K mg t):∀ n:Nat,bp P w K mg base CX0 (0+n) t.f0 t.g0 ["rule"] (spI K (aY n))
 | 0=>⟨λ_ _ _ _ ⟨_,_,_,_,h,_⟩=>(nomatch h),λ_ _ _ _ _ _ _ _ _ _ _ _ _ ⟨_,_,_,_,h,_⟩=>(nomatch h)⟩
 | n+1=>show bp P w K mg base CX0 (0+n+1) t.f0 t.g0 ["rule"] (spI K (bj (List.length (α:=Str) ["rule","ahead"]) (List.length (α:=Str) ["rule"]) (cY (aY n)))) from fj (N:=["rule","ahead"]) (ps:=["rule"]) (k:=0+n) (b:=cY (aY n)) T.F0 gg (λcdv A outer s H E hr=>iq T n (fY T n) cdv A outer s H E hr)
theorem iN (T:Txt P w K mg t):Bdy P w K mg base 0 ["thing"] "is_whole" cC t.f1 d3:=
 λ_ _ _ _ _ _ hr=>(al (ay (fD (cF (gD rfl) rfl T.z_isinstance PyProof.Rows.boot_isinstance (aa (iv 0) (aa (i0 rfl T.z_int PyProof.Rows.boot_int (by decide) (by decide)) ae rfl) rfl) (by decide) (by decide) rfl rfl) (gn (rP (cF (gD rfl) rfl T.z_isinstance PyProof.Rows.boot_isinstance (aa (iv 0) (aa (i0 rfl T.z_bool PyProof.Rows.boot_bool (by decide) (by decide)) ae rfl) rfl) (by decide) (by decide) rfl rfl))))))
theorem kP (T:Txt P w K mg t):bp P w K mg base CX0 1 t.f1 t.g1 ["thing"] (spI K fB):=
 fj (N:=["thing"]) (b:=d3) T.F1 kB (iN T)
theorem iF (T:Txt P w K mg t):Bdy P w K mg base 1 ["thing","low","high"] "is_within" ci t.f2 dI:=
 λ_ _ _ _ _ _ hr=>(al (ay (fD (ap (kP T) (by decide) hr rfl T.m1 T.F1.kp T.b1 (aa (iv 0) ae rfl) (by decide) rfl rfl) (gn (nQ lP lP (iv 1) (iv 0) (iv 2) (by with_unfolding_all rfl))))))
theorem gh (T:Txt P w K mg t):bp P w K mg base CX0 2 t.f2 t.g2 ["thing","low","high"] (spI K db):=
 fj (N:=["thing","low","high"]) (b:=dI) T.F2 jH (iF T)
theorem eL (T:Txt P w K mg t):Bdy P w K mg base 0 ["thing"] "is_row_of_parts" aV t.f3 bU:=
 λ_ _ _ _ _ _ hr=>(al (ay (fD (cF (gD rfl) rfl T.z_isinstance PyProof.Rows.boot_isinstance (aa (iv 0) (aa (i0 rfl T.z_tuple PyProof.Rows.boot_tuple (by decide) (by decide)) ae rfl) rfl) (by decide) (by decide) rfl rfl) (gn (fz lP (cF (ed rfl) rfl T.z_len PySem.boot_len (aa (iv 0) ae rfl) (by decide) (by decide) rfl rfl) (eG (v:=.int 6) rfl T.g_MOST_PARTS ⟨_,rfl⟩ T.gq_MOST_PARTS (by decide)) (aJ _))))))
theorem dC (T:Txt P w K mg t):bp P w K mg base CX0 1 t.f3 t.g3 ["thing"] (spI K bw):=
 fj (N:=["thing"]) (b:=bU) T.F3 ft (eL T)
theorem iK (T:Txt P w K mg t):Bdy P w K mg base 2 ["thing","word"] "has_form" cB t.f4 bH:=
 λ_ _ _ _ _ _ hr=>(ag (bq (gt (eB (fG (fv (cF (gD rfl) rfl T.z_isinstance PyProof.Rows.boot_isinstance (aa (iv 0) (aa (i0 rfl T.z_tuple PyProof.Rows.boot_tuple (by decide) (by decide)) ae rfl) rfl) (by decide) (by decide) rfl rfl) rfl rfl)) (eB (aM (kM rfl) (cF (ed rfl) rfl T.z_len PySem.boot_len (aa (iv 0) ae rfl) (by decide) (by decide) rfl rfl) (aZ (aa ac (aa ac ae rfl) rfl)) rfl) (eW (fG (fv (cF (gD rfl) rfl T.z_isinstance PyProof.Rows.boot_isinstance (aa (aD (iv 0) ac rfl rfl) (aa (i0 rfl T.z_str PyProof.Rows.boot_str (by decide) (by decide)) ae rfl) rfl) (by decide) (by decide) rfl rfl) rfl rfl)))))) (al (ay kz)) aF) (ag (ba (i:=1) gH.nd rfl (.inl rfl) (aD (iv 0) ac rfl rfl) rfl (.inl rfl)) (ag (bq (aM (cz hr rfl) (iv 1) au (aJ _)) (al (ay (fD (fz (cz hr rfl) (cF (ed rfl) rfl T.z_len PySem.boot_len (aa (iv 0) ae rfl) (by decide) (by decide) rfl rfl) ac (aJ _)) (fD (ap (gh T) (by decide) hr rfl T.m2 T.F2.kp T.b2 (aa (aD (iv 0) ac rfl rfl) (aa ac (aa (eG (v:=.int 9) rfl T.g_GREATEST_LEAST ⟨_,rfl⟩ T.gq_GREATEST_LEAST (by decide)) ae rfl) rfl) rfl) (by decide) rfl rfl) (gn (ap (dC T) (by decide) hr rfl T.m3 T.F3.kp T.b3 (aa (aD (iv 0) ac rfl rfl) ae rfl) (by decide) rfl rfl)))))) aF) (ag (bq (aM (lZ hr rfl) (cF (ed rfl) rfl T.z_len PySem.boot_len (aa (iv 0) ae rfl) (by decide) (by decide) rfl rfl) ac (aJ _)) (al (ay kz)) aF) (ag (bq (aM (cz hr rfl) (iv 1) au (aJ _)) (al (ay (ap (gh T) (by decide) hr rfl T.m2 T.F2.kp T.b2 (aa (aD (iv 0) ac rfl rfl) (aa ac (aa (eG (v:=.int 5) rfl T.g_LAST_SWITCH ⟨_,rfl⟩ T.gq_LAST_SWITCH (by decide)) ae rfl) rfl) rfl) (by decide) rfl rfl))) aF) (ag (bq (aM (cz hr rfl) (iv 1) au (aJ _)) (al (ay kz)) aF) (al (ay (fD (fz (nJ rfl) (iv 1) (aZ (aa au (aa au (aa au ae rfl) rfl) rfl)) rfl) (gn (ap (dC T) (by decide) hr rfl T.m3 T.F3.kp T.b3 (aa (aD (iv 0) ac rfl rfl) ae rfl) (by decide) rfl rfl)))))))))))
theorem kQ (T:Txt P w K mg t):bp P w K mg base CX0 3 t.f4 t.g4 ["thing"] (spI K bI):=
 fj (N:=["thing","word"]) (b:=bH) T.F4 gH (iK T)
theorem iJ (T:Txt P w K mg t):Bdy P w K mg base 0 ["rule"] "parts_of" cD t.f5 bL:=
 λ_ _ _ _ _ _ hr=>(ag (bq (aM (cz hr rfl) (aD (iv 0) ac rfl rfl) au (aJ _)) (al (ay (aZ ae))) aF) (ag (bq (aM (cz hr rfl) (aD (iv 0) ac rfl rfl) au (aJ _)) (al (ay (aZ (aa (aD (iv 0) ac rfl rfl) ae rfl)))) aF) (al (ay (aD (iv 0) (lp ac) rfl rfl)))))
theorem li (T:Txt P w K mg t):bp P w K mg base CX0 1 t.f5 t.g5 ["rule"] (spI K br):=
 fj (N:=["rule"]) (b:=bL) T.F5 kD (iJ T)
theorem jD (T:Txt P w K mg t) (n:Nat) (ih:bp P w K mg base CX0 (3+n) t.f6 t.g6 ["thing","deep"] (spI K (bu n))) (cdv:Value) (A:Around) (outer:List Env) (s:Shared) (H:Hp) (E:XK) (hr:bO (3+n) (A.deeper (PyProof.Rows.envOfC "counted" (ah cq) s.heap.objs.size t.f6 cdv))):ISs K (gm CX0 P w K mg base ["thing","deep","many","part","within"] "counted" (ah cq) t.f6 cdv A outer s H E).nox (aE cq) (cH (bu n)):=
 (ag (bq (gt (eB (aM (cz hr rfl) (iv 1) ac (aJ _)) (eW (fG (fv (ap (kQ T) (by omega) hr rfl T.m4 T.F4.kp T.b4 (aa (iv 0) ae rfl) (by decide) rfl rfl) rfl rfl))))) (al (ay jo)) aF) (ag (ba (i:=2) dG.nd rfl (.inl rfl) ac rfl (.inl rfl)) (ag (im (ln (ap (li T) (by omega) hr rfl T.m5 T.F5.kp T.b5 (aa (iv 0) ae rfl) (by decide) rfl rfl) rfl) (d9 (ek (i:=3) dG.nd rfl (.inl rfl))) (ag (ba (i:=4) dG.nd rfl (.inl rfl) (ap ih (Nat.le_refl _) hr rfl T.m6 T.F6.kp T.b6 (aa (iv 3) (aa (aq fF (iv 1) ac) ae rfl) rfl) (by decide) rfl rfl) rfl (.inl rfl)) (ag (bq (aM rF (iv 4) jo (aJ _)) (al (ay jo)) aF) (al (ba (i:=2) dG.nd rfl (.inl rfl) (aq (aW rfl) (iv 2) (iv 4)) rfl (.inl rfl))))) PassesOwn.never rfl (λ_=>rfl)) (al (ay (iv 2))))))
theorem gX (T:Txt P w K mg t):∀ n:Nat,bp P w K mg base CX0 (3+n) t.f6 t.g6 ["thing","deep"] (spI K (bu n))
 | 0=>⟨λ_ _ _ _ ⟨_,_,_,_,h,_⟩=>(nomatch h),λ_ _ _ _ _ _ _ _ _ _ _ _ _ ⟨_,_,_,_,h,_⟩=>(nomatch h)⟩
 | n+1=>show bp P w K mg base CX0 (3+n+1) t.f6 t.g6 ["thing","deep"] (spI K (bj (List.length (α:=Str) ["thing","deep","many","part","within"]) (List.length (α:=Str) ["thing","deep"]) (cH (bu n)))) from fj (N:=["thing","deep","many","part","within"]) (ps:=["thing","deep"]) (k:=3+n) (b:=cH (bu n)) T.F6 dG (λcdv A outer s H E hr=>jD T n (gX T n) cdv A outer s H E hr)
theorem jO (T:Txt P w K mg t):Bdy P w K mg base 11 ["thing","many"] "is_rule" cW t.f7 eX:=
 λ_ _ _ _ _ _ hr=>(ag (ba (i:=1) gZ.nd rfl (.inl rfl) (ap (gX T 7) (by decide) hr rfl T.m6 T.F6.kp T.b6 (aa (iv 0) (aa (eG (v:=.int 6) rfl T.g_MOST_DEEP ⟨_,rfl⟩ T.gq_MOST_DEEP (by decide)) ae rfl) rfl) (by decide) rfl rfl) rfl (.inl rfl)) (al (ay (fD (fz oM (iv 1) jo (aJ _)) (gn (fz lP (iv 1) (eG (v:=.int 40) rfl T.g_MOST_RULES ⟨_,rfl⟩ T.gq_MOST_RULES (by decide)) (aJ _)))))))
theorem lH (T:Txt P w K mg t):bp P w K mg base CX0 12 t.f7 t.g7 ["thing"] (spI K dq):=
 fj (N:=["thing","many"]) (b:=eX) T.F7 gZ (jO T)
theorem jx (T:Txt P w K mg t):Bdy P w K mg base 0 ["sign"] "head_by" cV t.f8 eV:=
 λ_ _ _ _ _ _ hr=>(ag (bq (rn q9 rfl T.g_WORDS T.gk_WORDS (iv 0) (by decide) rfl) (al (ay (aZ (aa (nE rfl T.g_WORDS T.gk_WORDS (iv 0) rfl (by decide)) ae rfl)))) aF) (ag (bq (aM (nJ rfl) (iv 0) (dm (qh (kH hr) rfl T.z_list PyProof.Rows.boot_list (aa (eG (v:=.str "0123456789") rfl T.g_FIGURES ⟨_,rfl⟩ T.gq_FIGURES (by decide)) ae rfl) (by decide) (by decide) rfl rfl)) rfl) (al (ay (aZ (aa au (aa (p8 PySem.F.slot_str_find PySem.F.type_str_find ma jh (eG (v:=.str "0123456789") rfl T.g_FIGURES ⟨_,rfl⟩ T.gq_FIGURES (by decide)) (aa (iv 0) ae rfl) rfl rfl rfl rfl) ae rfl) rfl)))) aF) (al eT)))
theorem lz (T:Txt P w K mg t):bp P w K mg base CX0 1 t.f8 t.g8 ["sign"] (spI K gw):=
 fj (N:=["sign"]) (b:=eV) T.F8 lv (jx T)
theorem gL (T:Txt P w K mg t) (n:Nat) {self:Fn} (ih:bp P w K mg base CX0 (1+2*n) t.f10 t.g10 ["text","place","deep"] (spI K self)):Bdy P w K mg base (1+2*n) ["text","place","deep","ahead","rules","told"] "rules_from" bM t.f9 (cN self):=
 λ_ _ _ _ _ _ hr=>(ag (bq (aM (cz hr rfl) (jG (iv 0) (dN (iv 1)) (dN (aq (aW rfl) (iv 1) ac)) rfl) au (aJ _)) (al (ay (aZ (aa (aZ ae) (aa (aq (aW rfl) (iv 1) ac) ae rfl) rfl)))) aF) (ag (ba (i:=3) bQ.nd rfl (.inl rfl) (jG (iv 0) (dN (iv 1)) (dN (aq (aW rfl) (iv 1) ac)) rfl) rfl (.inl rfl)) (ag (bq (aM (lZ hr rfl) (iv 3) au (aJ _)) (al eT) aF) (ag (ba (i:=4) bQ.nd rfl (.inl rfl) (jy (eg ae)) rfl (.inl rfl)) (ag (nT 9 (aM (lZ hr rfl) (iv 3) au (aJ _)) (ag (ba (i:=5) bQ.nd rfl (.inl rfl) (ap ih (by lia) hr rfl T.m10 T.F10.kp T.b10 (aa (iv 0) (aa (aq (aW rfl) (iv 1) ac) (aa (iv 2) ae rfl) rfl) rfl) (by decide) rfl rfl) rfl (.inl rfl)) (ag (mh (jb (iv 4) (aa (aD (iv 5) ac rfl rfl) ae rfl) rfl rfl (by decide) rfl rfl) rfl) (ag (ba (i:=1) bQ.nd rfl (.inl rfl) (aD (iv 5) ac rfl rfl) rfl (.inl rfl)) (ag (ba (i:=3) bQ.nd rfl (.inl rfl) (jG (iv 0) (dN (iv 1)) (dN (aq (aW rfl) (iv 1) ac)) rfl) rfl (.inl rfl)) (al (bq (aM (kM rfl) (iv 3) (aZ (aa au (aa au ae rfl) rfl)) rfl) (al eT) aF)))))) PassesOwn.never) (al (ay (aZ (aa (iZ (lq rfl) rfl T.z_tuple PyProof.Rows.boot_tuple (aa (iv 4) ae rfl) (by decide) (by decide) rfl rfl) (aa (aq (aW rfl) (iv 1) ac) ae rfl) rfl)))))))))
theorem iT (T:Txt P w K mg t) (n:Nat) {self:Fn} (ih:bp P w K mg base CX0 (1+2*n) t.f10 t.g10 ["text","place","deep"] (spI K self)):bp P w K mg base CX0 (1+2*n+1) t.f9 t.g9 ["text","place","deep"] (spI K (dk self)):=
 rq (N:=["text","place","deep","ahead","rules","told"]) (b:=cN self) T.F9 bQ (gL T n ih)
theorem io (T:Txt P w K mg t) (n:Nat) {self:Fn} (ih:bp P w K mg base CX0 (1+2*n) t.f10 t.g10 ["text","place","deep"] (spI K self)):Bdy P w K mg base (1+2*n+1) ["text","place","deep","sign","told","head"] "rule_from" cc t.f10 (cG self):=
 λ_ _ _ _ _ _ hr=>(ag (bq (aM (cz hr rfl) (iv 2) ac (aJ _)) (al eT) aF) (ag (ba (i:=3) cL.nd rfl (.inl rfl) (jG (iv 0) (dN (iv 1)) (dN (aq (aW rfl) (iv 1) ac)) rfl) rfl (.inl rfl)) (ag (bq (aM (nJ rfl) (iv 3) (dm (qh (kH hr) rfl T.z_list PyProof.Rows.boot_list (aa (eG (v:=.str "abcdef") rfl T.g_LETTERS ⟨_,rfl⟩ T.gq_LETTERS (by decide)) ae rfl) (by decide) (by decide) rfl rfl)) rfl) (al (ay (aZ (aa (aZ (aa au (aa (p8 PySem.F.slot_str_find PySem.F.type_str_find ma jh (eG (v:=.str "abcdef") rfl T.g_LETTERS ⟨_,rfl⟩ T.gq_LETTERS (by decide)) (aa (iv 3) ae rfl) rfl rfl rfl rfl) ae rfl) rfl)) (aa (aq (aW rfl) (iv 1) ac) ae rfl) rfl)))) aF) (ag (bq (aM (cz hr rfl) (iv 3) au (aJ _)) (ag (ba (i:=4) cL.nd rfl (.inl rfl) (ap ih (by lia) hr rfl T.m10 T.F10.kp T.b10 (aa (iv 0) (aa (aq (aW rfl) (iv 1) ac) (aa (aq fF (iv 2) ac) ae rfl) rfl) rfl) (by decide) rfl rfl) rfl (.inl rfl)) (al (ay (aZ (aa (aZ (aa au (aa (aD (iv 4) ac rfl rfl) ae rfl) rfl)) (aa (aD (iv 4) ac rfl rfl) ae rfl) rfl))))) aF) (ag (ba (i:=5) cL.nd rfl (.inl rfl) (ap (lz T) (by lia) hr rfl T.m8 T.F8.kp T.b8 (aa (iv 3) ae rfl) (by decide) rfl rfl) rfl (.inl rfl)) (ag (ba (i:=4) cL.nd rfl (.inl rfl) (ap (iT T n ih) (by lia) hr rfl T.m9 T.F9.kp T.b9 (aa (iv 0) (aa (aq (aW rfl) (iv 1) ac) (aa (aq fF (iv 2) ac) ae rfl) rfl) rfl) (by decide) rfl rfl) rfl (.inl rfl)) (al (ay (aZ (aa (aq (aW rfl) (iv 5) (aZ (aa (aD (iv 4) ac rfl rfl) ae rfl))) (aa (aD (iv 4) ac rfl rfl) ae rfl) rfl))))))))))
theorem fZ (T:Txt P w K mg t):∀ n:Nat,bp P w K mg base CX0 (1+2*n) t.f10 t.g10 ["text","place","deep"] (spI K (bn n))
 | 0=>⟨λ_ _ _ _ ⟨_,_,_,_,h,_⟩=>(nomatch h),λ_ _ _ _ _ _ _ _ _ _ _ _ _ ⟨_,_,_,_,h,_⟩=>(nomatch h)⟩
 | n+1=>show bp P w K mg base CX0 (1+2*n+1+1) t.f10 t.g10 ["text","place","deep"] (spI K (bj (List.length (α:=Str) ["text","place","deep","sign","told","head"]) (List.length (α:=Str) ["text","place","deep"]) (cG (bn n)))) from fj (N:=["text","place","deep","sign","told","head"]) (ps:=["text","place","deep"]) (k:=1+2*n+1) (b:=cG (bn n)) T.F10 cL (io T n (fZ T n))
theorem hW (T:Txt P w K mg t):Bdy P w K mg base 15 ["thing","told"] "read_rule" bZ t.f11 dP:=
 λ_ _ _ _ _ _ hr=>(ag (bq (fG (fv (cF (gD rfl) rfl T.z_isinstance PyProof.Rows.boot_isinstance (aa (iv 0) (aa (i0 rfl T.z_str PyProof.Rows.boot_str (by decide) (by decide)) ae rfl) rfl) (by decide) (by decide) rfl rfl) rfl rfl)) (al eT) aF) (ag (ba (i:=1) fT.nd rfl (.inl rfl) (ap (fZ T 7) (by decide) hr rfl T.m10 T.F10.kp T.b10 (aa (iv 0) (aa ac (aa (eG (v:=.int 6) rfl T.g_MOST_DEEP ⟨_,rfl⟩ T.gq_MOST_DEEP (by decide)) ae rfl) rfl) rfl) (by decide) rfl rfl) rfl (.inl rfl)) (ag (bq (gt (eB (aM (lZ hr rfl) (aD (iv 1) ac rfl rfl) (cF (ed rfl) rfl T.z_len PySem.boot_len (aa (iv 0) ae rfl) (by decide) (by decide) rfl rfl) (aJ _)) (eW (fG (fv (ap (lH T) (by decide) hr rfl T.m7 T.F7.kp T.b7 (aa (aD (iv 1) ac rfl rfl) ae rfl) (by decide) rfl rfl) rfl rfl))))) (al eT) aF) (al (ay (aD (iv 1) ac rfl rfl))))))
theorem jX (T:Txt P w K mg t):bp P w K mg base CX0 16 t.f11 t.g11 ["thing"] (spI K dM):=
 fj (N:=["thing","told"]) (b:=dP) T.F11 fT (hW T)
theorem h9 (T:Txt P w K mg t):Bdy P w K mg base 0 ["_law_script","_law_k","_law_cell","_law_far","_law_seed"] "_law_hand" bY t.f12 da:=
 λ_ _ _ _ _ _ hr=>(ag (ba (i:=2) cJ.nd rfl (.inl rfl) ac rfl (.inl rfl)) (ag (bq (aM nA (iv 1) (cF (ed rfl) rfl T.z_len PySem.boot_len (aa (iv 0) ae rfl) (by decide) (by decide) rfl rfl) (aJ _)) (al (ba (i:=2) cJ.nd rfl (.inl rfl) (aD (iv 0) (iv 1) rfl rfl) rfl (.inl rfl))) aF) (ag (ba (i:=3) cJ.nd rfl (.inl rfl) (aq (ef rfl) (aq (ef rfl) (aq (ef rfl) (aq iu ac ac) (aq iu ac ac)) (aq iu ac ac)) (aq iu ac ac)) rfl (.inl rfl)) (ag (ba (i:=4) cJ.nd rfl (.inl rfl) (aq eQ (aq (ef rfl) (aq (aW rfl) (aq (aW rfl) (aq eQ (iv 2) ac) (aq (ef rfl) ac (iv 1))) ac) ac) ac) rfl (.inl rfl)) (al (ay (jy (eg (aa (aq (ef rfl) (aq eQ (cF oB rfl T.z_abs PyProof.Rows.boot_abs (aa (iv 2) ae rfl) (by decide) (by decide) rfl rfl) (iv 3)) (iZ qW rfl T.z_int PyProof.Rows.boot_int (aa (fz tP (cF oB rfl T.z_abs PyProof.Rows.boot_abs (aa (iv 2) ae rfl) (by decide) (by decide) rfl rfl) (aq iu ac ac) (aJ _)) ae rfl) (by decide) (by decide) rfl rfl)) (aa (iv 4) (aa ac ae rfl) rfl) rfl)))))))))
theorem jZ (T:Txt P w K mg t):bp P w K mg base CX0 1 t.f12 t.g12 ["_law_script","_law_k"] (spI K dc):=
 fj (N:=["_law_script","_law_k","_law_cell","_law_far","_law_seed"]) (b:=da) T.F12 cJ (h9 T)
theorem hG (T:Txt P w K mg t):Bdy P w K mg base 0 ["_law_hand_here","_law_many","_law_digit"] "_law_take" ce t.f13 cX:=
 λ_ _ _ _ _ _ hr=>(ag (bq (aM p7 (aD (iv 0) ac rfl rfl) ac (aJ _)) (ag (ba (i:=2) fW.nd rfl (.inl rfl) (aq eQ (aD (iv 0) ac rfl rfl) (iv 1)) rfl (.inl rfl)) (ag (fV (iv 0) ac (aq jv (aD (iv 0) ac rfl rfl) (iv 1)) rfl rfl rfl) (al (ay (iv 2))))) aF) (ag (fV (iv 0) ac (aq (aW rfl) (aD (iv 0) ac rfl rfl) ac) rfl rfl rfl) (ag (fV (iv 0) ac (aq eQ (aq (aW rfl) (aq (aW rfl) (aq (ef rfl) (aD (iv 0) ac rfl rfl) ac) ac) (aq (ef rfl) ac (aD (iv 0) ac rfl rfl))) ac) rfl rfl rfl) (al (ay (aq eQ (aq jv (aq eQ (aq (ef rfl) (aD (iv 0) ac rfl rfl) (aq (aW rfl) (aq eQ (aD (iv 0) ac rfl rfl) ac) ac)) ac) ac) (iv 1)))))))
theorem bm (T:Txt P w K mg t):bp P w K mg base CX0 1 t.f13 t.g13 ["_law_hand_here","_law_many"] (spI K aI):=
 fj (N:=["_law_hand_here","_law_many","_law_digit"]) (b:=cX) T.F13 fW (hG T)
theorem gU (T:Txt P w K mg t):Bdy P w K mg base 1 ["_law_hand_here","_law_some"] "_law_pick" cf t.f14 dJ:=
 λ_ _ _ _ _ _ hr=>(al (ay (aD (iv 1) (ap (bm T) (by decide) hr rfl T.m13 T.F13.kp T.b13 (aa (iv 0) (aa (cF (ed rfl) rfl T.z_len PySem.boot_len (aa (iv 1) ae rfl) (by decide) (by decide) rfl rfl) ae rfl) rfl) (by decide) rfl rfl) rfl rfl)))
theorem jK (T:Txt P w K mg t):bp P w K mg base CX0 2 t.f14 t.g14 ["_law_hand_here","_law_some"] (spI K dL):=
 fj (N:=["_law_hand_here","_law_some"]) (b:=dJ) T.F14 jI (gU T)
theorem il (T:Txt P w K mg t) (n:Nat) (ih:bp P w K mg base CX0 (2+n) t.f15 t.g15 ["_law_hand_here","_law_left","_law_deep","_law_most"] (spI K (av n))) (cdv:Value) (A:Around) (outer:List Env) (s:Shared) (H:Hp) (E:XK) (hr:bO (2+n) (A.deeper (PyProof.Rows.envOfC "_law_rule" (ah bv) s.heap.objs.size t.f15 cdv))):ISs K (gm CX0 P w K mg base ["_law_hand_here","_law_left","_law_deep","_law_most","_law_way","_law_some","_law_turn","_law_word"] "_law_rule" (ah bv) t.f15 cdv A outer s H E).nox (aE bv) (aG (av n)):=
 (ag (fV (iv 1) ac (aq fF (aD (iv 1) ac rfl rfl) ac) rfl rfl rfl) (ag (ba (i:=4) cK.nd rfl (.inl rfl) (ap (bm T) (by omega) hr rfl T.m13 T.F13.kp T.b13 (aa (iv 0) (aa ac ae rfl) rfl) (by decide) rfl rfl) rfl (.inl rfl)) (ag (bq (gt (eB (aM nA (iv 2) ac (aJ _)) (eB (aM nA (aD (iv 1) ac rfl rfl) ac (aJ _)) (eW (aM (cz hr rfl) (iv 4) ac (aJ _)))))) (ag (bq (gt (eB (aM (cz hr rfl) (iv 3) ac (aJ _)) (eW (aM (cz hr rfl) (iv 4) ac (aJ _))))) (al (ay (ap (jK T) (by omega) hr rfl T.m14 T.F14.kp T.b14 (aa (iv 0) (aa (dm (eg (aa (aZ (aa au (aa (aZ ae) ae rfl) rfl)) (aa (aZ (aa au (aa (aZ ae) ae rfl) rfl)) (aa (aZ (aa au (aa (aZ ae) ae rfl) rfl)) (aa (aZ (aa au (aa (ap (bm T) (by omega) hr rfl T.m13 T.F13.kp T.b13 (aa (iv 0) (aa ac ae rfl) rfl) (by decide) rfl rfl) (aa (aZ ae) ae rfl) rfl) rfl)) ae rfl) rfl) rfl) rfl))) ae rfl) rfl) (by decide) rfl rfl))) aF) (al (ay (aZ (aa au (aa (ap (bm T) (by omega) hr rfl T.m13 T.F13.kp T.b13 (aa (iv 0) (aa (iv 3) ae rfl) rfl) (by decide) rfl rfl) ae rfl) rfl))))) aF) (ag (bq (aM (cz hr rfl) (iv 4) ac (aJ _)) (al (ay (aZ (aa au (aa (ap ih (Nat.le_refl _) hr rfl T.m15 T.F15.kp T.b15 (aa (iv 0) (aa (iv 1) (aa (aq fF (iv 2) ac) (aa (iv 3) ae rfl) rfl) rfl) rfl) (by decide) rfl rfl) ae rfl) rfl)))) aF) (ag (ba (i:=5) cK.nd rfl (.inl rfl) (jy (eg ae)) rfl (.inl rfl)) (ag (im (gQ rfl T.z_range (aa (ap (bm T) (by omega) hr rfl T.m13 T.F13.kp T.b13 (aa (iv 0) (aa (aD (dm (eg (aa ac (aa ac (aa ac (aa ac ae rfl) rfl) rfl) rfl))) (ap (bm T) (by omega) hr rfl T.m13 T.F13.kp T.b13 (aa (iv 0) (aa ac ae rfl) rfl) (by decide) rfl rfl) rfl rfl) ae rfl) rfl) (by decide) rfl rfl) ae rfl) rfl) (d9 (ek (i:=6) cK.nd rfl (.inl rfl))) (al (bq (aM p7 (aD (iv 1) ac rfl rfl) ac (aJ _)) (al (mh (jb (iv 5) (aa (ap ih (Nat.le_refl _) hr rfl T.m15 T.F15.kp T.b15 (aa (iv 0) (aa (iv 1) (aa (aq fF (iv 2) ac) (aa (iv 3) ae rfl) rfl) rfl) rfl) (by decide) rfl rfl) ae rfl) rfl rfl (by decide) rfl rfl) rfl)) aF)) PassesOwn.never rfl (λ_=>rfl)) (ag (ba (i:=7) cK.nd rfl (.inl rfl) (aD (dm (eg (aa au (aa au (aa au (aa au (aa au (aa au ae rfl) rfl) rfl) rfl) rfl) rfl))) (aq fF (iv 4) ac) rfl rfl) rfl (.inl rfl)) (ag (bq (aM (cz hr rfl) (iv 7) au (aJ _)) (al (ay (aZ (aa (iv 7) (aa (ap (bm T) (by omega) hr rfl T.m13 T.F13.kp T.b13 (aa (iv 0) (aa (aD (dm (eg (aa (aq (aW rfl) (cF (ed rfl) rfl T.z_len PySem.boot_len (aa (iv 5) ae rfl) (by decide) (by decide) rfl rfl) ac) (aa ac ae rfl) rfl))) (aq jv (ap (bm T) (by omega) hr rfl T.m13 T.F13.kp T.b13 (aa (iv 0) (aa ac ae rfl) rfl) (by decide) rfl rfl) ac) rfl rfl) ae rfl) rfl) (by decide) rfl rfl) (aa (iZ (lq rfl) rfl T.z_tuple PyProof.Rows.boot_tuple (aa (iv 5) ae rfl) (by decide) (by decide) rfl rfl) ae rfl) rfl) rfl)))) aF) (al (ay (aZ (aa (iv 7) (aa (iZ (lq rfl) rfl T.z_tuple PyProof.Rows.boot_tuple (aa (iv 5) ae rfl) (by decide) (by decide) rfl rfl) ae rfl) rfl))))))))))))
theorem fX (T:Txt P w K mg t):∀ n:Nat,bp P w K mg base CX0 (2+n) t.f15 t.g15 ["_law_hand_here","_law_left","_law_deep","_law_most"] (spI K (av n))
 | 0=>⟨λ_ _ _ _ ⟨_,_,_,_,h,_⟩=>(nomatch h),λ_ _ _ _ _ _ _ _ _ _ _ _ _ ⟨_,_,_,_,h,_⟩=>(nomatch h)⟩
 | n+1=>show bp P w K mg base CX0 (2+n+1) t.f15 t.g15 ["_law_hand_here","_law_left","_law_deep","_law_most"] (spI K (dB (List.length (α:=Str) ["_law_hand_here","_law_left","_law_deep","_law_most","_law_way","_law_some","_law_turn","_law_word"]) (List.length (α:=Str) ["_law_hand_here","_law_left","_law_deep","_law_most"]) (aG (av n)))) from rq (N:=["_law_hand_here","_law_left","_law_deep","_law_most","_law_way","_law_some","_law_turn","_law_word"]) (ps:=["_law_hand_here","_law_left","_law_deep","_law_most"]) (k:=2+n) (b:=aG (av n)) T.F15 cK (λcdv A outer s H E hr=>il T n (fX T n) cdv A outer s H E hr)
theorem fP (T:Txt P w K mg t) (n:Nat) (ih:bp P w K mg base CX0 (0+n) t.f16 t.g16 ["_law_rule_here"] (spI K (aK n))) (cdv:Value) (A:Around) (outer:List Env) (s:Shared) (H:Hp) (E:XK) (hr:bO (0+n) (A.deeper (PyProof.Rows.envOfC "_law_written" (ah aQ) s.heap.objs.size t.f16 cdv))):ISs K (gm CX0 P w K mg base ["_law_rule_here","_law_mark"] "_law_written" (ah aQ) t.f16 cdv A outer s H E).nox (aE aQ) (bX (aK n)):=
 (ag (bq (aM (cz hr rfl) (aD (iv 0) ac rfl rfl) au (aJ _)) (al (ay (aD au (aD (iv 0) ac rfl rfl) rfl rfl))) aF) (ag (bq (aM (cz hr rfl) (aD (iv 0) ac rfl rfl) au (aJ _)) (al (ay (aq (aW rfl) au (ap ih (Nat.le_refl _) hr rfl T.m16 T.F16.kp T.b16 (aa (aD (iv 0) ac rfl rfl) ae rfl) (by decide) rfl rfl)))) aF) (ag (ba (i:=1) et.nd rfl (.inl rfl) (oV (aD (iv 0) ac rfl rfl) (iZ (oa hr rfl) rfl T.z_str PyProof.Rows.boot_str (aa (aD (iv 0) ac rfl rfl) ae rfl) (by decide) (by decide) rfl rfl) rfl rfl rfl rfl rfl) rfl (.inl rfl)) (al (ay (aq (aW rfl) (aq (aW rfl) (aq (aW rfl) (iv 1) au) (lT au (aa (dm (p9 (qf (ah aQ).names ["_law_rule_here","_law_mark"] ["_law_one"] 1 [] rfl rfl rfl (by decide +kernel)) rfl (by decide) (ln (aD (iv 0) (lp ac) rfl rfl) rfl) (λ_ _ _ _ _=>(d9 (ek (i:=0) (show List.Nodup (α:=Str) ["_law_one"] by decide +kernel) rfl (.inl rfl)))) (λ_ _ _ _ _=>lO) (λ_ _ _ _ _=>(ap ih (Nat.le_refl _) hr rfl T.m16 T.F16.kp T.b16 (aa (iv 0) ae rfl) (by decide) rfl rfl)) (λ_=>rfl))) ae rfl) rfl rfl rfl rfl)) au))))))
theorem el (T:Txt P w K mg t):∀ n:Nat,bp P w K mg base CX0 (0+n) t.f16 t.g16 ["_law_rule_here"] (spI K (aK n))
 | 0=>⟨λ_ _ _ _ ⟨_,_,_,_,h,_⟩=>(nomatch h),λ_ _ _ _ _ _ _ _ _ _ _ _ _ ⟨_,_,_,_,h,_⟩=>(nomatch h)⟩
 | n+1=>show bp P w K mg base CX0 (0+n+1) t.f16 t.g16 ["_law_rule_here"] (spI K (bj (List.length (α:=Str) ["_law_rule_here","_law_mark"]) (List.length (α:=Str) ["_law_rule_here"]) (bX (aK n)))) from fj (N:=["_law_rule_here","_law_mark"]) (ps:=["_law_rule_here"]) (k:=0+n) (b:=bX (aK n)) T.F16 et (λcdv A outer s H E hr=>fP T n (el T n) cdv A outer s H E hr)
theorem iD (T:Txt P w K mg t):Bdy P w K mg base 0 ["_law_found","_law_due"] "_law_same" ck t.f17 cZ:=
 λ_ _ _ _ _ _ hr=>(al (ay (fz (cz hr rfl) (cF (kJ hr rfl) rfl T.z_repr PyProof.Rows.boot_repr (aa (iv 0) ae rfl) (by decide) (by decide) rfl rfl) (cF (kJ hr rfl) rfl T.z_repr PyProof.Rows.boot_repr (aa (iv 1) ae rfl) (by decide) (by decide) rfl rfl) (aJ _))))
theorem fN (T:Txt P w K mg t):bp P w K mg base CX0 1 t.f17 t.g17 ["_law_found","_law_due"] (spI K bA):=
 fj (N:=["_law_found","_law_due"]) (b:=cZ) T.F17 ju (iD T)
theorem oC (T:Txt P w K mg t):Bdy P w K mg base 16 ["_law_script","_law_k","_law_hand_here","_law_turn","_law_rule_here","_law_text","_law_again"] "law" hC t.f18 me:=
 λ_ _ _ _ _ _ hr=>(ag (im (gQ rfl T.z_range (aa (aq (aW rfl) ac (cF (qR rfl) rfl T.z_min PyProof.Rows.boot_min (aa ac (aa (cF (ed rfl) rfl T.z_len PySem.boot_len (aa (iv 0) ae rfl) (by decide) (by decide) rfl rfl) ae rfl) rfl) (by decide) (by decide) rfl rfl)) ae rfl) rfl) (d9 (ek (i:=1) fH.nd rfl (.inl rfl))) (ag (ba (i:=2) fH.nd rfl (.inl rfl) (ap (jZ T) (by decide) hr rfl T.m12 T.F12.kp T.b12 (aa (iv 0) (aa (iv 1) ae rfl) rfl) (by decide) rfl rfl) rfl (.inl rfl)) (al (im (gQ rfl T.z_range (aa ac ae rfl) rfl) (d9 (ek (i:=3) fH.nd rfl (.inl rfl))) (ag (ba (i:=4) fH.nd rfl (.inl rfl) (ap (fX T 7) (by decide) hr rfl T.m15 T.F15.kp T.b15 (aa (iv 2) (aa (jy (eg (aa (aD (dm (eg (aa ac (aa ac (aa ac ae rfl) rfl) rfl))) (iv 3) rfl rfl) ae rfl))) (aa (aq (aW rfl) ac (ap (bm T) (by decide) hr rfl T.m13 T.F13.kp T.b13 (aa (iv 2) (aa ac ae rfl) rfl) (by decide) rfl rfl)) (aa ac ae rfl) rfl) rfl) rfl) (by decide) rfl rfl) rfl (.inl rfl)) (ag (ba (i:=5) fH.nd rfl (.inl rfl) (ap (el T 7) (by decide) hr rfl T.m16 T.F16.kp T.b16 (aa (iv 4) ae rfl) (by decide) rfl rfl) rfl (.inl rfl)) (al (im (gQ rfl T.z_range (aa ac ae rfl) rfl) (d9 (ek (i:=6) fH.nd rfl (.inl rfl))) (al (bq (gt (eB (fG (fv (ap (fN T) (by decide) hr rfl T.m17 T.F17.kp T.b17 (aa (ap (fY T 7) (by decide) hr rfl T.m0 T.F0.kp T.b0 (aa (iv 4) ae rfl) (by decide) rfl rfl) (aa (iv 5) ae rfl) rfl) (by decide) rfl rfl) rfl rfl)) (eW (fG (fv (ap (fN T) (by decide) hr rfl T.m17 T.F17.kp T.b17 (aa (ap (jX T) (by decide) hr rfl T.m11 T.F11.kp T.b11 (aa (iv 5) ae rfl) (by decide) rfl rfl) (aa (iv 4) ae rfl) rfl) (by decide) rfl rfl) rfl rfl))))) (al (ay kz)) aF)) PassesOwn.never rfl (λ_=>rfl))))) PassesOwn.never rfl (λ_=>rfl)))) PassesOwn.never rfl (λ_=>rfl)) (al (ay kz)))
theorem qF (T:Txt P w K mg t):bp P w K mg base CX0 17 t.f18 t.g18 ["_law_script"] (spI K kX):=
 rq (N:=["_law_script","_law_k","_law_hand_here","_law_turn","_law_rule_here","_law_text","_law_again"]) (b:=me) T.F18 fH (oC T)
end
end Own
end
namespace L2
open PySem
noncomputable def Hd (st:Sto) (n:Nat) (Z:Int):Prop:=∃ x y z:Int,0<=x/\0<=z/\z<=Z/\st[n]?=some [.int x,.int y,.int z]
noncomputable def Stw (n:Nat) (st st':Sto):Prop:=∃ v,st'=st.set n v
theorem Hd.lt {st:Sto}{n:Nat}{Z:Int} (h:Hd st n Z):n < st.length:=by
 obtain⟨x,y,z,_,_,_,e⟩:=h
 exact (List.getElem?_eq_some_iff.mp e).1
theorem Hd.mono {st:Sto}{n:Nat}{Z Z':Int} (h:Hd st n Z) (hz:Z<=Z'):Hd st n Z':=by
 obtain⟨x,y,z,a,b,c,e⟩:=h
 exact⟨x,y,z,a,b,Int.le_trans c hz,e⟩
theorem Stw.refl {st:Sto}{n:Nat} (h:n < st.length):Stw n st st:=⟨st[n],(List.set_getElem_self h).symm⟩
theorem Stw.trans {n:Nat}{a b c:Sto} (h:Stw n a b) (h':Stw n b c):Stw n a c:=by
 obtain⟨v,rfl⟩:=h
 obtain⟨u,rfl⟩:=h'
 exact⟨u,by rw [List.set_set]⟩
theorem Stw.len {n:Nat}{a b:Sto} (h:Stw n a b):b.length=a.length:=by obtain⟨v,rfl⟩:=h;rw [List.length_set]
theorem Stw.get {n m:Nat}{a b:Sto} (h:Stw n a b) (hm:m≠n):b[m]?=a[m]?:=by obtain⟨v,rfl⟩:=h;rw [List.getElem?_set_ne (Ne.symm hm)]
theorem Stw.take {n:Nat}{a b:Sto} (h:Stw n a b):b.take a.length=b:=by rw [<-h.len,List.take_length]
theorem Hd.app {st:Sto}{n:Nat}{Z:Int} (h:Hd st n Z) (u:List (List D)):Hd (st++u) n Z:=by
 obtain⟨x,y,z,a,b,c,e⟩:=id h
 exact⟨x,y,z,a,b,c,by rw [List.getElem?_append_left h.lt];exact e⟩
theorem Stw.unapp {n:Nat}{a s:Sto}{u:List (List D)} (hn:n < a.length) (h:Stw n (a++u) s):∃ b,s=b++u/\Stw n a b:=by
 obtain⟨v,rfl⟩:=h
 rw [List.set_append_left _ _ hn]
 exact⟨_,rfl,v,rfl⟩
theorem Hd.unapp {b u:Sto}{n:Nat}{Z:Int} (hn:n < b.length) (h:Hd (b++u) n Z):Hd b n Z:=by
 obtain⟨x,y,z,p,q,r,e⟩:=h
 exact⟨x,y,z,p,q,r,by rw [List.getElem?_append_left hn] at e;exact e⟩
end L2
namespace L2
noncomputable def Trm (n:Nat) (t:List Int):Prop:=t.Pairwise (· < ·)/\∀ k ∈ t,0<=k/\k < n
theorem Trm.mono {n m:Nat}{t:List Int} (h:Trm n t) (hn:n<=m):Trm m t:=⟨h.1,λk hk=>⟨(h.2 k hk).1,by have:=(h.2 k hk).2;lia⟩⟩
noncomputable def onI (row k:Int):Int:=row / 2 ^ k.toNat % 2
theorem sA (row k:Int):onI row k=0\/onI row k=1:=by unfold onI;lia
end L2
namespace L2
end L2
namespace L2
open PySem
end L2
namespace L2
open PySem
end L2
namespace L2
open PySem
inductive Gw where | all | any | odd | least
inductive Ru where
 | sw (k:Int)
 | nt (r:Ru)
 | gr (g:Gw) (k:Int) (rs:List Ru)
noncomputable def Gw.wd:Gw->Str
 | .all=>"all"
 | .any=>"any"
 | .odd=>"odd"
 | .least=>"least"
noncomputable def grD (g:Gw) (k:Int) (ds:List D):D:=match g with
 | .least=>.tup [.str "least",.int k,.tup ds]
 | .all=>.tup [.str "all",.tup ds]
 | .any=>.tup [.str "any",.tup ds]
 | .odd=>.tup [.str "odd",.tup ds]
mutual
noncomputable def toD:Ru->D
 | .sw k=>.tup [.str "switch",.int k]
 | .nt r=>.tup [.str "not",toD r]
 | .gr g k rs=>grD g k (aA rs)
noncomputable def aA:List Ru->List D
 | []=>[]
 | r::rs=>toD r::aA rs
end
noncomputable def gv (g:Gw) (k len s:Int):Int:=match g with
 | .all=>if s=len then 1 else 0
 | .any=>if s > 0 then 1 else 0
 | .odd=>s % 2
 | .least=>if s>=k then 1 else 0
mutual
noncomputable def ev (row:Int):Ru->Int
 | .sw k=>onI row k
 | .nt r=>if ev row r=0 then 1 else 0
 | .gr g k rs=>gv g k rs.length (evs row rs)
noncomputable def evs (row:Int):List Ru->Int
 | []=>0
 | r::rs=>ev row r+evs row rs
end
mutual
noncomputable def dep:Ru->Nat
 | .sw _=>1
 | .nt r=>dep r+1
 | .gr _ _ rs=>ca rs+1
noncomputable def ca:List Ru->Nat
 | []=>0
 | r::rs=>max (dep r) (ca rs)
end
mutual
noncomputable def cnt:Ru->Int
 | .sw _=>1
 | .nt r=>1+cnt r
 | .gr _ _ rs=>1+bz rs
noncomputable def bz:List Ru->Int
 | []=>0
 | r::rs=>cnt r+bz rs
end
mutual
noncomputable def aN (m:Int):Ru->Prop
 | .sw k=>0<=k/\k < m
 | .nt r=>aN m r
 | .gr _ k rs=>0<=k/\k<=9/\rs.length<=6/\aX m rs
noncomputable def aX (m:Int):List Ru->Prop
 | []=>True
 | r::rs=>aN m r/\aX m rs
end
mutual
noncomputable def put (f:Int->Ru):Ru->Ru
 | .sw k=>f k
 | .nt r=>.nt (put f r)
 | .gr g k rs=>.gr g k (fu f rs)
noncomputable def fu (f:Int->Ru):List Ru->List Ru
 | []=>[]
 | r::rs=>put f r::fu f rs
end
theorem cR:∀ rs:List Ru,aA rs=rs.map toD
 | []=>by rw [aA];rfl
 | r::rs=>by rw [aA,cR rs];rfl
theorem kS (f:Int->Ru):∀ rs:List Ru,fu f rs=rs.map (put f)
 | []=>by rw [fu];rfl
 | r::rs=>by rw [fu,kS f rs];rfl
theorem kU (f:Int->Ru) (rs:List Ru):(fu f rs).length=rs.length:=by rw [kS,List.length_map]
theorem hJ:∀ {rs:List Ru}{n:Nat},ca rs<=n->∀ r ∈ rs,dep r<=n
 | [],n,_,r,h=>by cases h
 | x::rs,n,hd,r,h=>by
  rw [ca] at hd
  rcases List.mem_cons.mp h with rfl | h
  ·lia
  ·exact hJ (rs:=rs) (by lia) r h
theorem gp:∀ {m:Int}{rs:List Ru},aX m rs->∀ r ∈ rs,aN m r
 | m,[],_,r,h=>by cases h
 | m,x::rs,hg,r,h=>by
  rw [aX] at hg
  rcases List.mem_cons.mp h with rfl | h
  ·exact hg.1
  ·exact gp (rs:=rs) hg.2 r h
theorem i4 {m:Int}:∀ {rs:List Ru}{r:Ru},aX m rs->aN m r->aX m (rs++[r])
 | [],r,_,h=>by show aX m [r];rw [aX,aX];exact⟨h,trivial⟩
 | x::rs,r,hg,h=>by
  rw [aX] at hg
  show aX m (x::(rs++[r]))
  rw [aX];exact⟨hg.1,i4 hg.2 h⟩
theorem kA {n:Nat}:∀ {rs:List Ru}{r:Ru},ca rs<=n->dep r<=n->ca (rs++[r])<=n
 | [],r,_,h=>by show ca [r]<=n;rw [ca,ca];lia
 | x::rs,r,hg,h=>by
  rw [ca] at hg
  show ca (x::(rs++[r]))<=n
  rw [ca]
  have:=kA (rs:=rs) (r:=r) (n:=n) (by lia) h
  lia
theorem kW:∀ {rs:List Ru}{r:Ru},bz (rs++[r])=bz rs+cnt r
 | [],r=>by show bz [r]=_;rw [bz,bz,bz];lia
 | x::rs,r=>by
  show bz (x::(rs++[r]))=_
  rw [bz,bz,kW (rs:=rs)];lia
mutual
theorem oq {m:Int}{f:Int->Ru}{row row':Int} (h:∀ k,0<=k->k < m->ev row (f k)=onI row' k):∀ r:Ru,aN m r->ev row (put f r)=ev row' r
 | .sw k,hg=>by
  rw [aN] at hg
  rw [put,ev]
  exact h k hg.1 hg.2
 | .nt r,hg=>by
  rw [aN] at hg
  rw [put,ev,ev,oq h r hg]
 | .gr g k rs,hg=>by
  rw [aN] at hg
  rw [put,ev,ev,kU,lQ h rs hg.2.2.2]
theorem lQ {m:Int}{f:Int->Ru}{row row':Int} (h:∀ k,0<=k->k < m->ev row (f k)=onI row' k):∀ rs:List Ru,aX m rs->evs row (fu f rs)=evs row' rs
 | [],_=>by rw [fu,evs,evs]
 | r::rs,hg=>by
  rw [aX] at hg
  rw [fu,evs,evs,oq h r hg.1,lQ h rs hg.2]
end
mutual
theorem kI {m m':Int}{f:Int->Ru} (h:∀ k,0<=k->k < m->aN m' (f k)):∀ r:Ru,aN m r->aN m' (put f r)
 | .sw k,hg=>by
  rw [aN] at hg
  rw [put]
  exact h k hg.1 hg.2
 | .nt r,hg=>by
  rw [aN] at hg
  rw [put,aN]
  exact kI h r hg
 | .gr g k rs,hg=>by
  rw [aN] at hg
  rw [put,aN,kU]
  exact⟨hg.1,hg.2.1,hg.2.2.1,jg h rs hg.2.2.2⟩
theorem jg {m m':Int}{f:Int->Ru} (h:∀ k,0<=k->k < m->aN m' (f k)):∀ rs:List Ru,aX m rs->aX m' (fu f rs)
 | [],_=>by rw [fu,aX];trivial
 | r::rs,hg=>by
  rw [aX] at hg
  rw [fu,aX]
  exact⟨kI h r hg.1,jg h rs hg.2⟩
end
mutual
theorem lW {m:Int}{f:Int->Ru} (h:∀ k,0<=k->k < m->dep (f k)<=2):∀ r:Ru,aN m r->dep (put f r)<=dep r+1
 | .sw k,hg=>by
  rw [aN] at hg
  rw [put,dep]
  exact h k hg.1 hg.2
 | .nt r,hg=>by
  rw [aN] at hg
  rw [put,dep,dep]
  have:=lW h r hg
  lia
 | .gr g k rs,hg=>by
  rw [aN] at hg
  rw [put,dep,dep]
  have:=kY h rs hg.2.2.2
  lia
theorem kY {m:Int}{f:Int->Ru} (h:∀ k,0<=k->k < m->dep (f k)<=2):∀ rs:List Ru,aX m rs->ca (fu f rs)<=ca rs+1
 | [],_=>by rw [fu,ca];lia
 | r::rs,hg=>by
  rw [aX] at hg
  rw [fu,ca,ca]
  have h1:=lW h r hg.1
  have h2:=kY h rs hg.2
  lia
end
mutual
theorem uw (row:Int):∀ r:Ru,ev row r=0\/ev row r=1
 | .sw k=>by rw [ev];exact sA row k
 | .nt r=>by rw [ev];split<;>simp
 | .gr g k rs=>by
  rw [ev]
  cases g with
  | all=>show (if _ then (1:Int) else 0)=0\/_;split<;>simp [gv, *]
  | any=>show (if _ then (1:Int) else 0)=0\/_;split<;>simp [gv, *]
  | odd=>show evs row rs % 2=0\/evs row rs % 2=1;lia
  | least=>show (if _ then (1:Int) else 0)=0\/_;split<;>simp [gv, *]
end
noncomputable def sp:List (Nat×Nat)->Nat
 | []=>0
 | (a,b)::r=>b*2 ^ a+sp r
end L2
section
set_option maxHeartbeats 1000000
namespace Own
open PySem L2
theorem dn {st:Sto}{n:Nat}{m:Int} (h:bT st n) (m0:0 < m) (m1:m < 1073741824):∃ r st',0<=r/\r < m/\Stp n st st'/\aI [.h n,.d (.int m)] st=some (.d (.int r),st'):=by
 have hn:=h.lt
 obtain⟨x,y,z,h0,h⟩:=h
 by_cases hx:0 < x
 ·refine⟨x % m,st.set n [.int (x / m),.int y,.int z],Int.emod_nonneg _ (by lia),Int.emod_lt_of_pos _ m0,⟨⟨_,rfl⟩,_,_,_,Int.ediv_nonneg h0 (by lia),gR hn⟩,?_⟩
  simp only [aI,cX,iV,iC,iOp,aB,ao,aj,aT,dU,cv,ax,aH,bj,bV,bN,bt,lsD,dIx,bf,eK,eM,fU,dGt,Option.bind_some,Option.map_some,List.getD_cons_zero,List.getD_cons_succ,List.set_cons_zero,List.set_cons_succ,List.map_cons,List.map_nil,List.length_cons,List.length_nil,List.replicate_succ,List.replicate_zero,List.cons_append,List.nil_append,Nat.reduceAdd,Nat.reduceSub,if_true,d2,iQ,Nat.zero_add,and_self,decide_true,h,hx,m0,m1,decide_true,and_self]
 ·have hy0:0<=(y*39373+12345+31*(z+1)) % 2147483647:=Int.emod_nonneg _ (by decide)
  have hy1:(y*39373+12345+31*(z+1)) % 2147483647 < 2147483647:=Int.emod_lt_of_pos _ (by decide)
  have k1:PySem.IntMulOk y 39373:=jn (by decide)
  have k2:PySem.IntMulOk 31 (z+1):=kd (by decide)
  have k3:∀ q,PySem.IntMulOk ((y*39373+12345+31*(z+1)) % 2147483647) q:=λq=>kd (by lia)
  refine⟨(y*39373+12345+31*(z+1)) % 2147483647*((y*39373+12345+31*(z+1)) % 2147483647 % 40009+3) % 2147483629 / 64 % m,st.set n [.int x,.int ((y*39373+12345+31*(z+1)) % 2147483647),.int (z+1)],Int.emod_nonneg _ (by lia),Int.emod_lt_of_pos _ m0,⟨⟨_,rfl⟩,_,_,_,h0,gR hn⟩,?_⟩
  simp only [aI,cX,iV,iC,iOp,aB,ao,aj,aT,dU,cv,ax,aH,bj,bV,bN,bt,lsD,dIx,bf,eK,eM,fU,dGt,Option.bind_some,Option.map_some,List.getD_cons_zero,List.getD_cons_succ,List.set_cons_zero,List.set_cons_succ,List.map_cons,List.map_nil,List.length_cons,List.length_nil,List.replicate_succ,List.replicate_zero,List.cons_append,List.nil_append,Nat.reduceAdd,Nat.reduceSub,if_true,if_false,Bool.false_eq_true,d2,kF,sK,iQ,tT,tY,Nat.zero_add,and_self,decide_false,h,hx,m0,m1,decide_false,and_self,gR hn,List.set_set,k1,k2,k3,show (0:Int) < 2147483647 by decide,show (0:Int) < 40009 by decide,show (0:Int) < 2147483629 by decide,show (0:Int) < 64 by decide,show (64:Int) < 1073741824 by decide]
theorem pB {st:Sto}{ns:List Int}{k:Nat}:∃ x y:Int,0<=x/\dc [.d (.scr ns),.d (.int k)] st=some (.h st.length,st++[[.int x,.int y,.int 0]]):=by
 have p60':kZ 10 60:=p60
 have p18':kZ 10 18:=p18
 have k1:∀ q,PySem.IntMulOk 7919 q:=λq=>kd (by decide)
 have k2:∀ q,PySem.IntMulOk q 48271:=λq=>jn (by decide)
 have k3:∀ (q:Int) (b:Bool),PySem.IntMulOk q (if b=true then 1 else 0):=λq b=>jn ⟨tL b,sH b⟩
 have hf:=jw
 by_cases hk:(k:Int) < ((ns.map D.int).length:Nat)
 ·have hk':k < ns.length:=by rw [List.length_map] at hk;lia
  have e:atI (ns.map D.int) (k:Int)=some (.int ns[k]):=gi (by rw [List.getElem?_map,List.getElem?_eq_getElem hk'];rfl)
  refine⟨(if ns[k] < 0 then -ns[k] else ns[k]) % (10 ^ Int.toNat 60*10 ^ Int.toNat 60*10 ^ Int.toNat 60*10 ^ Int.toNat 60)*(if decide (10 ^ Int.toNat 18<=(if ns[k] < 0 then -ns[k] else ns[k]))=true then 1 else 0),(ns[k] % 2147483629+7919*(k:Int)+11)*48271 % 2147483647,Int.mul_nonneg (Int.emod_nonneg _ (Int.ne_of_gt jw)) (pV _),?_⟩
  ·simp only [dc,da,iV,iC,iOp,aB,ai,ab,iCB,cQ,fI,ao,aj,aT,ax,aH,bj,bV,cp,bN,bt,lsD,dIx,bf,eK,fU,jp,dLt,dGe,cM,nW,pK,Option.bind_some,Option.map_some,List.getD_cons_zero,List.getD_cons_succ,List.set_cons_zero,List.set_cons_succ,List.map_cons,List.map_nil,List.length_cons,List.length_nil,List.replicate_succ,List.replicate_zero,List.cons_append,List.nil_append,Nat.reduceAdd,Nat.reduceSub,if_true,Nat.zero_add,decide_true,hk,e,decide_true,p60',p18',k1,k2,k3,sR,sn,tm,hf,show (0:Int) < 2147483647 by decide,show (0:Int) < 2147483629 by decide,show (3:Nat)<=1000 by decide]
 ·refine⟨(if (0:Int) < 0 then -0 else 0) % (10 ^ Int.toNat 60*10 ^ Int.toNat 60*10 ^ Int.toNat 60*10 ^ Int.toNat 60)*(if decide (10 ^ Int.toNat 18<=(if (0:Int) < 0 then -0 else (0:Int)))=true then 1 else 0),(0 % 2147483629+7919*(k:Int)+11)*48271 % 2147483647,Int.mul_nonneg (Int.emod_nonneg _ (Int.ne_of_gt jw)) (pV _),?_⟩
  ·simp only [dc,da,iV,iC,iOp,aB,ai,ab,iCB,cQ,fI,ao,aj,aT,ax,aH,bj,bV,cp,bN,bt,lsD,dIx,bf,eK,fU,jp,dLt,dGe,cM,nW,pK,Option.bind_some,Option.map_some,List.getD_cons_zero,List.getD_cons_succ,List.set_cons_zero,List.set_cons_succ,List.map_cons,List.map_nil,List.length_cons,List.length_nil,List.replicate_succ,List.replicate_zero,List.cons_append,List.nil_append,Nat.reduceAdd,Nat.reduceSub,if_true,if_false,Bool.false_eq_true,Nat.zero_add,decide_false,hk,decide_false,p60',p18',k1,k2,k3,sR,sn,tm,hf,show (0:Int) < 2147483647 by decide,show (0:Int) < 2147483629 by decide,show (3:Nat)<=1000 by decide]
theorem pv {st:Sto}{n:Nat}{ds:List D} (h:bT st n) (h0:ds≠[]) (h1:ds.length < 1000000):∃ d st',d ∈ ds/\Stp n st st'/\dL [.h n,.d (.lst ds)] st=some (.d d,st'):=by
 have hp:0 < ds.length:=List.length_pos_iff.mpr h0
 obtain⟨r,s1,r0,r1,t1,e1⟩:=dn h (m:=(ds.length:Int)) (by lia) (by lia)
 obtain⟨j,rfl⟩:=Int.eq_ofNat_of_zero_le r0
 have hj:j < ds.length:=by lia
 have e2:atI ds (j:Int)=some ds[j]:=gi (List.getElem?_eq_getElem hj)
 refine⟨ds[j],s1,List.getElem_mem hj,t1,?_⟩
 simp only [dL,dJ,iV,iOp,ai,ab,iCB,am,ax,bj,bt,dIx,cM,Option.bind_some,Option.map_some,List.getD_cons_zero,List.getD_cons_succ,List.map_cons,List.map_nil,List.length_cons,List.length_nil,List.replicate_zero,List.cons_append,List.nil_append,Nat.reduceAdd,Nat.reduceSub,if_true,Nat.zero_add,e1,e2]
theorem iw:(("switch" : Str)==("least" : Str))=false:=by decide +kernel
theorem d7:(("not" : Str)==("switch" : Str))=false:=by decide +kernel
theorem kr:(("not" : Str)==("least" : Str))=false:=by decide +kernel
theorem ge:(("all" : Str)==("switch" : Str))=false:=by decide +kernel
theorem jk:(("all" : Str)==("not" : Str))=false:=by decide +kernel
theorem eN:(("all" : Str)==("least" : Str))=false:=by decide +kernel
theorem fK:(("any" : Str)==("switch" : Str))=false:=by decide +kernel
theorem i7:(("any" : Str)==("not" : Str))=false:=by decide +kernel
theorem eR:(("any" : Str)==("least" : Str))=false:=by decide +kernel
theorem fL:(("odd" : Str)==("switch" : Str))=false:=by decide +kernel
theorem ja:(("odd" : Str)==("not" : Str))=false:=by decide +kernel
theorem eP:(("odd" : Str)==("least" : Str))=false:=by decide +kernel
theorem gT:(("least" : Str)==("switch" : Str))=false:=by decide +kernel
theorem lh:(("least" : Str)==("not" : Str))=false:=by decide +kernel
theorem ar {g:Sto->W->W->Option D}{a b:Ef}{env:Ev}{st s1 s2:Sto}{x y:W}{d:D} (ha:a env st=some (x,s1)) (hb:b env s1=some (y,s2)) (hg:g s2 x y=some d):iOp g a b env st=some (.d d,s2):=by
 simp only [iOp,ha,hb,hg,Option.bind_some,Option.map_some]
theorem cu {g:Sto->W->W->Option D}{a b:Ef}{env:Ev}{st s1 s2:Sto}{x y:W}{k:Bool} (ha:a env st=some (x,s1)) (hb:b env s1=some (y,s2)) (hg:g s2 x y=some (.bl k)):aB g a b env st=some (k,s2):=by
 simp only [aB,ha,hb,hg,Option.bind_some,bN,Option.map_some]
theorem az {a b:Sf}{env e:Ev}{st s:Sto}{r:Fl} (ha:a env st=some (.nx e s)) (hb:b e s=some r):aj a b env st=some r:=by
 simp only [aj,ha,hb,Option.bind_some]
theorem dl {a b:Sf}{env:Ev}{st s:Sto}{w:W} (ha:a env st=some (.rt w s)):aj a b env st=some (.rt w s):=by
 simp only [aj,ha,Option.bind_some]
theorem bF {i:Nat}{f:Ef}{env:Ev}{st s:Sto}{w:W} (h:f env st=some (w,s)):aT (.nm i) f env st=some (.nx (env.set i (some w)) s):=by
 simp only [aT,h,Option.bind_some,bV,Option.map_some]
theorem bg {m:Fn}{a:Af}{env:Ev}{st s:Sto}{ws:List W}{r:W×Sto} (ha:a env st=some (ws,s)) (hm:m ws s=some r):am m a env st=some r:=by
 simp only [am,ha,hm,Option.bind_some]
theorem dh {g:Sto->List W->Option D}{a:Af}{env:Ev}{st s:Sto}{ws:List W}{d:D} (ha:a env st=some (ws,s)) (hm:g s ws=some d):iCB g a env st=some (.d d,s):=by
 simp only [iCB,ha,hm,Option.bind_some,Option.map_some]
theorem ak {a:Ef}{b:Af}{env:Ev}{st s1 s2:Sto}{x:W}{y:List W} (ha:a env st=some (x,s1)) (hb:b env s1=some (y,s2)):ab a b env st=some (x::y,s2):=by
 simp only [ab,ha,hb,Option.bind_some,Option.map_some]
theorem j7 {fi:Lf}{g:Tg}{b:Sf}{env:Ev}{st s:Sto}{ds:List D}{r:Fl} (h:fi env st=some (ds,s)) (hf:eE g b ds env s=some r):fe fi g b env st=some r:=by
 simp only [fe,h,hf,Option.bind_some]
theorem bE {f:Ef}{env:Ev}{st s:Sto}{w:W} (h:f env st=some (w,s)):ax f env st=some (.rt w s):=by
 simp only [ax,h,Option.map_some]
theorem gj {c:Tf}{a b:Sf}{env:Ev}{st s:Sto}{r:Option Fl} (h:c env st=some (true,s)) (ha:a env s=r):aH c a b env st=r:=by
 simp only [aH,h,Option.bind_some,if_true,ha]
theorem di {c:Tf}{a b:Sf}{env:Ev}{st s:Sto}{r:Option Fl} (h:c env st=some (false,s)) (hb:b env s=r):aH c a b env st=r:=by
 simp only [aH,h,Option.bind_some,Bool.false_eq_true,if_false,hb]
theorem rj {k:Nat}{js:List Nat}{fi:Lf}{g:Tg}{tt:Tf}{te:Ef}{env:Ev}{st s s2:Sto}{ds ys:List D} (h:fi env st=some (ds,s)) (hl:ds.length<=1000000) (hc:lcI g tt te (iR k js env) ds s=some (ys,s2)):iLc k js fi g tt te env st=some (ys,s2):=by
 simp only [iLc,h,hc,hl,Option.bind_some,if_true]
theorem kG {a:Lf}{env:Ev}{st s:Sto}{ds:List D} (h:a env st=some (ds,s)):bh a env st=some (.d (.lst ds),s):=by
 simp only [bh,h,Option.map_some]
theorem dw {n k:Nat}{b:Sf}{ws:List W}{st s:Sto}{w:W} (hl:ws.length=k) (h:b (ws.map some++List.replicate (n - k) none) st=some (.rt w s)):bj n k b ws st=some (w,s):=by
 simp only [bj,hl,if_true,h,Option.bind_some]
theorem kL {n k:Nat}{b:Sf}{ws:List W}{st s:Sto}{x:D} (hl:ws.length=k) (h:b (ws.map some++List.replicate (n - k) none) st=some (.rt (.d x) s)):dB n k b ws st=some (.d x,s.take st.length):=by
 simp only [dB,hl,if_true,h,Option.bind_some,gk]
end Own
end
section
set_option maxHeartbeats 1000000
namespace Own
open PySem L2
theorem ix0 (s:Sto) (a:D) (l:List D):dIx s (.d (.tup (a::l))) (.d (.int 0))=some a:=by simp only [dIx,bt,Option.bind_some,d2]
theorem ix1 (s:Sto) (a b:D) (l:List D):dIx s (.d (.tup (a::b::l))) (.d (.int 1))=some b:=by simp only [dIx,bt,Option.bind_some,kF]
theorem mJ (s:Sto) (a b:D):dIx s (.d (.tup [a,b])) (.d (.int (-1)))=some b:=by simp only [dIx,bt,Option.bind_some];exact ko [a] b
theorem sW (s:Sto) (a b c:D):dIx s (.d (.tup [a,b,c])) (.d (.int (-1)))=some c:=by simp only [dIx,bt,Option.bind_some];exact ko [a,b] c
theorem fJ:∀ r:Ru,1<=dep r
 | .sw _=>by rw [dep];lia
 | .nt _=>by rw [dep];lia
 | .gr _ _ _=>by rw [dep];lia
theorem mV (n:Nat):inD (.int (n:Int)) [.int 2,.int 3]=(decide (n=2) || decide (n=3)):=by
 unfold inD
 simp only [List.any_cons,List.any_nil,eqD,Bool.or_false]
 congr 1
 ·rw [Bool.eq_iff_iff];simp;lia
 ·rw [Bool.eq_iff_iff];simp;lia
theorem ne2 (n:Nat):((n:Int)==2)=decide (n=2):=by rw [Bool.eq_iff_iff];simp;lia
theorem ne3 (n:Nat):((n:Int)==3)=decide (n=3):=by rw [Bool.eq_iff_iff];simp;lia
theorem tH:inD (.str "all") [.str "all",.str "any",.str "odd"]=true:=by decide +kernel
theorem tz:inD (.str "any") [.str "all",.str "any",.str "odd"]=true:=by decide +kernel
theorem tB:inD (.str "odd") [.str "all",.str "any",.str "odd"]=true:=by decide +kernel
theorem iY {st:Sto}{i lo hi:Int} (h0:lo<=i) (h1:i<=hi):db [.d (.int i),.d (.int lo),.d (.int hi)] st=some (.d (.bl true),st):=by
 simp only [db,dI,fB,d3,iV,iC,jN,mi,cT,ai,ab,iCB,am,ax,bj,bN,blW,dLe,eu,dQ,lb,j0,Option.bind_some,Option.map_some,List.getD_cons_zero,List.getD_cons_succ,List.map_cons,List.map_nil,List.length_cons,List.length_nil,List.replicate_zero,List.cons_append,List.nil_append,Nat.reduceAdd,Nat.reduceSub,if_true,Bool.not_false,Nat.zero_add,decide_true,h0,h1]
theorem rZ {st:Sto}{ds:List D} (h:ds.length<=6):bw [.d (.tup ds)] st=some (.d (.bl true),st):=by
 have e:decide ((ds.length:Int)<=6)=true:=decide_eq_true (by lia)
 simp only [bw,bU,iV,iC,iOp,cT,ai,ab,iCB,ax,bj,blW,bt,dLe,cM,eu,dQ,bd,Option.bind_some,Option.map_some,List.getD_cons_zero,List.map_cons,List.map_nil,List.length_cons,List.length_nil,List.replicate_zero,List.cons_append,List.nil_append,Nat.reduceSub,if_true,Nat.zero_add,e]
theorem oZ {st:Sto}:∀ (r:Ru),aN 6 r->bI [.d (toD r)] st=some (.d (.bl true),st)
 | .sw k,hg=>by
  rw [aN] at hg
  rw [toD]
  have hw:=iY (st:=st) (i:=k) (lo:=0) (hi:=5) hg.1 (by lia)
  simp only [bI,bH,bK,iV,iC,iOp,aB,cT,cb,cI,dz,ai,ab,iCB,am,aw,ao,aj,aT,ax,aH,bj,bV,cp,bN,blW,bt,dIx,dIn,dA,dEq,dNe,bc,eqK,eqD,cM,eu,dQ,cj,bd,dE,cg,Option.bind_some,Option.map_some,List.getD_cons_zero,List.getD_cons_succ,List.set_cons_zero,List.set_cons_succ,List.map_cons,List.map_nil,List.length_cons,List.length_nil,List.replicate_succ,List.replicate_zero,List.cons_append,List.nil_append,Nat.reduceAdd,Nat.reduceSub,if_true,if_false,Bool.false_eq_true,Bool.not_true,d2,kF,Nat.zero_add,List.all_cons,List.all_nil,Bool.and_self,Bool.or_false,and_self,decide_true,decide_false,mV,ne2,ne3,iw,beq_self_eq_true,hw,show (2:Nat)<=1000 by decide,Nat.reduceEqDiff]
 | .nt r,hg=>by
  rw [toD]
  generalize toD r=x
  simp only [bI,bH,bK,iV,iC,iOp,aB,cT,cb,cI,dz,ai,ab,iCB,am,aw,ao,aj,aT,ax,aH,bj,bV,cp,bN,blW,bt,dIx,dIn,dA,dEq,dNe,bc,eqK,eqD,cM,eu,dQ,cj,bd,dE,cg,Option.bind_some,Option.map_some,List.getD_cons_zero,List.getD_cons_succ,List.set_cons_zero,List.set_cons_succ,List.map_cons,List.map_nil,List.length_cons,List.length_nil,List.replicate_succ,List.replicate_zero,List.cons_append,List.nil_append,Nat.reduceAdd,Nat.reduceSub,if_true,if_false,Bool.false_eq_true,Bool.not_true,d2,kF,Nat.zero_add,List.all_cons,List.all_nil,Bool.and_self,Bool.or_false,and_self,decide_true,decide_false,mV,ne2,ne3,d7,kr,beq_self_eq_true,show (2:Nat)<=1000 by decide,Nat.reduceEqDiff]
 | .gr g k rs,hg=>by
  rw [aN] at hg
  have hr:=rZ (st:=st) (ds:=aA rs) (by rw [cR,List.length_map];exact hg.2.2.1)
  have hw:=iY (st:=st) (i:=k) (lo:=0) (hi:=9) hg.1 hg.2.1
  rw [toD]
  generalize aA rs=ds at hr ⊢
  cases g with
  | all=>simp only [grD,bI,bH,bK,iV,iC,iOp,aB,cT,cb,cI,dz,ai,ab,iCB,am,aw,ao,aj,aT,ax,aH,bj,bV,cp,bN,blW,bt,dIx,dIn,dA,dEq,dNe,bc,eqK,eqD,cM,eu,dQ,cj,bd,dE,cg,Option.bind_some,Option.map_some,List.getD_cons_zero,List.getD_cons_succ,List.set_cons_zero,List.set_cons_succ,List.map_cons,List.map_nil,List.length_cons,List.length_nil,List.replicate_succ,List.replicate_zero,List.cons_append,List.nil_append,Nat.reduceAdd,Nat.reduceSub,if_true,if_false,Bool.false_eq_true,Bool.not_true,d2,kF,Nat.zero_add,List.all_cons,List.all_nil,Bool.and_self,Bool.or_false,and_self,decide_true,decide_false,mV,ne2,ne3,ge,jk,eN,tH,hr,show (2:Nat)<=1000 by decide,show (3:Nat)<=1000 by decide,Nat.reduceEqDiff]
  | any=>simp only [grD,bI,bH,bK,iV,iC,iOp,aB,cT,cb,cI,dz,ai,ab,iCB,am,aw,ao,aj,aT,ax,aH,bj,bV,cp,bN,blW,bt,dIx,dIn,dA,dEq,dNe,bc,eqK,eqD,cM,eu,dQ,cj,bd,dE,cg,Option.bind_some,Option.map_some,List.getD_cons_zero,List.getD_cons_succ,List.set_cons_zero,List.set_cons_succ,List.map_cons,List.map_nil,List.length_cons,List.length_nil,List.replicate_succ,List.replicate_zero,List.cons_append,List.nil_append,Nat.reduceAdd,Nat.reduceSub,if_true,if_false,Bool.false_eq_true,Bool.not_true,d2,kF,Nat.zero_add,List.all_cons,List.all_nil,Bool.and_self,Bool.or_false,and_self,decide_true,decide_false,mV,ne2,ne3,fK,i7,eR,tz,hr,show (2:Nat)<=1000 by decide,show (3:Nat)<=1000 by decide,Nat.reduceEqDiff]
  | odd=>simp only [grD,bI,bH,bK,iV,iC,iOp,aB,cT,cb,cI,dz,ai,ab,iCB,am,aw,ao,aj,aT,ax,aH,bj,bV,cp,bN,blW,bt,dIx,dIn,dA,dEq,dNe,bc,eqK,eqD,cM,eu,dQ,cj,bd,dE,cg,Option.bind_some,Option.map_some,List.getD_cons_zero,List.getD_cons_succ,List.set_cons_zero,List.set_cons_succ,List.map_cons,List.map_nil,List.length_cons,List.length_nil,List.replicate_succ,List.replicate_zero,List.cons_append,List.nil_append,Nat.reduceAdd,Nat.reduceSub,if_true,if_false,Bool.false_eq_true,Bool.not_true,d2,kF,Nat.zero_add,List.all_cons,List.all_nil,Bool.and_self,Bool.or_false,and_self,decide_true,decide_false,mV,ne2,ne3,fL,ja,eP,tB,hr,show (2:Nat)<=1000 by decide,show (3:Nat)<=1000 by decide,Nat.reduceEqDiff]
  | least=>simp only [grD,bI,bH,bK,iV,iC,iOp,aB,cT,cb,cI,dz,ai,ab,iCB,am,aw,ao,aj,aT,ax,aH,bj,bV,cp,bN,blW,bt,dIx,dIn,dA,dEq,dNe,bc,eqK,eqD,cM,eu,dQ,cj,bd,dE,cg,Option.bind_some,Option.map_some,List.getD_cons_zero,List.getD_cons_succ,List.set_cons_zero,List.set_cons_succ,List.map_cons,List.map_nil,List.length_cons,List.length_nil,List.replicate_succ,List.replicate_zero,List.cons_append,List.nil_append,Nat.reduceAdd,Nat.reduceSub,if_true,if_false,Bool.false_eq_true,Bool.not_true,d2,kF,sK,Nat.zero_add,List.all_cons,List.all_nil,Bool.and_self,Bool.or_true,and_self,decide_true,decide_false,mV,ne3,hr,hw,beq_self_eq_true,show (2:Nat)<=1000 by decide,show (3:Nat)<=1000 by decide,Nat.reduceEqDiff]
theorem nV {st:Sto}{k:Int}:br [.d (.tup [.str "switch",.int k])] st=some (.d (.tup []),st):=by
 simp only [br,bL,iV,iC,iOp,aB,iUn,ai,ab,aw,ao,aj,ax,aH,bj,cp,bN,dEq,bc,eqK,eqD,e7,Option.bind_some,Option.map_some,List.getD_cons_zero,List.map_cons,List.map_nil,List.length_cons,List.length_nil,List.replicate_zero,List.cons_append,List.nil_append,Nat.reduceSub,if_true,Nat.zero_add,ix0,beq_self_eq_true,show (0:Nat)<=1000 by decide]
theorem nM {st:Sto}{x:D}:br [.d (.tup [.str "not",x])] st=some (.d (.tup [x]),st):=by
 simp only [br,bL,iV,iC,iOp,aB,iUn,ai,ab,aw,ao,aj,ax,aH,bj,cp,bN,dEq,bc,eqK,eqD,e7,Option.bind_some,Option.map_some,List.getD_cons_zero,List.map_cons,List.map_nil,List.length_cons,List.length_nil,List.replicate_zero,List.cons_append,List.nil_append,Nat.reduceSub,if_true,if_false,Bool.false_eq_true,Nat.zero_add,ix0,ix1,d7,beq_self_eq_true,show (1:Nat)<=1000 by decide]
theorem oo {st:Sto}{g:Gw}{k:Int}{ds:List D}:br [.d (grD g k ds)] st=some (.d (.tup ds),st):=by
 cases g with
 | all=>simp only [grD,br,bL,iV,iC,iOp,aB,iUn,ai,ab,aw,ao,aj,ax,aH,bj,cp,bN,dEq,bc,eqK,eqD,e7,Option.bind_some,Option.map_some,List.getD_cons_zero,List.map_cons,List.map_nil,List.length_cons,List.length_nil,List.replicate_zero,List.cons_append,List.nil_append,Nat.reduceSub,if_true,if_false,Bool.false_eq_true,Nat.zero_add,ix0,mJ,ge,jk]
 | any=>simp only [grD,br,bL,iV,iC,iOp,aB,iUn,ai,ab,aw,ao,aj,ax,aH,bj,cp,bN,dEq,bc,eqK,eqD,e7,Option.bind_some,Option.map_some,List.getD_cons_zero,List.map_cons,List.map_nil,List.length_cons,List.length_nil,List.replicate_zero,List.cons_append,List.nil_append,Nat.reduceSub,if_true,if_false,Bool.false_eq_true,Nat.zero_add,ix0,mJ,fK,i7]
 | odd=>simp only [grD,br,bL,iV,iC,iOp,aB,iUn,ai,ab,aw,ao,aj,ax,aH,bj,cp,bN,dEq,bc,eqK,eqD,e7,Option.bind_some,Option.map_some,List.getD_cons_zero,List.map_cons,List.map_nil,List.length_cons,List.length_nil,List.replicate_zero,List.cons_append,List.nil_append,Nat.reduceSub,if_true,if_false,Bool.false_eq_true,Nat.zero_add,ix0,mJ,fL,ja]
 | least=>simp only [grD,br,bL,iV,iC,iOp,aB,iUn,ai,ab,aw,ao,aj,ax,aH,bj,cp,bN,dEq,bc,eqK,eqD,e7,Option.bind_some,Option.map_some,List.getD_cons_zero,List.map_cons,List.map_nil,List.length_cons,List.length_nil,List.replicate_zero,List.cons_append,List.nil_append,Nat.reduceSub,if_true,if_false,Bool.false_eq_true,Nat.zero_add,ix0,sW,gT,lh]
theorem kE {st:Sto}{self:Fn}{x:Option W}{n:Nat}{rs:List Ru} (ih:∀ r ∈ rs,self [.d (toD r),.d (.int n)] st=some (.d (.int (cnt r)),st)):∃ o3 o4,eE (.nm 3) (cE self) (aA rs) [x,some (.d (.int ((n:Int)+1))),some (.d (.int 1)),none,none] st=some (.nx [x,some (.d (.int ((n:Int)+1))),some (.d (.int (1+bz rs))),o3,o4] st):=by
 have key:∀ (rs:List Ru) (c:Int) (o3 o4:Option W),(∀ r ∈ rs,self [.d (toD r),.d (.int n)] st=some (.d (.int (cnt r)),st))->∃ o3' o4',eE (.nm 3) (cE self) (aA rs) [x,some (.d (.int ((n:Int)+1))),some (.d (.int c)),o3,o4] st=some (.nx [x,some (.d (.int ((n:Int)+1))),some (.d (.int (c+bz rs))),o3',o4'] st):=by
  intro rs
  induction rs with
  | nil=>intro c o3 o4 _;exact⟨o3,o4,by rw [aA,bz,Int.add_zero];rfl⟩
  | cons r rs ihh=>
   intro c o3 o4 h
   have hd:=h r List.mem_cons_self
   have en:(n:Int)+1 - 1=(n:Int):=by lia
   obtain⟨p3,p4,e⟩:=ihh (c+cnt r) (some (.d (toD r))) (some (.d (.int (cnt r)))) λq hq=>h q (List.mem_cons_of_mem _ hq)
   refine⟨p3,p4,?_⟩
   have hb:cE self [x,some (.d (.int ((n:Int)+1))),some (.d (.int c)),some (.d (toD r)),o4] st=some (.nx [x,some (.d (.int ((n:Int)+1))),some (.d (.int (c+cnt r))),some (.d (toD r)),some (.d (.int (cnt r)))] st):=by
    generalize toD r=y at hd ⊢
    simp only [cE,iV,iC,iOp,aB,ai,ab,am,ao,aj,aT,ax,aH,bV,bN,lsD,bf,dF,qB,kf,Option.bind_some,Option.map_some,List.getD_cons_zero,List.getD_cons_succ,List.set_cons_zero,List.set_cons_succ,if_false,Bool.false_eq_true,en,hd]
   rw [aA,bz]
   unfold eE
   show (cE self [x,some (.d (.int ((n:Int)+1))),some (.d (.int c)),some (.d (toD r)),o4] st).bind _=_
   rw [hb]
   show eE _ _ (aA rs) _ st=_
   rw [e,Int.add_assoc]
 exact key rs 1 none none ih
theorem lw {st:Sto}:∀ (n:Nat) (r:Ru),dep r<=n->aN 6 r->bu (n+1) [.d (toD r),.d (.int n)] st=some (.d (.int (cnt r)),st)
 | 0,r,h,_=>by have:=fJ r;lia
 | n+1,r,hd,hg=>by
  show bj 5 2 (cH (bu (n+1))) _ _=_
  have e0:(((n:Int)+1)==0)=false:=beq_eq_false_iff_ne.mpr (by lia)
  have ec:((n+1:Nat):Int)=(n:Int)+1:=by push_cast;rfl
  have hf:=oZ (st:=st) r hg
  rw [ec]
  cases r with
  | sw k=>
   rw [cnt]
   have hp:=nV (st:=st) (k:=k)
   rw [toD] at hf ⊢
   generalize D.tup [.str "switch",.int k]=x at hf hp ⊢
   simp only [cH,eE,iV,iC,aB,cb,cI,dz,ai,ab,am,ao,aj,aT,ax,aH,fe,cO,bj,bV,bN,bt,dEq,bc,eqK,eqD,dE,Option.bind_some,Option.map_some,List.getD_cons_zero,List.getD_cons_succ,List.set_cons_zero,List.set_cons_succ,List.map_cons,List.map_nil,List.length_cons,List.length_nil,List.replicate_succ,List.replicate_zero,List.cons_append,List.nil_append,Nat.reduceAdd,Nat.reduceSub,if_true,if_false,Bool.false_eq_true,Bool.not_true,Nat.zero_add,e0,hf,hp]
  | nt q=>
   rw [aN] at hg
   rw [dep] at hd
   have hq:=lw (st:=st) n q (by lia) hg
   obtain⟨o3,o4,e⟩:=kE (st:=st) (self:=bu (n+1)) (x:=some (.d (toD (.nt q)))) (n:=n) (rs:=[q]) λr hr=>by rw [List.mem_singleton.mp hr];exact hq
   rw [show cnt (.nt q)=1+bz [q] by rw [cnt,bz,bz];lia]
   have hp:=nM (st:=st) (x:=toD q)
   rw [aA,aA] at e
   rw [toD] at hf e ⊢
   generalize D.tup [.str "not",toD q]=x at hf hp e ⊢
   generalize toD q=y at e hp
   simp only [cH,iV,iC,aB,cb,cI,dz,ai,ab,am,ao,aj,aT,ax,aH,fe,cO,bj,bV,bN,bt,dEq,bc,eqK,eqD,dE,Option.bind_some,Option.map_some,List.getD_cons_zero,List.getD_cons_succ,List.set_cons_zero,List.set_cons_succ,List.map_cons,List.map_nil,List.length_cons,List.length_nil,List.replicate_succ,List.replicate_zero,List.cons_append,List.nil_append,Nat.reduceAdd,Nat.reduceSub,if_true,if_false,Bool.false_eq_true,Bool.not_true,Nat.zero_add,e0,hf,hp,e]
  | gr g k rs=>
   rw [aN] at hg
   rw [dep] at hd
   obtain⟨o3,o4,e⟩:=kE (st:=st) (self:=bu (n+1)) (x:=some (.d (toD (.gr g k rs)))) (n:=n) (rs:=rs) λr hr=>lw n r (hJ (by lia) r hr) (gp hg.2.2.2 r hr)
   rw [show cnt (.gr g k rs)=1+bz rs by rw [cnt]]
   have hp:=oo (st:=st) (g:=g) (k:=k) (ds:=aA rs)
   rw [toD] at hf e ⊢
   generalize grD g k (aA rs)=x at hf hp e ⊢
   generalize aA rs=y at e hp
   simp only [cH,iV,iC,aB,cb,cI,dz,ai,ab,am,ao,aj,aT,ax,aH,fe,cO,bj,bV,bN,bt,dEq,bc,eqK,eqD,dE,Option.bind_some,Option.map_some,List.getD_cons_zero,List.getD_cons_succ,List.set_cons_zero,List.set_cons_succ,List.map_cons,List.map_nil,List.length_cons,List.length_nil,List.replicate_succ,List.replicate_zero,List.cons_append,List.nil_append,Nat.reduceAdd,Nat.reduceSub,if_true,if_false,Bool.false_eq_true,Bool.not_true,Nat.zero_add,e0,hf,hp,e]
theorem mR {st:Sto}{r:Ru} (hd:dep r<=6) (hg:aN 6 r) (hc:cnt r<=40):dq [.d (toD r)] st=some (.d (.bl true),st):=by
 have e:bu 7 [.d (toD r),.d (.int 6)] st=some (.d (.int (cnt r)),st):=lw 6 r hd hg
 generalize toD r=x at e ⊢
 simp only [dq,eX,iV,iC,iOp,cT,ai,ab,am,aj,aT,ax,bj,bV,blW,dLe,no,kf,Option.bind_some,Option.map_some,List.getD_cons_zero,List.getD_cons_succ,List.set_cons_zero,List.set_cons_succ,List.map_cons,List.map_nil,List.length_cons,List.length_nil,List.replicate_succ,List.replicate_zero,List.cons_append,List.nil_append,Nat.reduceSub,if_true,Bool.not_false,Nat.zero_add,decide_true,e,hc]
theorem pZ {te:Ef}{l:Ev}{st:Sto} (F:Ru->D):∀ {rs:List Ru},(∀ r ∈ rs,te (some (.d (toD r))::l) st=some (.d (F r),st))->lcI (.nm 0) iI te (none::l) (aA rs) st=some (rs.map F,st)
 | [],_=>by rw [aA];rfl
 | r::rs,h=>by
  have ih:=pZ (te:=te) (l:=l) (st:=st) F (rs:=rs) λx hx=>h x (List.mem_cons_of_mem _ hx)
  have h1:=h r List.mem_cons_self
  rw [aA,List.map_cons]
  unfold lcI
  rw [show bV (.nm 0) (.d (toD r)) (none::l)=some (some (.d (toD r))::l) from rfl,Option.bind_some,show iI (some (.d (toD r))::l) st=some (true,st) from rfl,Option.bind_some,if_pos rfl,h1,Option.bind_some,ih];rfl
end Own
end
section
set_option maxHeartbeats 1000000
namespace Own
open PySem L2
noncomputable def S (l:List Nat):Str:=⟨l.toArray⟩
theorem n0 (a b:List Nat):S a++S b=S (a++b):=by
 show (⟨a.toArray++b.toArray⟩:Str)=⟨(a++b).toArray⟩
 congr 1
 simp
theorem hV (a:List Nat):(S a).length=a.length:=by show a.toArray.size=_;simp
theorem qU (a:List Nat):(S a).cps.toList=a:=rfl
theorem sN {a b:List Nat} (h:S a=S b):a=b:=by
 have:(S a).cps.toList=(S b).cps.toList:=by rw [h]
 exact this
theorem mn (a b:List Nat):(S a==S b)=decide (a=b):=by
 by_cases h:a=b
 ·subst h;simp
 ·have:¬ S a=S b:=λq=>h (sN q)
  simp [h,this]
noncomputable def mkC (g:Gw) (k:Int):Nat:=match g with | .all=>38 | .any=>124 | .odd=>94 | .least=>48+k.toNat
mutual
noncomputable def tx:Ru->List Nat
 | .sw k=>[97+k.toNat]
 | .nt r=>33::tx r
 | .gr g k rs=>mkC g k::40::(txs rs++[41])
noncomputable def txs:List Ru->List Nat
 | []=>[]
 | r::rs=>tx r++tl rs
noncomputable def tl:List Ru->List Nat
 | []=>[]
 | r::rs=>32::(tx r++tl rs)
end
theorem pO:∀ rs:List Ru,Txt.join " " (rs.map λr=>S (tx r))=S (txs rs):=by
 intro rs
 show Builtin.Str.glued " " _=_
 rw [PySem.StrLaws.glued_eq_join]
 induction rs with
 | nil=>rw [txs];rfl
 | cons r rs ih=>
  cases rs with
  | nil=>rw [txs,tl,List.append_nil];rfl
  | cons q rs=>
   rw [txs] at ih
   rw [txs,tl,List.map_cons,List.map_cons]
   show S (tx r)++S [32]++Str.join " " (S (tx q)::rs.map λr=>S (tx r))=_
   rw [List.map_cons] at ih
   rw [ih,n0,n0,List.append_assoc];rfl
mutual
theorem fC:∀ r:Ru,((tx r).length:Int)+1<=4*cnt r
 | .sw k=>by rw [tx,cnt,List.length_singleton];decide
 | .nt r=>by
  have:=fC r
  rw [tx,cnt,List.length_cons];lia
 | .gr g k rs=>by
  have:=mf rs
  rw [tx,cnt,List.length_cons,List.length_cons,List.length_append];simp;lia
theorem mf:∀ rs:List Ru,((txs rs).length:Int)<=4*bz rs
 | []=>by rw [txs,bz];decide
 | r::rs=>by
  have:=fC r
  have:=n5 rs
  rw [txs,bz,List.length_append];lia
theorem n5:∀ rs:List Ru,((tl rs).length:Int)<=4*bz rs
 | []=>by rw [tl,bz];decide
 | r::rs=>by
  have:=fC r
  have:=n5 rs
  rw [tl,bz,List.length_cons,List.length_append];lia
end
mutual
theorem gM:∀ r:Ru,1<=cnt r
 | .sw _=>by rw [cnt];decide
 | .nt r=>by have:=gM r;rw [cnt];lia
 | .gr _ _ rs=>by have:=jV rs;rw [cnt];lia
theorem jV:∀ rs:List Ru,0<=bz rs
 | []=>by rw [bz];decide
 | r::rs=>by have:=gM r;have:=jV rs;rw [bz];lia
end
theorem jt {g:Gw}{k:Int} (h:k<=9):mkC g k < 128/\mkC g k≠41/\mkC g k≠33/\¬ (97<=mkC g k/\mkC g k<=102):=by
 cases g<;>simp only [mkC]<;>lia
mutual
theorem jB:∀ r:Ru,aN 6 r->∀ c ∈ tx r,c < 128
 | .sw k,h,c,hc=>by
  rw [aN] at h
  rw [tx] at hc
  have:=List.mem_singleton.mp hc
  lia
 | .nt r,h,c,hc=>by
  rw [aN] at h
  rw [tx] at hc
  rcases List.mem_cons.mp hc with rfl | hc
  ·decide
  ·exact jB r h c hc
 | .gr g k rs,h,c,hc=>by
  rw [aN] at h
  rw [tx] at hc
  rcases List.mem_cons.mp hc with rfl | hc
  ·exact (jt h.2.1).1
  rcases List.mem_cons.mp hc with rfl | hc
  ·decide
  rcases List.mem_append.mp hc with hc | hc
  ·exact pC rs h.2.2.2 c hc
  ·have:=List.mem_singleton.mp hc;lia
theorem pC:∀ rs:List Ru,aX 6 rs->∀ c ∈ txs rs,c < 128
 | [],_,c,hc=>by rw [txs] at hc;cases hc
 | r::rs,h,c,hc=>by
  rw [aX] at h
  rw [txs] at hc
  rcases List.mem_append.mp hc with hc | hc
  ·exact jB r h.1 c hc
  ·exact nP rs h.2 c hc
theorem nP:∀ rs:List Ru,aX 6 rs->∀ c ∈ tl rs,c < 128
 | [],_,c,hc=>by rw [tl] at hc;cases hc
 | r::rs,h,c,hc=>by
  rw [aX] at h
  rw [tl] at hc
  rcases List.mem_cons.mp hc with rfl | hc
  ·decide
  rcases List.mem_append.mp hc with hc | hc
  ·exact jB r h.1 c hc
  ·exact nP rs h.2 c hc
end
theorem sq:∀ r:Ru,aN 6 r->∃ c t,tx r=c::t/\c≠41
 | .sw k,h=>by rw [aN] at h;rw [tx];exact⟨_,_,rfl,by lia⟩
 | .nt r,h=>by rw [tx];exact⟨_,_,rfl,by decide⟩
 | .gr g k rs,h=>by rw [aN] at h;rw [tx];exact⟨_,_,rfl,(jt h.2.1).2.1⟩
mutual
theorem nO:∀ r:Ru,aN 6 r->rpD (toD r)=true/\(wtD (toD r):Int)+2<=3000*cnt r/\dpD (toD r)<=2*dep r
 | .sw k,h=>by
  rw [aN] at h
  have hl:k.natAbs.log2 < 1920:=by
   have:k.natAbs.log2<=k.natAbs:=Nat.log2_le_self _
   lia
  rw [toD,cnt,dep]
  have hz:(reprText ("switch" : Str)).length<=20:=by decide +kernel
  simp only [rpD,gc,wtD,iE,dpD,ig,decide_eq_true hl,Bool.and_true]
  refine⟨trivial,?_,by decide⟩
  lia
 | .nt r,h=>by
  rw [aN] at h
  obtain⟨h1,h2,h3⟩:=nO r h
  have hz:(reprText ("not" : Str)).length<=20:=by decide +kernel
  rw [toD,cnt,dep]
  simp only [rpD,gc,wtD,iE,dpD,ig,h1,Bool.and_true]
  refine⟨trivial,?_,?_⟩<;>lia
 | .gr g k rs,h=>by
  rw [aN] at h
  obtain⟨h1,h2,h3⟩:=lB rs h.2.2.2
  have hl:k.natAbs.log2 < 1920:=by
   have:k.natAbs.log2<=k.natAbs:=Nat.log2_le_self _
   lia
  rw [toD,cnt,dep]
  have z1:(reprText ("all" : Str)).length<=20:=by decide +kernel
  have z2:(reprText ("any" : Str)).length<=20:=by decide +kernel
  have z3:(reprText ("odd" : Str)).length<=20:=by decide +kernel
  have z4:(reprText ("least" : Str)).length<=20:=by decide +kernel
  cases g<;>(simp only [grD,rpD,gc,wtD,iE,dpD,ig,h1,decide_eq_true hl,Bool.and_true];refine⟨trivial,?_,?_⟩<;>lia)
theorem lB:∀ rs:List Ru,aX 6 rs->gc (aA rs)=true/\(iE (aA rs):Int)<=3000*bz rs/\ig (aA rs)<=2*ca rs
 | [],_=>by rw [aA,bz,ca];exact⟨rfl,by decide,by decide⟩
 | r::rs,h=>by
  rw [aX] at h
  obtain⟨h1,h2,h3⟩:=nO r h.1
  obtain⟨g1,g2,g3⟩:=lB rs h.2
  have:=gM r
  rw [aA,bz,ca]
  simp only [gc,iE,ig,h1,g1,Bool.and_true]
  refine⟨trivial,?_,?_⟩<;>lia
end
end Own
end
section
set_option maxHeartbeats 1000000
namespace Own
open PySem L2
theorem eqS (s:Sto) (a b:Str):dEq s (.d (.str a)) (.d (.str b))=some (.bl (a==b)):=by simp only [dEq,bc,eqK,eqD,Option.bind_some,Option.map_some]
theorem neS (s:Sto) (a b:Str):dNe s (.d (.str a)) (.d (.str b))=some (.bl (!(a==b))):=by simp only [dNe,bc,eqK,eqD,Option.bind_some,Option.map_some]
theorem oT {s:Sto}{a b:List Nat} (h:a.length+b.length<=1000000):bf s (.d (.str (S a))) (.d (.str (S b)))=some (.str (S (a++b))):=by
 show (if (S a).length+(S b).length<=1000000 then some (D.str (S a++S b)) else none)=_
 rw [hV,hV,if_pos h,n0]
theorem hdT {s:Sto}{x w:Str}{l:List D}{e:Ev}{b:Bool} (h:(x==w)=b):aB dEq (iOp dIx (iV 0) (iC (.int 0))) (iC (.str w)) (some (.d (.tup (.str x::l)))::e) s=some (b,s):=
 cu (ar rfl rfl (ix0 s _ l)) rfl (by rw [eqS,h])
theorem nn (g:Gw) (k:Int) (ds:List D):∃ l,grD g k ds=.tup (.str g.wd::l):=by cases g<;>exact⟨_,rfl⟩
theorem oA (s:Sto) (g:Gw) (k:Int) (ds:List D):dIx s (.d (grD g k ds)) (.d (.int (-1)))=some (.tup ds):=by
 cases g
 ·exact mJ s _ _
 ·exact mJ s _ _
 ·exact mJ s _ _
 ·exact sW s _ _ _
theorem si (g:Gw):(g.wd==("switch" : Str))=false:=by cases g<;>decide +kernel
theorem sr (g:Gw):(g.wd==("not" : Str))=false:=by cases g<;>decide +kernel
theorem rg {s:Sto}{k:Int} (h0:0<=k) (h1:k < 6):dIx s (.d (.str "abcdef")) (.d (.int k))=some (.str (S [97+k.toNat])):=by
 have:k=0\/k=1\/k=2\/k=3\/k=4\/k=5:=by lia
 rcases this with rfl | rfl | rfl | rfl | rfl | rfl<;>rfl
noncomputable def sL (self:Fn) (mk:Ef) (te:Ef):Sf:=(aj (aH (aB dEq (iOp dIx (iV 0) (iC (.int 0))) (iC (.str "switch"))) (ax (iOp dIx (iC (.str "abcdef")) (iOp dIx (iV 0) (iC (.int 1))))) ao) (aj (aH (aB dEq (iOp dIx (iV 0) (iC (.int 0))) (iC (.str "not"))) (ax (iOp bf (iC (.str "!")) (am self (ab (iOp dIx (iV 0) (iC (.int 1))) ai)))) ao) (aj (aT (.nm 1) mk) (ax (iOp bf (iOp bf (iOp bf (iV 1) (iC (.str "("))) (ie (iC (.str " ")) (ab (bh (iLc 1 [] (cO (iOp dIx (iV 0) (iUn e7 (iC (.int 1))))) (.nm 0) iI te)) ai))) (iC (.str ")")))))))
theorem ms:∀ rs:List Ru,h8 (rs.map λr=>D.str (S (tx r)))=some (rs.map λr=>S (tx r))
 | []=>rfl
 | r::rs=>by rw [List.map_cons,h8,ms rs];rfl
theorem ny:∀ rs:List Ru,((((rs.map λr=>S (tx r)).map (·.length)).sum:Nat):Int)<=4*bz rs
 | []=>by rw [bz];decide
 | r::rs=>by
  have h1:=fC r
  have h2:=ny rs
  rw [bz,List.map_cons,List.map_cons,List.sum_cons,hV]
  push_cast
  lia
theorem ky:∀ {rs:List Ru}{r:Ru},r ∈ rs->cnt r<=bz rs
 | x::rs,r,h=>by
  have h1:=gM x
  have h2:=jV rs
  rw [bz]
  rcases List.mem_cons.mp h with rfl | h
  ·lia
  ·have:=ky h;lia
theorem kh {self:Fn}{mk te:Ef}{n:Nat}{st:Sto} (hs:∀ q,dep q<=n->aN 6 q->cnt q<=100->self [.d (toD q)] st=some (.d (.str (S (tx q))),st))
  (hte:te=am self (ab (iV 0) ai)) (hmk:∀ g k rs,aN 6 (.gr g k rs)->ca rs<=n->bz rs<=100->mk [some (.d (toD (.gr g k rs))),none] st=some (.d (.str (S [mkC g k])),st)) :
  ∀ r:Ru,dep r<=n+1->aN 6 r->cnt r<=100->sL self mk te [some (.d (toD r)),none] st=some (.rt (.d (.str (S (tx r)))) st)
 | .sw k,hd,hg,hc=>by
  rw [aN] at hg
  rw [toD,tx]
  exact dl (gj (hdT (beq_self_eq_true _)) (bE (ar rfl (ar rfl rfl (ix1 st _ _ _)) (rg hg.1 hg.2))))
 | .nt r,hd,hg,hc=>by
  rw [aN] at hg
  rw [dep] at hd
  rw [cnt] at hc
  have e:=hs r (by lia) hg (by lia)
  have hl:=fC r
  rw [toD,tx]
  refine az (di (hdT d7) rfl) (dl (gj (hdT (beq_self_eq_true _)) (bE (ar rfl (bg (ak (ar rfl rfl (ix1 st _ _ _)) rfl) e) ?_))))
  exact oT (a:=[33]) (by simp;lia)
 | .gr g k rs,hd,hg,hc=>by
  have hm:=hmk g k rs hg (by rw [dep] at hd;lia) (by rw [cnt] at hc;lia)
  rw [aN] at hg
  rw [dep] at hd
  rw [cnt] at hc
  have hlen:=mf rs
  have hsum:=ny rs
  have hmap:lcI (.nm 0) iI te [none] (aA rs) st=some (rs.map λr=>D.str (S (tx r)),st):=pZ (λr=>D.str (S (tx r))) λq hq=>by
   rw [hte]
   exact bg rfl (hs q (hJ (by lia:ca rs<=n) q hq) (gp hg.2.2.2 q hq) (by have:=ky hq;lia))
  have hok:JoinOk (" " : Str) (rs.map λr=>S (tx r))=true:=by
   refine PyProof.Rows.joinOk_of_weight ?_ (by decide)
   rw [List.length_map]
   lia
  obtain⟨l,hl⟩:=nn g k (aA rs)
  have hlast:=oA st g k (aA rs)
  have htl:(aA rs).length<=1000000:=by rw [cR,List.length_map];lia
  rw [toD] at hm ⊢
  rw [tx]
  generalize aA rs=TD at *
  have e1:cO (iOp dIx (iV 0) (iUn e7 (iC (.int 1)))) [some (.d (grD g k TD)),some (.d (.str (S [mkC g k])))] st=some (TD,st):=by
   have:iOp dIx (iV 0) (iUn e7 (iC (.int 1))) [some (.d (grD g k TD)),some (.d (.str (S [mkC g k])))] st=some (.d (.tup TD),st):=ar rfl rfl hlast
   simp only [cO,this,Option.bind_some]
  have e2:bh (iLc 1 [] (cO (iOp dIx (iV 0) (iUn e7 (iC (.int 1))))) (.nm 0) iI te) [some (.d (grD g k TD)),some (.d (.str (S [mkC g k])))] st=some (.d (.lst (rs.map λr=>D.str (S (tx r)))),st):=kG (rj e1 htl hmap)
  have e3:ie (iC (.str " ")) (ab (bh (iLc 1 [] (cO (iOp dIx (iV 0) (iUn e7 (iC (.int 1))))) (.nm 0) iI te)) ai) [some (.d (grD g k TD)),some (.d (.str (S [mkC g k])))] st=some (.d (.str (S (txs rs))),st):=by
   have h1:iC (.str " ") [some (.d (grD g k TD)),some (.d (.str (S [mkC g k])))] st=some (.d (.str " "),st):=rfl
   have h2:ab (bh (iLc 1 [] (cO (iOp dIx (iV 0) (iUn e7 (iC (.int 1))))) (.nm 0) iI te)) ai [some (.d (grD g k TD)),some (.d (.str (S [mkC g k])))] st=some ([.d (.lst (rs.map λr=>D.str (S (tx r))))],st):=ak e2 rfl
   simp only [ie,h1,h2,Option.bind_some,ms,hok,if_true,pO]
  rw [hl] at hm e3 ⊢
  refine az (di (hdT (si g)) rfl) (az (di (hdT (sr g)) rfl) (az (bF hm) (bE (ar (ar (ar rfl rfl (oT (b:=[40]) (by simp))) e3 (oT ?_)) rfl ?_))))
  ·simp;lia
  ·have:=oT (s:=st) (a:=[mkC g k]++[40]++txs rs) (b:=[41]) (by simp;lia)
   rw [show [mkC g k]++[40]++txs rs++[41]=mkC g k::40::(txs rs++[41]) by simp] at this
   exact this
theorem qg {k:Int} (h0:0<=k) (h1:k<=9) (s:Sto):iM s [.d (.int k)]=some (.str (S [48+k.toNat])):=by
 have hl:k.natAbs.log2 < 1920:=by
  have:k.natAbs.log2<=k.natAbs:=Nat.log2_le_self _
  lia
 show (if k.natAbs.log2 < 1920 then some (D.str (toString k)) else none)=_
 rw [if_pos hl]
 have:k=0\/k=1\/k=2\/k=3\/k=4\/k=5\/k=6\/k=7\/k=8\/k=9:=by lia
 rcases this with rfl | rfl | rfl | rfl | rfl | rfl | rfl | rfl | rfl | rfl<;>rfl
theorem qw {c:Tf}{a b:Ef}{env:Ev}{st s:Sto}{r:Option (W×Sto)} (h:c env st=some (true,s)) (ha:a env s=r):lM c a b env st=r:=by
 simp only [lM,h,Option.bind_some,if_true,ha]
theorem lG {c:Tf}{a b:Ef}{env:Ev}{st s:Sto}{r:Option (W×Sto)} (h:c env st=some (false,s)) (hb:b env s=r):lM c a b env st=r:=by
 simp only [lM,h,Option.bind_some,Bool.false_eq_true,if_false,hb]
theorem mC {kvs:List (Str×D)}{f:Ef}{env:Ev}{st s:Sto}{z:Str}{d:D} (h:f env st=some (.d (.str z),s)) (ha:atS z kvs=some d):mH kvs f env st=some (.d d,s):=by
 simp only [mH,h,Option.bind_some,ha,Option.map_some]
theorem md {st:Sto}:∀ (n:Nat) (r:Ru),dep r<=n->aN 6 r->cnt r<=100->aY n [.d (toD r)] st=some (.d (.str (S (tx r))),st)
 | 0,r,h,_,_=>by have:=fJ r;lia
 | n+1,r,hd,hg,hc=>by
  refine dw (n:=2) (k:=1) (b:=cY (aY n)) rfl ?_
  refine kh (self:=aY n) (te:=fm (aY n)) (λq h1 h2 h3=>md n q h1 h2 h3) rfl (λg k rs hg _ _=>?_) r hd hg hc
  rw [aN] at hg
  rw [toD]
  cases g with
  | all=>exact lG (hdT eN) (mC (ar rfl rfl (ix0 st _ _)) rfl)
  | any=>exact lG (hdT eR) (mC (ar rfl rfl (ix0 st _ _)) rfl)
  | odd=>exact lG (hdT eP) (mC (ar rfl rfl (ix0 st _ _)) rfl)
  | least=>exact qw (hdT (beq_self_eq_true _)) (dh (ak (ar rfl rfl (ix1 st _ _ _)) rfl) (qg hg.1 hg.2.1 st))
theorem jT {kvs:List (Str×Str)}{a b:Ef}{env:Ev}{st s1 s2:Sto}{z v:Str}{y:W} (ha:a env st=some (.d (.str z),s1)) (hb:b env s1=some (y,s2)) (h:atT z kvs=some v):iz kvs a b env st=some (.d (.str v),s2):=by
 simp only [iz,ha,hb,Option.bind_some,h]
theorem pQ {kvs:List (Str×Str)}{a b:Ef}{env:Ev}{st s1 s2:Sto}{z:Str}{y:W} (ha:a env st=some (.d (.str z),s1)) (hb:b env s1=some (y,s2)) (h:atT z kvs=none):iz kvs a b env st=some (y,s2):=by
 simp only [iz,ha,hb,Option.bind_some,h]
theorem uc {s:Sto}{rs:List Ru} (hg:aX 6 rs) (hd:ca rs<=9) (hc:bz rs<=100):∃ x,iM s [.d (.tup (aA rs))]=some x:=by
 obtain⟨h1,h2,h3⟩:=lB rs hg
 refine⟨.str (toP (.tup (aA rs))).shown,?_⟩
 show eA s [.d (.tup (aA rs))]=_
 have c:rpD (.tup (aA rs))=true/\wtD (.tup (aA rs))<=16000000/\dpD (.tup (aA rs))<=50:=by
  rw [rpD,wtD,dpD]
  exact⟨h1,by lia,by lia⟩
 simp only [eA]
 rw [if_pos c]
theorem iB {st:Sto}:∀ (n:Nat) (r:Ru),n<=9->dep r<=n->aN 6 r->cnt r<=100->aK n [.d (toD r)] st=some (.d (.str (S (tx r))),st)
 | 0,r,_,h,_,_=>by have:=fJ r;lia
 | n+1,r,hn,hd,hg,hc=>by
  refine dw (n:=2) (k:=1) (b:=bX (aK n)) rfl ?_
  refine kh (self:=aK n) (te:=dY (aK n)) (λq h1 h2 h3=>iB n q (by lia) h1 h2 h3) rfl (λg k rs hg h4 h5=>?_) r hd hg hc
  rw [aN] at hg
  rw [toD]
  obtain⟨x,hx⟩:=uc (s:=st) hg.2.2.2 (by lia) h5
  generalize aA rs=TD at hx ⊢
  cases g with
  | all=>exact jT (a:=iOp dIx (iV 0) (iC (.int 0))) (b:=iCB iM (ab (iOp dIx (iV 0) (iC (.int 1))) ai)) (ar rfl rfl (ix0 st _ _)) (dh (ak (ar rfl rfl (ix1 st _ _ _)) rfl) hx) rfl
  | any=>exact jT (a:=iOp dIx (iV 0) (iC (.int 0))) (b:=iCB iM (ab (iOp dIx (iV 0) (iC (.int 1))) ai)) (ar rfl rfl (ix0 st _ _)) (dh (ak (ar rfl rfl (ix1 st _ _ _)) rfl) hx) rfl
  | odd=>exact jT (a:=iOp dIx (iV 0) (iC (.int 0))) (b:=iCB iM (ab (iOp dIx (iV 0) (iC (.int 1))) ai)) (ar rfl rfl (ix0 st _ _)) (dh (ak (ar rfl rfl (ix1 st _ _ _)) rfl) hx) rfl
  | least=>exact pQ (a:=iOp dIx (iV 0) (iC (.int 0))) (b:=iCB iM (ab (iOp dIx (iV 0) (iC (.int 1))) ai)) (ar rfl rfl (ix0 st _ _)) (dh (ak (ar rfl rfl (ix1 st _ _ _)) rfl) (qg hg.1 hg.2.1 st)) rfl
end Own
end
section
set_option maxHeartbeats 1000000
namespace Own
open PySem L2
theorem qK {T:List Nat}{p k:Nat}:mF (S T) (some (p:Int)) (some (((p+k:Nat):Int)))=S ((T.drop p).take k):=by
 unfold mF
 rw [hV,qU]
 have h1:HT.sIx T.length 0 (some (p:Int))=min p T.length:=by unfold HT.sIx;split<;>lia
 have h2:HT.sIx T.length T.length (some ((p+k:Nat):Int))=min (p+k) T.length:=by unfold HT.sIx;split<;>lia
 rw [h1,h2]
 show S _=S _
 congr 1
 by_cases hp:p<=T.length
 ·rw [Nat.min_eq_left hp]
  by_cases hk:p+k<=T.length
  ·rw [Nat.min_eq_left hk,Nat.add_sub_cancel_left]
  ·rw [Nat.min_eq_right (by lia),List.take_of_length_le (by rw [List.length_drop];lia),List.take_of_length_le (by rw [List.length_drop];lia)]
 ·have e1:min p T.length=T.length:=by lia
  have e2:min (p+k) T.length=T.length:=by lia
  rw [e1,e2,List.drop_length,List.drop_eq_nil_of_le (by lia)];simp
theorem qsl {T:List Nat}{p k:Nat}{c:List Nat}{env:Ev}{st:Sto}{f lo hi:Ef} (hT:T.length<=1000) (hf:f env st=some (.d (.str (S T)),st)) (hlo:lo env st=some (.d (.int (p:Int)),st)) (hhi:hi env st=some (.d (.int ((p:Int)+(k:Int))),st)) (hc:(T.drop p).take k=c) :
  jL f (iPs lo) (iPs hi) env st=some (.d (.str (S c)),st):=by
 have hz:(S T).length<=1000000:=by rw [hV];lia
 have e:((p:Int)+(k:Int))=((p+k:Nat):Int):=by push_cast;rfl
 rw [e] at hhi
 simp only [jL,iPs,hf,hlo,hhi,Option.bind_some,Option.map_some,rH,hz,if_true,qK,hc]
theorem lC:∀ c,c < 128->inD (.str (S [c])) (jm "abcdef")=decide (97<=c/\c<=102):=by decide +kernel
theorem rR:∀ c,c < 128->inD (.str (S [c])) (jm "0123456789")=decide (48<=c/\c<=57):=by decide +kernel
theorem nq:∀ k,k < 6->Txt.find "abcdef" (S [97+k])=(k:Int):=by decide +kernel
theorem nG:∀ k,k < 10->Txt.find "0123456789" (S [48+k])=(k:Int):=by decide +kernel
theorem qin {g:List D}{w:Str}{c:Nat}{b:Bool}{f:Ef}{env:Ev}{st:Sto} (hw:d5 st [.d (.str w)]=some g) (hg:g.all cg=true) (hf:f env st=some (.d (.str (S [c])),st)) (h:inD (.str (S [c])) g=b):aB dIn f (bh (iCL d5 (ab (iC (.str w)) ai))) env st=some (b,st):=by
 have e:bh (iCL d5 (ab (iC (.str w)) ai)) env st=some (.d (.lst g),st):=kG (by simp only [iCL,ab,iC,ai,Option.bind_some,Option.map_some,hw])
 refine cu hf e ?_
 simp only [dIn,bt,cg,hg,Option.bind_some,and_self,if_true,h]
theorem jJ (s:Sto):d5 s [.d (.str "abcdef")]=some (jm "abcdef"):=rfl
theorem oK (s:Sto):d5 s [.d (.str "0123456789")]=some (jm "0123456789"):=rfl
theorem qd {w:Str}{c:Nat}{i:Int}{f:Ef}{env:Ev}{st:Sto} (hf:f env st=some (.d (.str (S [c])),st)) (h:Txt.find w (S [c])=i):iTm jj (iC (.str w)) (ab f ai) env st=some (.d (.int i),st):=by
 simp only [iTm,iC,ab,ai,hf,Option.bind_some,Option.map_some,jj,h]
theorem o0 {kvs:List (Str×D)}{f:Ef}{env:Ev}{st:Sto}{z:Str}{b:Bool} (hf:f env st=some (.d (.str z),st)) (h:(atS z kvs).isSome=b):kK false kvs f env st=some (b,st):=by
 simp only [kK,hf,Option.bind_some,h,Bool.false_bne]
theorem fM {a:Af}{env:Ev}{st s:Sto}{ws:List W}{ds:List D} (ha:a env st=some (ws,s)) (h:cp ws=some ds) (hl:ds.length<=1000):aw a env st=some (.d (.tup ds),s):=by
 simp only [aw,ha,Option.bind_some,h,hl,if_true]
noncomputable def fQ (g:Gw) (k:Int):List D:=match g with | .least=>[.str "least",.int k] | g=>[.str g.wd]
theorem oj (g:Gw) (k:Int) (ds:List D):D.tup (fQ g k++[.tup ds])=grD g k ds:=by cases g<;>rfl
theorem pA {st:Sto}{g:Gw}{k:Int} (h0:0<=k) (h1:k<=9):gw [.d (.str (S [mkC g k]))] st=some (.d (.tup (fQ g k)),st):=by
 refine dw (n:=1) (k:=1) (b:=eV) rfl ?_
 cases g with
 | all=>exact dl (gj (o0 rfl rfl) (bE (fM (ak (mC rfl rfl) rfl) rfl (by show 1<=1000;decide))))
 | any=>exact dl (gj (o0 rfl rfl) (bE (fM (ak (mC rfl rfl) rfl) rfl (by show 1<=1000;decide))))
 | odd=>exact dl (gj (o0 rfl rfl) (bE (fM (ak (mC rfl rfl) rfl) rfl (by show 1<=1000;decide))))
 | least=>
  obtain⟨j,rfl⟩:=Int.eq_ofNat_of_zero_le h0
  have e1:(atS (S [48+j]) [("&",(D.str "all")),("|",(.str "any")),("^",(.str "odd"))]).isSome=false:=by
   have:j=0\/j=1\/j=2\/j=3\/j=4\/j=5\/j=6\/j=7\/j=8\/j=9:=by lia
   rcases this with rfl | rfl | rfl | rfl | rfl | rfl | rfl | rfl | rfl | rfl<;>rfl
  have e2:inD (.str (S [48+j])) (jm "0123456789")=true:=by
   rw [rR _ (by lia)]
   exact decide_eq_true (by lia)
  have e3:=nG j (by lia)
  have em:mkC .least (j:Int)=48+j:=rfl
  rw [em]
  exact az (di (o0 rfl e1) rfl) (dl (gj (qin (oK st) (by decide) rfl e2) (bE (fM (ak rfl (ak (qd rfl e3) rfl)) rfl (by show 2<=1000;decide)))))
end Own
end
section
set_option maxHeartbeats 1000000
namespace Own
open PySem L2
theorem sT {c:Tf}{b:Sf}{m:Nat}{env:Ev}{st s:Sto} (h:c env st=some (false,s)):dg c b (m+1) env st=some (.nx env s):=by
 simp only [dg,h,Option.bind_some,Bool.false_eq_true,if_false]
theorem qk {c:Tf}{b:Sf}{m:Nat}{env e:Ev}{st s s2:Sto}{r:Option Fl} (h:c env st=some (true,s)) (hb:b env s=some (.nx e s2)) (hr:dg c b m e s2=r):dg c b (m+1) env st=r:=by
 simp only [dg,h,Option.bind_some,if_true,hb,hr]
theorem mq {T X:List Nat}{p c:Nat} (h:T.drop p=c::X):T.drop (p+1)=X:=by
 rw [<-List.drop_drop,h];rfl
theorem qi {T A X:List Nat}{p:Nat} (h:T.drop p=A++X):T.drop (p+A.length)=X:=by
 rw [<-List.drop_drop,h,List.drop_left]
theorem t0 {o:Ef}{a:Af}{env:Ev}{b:Sto}{ds:List D}{x:D} (ho:o env (b++[ds])=some (.h b.length,b++[ds])) (ha:a env (b++[ds])=some ([.d x],b++[ds])) (hl:ds.length < 1000000) :
  gF (fR dj o a) env (b++[ds])=some (.nx env (b++[ds++[x]])):=by
 have g:(b++[ds])[b.length]?=some ds:=by rw [List.getElem?_append_right (Nat.le_refl _),Nat.sub_self];rfl
 have hs:(b++[ds]).set b.length (ds++[x])=b++[ds++[x]]:=by rw [List.set_append_right _ _ (Nat.le_refl _),Nat.sub_self];rfl
 simp only [gF,fR,ho,ha,Option.bind_some,g,dj,hl,if_true,Option.map_some,hs]
noncomputable def gB (self:Fn) (n:Nat):Prop:=∀ (q:Ru),dep q<=n->aN 6 q->∀ (T:List Nat) (p:Nat) (bW:List Nat) (d:Int) (st:Sto),T.length<=1000->T.drop p=tx q++bW->(dep q:Int)<=d->
 self [.d (.str (S T)),.d (.int (p:Int)),.d (.int d)] st=some (.d (.tup [toD q,.int ((p+(tx q).length:Nat):Int)]),st)
theorem ox (s:Sto) (p:Nat):bf s (.d (.int (p:Int))) (.d (.int 1))=some (.int ((p+1:Nat):Int)):=rfl
theorem uf (s:Sto) (p:Nat):bf s (.d (.int (p:Int))) (.d (.int 2))=some (.int ((p+2:Nat):Int)):=rfl
theorem mG {s:Sto}{c:Nat} (h:c=32\/c=41) {env:Ev}{f:Ef} (hf:f env s=some (.d (.str (S [c])),s)):aB dA f (aw (ab (iC (.str " ")) (ab (iC (.str ")")) ai))) env s=some (false,s):=by
 refine cu hf (fM (ds:=[.str " ",.str ")"]) rfl rfl (by show 2<=1000;decide)) ?_
 rcases h with rfl | rfl<;>rfl
theorem lX {self:Fn}{n:Nat} (hs:gB self n) {T:List Nat} (hT:T.length<=1000) {d:Int}{b:Sto}{r:Ru}{p sep c:Nat}{X Y:List Nat}{ds:List D}{o5:Option W} (hd:dep r<=n) (hg:aN 6 r) (hd2:(dep r:Int)<=d) (hl:ds.length < 1000000)
  (h0:T.drop p=sep::(tx r++X)) (hX:X=c::Y) (hc:c=32\/c=41) :
  dH self [some (.d (.str (S T))),some (.d (.int (p:Int))),some (.d (.int d)),some (.d (.str (S [sep]))),some (.h b.length),o5] (b++[ds]) =
   some (.nx [some (.d (.str (S T))),some (.d (.int ((p+1+(tx r).length:Nat):Int))),some (.d (.int d)),some (.d (.str (S [c]))),some (.h b.length),some (.d (.tup [toD r,.int ((p+1+(tx r).length:Nat):Int)]))] (b++[ds++[toD r]])):=by
 have h1:=mq h0
 have e1:=hs r hd hg T (p+1) X d (b++[ds]) hT h1 hd2
 have h2:=qi h1
 have hcut:(T.drop (p+1+(tx r).length)).take 1=[c]:=by rw [h2,hX];rfl
 generalize toD r=R at e1 ⊢
 generalize p+1+(tx r).length=p1 at e1 hcut ⊢
 exact az (bF (bg (ak rfl (ak (ar rfl rfl (ox _ p)) (ak rfl rfl))) e1))
  (az (t0 rfl (ak (ar rfl rfl (ix0 _ _ _)) rfl) hl) (az (bF (ar rfl rfl (ix1 _ _ _ _)))
    (az (bF (qsl (k:=1) hT rfl rfl rfl hcut)) (di (mG hc rfl) rfl))))
theorem mj {self:Fn}{n:Nat} (hs:gB self n) {T:List Nat} (hT:T.length<=1000) {d:Int}{b:Sto}:∀ (rs:List Ru) (r:Ru) (m p sep:Nat) (bW:List Nat) (ds:List D) (o5:Option W),rs.length+1 < m->ca (r::rs)<=n->aX 6 (r::rs)->(ca (r::rs):Int)<=d->
  ds.length+rs.length+1<=1000->sep≠41->T.drop p=sep::(tx r++(tl rs++41::bW))->
  ∃ o5',dg (cA self) (dH self) m [some (.d (.str (S T))),some (.d (.int (p:Int))),some (.d (.int d)),some (.d (.str (S [sep]))),some (.h b.length),o5] (b++[ds]) =
   some (.nx [some (.d (.str (S T))),some (.d (.int ((p+1+(txs (r::rs)).length:Nat):Int))),some (.d (.int d)),some (.d (.str (S [41]))),some (.h b.length),o5'] (b++[ds++aA (r::rs)]))
 | [],r,m,p,sep,bW,ds,o5,hm,hd,hg,hd2,hl,hsep,h0=>by
  obtain⟨m,rfl⟩:∃ k,m=k+1+1:=⟨m - 2,by simp at hm;lia⟩
  rw [aX] at hg
  rw [ca,ca] at hd hd2
  rw [tl] at h0
  have e:=lX hs hT (d:=d) (b:=b) (o5:=o5) (by lia) hg.1 (by lia) (by lia:ds.length < 1000000) h0 (Y:=bW) rfl (.inr rfl)
  rw [txs,tl,List.append_nil,aA,aA]
  have c1:cA self [some (.d (.str (S T))),some (.d (.int (p:Int))),some (.d (.int d)),some (.d (.str (S [sep]))),some (.h b.length),o5] (b++[ds])=some (true,b++[ds]):=by
   refine cu rfl rfl ?_
   show dNe _ (.d (.str (S [sep]))) (.d (.str (S [41])))=_
   rw [neS,mn]
   simp [hsep]
  refine⟨_,qk c1 e (sT (cu rfl rfl ?_))⟩
  show dNe _ (.d (.str (S [41]))) (.d (.str (S [41])))=_
  rw [neS,beq_self_eq_true];rfl
 | q::rs,r,m,p,sep,bW,ds,o5,hm,hd,hg,hd2,hl,hsep,h0=>by
  obtain⟨m,rfl⟩:∃ k,m=k+1:=⟨m - 1,by lia⟩
  rw [aX] at hg
  rw [ca] at hd hd2
  rw [List.length_cons] at hm hl
  rw [tl] at h0
  have e:=lX hs hT (d:=d) (b:=b) (o5:=o5) (by lia) hg.1 (by lia) (by lia:ds.length < 1000000) h0 (Y:=(tx q++tl rs)++41::bW) rfl (.inl rfl)
  have h1:=qi (mq h0)
  rw [List.cons_append,List.append_assoc] at h1
  have c1:cA self [some (.d (.str (S T))),some (.d (.int (p:Int))),some (.d (.int d)),some (.d (.str (S [sep]))),some (.h b.length),o5] (b++[ds])=some (true,b++[ds]):=by
   refine cu rfl rfl ?_
   show dNe _ (.d (.str (S [sep]))) (.d (.str (S [41])))=_
   rw [neS,mn]
   simp [hsep]
  obtain⟨o5',ih⟩:=mj hs hT (d:=d) (b:=b) rs q m (p+1+(tx r).length) 32 bW (ds++[toD r]) (some (.d (.tup [toD r,.int ((p+1+(tx r).length:Nat):Int)]))) (by lia) (by lia) hg.2 (by lia) (by rw [List.length_append,List.length_singleton];lia) (by decide) h1
  refine⟨o5',qk c1 e ?_⟩
  rw [ih]
  have e1:p+1+(tx r).length+1+(txs (q::rs)).length=p+1+(txs (r::q::rs)).length:=by
   rw [txs,txs,tl,List.length_append,List.length_append,List.length_cons,List.length_append];lia
  have e2:ds++[toD r]++aA (q::rs)=ds++aA (r::q::rs):=by
   rw [List.append_assoc,cR,cR];rfl
  rw [e1,e2]
theorem ol {self:Fn}{n:Nat} (hs:gB self n) {T:List Nat} (hT:T.length<=1000) {d:Int}{st:Sto}{rs:List Ru}{p:Nat}{bW:List Nat} (hd:ca rs<=n) (hg:aX 6 rs) (hl:rs.length<=6) (hd2:(ca rs:Int)<=d)
  (h0:T.drop p=40::(txs rs++41::bW)):dk self [.d (.str (S T)),.d (.int (p:Int)),.d (.int d)] st=some (.d (.tup [.tup (aA rs),.int ((p+2+(txs rs).length:Nat):Int)]),st):=by
 have fin:∀ x s,cN self [some (.d (.str (S T))),some (.d (.int (p:Int))),some (.d (.int d)),none,none,none] st=some (.rt (.d x) s)->s.take st.length=st->dk self [.d (.str (S T)),.d (.int (p:Int)),.d (.int d)] st=some (.d x,st):=λx s h1 h2=>by
  have:=kL (n:=6) (k:=3) (b:=cN self) (ws:=[.d (.str (S T)),.d (.int (p:Int)),.d (.int d)]) (st:=st) (x:=x) rfl h1
  rw [h2] at this
  exact this
 cases rs with
 | nil=>
  rw [txs] at h0 ⊢
  have hcut:(T.drop p).take 2=[40,41]:=by rw [h0];rfl
  refine fin _ st (dl (gj (cu (qsl (k:=2) hT rfl rfl rfl hcut) rfl ?_) (bE (fM (ak (fM rfl rfl (by decide)) (ak (ar rfl rfl (uf _ p)) rfl)) rfl (by show 2<=1000;decide))))) List.take_length
  show dEq _ (.d (.str (S [40,41]))) (.d (.str (S [40,41])))=_
  rw [eqS,beq_self_eq_true]
 | cons r rs=>
  have hg1:aN 6 r:=by rw [aX] at hg;exact hg.1
  obtain⟨c,t,hc,hc41⟩:=sq r hg1
  have h1:T.drop p=40::(tx r++(tl rs++41::bW)):=by rw [h0,txs,List.append_assoc]
  have hcut2:(T.drop p).take 2=[40,c]:=by rw [h1,hc];rfl
  have hcut1:(T.drop p).take 1=[40]:=by rw [h1];rfl
  obtain⟨o5,hw⟩:=mj hs hT (d:=d) (b:=st) rs r 9 p 40 bW [] none (by rw [List.length_cons] at hl;lia) hd hg hd2 (by rw [List.length_cons] at hl;simp;lia) (by decide) h1
  rw [List.nil_append] at hw
  have t1:aB dEq (jL (iV 0) (iPs (iV 1)) (iPs (iOp bf (iV 1) (iC (.int 2))))) (iC (.str "()")) [some (.d (.str (S T))),some (.d (.int (p:Int))),some (.d (.int d)),none,none,none] st=some (false,st):=by
   refine cu (qsl (k:=2) hT rfl rfl rfl hcut2) rfl ?_
   show dEq _ (.d (.str (S [40,c]))) (.d (.str (S [40,41])))=_
   rw [eqS,mn]
   simp [hc41]
  have t2:aB dNe (iV 3) (iC (.str "(")) [some (.d (.str (S T))),some (.d (.int (p:Int))),some (.d (.int d)),some (.d (.str (S [40]))),none,none] st=some (false,st):=by
   refine cu rfl rfl ?_
   show dNe _ (.d (.str (S [40]))) (.d (.str (S [40])))=_
   rw [neS,beq_self_eq_true];rfl
  have g:(st++[aA (r::rs)])[st.length]?=some (aA (r::rs)):=by rw [List.getElem?_append_right (Nat.le_refl _),Nat.sub_self];rfl
  have e1:p+2+(txs (r::rs)).length=p+1+(txs (r::rs)).length+1:=by lia
  rw [e1]
  generalize aA (r::rs)=TD at *
  generalize p+1+(txs (r::rs)).length=p1 at *
  have e2:iU (st++[TD]) [.h st.length]=some (.tup TD):=by simp only [iU,bt,g,Option.map_some]
  refine fin _ (st++[TD]) (az (di t1 rfl) (az (bF (qsl (k:=1) hT rfl rfl rfl hcut1)) (az (di t2 rfl) (az (bF rfl) (az hw (bE (fM (ak (dh (ak rfl rfl) e2) (ak (ar rfl rfl (ox _ p1)) rfl)) rfl (by show 2<=1000;decide)))))))) ?_
  rw [List.take_left]
end Own
end
section
set_option maxHeartbeats 1000000
namespace Own
open PySem L2
theorem om {s:Sto}{d:Int} (h:1<=d) {e:Ev}{a b:Option W}:aB dEq (iV 2) (iC (.int 0)) (a::b::some (.d (.int d))::e) s=some (false,s):=by
 refine cu rfl rfl ?_
 have:(d==0)=false:=beq_eq_false_iff_ne.mpr (by lia)
 simp only [dEq,bc,eqK,eqD,Option.bind_some,Option.map_some,this]
theorem pG {n:Nat} (hs:gB (bn n) n):gB (bn (n+1)) (n+1):=by
 intro r hd hg T p bW d st hT h0 hd2
 have hd1:1<=d:=by have:=fJ r;lia
 refine dw (n:=6) (k:=3) (b:=cG (bn n)) rfl ?_
 show cG (bn n) [some (.d (.str (S T))),some (.d (.int (p:Int))),some (.d (.int d)),none,none,none] st=_
 cases r with
 | sw k=>
  rw [aN] at hg
  obtain⟨j,rfl⟩:=Int.eq_ofNat_of_zero_le hg.1
  rw [tx] at h0 ⊢
  have hj:j < 6:=by lia
  have hcut:(T.drop p).take 1=[97+j]:=by rw [h0];rfl
  have e2:inD (.str (S [97+j])) (jm "abcdef")=true:=by
   rw [lC _ (by lia)]
   exact decide_eq_true (by lia)
  have e3:=nq j hj
  rw [toD]
  exact az (di (om hd1) rfl) (az (bF (qsl (k:=1) hT rfl rfl rfl hcut)) (dl (gj (qin (jJ st) (by decide) rfl e2)
   (bE (fM (ak (fM (ak rfl (ak (qd rfl e3) rfl)) rfl (by show 2<=1000;decide)) (ak (ar rfl rfl (ox _ p)) rfl)) rfl (by show 2<=1000;decide))))))
 | nt q=>
  rw [aN] at hg
  rw [dep] at hd hd2
  rw [tx] at h0 ⊢
  have hcut:(T.drop p).take 1=[33]:=by rw [h0];rfl
  have e2:inD (.str (S [33])) (jm "abcdef")=false:=lC 33 (by decide)
  have e3:=hs q (by lia) hg T (p+1) bW (d - 1) st hT (mq h0) (by lia)
  have e4:p+(33::tx q).length=p+1+(tx q).length:=by rw [List.length_cons];lia
  rw [toD,e4]
  generalize toD q=R at e3 ⊢
  refine az (di (om hd1) rfl) (az (bF (qsl (k:=1) hT rfl rfl rfl hcut)) (az (di (qin (jJ st) (by decide) rfl e2) rfl) (dl (gj (cu rfl rfl ?_)
   (az (bF (bg (ak rfl (ak (ar rfl rfl (ox _ p)) (ak (ar rfl rfl rfl) rfl))) e3))
     (bE (fM (ak (fM (ak rfl (ak (ar rfl rfl (ix0 _ _ _)) rfl)) rfl (by show 2<=1000;decide)) (ak (ar rfl rfl (ix1 _ _ _ _)) rfl)) rfl (by show 2<=1000;decide))))))))
  show dEq _ (.d (.str (S [33]))) (.d (.str (S [33])))=_
  rw [eqS,beq_self_eq_true]
 | gr g k rs=>
  rw [aN] at hg
  rw [dep] at hd hd2
  rw [tx] at h0 ⊢
  obtain⟨l1,l2,l3,l4⟩:=jt (g:=g) (k:=k) hg.2.1
  have hcut:(T.drop p).take 1=[mkC g k]:=by rw [h0];rfl
  have e2:inD (.str (S [mkC g k])) (jm "abcdef")=false:=by
   rw [lC _ l1]
   exact decide_eq_false l4
  have eh:=pA (st:=st) (g:=g) hg.1 hg.2.1
  have h1:T.drop (p+1)=40::(txs rs++41::bW):=by
   rw [mq h0];simp
  have er:=ol hs hT (d:=d - 1) (st:=st) (by lia) hg.2.2.2 hg.2.2.1 (by lia) h1
  have e4:p+(mkC g k::40::(txs rs++[41])).length=p+1+2+(txs rs).length:=by rw [List.length_cons,List.length_cons,List.length_append,List.length_singleton];lia
  rw [toD,e4,<-oj]
  have ha:∀ s:Sto,bf s (.d (.tup (fQ g k))) (.d (.tup [.tup (aA rs)]))=some (.tup (fQ g k++[.tup (aA rs)])):=λs=>by
   have:(fQ g k).length+1<=1000000:=by cases g<;>simp [fQ]
   show (if (fQ g k).length+1<=1000000 then some (D.tup (fQ g k++[.tup (aA rs)])) else none)=_
   rw [if_pos this]
  have t3:aB dEq (iV 3) (iC (.str "!")) [some (.d (.str (S T))),some (.d (.int (p:Int))),some (.d (.int d)),some (.d (.str (S [mkC g k]))),none,none] st=some (false,st):=by
   refine cu rfl rfl ?_
   show dEq _ (.d (.str (S [mkC g k]))) (.d (.str (S [33])))=_
   rw [eqS,mn]
   simp [l3]
  generalize aA rs=TD at er ha ⊢
  generalize fQ g k=HD at eh ha ⊢
  generalize mkC g k=c at hcut e2 eh t3 ⊢
  exact az (di (om hd1) rfl) (az (bF (qsl (k:=1) hT rfl rfl rfl hcut)) (az (di (qin (jJ st) (by decide) rfl e2) rfl) (az (di t3 rfl)
   (az (bF (bg (ak rfl rfl) eh)) (az (bF (bg (ak rfl (ak (ar rfl rfl (ox _ p)) (ak (ar rfl rfl rfl) rfl))) er))
     (bE (fM (ak (ar rfl (fM (ak (ar rfl rfl (ix0 _ _ _)) rfl) rfl (by show 1<=1000;decide)) (ha _)) (ak (ar rfl rfl (ix1 _ _ _ _)) rfl)) rfl (by show 2<=1000;decide))))))))
theorem km:∀ n:Nat,gB (bn n) n
 | 0=>λq h=>by have:=fJ q;lia
 | n+1=>pG (km n)
theorem sv {s:Sto}{x:Str}{e:Ev}:cb (dz dE (iCB eu (ab (iV 0) (ab (iC (.ty "str")) ai)))) (some (.d (.str x))::e) s=some (false,s):=by
 simp only [iV,iC,cb,dz,ai,ab,iCB,bt,eu,dQ,cj,dE,Option.bind_some,Option.map_some,List.getD_cons_zero,Bool.not_true]
theorem pz {st:Sto}{r:Ru} (hd:dep r<=6) (hg:aN 6 r) (hc:cnt r<=40):dM [.d (.str (S (tx r)))] st=some (.d (toD r),st):=by
 have hl:=fC r
 have e1:=km 7 r (by lia) hg (tx r) 0 [] 6 st (by lia) (by rw [List.drop_zero,List.append_nil]) (by lia)
 have e2:=mR (st:=st) hd hg hc
 rw [Nat.zero_add] at e1
 have e3:cM st [.d (.str (S (tx r)))]=some (.int (((tx r).length:Nat):Int)):=by
  show (if (S (tx r)).length<=1000000 then some (D.int ((S (tx r)).length:Int)) else none)=_
  rw [hV,if_pos (by lia)]
 generalize toD r=R at e1 e2 ⊢
 refine dw (n:=2) (k:=1) (b:=dP) rfl ?_
 refine az (di sv rfl) (az (bF (bg (ak rfl (ak rfl (ak rfl rfl))) e1)) (az (di (?_:cI (aB dNe (iOp dIx (iV 1) (iC (.int 1))) (iCB cM (ab (iV 0) ai))) (cb (dz dE (am dq (ab (iOp dIx (iV 1) (iC (.int 0))) ai)))) [some (.d (.str (S (tx r)))),some (.d (.tup [R,.int (((tx r).length:Nat):Int)]))] st=some (false,st)) rfl) (bE (ar rfl rfl (ix0 _ _ _)))))
 have h1:aB dNe (iOp dIx (iV 1) (iC (.int 1))) (iCB cM (ab (iV 0) ai)) [some (.d (.str (S (tx r)))),some (.d (.tup [R,.int (((tx r).length:Nat):Int)]))] st=some (false,st):=by
  refine cu (ar rfl rfl (ix1 _ _ _ _)) (dh (ak rfl rfl) e3) ?_
  generalize (((tx r).length:Nat):Int)=L
  simp [dNe,bc,eqK,eqD]
 have h2:am dq (ab (iOp dIx (iV 1) (iC (.int 0))) ai) [some (.d (.str (S (tx r)))),some (.d (.tup [R,.int (((tx r).length:Nat):Int)]))] st=some (.d (.bl true),st):=bg (ak (ar rfl rfl (ix0 _ _ _)) rfl) e2
 simp only [cI,h1,cb,dz,h2,Option.bind_some,dE,Option.map_some,Bool.false_eq_true,if_false,Bool.not_true]
theorem ni {st:Sto}{x:Str} (h:(reprText x).length<=sizeLine):bA [.d (.str x),.d (.str x)] st=some (.d (.bl true),st):=by
 have e:gq st [.d (.str x)]=some (.str (reprText x)):=by
  show (if (reprText x).length<=sizeLine then some (D.str (reprText x)) else none)=_
  rw [if_pos h]
 refine dw (n:=2) (k:=2) (b:=cZ) rfl (bE (ar (dh (ws:=[.d (.str x)]) rfl e) (dh (ws:=[.d (.str x)]) rfl e) ?_))
 rw [eqS,beq_self_eq_true]
theorem oG {st:Sto}{ds:List D}{x:D} (h:gq st [.d (.tup ds)]=some x) (hx:∃ z,x=.str z):bA [.d (.tup ds),.d (.tup ds)] st=some (.d (.bl true),st):=by
 obtain⟨z,rfl⟩:=hx
 refine dw (n:=2) (k:=2) (b:=cZ) rfl (bE (ar (dh (ws:=[.d (.tup ds)]) rfl h) (dh (ws:=[.d (.tup ds)]) rfl h) ?_))
 rw [eqS,beq_self_eq_true]
theorem px (r:Ru):∃ ds,toD r=.tup ds:=by
 cases r with
 | sw k=>rw [toD];exact⟨_,rfl⟩
 | nt r=>rw [toD];exact⟨_,rfl⟩
 | gr g k rs=>rw [toD];obtain⟨l,h⟩:=nn g k (aA rs);exact⟨_,h⟩
theorem oY {st:Sto}{r:Ru} (hd:dep r<=6) (hg:aN 6 r) (hc:cnt r<=40):bA [.d (toD r),.d (toD r)] st=some (.d (.bl true),st):=by
 obtain⟨h1,h2,h3⟩:=nO r hg
 obtain⟨ds,e⟩:=px r
 rw [e] at h1 h2 h3 ⊢
 refine oG (x:=.str (toP (.tup ds)).shown) ?_ ⟨_,rfl⟩
 show eA st [.d (.tup ds)]=_
 have c:rpD (.tup ds)=true/\wtD (.tup ds)<=16000000/\dpD (.tup ds)<=50:=⟨h1,by lia,by lia⟩
 simp only [eA]
 rw [if_pos c]
theorem pI {st:Sto}{r:Ru} (hg:aN 6 r) (hc:cnt r<=40):bA [.d (.str (S (tx r))),.d (.str (S (tx r)))] st=some (.d (.bl true),st):=by
 have hl:=fC r
 have h:=PySem.StrLaws.reprText_len (S (tx r)) λc hc=>by
  have:=jB r hg c hc
  have:(128:Nat)<=16 ^ 8:=by decide
  lia
 rw [hV] at h
 have h3:100000<=sizeLine:=by decide
 exact ni (by lia)
end Own
end
section
set_option maxHeartbeats 1000000
namespace Own
open PySem L2
noncomputable def Stq (n l:Nat) (c:Int) (st st':Sto):Prop:=st'.length=st.length/\bT st' n/\st'[l]?=some [.int c]/\∀ m,m≠n->m≠l->st'[m]?=st[m]?
theorem Stq.trans {n l:Nat}{c c':Int}{a b d:Sto} (h:Stq n l c a b) (h':Stq n l c' b d):Stq n l c' a d:=⟨h'.1.trans h.1,h'.2.1,h'.2.2.1,λm h1 h2=>(h'.2.2.2 m h1 h2).trans (h.2.2.2 m h1 h2)⟩
theorem _root_.L2.Stp.stq {n l:Nat}{c:Int}{a b:Sto} (h:Stp n a b) (hl:a[l]?=some [.int c]) (hn:n≠l):Stq n l c a b:=⟨h.len,h.hand,by rw [h.get (Ne.symm hn)];exact hl,λm h1 _=>h.get h1⟩
theorem oH {a s:Sto}{u:List D} (hl:s.length=a.length+1) (h:s[a.length]?=some u):s=s.take a.length++[u]:=by
 have h1:s.drop a.length=[u]:=by
  rw [List.drop_eq_getElem_cons (by lia)]
  have e:s[a.length]'(by lia)=u:=by
   rw [List.getElem?_eq_getElem (by lia)] at h
   exact Option.some.inj h
  rw [e,List.drop_eq_nil_of_le (by lia)]
 rw [<-h1,List.take_append_drop]
noncomputable def jC (f:Nat):Prop:=∀ {st:Sto}{n l:Nat}{deep most c:Int},n≠l->bT st n->st[l]?=some [.int c]->1<=c->1<=deep->deep<=f->0 < most->most<=6->
 ∃ r st' c',aN most r/\dep r<=deep.toNat/\0<=c'/\cnt r=c - c'/\Stq n l c' st st'/\av f [.h n,.h l,.d (.int deep),.d (.int most)] st=some (.d (toD r),st')
theorem mS {f:Nat} (ih:jC f) {n l:Nat}{deep most c0:Int}{s2:Sto}{e4:Option W} (hnl:n≠l) (hd0:2<=deep) (hd:deep - 1<=f) (m0:0 < most) (m1:most<=6) (hh:bT s2 n) (hl:s2[l]?=some [.int c0]) (hc0:0<=c0) {cn:Nat}{o6 o7:Option W} (hc:cn<=100) {b0:Sto} (q0:Stq n l c0 s2 b0) :
  ∃ env' s',eE (.nm 6) (bS (av f)) (fk 0 cn) [some (.h n),some (.h l),some (.d (.int deep)),some (.d (.int most)),e4,some (.h s2.length),o6,o7] (b0++[[]])=some (.nx env' s')/\
   ∃ b rs c o6',env'=[some (.h n),some (.h l),some (.d (.int deep)),some (.d (.int most)),e4,some (.h s2.length),o6',o7]/\s'=b++[aA rs]/\Stq n l c s2 b/\aX most rs/\ca rs<=(deep - 1).toNat/\rs.length<=cn/\0<=c/\bz rs=c0 - c:=by
 have hn2:n < s2.length:=hh.lt
 have hl2:l < s2.length:=(List.getElem?_eq_some_iff.mp hl).1
 have key:=eJ (g:=.nm 6) (body:=bS (av f)) (ds:=fk 0 cn)
  (λi env s=>∃ b rs c o6',env=[some (.h n),some (.h l),some (.d (.int deep)),some (.d (.int most)),e4,some (.h s2.length),o6',o7]/\s=b++[aA rs]/\Stq n l c s2 b/\aX most rs/\ca rs<=(deep - 1).toNat/\rs.length<=i/\0<=c/\bz rs=c0 - c)
  (env:=[some (.h n),some (.h l),some (.d (.int deep)),some (.d (.int most)),e4,some (.h s2.length),o6,o7]) (st:=b0++[[]]) ⟨b0,[],c0,o6,rfl,by rw [aA],q0,by rw [aX];trivial,by rw [ca];lia,Nat.le_refl _,hc0,by rw [bz];lia⟩ (λi d env s hdi ⟨b,rs,c,o6',e,es,q,hg,hdp,hx,hcc,hcn⟩=>by
   subst e es
   have hi:i < cn:=(jU hdi).2
   have hlb:b.length=s2.length:=q.1
   have hcl:(b++[aA rs])[l]?=some [.int c]:=by rw [List.getElem?_append_left (by lia)];exact q.2.2.1
   by_cases h0:0 < c
   ·obtain⟨r,s3,c3,gr,dr,c30,c31,q3,e3⟩:=ih hnl (q.2.1.app [aA rs]) hcl (by lia) (deep:=deep - 1) (by lia) hd m0 m1
    have hlen3:s3.length=b.length+1:=by rw [q3.1,List.length_append];rfl
    have g3:s3[b.length]?=some (aA rs):=by
     rw [q3.2.2.2 b.length (by lia) (by lia),List.getElem?_append_right (Nat.le_refl _)];simp
    have es3:=oH hlen3 g3
    have q3':Stq n l c3 b (s3.take b.length):=by
     refine⟨by rw [List.length_take];lia,?_,?_,λm h1 h2=>?_⟩
     ·obtain⟨x,y,z,x0,e⟩:=q3.2.1
      exact⟨x,y,z,x0,by rw [List.getElem?_take_of_lt (by lia)];exact e⟩
     ·rw [List.getElem?_take_of_lt (by lia)];exact q3.2.2.1
     ·by_cases hm:m < b.length
      ·rw [List.getElem?_take_of_lt hm,q3.2.2.2 m h1 h2,List.getElem?_append_left hm]
      ·rw [List.getElem?_eq_none (by rw [List.length_take];lia),List.getElem?_eq_none (by lia)]
    have etd:aA (rs++[r])=aA rs++[toD r]:=by rw [cR,cR,List.map_append];rfl
    refine⟨_,[some (.h n),some (.h l),some (.d (.int deep)),some (.d (.int most)),e4,some (.h s2.length),some (.d d),o7],s3.take b.length++[aA (rs++[r])],rfl,.inl ?_,s3.take b.length,rs++[r],c3,_,rfl,rfl,q.trans q3',i4 hg gr,kA hdp dr,?_,c30,?_⟩
    ·have hset:s3.set s2.length (aA rs++[toD r])=s3.take b.length++[aA rs++[toD r]]:=by
      conv=>lhs;rw [es3]
      rw [<-hlb,List.set_append_right _ _ (by rw [List.length_take];lia),List.length_take,Nat.min_eq_left (by lia),Nat.sub_self]
      rfl
     have g3':s3[s2.length]?=some (aA rs):=by rw [<-hlb];exact g3
     have hxl:(aA rs).length < 1000000:=by rw [cR,List.length_map];lia
     rw [etd]
     generalize aA rs=TD at hcl e3 g3' hxl hset ⊢
     generalize toD r=td at e3 hset ⊢
     simp only [bS,iV,iC,iOp,aB,ai,ab,am,ao,gF,aH,fR,bN,bt,dIx,dF,dGt,dj,Option.bind_some,Option.map_some,List.getD_cons_zero,List.getD_cons_succ,List.set_cons_zero,List.set_cons_succ,if_true,d2,decide_true,hcl,h0,e3,g3',hxl,hset]
    ·rw [List.length_append];simp;lia
    ·rw [kW];lia
   ·refine⟨_,[some (.h n),some (.h l),some (.d (.int deep)),some (.d (.int most)),e4,some (.h s2.length),some (.d d),o7],b++[aA rs],rfl,.inl ?_,b,rs,c,_,rfl,rfl,q,hg,hdp,by lia,hcc,hcn⟩
    generalize aA rs=TD at hcl ⊢
    simp only [bS,iV,iC,iOp,aB,ai,ab,am,ao,gF,aH,fR,bN,bt,dIx,dF,dGt,dj,Option.bind_some,Option.map_some,List.getD_cons_zero,List.getD_cons_succ,List.set_cons_zero,List.set_cons_succ,if_false,Bool.false_eq_true,d2,decide_false,hcl,h0])
 rw [ld] at key
 exact key
set_option maxHeartbeats 4000000 in
theorem mU {f:Nat}{n l:Nat}{deep most way r4 m cn c:Int}{st b3 b4 b5:Sto}{rs:List Ru}{g:Gw}{o6:Option W} (hd0:2<=deep)
  (e3:aI [.h n,.d (.int 4)] (st++[[]])=some (.d (.int r4),b3++[[]])) (hm:atI [D.int 4,.int 4,.int 4,.int 7] r4=some (.int m)) (e4:aI [.h n,.d (.int m)] (b3++[[]])=some (.d (.int cn),b4++[[]])) (hcn:-(2 ^ 62)<=cn/\cn < 2 ^ 62)
  (e5:eE (.nm 6) (bS (av f)) (fk 0 cn.toNat) [some (.h n),some (.h l),some (.d (.int deep)),some (.d (.int most)),some (.d (.int way)),some (.h st.length),none,none] (b4++[[]])=some (.nx [some (.h n),some (.h l),some (.d (.int deep)),some (.d (.int most)),some (.d (.int way)),some (.h st.length),o6,none] (b5++[aA rs])))
  (hw:atI [D.str "all",.str "any",.str "odd",.str "least",.str "all",.str "any"] (way - 2)=some (.str g.wd)) (q5:Stq n l c st b5) (hnl:n≠l) (hg:aX most rs) (hdp:ca rs<=(deep - 1).toNat) (hrl:rs.length<=6) :
  ∃ r b8,aN most r/\dep r<=deep.toNat/\cnt r=1+bz rs/\Stq n l c b5 b8/\bB (av f) [some (.h n),some (.h l),some (.d (.int deep)),some (.d (.int most)),some (.d (.int way)),none,none,none] st=some (.rt (.d (toD r)) (b8++[aA rs])):=by
 have hxl:(aA rs).length=rs.length:=by rw [cR,List.length_map]
 have g5:∀ b:Sto,b.length=st.length->(b++[aA rs])[st.length]?=some (aA rs):=λb hb=>by rw [<-hb,List.getElem?_append_right (Nat.le_refl _)];simp
 have hgd:∀ k,0<=k->k<=9->aN most (.gr g k rs):=λk k0 k1=>by rw [aN];exact⟨k0,k1,hrl,hg⟩
 have hdd:∀ k,dep (.gr g k rs)<=deep.toNat:=λk=>by rw [dep];lia
 have hcc:∀ k,cnt (.gr g k rs)=1+bz rs:=λk=>by rw [cnt]
 have g55:=g5 b5 q5.1
 cases g with
 | all=>
  refine⟨.gr .all 0 rs,b5,hgd 0 (by decide) (by decide),hdd 0,hcc 0,⟨rfl,q5.2.1,q5.2.2.1,λ_ _ _=>rfl⟩,?_⟩
  rw [toD]
  generalize aA rs=TD at e5 g55 ⊢
  unfold Gw.wd at hw
  simp only [grD,bB,cy,iV,iC,iOp,aB,ai,ab,iCB,am,aw,cQ,bh,fI,ao,aj,aT,ax,aH,fe,df,bV,cp,bN,bt,lsD,dIx,bf,dF,eM,dEq,bc,eqK,eqD,cM,iU,Option.bind_some,Option.map_some,List.getD_cons_zero,List.getD_cons_succ,List.set_cons_zero,List.set_cons_succ,List.length_cons,List.length_nil,Nat.reduceAdd,if_true,if_false,Bool.false_eq_true,Nat.zero_add,and_self,eN,e3,hm,e4,hcn,e5,hw,g55,Nat.reduceLeDiff]
 | any=>
  refine⟨.gr .any 0 rs,b5,hgd 0 (by decide) (by decide),hdd 0,hcc 0,⟨rfl,q5.2.1,q5.2.2.1,λ_ _ _=>rfl⟩,?_⟩
  rw [toD]
  generalize aA rs=TD at e5 g55 ⊢
  unfold Gw.wd at hw
  simp only [grD,bB,cy,iV,iC,iOp,aB,ai,ab,iCB,am,aw,cQ,bh,fI,ao,aj,aT,ax,aH,fe,df,bV,cp,bN,bt,lsD,dIx,bf,dF,eM,dEq,bc,eqK,eqD,cM,iU,Option.bind_some,Option.map_some,List.getD_cons_zero,List.getD_cons_succ,List.set_cons_zero,List.set_cons_succ,List.length_cons,List.length_nil,Nat.reduceAdd,if_true,if_false,Bool.false_eq_true,Nat.zero_add,and_self,eR,e3,hm,e4,hcn,e5,hw,g55,Nat.reduceLeDiff]
 | odd=>
  refine⟨.gr .odd 0 rs,b5,hgd 0 (by decide) (by decide),hdd 0,hcc 0,⟨rfl,q5.2.1,q5.2.2.1,λ_ _ _=>rfl⟩,?_⟩
  rw [toD]
  generalize aA rs=TD at e5 g55 ⊢
  unfold Gw.wd at hw
  simp only [grD,bB,cy,iV,iC,iOp,aB,ai,ab,iCB,am,aw,cQ,bh,fI,ao,aj,aT,ax,aH,fe,df,bV,cp,bN,bt,lsD,dIx,bf,dF,eM,dEq,bc,eqK,eqD,cM,iU,Option.bind_some,Option.map_some,List.getD_cons_zero,List.getD_cons_succ,List.set_cons_zero,List.set_cons_succ,List.length_cons,List.length_nil,Nat.reduceAdd,if_true,if_false,Bool.false_eq_true,Nat.zero_add,and_self,eP,e3,hm,e4,hcn,e5,hw,g55,Nat.reduceLeDiff]
 | least=>
  obtain⟨r6,s6,d0,d1,t6,e6⟩:=dn (q5.2.1.app [aA rs]) (m:=4) (by decide) (by decide)
  obtain⟨b6,rfl,u6⟩:=t6.unapp q5.2.1.lt
  have hk:∃ k:Int,atI [D.int (((aA rs).length:Int)+2),.int 10] (r6 / 3)=some (.int k)/\0 < k/\k<=10:=by
   have:r6 / 3=0\/r6 / 3=1:=by lia
   rcases this with h | h
   ·rw [h];exact⟨_,rfl,by lia,by lia⟩
   ·rw [h];exact⟨_,rfl,by decide,by decide⟩
  obtain⟨k,hk,k0,k1⟩:=hk
  obtain⟨r8,s8,g0,g1,t8,e8⟩:=dn (u6.hand.app [aA rs]) (m:=k) k0 (by lia)
  obtain⟨b8,rfl,u8⟩:=t8.unapp u6.hand.lt
  have q6:=u6.stq q5.2.2.1 hnl
  have q8:=q6.trans (u8.stq q6.2.2.1 hnl)
  refine⟨.gr .least r8 rs,b8,hgd r8 g0 (by lia),hdd r8,hcc r8,q8,?_⟩
  have h3:(0:Int) < 3/\(3:Int) < 1073741824:=by decide
  have g58:=g5 b8 (by rw [q8.1,q5.1])
  rw [toD]
  generalize aA rs=TD at e5 g55 g58 e6 e8 hk ⊢
  unfold Gw.wd at hw
  simp only [grD,bB,cy,iV,iC,iOp,aB,ai,ab,iCB,am,aw,cQ,bh,fI,ao,aj,aT,ax,aH,fe,df,bV,cp,bN,bt,lsD,dIx,bf,dF,eM,dEq,bc,eqK,eqD,cM,iU,Option.bind_some,Option.map_some,List.getD_cons_zero,List.getD_cons_succ,List.set_cons_zero,List.set_cons_succ,List.length_cons,List.length_nil,Nat.reduceAdd,if_true,Nat.zero_add,and_self,e3,hm,e4,hcn,e5,hw,g55,e6,h3,hk,e8,g58,beq_self_eq_true,Nat.reduceLeDiff]
set_option maxHeartbeats 4000000 in
theorem mI (f:Nat) (ih:jC f):jC (f+1):=by
 intro st n l deep most c hnl hh hc hc1 hd1 hd m0 m1
 have hll:l < st.length:=(List.getElem?_eq_some_iff.mp hc).1
 have h1:bT (st.set l [.int (c - 1)]) n:=by
  obtain⟨x,y,z,x0,e⟩:=hh
  exact⟨x,y,z,x0,by rw [List.getElem?_set_ne (Ne.symm hnl)];exact e⟩
 have hl1:(st.set l [.int (c - 1)])[l]?=some [.int (c - 1)]:=gR hll
 have q1:Stq n l (c - 1) st (st.set l [.int (c - 1)]):=⟨List.length_set,h1,hl1,λm _ h2=>List.getElem?_set_ne (Ne.symm h2)⟩
 obtain⟨way,s2,w0,w1,t2,e2⟩:=dn h1 (m:=8) (by decide) (by decide)
 have q2:=q1.trans (t2.stq hl1 hnl)
 have hl2:s2[l]?=some [.int (c - 1)]:=q2.2.2.1
 have hm0:(most==0)=false:=beq_eq_false_iff_ne.mpr (by lia)
 have take2:s2.take st.length=s2:=by rw [<-q2.1,List.take_length]
 -- a leaf
 have leaf:(decide (deep < 2)=true\/(decide (deep < 2)=false/\decide (c - 1 < 1)=true)\/(decide (deep < 2)=false/\decide (c - 1 < 1)=false/\(way==0)=true))->
   ∃ r st' c',aN most r/\dep r<=deep.toNat/\0<=c'/\cnt r=c - c'/\Stq n l c' st st'/\av (f+1) [.h n,.h l,.d (.int deep),.d (.int most)] st=some (.d (toD r),st'):=by
  intro hcond
  cases h3:(way==3) with
  | true=>
   obtain⟨r,s3,r0,r1,t3,e3⟩:=dn t2.hand (m:=10) (by decide) (by decide)
   obtain⟨d,s4,hd4,t4,e4⟩:=pv (ds:=[.tup [.str "all",.tup []],.tup [.str "any",.tup []],.tup [.str "odd",.tup []],.tup [.str "least",.int r,.tup []]]) t3.hand (by simp) (by simp)
   have q4:=(q2.trans (t3.stq q2.2.2.1 hnl)).trans (t4.stq (t3.stq q2.2.2.1 hnl).2.2.1 hnl)
   have take4:s4.take st.length=s4:=by rw [<-q4.1,List.take_length]
   have hr:∃ g:Gw,∃ k:Int,0<=k/\k<=9/\d=toD (.gr g k []):=by
    simp only [List.mem_cons,List.not_mem_nil,or_false] at hd4
    rcases hd4 with rfl | rfl | rfl | rfl
    ·exact⟨.all,0,by decide,by decide,by rw [toD,aA];rfl⟩
    ·exact⟨.any,0,by decide,by decide,by rw [toD,aA];rfl⟩
    ·exact⟨.odd,0,by decide,by decide,by rw [toD,aA];rfl⟩
    ·exact⟨.least,r,r0,by lia,by rw [toD,aA];rfl⟩
   obtain⟨g,k,k0,k1,rfl⟩:=hr
   refine⟨.gr g k [],s4,c - 1,by rw [aN,aX];exact⟨k0,k1,by simp,trivial⟩,by rw [dep,ca];lia,by lia,by rw [cnt,bz];lia,q4,?_⟩
   generalize toD (.gr g k [])=d at e4 ⊢
   show dB 8 4 (aG (av f)) _ _=_
   rcases hcond with a1 | ⟨a1,a2⟩ | ⟨a1,a2,a3⟩
   ·simp only [aG,iV,iC,iOp,aB,cI,ai,ab,am,aw,cQ,bh,ao,aj,aT,dU,cv,ax,aH,dB,gk,bV,cp,bN,bt,dIx,dF,dLt,dEq,bc,eqK,eqD,Option.bind_some,Option.map_some,List.getD_cons_zero,List.getD_cons_succ,List.set_cons_zero,List.set_cons_succ,List.map_cons,List.map_nil,List.length_cons,List.length_nil,List.replicate_succ,List.replicate_zero,List.cons_append,List.nil_append,Nat.reduceAdd,Nat.reduceSub,if_true,if_false,Bool.false_eq_true,d2,iQ,Nat.zero_add,hc,e2,hl2,h3,hm0,a1,e3,e4,take4,Nat.reduceLeDiff]
   ·simp only [aG,iV,iC,iOp,aB,cI,ai,ab,am,aw,cQ,bh,ao,aj,aT,dU,cv,ax,aH,dB,gk,bV,cp,bN,bt,dIx,dF,dLt,dEq,bc,eqK,eqD,Option.bind_some,Option.map_some,List.getD_cons_zero,List.getD_cons_succ,List.set_cons_zero,List.set_cons_succ,List.map_cons,List.map_nil,List.length_cons,List.length_nil,List.replicate_succ,List.replicate_zero,List.cons_append,List.nil_append,Nat.reduceAdd,Nat.reduceSub,if_true,if_false,Bool.false_eq_true,d2,iQ,Nat.zero_add,hc,e2,hl2,h3,hm0,a1,a2,e3,e4,take4,Nat.reduceLeDiff]
   ·simp only [aG,iV,iC,iOp,aB,cI,ai,ab,am,aw,cQ,bh,ao,aj,aT,dU,cv,ax,aH,dB,gk,bV,cp,bN,bt,dIx,dF,dLt,dEq,bc,eqK,eqD,Option.bind_some,Option.map_some,List.getD_cons_zero,List.getD_cons_succ,List.set_cons_zero,List.set_cons_succ,List.map_cons,List.map_nil,List.length_cons,List.length_nil,List.replicate_succ,List.replicate_zero,List.cons_append,List.nil_append,Nat.reduceAdd,Nat.reduceSub,if_true,if_false,Bool.false_eq_true,d2,iQ,Nat.zero_add,hc,e2,hl2,h3,hm0,a1,a2,a3,e3,e4,take4,Nat.reduceLeDiff]
  | false=>
   obtain⟨r,s3,r0,r1,t3,e3⟩:=dn t2.hand (m:=most) m0 (by lia)
   have q3:=q2.trans (t3.stq q2.2.2.1 hnl)
   have take3:s3.take st.length=s3:=by rw [<-q3.1,List.take_length]
   refine⟨.sw r,s3,c - 1,by rw [aN];exact⟨r0,r1⟩,by rw [dep];lia,by lia,by rw [cnt];lia,q3,?_⟩
   rw [toD]
   show dB 8 4 (aG (av f)) _ _=_
   rcases hcond with a1 | ⟨a1,a2⟩ | ⟨a1,a2,a3⟩
   ·simp only [aG,iV,iC,iOp,aB,cI,ai,ab,am,aw,cQ,bh,ao,aj,aT,dU,cv,ax,aH,dB,gk,bV,cp,bN,bt,dIx,dF,dLt,dEq,bc,eqK,eqD,Option.bind_some,Option.map_some,List.getD_cons_zero,List.getD_cons_succ,List.set_cons_zero,List.set_cons_succ,List.map_cons,List.map_nil,List.length_cons,List.length_nil,List.replicate_succ,List.replicate_zero,List.cons_append,List.nil_append,Nat.reduceAdd,Nat.reduceSub,if_true,if_false,Bool.false_eq_true,d2,iQ,Nat.zero_add,hc,e2,hl2,h3,hm0,a1,e3,take3,Nat.reduceLeDiff]
   ·simp only [aG,iV,iC,iOp,aB,cI,ai,ab,am,aw,cQ,bh,ao,aj,aT,dU,cv,ax,aH,dB,gk,bV,cp,bN,bt,dIx,dF,dLt,dEq,bc,eqK,eqD,Option.bind_some,Option.map_some,List.getD_cons_zero,List.getD_cons_succ,List.set_cons_zero,List.set_cons_succ,List.map_cons,List.map_nil,List.length_cons,List.length_nil,List.replicate_succ,List.replicate_zero,List.cons_append,List.nil_append,Nat.reduceAdd,Nat.reduceSub,if_true,if_false,Bool.false_eq_true,d2,iQ,Nat.zero_add,hc,e2,hl2,h3,hm0,a1,a2,e3,take3,Nat.reduceLeDiff]
   ·simp only [aG,iV,iC,iOp,aB,cI,ai,ab,am,aw,cQ,bh,ao,aj,aT,dU,cv,ax,aH,dB,gk,bV,cp,bN,bt,dIx,dF,dLt,dEq,bc,eqK,eqD,Option.bind_some,Option.map_some,List.getD_cons_zero,List.getD_cons_succ,List.set_cons_zero,List.set_cons_succ,List.map_cons,List.map_nil,List.length_cons,List.length_nil,List.replicate_succ,List.replicate_zero,List.cons_append,List.nil_append,Nat.reduceAdd,Nat.reduceSub,if_true,if_false,Bool.false_eq_true,d2,iQ,Nat.zero_add,hc,e2,hl2,h3,hm0,a1,a2,a3,e3,take3,Nat.reduceLeDiff]
 cases a1:decide (deep < 2) with
 | true=>exact leaf (.inl a1)
 | false=>
  cases a2:decide (c - 1 < 1) with
  | true=>exact leaf (.inr (.inl ⟨a1,a2⟩))
  | false=>
   cases a3:(way==0) with
   | true=>exact leaf (.inr (.inr ⟨a1,a2,a3⟩))
   | false=>
    have hd2:¬ deep < 2:=of_decide_eq_false a1
    have hc2:¬ c - 1 < 1:=of_decide_eq_false a2
    have hw0:way≠0:=by intro z;rw [z] at a3;cases a3
    cases a4:(way==1) with
    | true=>
     obtain⟨r,s3,c3,gr,dr,c30,c31,q3,e3⟩:=ih hnl q2.2.1 q2.2.2.1 (by lia) (deep:=deep - 1) (by lia) (by lia) m0 m1
     have q3':=q2.trans q3
     have take3:s3.take st.length=s3:=by rw [<-q3'.1,List.take_length]
     refine⟨.nt r,s3,c3,by rw [aN];exact gr,by rw [dep];lia,c30,by rw [cnt];lia,q3',?_⟩
     rw [toD]
     generalize toD r=x at e3 ⊢
     show dB 8 4 (aG (av f)) _ _=_
     simp only [aG,iV,iC,iOp,aB,cI,ai,ab,am,aw,cQ,bh,ao,aj,aT,dU,cv,ax,aH,dB,gk,bV,cp,bN,bt,dIx,dF,dLt,dEq,bc,eqK,eqD,Option.bind_some,Option.map_some,List.getD_cons_zero,List.getD_cons_succ,List.set_cons_zero,List.set_cons_succ,List.map_cons,List.map_nil,List.length_cons,List.length_nil,List.replicate_succ,List.replicate_zero,List.cons_append,List.nil_append,Nat.reduceAdd,Nat.reduceSub,if_true,if_false,Bool.false_eq_true,d2,iQ,Nat.zero_add,hc,e2,hl2,hm0,a1,a2,a3,a4,e3,take3,Nat.reduceLeDiff]
    | false=>
     have hw1:way≠1:=by intro z;rw [z] at a4;cases a4
     obtain⟨r4,s3,r0,r1,t3,e3⟩:=dn (t2.hand.app [[]]) (m:=4) (by decide) (by decide)
     obtain⟨b3,rfl,u3⟩:=t3.unapp t2.hand.lt
     have hm4:∃ m:Int,atI [D.int 4,.int 4,.int 4,.int 7] r4=some (.int m)/\0 < m/\m<=7:=by
      have:r4=0\/r4=1\/r4=2\/r4=3:=by lia
      rcases this with rfl | rfl | rfl | rfl<;>exact⟨_,rfl,by decide,by decide⟩
     obtain⟨m,hm,mm0,mm1⟩:=hm4
     obtain⟨cn,s4,c0,c1,t4,e4⟩:=dn (u3.hand.app [[]]) (m:=m) mm0 (by lia)
     obtain⟨b4,rfl,u4⟩:=t4.unapp u3.hand.lt
     have q4:=(u3.stq q2.2.2.1 hnl).trans (u4.stq (u3.stq q2.2.2.1 hnl).2.2.1 hnl)
     obtain⟨env',s5,e5,b5,rs,c5,o6,rfl,rfl,q5,hg5,hdp5,hl5,c50,c51⟩:=mS ih hnl (deep:=deep) (by lia) (by lia) m0 m1 t2.hand q2.2.2.1 (by lia) (cn:=cn.toNat) (o6:=none) (o7:=none) (e4:=some (.d (.int way))) (by lia) q4
     have hs2:s2.length=st.length:=q2.1
     have hcn:-(2 ^ 62)<=cn/\cn < 2 ^ 62:=by lia
     have hmw:∃ g:Gw,atI [D.str "all",.str "any",.str "odd",.str "least",.str "all",.str "any"] (way - 2)=some (.str g.wd):=by
      have:way - 2=0\/way - 2=1\/way - 2=2\/way - 2=3\/way - 2=4\/way - 2=5:=by lia
      rcases this with h | h | h | h | h | h
      ·rw [h];exact⟨.all,rfl⟩
      ·rw [h];exact⟨.any,rfl⟩
      ·rw [h];exact⟨.odd,rfl⟩
      ·rw [h];exact⟨.least,rfl⟩
      ·rw [h];exact⟨.all,rfl⟩
      ·rw [h];exact⟨.any,rfl⟩
     obtain⟨g,hw⟩:=hmw
     have pre:av (f+1) [.h n,.h l,.d (.int deep),.d (.int most)] st=dB 8 4 (λ_ _=>bB (av f) [some (.h n),some (.h l),some (.d (.int deep)),some (.d (.int most)),some (.d (.int way)),none,none,none] s2) [.h n,.h l,.d (.int deep),.d (.int most)] st:=by
      show dB 8 4 (aG (av f)) _ _=_
      simp only [aG,iV,iC,iOp,aB,cI,ai,ab,am,aw,cQ,bh,ao,aj,aT,dU,cv,ax,aH,dB,gk,bV,cp,bN,bt,dIx,dF,dLt,dEq,bc,eqK,eqD,Option.bind_some,Option.map_some,List.getD_cons_zero,List.getD_cons_succ,List.set_cons_zero,List.set_cons_succ,List.map_cons,List.map_nil,List.length_cons,List.length_nil,List.replicate_succ,List.replicate_zero,List.cons_append,List.nil_append,Nat.reduceAdd,Nat.reduceSub,if_true,if_false,Bool.false_eq_true,d2,iQ,Nat.zero_add,hc,e2,hl2,hm0,a1,a2,a3,a4]
     obtain⟨r,b8,gr,dr,cr,q8,e9⟩:=mU (f:=f) (st:=s2) (deep:=deep) (most:=most) (way:=way) (by lia) e3 hm e4 hcn e5 hw q5 hnl hg5 hdp5 (by lia)
     have take8:(b8++[aA rs]).take st.length=b8:=by rw [<-hs2,<-(q5.trans q8).1];simp
     refine⟨r,b8,c5,gr,dr,c50,by rw [cr];lia,q2.trans (q5.trans q8),?_⟩
     rw [pre]
     simp only [dB,e9,gk,List.length_cons,List.length_nil,Nat.reduceAdd,ite_true,Option.bind_some,take8]
theorem rule_at:∀ f:Nat,jC f
 | 0=>by
  intro _ _ _ _ h1 h2 _ _
  exact absurd (Int.le_trans h1 h2) (by decide)
 | f+1=>mI f (rule_at f)
end Own
end
section
set_option maxHeartbeats 1000000
namespace Own
open PySem L2
theorem ly {env:Ev}{st:Sto}{e:Ef}{M:Int} (he:e env st=some (.d (.int M),st)) (h0:0<=M) (h1:M<=64):df (ab e ai) env st=some (fk 0 M.toNat,st):=by
 have hb:-(2 ^ 62)<=M/\M < 2 ^ 62:=by lia
 simp only [df,ab,ai,he,Option.bind_some,Option.map_some,hb,and_self,if_true]
theorem on {st:Sto}{a b c e f:Option W}{r:Ru} (hd:dep r<=6) (hg:aN 6 r) (hc:cnt r<=40):gN [a,b,c,e,some (.d (toD r)),some (.d (.str (S (tx r)))),f] st=some (.nx [a,b,c,e,some (.d (toD r)),some (.d (.str (S (tx r)))),f] st):=by
 have e1:=md (st:=st) 7 r (by lia) hg (by lia)
 have e2:=pz (st:=st) hd hg hc
 have e3:=pI (st:=st) hg hc
 have e4:=oY (st:=st) hd hg hc
 generalize toD r=R at *
 generalize S (tx r)=z at *
 have h1:am bA (ab (am (aY 7) (ab (iV 4) ai)) (ab (iV 5) ai)) [a,b,c,e,some (.d R),some (.d (.str z)),f] st=some (.d (.bl true),st):=bg (ak (bg rfl e1) rfl) e3
 have h2:am bA (ab (am dM (ab (iV 5) ai)) (ab (iV 4) ai)) [a,b,c,e,some (.d R),some (.d (.str z)),f] st=some (.d (.bl true),st):=bg (ak (bg rfl e2) rfl) e4
 refine di (s:=st) ?_ rfl
 simp only [cI,cb,dz,h1,h2,Option.bind_some,dE,Option.map_some,Bool.false_eq_true,if_false,Bool.not_true]
theorem nF {st:Sto}{ns:List Int}{k hd i:Nat}{a4 a5 a6:Option W} (hh:bT st hd) (hi:i < 3):∃ b4 b5 b6 st',bT st' hd/\jQ [some (.d (.scr ns)),some (.d (.int k)),some (.h hd),some (.d (.int (i:Int))),a4,a5,a6] st=some (.nx [some (.d (.scr ns)),some (.d (.int k)),some (.h hd),some (.d (.int (i:Int))),b4,b5,b6] st'):=by
 obtain⟨c,hc,c0,c1⟩:∃ c:Int,atI [D.int 30,.int 12,.int 4] (i:Int)=some (.int c)/\1<=c/\c<=30:=by
  have:i=0\/i=1\/i=2:=by lia
  rcases this with rfl | rfl | rfl
  ·exact⟨30,rfl,by decide,by decide⟩
  ·exact⟨12,rfl,by decide,by decide⟩
  ·exact⟨4,rfl,by decide,by decide⟩
 have hlt:=hh.lt
 obtain⟨dp,s3,d0,d1,t3,e3⟩:=dn (hh.app [[.int c]]) (m:=6) (by decide) (by decide)
 obtain⟨b3,rfl,t3'⟩:=Stp.unapp hlt t3
 have hl3:b3.length=st.length:=t3'.len
 have hat:(b3++[[D.int c]])[st.length]?=some [.int c]:=by rw [<-hl3,List.getElem?_append_right (Nat.le_refl _),Nat.sub_self];rfl
 obtain⟨r,s4,c',g1,g2,g3,g4,q,e4⟩:=Own.rule_at 7 (st:=b3++[[.int c]]) (n:=hd) (l:=st.length) (deep:=1+dp) (most:=6) (c:=c) (by lia) (t3'.hand.app _) hat c0 (by lia) (by lia) (by decide) (by decide)
 have hdr:dep r<=6:=by lia
 have hcr:cnt r<=40:=by lia
 have e5:=iB (st:=s4) 7 r (by decide) (by lia) g1 (by lia)
 have hF:∃ b6,eE (.nm 6) gN (fk 0 2) [some (.d (.scr ns)),some (.d (.int k)),some (.h hd),some (.d (.int (i:Int))),some (.d (toD r)),some (.d (.str (S (tx r)))),a6] s4=some (.nx [some (.d (.scr ns)),some (.d (.int k)),some (.h hd),some (.d (.int (i:Int))),some (.d (toD r)),some (.d (.str (S (tx r)))),b6] s4):=by
  obtain⟨e',s',hF,x,rfl,rfl⟩:=eJ (g:=.nm 6) (body:=gN) (ds:=fk 0 2) (λ_ env s=>∃ x,env=[some (.d (.scr ns)),some (.d (.int k)),some (.h hd),some (.d (.int (i:Int))),some (.d (toD r)),some (.d (.str (S (tx r)))),x]/\s=s4)
   (env:=[some (.d (.scr ns)),some (.d (.int k)),some (.h hd),some (.d (.int (i:Int))),some (.d (toD r)),some (.d (.str (S (tx r)))),a6]) (st:=s4) ⟨_,rfl,rfl⟩ (by
   rintro j d env s hdj ⟨x,rfl,rfl⟩
   exact⟨_,_,_,rfl,.inl (on hdr g1 hcr),_,rfl,rfl⟩)
  exact⟨x,hF⟩
 obtain⟨b6,hF⟩:=hF
 refine⟨some (.d (toD r)),some (.d (.str (S (tx r)))),b6,s4,q.2.1,?_⟩
 generalize toD r=R at *
 generalize S (tx r)=z at *
 have p0:fI (cQ (ab (iOp dIx (bh (cQ (ab (iC (.int 30)) (ab (iC (.int 12)) (ab (iC (.int 4)) ai))))) (iV 3)) ai)) [some (.d (.scr ns)),some (.d (.int k)),some (.h hd),some (.d (.int (i:Int))),a4,a5,a6] st=some (.h st.length,st++[[.int c]]):=by
  have h1:iOp dIx (bh (cQ (ab (iC (.int 30)) (ab (iC (.int 12)) (ab (iC (.int 4)) ai))))) (iV 3) [some (.d (.scr ns)),some (.d (.int k)),some (.h hd),some (.d (.int (i:Int))),a4,a5,a6] st=some (.d (.int c),st):=ar (x:=.d (.lst [.int 30,.int 12,.int 4])) rfl rfl hc
  simp only [fI,cQ,ab,h1,ai,Option.bind_some,Option.map_some,cp,List.length_cons,List.length_nil,Nat.reduceAdd,Nat.reduceLeDiff,if_true]
 exact az (bF (bg (ak rfl (ak p0 (ak (ar rfl (bg rfl e3) rfl) (ak rfl rfl)))) e4)) (az (bF (bg rfl e5)) (j7 (ly (M:=2) rfl (by decide) (by decide)) hF))
theorem pM {st:Sto}{ns:List Int}{k:Nat}{a2 a3 a4 a5 a6:Option W}:∃ b2 b3 b4 b5 b6 st',j9 [some (.d (.scr ns)),some (.d (.int k)),a2,a3,a4,a5,a6] st=some (.nx [some (.d (.scr ns)),some (.d (.int k)),b2,b3,b4,b5,b6] st'):=by
 obtain⟨x,y,x0,e1⟩:=pB (st:=st) (ns:=ns) (k:=k)
 have hh:bT (st++[[.int x,.int y,.int 0]]) st.length:=⟨x,y,0,x0,by rw [List.getElem?_append_right (Nat.le_refl _),Nat.sub_self];rfl⟩
 generalize st++[[D.int x,.int y,.int 0]]=s1 at e1 hh
 obtain⟨e',s',hF,x3,x4,x5,x6,rfl,_⟩:=eJ (g:=.nm 3) (body:=jQ) (ds:=fk 0 3) (λ_ env s=>∃ x3 x4 x5 x6,env=[some (.d (.scr ns)),some (.d (.int k)),some (.h st.length),x3,x4,x5,x6]/\bT s st.length)
  (env:=[some (.d (.scr ns)),some (.d (.int k)),some (.h st.length),a3,a4,a5,a6]) (st:=s1) ⟨_,_,_,_,rfl,hh⟩ (by
  rintro j d env s hdj ⟨x3,x4,x5,x6,rfl,hs⟩
  obtain⟨rfl,hj⟩:=jU hdj
  obtain⟨b4,b5,b6,s2,h2,e⟩:=nF (ns:=ns) (k:=k) (a4:=x4) (a5:=x5) (a6:=x6) hs hj
  exact⟨_,_,_,rfl,.inl e,_,_,_,_,rfl,h2⟩)
 exact⟨_,_,_,_,_,s',az (bF (bg rfl e1)) (j7 (ly (M:=3) rfl (by decide) (by decide)) hF)⟩
theorem nj (ns:List Int) (hl:ns.length<=63):∃ st,kX [.d (.scr ns)] []=some (.d (.bl true),st):=by
 obtain⟨q,hq,q0,q1⟩:∃ q:Int,(1+if (ns.length:Int) < 10 then (ns.length:Int) else 10)=q/\0<=q/\q<=11:=⟨_,rfl,by split<;>lia,by split<;>lia⟩
 obtain⟨e',s',hF,x1,x2,x3,x4,x5,x6,rfl⟩:=eJ (g:=.nm 1) (body:=j9) (ds:=fk 0 q.toNat) (λi env s=>∃ x1 x2 x3 x4 x5 x6,env=[some (.d (.scr ns)),x1,x2,x3,x4,x5,x6])
  (env:=[some (.d (.scr ns)),none,none,none,none,none,none]) (st:=[]) ⟨_,_,_,_,_,_,rfl⟩ (by
  rintro i d env s hd ⟨x1,x2,x3,x4,x5,x6,rfl⟩
  obtain⟨rfl,hi⟩:=jU hd
  obtain⟨b2,b3,b4,b5,b6,s',e⟩:=pM (st:=s) (ns:=ns) (k:=i) (a2:=x2) (a3:=x3) (a4:=x4) (a5:=x5) (a6:=x6)
  exact⟨_,_,_,rfl,.inl e,_,_,_,_,_,_,rfl⟩)
 have h1:iOp bf (iC (.int 1)) (iCB rX (ab (iC (.int 10)) (ab (iCB cM (ab (iV 0) ai)) ai))) [some (.d (.scr ns)),none,none,none,none,none,none] []=some (.d (.int q),[]):=by
  refine ar (y:=.d (.int (if (ns.length:Int) < 10 then (ns.length:Int) else 10))) rfl (dh rfl ?_) ?_
  ·show some (D.int (if (((ns.map D.int).length:Nat):Int) < 10 then (((ns.map D.int).length:Nat):Int) else 10))=_
   rw [List.length_map]
  ·show some (D.int _)=_
   rw [hq]
 have hrg:=ly h1 q0 (by lia)
 exact⟨_,kL (n:=7) (k:=1) (b:=me) (ws:=[.d (.scr ns)]) (st:=[]) (x:=.bl true) rfl (az (j7 hrg hF) (bE rfl))⟩
end Own
end
namespace Own
open PySem L2
theorem iS {us:List Value} (h:us.length=1):∃ a0,us=[a0]:=match us,h with | [a0],_=>⟨a0,rfl⟩
theorem ot {us:List Value} (h:us.length=2):∃ a0 a1,us=[a0,a1]:=match us,h with | [a0,a1],_=>⟨a0,a1,rfl⟩
theorem rK {us:List Value} (h:us.length=3):∃ a0 a1 a2,us=[a0,a1,a2]:=match us,h with | [a0,a1,a2],_=>⟨a0,a1,a2,rfl⟩
theorem tR {us:List Value} (h:us.length=4):∃ a0 a1 a2 a3,us=[a0,a1,a2,a3]:=match us,h with | [a0,a1,a2,a3],_=>⟨a0,a1,a2,a3,rfl⟩
theorem txt_mk {P:Program}{w:World}{K:PySem.W.Frag}{h:Heap}{mg:Str->Option Value} (X:K.In h) (G:h.Ns mainGlobals mg)
  {f0:Addr}{od0 an0:Option Addr}{sl0:Array (Option Value)}{oc0 kV0 dc0 pm0 cd0 ct0:Value}
  (a0:PySem.W.nsIn K mainGlobals "show_rule" = some (some (.ref f0))) (l0:K.lookup f0=some ⟨oc0,od0,.func (PySem.W.fnOf "show_rule" "show_rule" (aU bo) (aE bo) (ah bo) .none kV0 dc0 pm0 an0 cd0 ct0),sl0⟩) (c0:PySem.W.codeIn K cd0 "show_rule" = true) (k0:PySem.W.keepIn K (.ref f0)=true)
  {f1:Addr}{od1 an1:Option Addr}{sl1:Array (Option Value)}{oc1 kV1 dc1 pm1 cd1 ct1:Value}
  (a1:PySem.W.nsIn K mainGlobals "is_whole" = some (some (.ref f1))) (l1:K.lookup f1=some ⟨oc1,od1,.func (PySem.W.fnOf "is_whole" "is_whole" (aU cC) (aE cC) (ah cC) .none kV1 dc1 pm1 an1 cd1 ct1),sl1⟩) (c1:PySem.W.codeIn K cd1 "is_whole" = true) (k1:PySem.W.keepIn K (.ref f1)=true)
  {f2:Addr}{od2 an2:Option Addr}{sl2:Array (Option Value)}{oc2 kV2 dc2 pm2 cd2 ct2:Value}
  (a2:PySem.W.nsIn K mainGlobals "is_within" = some (some (.ref f2))) (l2:K.lookup f2=some ⟨oc2,od2,.func (PySem.W.fnOf "is_within" "is_within" (aU ci) (aE ci) (ah ci) .none kV2 dc2 pm2 an2 cd2 ct2),sl2⟩) (c2:PySem.W.codeIn K cd2 "is_within" = true) (k2:PySem.W.keepIn K (.ref f2)=true)
  {f3:Addr}{od3 an3:Option Addr}{sl3:Array (Option Value)}{oc3 kV3 dc3 pm3 cd3 ct3:Value}
  (a3:PySem.W.nsIn K mainGlobals "is_row_of_parts" = some (some (.ref f3))) (l3:K.lookup f3=some ⟨oc3,od3,.func (PySem.W.fnOf "is_row_of_parts" "is_row_of_parts" (aU aV) (aE aV) (ah aV) .none kV3 dc3 pm3 an3 cd3 ct3),sl3⟩) (c3:PySem.W.codeIn K cd3 "is_row_of_parts" = true) (k3:PySem.W.keepIn K (.ref f3)=true)
  {f4:Addr}{od4 an4:Option Addr}{sl4:Array (Option Value)}{oc4 kV4 dc4 pm4 cd4 ct4:Value}
  (a4:PySem.W.nsIn K mainGlobals "has_form" = some (some (.ref f4))) (l4:K.lookup f4=some ⟨oc4,od4,.func (PySem.W.fnOf "has_form" "has_form" (aU cB) (aE cB) (ah cB) .none kV4 dc4 pm4 an4 cd4 ct4),sl4⟩) (c4:PySem.W.codeIn K cd4 "has_form" = true) (k4:PySem.W.keepIn K (.ref f4)=true)
  {f5:Addr}{od5 an5:Option Addr}{sl5:Array (Option Value)}{oc5 kV5 dc5 pm5 cd5 ct5:Value}
  (a5:PySem.W.nsIn K mainGlobals "parts_of" = some (some (.ref f5))) (l5:K.lookup f5=some ⟨oc5,od5,.func (PySem.W.fnOf "parts_of" "parts_of" (aU cD) (aE cD) (ah cD) .none kV5 dc5 pm5 an5 cd5 ct5),sl5⟩) (c5:PySem.W.codeIn K cd5 "parts_of" = true) (k5:PySem.W.keepIn K (.ref f5)=true)
  {f6:Addr}{od6 an6:Option Addr}{sl6:Array (Option Value)}{oc6 kV6 dc6 pm6 cd6 ct6:Value}
  (a6:PySem.W.nsIn K mainGlobals "counted" = some (some (.ref f6))) (l6:K.lookup f6=some ⟨oc6,od6,.func (PySem.W.fnOf "counted" "counted" (aU cq) (aE cq) (ah cq) .none kV6 dc6 pm6 an6 cd6 ct6),sl6⟩) (c6:PySem.W.codeIn K cd6 "counted" = true) (k6:PySem.W.keepIn K (.ref f6)=true)
  {f7:Addr}{od7 an7:Option Addr}{sl7:Array (Option Value)}{oc7 kV7 dc7 pm7 cd7 ct7:Value}
  (a7:PySem.W.nsIn K mainGlobals "is_rule" = some (some (.ref f7))) (l7:K.lookup f7=some ⟨oc7,od7,.func (PySem.W.fnOf "is_rule" "is_rule" (aU cW) (aE cW) (ah cW) .none kV7 dc7 pm7 an7 cd7 ct7),sl7⟩) (c7:PySem.W.codeIn K cd7 "is_rule" = true) (k7:PySem.W.keepIn K (.ref f7)=true)
  {f8:Addr}{od8 an8:Option Addr}{sl8:Array (Option Value)}{oc8 kV8 dc8 pm8 cd8 ct8:Value}
  (a8:PySem.W.nsIn K mainGlobals "head_by" = some (some (.ref f8))) (l8:K.lookup f8=some ⟨oc8,od8,.func (PySem.W.fnOf "head_by" "head_by" (aU cV) (aE cV) (ah cV) .none kV8 dc8 pm8 an8 cd8 ct8),sl8⟩) (c8:PySem.W.codeIn K cd8 "head_by" = true) (k8:PySem.W.keepIn K (.ref f8)=true)
  {f9:Addr}{od9 an9:Option Addr}{sl9:Array (Option Value)}{oc9 kV9 dc9 pm9 cd9 ct9:Value}
  (a9:PySem.W.nsIn K mainGlobals "rules_from" = some (some (.ref f9))) (l9:K.lookup f9=some ⟨oc9,od9,.func (PySem.W.fnOf "rules_from" "rules_from" (aU bM) (aE bM) (ah bM) .none kV9 dc9 pm9 an9 cd9 ct9),sl9⟩) (c9:PySem.W.codeIn K cd9 "rules_from" = true) (k9:PySem.W.keepIn K (.ref f9)=true)
  {f10:Addr}{od10 an10:Option Addr}{sl10:Array (Option Value)}{oc10 kV10 dc10 pm10 cd10 ct10:Value}
  (a10:PySem.W.nsIn K mainGlobals "rule_from" = some (some (.ref f10))) (l10:K.lookup f10=some ⟨oc10,od10,.func (PySem.W.fnOf "rule_from" "rule_from" (aU cc) (aE cc) (ah cc) .none kV10 dc10 pm10 an10 cd10 ct10),sl10⟩) (c10:PySem.W.codeIn K cd10 "rule_from" = true) (k10:PySem.W.keepIn K (.ref f10)=true)
  {f11:Addr}{od11 an11:Option Addr}{sl11:Array (Option Value)}{oc11 kV11 dc11 pm11 cd11 ct11:Value}
  (a11:PySem.W.nsIn K mainGlobals "read_rule" = some (some (.ref f11))) (l11:K.lookup f11=some ⟨oc11,od11,.func (PySem.W.fnOf "read_rule" "read_rule" (aU bZ) (aE bZ) (ah bZ) .none kV11 dc11 pm11 an11 cd11 ct11),sl11⟩) (c11:PySem.W.codeIn K cd11 "read_rule" = true) (k11:PySem.W.keepIn K (.ref f11)=true)
  {f12:Addr}{od12 an12:Option Addr}{sl12:Array (Option Value)}{oc12 kV12 dc12 pm12 cd12 ct12:Value}
  (a12:PySem.W.nsIn K mainGlobals "_law_hand" = some (some (.ref f12))) (l12:K.lookup f12=some ⟨oc12,od12,.func (PySem.W.fnOf "_law_hand" "_law_hand" (aU bY) (aE bY) (ah bY) .none kV12 dc12 pm12 an12 cd12 ct12),sl12⟩) (c12:PySem.W.codeIn K cd12 "_law_hand" = true) (k12:PySem.W.keepIn K (.ref f12)=true)
  {f13:Addr}{od13 an13:Option Addr}{sl13:Array (Option Value)}{oc13 kV13 dc13 pm13 cd13 ct13:Value}
  (a13:PySem.W.nsIn K mainGlobals "_law_take" = some (some (.ref f13))) (l13:K.lookup f13=some ⟨oc13,od13,.func (PySem.W.fnOf "_law_take" "_law_take" (aU ce) (aE ce) (ah ce) .none kV13 dc13 pm13 an13 cd13 ct13),sl13⟩) (c13:PySem.W.codeIn K cd13 "_law_take" = true) (k13:PySem.W.keepIn K (.ref f13)=true)
  {f14:Addr}{od14 an14:Option Addr}{sl14:Array (Option Value)}{oc14 kV14 dc14 pm14 cd14 ct14:Value}
  (a14:PySem.W.nsIn K mainGlobals "_law_pick" = some (some (.ref f14))) (l14:K.lookup f14=some ⟨oc14,od14,.func (PySem.W.fnOf "_law_pick" "_law_pick" (aU cf) (aE cf) (ah cf) .none kV14 dc14 pm14 an14 cd14 ct14),sl14⟩) (c14:PySem.W.codeIn K cd14 "_law_pick" = true) (k14:PySem.W.keepIn K (.ref f14)=true)
  {f15:Addr}{od15 an15:Option Addr}{sl15:Array (Option Value)}{oc15 kV15 dc15 pm15 cd15 ct15:Value}
  (a15:PySem.W.nsIn K mainGlobals "_law_rule" = some (some (.ref f15))) (l15:K.lookup f15=some ⟨oc15,od15,.func (PySem.W.fnOf "_law_rule" "_law_rule" (aU bv) (aE bv) (ah bv) .none kV15 dc15 pm15 an15 cd15 ct15),sl15⟩) (c15:PySem.W.codeIn K cd15 "_law_rule" = true) (k15:PySem.W.keepIn K (.ref f15)=true)
  {f16:Addr}{od16 an16:Option Addr}{sl16:Array (Option Value)}{oc16 kV16 dc16 pm16 cd16 ct16:Value}
  (a16:PySem.W.nsIn K mainGlobals "_law_written" = some (some (.ref f16))) (l16:K.lookup f16=some ⟨oc16,od16,.func (PySem.W.fnOf "_law_written" "_law_written" (aU aQ) (aE aQ) (ah aQ) .none kV16 dc16 pm16 an16 cd16 ct16),sl16⟩) (c16:PySem.W.codeIn K cd16 "_law_written" = true) (k16:PySem.W.keepIn K (.ref f16)=true)
  {f17:Addr}{od17 an17:Option Addr}{sl17:Array (Option Value)}{oc17 kV17 dc17 pm17 cd17 ct17:Value}
  (a17:PySem.W.nsIn K mainGlobals "_law_same" = some (some (.ref f17))) (l17:K.lookup f17=some ⟨oc17,od17,.func (PySem.W.fnOf "_law_same" "_law_same" (aU ck) (aE ck) (ah ck) .none kV17 dc17 pm17 an17 cd17 ct17),sl17⟩) (c17:PySem.W.codeIn K cd17 "_law_same" = true) (k17:PySem.W.keepIn K (.ref f17)=true)
  {f18:Addr}{od18 an18:Option Addr}{sl18:Array (Option Value)}{oc18 kV18 dc18 pm18 cd18 ct18:Value}
  (a18:PySem.W.nsIn K mainGlobals "law" = some (some (.ref f18))) (l18:K.lookup f18=some ⟨oc18,od18,.func (PySem.W.fnOf "law" "law" (aU hC) (aE hC) (ah hC) .none kV18 dc18 pm18 an18 cd18 ct18),sl18⟩) (c18:PySem.W.codeIn K cd18 "law" = true) (k18:PySem.W.keepIn K (.ref f18)=true)
  (z_abs:PySem.W.nsIn K mainGlobals "abs" = some none)
  (z_bool:PySem.W.nsIn K mainGlobals "bool" = some none)
  (z_int:PySem.W.nsIn K mainGlobals "int" = some none)
  (z_isinstance:PySem.W.nsIn K mainGlobals "isinstance" = some none)
  (z_len:PySem.W.nsIn K mainGlobals "len" = some none)
  (z_list:PySem.W.nsIn K mainGlobals "list" = some none)
  (z_min:PySem.W.nsIn K mainGlobals "min" = some none)
  (z_range:PySem.W.nsIn K mainGlobals "range" = some none)
  (z_repr:PySem.W.nsIn K mainGlobals "repr" = some none)
  (z_str:PySem.W.nsIn K mainGlobals "str" = some none)
  (z_tuple:PySem.W.nsIn K mainGlobals "tuple" = some none)
  {ga_FIGURES:Tok} (ga_FIGURES_:PySem.W.nsIn K mainGlobals "FIGURES" = some (some (.str "0123456789" ga_FIGURES)))
  {ga_GREATEST_LEAST:Tok} (ga_GREATEST_LEAST_:PySem.W.nsIn K mainGlobals "GREATEST_LEAST" = some (some (.int 9 ga_GREATEST_LEAST)))
  {ga_LAST_SWITCH:Tok} (ga_LAST_SWITCH_:PySem.W.nsIn K mainGlobals "LAST_SWITCH" = some (some (.int 5 ga_LAST_SWITCH)))
  {ga_LETTERS:Tok} (ga_LETTERS_:PySem.W.nsIn K mainGlobals "LETTERS" = some (some (.str "abcdef" ga_LETTERS)))
  {ga_MOST_DEEP:Tok} (ga_MOST_DEEP_:PySem.W.nsIn K mainGlobals "MOST_DEEP" = some (some (.int 6 ga_MOST_DEEP)))
  {ga_MOST_PARTS:Tok} (ga_MOST_PARTS_:PySem.W.nsIn K mainGlobals "MOST_PARTS" = some (some (.int 6 ga_MOST_PARTS)))
  {ga_MOST_RULES:Tok} (ga_MOST_RULES_:PySem.W.nsIn K mainGlobals "MOST_RULES" = some (some (.int 40 ga_MOST_RULES)))
  {ga_SIGNS:Addr}{ob_SIGNS:Obj} (ga_SIGNS_:PySem.W.nsIn K mainGlobals "SIGNS" = some (some (.ref ga_SIGNS))) (gl_SIGNS:K.lookup ga_SIGNS=some ob_SIGNS) (gq_SIGNS:(ga_SIGNS==sysModules)=false/\∃ vs,Obj.IsDictOf (bD P w) ob_SIGNS vs/\KPs [("all",(.str "&")),("any",(.str "|")),("odd",(.str "^"))] vs)
  {ga_WORDS:Addr}{ob_WORDS:Obj} (ga_WORDS_:PySem.W.nsIn K mainGlobals "WORDS" = some (some (.ref ga_WORDS))) (gl_WORDS:K.lookup ga_WORDS=some ob_WORDS) (gq_WORDS:(ga_WORDS==sysModules)=false/\∃ vs,Obj.IsDictOf (bD P w) ob_WORDS vs/\KPs [("&",(.str "all")),("|",(.str "any")),("^",(.str "odd"))] vs)
  : ∃ t,Txt P w K mg t/\t.f18=f18:=by
 have F0:=bJ (st:=bo) l0 c0 k0
 have F1:=bJ (st:=cC) l1 c1 k1
 have F2:=bJ (st:=ci) l2 c2 k2
 have F3:=bJ (st:=aV) l3 c3 k3
 have F4:=bJ (st:=cB) l4 c4 k4
 have F5:=bJ (st:=cD) l5 c5 k5
 have F6:=bJ (st:=cq) l6 c6 k6
 have F7:=bJ (st:=cW) l7 c7 k7
 have F8:=bJ (st:=cV) l8 c8 k8
 have F9:=bJ (st:=bM) l9 c9 k9
 have F10:=bJ (st:=cc) l10 c10 k10
 have F11:=bJ (st:=bZ) l11 c11 k11
 have F12:=bJ (st:=bY) l12 c12 k12
 have F13:=bJ (st:=ce) l13 c13 k13
 have F14:=bJ (st:=cf) l14 c14 k14
 have F15:=bJ (st:=bv) l15 c15 k15
 have F16:=bJ (st:=aQ) l16 c16 k16
 have F17:=bJ (st:=ck) l17 c17 k17
 have F18:=bJ (st:=hC) l18 c18 k18
 refine⟨⟨f0,_,f1,_,f2,_,f3,_,f4,_,f5,_,f6,_,f7,_,f8,_,f9,_,f10,_,f11,_,f12,_,f13,_,f14,_,f15,_,f16,_,f17,_,f18,_,ga_FIGURES,ga_GREATEST_LEAST,ga_LAST_SWITCH,ga_LETTERS,ga_MOST_DEEP,ga_MOST_PARTS,ga_MOST_RULES,ga_SIGNS,ga_WORDS⟩,⟨F0,PySem.W.mg_of X G a0,F0.binds λ_ _ _ _ _ _ us hl=>(by obtain⟨_,rfl⟩:=iS hl;rfl),F1,PySem.W.mg_of X G a1,F1.binds λ_ _ _ _ _ _ us hl=>(by obtain⟨_,rfl⟩:=iS hl;rfl),F2,PySem.W.mg_of X G a2,F2.binds λ_ _ _ _ _ _ us hl=>(by obtain⟨_,_,_,rfl⟩:=rK hl;rfl),F3,PySem.W.mg_of X G a3,F3.binds λ_ _ _ _ _ _ us hl=>(by obtain⟨_,rfl⟩:=iS hl;rfl),F4,PySem.W.mg_of X G a4,F4.binds λ_ _ _ _ _ _ us hl=>(by obtain⟨_,rfl⟩:=iS hl;rfl),F5,PySem.W.mg_of X G a5,F5.binds λ_ _ _ _ _ _ us hl=>(by obtain⟨_,rfl⟩:=iS hl;rfl),F6,PySem.W.mg_of X G a6,F6.binds λ_ _ _ _ _ _ us hl=>(by obtain⟨_,_,rfl⟩:=ot hl;rfl),F7,PySem.W.mg_of X G a7,F7.binds λ_ _ _ _ _ _ us hl=>(by obtain⟨_,rfl⟩:=iS hl;rfl),F8,PySem.W.mg_of X G a8,F8.binds λ_ _ _ _ _ _ us hl=>(by obtain⟨_,rfl⟩:=iS hl;rfl),F9,PySem.W.mg_of X G a9,F9.binds λ_ _ _ _ _ _ us hl=>(by obtain⟨_,_,_,rfl⟩:=rK hl;rfl),F10,PySem.W.mg_of X G a10,F10.binds λ_ _ _ _ _ _ us hl=>(by obtain⟨_,_,_,rfl⟩:=rK hl;rfl),F11,PySem.W.mg_of X G a11,F11.binds λ_ _ _ _ _ _ us hl=>(by obtain⟨_,rfl⟩:=iS hl;rfl),F12,PySem.W.mg_of X G a12,F12.binds λ_ _ _ _ _ _ us hl=>(by obtain⟨_,_,rfl⟩:=ot hl;rfl),F13,PySem.W.mg_of X G a13,F13.binds λ_ _ _ _ _ _ us hl=>(by obtain⟨_,_,rfl⟩:=ot hl;rfl),F14,PySem.W.mg_of X G a14,F14.binds λ_ _ _ _ _ _ us hl=>(by obtain⟨_,_,rfl⟩:=ot hl;rfl),F15,PySem.W.mg_of X G a15,F15.binds λ_ _ _ _ _ _ us hl=>(by obtain⟨_,_,_,_,rfl⟩:=tR hl;rfl),F16,PySem.W.mg_of X G a16,F16.binds λ_ _ _ _ _ _ us hl=>(by obtain⟨_,rfl⟩:=iS hl;rfl),F17,PySem.W.mg_of X G a17,F17.binds λ_ _ _ _ _ _ us hl=>(by obtain⟨_,_,rfl⟩:=ot hl;rfl),F18,PySem.W.mg_of X G a18,F18.binds λ_ _ _ _ _ _ us hl=>(by obtain⟨_,rfl⟩:=iS hl;rfl),PySem.W.mg_none_of X G z_abs,PySem.W.mg_none_of X G z_bool,PySem.W.mg_none_of X G z_int,PySem.W.mg_none_of X G z_isinstance,PySem.W.mg_none_of X G z_len,PySem.W.mg_none_of X G z_list,PySem.W.mg_none_of X G z_min,PySem.W.mg_none_of X G z_range,PySem.W.mg_none_of X G z_repr,PySem.W.mg_none_of X G z_str,PySem.W.mg_none_of X G z_tuple,PySem.W.mg_of X G ga_FIGURES_,λ_ _=>rfl,PySem.W.mg_of X G ga_GREATEST_LEAST_,λ_ _=>rfl,PySem.W.mg_of X G ga_LAST_SWITCH_,λ_ _=>rfl,PySem.W.mg_of X G ga_LETTERS_,λ_ _=>rfl,PySem.W.mg_of X G ga_MOST_DEEP_,λ_ _=>rfl,PySem.W.mg_of X G ga_MOST_PARTS_,λ_ _=>rfl,PySem.W.mg_of X G ga_MOST_RULES_,λ_ _=>rfl,PySem.W.mg_of X G ga_SIGNS_,let ⟨a,vs,b,c⟩:=gq_SIGNS;⟨a,_,vs,gl_SIGNS,b,c⟩,PySem.W.mg_of X G ga_WORDS_,let ⟨a,vs,b,c⟩:=gq_WORDS;⟨a,_,vs,gl_WORDS,b,c⟩⟩,rfl⟩
theorem txt_ex {P:Program}{w:World}{K:PySem.W.Frag}{mg:Str->Option Value}{f:Addr} (h:∃ t,Txt P w K mg t/\t.f18=f):∃ t,Txt P w K mg t:=let ⟨t,a,_⟩:=h;⟨t,a⟩
theorem walk {l:PySem.W.OpenLaw}{q:Program}{loose:List Str}{XP:(Str->Option Value)->Heap->Prop}{YP:World->Heap->Prop}{d:DefRec}{K:Params->PySem.W.Frag} (hn:l.most=some 63) (hdf:d.params.defaults=[])
  (hY:∀ (w:World) (h:Heap),YP w h->(K w.params).In h)
  (F:∀ (w:World) (mg:Str->Option Value) (fa:Addr) (h:Heap),(K w.params).In h->h.Ns mainGlobals mg->mg d.name=some (.ref fa)->
    ∃ fd:FuncData,(∀ (s:Shared) (u:Value),BindsTo s fd ⟨[u],[]⟩ [("_law_script",u)])/\∀ base:Heap,(K w.params).In base->base.Ns mainGlobals mg->bp l.prog w (K w.params) mg base CX0 17 fa fd ["_law_script"] (spI (K w.params) kX)) :
  PySem.W.WalkO q loose XP YP l.row.toRowW d [] (λf vs=>PySem.call f vs):=
 L2.walk_of (n:=63) (k:=17) (x:="_law_script") (CX:=λ_=>CX0) (sp:=λw=>spI (K w.params) kX) hn (by decide) hdf ⟨rfl,by decide,by decide,rfl⟩ hY F (λ_ _ a ns hl hO hS=>oU hO hS (nj ns hl)) λ_ _ _ _ _ z=>z
theorem law_mk {l:PySem.W.OpenLaw}{w:World}{K:PySem.W.Frag}{h:Heap}{mg:Str->Option Value}{fa:Addr} (hfa:mg "law" = some (.ref fa)) (T0:∃ t,Txt l.prog w K mg t) :
  ∃ fd:FuncData,(∀ (s:Shared) (v:Value),BindsTo s fd ⟨[v],[]⟩ [("_law_script",v)])/\∀ base:Heap,K.In base->base.Ns mainGlobals mg->bp l.prog w K mg base CX0 17 fa fd ["_law_script"] (spI K kX):=by
 obtain⟨t,T⟩:=T0
 have e:=hfa.symm.trans T.m18
 cases e
 refine⟨t.g18,λs v=>?_,λbase _ _=>qF T⟩
 obtain⟨oc,od,kV,doc,pm,an,cdv,ct,osl,e,_⟩:=T.F18.ex
 rw [e]
 exact .of_eq rfl
end Own
open PySem PySem.W PyProof.Rows
set_option maxRecDepth 100000 in
set_option maxHeartbeats 0 in
theorem PySem.Challenge.cw_signpoly_k77_rules_written_holds : PySem.Challenge.rw_signpoly_k77_rules_written.Holds := by
 w_on;o_law;k_head;(case hw=>w_witness2)
 k_fill
 refine Own.walk (l:=PySem.Challenge.rw_signpoly_k77_rules_written) rfl rfl (λw h Y=>PySem.W.kIn_of Y) ?F
 case F=>
  intro w mg fa h KX G hmg
  refine Own.law_mk (h:=h) hmg ?T
  case T=>
   refine' Own.txt_ex (Own.txt_mk KX G ?a0 ?l0 ?c0 ?k0 ?a1 ?l1 ?c1 ?k1 ?a2 ?l2 ?c2 ?k2 ?a3 ?l3 ?c3 ?k3 ?a4 ?l4 ?c4 ?k4 ?a5 ?l5 ?c5 ?k5 ?a6 ?l6 ?c6 ?k6 ?a7 ?l7 ?c7 ?k7 ?a8 ?l8 ?c8 ?k8 ?a9 ?l9 ?c9 ?k9 ?a10 ?l10 ?c10 ?k10 ?a11 ?l11 ?c11 ?k11 ?a12 ?l12 ?c12 ?k12 ?a13 ?l13 ?c13 ?k13 ?a14 ?l14 ?c14 ?k14 ?a15 ?l15 ?c15 ?k15 ?a16 ?l16 ?c16 ?k16 ?a17 ?l17 ?c17 ?k17 ?a18 ?l18 ?c18 ?k18 ?z_abs ?z_bool ?z_int ?z_isinstance ?z_len ?z_list ?z_min ?z_range ?z_repr ?z_str ?z_tuple ?ga_FIGURES_ ?ga_GREATEST_LEAST_ ?ga_LAST_SWITCH_ ?ga_LETTERS_ ?ga_MOST_DEEP_ ?ga_MOST_PARTS_ ?ga_MOST_RULES_ ?ga_SIGNS_ ?gl_SIGNS ?gq_SIGNS ?ga_WORDS_ ?gl_WORDS ?gq_WORDS)
   case a0=>k_is
   case l0=>k_is
   case c0=>k_is
   case k0=>k_is
   case a1=>k_is
   case l1=>k_is
   case c1=>k_is
   case k1=>k_is
   case a2=>k_is
   case l2=>k_is
   case c2=>k_is
   case k2=>k_is
   case a3=>k_is
   case l3=>k_is
   case c3=>k_is
   case k3=>k_is
   case a4=>k_is
   case l4=>k_is
   case c4=>k_is
   case k4=>k_is
   case a5=>k_is
   case l5=>k_is
   case c5=>k_is
   case k5=>k_is
   case a6=>k_is
   case l6=>k_is
   case c6=>k_is
   case k6=>k_is
   case a7=>k_is
   case l7=>k_is
   case c7=>k_is
   case k7=>k_is
   case a8=>k_is
   case l8=>k_is
   case c8=>k_is
   case k8=>k_is
   case a9=>k_is
   case l9=>k_is
   case c9=>k_is
   case k9=>k_is
   case a10=>k_is
   case l10=>k_is
   case c10=>k_is
   case k10=>k_is
   case a11=>k_is
   case l11=>k_is
   case c11=>k_is
   case k11=>k_is
   case a12=>k_is
   case l12=>k_is
   case c12=>k_is
   case k12=>k_is
   case a13=>k_is
   case l13=>k_is
   case c13=>k_is
   case k13=>k_is
   case a14=>k_is
   case l14=>k_is
   case c14=>k_is
   case k14=>k_is
   case a15=>k_is
   case l15=>k_is
   case c15=>k_is
   case k15=>k_is
   case a16=>k_is
   case l16=>k_is
   case c16=>k_is
   case k16=>k_is
   case a17=>k_is
   case l17=>k_is
   case c17=>k_is
   case k17=>k_is
   case a18=>k_is
   case l18=>k_is
   case c18=>k_is
   case k18=>k_is
   case z_abs=>k_is
   case z_bool=>k_is
   case z_int=>k_is
   case z_isinstance=>k_is
   case z_len=>k_is
   case z_list=>k_is
   case z_min=>k_is
   case z_range=>k_is
   case z_repr=>k_is
   case z_str=>k_is
   case z_tuple=>k_is
   case ga_FIGURES_=>k_is
   case ga_GREATEST_LEAST_=>k_is
   case ga_LAST_SWITCH_=>k_is
   case ga_LETTERS_=>k_is
   case ga_MOST_DEEP_=>k_is
   case ga_MOST_PARTS_=>k_is
   case ga_MOST_RULES_=>k_is
   case ga_SIGNS_=>k_is
   case gl_SIGNS=>k_is
   case gq_SIGNS=>exact⟨rfl,L2.kdc_mk (.cons rfl ⟨_,rfl⟩ (.cons rfl ⟨_,rfl⟩ (.cons rfl ⟨_,rfl⟩ .nil))) (by decide)⟩
   case ga_WORDS_=>k_is
   case gl_WORDS=>k_is
   case gq_WORDS=>exact⟨rfl,L2.kdc_mk (.cons rfl ⟨_,rfl⟩ (.cons rfl ⟨_,rfl⟩ (.cons rfl ⟨_,rfl⟩ .nil))) (by decide)⟩
