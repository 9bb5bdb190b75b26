import PyProof.Rows.All
import Wide.All
import OpenK.AllK
import Wide.FinOn
import Lean
import PyProof.EqAt
import PyProof.EqKinds
import PyProof.TupleCall
import PyProof.ListRange
import PyProof.NeKinds
import KE.KUnpack
import KE.KSortTup
import PyProof.ZipIter
import PyProof.Rows.CallKwBuiltin
import KE.KDictLaws
import KE.KDictList
import PyProof.SetKind
import PyProof.SetRoads
import PyProof.Rows.SetFrom
import PyProof.WalksMore
import KE.KIntText
import KE.KDictOf
import PyProof.AttrMissSeq
import PyProof.TupleIter
import PyProof.ListStr
import OpenK.KOwn
import PyProof.ExcBaseAll.ValueError
import KE.KIsAll
import PyProof.ExcArgsOwn
import PyProof.ExcAttrAll.ValueError
import PyProof.RulesAs
import PySem.Challenge.RW_signpoly_k78_texts_of_no_rules
set_option Elab.async false
set_option linter.all false
set_option maxRecDepth 100000
set_option genSizeOf false
noncomputable section
namespace L2
open PySem PySem.Spec PyProof.Rows
abbrev Key:=Sum Int Str
noncomputable def mJ:Key->Value->Bool
 | .inl k,v=>Value.isInt k v
 | .inr x,v=>Value.isStrOf x v
noncomputable def At (w:World):Key->Int
 | .inl k=>hashInt k
 | .inr x=>hashStr w x
theorem cK:∀ {k:Key}{v:Value},mJ k v=true->(∃ i t,k=Sum.inl i/\v=Value.int i t)\/(∃ x t,k=Sum.inr x/\v=Value.str x t)
 | .inl i,v,h=>by
  obtain⟨t,e⟩:=Value.isInt_shape (k:=i) (v:=v) h
  exact .inl ⟨i,t,rfl,e⟩
 | .inr x,v,h=>by
  obtain⟨t,e⟩:=Value.isStrOf_shape (x:=x) (v:=v) h
  exact .inr ⟨x,t,rfl,e⟩
theorem rW (i:Int) (t:Tok):mJ (.inl i) (.int i t)=true:=by simp [mJ,Value.isInt]
theorem rS (x:Str) (t:Tok):mJ (.inr x) (.str x t)=true:=by simp [mJ,Value.isStrOf]
theorem xY (a b:Int):decide ((Sum.inl a:Key)=Sum.inl b)=(a==b):=by
 by_cases e:a=b
 ·subst e;simp
 ·have h:¬ (Sum.inl a:Key)=Sum.inl b:=λq=>e (Sum.inl.inj q)
  rw [decide_eq_false h]
  exact (beq_eq_false_iff_ne.mpr e).symm
theorem xW (a b:Str):decide ((Sum.inr a:Key)=Sum.inr b)=decide (a=b):=by
 by_cases e:a=b
 ·subst e;simp
 ·have h:¬ (Sum.inr a:Key)=Sum.inr b:=λq=>e (Sum.inr.inj q)
  rw [decide_eq_false h,decide_eq_false e]
theorem xt (a:Int) (b:Str):decide ((Sum.inl a:Key)=Sum.inr b)=false:=decide_eq_false (λq=>nomatch q)
theorem yr (a:Str) (b:Int):decide ((Sum.inr a:Key)=Sum.inl b)=false:=decide_eq_false (λq=>nomatch q)
noncomputable def bN (prog:Program) (w:World):PySem.KeyKind prog w Key where
 is:=mJ
 hash:=At w
 inj:=λv a b ha hb=>by
  rcases cK ha with⟨i,t,rfl,rfl⟩ | ⟨x,t,rfl,rfl⟩
  ·rcases cK hb with⟨j,u,rfl,e⟩ | ⟨y,u,rfl,e⟩
   ·injection e with e1 _;rw [e1]
   ·exact nomatch e
  ·rcases cK hb with⟨j,u,rfl,e⟩ | ⟨y,u,rfl,e⟩
   ·exact nomatch e
   ·injection e with e1 _;rw [e1]
 byValue:=λk v h=>by
  rcases cK h with⟨i,t,rfl,rfl⟩ | ⟨x,t,rfl,rfl⟩<;>rfl
 pyHash:=λhv h=>by
  rcases cK hv with⟨i,t,rfl,rfl⟩ | ⟨x,t,rfl,rfl⟩
  ·exact wpAny_pyHash_int h
  ·exact wpAny_pyHash_str h
 eqBool:=λhu hv h=>by
  rcases cK hu with⟨i,t,rfl,rfl⟩ | ⟨x,t,rfl,rfl⟩
  ·rcases cK hv with⟨j,u,rfl,rfl⟩ | ⟨y,u,rfl,rfl⟩
   ·rw [xY] at h;exact wpAny_eqBool_int h
   ·rw [xt] at h;exact SeqAt.EqAt.int_str i t y u _ _ _ _ h
  ·rcases cK hv with⟨j,u,rfl,rfl⟩ | ⟨y,u,rfl,rfl⟩
   ·rw [yr] at h;exact SeqAt.EqAt.str_int x t j u _ _ _ _ h
   ·rw [xW] at h;exact wpAny_eqBool_str h
 «strs»:=λk x t v h=>by
  rcases cK h with⟨i,u,rfl,e⟩ | ⟨y,u,rfl,e⟩
  ·exact nomatch e
  ·injection e with e1 _
   subst e1
   cases v<;>rfl
theorem pF (prog:Program) (w:World) (i:Int) (t:Tok):(bN prog w).is (.inl i) (.int i t)=true:=rW i t
theorem bQ (prog:Program) (w:World) (x:Str) (t:Tok):(bN prog w).is (.inr x) (.str x t)=true:=rS x t
end L2
namespace L2
open PySem PySem.Spec PyProof.Rows
inductive V where
 | non | bl (b:Bool) | int (i:Int) | str (x:Str) | byt (b:Array UInt8) | flt (b:UInt64) | ref (a:Addr) | ty (n:String)
 deriving DecidableEq
noncomputable def br:V->Value->Prop
 | .non,u=>u=Value.none
 | .bl b,u=>u=Value.bool b
 | .int i,u=>∃ t,u=Value.int i t
 | .str x,u=>∃ t,u=Value.str x t
 | .byt b,u=>∃ t,u=Value.bytes b t
 | .flt b,u=>∃ t,u=Value.float b t
 | .ref a,u=>u=Value.ref a
 | .ty n,u=>u=Value.type n
abbrev bx:List V->List Value->Prop:=Paired br
theorem bx.length {xs:List V}{us:List Value} (r:bx xs us):xs.length=us.length:=Paired.length r
theorem bx.get:∀ {xs:List V}{us:List Value}{i:Nat}{x:V},bx xs us->xs[i]?=some x->∃ u,us[i]?=some u/\br x u
 | _,_,_,_,.nil,e=>by simp at e
 | _,_,0,_,.cons r _,e=>by simp at e;subst e;exact⟨_,rfl,r⟩
 | _,_,i+1,x,.cons _ t,e=>by
  obtain⟨u,h1,h2⟩:=bx.get (i:=i) (x:=x) t (by simpa using e)
  exact⟨u,by simpa using h1,h2⟩
theorem bx.set {x:V}{u:Value} (r:br x u):∀ {xs:List V}{us:List Value} (i:Nat),bx xs us->bx (xs.set i x) (us.set i u)
 | _,_,_,.nil=>.nil
 | _,_,0,.cons _ t=>.cons r t
 | _,_,i+1,.cons q t=>.cons q (bx.set r i t)
theorem bx.append:∀ {xs ys:List V}{us ws:List Value},bx xs us->bx ys ws->bx (xs++ys) (us++ws)
 | _,_,_,_,.nil,s=>s
 | _,_,_,_,.cons r t,s=>.cons r (bx.append t s)
noncomputable def ma:Option V->Option Value->Prop
 | some v,some u=>br v u
 | none,none=>True
 | _,_=>False
noncomputable def KV {κ:Type}:List (κ×V)->List (κ×Value)->Prop:=Paired λ(p:κ×V) (q:κ×Value)=>p.1=q.1/\br p.2 q.2
noncomputable def kV:Key->V
 | .inl i=>.int i
 | .inr x=>.str x
inductive HO where
 | lst (xs:List V)
 | tup (xs:List V)
 | dK (kvs:List (Key×V)) | dT (kvs:List (List Key×V))
 | set (S:Int->Bool) (n:Nat)
 | ins (C dx:Addr) (fs:List (Str×V))
 | own (x:Addr)
 | xd (fs:List (Str×V))
 | met (f x:Addr)
 | rng (lo hi:Int)
 | frz (o:Obj) (u:HO)
 | tbl (ps:Array Value)
 | ext (φ:Heap->Prop)
abbrev Hp:=Addr->Option HO
noncomputable def upd (H:Hp) (a:Addr) (o:HO):Hp:=λb=>if b=a then some o else H b
theorem bG {H:Hp}{a:Addr}{o:HO}:upd H a o a=some o:=by unfold upd;rw [if_pos rfl]
theorem bA {H:Hp}{a b:Addr}{o:HO} (h:b≠a):upd H a o b=H b:=by unfold upd;rw [if_neg h]
theorem bB {H:Hp}{a b:Addr}{o:HO} (h:H a=some o) (h':H b=none):a≠b:=by
 intro e;subst e;rw [h] at h';cases h'
noncomputable def iH (h:Heap) (a:Addr) (its:Array Value):Prop:=∃ o:Obj,h.get? a=some o/\o.cls=.type "tuple"/\(∃ n,o.data=.seq its n)/\o.dict=none
theorem iH.tup {h:Heap}{a:Addr}{its:Array Value} (x:iH h a its):IsTup h a its:=let ⟨o,e,c,n,_⟩:=x;⟨o,e,c,n⟩
theorem iH.new (h:Heap) (its:Array Value):iH (h.push { cls:=.type "tuple",data:=.seq its }) h.objs.size its:=⟨_,Heap.get?_push_size _ rfl,rfl,⟨_,rfl⟩,rfl⟩
section
variable (P:Program) (w:World)
noncomputable def cP (H:Hp) (h:Heap) (a:Addr):HO->Prop
 | .lst xs=>xs.length<=sizeLine/\∃ (its:List Value) (n:Nat),bx xs its/\h.get? a=some { cls:=.type "list",data:=.seq its.toArray n }
 | .tup xs=>xs.length<=sizeLine/\∃ its:List Value,bx xs its/\iH h a its.toArray
 | .dK kvs=>kvs.length<=sizeLine/\(a==sysModules)=false/\∃ vs,KV kvs vs/\h.DictOf (bN P w) a vs
 | .dT kvs=>kvs.length<=sizeLine/\(a==sysModules)=false/\∃ xs:List (List Key×Addr×Value),
   Paired (λ(p:List Key×V) (q:List Key×Addr×Value)=>p.1=q.1/\H q.2.1=some (.tup (p.1.map kV))/\br p.2 q.2.2) kvs xs/\
   ∃ o es ep,h.get? a=some o/\o.ExactDict/\o.data=.dict es ep/\es.toList=xs.map (entryOfKey (tupleKind (bN P w)))/\(xs.map (·.1)).Nodup
 | .set S n=>h.SetOf (intKind P w) a S n
 | .ins C dx fs=>H dx=some (.own a)/\fs.length<=1000/\dx≠a/\h.get? a=some (PySem.W.instObj C dx)/\
   ∃ mA,h.Ns1 dx mA/\(∀ f,ma (fs.lookup f) (mA f))/\PySem.Within mA (fs.map (·.1))
 | .own _=>∃ o,h.get? a=some o
 | .xd fs=>∃ mA,h.Ns1 a mA/\∀ f,ma (fs.lookup f) (mA f)
 | .rng lo hi=>∃ t u v,h.get? a=some { cls:=.type "range",data:=.fields #[.int lo t,.int hi u,.int 1 v] }
 | .frz o u=>h.get? a=some o/\cP H h a u
 | .tbl ps=>h.get? a=some { cls:=.none,data:=.fields ps }
 | .met f x=>h.get? a=some (PySem.W.methodObj (.ref f) (.ref x))
 | .ext φ=>φ h/\(∃ o,h.get? a=some o)/\∀ h1 h2:Heap,φ h1->(∀ o,h1.get? a=some o->h2.get? a=some o)->φ h2
noncomputable def HOk (H:Hp) (h:Heap):Prop:=∀ a o,H a=some o->cP P w H h a o
end
section
variable {P:Program}{w:World}{H H':Hp}{h h':Heap}{a:Addr}{o:HO}
theorem cP.lt (x:cP P w H h a o):a < h.objs.size:=by
 cases o with
 | lst xs=>obtain⟨_,_,_,_,e⟩:=x;exact Heap.lt_size e
 | tup xs=>obtain⟨_,_,_,p⟩:=x;exact p.tup.lt
 | dK kvs=>obtain⟨_,_,_,_,o,_,_,e,_⟩:=x;exact Heap.lt_size e
 | dT kvs=>obtain⟨_,_,_,_,o,_,_,e,_⟩:=x;exact Heap.lt_size e
 | set S n=>obtain⟨o,_,_,_,e,_⟩:=x;exact Heap.lt_size e
 | ins C dx fs=>obtain⟨_,_,_,e,_⟩:=x;exact Heap.lt_size e
 | own y=>obtain⟨_,e⟩:=x;exact Heap.lt_size e
 | xd fs=>obtain⟨_,⟨_,_,_,e,_⟩,_⟩:=x;exact Heap.lt_size e
 | rng lo hi=>obtain⟨_,_,_,e⟩:=x;exact Heap.lt_size e
 | frz ob u=>obtain⟨e,_⟩:=x;exact Heap.lt_size e
 | tbl ps=>exact Heap.lt_size (show h.get? a=some _ from x)
 | met f y=>exact Heap.lt_size (show h.get? a=some _ from x)
 | ext φ=>obtain⟨_,⟨_,e⟩,_⟩:=x;exact Heap.lt_size e
theorem Paired.mapP {α β:Type}{F G:α->β->Prop}:∀ {l₁:List α}{l₂:List β},Paired F l₁ l₂->(∀ a b,F a b->G a b)->Paired G l₁ l₂
 | _,_,.nil,_=>.nil
 | _,_,.cons r t,f=>.cons (f _ _ r) (Paired.mapP t f)
theorem cP.stay (x:cP P w H h a o) (k:∀ b u,(b=a\/H b=some (.own a))->h.get? b=some u->h'.get? b=some u)
  (ho:∀ b,H b=some (.own a)->H' b=some (.own a)) (ht:∀ b xs,H b=some (.tup xs)->H' b=some (.tup xs)):cP P w H' h' a o:=by
 induction o with
 | lst xs=>obtain⟨z,its,n,r,e⟩:=x;exact⟨z,its,n,r,k _ _ (.inl rfl) e⟩
 | tup xs=>obtain⟨z,its,r,ob,e,c⟩:=x;exact⟨z,its,r,ob,k _ _ (.inl rfl) e,c⟩
 | dK kvs=>obtain⟨z,y,vs,r,ob,es,ep,e,c⟩:=x;exact⟨z,y,vs,r,ob,es,ep,k _ _ (.inl rfl) e,c⟩
 | dT kvs=>
  obtain⟨z,y,xs,r,ob,es,ep,e,c⟩:=x
  exact⟨z,y,xs,Paired.mapP r λp q z=>⟨z.1,ht _ _ z.2.1,z.2.2⟩,ob,es,ep,k _ _ (.inl rfl) e,c⟩
 | set S n=>obtain⟨ob,es,ep,t,e,c⟩:=x;exact⟨ob,es,ep,t,k _ _ (.inl rfl) e,c⟩
 | ins C dx fs=>
  obtain⟨d,z,ne,e,mA,⟨od,es,ep,e2,c⟩,r⟩:=x
  exact⟨ho _ d,z,ne,k _ _ (.inl rfl) e,mA,⟨od,es,ep,k _ _ (.inr d) e2,c⟩,r⟩
 | own y=>obtain⟨ob,e⟩:=x;exact⟨ob,k _ _ (.inl rfl) e⟩
 | xd fs=>obtain⟨mA,⟨od,es,ep,e,c⟩,r⟩:=x;exact⟨mA,⟨od,es,ep,k _ _ (.inl rfl) e,c⟩,r⟩
 | rng lo hi=>obtain⟨t,u,v,e⟩:=x;exact⟨t,u,v,k _ _ (.inl rfl) e⟩
 | frz ob u ih=>obtain⟨e,q⟩:=x;exact⟨k _ _ (.inl rfl) e,ih q⟩
 | tbl ps=>
  have e:h.get? a=some { cls:=.none,data:=.fields ps }:=x
  show h'.get? a=some { cls:=.none,data:=.fields ps }
  exact k a _ (.inl rfl) e
 | met f y=>
  have e:h.get? a=some (PySem.W.methodObj (.ref f) (.ref y)):=x
  show h'.get? a=some (PySem.W.methodObj (.ref f) (.ref y))
  exact k a _ (.inl rfl) e
 | ext φ=>obtain⟨p,⟨o,e⟩,st⟩:=x;exact⟨st _ _ p λo q=>k _ _ (.inl rfl) q,⟨o,k _ _ (.inl rfl) e⟩,st⟩
theorem HOk.lt (x:HOk P w H h) (e:H a=some o):a < h.objs.size:=(x a o e).lt
theorem HOk.fresh (x:HOk P w H h) (e:h.objs.size<=a):H a=none:=by
 cases q:H a with
 | none=>rfl
 | some u=>exact absurd (Nat.lt_of_lt_of_le (x.lt q) e) (Nat.lt_irrefl _)
theorem HOk.kept (x:HOk P w H h) (k:∀ b u,h.get? b=some u->h'.get? b=some u):HOk P w H h':=λa o e=>
 (x a o e).stay (λb u _ q=>k b u q) (λ_ q=>q) λ_ _ q=>q
theorem HOk.laid (x:HOk P w H h) (k:∀ b u,h.get? b=some u->h'.get? b=some u) (hp:h.objs.size<=a) (new:cP P w (upd H a o) h' a o):HOk P w (upd H a o) h':=λb u e=>by
 have hn:=x.fresh hp
 by_cases hb:b=a
 ·subst hb;rw [bG] at e;cases e;exact new
 ·rw [bA hb] at e
  exact (x b u e).stay (λc v _ q=>k c v q) (λc q=>by rw [bA (bB q hn)];exact q) λc xs q=>by rw [bA (bB q hn)];exact q
end
noncomputable def Rd (H:Hp) (a:Addr) (u:HO):Prop:=H a=some u\/∃ o,H a=some (.frz o u)
theorem Rd.of {H:Hp}{a:Addr}{u:HO} (h:H a=some u):Rd H a u:=.inl h
theorem Rd.ok {P:Program}{w:World}{H:Hp}{h:Heap}{a:Addr}{u:HO} (r:Rd H a u) (x:HOk P w H h):cP P w H h a u:=by
 rcases r with r | ⟨o,r⟩
 ·exact x a u r
 ·obtain⟨_,q⟩:=x a _ r
  exact q
noncomputable def Mut:Option HO->Prop
 | some (.lst _)=>True
 | some (.dK _)=>True
 | some (.dT _)=>True
 | some (.set _ _)=>True
 | some (.ins _ _ _)=>True
 | some (.ext _)=>True
 | _=>False
section
variable {P:Program}{w:World}{H:Hp}{h h':Heap}{x e:Addr}{o':HO}
theorem HOk.write (ok:HOk P w H h) (mu:Mut (H x)) (he:e=x\/H e=some (.own x)) (k:∀ b u,b≠e->h.get? b=some u->h'.get? b=some u) (heo:∃ u,h'.get? e=some u)
  (new:cP P w (upd H x o') h' x o'):HOk P w (upd H x o') h':=λb u q=>by
 have nown:∀ c y,H c=some (.own y)->c≠x:=λc y r z=>by subst z;rw [r] at mu;exact mu
 have ntup:∀ c xs,H c=some (.tup xs)->c≠x:=λc xs r z=>by subst z;rw [r] at mu;exact mu
 by_cases hb:b=x
 ·subst hb;rw [bG] at q;cases q;exact new
 ·rw [bA hb] at q
  by_cases hbe:b=e
  ·have q':H b=some (.own x):=by
    rcases he with z | z
    ·exact absurd (hbe.trans z) hb
    ·rw [hbe];exact z
   rw [q] at q';cases q'
   obtain⟨v,hv⟩:=heo
   exact⟨v,by rw [hbe];exact hv⟩
  ·refine (ok b u q).stay (λc v hc r=>k c v ?_ r) (λc r=>by rw [bA (nown c b r)];exact r) λc xs r=>by rw [bA (ntup c xs r)];exact r
   rcases hc with rfl | hc
   ·exact hbe
   ·rintro rfl
    rcases he with z | z
    ·exact nown c b hc z
    ·rw [hc] at z;cases z;exact hb rfl
end
structure Un (fs ex:List Addr) (H H':Hp) (h h':Heap):Prop where
 keep:∀ b o,h.get? b=some o->H b=none->b ∉ fs->b ∉ ex->h'.get? b=some o
 slot:∀ b o,h.get? b=some o->H b=none->b ∈ fs->b ∉ ex->∃ sl,h'.get? b=some { o with slots:=sl }
 free:∀ b o,h.get? b=some o->H b=none->b ∉ ex->H' b=none
 there:∀ b o,h.get? b=some o->b ∉ ex->∃ o',h'.get? b=some o'
 tups:∀ b xs,H b=some (.tup xs)->H' b=some (.tup xs)
 frzs:∀ b o u,H b=some (.frz o u)->H' b=some (.frz o u)
 tbls:∀ b ps,H b=some (.tbl ps)->∃ more,H' b=some (.tbl (ps++more))
section
variable {fs fs' ex ex':List Addr}{H H1 H2:Hp}{h h1 h2 h':Heap}{a x e:Addr}{o:HO}
theorem Un.any (u:Un fs ex H H1 h h1) {b:Addr}{ob:Obj} (q:h.get? b=some ob) (n:H b=none) (hx:b ∉ ex):∃ sl,h1.get? b=some { ob with slots:=sl }:=by
 by_cases hb:b ∈ fs
 ·exact u.slot b ob q n hb hx
 ·exact⟨ob.slots,u.keep b ob q n hb hx⟩
theorem Un.kept (k:∀ b u,h.get? b=some u->h'.get? b=some u):Un fs ex H H h h':=
 ⟨λb ob q _ _ _=>k b ob q,λb ob q _ _ _=>⟨ob.slots,k b ob q⟩,λ_ _ _ n _=>n,λb ob q _=>⟨ob,k b ob q⟩,λ_ _ q=>q,λ_ _ _ q=>q,λ_ ps q=>⟨#[],by rw [q];simp⟩⟩
theorem Un.refl:Un fs ex H H h h:=Un.kept λ_ _ q=>q
theorem Un.laid (k:∀ b u,h.get? b=some u->h'.get? b=some u) (hp:h.objs.size<=a) (hn:H a=none):Un fs ex H (upd H a o) h h' where
 keep:=λb u q _ _ _=>k b u q
 slot:=λb u q _ _ _=>⟨u.slots,k b u q⟩
 free:=λb u q n _=>by rw [bA (Nat.ne_of_lt (Nat.lt_of_lt_of_le (Heap.lt_size q) hp))];exact n
 there:=λb u q _=>⟨u,k b u q⟩
 tups:=λb xs q=>by rw [bA (bB q hn)];exact q
 frzs:=λb u xs q=>by rw [bA (bB q hn)];exact q
 tbls:=λb ps q=>⟨#[],by rw [bA (bB q hn),q];simp⟩
theorem Un.write (mu:Mut (H x)) (he:e=x\/H e=some (.own x)) (k:∀ b u,b≠e->h.get? b=some u->h'.get? b=some u) (heo:∃ u,h'.get? e=some u):Un fs ex H (upd H x o) h h':=by
 have hx:∀ b,H b=none->b≠x:=λb n z=>by subst z;rw [n] at mu;exact mu
 have hb:∀ b,H b=none->b≠e:=λb n z=>by
  subst z
  rcases he with r | r
  ·exact hx b n r
  ·rw [n] at r;cases r
 have hm:∀ b u,H b=some u->¬ Mut (some u)->b≠x:=λb u q nm z=>by subst z;rw [q] at mu;exact nm mu
 refine⟨λb u q n _ _=>k b u (hb b n) q,λb u q n _ _=>⟨u.slots,k b u (hb b n) q⟩,λb u q n _=>by rw [bA (hx b n)];exact n,λb u q _=>?_,
  λb xs q=>by rw [bA (hm b _ q λz=>z)];exact q,λb u xs q=>by rw [bA (hm b _ q λz=>z)];exact q,λb ps q=>⟨#[],by rw [bA (hm b _ q λz=>z),q];simp⟩⟩
 by_cases hbe:b=e
 ·subst hbe;exact heo
 ·exact⟨u,k b u hbe q⟩
end
noncomputable def trk (h:Heap) (H:Hp):List Addr:=(List.range h.objs.size).filter λa=>(H a).isSome
noncomputable def nz (h:Heap) (H:Hp):Heap:=PySem.W.hideAll h (trk h H)
theorem se (h:Heap) (H:Hp):(nz h H).objs.size=h.objs.size:=PySem.W.hideAll_size _ _
theorem tM {h:Heap}{H:Hp}{b:Addr}{o:Obj} (e:h.get? b=some o) (n:H b=none):(nz h H).get? b=some o:=
 PySem.W.hideAll_get _ e λhm=>by
  have q:(H b).isSome=true:=(List.mem_filter.mp hm).2
  rw [n] at q;simp at q
theorem vm {h:Heap}{H:Hp}{b:Addr}{o:Obj} (e:(nz h H).get? b=some o):h.get? b=some o/\H b=none:=by
 have e':h.get? b=some o:=PySem.W.of_hideAll (trk h H) e
 refine⟨e',?_⟩
 cases q:H b with
 | none=>rfl
 | some x=>
  have hm:b ∈ trk h H:=List.mem_filter.mpr ⟨List.mem_range.mpr (Heap.lt_size e'),by simp [q]⟩
  have z:(nz h H).get? b=none:=PySem.W.hideAll_none (trk h H) hm
  rw [z] at e;cases e
end L2
namespace L2
open PySem PySem.Spec PyProof.Rows
structure Mod (K:PySem.W.Frag) (mg:Str->Option Value) (base:Heap):Prop where
 kin:K.In base
 glob:base.Ns mainGlobals mg
 blt:∃ mb,base.Ns builtinsNs mb/\∀ x:Str,x≠"__name__"->mb x=bootBuiltins x
 nolimit:base.NoLimit
structure Cx where
 prog:Program
 w:World
 K:PySem.W.Frag
 mg:Str->Option Value
 base:Heap
 A:Around
 N:List Str
 s₀:Shared
 H₀:Hp
 env:Env
 outer:List Env
 stack:List Env
 ex:List Addr
 fn:Str->Bool
 calm:Bool
 pn:List (Addr×Obj)
 xe:Value->Shared->Prop
noncomputable def frs (l:List Env):List Addr:=l.filterMap (·.frame)
abbrev Cx.fs (X:Cx):List Addr:=frs X.outer
noncomputable def Vis (sc:Scope) (x:Str):Prop:=sc.names.lookup x=some .local\/sc.names.lookup x=some .cell\/sc.names.lookup x=some .free
noncomputable def Loc (sc:Scope) (x:Str):Prop:=sc.names.lookup x=some .local\/sc.names.lookup x=some .cell
noncomputable def Az (env:Env) (h:Heap) (m:Str->Option Value) (x:Str) (u:Value):Prop:=
 (env.kindOf x=some .local/\m x=some u)\/((env.kindOf x=some .cell\/env.kindOf x=some .free)/\∃ c,env.cells.lookup x=some c/\h.IsCell c (some u))
structure Cx.Ok (X:Cx):Prop where
 mod:Mod X.K X.mg X.base
 kind:X.env.scope.kind=.function
 glob:X.env.globals=mainGlobals
 blt:X.env.builtins=builtinsNs
 above:X.s₀.heap.objs.size<=X.env.locals
 inj:∀ x y c,X.env.cells.lookup x=some c->X.env.cells.lookup y=some c->x=y
 has:∀ x,(X.env.kindOf x=some .cell\/X.env.kindOf x=some .free)->∃ c,X.env.cells.lookup x=some c
 cab:∀ x c,X.fn x=true->X.env.cells.lookup x=some c->X.s₀.heap.objs.size<=c
 hd:X.calm=true->X.A.handled=none
 frames:X.A.frames=some X.stack
 stk:X.stack=X.outer\/(X.stack=X.env::X.outer/\X.env.frame=some X.env.locals)
 exf:∀ b ∈ X.ex,b≠X.env.locals/\∀ x c,X.env.cells.lookup x=some c->c≠b
 bs:∀ b o,X.base.get? b=some o->X.s₀.heap.get? b=some o/\X.H₀ b=none
 bsz:X.base.objs.size<=X.s₀.heap.objs.size
 noex:∀ b o,X.base.get? b=some o->b ∉ X.ex
 exfs:∀ b ∈ X.ex,b ∉ X.fs
 funs:X.s₀.heap.FunFrames X.base X.outer
 frf:∀ b ∈ X.fs,X.H₀ b=none
structure Inv (X:Cx) (pins:List (Addr×Obj)) (σ:List (Option V)) (H:Hp) (s:Shared):Prop where
 ok:X.Ok
 os:s.os=X.s₀.os
 bare:AllBare s.gens
 base:Un X.fs X.ex X.H₀ H X.s₀.heap s.heap
 loc:∃ m,s.heap.Ns X.env.locals m/\∀ (i:Nat) (x:Str) (v:V),X.N[i]?=some x->σ[i]?=some (some v)->Vis X.env.scope x->∃ u,br v u/\Az X.env s.heap m x u
 cell:∀ x c,X.env.cells.lookup x=some c->∃ v,s.heap.IsCell c v
 free:H X.env.locals=none
 freeC:∀ x c,X.env.cells.lookup x=some c->H c=none
 pin:∀ p ∈ X.pn++pins,s.heap.get? p.1=some p.2/\H p.1=none/\p.1≠X.env.locals/\p.1 ∉ X.fs/\∀ v,p.2.data≠.cell v
 hok:HOk X.prog X.w H s.heap
 len:σ.length=X.N.length
section
variable {X:Cx}{pins:List (Addr×Obj)}{σ:List (Option V)}{H H':Hp}{s:Shared}{h':Heap}
theorem Cx.Ok.nofr (ok:X.Ok) {b:Addr}{o:Obj} (e:X.base.get? b=some o):b ∉ X.fs:=λhb=>by
 have:=(ok.funs.mem hb).1
 rw [e] at this;cases this
theorem Inv.bs (I:Inv X pins σ H s):∀ b o,X.base.get? b=some o->s.heap.get? b=some o/\H b=none:=λb o e=>
 ⟨I.base.keep b o (I.ok.bs b o e).1 (I.ok.bs b o e).2 (I.ok.nofr e) (I.ok.noex b o e),I.base.free b o (I.ok.bs b o e).1 (I.ok.bs b o e).2 (I.ok.noex b o e)⟩
theorem Inv.bk (I:Inv X pins σ H s):∀ b o,X.base.get? b=some o->s.heap.get? b=some o:=λb o e=>(I.bs b o e).1
theorem Inv.mod (I:Inv X pins σ H s):Mod X.K X.mg X.base:=I.ok.mod
theorem Inv.kIn (I:Inv X pins σ H s):X.K.In s.heap:=I.ok.mod.kin.keeps I.bk
theorem Inv.fr (I:Inv X pins σ H s):∃ m,Fr X.base X.env.locals s.heap m:=
 let ⟨m,hn,_⟩:=I.loc
 ⟨m,hn,I.bk,Nat.le_trans I.ok.bsz I.ok.above⟩
theorem Inv.lt (I:Inv X pins σ H s):X.env.locals < s.heap.objs.size:=let ⟨_,hn,_⟩:=I.loc;hn.lt
theorem Inv.sz (I:Inv X pins σ H s):X.s₀.heap.objs.size<=s.heap.objs.size:=Nat.le_trans I.ok.above (Nat.le_of_lt I.lt)
theorem Inv.nofs (I:Inv X pins σ H s) {a:Addr} (h:s.heap.objs.size<=a):a ∉ X.fs:=λhb=>by
 obtain⟨_,o,ho,_⟩:=I.ok.funs.mem hb
 exact absurd (Nat.lt_of_lt_of_le (Heap.lt_size ho) (Nat.le_trans I.sz h)) (Nat.lt_irrefl _)
theorem Inv.cne (I:Inv X pins σ H s):∀ x c,X.env.cells.lookup x=some c->c≠X.env.locals:=λx c e z=>by
 obtain⟨v,o,ho,hd⟩:=I.cell x c e
 obtain⟨m,⟨o',es,ep,ho',hd',_⟩,_⟩:=I.loc
 rw [z,ho'] at ho;cases ho;rw [hd'] at hd;cases hd
theorem Inv.funs (I:Inv X pins σ H s):s.heap.FunFrames X.base X.outer:=by
 have all:∀ (l:List Env),(∀ b ∈ frs l,b ∈ X.fs)->X.s₀.heap.FunFrames X.base l->s.heap.FunFrames X.base l:=by
  intro l
  induction l with
  | nil=>intro _ _;trivial
  | cons env r ih=>
   intro hs hl
   obtain⟨hk,⟨L,o,hf,hn,ho,hd⟩,hr⟩:=hl
   have hL:L ∈ X.fs:=hs L (by unfold frs;rw [List.filterMap_cons,hf];exact List.mem_cons_self)
   obtain⟨sl,e⟩:=I.base.slot L o ho (I.ok.frf L hL) hL λz=>I.ok.exfs L z hL
   exact⟨hk,⟨L,_,hf,hn,e,hd⟩,ih (λb hb=>hs b (by unfold frs;rw [List.filterMap_cons,hf];exact List.mem_cons_of_mem _ hb)) hr⟩
 exact all X.outer (λ_ hb=>hb) I.ok.funs
theorem Inv.stack (I:Inv X pins σ H s):s.heap.FunFrames X.base X.stack:=by
 rcases I.ok.stk with e | ⟨e,hf⟩
 ·rw [e];exact I.funs
 ·rw [e]
  obtain⟨m,hn,_⟩:=I.loc
  refine .cons (by rw [I.ok.kind];decide) hf hn ?_ I.funs
  exact Heap.get?_none_of_le (Nat.le_trans I.ok.bsz I.ok.above)
theorem Inv.stkSub (I:Inv X pins σ H s):∀ b ∈ frs X.stack,b ∈ X.env.locals::X.fs:=λb hb=>by
 rcases I.ok.stk with e | ⟨e,hf⟩
 ·rw [e] at hb;exact List.mem_cons_of_mem _ hb
 ·rw [e] at hb
  unfold frs at hb
  rw [List.filterMap_cons,hf] at hb
  exact hb
theorem Inv.stkFree (I:Inv X pins σ H s):∀ b ∈ frs X.stack,H b=none:=λb hb=>by
 rcases List.mem_cons.mp (I.stkSub b hb) with e | hb
 ·rw [e];exact I.free
 ·obtain⟨_,o,ho,_⟩:=I.ok.funs.mem hb
  exact I.base.free b o ho (I.ok.frf b hb) λz=>I.ok.exfs b z hb
theorem Inv.step {g':Array GenState}{t':Nat}{d':Drawn}{ch:List Addr} (I:Inv X pins σ H s)
  (hch:∀ b ∈ ch,(b ∈ X.ex\/X.s₀.heap.objs.size<=b)/\b≠X.env.locals/\(∀ x c,X.env.cells.lookup x=some c->c≠b)/\∀ p ∈ X.pn++pins,p.1≠b)
  (keep:∀ b o,b≠X.env.locals->b ∉ X.fs->b ∉ ch->s.heap.get? b=some o->H b=none->h'.get? b=some o)
  (slot:∀ b o,b≠X.env.locals->b ∈ X.fs->b ∉ ch->s.heap.get? b=some o->H b=none->∃ sl,h'.get? b=some { o with slots:=sl }) (free:∀ b o,b ∉ ch->s.heap.get? b=some o->H b=none->H' b=none)
  (there:∀ b o,b ∉ ch->s.heap.get? b=some o->∃ o',h'.get? b=some o')
  (tups:∀ b xs,H b=some (.tup xs)->H' b=some (.tup xs)) (frzs:∀ b o u,H b=some (.frz o u)->H' b=some (.frz o u)) (tbls:∀ b ps,H b=some (.tbl ps)->∃ more,H' b=some (.tbl (ps++more)))
  (ns:∀ m,s.heap.Ns X.env.locals m->h'.Ns X.env.locals m) (hok:HOk X.prog X.w H' h') (hg:AllBare g') :
  Inv X pins σ H' { s with heap:=h',gens:=g',drawn:=d',toks:=t' }:=by
 have neL:∀ b o,X.s₀.heap.get? b=some o->b≠X.env.locals:=λb o e=>Nat.ne_of_lt (Nat.lt_of_lt_of_le (Heap.lt_size e) I.ok.above)
 have neC:∀ b o,X.s₀.heap.get? b=some o->b ∉ X.ex->b ∉ ch:=λb o e hx hb=>by
  rcases (hch b hb).1 with z | z
  ·exact hx z
  ·exact absurd (Nat.lt_of_lt_of_le (Heap.lt_size e) z) (Nat.lt_irrefl _)
 have cellK:∀ x c,X.env.cells.lookup x=some c->∀ v,s.heap.IsCell c v->h'.IsCell c v:=λx c e v ⟨o,ho,hd⟩=>by
  have nch:c ∉ ch:=λz=>(hch c z).2.2.1 x c e rfl
  by_cases hc:c ∈ X.fs
  ·obtain⟨sl,q⟩:=slot c o (I.cne x c e) hc nch ho (I.freeC x c e)
   exact⟨_,q,hd⟩
  ·exact⟨o,keep c o (I.cne x c e) hc nch ho (I.freeC x c e),hd⟩
 refine⟨I.ok,I.os,hg,⟨λb o e n hb hx=>?_,λb o e n hb hx=>?_,λb o e n hx=>?_,λb o e hx=>?_,λb xs e=>tups b xs (I.base.tups b xs e),λb o xs e=>frzs b o xs (I.base.frzs b o xs e),λb ps e=>?_⟩,?_,λx c e=>?_,?_,λx c e=>?_,λp hp=>?_,hok,I.len⟩
 ·exact keep b o (neL b o e) hb (neC b o e hx) (I.base.keep b o e n hb hx) (I.base.free b o e n hx)
 ·obtain⟨sl,e1⟩:=I.base.slot b o e n hb hx
  obtain⟨sl',e2⟩:=slot b _ (neL b o e) hb (neC b o e hx) e1 (I.base.free b o e n hx)
  exact⟨sl',e2⟩
 ·obtain⟨o',e1⟩:=I.base.there b o e hx
  exact free b o' (neC b o e hx) e1 (I.base.free b o e n hx)
 ·obtain⟨o',e1⟩:=I.base.there b o e hx
  exact there b o' (neC b o e hx) e1
 ·obtain⟨m1,e1⟩:=I.base.tbls b ps e
  obtain⟨m2,e2⟩:=tbls b _ e1
  exact⟨m1++m2,by rw [e2,Array.append_assoc]⟩
 ·obtain⟨m,hn,hl⟩:=I.loc
  refine⟨m,ns m hn,λi x v e1 e2 e3=>?_⟩
  obtain⟨u,r,l⟩:=hl i x v e1 e2 e3
  refine⟨u,r,?_⟩
  rcases l with l | ⟨k,c,e,z⟩
  ·exact .inl l
  ·exact .inr ⟨k,c,e,cellK x c e _ z⟩
 ·obtain⟨v,z⟩:=I.cell x c e
  exact⟨v,cellK x c e v z⟩
 ·obtain⟨m,⟨o,_,_,ho,_⟩,_⟩:=I.loc
  exact free _ o (λz=>(hch _ z).2.1 rfl) ho I.free
 ·obtain⟨v,o,ho,hd⟩:=I.cell x c e
  exact free c o (λz=>(hch c z).2.2.1 x c e rfl) ho (I.freeC x c e)
 ·obtain⟨e,n,ne,nf,d⟩:=I.pin p hp
  have nch:p.1 ∉ ch:=λz=>(hch p.1 z).2.2.2 p hp rfl
  exact⟨keep p.1 p.2 ne nf nch e n,free p.1 p.2 nch e n,ne,nf,d⟩
theorem Inv.un {t':Nat} (I:Inv X pins σ H s) (u:Un X.fs [] H H' s.heap h') (hok:HOk X.prog X.w H' h'):Inv X pins σ H' { s with heap:=h',toks:=t' }:=by
 obtain⟨m,⟨o,es,ep,ho,r⟩,_⟩:=id I.loc
 obtain⟨sl,hL⟩:=u.any ho I.free (by simp)
 exact I.step (g':=s.gens) (d':=s.drawn) (ch:=[]) (λ_ z=>nomatch z) (λb o _ hb _ e n=>u.keep b o e n hb (by simp)) (λb o _ hb _ e n=>u.slot b o e n hb (by simp)) (λb o _ e n=>u.free b o e n (by simp)) (λb o _ e=>u.there b o e (by simp)) u.tups u.frzs u.tbls (λm' hm=>by
  obtain⟨o',es',ep',ho',r'⟩:=hm
  rw [ho] at ho';cases ho'
  exact⟨_,es',ep',hL,r'⟩) hok I.bare
theorem Inv.call {g':Array GenState}{t':Nat}{d':Drawn}{ch:List Addr} (I:Inv X pins σ H s) (u:Un (frs X.stack) ch H H' s.heap h') (hok:HOk X.prog X.w H' h') (hg:AllBare g')
  (hch:∀ b ∈ ch,(b ∈ X.ex\/X.s₀.heap.objs.size<=b)/\b≠X.env.locals/\(∀ x c,X.env.cells.lookup x=some c->c≠b)/\∀ p ∈ X.pn++pins,p.1≠b) :
  Inv X pins σ H' { s with heap:=h',gens:=g',drawn:=d',toks:=t' }:=by
 obtain⟨m,⟨o,es,ep,ho,r⟩,_⟩:=id I.loc
 obtain⟨sl,hL⟩:=u.any ho I.free λz=>(hch _ z).2.1 rfl
 exact I.step (ch:=ch) hch (λb o hL hb hc e n=>u.keep b o e n (λz=>(List.mem_cons.mp (I.stkSub b z)).elim hL hb) hc) (λb o _ _ hc e n=>u.any e n hc) (λb o hc e n=>u.free b o e n hc) (λb o hc e=>u.there b o e hc) u.tups u.frzs u.tbls (λm' hm=>by
  obtain⟨o',es',ep',ho',r'⟩:=hm
  rw [ho] at ho';cases ho'
  exact⟨_,es',ep',hL,r'⟩) hok hg
theorem Inv.turned {t':Nat}{it:Addr} (I:Inv X pins σ H s) (k:∀ b o,b≠it->s.heap.get? b=some o->h'.get? b=some o) (hn:H it=none) (hL:it≠X.env.locals)
  (h1:it ∈ X.ex\/X.s₀.heap.objs.size<=it) (h2:∀ x c,X.env.cells.lookup x=some c->c≠it) (h3:∀ p ∈ X.pn++pins,p.1≠it):Inv X pins σ H { s with heap:=h',toks:=t' }:=by
 have nit:∀ b u,H b=some u->b≠it:=λb u e z=>by rw [z,hn] at e;cases e
 refine I.step (g':=s.gens) (d':=s.drawn) (ch:=[it]) (λb hb=>?_) (λb o _ _ hc e _=>k b o (λz=>hc (by simp [z])) e) (λb o _ _ hc e _=>⟨o.slots,k b o (λz=>hc (by simp [z])) e⟩) (λ_ _ _ _ n=>n)
  (λb o hc e=>⟨o,k b o (λz=>hc (by simp [z])) e⟩) (λ_ _ e=>e) (λ_ _ _ e=>e) (λb ps e=>⟨#[],by rw [e];simp⟩) (λm hm=>?_) (λb u e=>?_) I.bare
 ·have e:b=it:=by simpa using hb
  subst e
  exact⟨h1,hL,h2,h3⟩
 ·obtain⟨o,es,ep,ho,r⟩:=hm
  exact⟨o,es,ep,k _ o (Ne.symm hL) ho,r⟩
 ·refine (I.hok b u e).stay (λc v hc q=>k c v ?_ q) (λ_ q=>q) λ_ _ q=>q
  rcases hc with z | z
  ·rw [z];exact nit b u e
  ·exact nit c _ z
theorem Inv.tok (I:Inv X pins σ H s) (t:Nat):Inv X pins σ H { s with toks:=t }:=I.un (h':=s.heap) (t':=t) Un.refl I.hok
theorem Inv.kept {t':Nat} (I:Inv X pins σ H s) (k:∀ b u,s.heap.get? b=some u->h'.get? b=some u):Inv X pins σ H { s with heap:=h',toks:=t' }:=I.un (Un.kept k) (I.hok.kept k)
theorem Inv.laid {a:Addr}{o:HO}{t':Nat} (I:Inv X pins σ H s) (k:∀ b u,s.heap.get? b=some u->h'.get? b=some u) (hp:s.heap.objs.size<=a) (new:cP X.prog X.w (upd H a o) h' a o) :
  Inv X pins σ (upd H a o) { s with heap:=h',toks:=t' }:=I.un (Un.laid k hp (I.hok.fresh hp)) (I.hok.laid k hp new)
theorem Inv.write {x e:Addr}{o:HO}{t':Nat} (I:Inv X pins σ H s) (mu:Mut (H x)) (he:e=x\/H e=some (.own x)) (k:∀ b u,b≠e->s.heap.get? b=some u->h'.get? b=some u) (heo:∃ u,h'.get? e=some u)
  (new:cP X.prog X.w (upd H x o) h' x o):Inv X pins σ (upd H x o) { s with heap:=h',toks:=t' }:=I.un (Un.write mu he k heo) (I.hok.write mu he k heo new)
theorem Inv.weak {σ':List (Option V)} (I:Inv X pins σ H s) (hl:σ'.length=σ.length) (w:∀ (i:Nat) v,σ'[i]?=some (some v)->σ[i]?=some (some v)):Inv X pins σ' H s:=
 ⟨I.ok,I.os,I.bare,I.base,let ⟨m,hn,hl'⟩:=I.loc;⟨m,hn,λi x v e1 e2 e3=>hl' i x v e1 (w i v e2) e3⟩,I.cell,I.free,I.freeC,I.pin,I.hok,hl.trans I.len⟩
theorem Inv.pins_of {pins':List (Addr×Obj)} (I:Inv X pins σ H s) (h:∀ p ∈ pins',s.heap.get? p.1=some p.2/\H p.1=none/\p.1≠X.env.locals/\p.1 ∉ X.fs/\∀ v,p.2.data≠.cell v):Inv X pins' σ H s:=
 ⟨I.ok,I.os,I.bare,I.base,I.loc,I.cell,I.free,I.freeC,λp hp=>(List.mem_append.mp hp).elim (λz=>I.pin p (List.mem_append_left _ z)) (h p),I.hok,I.len⟩
theorem oG {N:List Str} (hN:N.Nodup) {i j:Nat}{x:Str} (a:N[i]?=some x) (b:N[j]?=some x):i=j:=by
 obtain⟨h1,e1⟩:=List.getElem?_eq_some_iff.mp a
 obtain⟨h2,e2⟩:=List.getElem?_eq_some_iff.mp b
 exact (List.getElem_inj hN).mp (e1.trans e2.symm)
theorem sA {M:Model}{A:Around}{E:Value->Shared->Prop}{i:Nat}{x:Str}{v:V}{u:Value}{Q:Unit->Shared->Prop} (I:Inv X pins σ H s) (hN:X.N.Nodup) (hi:X.N[i]?=some x) (hx:Loc X.env.scope x) (r:br v u)
  (h:∀ s',Inv X pins (σ.set i (some v)) H s'->(∃ a,Heap.SameBut a s.heap s'.heap/\(a=X.env.locals\/X.env.cells.lookup x=some a))->Q () s') (hf:X.fn x=true\/X.env.scope.names.lookup x=some .local:=by first | exact .inl rfl | exact .inr rfl | assumption):wpAny M A (storeName X.env x u) Q E s:=by
 obtain⟨m,hn,hl⟩:=id I.loc
 have hcls:(X.env.scope.kind==.class || (X.env.scope.kind==.module && X.env.locals != X.env.globals))=false:=by rw [I.ok.kind];rfl
 have hiσ:i < σ.length:=by rw [I.len];exact (List.getElem?_eq_some_iff.mp hi).1
 have cne:=I.cne
 have tracked:∀ {a:Addr}{h':Heap},(∃ o,s.heap.get? a=some o/\H a=none)->Heap.SameBut a s.heap h'->HOk X.prog X.w H h':=λ{a h'} ha hs b ob e=>by
  obtain⟨_,_,hfree⟩:=ha
  refine (I.hok b ob e).stay (λc w' hc q=>(hs.2 c ?_).trans q) (λ_ q=>q) λ_ _ q=>q
  rintro rfl
  rcases hc with rfl | hc
  ·rw [hfree] at e;cases e
  ·rw [hfree] at hc;cases hc
 rcases hx with hk | hk
 ·refine wpAny_storeName_local hk hn (λh' hn' hs=>?_) hcls
  obtain⟨oL,_,_,hoL,_⟩:=id hn
  refine h _ ⟨I.ok,I.os,I.bare,⟨λb o e n hb hx=>?_,λb o e n hb hx=>?_,I.base.free,λb o e hx=>?_,I.base.tups,I.base.frzs,I.base.tbls⟩,⟨_,hn',λj y v' e1 e2 e3=>?_⟩,λy c e=>?_,I.free,I.freeC,λp hp=>?_,tracked ⟨oL,hoL,I.free⟩ hs,by simpa using I.len⟩ ⟨_,hs,.inl rfl⟩
  ·exact (hs.2 b (Nat.ne_of_lt (Nat.lt_of_lt_of_le (Heap.lt_size e) I.ok.above))).trans (I.base.keep b o e n hb hx)
  ·obtain⟨sl,e1⟩:=I.base.slot b o e n hb hx
   exact⟨sl,(hs.2 b (Nat.ne_of_lt (Nat.lt_of_lt_of_le (Heap.lt_size e) I.ok.above))).trans e1⟩
  ·obtain⟨o',e1⟩:=I.base.there b o e hx
   exact⟨o',(hs.2 b (Nat.ne_of_lt (Nat.lt_of_lt_of_le (Heap.lt_size e) I.ok.above))).trans e1⟩
  ·by_cases hj:j=i
   ·subst hj
    rw [hi] at e1;cases e1
    rw [List.getElem?_set_self hiσ] at e2
    cases e2
    exact⟨u,r,.inl ⟨hk,by simp⟩⟩
   ·rw [List.getElem?_set_ne (Ne.symm hj)] at e2
    obtain⟨u',r',q⟩:=hl j y v' e1 e2 e3
    refine⟨u',r',?_⟩
    rcases q with⟨k,e⟩ | ⟨k,c,e,z⟩
    ·refine .inl ⟨k,?_⟩
     have:y≠x:=λe=>hj (oG hN e1 (e ▸ hi))
     simp [this,e]
    ·exact .inr ⟨k,c,e,z.sameBut hs (cne y c e)⟩
  ·obtain⟨w',z⟩:=I.cell y c e
   exact⟨w',z.sameBut hs (cne y c e)⟩
  ·obtain⟨e,n,ne,nf,d⟩:=I.pin p hp
   exact⟨(hs.2 p.1 ne).trans e,n,ne,nf,d⟩
 ·have hfn:X.fn x=true:=by
   rcases hf with z | z
   ·exact z
   ·rw [z] at hk;cases hk
  obtain⟨c,hc⟩:=I.ok.has x (.inl hk)
  obtain⟨w',z⟩:=I.cell x c hc
  refine wpAny_storeName_cell I.ok.kind hk hc z (λh' hc' hs=>?_)
  obtain⟨oc,hoc,hocd⟩:=id z
  refine h { s with heap:=h' } ⟨I.ok,I.os,I.bare,⟨λb o e n hb hx=>?_,λb o e n hb hx=>?_,I.base.free,λb o e hx=>?_,I.base.tups,I.base.frzs,I.base.tbls⟩,⟨m,hn.sameBut hs (Ne.symm (cne x c hc)),λj y v' e1 e2 e3=>?_⟩,λy c' e=>?_,I.free,I.freeC,λp hp=>?_,tracked ⟨oc,hoc,I.freeC x c hc⟩ hs,by simpa using I.len⟩ ⟨c,hs,.inr hc⟩
  ·exact (hs.2 b (Nat.ne_of_lt (Nat.lt_of_lt_of_le (Heap.lt_size e) (I.ok.cab x c hfn hc)))).trans (I.base.keep b o e n hb hx)
  ·obtain⟨sl,e1⟩:=I.base.slot b o e n hb hx
   exact⟨sl,(hs.2 b (Nat.ne_of_lt (Nat.lt_of_lt_of_le (Heap.lt_size e) (I.ok.cab x c hfn hc)))).trans e1⟩
  ·obtain⟨o',e1⟩:=I.base.there b o e hx
   exact⟨o',(hs.2 b (Nat.ne_of_lt (Nat.lt_of_lt_of_le (Heap.lt_size e) (I.ok.cab x c hfn hc)))).trans e1⟩
  ·by_cases hj:j=i
   ·subst hj
    rw [hi] at e1;cases e1
    rw [List.getElem?_set_self hiσ] at e2
    cases e2
    exact⟨u,r,.inr ⟨.inl hk,c,hc,hc'⟩⟩
   ·rw [List.getElem?_set_ne (Ne.symm hj)] at e2
    obtain⟨u',r',q⟩:=hl j y v' e1 e2 e3
    refine⟨u',r',?_⟩
    rcases q with q | ⟨k,c',e,z'⟩
    ·exact .inl q
    ·refine .inr ⟨k,c',e,z'.sameBut hs ?_⟩
     rintro rfl
     exact hj (oG hN e1 (I.ok.inj _ _ _ e hc ▸ hi))
  ·by_cases hcc:c'=c
   ·subst hcc;exact⟨_,hc'⟩
   ·obtain⟨w2,z2⟩:=I.cell y c' e
    exact⟨w2,z2.sameBut hs hcc⟩
  ·obtain⟨e,n,ne,nf,d⟩:=I.pin p hp
   refine⟨(hs.2 p.1 ?_).trans e,n,ne,nf,d⟩
   intro q
   rw [q,hoc] at e
   have q':oc=p.2:=Option.some.inj e
   exact d w' (by rw [<-q'];exact hocd)
theorem gS {M:Model}{A:Around}{E:Value->Shared->Prop}{i:Nat}{x:Str}{v:V}{u:Value}{Q:Unit->Shared->Prop} (I:Inv X pins σ H s) (hN:X.N.Nodup) (hi:X.N[i]?=some x) (hx:Loc X.env.scope x) (r:br v u)
  (h:∀ s',Inv X pins (σ.set i (some v)) H s'->Q () s') (hf:X.fn x=true\/X.env.scope.names.lookup x=some .local:=by first | exact .inl rfl | exact .inr rfl | assumption):wpAny M A (storeName X.env x u) Q E s:=
 sA I hN hi hx r (λs' I' _=>h s' I') hf
theorem Inv.call' {s':Shared}{ch:List Addr} (I:Inv X pins σ H s) (ho:s'.os=s.os) (u:Un (frs X.stack) ch H H' s.heap s'.heap) (hok:HOk X.prog X.w H' s'.heap) (hg:AllBare s'.gens)
  (hch:∀ b ∈ ch,(b ∈ X.ex\/X.s₀.heap.objs.size<=b)/\b≠X.env.locals/\(∀ x c,X.env.cells.lookup x=some c->c≠b)/\∀ p ∈ X.pn++pins,p.1≠b):Inv X pins σ H' s':=by
 obtain⟨h',g',d',t',o'⟩:=s'
 have e:o'=s.os:=ho
 subst e
 exact I.call (g':=g') (t':=t') (d':=d') u hok hg hch
end
abbrev XK:=Value->Option Addr->Hp->Prop
abbrev St:=List (Option V)
abbrev VK:=V->Hp->Prop
abbrev TE:=St->Hp->VK->Prop
abbrev TT:=St->Hp->(Bool->Hp->Prop)->Prop
abbrev TA:=St->Hp->(List V->Hp->Prop)->Prop
structure ph where
 nx:St->Hp->Prop
 rt:VK
 bk:St->Hp->Prop:=λ_ _=>False
 ct:St->Hp->Prop:=λ_ _=>False
abbrev TS:=ph->St->Hp->Prop
noncomputable def EP (X:Cx) (pins:List (Addr×Obj)) (σ:St) (Q:VK) (u:Value) (s':Shared):Prop:=∃ v H',Inv X pins σ H' s'/\br v u/\Q v H'
noncomputable def TP (X:Cx) (pins:List (Addr×Obj)) (σ:St) (Q:Bool->Hp->Prop) (b:Bool) (s':Shared):Prop:=∃ H',Inv X pins σ H' s'/\Q b H'
noncomputable def AP (X:Cx) (pins:List (Addr×Obj)) (σ:St) (Q:List V->Hp->Prop) (us:List Value) (s':Shared):Prop:=∃ vs H',Inv X pins σ H' s'/\bx vs us/\Q vs H'
noncomputable def SP (X:Cx) (pins:List (Addr×Obj)) (D:ph) (f:Flow) (s':Shared):Prop:=
 match f with
 | .next=>∃ σ' H',Inv X pins σ' H' s'/\D.nx σ' H'
 | .brk=>∃ σ' H',Inv X pins σ' H' s'/\D.bk σ' H'
 | .cont=>∃ σ' H',Inv X pins σ' H' s'/\D.ct σ' H'
 | .ret u=>∃ v σ' H',Inv X pins σ' H' s'/\br v u/\D.rt v H'
noncomputable def PE (X:Cx) (e:Expr) (t:TE):Prop:=
 ∀ (pins:List (Addr×Obj)) (s:Shared) (σ:St) (H:Hp) (Q:VK),Inv X pins σ H s->t σ H Q->wpAny (model X.prog X.w) X.A (eval e X.env) (EP X pins σ Q) X.xe s
noncomputable def PT (X:Cx) (e:Expr) (t:TT):Prop:=
 ∀ (pins:List (Addr×Obj)) (s:Shared) (σ:St) (H:Hp) (Q:Bool->Hp->Prop),Inv X pins σ H s->t σ H Q->wpAny (model X.prog X.w) X.A (isTrue e X.env (eval e X.env)) (TP X pins σ Q) X.xe s
noncomputable def PW (X:Cx) (e:Expr) (t:TT):Prop:=
 ∀ (whole:Sem Value) (pins:List (Addr×Obj)) (s:Shared) (σ:St) (H:Hp) (Q:Bool->Hp->Prop),Inv X pins σ H s->t σ H Q->wpAny (model X.prog X.w) X.A (isTrue e X.env whole) (TP X pins σ Q) X.xe s
theorem PW.pt {X:Cx}{e:Expr}{t:TT} (h:PW X e t):PT X e t:=h _
noncomputable def PA (X:Cx) (es:List Expr) (t:TA):Prop:=
 ∀ (pos:Pos) (pins:List (Addr×Obj)) (s:Shared) (σ:St) (H:Hp) (Q:List V->Hp->Prop),Inv X pins σ H s->t σ H Q->wpAny (model X.prog X.w) X.A (spliced (backTo pos (starEach es X.env))) (AP X pins σ Q) X.xe s
noncomputable def PS (X:Cx) (st:Stmt) (t:TS):Prop:=
 ∀ (pins:List (Addr×Obj)) (s:Shared) (σ:St) (H:Hp) (D:ph),Inv X pins σ H s->t D σ H->wpAny (model X.prog X.w) X.A (exec st X.env) (SP X pins D) X.xe s
noncomputable def PSs (X:Cx) (st:List Stmt) (t:TS):Prop:=
 ∀ (pins:List (Addr×Obj)) (s:Shared) (σ:St) (H:Hp) (D:ph),Inv X pins σ H s->t D σ H->wpAny (model X.prog X.w) X.A (execs st X.env) (SP X pins D) X.xe s
theorem thn {α:Type}{t:Sem α}{Q Q':α->Shared->Prop}{M:Model}{A:Around}{E:Value->Shared->Prop}{s:Shared} (h:wpAny M A t Q E s) (hQ:∀ a s,Q a s->Q' a s):wpAny M A t Q' E s:=wpAny_mono h hQ λ_ _ x=>x
end L2
namespace L2
open PySem PySem.Spec PyProof.Rows
section
variable {X:Cx}
noncomputable def qg (i:Nat):TE:=λσ H Q=>∃ v,σ[i]?=some (some v)/\Q v H
noncomputable def tC (v:V):TE:=λ_ H Q=>Q v H
theorem mt {i:Nat}{x:Str}{pos:Pos} (hN:X.N[i]?=some x) (hv:Vis X.env.scope x) (hd:(x==("__debug__" : Str))=false:=by decide) (hcd:(x==("__classdict__" : Str))=false:=by decide):PE X (.Name x pos) (qg i):=by
 intro pins s σ H Q I h
 obtain⟨v,e,h⟩:=h
 obtain⟨m,hn,hl⟩:=I.loc
 obtain⟨u,r,l⟩:=hl i x v hN e hv
 have fin:EP X pins σ Q u s:=⟨v,H,I,r,h⟩
 rcases l with⟨hk,hm⟩ | ⟨hk,c,hc,hcell⟩
 ·exact wpAny_Name (wpAny_loadName_local I.ok.kind hk hn hm fin) hd
 ·rcases hk with hk | hk
  ·exact wpAny_Name (wpAny_loadName_cell I.ok.kind hk hc hcell fin) hd
  ·exact wpAny_Name (wpAny_loadName_free I.ok.kind hk hc hcell fin hcd) hd
theorem yw {i j pos}:PE X (.Constant (.int i) j pos) (tC (.int i)):=λ_ _ _ H _ I h=>wpAny_Constant_int ⟨.int i,H,I.tok _,⟨_,rfl⟩,h⟩
theorem zn {b j pos}:PE X (.Constant (.bool b) j pos) (tC (.bl b)):=λ_ _ _ H _ I h=>Constant_bool ⟨.bl b,H,I,rfl,h⟩
theorem va {j pos}:PE X (.Constant .none j pos) (tC .non):=λ_ _ _ H _ I h=>Constant_none ⟨.non,H,I,rfl,h⟩
theorem qd {x j pos}:PE X (.Constant (.str x) j pos) (tC (.str x)):=λ_ _ _ H _ I h=>Calls.Constant_str ⟨.str x,H,I.tok _,⟨_,rfl⟩,h⟩
noncomputable def Gl (X:Cx) (x:Str):Prop:=X.env.kindOf x=some .globalImplicit
theorem li {E:Value->Shared->Prop}{pins:List (Addr×Obj)}{s:Shared}{σ:St}{H:Hp}{x:Str}{u:Value}{pos:Pos}{Q:Value->Shared->Prop} (I:Inv X pins σ H s) (hg:Gl X x) (hm:X.mg x=some u) (h:Q u s)
  (hd:(x==("__debug__" : Str))=false:=by decide):wpAny (model X.prog X.w) X.A (eval (.Name x pos) X.env) Q E s:=
 Calls.Name_function_global I.ok.kind hg (Calls.loadGlobal_global (by rw [I.ok.glob];exact I.mod.glob.keeps I.bk) hm h) hd
theorem ol {E:Value->Shared->Prop}{pins:List (Addr×Obj)}{s:Shared}{σ:St}{H:Hp}{x:Str}{u:Value}{pos:Pos}{Q:Value->Shared->Prop} (I:Inv X pins σ H s) (hg:Gl X x) (hm:X.mg x=none) (hv:bootBuiltins x=some u) (h:Q u s)
  (hn:x≠"__name__":=by decide) (hd:(x==("__debug__" : Str))=false:=by decide):wpAny (model X.prog X.w) X.A (eval (.Name x pos) X.env) Q E s:=by
 obtain⟨mb,h1,h2⟩:=I.mod.blt
 exact Calls.Name_function_global I.ok.kind hg (Calls.loadGlobal_builtin (by rw [I.ok.glob];exact I.mod.glob.keeps I.bk) hm (by rw [I.ok.blt];exact h1.keeps I.bk) ((h2 x hn).trans hv) h) hd
theorem iQ {x:Str}{v:V}{u:Value}{pos:Pos} (hg:Gl X x) (hm:X.mg x=some u) (r:br v u) (hd:(x==("__debug__" : Str))=false:=by decide):PE X (.Name x pos) (tC v):=
 λ_ _ _ H _ I h=>li I hg hm ⟨v,H,I,r,h⟩ hd
theorem qR {x:Str}{v:V}{u:Value}{pos:Pos} (hg:Gl X x) (hm:X.mg x=none) (hv:bootBuiltins x=some u) (r:br v u) (hn:x≠"__name__":=by decide) (hd:(x==("__debug__" : Str))=false:=by decide):PE X (.Name x pos) (tC v):=
 λ_ _ _ H _ I h=>ol I hg hm hv ⟨v,H,I,r,h⟩ hn hd
variable {a b:Expr}{ta tb:TE}{pos:Pos}
noncomputable def PC (X:Cx) (op:CmpOp) (a b:Expr) (t:TE):Prop:=
 ∀ (pins:List (Addr×Obj)) (s:Shared) (σ:St) (H:Hp) (Q:VK),Inv X pins σ H s->t σ H Q->
  wpAny (model X.prog X.w) X.A (eval a X.env) (λv s₁=>wpAny (model X.prog X.w) X.A (eval b X.env) (λu s₂=>wpAny (model X.prog X.w) X.A (compareOp op v u) (EP X pins σ Q) X.xe s₂) X.xe s₁) X.xe s
noncomputable def tB (t:TE):TT:=λσ H Q=>t σ H λx H1=>∃ c,x=.bl c/\Q c H1
theorem uq {op:CmpOp}{t:TE} (h:PC X op a b t) (h1:behindInMarks op b=false:=by first | exact nobehind _ (by decide) (by decide) | rfl):PT X (.Compare a [op] [b] pos) (tB t):=by
 intro pins s σ H Q I hw
 refine wpAny_isTrue_Compare1 (thn (h pins s σ H _ I hw) λv s1 h1=>thn h1 λu s2 h2=>thn h2 λc s3 ⟨x,H1,I1,r1,q1⟩=>?_) h1
 obtain⟨d,rfl,q⟩:=q1
 cases r1
 exact wpAny_truthy_bool ⟨H1,I1,q⟩
theorem qe {e:Expr}{t:TE} (h:PE X e t) (he:∀ whole,isTrue e X.env whole=(do let v <-whole;standAt e.pos;holding [v] (truthy v)):=by intro _;rfl):PT X e (tB t):=by
 intro pins s σ H Q I hw
 refine isTrue_plain (thn (h pins s σ H _ I hw) λv s1 ⟨x,H1,I1,r1,q1⟩=>?_) (he _)
 obtain⟨d,rfl,q⟩:=q1
 cases r1
 exact wpAny_truthy_bool ⟨H1,I1,q⟩
variable {tA tB':TT}{rest:List Expr}
noncomputable def tOr (t u:TT):TT:=λσ H Q=>t σ H λc H1=>if c=true then Q true H1 else u σ H1 Q
noncomputable def Am (t:TT):TT:=λσ H Q=>t σ H λc H1=>Q (!c) H1
theorem uz (ha:PT X a tA):PW X (.BoolOp .Or [a] pos) tA:=by
 intro wh pins s σ H Q I h
 refine isTrue_or (thn (ha pins s σ H Q I h) λc s1 e=>?_)
 cases c with
 | false=>exact isTrue_or_nil e
 | true=>exact e
theorem qW (ha:PT X a tA) (hb:PW X (.BoolOp .Or (b::rest) pos) tB'):PW X (.BoolOp .Or (a::b::rest) pos) (tOr tA tB'):=by
 intro wh pins s σ H Q I h
 refine isTrue_or (thn (ha pins s σ H _ I h) λc s1 ⟨H1,I1,q1⟩=>?_)
 cases c with
 | true=>exact⟨H1,I1,q1⟩
 | false=>exact hb wh pins s1 σ H1 Q I1 q1
theorem pX (ha:PT X a tA):PT X (.UnaryOp .Not a pos) (Am tA):=by
 intro pins s σ H Q I h
 exact isTrue_not (ha pins s σ H (λc H1=>Q (!c) H1) I h)
noncomputable def zz (ta tb:TE):TE:=λσ H Q=>ta σ H λx H1=>∃ c,x=.bl c/\if c=true then tb σ H1 Q else Q (.bl false) H1
noncomputable def Ag (ta:TE):TE:=λσ H Q=>ta σ H λx H1=>∃ c,x=.bl c/\Q (.bl (!c)) H1
theorem yG {op}{t:TE} (h:PE X a t):PE X (.BoolOp op [a] pos) t:=λpins s σ H Q I hw=>BoolOp_one (h pins s σ H Q I hw)
theorem ul (ha:PE X a ta) (hb:PE X (.BoolOp .And (b::rest) pos) tb):PE X (.BoolOp .And (a::b::rest) pos) (zz ta tb):=by
 intro pins s σ H Q I h
 refine BoolOp_and (thn (ha pins s σ H _ I h) λv s1 ⟨x,H1,I1,r1,q1⟩=>?_)
 obtain⟨c,rfl,q1⟩:=q1
 cases r1
 refine wpAny_truthy_bool ?_
 cases c with
 | true=>exact hb pins s1 σ H1 Q I1 q1
 | false=>exact⟨.bl false,H1,I1,rfl,q1⟩
theorem yz (ha:PE X a ta):PE X (.UnaryOp .Not a pos) (Ag ta):=by
 intro pins s σ H Q I h
 refine UnaryOp_ (thn (ha pins s σ H _ I h) λv s1 ⟨x,H1,I1,r1,q1⟩=>?_)
 obtain⟨c,rfl,q1⟩:=q1
 cases r1
 exact not_of (wpAny_truthy_bool ⟨.bl (!c),H1,I1,rfl,q1⟩)
noncomputable def tIf (t:TT) (ta tb:TE):TE:=λσ H Q=>t σ H λc H1=>if c=true then ta σ H1 Q else tb σ H1 Q
theorem pd {c:Expr} (hc:PT X c tA) (ha:PE X a ta) (hb:PE X b tb):PE X (.IfExp c a b pos) (tIf tA ta tb):=by
 intro pins s σ H Q I h
 refine wpAny_IfExp (thn (hc pins s σ H _ I h) λd s1 ⟨H1,I1,q1⟩=>?_)
 cases d with
 | true=>exact ha pins s1 σ H1 Q I1 q1
 | false=>exact hb pins s1 σ H1 Q I1 q1
end
end L2
namespace L2
open PySem PySem.Spec PyProof.Rows
noncomputable def SqL (K:PySem.W.Frag) (H:Hp) (a:Addr) (xs:List V):Prop:=
 Rd H a (.lst xs)\/
  ∃ (o:Obj) (its:Array Value) (n:Nat),K.lookup a=some o/\o.cls=.type "list"/\o.dict=none/\o.data=.seq its n/\its.size<=sizeLine/\bx xs its.toList
noncomputable def SqT (K:PySem.W.Frag) (H:Hp) (a:Addr) (xs:List V):Prop:=
 H a=some (.tup xs)\/
  ∃ (o:Obj) (its:Array Value) (n:Nat),K.lookup a=some o/\o.cls=.type "tuple"/\o.data=.seq its n/\its.size<=sizeLine/\bx xs its.toList/\o.dict=none
noncomputable def AE:Value->Option V
 | .none=>some .non
 | .bool b=>some (.bl b)
 | .int i _=>some (.int i)
 | .str x _=>some (.str x)
 | .bytes b _=>some (.byt b)
 | .float b _=>some (.flt b)
 | .ref a=>some (.ref a)
 | .type n=>some (.ty n)
 | _=>none
theorem br.abs {x:V}{u:Value} (r:br x u):AE u=some x:=by
 cases x with
 | non=>cases r;rfl
 | bl _=>cases r;rfl
 | int _=>obtain⟨t,rfl⟩:=r;rfl
 | str _=>obtain⟨t,rfl⟩:=r;rfl
 | byt _=>obtain⟨t,rfl⟩:=r;rfl
 | flt _=>obtain⟨t,rfl⟩:=r;rfl
 | ref _=>cases r;rfl
 | ty _=>cases r;rfl
theorem br.inj {x y:V}{u:Value} (r:br x u) (q:br y u):x=y:=Option.some.inj (r.abs.symm.trans q.abs)
theorem bx.inj:∀ {xs ys:List V}{us:List Value},bx xs us->bx ys us->xs=ys
 | _,_,_,.nil,.nil=>rfl
 | _,_,_,.cons r t,.cons r' t'=>by rw [r.inj r',bx.inj t t']
section
variable {X:Cx}{pins:List (Addr×Obj)}{σ:St}{H:Hp}{s:Shared}{a:Addr}{xs ys:List V}
theorem SqL.of {K:PySem.W.Frag} (h:H a=some (.lst xs)):SqL K H a xs:=.inl (.inl h)
theorem SqT.of {K:PySem.W.Frag} (h:H a=some (.tup xs)):SqT K H a xs:=.inl h
theorem Inv.list (I:Inv X pins σ H s) (h:SqL X.K H a xs):∃ its:List Value,bx xs its/\PlainL s.heap a its.toArray/\xs.length<=sizeLine:=by
 rcases h with h | ⟨o,its,n,hk,hc,hd,hs,hz,r⟩
 ·obtain⟨z,its,n,r,e⟩:=h.ok I.hok
  exact⟨its,r,⟨_,n,e,rfl,rfl,rfl⟩,z⟩
 ·refine⟨its.toList,r,⟨o,n,I.kIn a o hk,hc,hd,by simpa using hs⟩,?_⟩
  have e:=r.length
  simp only [Array.length_toList] at e
  lia
theorem Inv.tuple (I:Inv X pins σ H s) (h:SqT X.K H a xs):∃ its:List Value,bx xs its/\IsTup s.heap a its.toArray/\xs.length<=sizeLine:=by
 rcases h with h | ⟨o,its,n,hk,hc,hs,hz,r,_⟩
 ·obtain⟨z,its,r,p⟩:=(Rd.of h).ok I.hok
  exact⟨its,r,p.tup,z⟩
 ·refine⟨its.toList,r,⟨o,I.kIn a o hk,hc,n,by simpa using hs⟩,?_⟩
  have e:=r.length
  simp only [Array.length_toList] at e
  lia
theorem Inv.tuple1 (I:Inv X pins σ H s) (h:SqT X.K H a xs):∃ o:Obj,s.heap.get? a=some o/\o.cls=.type "tuple"/\o.dict=none:=by
 rcases h with h | ⟨o,its,n,hk,hc,hs,hz,r,hd⟩
 ·obtain⟨z,its,r,o,e,c,_,hd⟩:=(Rd.of h).ok I.hok
  exact⟨o,e,c,hd⟩
 ·exact⟨o,I.kIn a o hk,hc,hd⟩
theorem Inv.list_inj (I:Inv X pins σ H s) (h:SqL X.K H a xs) (h':SqL X.K H a ys):xs=ys:=by
 obtain⟨its,r,⟨o,n,e,_,_,d⟩,_⟩:=I.list h
 obtain⟨its',r',⟨o',n',e',_,_,d'⟩,_⟩:=I.list h'
 rw [e] at e';cases e'
 rw [d] at d'
 injection d' with d1 _
 have:its=its':=by simpa using congrArg Array.toList d1
 subst this
 exact r.inj r'
theorem Inv.tuple_inj (I:Inv X pins σ H s) (h:SqT X.K H a xs) (h':SqT X.K H a ys):xs=ys:=by
 obtain⟨its,r,⟨o,e,_,n,d⟩,_⟩:=I.tuple h
 obtain⟨its',r',⟨o',e',_,n',d'⟩,_⟩:=I.tuple h'
 rw [e] at e';cases e'
 rw [d] at d'
 injection d' with d1 _
 have:its=its':=by simpa using congrArg Array.toList d1
 subst this
 exact r.inj r'
end
abbrev Cx.wish (X:Cx) (E:Value->Shared->Prop):Cx:={ X with xe:=E }
abbrev Cx.nox (X:Cx):Cx:=X.wish λ_ _=>False
theorem Cx.Ok.wish {X:Cx} (ok:X.Ok) (E:Value->Shared->Prop):(X.wish E).Ok:=
 ⟨ok.mod,ok.kind,ok.glob,ok.blt,ok.above,ok.inj,ok.has,ok.cab,ok.hd,ok.frames,ok.stk,ok.exf,ok.bs,ok.bsz,ok.noex,ok.exfs,ok.funs,ok.frf⟩
theorem Cx.Ok.unwish {X:Cx}{E:Value->Shared->Prop} (ok:(X.wish E).Ok):X.Ok:=
 ⟨ok.mod,ok.kind,ok.glob,ok.blt,ok.above,ok.inj,ok.has,ok.cab,ok.hd,ok.frames,ok.stk,ok.exf,ok.bs,ok.bsz,ok.noex,ok.exfs,ok.funs,ok.frf⟩
section
variable {X:Cx}{pins:List (Addr×Obj)}{σ:St}{H:Hp}{s:Shared}{E:Value->Shared->Prop}
theorem Inv.wish (I:Inv X pins σ H s) (E:Value->Shared->Prop):Inv (X.wish E) pins σ H s:=⟨I.ok.wish E,I.os,I.bare,I.base,I.loc,I.cell,I.free,I.freeC,I.pin,I.hok,I.len⟩
theorem Inv.unwish (I:Inv (X.wish E) pins σ H s):Inv X pins σ H s:=⟨I.ok.unwish,I.os,I.bare,I.base,I.loc,I.cell,I.free,I.freeC,I.pin,I.hok,I.len⟩
theorem SP.unwish {D:ph}{f:Flow}{s':Shared} (h:SP (X.wish E) pins D f s'):SP X pins D f s':=by
 cases f with
 | next=>obtain⟨σ',H',I,q⟩:=h;exact⟨σ',H',I.unwish,q⟩
 | brk=>obtain⟨σ',H',I,q⟩:=h;exact⟨σ',H',I.unwish,q⟩
 | cont=>obtain⟨σ',H',I,q⟩:=h;exact⟨σ',H',I.unwish,q⟩
 | ret u=>obtain⟨v,σ',H',I,r,q⟩:=h;exact⟨v,σ',H',I.unwish,r,q⟩
theorem PT.nox {e:Expr}{t:TT} (h:PT X.nox e t):PT X e t:=λpins s σ H Q I hw=>
 wpAny_mono (h pins s σ H Q (I.wish _) hw) (λ_ _ ⟨H',I',q⟩=>⟨H',I'.unwish,q⟩) λ_ _ z=>False.elim z
theorem PSs.nox {st:List Stmt}{t:TS} (h:PSs X.nox st t):PSs X st t:=λpins s σ H D I hw=>
 wpAny_mono (h pins s σ H D (I.wish _) hw) (λ_ _ q=>q.unwish) λ_ _ z=>False.elim z
end
section
variable {X:Cx}{st:Stmt}{rest:List Stmt}{t u:TS}{e:Expr}{te:TE}{pos:Pos}
noncomputable def zM:TS:=λD σ H=>D.nx σ H
noncomputable def Aj (t u:TS):TS:=λD σ H=>t { D with nx:=u D } σ H
theorem lp:PSs X [] zM:=λ_ _ σ H _ I h=>wpAny_execs_nil ⟨σ,H,I,h⟩
theorem dN (h1:PS X st t) (h2:PSs X rest u):PSs X (st::rest) (Aj t u):=by
 intro pins s σ H D I h
 refine wpAny_execs_cons (thn (h1 pins s σ H { D with nx:=u D } I h) λf s1 q=>?_)
 cases f with
 | next=>
  obtain⟨σ',H',I',q⟩:=q
  exact h2 pins s1 σ' H' D I' q
 | ret v=>exact q
 | brk=>exact q
 | cont=>exact q
theorem iR (h1:PS X st t):PSs X [st] t:=by
 intro pins s σ H D I h
 refine wpAny_execs_cons (thn (h1 pins s σ H D I h) λf s1 q=>?_)
 cases f with
 | next=>exact wpAny_execs_nil q
 | ret v=>exact q
 | brk=>exact q
 | cont=>exact q
theorem Inv.quiet {pins:List (Addr×Obj)}{σ:St}{H:Hp}{s:Shared} (I:Inv X pins σ H s):interactive X.env=false:=by simp [interactive,I.ok.kind]
noncomputable def zi (te:TE):TS:=λD σ H=>te σ H λ_ H1=>D.nx σ H1
theorem wg (he:PE X e te) (hs:swapsWith e none pos.line X.env=pure false:=by rfl):PS X (.Expr e pos) (zi te):=by
 intro pins s σ H D I h
 exact wpAny_Expr_any (thn (he pins s σ H _ I h) λv s1 ⟨x,H1,I1,r1,q1⟩=>⟨σ,H1,I1,q1⟩) I.quiet hs
noncomputable def Aq (te:TE):TS:=λD σ H=>te σ H D.rt
theorem kd (he:PE X e te):PS X (.Return (some e) pos) (Aq te):=by
 intro pins s σ H D I h
 exact wpAny_Return_some (thn (he pins s σ H _ I h) λv s1 ⟨x,H1,I1,r1,q1⟩=>⟨x,σ,H1,I1,r1,q1⟩)
noncomputable def AK (c:TT) (t u:TS):TS:=λD σ H=>c σ H λb H1=>if b=true then t D σ H1 else u D σ H1
theorem lr {c:Expr}{a b:List Stmt}{tc:TT} (hc:PT X c tc) (ha:PSs X a t) (hb:PSs X b u):PS X (.If c a b pos) (AK tc t u):=by
 intro pins s σ H D I h
 refine wpAny_If (thn (hc pins s σ H _ I h) λd s1 ⟨H1,I1,q1⟩=>?_)
 cases d with
 | true=>exact ha pins s1 σ H1 D I1 q1
 | false=>exact hb pins s1 σ H1 D I1 q1
noncomputable def x8:TS:=λ_ _ _=>False
theorem dw {sts:List Stmt}:PSs X sts x8:=λ_ _ _ _ _ _ h=>h.elim
end
abbrev TG:=V->St->Hp->(St->Hp->Prop)->Prop
noncomputable def PG (X:Cx) (target:Expr) (t:TG):Prop:=
 ∀ (pins:List (Addr×Obj)) (s:Shared) (σ:St) (H:Hp) (v:V) (u:Value) (Q:St->Hp->Prop),Inv X pins σ H s->br v u->t v σ H Q->
  wpAny (model X.prog X.w) X.A (assign target X.env u) (λ_ s'=>∃ σ' H',Inv X pins σ' H' s'/\Q σ' H') X.xe s
abbrev xx:=V->V->V->Hp->(Hp->Prop)->Prop
noncomputable def Ac (X:Cx) (t:xx):Prop:=
 ∀ (pins:List (Addr×Obj)) (s:Shared) (σ:St) (H:Hp) (o i v:V) (ov iv u:Value) (Q:Hp->Prop),Inv X pins σ H s->br o ov->br i iv->br v u->t o i v H Q->
  wpAny (model X.prog X.w) X.A (setItem ov iv u) (λ_ s'=>∃ H',Inv X pins σ H' s'/\Q H') X.xe s
section
variable {X:Cx}{pos:Pos}
noncomputable def qI (i:Nat):TG:=λv σ H Q=>Q (σ.set i (some v)) H
theorem dY {i:Nat}{x:Str} (hN:X.N.Nodup) (hi:X.N[i]?=some x) (hx:Loc X.env.scope x) (hf:X.fn x=true\/X.env.scope.names.lookup x=some .local:=by first | exact .inl rfl | exact .inr rfl | assumption):PG X (.Name x pos) (qI i):=by
 intro pins s σ H v u Q I r h
 exact wpAny_assign_Name (gS I hN hi hx r (λs' I'=>⟨_,H,I',h⟩) hf)
noncomputable def AJ (to ti:TE) (t:xx):TG:=λv σ H Q=>to σ H λo H1=>ti σ H1 λi H2=>t o i v H2 λH3=>Q σ H3
theorem xP {o i:Expr}{to ti:TE}{t:xx} (ho:PE X o to) (hi:PE X i ti) (hs:Ac X t)
  (ha:∀ v,assign (.Subscript o i pos) X.env v=(do
    let ov <-holding [v] (eval o X.env)
    let iv <-holding [v,ov] (eval i X.env)
    standAt pos
    holding [v,ov,iv] (setItem ov iv v)
    release [v,ov,iv] []):=by intro _;rfl):PG X (.Subscript o i pos) (AJ to ti t):=by
 intro pins s σ H v u Q I r h
 rw [ha]
 refine wpAny_bind (wpAny_holding (thn (ho pins s σ H _ I h) λov s1 ⟨x,H1,I1,r1,q1⟩=>?_))
 refine wpAny_bind (wpAny_holding (thn (hi pins s1 σ H1 _ I1 q1) λiv s2 ⟨y,H2,I2,r2,q2⟩=>?_))
 refine wpAny_bind (wpAny_standAt (wpAny_bind (wpAny_holding (thn (hs pins s2 σ H2 x y v ov iv u _ I2 r1 r2 r q2) λ_ s3 ⟨H3,I3,q3⟩=>?_))))
 exact wpAny_release ⟨σ,H3,I3,q3⟩
noncomputable def yu (te:TE) (g:TG):TS:=λD σ H=>te σ H λx H1=>g x σ H1 D.nx
theorem yK {tg e:Expr}{te:TE}{g:TG} (he:PE X e te) (hg:PG X tg g) (hs:swapsWithSole [tg] e pos.line X.env=pure false:=by rfl) (hw:swappedStores [tg] e X.env=pure none:=by rfl)
  (h1:(assignEach [tg] X.env).map (·.2)=[assign tg X.env]:=by rfl):PS X (.Assign [tg] e pos) (yu te g):=by
 intro pins s σ H D I h
 refine wpAny_Assign_stores (thn (he pins s σ H _ I h) λv s1 ⟨x,H1,I1,r1,q1⟩=>?_) hs hw
 rw [h1]
 exact thn (hg pins s1 σ H1 x v _ I1 r1 q1) λ_ s2 q=>q
theorem nH {i:Nat}{x:Str}{e:Expr}{te:TE}{pos':Pos} (hN:X.N.Nodup) (hi:X.N[i]?=some x) (hx:Loc X.env.scope x) (he:PE X e te) (hs:swapsWith e (some (.Name x pos')) pos.line X.env=pure false:=by rfl) (hf:X.fn x=true\/X.env.scope.names.lookup x=some .local:=by first | exact .inl rfl | exact .inr rfl | assumption) :
  PS X (.Assign [.Name x pos'] e pos) (yu te (qI i)):=by
 intro pins s σ H D I h
 refine wpAny_Assign_Name (thn (he pins s σ H _ I h) λv s1 ⟨y,H1,I1,r1,q1⟩=>?_) hs
 exact gS I1 hN hi hx r1 (λs2 I2=>⟨_,H1,I2,q1⟩) hf
noncomputable def zG (i j:Nat) (ta:TA):TS:=λD σ H=>ta σ H λvs H1=>∃ v w,vs=[v,w]/\D.nx ((σ.set i (some v)).set j (some w)) H1
theorem qp {i j:Nat}{x y:Str}{a b:Expr}{ta:TA}{px py pt:Pos}{kt k2 pt2} (hc:X.calm=true) (hN:X.N.Nodup) (hi:X.N[i]?=some x) (hj:X.N[j]?=some y) (hij:i≠j)
  (hx:X.env.scope.names.lookup x=some .local) (hy:X.env.scope.names.lookup y=some .local) (ha:PA X [a,b] ta)
  (hw:swappedStores [.Tuple [.Name x px,.Name y py] kt pt] (.Tuple [a,b] k2 pt2) X.env=pure (some [x,y]))
  (hs:swapsWithSole [.Tuple [.Name x px,.Name y py] kt pt] (.Tuple [a,b] k2 pt2) pos.line X.env=pure false:=by rfl) :
  PS X (.Assign [.Tuple [.Name x px,.Name y py] kt pt] (.Tuple [a,b] k2 pt2) pos) (zG i j ta):=by
 intro pins s σ H D I h
 rw [exec_Assign_arm]
 refine wpAny_bind (wpAny_standAt ?_)
 rw [hs]
 refine wpAny_bind (wpAny_pure ?_)
 rw [if_neg (by decide)]
 refine wpAny_bind (Tuple_ (thn (ha _ pins s σ H _ I h) λus s1 ⟨vs,H1,I1,r1,q1⟩=>?_))
 obtain⟨v,w,e1,q1⟩:=q1
 subst e1
 obtain⟨u1,u2,rfl,rv,rw'⟩:∃ u1 u2,us=[u1,u2]/\br v u1/\br w u2:=by
  cases r1 with
  | cons p q=>
   cases q with
   | cons p' q'=>
    cases q'
    exact⟨_,_,rfl,p,p'⟩
 refine wpAny_newObj_type ?_ (by show 2<=sizeLine;decide)
 have I2:Inv X pins σ H1 { s1 with heap:=s1.heap.push { cls:=.type "tuple",data:=.seq [u1,u2].toArray } }:=I1.kept (t':=s1.toks) λb o e=>Heap.get?_push_of_some _ e
 rw [hw]
 refine wpAny_bind (wpAny_pure ?_)
 show wpAny (model X.prog X.w) X.A (do rule "assign.swapped-stores";let items <-unpackItems (.ref s1.heap.objs.size) 2 none;assignInOrder [λv=>bindName X.env y v,λv=>bindName X.env x v] items.reverse;pure Flow.next) _ _ _
 refine wpAny_bind (wpAny_rule (wpAny_bind (unpackItems_tuple (items:=#[u1,u2]) (I.ok.hd hc) (IsTup.new s1.heap _) λh' hx'=>?_)))
 have I3:=I2.kept (h':=h') (t':=s1.toks) λb o e=>hx' b o (Nat.ne_of_lt (Heap.lt_size e)) e
 show wpAny _ _ (assignInOrder [λv=>bindName X.env y v,λv=>bindName X.env x v] [u2,u1] >>= λ_=>pure Flow.next) _ _ _
 refine wpAny_bind (assignInOrder_cons (wpAny_bindName (gS I3 hN hj (.inl hy) rw' (λs2 I4=>?_) (.inr hy))))
 refine assignInOrder_cons (wpAny_bindName (gS I4 hN hi (.inl hx) rv (λs3 I5=>assignInOrder_nil (wpAny_pure ?_)) (.inr hx)))
 rw [List.set_comm _ _ (Ne.symm hij)] at I5
 exact⟨_,H1,I5,q1⟩
end
section
variable {X:Cx}{pos:Pos}
noncomputable def xN (c:TT) (tb:TS):TS:=λD σ H=>∃ W:Nat->St->Hp->Prop,(∃ m,W m σ H)/\∀ m σ H,W m σ H->
 c σ H λb H1=>if b=true then ∃ N:St->Hp->Prop,(∀ σ' H',N σ' H'->∃ m',m' < m/\W m' σ' H')/\tb { D with nx:=N,ct:=N,bk:=D.nx } σ H1 else D.nx σ H1
theorem oS {c:Expr}{body:List Stmt}{tc:TT}{tb:TS} (hp:PassesOwn (model X.prog X.w) X.A X.env X.xe) (hc:PT X c tc) (hb:PSs X body tb):PS X (.While c body [] pos) (xN tc tb):=by
 intro pins s σ H D I h
 obtain⟨W,⟨m0,w0⟩,turn⟩:=h
 refine wpAny_While (codeAny_whileLoop (λn s'=>∃ σ' H',Inv X pins σ' H' s'/\W n σ' H') ?_ m0 ⟨σ,H,I,w0⟩)
 rintro n s1 ⟨σ1,H1,I1,w1⟩
 refine wpAny_passesOwn hp (thn (hc pins s1 σ1 H1 _ I1 (turn n σ1 H1 w1)) λb s2 ⟨H2,I2,q2⟩=>?_)
 cases b with
 | true=>
  obtain⟨N,hN,q2⟩:=q2
  rw [if_pos rfl]
  refine wpAny_passesOwn hp (thn (hb pins s2 σ1 H2 _ I2 q2) λf s3 q3=>?_)
  cases f with
  | next=>
   obtain⟨σ3,H3,I3,n3⟩:=q3
   obtain⟨m',hm,w3⟩:=hN σ3 H3 n3
   exact⟨m',hm,σ3,H3,I3,w3⟩
  | cont=>
   obtain⟨σ3,H3,I3,n3⟩:=q3
   obtain⟨m',hm,w3⟩:=hN σ3 H3 n3
   exact⟨m',hm,σ3,H3,I3,w3⟩
  | brk=>exact q3
  | ret v=>exact q3
 | false=>
  rw [if_neg Bool.false_ne_true]
  exact wpAny_execs_nil ⟨σ1,H2,I2,q2⟩
end
structure It where
 go:Nat->Hp->Prop
 yld:Nat->Hp->V->Hp->Prop
 stop:Nat->Hp->Prop
noncomputable def jG (X:Cx) (pins:List (Addr×Obj)) (H:Hp) (b:Addr):Prop:=
 H b=none/\b≠X.env.locals/\b ∉ X.fs/\(b ∈ X.ex\/X.s₀.heap.objs.size<=b)/\(∀ x c,X.env.cells.lookup x=some c->c≠b)/\∀ p ∈ X.pn++pins,p.1≠b
theorem Inv.fpOk {X:Cx}{pins:List (Addr×Obj)}{σ:St}{H H':Hp}{s:Shared}{b:Addr} (I:Inv X pins σ H s) (hb:s.heap.objs.size<=b) (hn:H' b=none):jG X pins H' b:=by
 refine⟨hn,Nat.ne_of_gt (Nat.lt_of_lt_of_le I.lt hb),I.nofs hb,.inr (Nat.le_trans I.sz hb),λx c e z=>?_,λp hp z=>?_⟩
 ·obtain⟨v,q⟩:=I.cell x c e
  exact absurd (Nat.lt_of_lt_of_le q.lt (by rw [z];exact hb)) (Nat.lt_irrefl _)
 ·exact absurd (Nat.lt_of_lt_of_le (Heap.lt_size (I.pin p hp).1) (by rw [z];exact hb)) (Nat.lt_irrefl _)
structure vq (P:Program) (w:World) (K:PySem.W.Frag) (tg:Expr) (J:It) (fp:List Addr) (it:Addr) (tn:Nat->Heap->Prop):Prop where
 mem:it ∈ fp
 obj:∀ i h,tn i h->∀ b ∈ fp,∃ o,h.get? b=some o/\∀ v,o.data≠.cell v
 keep:∀ i h h',tn i h->(∀ b ∈ fp,∀ o,h.get? b=some o->h'.get? b=some o)->tn i h'
 item:∀ (X:Cx),X.prog=P->X.w=w->X.K=K->X.calm=true->∀ (i:Nat) (pins:List (Addr×Obj)) (s:Shared) (σ:St) (H:Hp) (E:Value->Shared->Prop),Inv X pins σ H s->(∀ b ∈ fp,jG X pins H b)->tn i s.heap->J.go i H->
  wpAny (model P w) X.A (pyNext (.ref it)) (λr s1=>∃ u,r=some u/\
   wpAny (model P w) X.A (letOwnedTupleGo tg (.ref it) u) (λ_ s2=>∃ x H',Inv X pins σ H' s2/\br x u/\J.yld i H x H'/\tn (i+1) s2.heap/\∀ b ∈ fp,H' b=none) E s1) E s
 done:∀ (X:Cx),X.prog=P->X.w=w->X.K=K->X.calm=true->∀ (i:Nat) (pins:List (Addr×Obj)) (s:Shared) (σ:St) (H:Hp) (E:Value->Shared->Prop),Inv X pins σ H s->(∀ b ∈ fp,jG X pins H b)->tn i s.heap->J.stop i H->
  wpAny (model P w) X.A (pyNext (.ref it)) (λr s1=>r=none/\Inv X pins σ H s1) E s
 self:∀ (A:Around) (i:Nat) (s:Shared) (Q:Value->Shared->Prop) (E:Value->Shared->Prop),tn i s.heap->Q (.ref it) s->wpAny (model P w) A (pyIter (.ref it)) Q E s
abbrev TI:=St->Hp->(It->Hp->Prop)->Prop
noncomputable def PIE (X:Cx) (pins:List (Addr×Obj)) (σ:St) (tg:Expr) (R:It->Hp->Prop) (itv:Value) (s2:Shared):Prop:=
 ∃ (it:Addr) (fp:List Addr) (tn:Nat->Heap->Prop) (J:It) (H':Hp),itv=.ref it/\Inv X pins σ H' s2/\vq X.prog X.w X.K tg J fp it tn/\tn 0 s2.heap/\(∀ b ∈ fp,jG X pins H' b)/\R J H'
noncomputable def PI (X:Cx) (tg iter:Expr) (wi:TI):Prop:=
 ∀ (pins:List (Addr×Obj)) (s:Shared) (σ:St) (H:Hp) (R:It->Hp->Prop),Inv X pins σ H s->wi σ H R->
  wpAny (model X.prog X.w) X.A (eval iter X.env) (λv s1=>wpAny (model X.prog X.w) X.A (pyIter v) (PIE X pins σ tg R) X.xe s1) X.xe s
theorem uc {M:Model}{A:Around}{E:Value->Shared->Prop}{s:Shared}{tg:Expr}{it:Addr}{u:Value}{o:Obj}{n:String}{vs:Array Value}{Q:Unit->Shared->Prop} (ho:s.heap.get? it=some o) (hc:o.cls=.type n) (hd:o.data=.fields vs)
  (hn:["enumerate","zip","dict_itemiterator","dict_reverseitemiterator","odict_iterator","itertools.zip_longest","itertools.pairwise"].contains n=false) (hQ:Q () s):wpAny M A (letOwnedTupleGo tg (.ref it) u) Q E s:=by
 unfold letOwnedTupleGo
 cases tg<;>first
  | exact wpAny_pure hQ
  | (cases u<;>first
      | exact wpAny_pure hQ
      | (refine wpAny_bind (wpAny_load ho ?_)
         rw [hc,hd]
         show wpAny M A (if (["enumerate","zip","dict_itemiterator","dict_reverseitemiterator","odict_iterator","itertools.zip_longest","itertools.pairwise"].contains n && vs[0]?==some (rawInt _))=true then _ else _) Q E s
         rw [if_neg (by intro h;rw [hn,Bool.false_and] at h;cases h)]
         exact wpAny_pure hQ))
noncomputable def Itl (K:PySem.W.Frag) (a:Addr):It:=
 ⟨λi H=>∃ xs x,SqL K H a xs/\xs[i]?=some x,λi H x H'=>H'=H/\∀ xs,SqL K H a xs->xs[i]?=some x,λi H=>∃ xs,SqL K H a xs/\xs.length<=i⟩
noncomputable def Itt (K:PySem.W.Frag) (a:Addr):It:=
 ⟨λi H=>∃ xs x,SqT K H a xs/\xs[i]?=some x,λi H x H'=>H'=H/\∀ xs,SqT K H a xs->xs[i]?=some x,λi H=>∃ xs,SqT K H a xs/\xs.length<=i⟩
noncomputable def Itr (lo:Int) (n:Nat):It:=⟨λi _=>i < n,λi H x H'=>H'=H/\x=.int (lo+i),λi _=>n<=i⟩
theorem sF {P:Program}{w:World}{K:PySem.W.Frag}{tg:Expr} (a it:Addr):vq P w K tg (Itl K a) [it] it (λi h=>h.IsListIter it a i) where
 mem:=by simp
 obj:=λi h st b hb=>by
  have e:b=it:=by simpa using hb
  subst e
  obtain⟨o,e,c,d⟩:=st
  exact⟨o,e,λv z=>by rw [d] at z;cases z⟩
 keep:=λi h h' st k=>st.at λo e=>k it (by simp) o e
 item:=by
  intro X hP hw hK hc i pins s σ H E I hf st hg
  subst hP hw hK
  obtain⟨xs,x,hq,hx⟩:=hg
  obtain⟨its,rv,p,hz⟩:=I.list hq
  obtain⟨u,hu,ru⟩:=rv.get hx
  obtain⟨f0,f1,f2,f3,f4,f5⟩:=hf it (by simp)
  refine wpAny_pyNext_list_item st p.isList (x:=u) (by simpa using hu) λh' st' sb=>?_
  have I1:Inv X pins σ H { s with heap:=h' }:=I.turned (t':=s.toks) (λb o hb e=>(sb.2 b hb).trans e) f0 f1 f3 f4 f5
  obtain⟨o,e,c,d⟩:=id st'
  exact⟨u,rfl,uc (s:={ s with heap:=h' }) e c d (by decide) ⟨x,H,I1,ru,⟨rfl,λys hy=>by rw [I.list_inj hy hq];exact hx⟩,st',λb hb=>(hf b hb).1⟩⟩
 done:=by
  intro X hP hw hK hc i pins s σ H E I hf st hg
  subst hP hw hK
  obtain⟨xs,hq,hx⟩:=hg
  obtain⟨its,rv,p,hz⟩:=I.list hq
  obtain⟨f0,f1,f2,f3,f4,f5⟩:=hf it (by simp)
  have hl:=rv.length
  exact wpAny_pyNext_list_end (I.ok.hd hc) st p.isList (by simp;lia) λh' eb=>⟨rfl,I.turned (t':=s.toks) (λb o hb e=>eb b o hb e) f0 f1 f3 f4 f5⟩
 self:=λ_ _ _ _ _ st h=>wpAny_pyIter_listiter st h
theorem qv {P:Program}{w:World}{K:PySem.W.Frag}{tg:Expr} (a it:Addr):vq P w K tg (Itt K a) [it] it (λi h=>h.IsTupleIter it a i) where
 mem:=by simp
 obj:=λi h st b hb=>by
  have e:b=it:=by simpa using hb
  subst e
  obtain⟨o,e,c,d⟩:=st
  exact⟨o,e,λv z=>by rw [d] at z;cases z⟩
 keep:=λi h h' st k=>st.at λo e=>k it (by simp) o e
 item:=by
  intro X hP hw hK hc i pins s σ H E I hf st hg
  subst hP hw hK
  obtain⟨xs,x,hq,hx⟩:=hg
  obtain⟨its,rv,p,hz⟩:=I.tuple hq
  obtain⟨u,hu,ru⟩:=rv.get hx
  obtain⟨f0,f1,f2,f3,f4,f5⟩:=hf it (by simp)
  refine wpAny_pyNext_tuple_item st (show s.heap.IsTuple a its.toArray from p) (x:=u) (by simpa using hu) λh' st' sb=>?_
  have I1:Inv X pins σ H { s with heap:=h' }:=I.turned (t':=s.toks) (λb o hb e=>(sb.2 b hb).trans e) f0 f1 f3 f4 f5
  obtain⟨o,e,c,d⟩:=id st'
  exact⟨u,rfl,uc (s:={ s with heap:=h' }) e c d (by decide) ⟨x,H,I1,ru,⟨rfl,λys hy=>by rw [I.tuple_inj hy hq];exact hx⟩,st',λb hb=>(hf b hb).1⟩⟩
 done:=by
  intro X hP hw hK hc i pins s σ H E I hf st hg
  subst hP hw hK
  obtain⟨xs,hq,hx⟩:=hg
  obtain⟨its,rv,p,hz⟩:=I.tuple hq
  obtain⟨f0,f1,f2,f3,f4,f5⟩:=hf it (by simp)
  have hl:=rv.length
  exact wpAny_pyNext_tuple_end (I.ok.hd hc) st (show s.heap.IsTuple a its.toArray from p) (by simp;lia) λh' eb=>⟨rfl,I.turned (t':=s.toks) (λb o hb e=>eb b o hb e) f0 f1 f3 f4 f5⟩
 self:=λ_ _ _ _ _ st h=>wpAny_pyIter_tupleiter st h
theorem qo {P:Program}{w:World}{K:PySem.W.Frag}{tg:Expr} (it:Addr) (lo:Int) (n:Nat):vq P w K tg (Itr lo n) [it] it (λi h=>IsRangeIter h it (lo+(i:Nat)*1) ((n:Int) - (i:Nat)) 1) where
 mem:=by simp
 obj:=λi h st b hb=>by
  have e:b=it:=by simpa using hb
  subst e
  exact⟨_,st,λv z=>by
   have z':Data.fields _=Data.cell v:=z
   cases z'⟩
 keep:=λi h h' st k=>k it (by simp) _ st
 item:=by
  intro X hP hw hK hc i pins s σ H E I hf st hg
  subst hP hw hK
  obtain⟨f0,f1,f2,f3,f4,f5⟩:=hf it (by simp)
  have W:=Walks.range (prog:=X.prog) (w:=X.w) (I.ok.hd hc) it lo 1 n
  refine W.item i s _ _ hg st λv h' tk hv st' kk=>?_
  obtain⟨t,rfl⟩:=hv
  have I1:Inv X pins σ H { s with heap:=h',toks:=tk }:=I.turned (λb o hb e=>kk b o (by simpa using hb) e) f0 f1 f3 f4 f5
  refine⟨_,rfl,uc (s:={ s with heap:=h',toks:=tk }) (n:="range_iterator") st' rfl rfl (by decide) ⟨.int (lo+i),H,I1,⟨t,?_⟩,⟨rfl,rfl⟩,st',λb hb=>(hf b hb).1⟩⟩
  rw [Int.mul_one]
 done:=by
  intro X hP hw hK hc i pins s σ H E I hf st hg
  subst hP hw hK
  obtain⟨f0,f1,f2,f3,f4,f5⟩:=hf it (by simp)
  exact wpAny_pyNext_range_end (I.ok.hd hc) st (by have:n<=i:=hg;lia) λh' eb=>⟨rfl,I.turned (t':=s.toks) (λb o hb e=>eb b o hb e) f0 f1 f3 f4 f5⟩
 self:=λ_ _ _ _ _ st h=>wpAny_pyIter_rangeiter st h
end L2
namespace L2
open PySem PySem.Spec PyProof.Rows
section
variable {X:Cx}{tg:Expr}
noncomputable def Ad (K:PySem.W.Frag) (tl:TE):TI:=λσ H R=>tl σ H λx H1=>∃ a,x=.ref a/\(∃ xs,SqL K H1 a xs)/\R (Itl K a) H1
noncomputable def Ap (K:PySem.W.Frag) (tl:TE):TI:=λσ H R=>tl σ H λx H1=>∃ a,x=.ref a/\(∃ xs,SqT K H1 a xs)/\R (Itt K a) H1
theorem wP {l:Expr}{tl:TE} (hl:PE X l tl):PI X tg l (Ad X.K tl):=by
 intro pins s σ H R I h
 refine thn (hl pins s σ H _ I h) λv s1 ⟨x,H1,I1,r1,q1⟩=>?_
 obtain⟨a,e,⟨xs,hq⟩,q⟩:=q1
 subst e
 cases r1
 obtain⟨its,rv,p,hz⟩:=I1.list hq
 refine wpAny_pyIter_list p.isList ?_
 refine⟨s1.heap.objs.size,[s1.heap.objs.size],_,_,H1,rfl,I1.kept (t':=s1.toks) λb o e=>Heap.get?_push_of_some _ e,sF a _,⟨_,Heap.get?_push_size _ rfl,rfl,rfl⟩,λb hb=>?_,q⟩
 have e:b=s1.heap.objs.size:=by simpa using hb
 subst e
 exact I1.fpOk (Nat.le_refl _) (I1.hok.fresh (Nat.le_refl _))
theorem xB {l:Expr}{tl:TE} (hl:PE X l tl):PI X tg l (Ap X.K tl):=by
 intro pins s σ H R I h
 refine thn (hl pins s σ H _ I h) λv s1 ⟨x,H1,I1,r1,q1⟩=>?_
 obtain⟨a,e,⟨xs,hq⟩,q⟩:=q1
 subst e
 cases r1
 obtain⟨its,rv,p,hz⟩:=I1.tuple hq
 refine wpAny_pyIter_tuple (show s1.heap.IsTuple a its.toArray from p) ?_
 refine⟨s1.heap.objs.size,[s1.heap.objs.size],_,_,H1,rfl,I1.kept (t':=s1.toks) λb o e=>Heap.get?_push_of_some _ e,qv a _,⟨_,Heap.get?_push_size _ rfl,rfl,rfl⟩,λb hb=>?_,q⟩
 have e:b=s1.heap.objs.size:=by simpa using hb
 subst e
 exact I1.fpOk (Nat.le_refl _) (I1.hok.fresh (Nat.le_refl _))
theorem uB {pins:List (Addr×Obj)}{σ:St}{H:Hp}{s:Shared}{R:It->Hp->Prop}{E:Value->Shared->Prop}{lo hi:Int}{t u v:Tok}{tk:Nat} (I:Inv X pins σ H s) (h1:-(2 ^ 62)<=lo) (h2:lo < 2 ^ 62) (h3:-(2 ^ 62)<=hi) (h4:hi < 2 ^ 62)
  (q:R (Itr lo (hi - lo).toNat) H):wpAny (model X.prog X.w) X.A (pyIter (.ref s.heap.objs.size)) (PIE X pins σ tg R) E { s with heap:=s.heap.push { cls:=.type "range",data:=.fields #[.int lo t,.int hi u,.int 1 v] },toks:=tk }:=by
 refine wpAny_pyIter_range (IsRange.new ..) (small_one h1 h2 h3 h4) ?_
 have I1:Inv X pins σ H { s with heap:=s.heap.push { cls:=.type "range",data:=.fields #[.int lo t,.int hi u,.int 1 v] },toks:=tk }:=I.kept λb o e=>Heap.get?_push_of_some _ e
 refine⟨(s.heap.push { cls:=.type "range",data:=.fields #[.int lo t,.int hi u,.int 1 v] }).objs.size,[(s.heap.push { cls:=.type "range",data:=.fields #[.int lo t,.int hi u,.int 1 v] }).objs.size],_,_,H,rfl,
  I1.kept (t':=tk) λb o e=>Heap.get?_push_of_some _ e,qo _ lo (hi - lo).toNat,?_,λb hb=>?_,q⟩
 ·have e1:lo+((0:Nat):Int)*1=lo:=by simp
  have e2:(((hi - lo).toNat:Nat):Int) - ((0:Nat):Int)=Builtin.Range.rangeSize lo hi 1:=by rw [rangeSize_one];split<;>lia
  show IsRangeIter _ _ (lo+((0:Nat):Int)*1) ((((hi - lo).toNat:Nat):Int) - ((0:Nat):Int)) 1
  rw [e1,e2]
  exact Heap.get?_push_size _ rfl
 ·have e:b=(s.heap.push { cls:=.type "range",data:=.fields #[.int lo t,.int hi u,.int 1 v] }).objs.size:=by simpa using hb
  subst e
  exact I1.fpOk (Nat.le_refl _) (I1.hok.fresh (Nat.le_refl _))
noncomputable def yN (ta:TA):TI:=λσ H R=>ta σ H λvs H1=>∃ j:Int,vs=[.int j]/\-(2 ^ 62)<=j/\j < 2 ^ 62/\R (Itr 0 j.toNat) H1
theorem sg {a:Expr}{ta:TA}{p pos:Pos} (hg:Gl X "range") (hm:X.mg "range" = none) (ha:PA X [a] ta) (hs:starEach [a] X.env=[(false,eval a X.env)]:=by rfl):PI X tg (.Call (.Name "range" p) [a] [] pos) (yN ta):=by
 intro pins s σ H R I h
 refine Call_ (ol I hg hm boot_range (PyProof.Rows.callWith_type1 (thn (ha pos pins s σ H _ I h) λus s1 ⟨vs,H1,I1,r1,q1⟩=>?_) hs rfl))
 obtain⟨j,e,q1,q2,q⟩:=q1
 subst e
 cases r1 with
 | cons r rr=>
  cases rr
  obtain⟨t,rfl⟩:=r
  exact call_range_1 (uB I1 (by lia) (by lia) q1 q2 (by simpa using q))
noncomputable def Al (wi:TI) (g:TG) (tb:TS):TS:=λD σ H=>wi σ H λJ H1=>∃ W:Nat->Nat->St->Hp->Prop,(∃ m,W 0 m σ H1)/\∀ i m σ H,W i m σ H->
 (J.stop i H/\D.nx σ H)\/(J.go i H/\∃ N:St->Hp->Prop,(∀ σ' H',N σ' H'->∃ m',m' < m/\W (i+1) m' σ' H')/\∀ x H',J.yld i H x H'->g x σ H' λσ2 H2=>tb { D with nx:=N,ct:=N,bk:=D.nx } σ2 H2)
noncomputable def kr (fp:List Addr) (h:Heap):List (Addr×Obj):=fp.filterMap λb=>(h.get? b).map λo=>(b,o)
theorem ek {fp:List Addr}{h:Heap}{b:Addr}{o:Obj} (hb:b ∈ fp) (e:h.get? b=some o):(b,o) ∈ kr fp h:=List.mem_filterMap.mpr ⟨b,hb,by rw [e];rfl⟩
theorem sG {fp:List Addr}{h:Heap}{p:Addr×Obj} (hp:p ∈ kr fp h):p.1 ∈ fp/\h.get? p.1=some p.2:=by
 obtain⟨b,hb,e⟩:=List.mem_filterMap.mp hp
 cases q:h.get? b with
 | none=>rw [q] at e;cases e
 | some o=>
  rw [q] at e
  have e':(b,o)=p:=Option.some.inj e
  subst e'
  exact⟨hb,q⟩
theorem Inv.pinned {pins:List (Addr×Obj)}{σ:St}{H:Hp}{s:Shared}{fp:List Addr} (I:Inv X pins σ H s) (hf:∀ b ∈ fp,jG X pins H b) (ho:∀ b ∈ fp,∃ o,s.heap.get? b=some o/\∀ v,o.data≠.cell v):Inv X (pins++kr fp s.heap) σ H s:=
 I.pins_of λp hp=>(List.mem_append.mp hp).elim (λz=>I.pin p (List.mem_append_right _ z)) λz=>by
  obtain⟨hb,e⟩:=sG z
  obtain⟨f0,f1,f2,_⟩:=hf p.1 hb
  obtain⟨o,e',d⟩:=ho p.1 hb
  rw [e] at e';cases e'
  exact⟨e,f0,f1,f2,d⟩
theorem Inv.unpinned {pins pl:List (Addr×Obj)}{σ:St}{H:Hp}{s:Shared} (I:Inv X (pins++pl) σ H s):Inv X pins σ H s:=I.pins_of λp hp=>I.pin p (List.mem_append_right _ (List.mem_append_left _ hp))
theorem yC {iter:Expr}{body:List Stmt}{wi:TI}{g:TG}{tb:TS}{pos:Pos} (hp:PassesOwn (model X.prog X.w) X.A X.env X.xe) (hc:X.calm=true) (hi:PI X tg iter wi) (hg:PG X tg g) (hb:PSs X body tb)
  (hs:∀ x,foldedSetIterable iter X.env x=pure x:=by intro _;rfl):PS X (.For tg iter body [] pos) (Al wi g tb):=by
 intro pins s σ H D I h
 refine wpAny_For (thn (hi pins s σ H _ I h) λv s1 h1=>thn h1 λitv s2 h2=>?_) hs
 obtain⟨it,fp,tn,J,H2,e,I2,T,st2,f2,W,⟨m0,w0⟩,turn⟩:=h2
 subst e
 -- what stays true of the iterator's objects through the loop
 have stat:∀ {H':Hp},(∀ b ∈ fp,H' b=none)->∀ b ∈ fp,jG X pins H' b:=λhn b hb=>⟨hn b hb,(f2 b hb).2⟩
 refine codeAny_forLoop_any (λn s'=>∃ i σ' H',Inv X pins σ' H' s'/\tn i s'.heap/\(∀ b ∈ fp,H' b=none)/\W i n σ' H') ?_ m0 ⟨0,σ,H2,I2,st2,λb hb=>(f2 b hb).1,w0⟩
 rintro n s3 ⟨i,σ3,H3,I3,st3,fr3,w3⟩
 rcases turn i n σ3 H3 w3 with⟨stop,qn⟩ | ⟨go,N,hN,step⟩
 ·refine wpAny_passesOwn hp (thn (T.done X rfl rfl rfl hc i pins s3 σ3 H3 X.xe I3 (stat fr3) st3 stop) λr s4 ⟨hr,I4⟩=>?_)
  subst hr
  exact wpAny_execs_nil ⟨σ3,H3,I4,qn⟩
 ·refine wpAny_passesOwn hp (thn (T.item X rfl rfl rfl hc i pins s3 σ3 H3 X.xe I3 (stat fr3) st3 go) λr s4 ⟨u,hr,h4⟩=>?_)
  subst hr
  refine wpAny_passesOwn hp (thn h4 λ_ s5 ⟨x,H5,I5,r5,y5,st5,fr5⟩=>?_)
  have I5':=I5.pinned (stat fr5) (T.obj _ _ st5)
  refine wpAny_passesOwn hp (thn (hg _ s5 σ3 H5 x u _ I5' r5 (step x H5 y5)) λ_ s6 ⟨σ6,H6,I6,q6⟩=>?_)
  refine wpAny_passesOwn hp (thn (hb _ s6 σ6 H6 _ I6 q6) λf s7 q7=>?_)
  have again:∀ {σ7:St}{H7:Hp},Inv X (pins++kr fp s5.heap) σ7 H7 s7->N σ7 H7->∃ m,m < n/\∃ i σ' H',Inv X pins σ' H' s7/\tn i s7.heap/\(∀ b ∈ fp,H' b=none)/\W i m σ' H':=λ{σ7 H7} I7 n7=>by
   obtain⟨m',hm,w7⟩:=hN σ7 H7 n7
   refine⟨m',hm,i+1,σ7,H7,I7.unpinned,T.keep _ _ _ st5 λb hb o e=>(I7.pin (b,o) (List.mem_append_right _ (List.mem_append_right _ (ek hb e)))).1,λb hb=>?_,w7⟩
   obtain⟨o,e,d⟩:=T.obj _ _ st5 b hb
   exact (I7.pin (b,o) (List.mem_append_right _ (List.mem_append_right _ (ek hb e)))).2.1
  cases f with
  | next=>obtain⟨σ7,H7,I7,n7⟩:=q7;exact again I7 n7
  | cont=>obtain⟨σ7,H7,I7,n7⟩:=q7;exact again I7 n7
  | brk=>obtain⟨σ7,H7,I7,q7⟩:=q7;exact⟨σ7,H7,I7.unpinned,q7⟩
  | ret v=>obtain⟨x7,σ7,H7,I7,r7,q7⟩:=q7;exact⟨x7,σ7,H7,I7.unpinned,r7,q7⟩
end
end L2
namespace L2
open PySem PySem.Spec PyProof.Rows
abbrev R2:=V->V->Hp->VK->Prop
noncomputable def OpR (X:Cx) (f:Value->Value->Sem Value) (r:R2):Prop:=
 ∀ (pins:List (Addr×Obj)) (s:Shared) (σ:St) (H:Hp) (x y:V) (v u:Value) (Q:VK),Inv X pins σ H s->br x v->br y u->r x y H Q->
  wpAny (model X.prog X.w) X.A (f v u) (EP X pins σ Q) X.xe s
noncomputable def UnR (X:Cx) (f:Value->Sem Value) (r:V->Hp->VK->Prop):Prop:=
 ∀ (pins:List (Addr×Obj)) (s:Shared) (σ:St) (H:Hp) (x:V) (v:Value) (Q:VK),Inv X pins σ H s->br x v->r x H Q->
  wpAny (model X.prog X.w) X.A (f v) (EP X pins σ Q) X.xe s
noncomputable def dJ (X:Cx) (f:Value) (r:List V->Hp->VK->Prop):Prop:=
 ∀ (pins:List (Addr×Obj)) (s:Shared) (σ:St) (H:Hp) (xs:List V) (us:List Value) (Q:VK),Inv X pins σ H s->bx xs us->r xs H Q->
  wpAny (model X.prog X.w) X.A (call f us) (EP X pins σ Q) X.xe s
noncomputable def Ar (X:Cx) (r:V->Hp->(Bool->Hp->Prop)->Prop):Prop:=
 ∀ (pins:List (Addr×Obj)) (s:Shared) (σ:St) (H:Hp) (x:V) (v:Value) (Q:Bool->Hp->Prop),Inv X pins σ H s->br x v->r x H Q->
  wpAny (model X.prog X.w) X.A (truthy v) (TP X pins σ Q) X.xe s
noncomputable def tOp (r:R2) (ta tb:TE):TE:=λσ H Q=>ta σ H λx H1=>tb σ H1 λy H2=>r x y H2 Q
noncomputable def tUn (r:V->Hp->VK->Prop) (ta:TE):TE:=λσ H Q=>ta σ H λx H1=>r x H1 Q
noncomputable def rI (C:Int->Int->Prop) (g:Int->Int->V):R2:=λx y H Q=>∃ i j,x=.int i/\y=.int j/\C i j/\Q (g i j) H
noncomputable def rI0 (g:Int->Int->V):R2:=λx y H Q=>∃ i j,x=.int i/\y=.int j/\Q (g i j) H
noncomputable def rU (g:Int->V):V->Hp->VK->Prop:=λx H Q=>∃ i,x=.int i/\Q (g i) H
section
variable {X:Cx}{a b c:Expr}{ta tb tc:TE}{pos:Pos}
theorem yI (ha:PE X a ta) (hb:PE X b tb) {pins:List (Addr×Obj)}{s:Shared}{σ:St}{H:Hp}{R:V->V->Hp->Prop} (I:Inv X pins σ H s)
  (h:ta σ H λx H1=>tb σ H1 λy H2=>R x y H2) {Q:Value->Shared->Prop}{f:Value->Value->Sem Value}
  (hf:∀ v u s2 x y H2,Inv X pins σ H2 s2->br x v->br y u->R x y H2->wpAny (model X.prog X.w) X.A (f v u) Q X.xe s2) :
  wpAny (model X.prog X.w) X.A (eval a X.env) (λv s₁=>wpAny (model X.prog X.w) X.A (eval b X.env) (λu s₂=>wpAny (model X.prog X.w) X.A (f v u) Q X.xe s₂) X.xe s₁) X.xe s:=by
 refine thn (ha pins s σ H _ I h) λv s1 ⟨x,H1,I1,r1,q1⟩=>?_
 refine thn (hb pins s1 σ H1 _ I1 q1) λu s2 ⟨y,H2,I2,r2,q2⟩=>?_
 exact hf v u s2 x y H2 I2 r1 r2 q2
theorem zE {op:Operator}{r:R2} (ho:OpR X (binaryOp op) r) (ha:PE X a ta) (hb:PE X b tb):PE X (.BinOp a op b pos) (tOp r ta tb):=by
 intro pins s σ H Q I h
 exact wpAny_BinOp (yI ha hb I h λv u s2 x y H2 I2 rx ry q=>ho pins s2 σ H2 x y v u Q I2 rx ry q)
theorem zg {op:UnaryOp}{r:V->Hp->VK->Prop} (ho:UnR X (unaryOp op) r) (ha:PE X a ta):PE X (.UnaryOp op a pos) (tUn r ta):=by
 intro pins s σ H Q I h
 exact UnaryOp_ (thn (ha pins s σ H _ I h) λv s1 ⟨x,H1,I1,r1,q1⟩=>ho pins s1 σ H1 x v Q I1 r1 q1)
theorem opI {f:Value->Value->Sem Value}{C:Int->Int->Prop}{g:Int->Int->Int}
  (rule:∀ (i j:Int) (t u:Tok) (s:Shared) (Q:Value->Shared->Prop) (E:Value->Shared->Prop),C i j->Q (.int (g i j) s.toks) { s with toks:=s.toks+1 }->wpAny (model X.prog X.w) X.A (f (.int i t) (.int j u)) Q E s) :
  OpR X f (rI C λi j=>.int (g i j)):=by
 intro pins s σ H x y v u Q I rx ry h
 obtain⟨i,j,rfl,rfl,hc,q⟩:=h
 obtain⟨t,rfl⟩:=rx
 obtain⟨t',rfl⟩:=ry
 exact rule i j t t' s _ _ hc ⟨.int (g i j),H,I.tok _,⟨_,rfl⟩,q⟩
theorem zu {f:Value->Value->Sem Value}{g:Int->Int->Int}
  (rule:∀ (i j:Int) (t u:Tok) (s:Shared) (Q:Value->Shared->Prop) (E:Value->Shared->Prop),Q (.int (g i j) s.toks) { s with toks:=s.toks+1 }->wpAny (model X.prog X.w) X.A (f (.int i t) (.int j u)) Q E s) :
  OpR X f (rI0 λi j=>.int (g i j)):=by
 intro pins s σ H x y v u Q I rx ry h
 obtain⟨i,j,rfl,rfl,q⟩:=h
 obtain⟨t,rfl⟩:=rx
 obtain⟨t',rfl⟩:=ry
 exact rule i j t t' s _ _ ⟨.int (g i j),H,I.tok _,⟨_,rfl⟩,q⟩
theorem wJ {f:Value->Value->Sem Value}{g:Int->Int->Bool}
  (rule:∀ (i j:Int) (t u:Tok) (s:Shared) (Q:Value->Shared->Prop) (E:Value->Shared->Prop),Q (.bool (g i j)) s->wpAny (model X.prog X.w) X.A (f (.int i t) (.int j u)) Q E s) :
  OpR X f (rI0 λi j=>.bl (g i j)):=by
 intro pins s σ H x y v u Q I rx ry h
 obtain⟨i,j,rfl,rfl,q⟩:=h
 obtain⟨t,rfl⟩:=rx
 obtain⟨t',rfl⟩:=ry
 exact rule i j t t' s _ _ ⟨.bl (g i j),H,I,rfl,q⟩
noncomputable def AF (i j:Int):Prop:=0 < j/\j < 1073741824
noncomputable def oF (i j:Int):Prop:=0<=j/\j<=1000000/\i.natAbs < 2 ^ 64
noncomputable def wZ (i j:Int):Prop:=(-(2 ^ 64) < i/\i < 2 ^ 64)\/(-(2 ^ 64) < j/\j < 2 ^ 64)
theorem wZ.ok {i j:Int} (h:wZ i j):IntMulOk i j:=by
 rcases h with⟨h1,h2⟩ | ⟨h1,h2⟩
 ·exact .of_left (intBits_le_64 h1 h2)
 ·exact .of_right (intBits_le_64 h1 h2)
theorem xz:OpR X (binaryOp .Add) (rI0 λi j=>.int (i+j)):=zu λ_ _ _ _ _ _ _ q=>add_int q
theorem xJ:OpR X (binaryOp .Sub) (rI0 λi j=>.int (i - j)):=zu λ_ _ _ _ _ _ _ q=>sub_int q
theorem vS:OpR X (binaryOp .FloorDiv) (rI AF λi j=>.int (i / j)):=opI λi j _ _ _ _ _ hc q=>by
 have h1:(0:Int) < j:=hc.1
 have h2:j < 1073741824:=hc.2
 exact floordiv_int (by lia) (by rw [Int.fdiv_eq_ediv_of_nonneg i (by lia)];exact q) (.inl (PyProof.noPylong_small (by lia)))
theorem yg:OpR X (binaryOp .Mod) (rI (λ_ j=>0 < j) λi j=>.int (i % j)):=opI λi j _ _ _ _ _ hc q=>by
 have h1:(0:Int) < j:=hc
 exact mod_int' (by lia) (by rw [Int.fmod_eq_emod_of_nonneg i (by lia)];exact q)
theorem xX:OpR X (binaryOp .Pow) (rI oF λi j=>.int (i ^ j.toNat)):=opI λ_ _ _ _ _ _ _ hc q=>pow_int_small hc.1 hc.2.1 hc.2.2 q
theorem unI {f:Value->Sem Value}{g:Int->Int}
  (rule:∀ (i:Int) (t:Tok) (s:Shared) (Q:Value->Shared->Prop) (E:Value->Shared->Prop),Q (.int (g i) s.toks) { s with toks:=s.toks+1 }->wpAny (model X.prog X.w) X.A (f (.int i t)) Q E s) :
  UnR X f (rU λi=>.int (g i)):=by
 intro pins s σ H x v Q I rx h
 obtain⟨i,rfl,q⟩:=h
 obtain⟨t,rfl⟩:=rx
 exact rule i t s _ _ ⟨.int (g i),H,I.tok _,⟨_,rfl⟩,q⟩
theorem yt:UnR X (unaryOp .USub) (rU λi=>.int (-i)):=unI λ_ _ _ _ _ q=>neg_int q
end
section
variable {X:Cx}{a b c:Expr}{ta tb tc:TE}{pos:Pos}
theorem ub {pins:List (Addr×Obj)}{σ:St}{H:Hp}{s:Shared}{Q:VK}{k k':Bool} (I:Inv X pins σ H s) (q:Q (.bl k) H) (e:k=k'):EP X pins σ Q (.bool k') s:=by
 subst e
 exact⟨.bl k,H,I,rfl,q⟩
theorem yU:OpR X (compareOp .Lt) (rI0 λi j=>.bl (decide (i < j))):=wJ λ_ _ _ _ _ _ _ q=>lt_int q
theorem yZ:OpR X (compareOp .LtE) (rI0 λi j=>.bl (decide (i<=j))):=wJ λ_ _ _ _ _ _ _ q=>le_int q
theorem zF:OpR X (compareOp .Gt) (rI0 λi j=>.bl (decide (j < i))):=wJ λ_ _ _ _ _ _ _ q=>gt_int q
theorem yL:OpR X (compareOp .GtE) (rI0 λi j=>.bl (decide (j<=i))):=wJ λ_ _ _ _ _ _ _ q=>ge_int q
theorem yn:OpR X (compareOp .Is) (λx y H Q=>y=.non/\Q (.bl (decide (x=.non))) H):=by
 intro pins s σ H x y v u Q I rx ry h
 obtain⟨rfl,q⟩:=h
 cases ry
 refine is_none_gen (ub I q ?_)
 cases x<;>first
  | (cases rx;rfl)
  | (obtain⟨t,rfl⟩:=rx;rfl)
theorem wW:OpR X (compareOp .IsNot) (λx y H Q=>y=.non/\Q (.bl (!decide (x=.non))) H):=by
 intro pins s σ H x y v u Q I rx ry h
 obtain⟨rfl,q⟩:=h
 cases ry
 refine isnot_none_gen (ub I q ?_)
 cases x<;>first
  | (cases rx;rfl)
  | (obtain⟨t,rfl⟩:=rx;rfl)
theorem aU (b:Expr) {op:CmpOp} (h:op≠.In:=by decide) (h2:op≠.NotIn:=by decide):behindInMarks op b=false:=by
 have e1:(op==CmpOp.In)=false:=by cases op<;>first | rfl | exact absurd rfl h
 have e2:(op==CmpOp.NotIn)=false:=by cases op<;>first | rfl | exact absurd rfl h2
 cases b<;>simp [behindInMarks,e1,e2]
theorem vM {op:CmpOp}{r:R2} (ho:OpR X (compareOp op) r) (ha:PE X a ta) (hb:PE X b tb) (hm:behindInMarks op b=false):PE X (.Compare a [op] [b] pos) (tOp r ta tb):=by
 intro pins s σ H Q I h
 exact wpAny_Compare1 (yI ha hb I h λv u s2 x y H2 I2 rx ry q=>ho pins s2 σ H2 x y v u Q I2 rx ry q) hm
noncomputable def yQ (t:TE):TT:=λσ H Q=>t σ H λx H'=>∃ k,x=.bl k/\Q k H'
theorem rG {op:CmpOp}{r:R2} (ho:OpR X (compareOp op) r) (ha:PE X a ta) (hb:PE X b tb) (hm:behindInMarks op b=false):PT X (.Compare a [op] [b] pos) (yQ (tOp r ta tb)):=by
 intro pins s σ H Q I h
 refine wpAny_isTrue_Compare1 (thn (ha pins s σ H _ I h) λv s1 ⟨x,H1,I1,r1,q1⟩=>thn (hb pins s1 σ H1 _ I1 q1) λu s2 ⟨y,H2,I2,r2,q2⟩=>
  thn (ho pins s2 σ H2 x y v u _ I2 r1 r2 q2) λc s3 ⟨z,H3,I3,r3,k,e,q3⟩=>?_) hm
 subst e
 cases r3
 exact wpAny_truthy_bool ⟨H3,I3,q3⟩
noncomputable def xK (r r':R2) (ta tb tc:TE):TE:=λσ H Q=>ta σ H λx H1=>tb σ H1 λy H2=>r x y H2 λz H3=>∃ k,z=.bl k/\
 (if k=true then tc σ H3 λw' H4=>r' y w' H4 Q else Q (.bl false) H3)
theorem oM {op op':CmpOp}{r r':R2} (ho:OpR X (compareOp op) r) (ho':OpR X (compareOp op') r') (ha:PE X a ta) (hb:PE X b tb) (hc:PE X c tc)
  (hm:lastMarks [op,op'] [b,c]=false:=by with_unfolding_all rfl):PE X (.Compare a [op,op'] [b,c] pos) (xK r r' ta tb tc):=by
 intro pins s σ H Q I h
 refine Compare_chain (thn (ha pins s σ H _ I h) λv s1 ⟨x,H1,I1,r1,q1⟩=>chain_link (thn (hb pins s1 σ H1 _ I1 q1) λu s2 ⟨y,H2,I2,r2,q2⟩=>
  thn (ho pins s2 σ H2 x y v u _ I2 r1 r2 q2) λd s3 ⟨z,H3,I3,r3,k,e,q3⟩=>?_)) hm
 subst e
 cases r3
 refine wpAny_truthy_bool ?_
 cases k with
 | false=>exact ite_ff ⟨.bl false,H3,I3,rfl,q3⟩
 | true=>exact ite_tt (chain_last (thn (hc pins s3 σ H3 _ I3 q3) λw' s4 ⟨z',H4,I4,r4,q4⟩=>ho' pins s4 σ H4 y z' u w' Q I4 r2 r4 q4))
noncomputable def wy (K:PySem.W.Frag) (x:V) (H:Hp) (k:Bool):Prop:=
 match x with
 | .non=>k=false
 | .bl b=>k=b
 | .int i=>k=(i != 0)
 | .str y=>y.length<=sizeLine/\k=((y.length:Int) != 0)
 | .byt y=>y.size<=sizeLine/\k=((y.size:Int) != 0)
 | .ref p=>(∃ xs,SqL K H p xs/\k=!xs.isEmpty)\/(∃ xs,SqT K H p xs/\k=!xs.isEmpty)\/∃ kvs,H p=some (.dK kvs)/\k=!kvs.isEmpty
 | _=>False
theorem ql {κ:Type}{kvs:List (κ×V)}{vs:List (κ×Value)} (r:KV kvs vs):(!vs.isEmpty)=!kvs.isEmpty:=by
 cases r<;>rfl
theorem mh {xs:List V}{its:List Value} (r:bx xs its):(!its.toArray.isEmpty)=!xs.isEmpty:=by
 cases r<;>simp
theorem je:(sizeLine:Nat) < 2 ^ 63:=by rw [sizeLine_eq];decide
theorem yy:Ar X (λx H Q=>∃ k,wy X.K x H k/\Q k H):=by
 intro pins s σ H x v Q I rx h
 obtain⟨k,e,q⟩:=h
 have hl:=je
 have hs:sizeLine=16777216:=sizeLine_eq
 cases x with
 | non=>
  cases rx
  have e':k=false:=e
  subst e'
  exact truthy_none ⟨H,I,q⟩
 | bl b=>
  cases rx
  have e':k=b:=e
  subst e'
  exact wpAny_truthy_bool ⟨H,I,q⟩
 | int i=>
  obtain⟨t,rfl⟩:=rx
  have e':k=(i != 0):=e
  subst e'
  exact PySem.P.truthy_int ⟨H,I,q⟩
 | str y=>
  obtain⟨t,rfl⟩:=rx
  obtain⟨hy,e'⟩:y.length<=sizeLine/\k=((y.length:Int) != 0):=e
  subst e'
  exact PySem.P.truthy_str (by lia) ⟨H,I.tok _,q⟩
 | byt y=>
  obtain⟨t,rfl⟩:=rx
  obtain⟨hy,e'⟩:y.size<=sizeLine/\k=((y.size:Int) != 0):=e
  subst e'
  exact PySem.W.truthy_bytes (by lia) ⟨H,I.tok _,q⟩
 | ref p=>
  cases rx
  have e':(∃ xs,SqL X.K H p xs/\k=!xs.isEmpty)\/(∃ xs,SqT X.K H p xs/\k=!xs.isEmpty)\/∃ kvs,H p=some (.dK kvs)/\k=!kvs.isEmpty:=e
  rcases e' with⟨xs,hx,e'⟩ | ⟨xs,hx,e'⟩ | ⟨kvs,hx,e'⟩
  ·subst e'
   obtain⟨its,r,pl,hz⟩:=I.list hx
   have hlen:=r.length
   exact wpAny_truthy_list pl.isList (by simp only [List.size_toArray];lia) ⟨H,I.tok _,by rw [mh r];exact q⟩
  ·subst e'
   obtain⟨its,r,pl,hz⟩:=I.tuple hx
   have hlen:=r.length
   exact truthy_tuple pl (by simp only [List.size_toArray];lia) ⟨H,I.tok _,by rw [mh r];exact q⟩
  ·subst e'
   obtain⟨hz,hS,vs,r,m⟩:kvs.length<=sizeLine/\(p==sysModules)=false/\∃ vs,KV kvs vs/\s.heap.DictOf (bN X.prog X.w) p vs:=I.hok p _ hx
   have hlen:kvs.length=vs.length:=Paired.length r
   exact wpAny_truthy_dict hS m (by lia) ⟨H,I.tok _,by rw [ql r];exact q⟩
 | _=>exact (show False from e).elim
theorem sN (ha:PE X a ta) (he:∀ whole,isTrue a X.env whole=(do let v <-whole;standAt a.pos;holding [v] (truthy v))) :
  PT X a (λσ H Q=>ta σ H λx H'=>∃ k,wy X.K x H' k/\Q k H'):=by
 intro pins s σ H Q I h
 exact isTrue_plain (thn (ha pins s σ H _ I h) λv s1 ⟨x,H1,I1,r1,q1⟩=>yy pins s1 σ H1 x v Q I1 r1 q1) (he _)
theorem qD:OpR X (binaryOp .Add) (λx y H Q=>∃ i j,x=.str i/\y=.str j/\i.length+j.length<=sizeLine/\Q (.str (i++j)) H):=by
 intro pins s σ H x y v u Q I rx ry h
 obtain⟨i,j,rfl,rfl,hz,q⟩:=h
 obtain⟨t,rfl⟩:=rx
 obtain⟨t',rfl⟩:=ry
 exact add_str (λt' tk=>⟨.str (i++j),H,I.tok _,⟨_,rfl⟩,q⟩) hz
theorem ik {x:V}{us:List Value} (r:bx [x] us):∃ u,us=[u]/\br x u:=by
 cases r with
 | cons r1 r2=>cases r2;exact⟨_,rfl,r1⟩
theorem z7 {x y:V}{us:List Value} (r:bx [x,y] us):∃ u w',us=[u,w']/\br x u/\br y w':=by
 cases r with
 | cons r1 r2=>
  cases r2 with
  | cons r3 r4=>cases r4;exact⟨_,_,rfl,r1,r3⟩
theorem tR:dJ X (.builtin "abs") (λxs H Q=>∃ i,xs=[.int i]/\Q (.int (if i < 0 then -i else i)) H):=by
 intro pins s σ H xs us Q I r h
 obtain⟨i,rfl,q⟩:=h
 obtain⟨u,rfl,t,rfl⟩:=ik r
 exact call_abs_int λu tk=>⟨.int (if i < 0 then -i else i),H,I.tok _,⟨_,rfl⟩,q⟩
theorem rN (hc:X.calm=true):dJ X (.builtin "min") (λxs H Q=>∃ i j,xs=[.int i,.int j]/\Q (.int (if j < i then j else i)) H):=by
 intro pins s σ H xs us Q I r h
 obtain⟨i,j,rfl,q⟩:=h
 obtain⟨u,w',rfl,⟨t,rfl⟩,⟨t',rfl⟩⟩:=z7 r
 refine min_two_ints (I.ok.hd hc) λh' tk k=>⟨_,H,I.kept k,?_,q⟩
 by_cases hj:j < i
 ·rw [if_pos hj,if_pos hj];exact⟨_,rfl⟩
 ·rw [if_neg hj,if_neg hj];exact⟨_,rfl⟩
theorem mL:dJ X (.type "int") (λxs H Q=>(∃ i,xs=[.int i]/\Q (.int i) H)\/∃ k,xs=[.bl k]/\Q (.int (if k then 1 else 0)) H):=by
 intro pins s σ H xs us Q I r h
 rcases h with⟨i,rfl,q⟩ | ⟨k,rfl,q⟩
 ·obtain⟨u,rfl,t,rfl⟩:=ik r
  exact call_int_int ⟨.int i,H,I,⟨_,rfl⟩,q⟩
 ·obtain⟨u,rfl,r1⟩:=ik r
  cases r1
  exact call_int_bool ⟨.int (if k then 1 else 0),H,I.tok _,⟨_,rfl⟩,q⟩
theorem nI:dJ X (.type "str") (λxs H Q=>∃ i,xs=[.int i]/\i.natAbs.log2 < 1920/\Q (.str (toString i)) H):=by
 intro pins s σ H xs us Q I r h
 obtain⟨i,rfl,hz,q⟩:=h
 obtain⟨u,rfl,t,rfl⟩:=ik r
 exact PySem.P.str_of_int hz ⟨.str _,H,I.tok _,⟨_,rfl⟩,q⟩
end
end L2
namespace L2
open PySem PySem.Spec PyProof.Rows
structure xI (h:Heap) (x dx C:Addr) (mA:Str->Option Value):Prop where
 obj:h.get? x=some (PySem.W.instObj C dx)
 ns:h.Ns1 dx mA
 ne:dx≠x
theorem sy {h:Heap}{dx:Addr}{mA:Str->Option Value} (n:h.Ns1 dx mA):∃ od,h.get? dx=some od/\∀ name,PySem.W.lookIn name od=some (mA name):=by
 obtain⟨o,es,ep,ho,hd,hk,_,hm⟩:=n
 refine⟨o,ho,λname=>?_⟩
 have e:=hm name
 unfold nsFind findBy at e
 rw [<-Array.find?_toList] at e
 unfold PySem.W.lookIn
 rw [hd]
 dsimp only
 split
 ·rename_i y q
  rw [q] at e
  exact congrArg some e
 ·rename_i q
  rw [q] at e
  have a:es.toList.any (·.refKey)=false:=by
   rw [List.any_eq_false]
   intro y hy
   obtain⟨z,t,hkey⟩:=hk y (Array.mem_toList_iff.mp hy)
   simp [DictEntry.refKey,hkey]
  have a':¬ es.toList.any (·.refKey)=true:=by rw [a];exact Bool.false_ne_true
  rw [if_neg a']
  exact congrArg some e
theorem xI.look {h:Heap}{x dx C:Addr}{mA:Str->Option Value} (I:xI h x dx C mA):∃ od,PySem.W.InstAt h x (PySem.W.instObj C dx) C (some od)/\∀ name,PySem.W.lookIn name od=some (mA name):=
 let ⟨od,ho,hl⟩:=sy I.ns
 ⟨od,⟨I.obj,rfl,rfl,ho⟩,hl⟩
section
variable {prog:Program}{w:World}{A:Around}{E:Value->Shared->Prop}{s:Shared}{K:PySem.W.Frag}{x dx C f:Addr}{mA:Str->Option Value}{name:Str}{v:Value}
end
theorem ma.some_of {v:V}{o:Option Value} (r:ma (some v) o):∃ u,o=some u/\br v u:=by
 cases o with
 | none=>exact (show False from r).elim
 | some u=>exact⟨u,rfl,r⟩
section
variable {P:Program}{w:World}{H H':Hp}{h h':Heap}{a C dx:Addr}{fs fs':List (Str×V)}
theorem wt (hok:HOk P w H h) (e:H a=some (.ins C dx fs)):∃ mA,xI h a dx C mA/\(∀ f,ma (fs.lookup f) (mA f))/\PySem.Within mA (fs.map (·.1))/\fs.length<=1000/\H dx=some (.own a):=by
 obtain⟨d,z,ne,ob,mA,n,r,q⟩:=(show cP P w H h a (.ins C dx fs) from hok a _ e)
 exact⟨mA,⟨ob,n,ne⟩,r,q,z,d⟩
end
structure Cls (K:PySem.W.Frag) (C:Addr):Prop where
 pg:PySem.W.plainGet K C Str.empty=true
 hd:PySem.W.hasDictIn K C=true
 po:PySem.W.plainOver K C=true
 sa:PySem.W.findIn K (.ref C) "__setattr__" = some (some (.builtin "object.__setattr__"))
theorem Cls.get {K:PySem.W.Frag}{C:Addr} (c:Cls K C) (f:Str):PySem.W.plainGet K C f=true:=c.pg
section
variable {X:Cx}{pins:List (Addr×Obj)}{σ:St}{H:Hp}{s:Shared}{a C dx:Addr}{fs:List (Str×V)}{f:Str}{v:V}{A:Around}{E:Value->Shared->Prop}
end
section
variable {X:Cx}{o e value:Expr}{f:Str}{pos pos' tpos:Pos}{ta tv:TE}
end
section
variable {X:Cx}{pins:List (Addr×Obj)}{σ:St}{H:Hp}{s:Shared}{A:Around}{E:Value->Shared->Prop}{Q:Value->Shared->Prop}{c:Value}{b:Bool}
inductive kY (K:PySem.W.Frag) (H:Hp):V->Value->Prop where
 | non:kY K H .non (.type "NoneType")
 | bl (x:Bool):kY K H (.bl x) (.type "bool")
 | int (i:Int):kY K H (.int i) (.type "int")
 | str (x:Str):kY K H (.str x) (.type "str")
 | flt (x:UInt64):kY K H (.flt x) (.type "float")
 | lst {a:Addr}{xs:List V} (e:H a=some (.lst xs)):kY K H (.ref a) (.type "list")
 | frz {a:Addr}{o:Obj}{xs:List V} (e:H a=some (.frz o (.lst xs))):kY K H (.ref a) (.type "list")
 | tup {a:Addr}{xs:List V} (e:H a=some (.tup xs)):kY K H (.ref a) (.type "tuple")
 | dK {a:Addr}{kvs:List (Key×V)} (e:H a=some (.dK kvs)):kY K H (.ref a) (.type "dict")
 | dT {a:Addr}{kvs:List (List Key×V)} (e:H a=some (.dT kvs)):kY K H (.ref a) (.type "dict")
 | ins {a C dx:Addr}{fs:List (Str×V)} (e:H a=some (.ins C dx fs)) (cl:Cls K C) (ha:PySem.W.findIn K (.ref C) "__class__" = some (some (.builtin "object.__class__")))
   (hn:PySem.W.specialIn K (.builtin "object.__class__") "__get__" = some (some (.builtin "getset_descriptor.__get__"))) (htk:PySem.W.takesIn K (.builtin "object.__class__")=some true)
   (hm:PySem.W.mroIn K C (.type "object")=some true):kY K H (.ref a) (.ref C)
theorem dX {x:V}{u t:Value} (I:Inv X pins σ H s) (rx:br x u) (ty:kY X.K H x t) (e:PySem.W.kitOne X.K t c=some b) (h:∀ tk,Q (.bool b) { s with toks:=tk }) :
  wpAny (model X.prog X.w) A (call (.builtin "isinstance") [u,c]) Q E s:=by
 cases ty with
 | non=>cases (show u=Value.none from rx);exact PySem.W.kia_one PySem.W.kitx_none I.kIn True.intro e (λz=>nomatch z) h
 | bl y=>cases (show u=Value.bool y from rx);exact PySem.W.kia_one PySem.W.kitx_bool I.kIn True.intro e (λz=>nomatch z) h
 | int i=>obtain⟨t,q⟩:=(show ∃ t,u=Value.int i t from rx);cases q;exact PySem.W.kia_one PySem.W.kitx_int I.kIn True.intro e (λz=>nomatch z) h
 | str y=>obtain⟨t,q⟩:=(show ∃ t,u=Value.str y t from rx);cases q;exact PySem.W.kia_one PySem.W.kitx_str I.kIn True.intro e (λz=>nomatch z) h
 | flt y=>obtain⟨t,q⟩:=(show ∃ t,u=Value.float y t from rx);cases q;exact PySem.W.kia_one PySem.W.kitx_float I.kIn True.intro e (λz=>nomatch z) h
 | @lst a xs ea=>
  cases (show u=Value.ref a from rx)
  obtain⟨_,_,n,_,h1⟩:=(show cP X.prog X.w H s.heap a (.lst xs) from I.hok a _ ea)
  exact PySem.W.kia_one PySem.W.kitx_list I.kIn ⟨_,h1,rfl⟩ e (λz=>nomatch z) h
 | @frz a ob xs ea=>
  cases (show u=Value.ref a from rx)
  obtain⟨_,_,_,n,_,h1⟩:=(show cP X.prog X.w H s.heap a (.frz ob (.lst xs)) from I.hok a _ ea)
  exact PySem.W.kia_one PySem.W.kitx_list I.kIn ⟨_,h1,rfl⟩ e (λz=>nomatch z) h
 | @tup a xs ea=>
  cases (show u=Value.ref a from rx)
  obtain⟨_,_,_,p⟩:=(show cP X.prog X.w H s.heap a (.tup xs) from I.hok a _ ea)
  obtain⟨o,h1,h2,_⟩:=p
  exact PySem.W.kia_one PySem.W.kitx_tuple I.kIn ⟨o,h1,h2⟩ e (λz=>nomatch z) h
 | @dK a kvs ea=>
  cases (show u=Value.ref a from rx)
  obtain⟨_,_,vs,_,p⟩:=(show cP X.prog X.w H s.heap a (.dK kvs) from I.hok a _ ea)
  obtain⟨o,es,ep,h1,h2,_⟩:=p
  exact PySem.W.kia_one PySem.W.kitx_dict I.kIn ⟨o,h1,h2.1⟩ e (λz=>nomatch z) h
 | @dT a kvs ea=>
  cases (show u=Value.ref a from rx)
  obtain⟨_,_,xs,_,o,es,ep,h1,h2,_⟩:=(show cP X.prog X.w H s.heap a (.dT kvs) from I.hok a _ ea)
  exact PySem.W.kia_one PySem.W.kitx_dict I.kIn ⟨o,h1,h2.1⟩ e (λz=>nomatch z) h
 | @ins a C dx fs ea cl ha hn htk hm=>
  cases (show u=Value.ref a from rx)
  obtain⟨mA,O,_⟩:=wt I.hok ea
  obtain⟨od,J,_⟩:=O.look
  exact PySem.W.kia_one (PySem.W.kitx_own (cl.get _) cl.hd ha hn htk hm) I.kIn J e (λz=>nomatch z) h
end
end L2
namespace L2
open PySem PySem.Spec PyProof.Rows
structure cZ (k:Nat) (A:Around):Prop where
 hd:A.handled=none
 dp:A.depth+3*k+5 < recursionLimit
 un:A.units+16*k+200 < cLine
 gd:A.guards=some []
theorem cZ.mono {j k:Nat}{A:Around} (r:cZ k A) (h:j<=k):cZ j A:=⟨r.hd,by have:=r.dp;lia,by have:=r.un;lia,r.gd⟩
theorem cZ.deeper {k:Nat}{A:Around} (r:cZ (k+1) A) (env:Env):cZ k (A.deeper env):=
 ⟨r.hd,by have:=r.dp;show A.depth+1+3*k+5 < _;lia,by have:=r.un;show A.units+3+16*k+200 < _;lia,r.gd⟩
theorem cZ.depth {k:Nat}{A:Around} (r:cZ k A):A.depth < recursionLimit:=by have:=r.dp;lia
theorem cZ.units {k:Nat}{A:Around} (r:cZ k A):A.units+64 < cLine:=by have:=r.un;lia
theorem cZ.units0 {k:Nat}{A:Around} (r:cZ k A):A.units < cLine:=by have:=r.un;lia
noncomputable def Au:TA:=λ_ H Q=>Q [] H
noncomputable def zP (ta:TE) (tr:TA):TA:=λσ H Q=>ta σ H λx H1=>tr σ H1 λxs H2=>Q (x::xs) H2
section
variable {X:Cx}{e:Expr}{es:List Expr}{te:TE}{t:TA}{pos:Pos}
theorem iw:PA X [] Au:=λ_ _ _ _ H Q I h=>Calls.spliced_nil ⟨[],H,I,.nil,h⟩
theorem cU (ha:PE X e te) (hr:PA X es t) (hs:starEach (e::es) X.env=(false,eval e X.env)::starEach es X.env:=by rfl):PA X (e::es) (zP te t):=by
 intro pos pins s σ H Q I h
 rw [hs]
 show wpAny _ _ (spliced ((false,eval e X.env)::backTo pos (starEach es X.env))) _ _ s
 refine Calls.spliced_cons (thn (ha pins s σ H _ I h) λu s1 ⟨x,H1,I1,r1,q1⟩=>?_)
 exact thn (hr pos pins s1 σ H1 _ I1 q1) λus s2 ⟨xs,H2,I2,r2,q2⟩=>⟨x::xs,H2,I2,.cons r1 r2,q2⟩
noncomputable def AD (t:TA):TE:=λσ H Q=>t σ H λxs H1=>xs.length<=sizeLine/\∀ p,H1 p=none->Q (.ref p) (upd H1 p (.tup xs))
noncomputable def AA (t:TA):TE:=λσ H Q=>t σ H λxs H1=>xs.length<=sizeLine/\∀ p,H1 p=none->Q (.ref p) (upd H1 p (.lst xs))
theorem nR {x1} (h:PA X es t):PE X (.Tuple es x1 pos) (AD t):=by
 intro pins s σ H Q I hq
 refine wpAny_Tuple_spliced (thn (h pos pins s σ H _ I hq) λus s1 ⟨xs,H1,I1,r,z,q⟩=>⟨by rw [<-r.length];exact z,?_⟩)
 have hf:H1 s1.heap.objs.size=none:=I1.hok.fresh (Nat.le_refl _)
 refine⟨.ref s1.heap.objs.size,upd H1 s1.heap.objs.size (.tup xs),I1.laid (t':=s1.toks) (λb u e=>Heap.get?_push_of_some _ e) (Nat.le_refl _) ?_,rfl,q _ hf⟩
 exact⟨z,us,r,iH.new _ _⟩
theorem t9 (h:PA X es t):PE X (.List es pos) (AA t):=by
 intro pins s σ H Q I hq
 refine wpAny_List_spliced (thn (h pos pins s σ H _ I hq) λus s1 ⟨xs,H1,I1,r,z,q⟩=>⟨by rw [<-r.length];exact z,?_⟩)
 have hf:H1 s1.heap.objs.size=none:=I1.hok.fresh (Nat.le_refl _)
 refine⟨.ref s1.heap.objs.size,upd H1 s1.heap.objs.size (.lst xs),I1.laid (t':=s1.toks) (λb u e=>Heap.get?_push_of_some _ e) (Nat.le_refl _) ?_,rfl,q _ hf⟩
 exact⟨z,us,0,r,Heap.get?_push_size _ rfl⟩
end
abbrev Sp:=List V->Hp->VK->XK->Prop
abbrev CXT:=List Env->Hp->Shared->XK->Value->Shared->Prop
structure wF (P:Program) (w:World) (K:PySem.W.Frag) (mg:Str->Option Value) (base:Heap) (A:Around) (outer:List Env) (s:Shared) (H:Hp):Prop where
 frames:A.frames=some outer
 mod:Mod K mg base
 bs:∀ b o,base.get? b=some o->s.heap.get? b=some o/\H b=none
 bsz:base.objs.size<=s.heap.objs.size
 funs:s.heap.FunFrames base outer
 frf:∀ b ∈ frs outer,H b=none
 hok:HOk P w H s.heap
 bare:AllBare s.gens
noncomputable def CE (outer:List Env) (P:Program) (w:World) (H:Hp) (s:Shared) (Q:VK) (u:Value) (s':Shared):Prop:=
 ∃ v H',s'.os=s.os/\AllBare s'.gens/\Un (frs outer) [] H H' s.heap s'.heap/\HOk P w H' s'.heap/\br v u/\Q v H'
noncomputable def CR (CX:CXT) (outer:List Env) (P:Program) (w:World) (H:Hp) (s:Shared) (Q:VK) (E:XK) (r:Result) (s':Shared):Prop:=
 match r with
 | .ok (.ret u)=>CE outer P w H s Q u s'
 | .ok _=>False
 | .error e=>CX outer H s E e s'
structure bD (P:Program) (w:World) (K:PySem.W.Frag) (mg:Str->Option Value) (base:Heap) (CX:CXT) (k:Nat) (f:Addr) (fd:FuncData) (ps:List Str) (sp:Sp):Prop where
 len:∀ vs H Q E,sp vs H Q E->vs.length=ps.length
 run:∀ (A:Around) (outer:List Env) (s:Shared) (H:Hp) (args:Args) (us:List Value) (vs:List V) (Q:VK) (E:XK),cZ k A->wF P w K mg base A outer s H->BindsTo s fd args (ps.zip us)->bx vs us->sp vs H Q E->
  codeAny (model P w) A (.call (.ref f) args) (CR CX outer P w H s Q E) s
theorem bD.mono {P:Program}{w:World}{K:PySem.W.Frag}{mg:Str->Option Value}{base:Heap}{CX:CXT}{j k:Nat}{f:Addr}{fd:FuncData}{ps:List Str}{sp:Sp} (F:bD P w K mg base CX j f fd ps sp) (h:j<=k) :
  bD P w K mg base CX k f fd ps sp:=⟨F.len,λA outer s H args us vs Q E hr=>F.run A outer s H args us vs Q E (hr.mono h)⟩
section
variable {X:Cx}{pins:List (Addr×Obj)}{σ:St}{H:Hp}{s s':Shared}
theorem Inv.env0 (I:Inv X pins σ H s):wF X.prog X.w X.K X.mg X.base X.A X.stack s H:=
 ⟨I.ok.frames,I.ok.mod,I.bs,Nat.le_trans I.ok.bsz I.sz,I.stack,I.stkFree,I.hok,I.bare⟩
theorem Inv.after {Q:VK}{u:Value} (I:Inv X pins σ H s) (h:CE X.stack X.prog X.w H s Q u s'):EP X pins σ Q u s':=by
 obtain⟨v,H',os,bare,un,hok,r,q⟩:=h
 obtain⟨hh,g,d,t,os'⟩:=s'
 obtain rfl:os'=s.os:=os
 exact⟨v,H',I.call (h':=hh) (g':=g) (d':=d) (t':=t) (ch:=[]) un hok bare (λb z=>absurd z (by simp)),r,q⟩
end
noncomputable def yY (sp:Sp) (dvs:List V) (E:XK) (t:TA):TE:=λσ H Q=>t σ H λvs H1=>sp (vs++dvs) H1 Q E
noncomputable def cw (K:PySem.W.Frag) (fd:FuncData) (ps:List Str) (ds:List Value):Prop:=
 ∀ (s:Shared) (us:List Value),K.In s.heap->(us++ds).length=ps.length->BindsTo s fd ⟨us,[]⟩ (ps.zip (us++ds))
theorem cw.all {K:PySem.W.Frag}{fd:FuncData}{ps:List Str} (h:∀ us:List Value,us.length=ps.length->bindArgs fd ⟨us,[]⟩=pure (ps.zip us)):cw K fd ps []:=λs us _ hl=>by
 rw [List.append_nil] at hl ⊢
 exact .of_eq (h us hl)
noncomputable def nr (CX:CXT) (X:Cx) (E:XK):Prop:=∀ (pins:List (Addr×Obj)) (σ:St) (H:Hp) (s:Shared) (e:Value) (s':Shared),Inv X pins σ H s->CX X.stack H s E e s'->X.xe e s'
section
variable {X:Cx}{CX:CXT}{k:Nat}{f C:Addr}{fd:FuncData}{ps:List Str}{sp:Sp}{dvs:List V}{ds:List Value}{E:XK}{x m:Str}{p pos apos:Pos}{e o:Expr}{es:List Expr}{ta:TE}{t:TA}
theorem ye {pins:List (Addr×Obj)}{σ:St}{H:Hp}{s:Shared}{Q:VK}{us:List Value}{vs:List V} (F:bD X.prog X.w X.K X.mg X.base CX k f fd ps sp) (hr:cZ k X.A) (hb:cw X.K fd ps ds) (hd:bx dvs ds) (hx:nr CX X E)
  (I:Inv X pins σ H s) (r:bx vs us) (h:sp (vs++dvs) H Q E):wpAny (model X.prog X.w) X.A (call (.ref f) us) (EP X pins σ Q) X.xe s:=by
 have r2:bx (vs++dvs) (us++ds):=r.append hd
 have hl:(us++ds).length=ps.length:=by rw [<-r2.length];exact F.len _ _ _ _ h
 refine wpAny_call (codeAny_mono (F.run X.A X.stack s H ⟨us,[]⟩ (us++ds) (vs++dvs) Q E hr I.env0 (hb s us I.kIn hl) r2 h) λr s' hq=>?_)
 cases r with
 | error e=>exact hx pins σ H s e s' I hq
 | ok fl=>
  cases fl with
  | ret u=>exact I.after hq
  | next=>exact False.elim hq
  | brk=>exact False.elim hq
  | cont=>exact False.elim hq
theorem qK (F:bD X.prog X.w X.K X.mg X.base CX k f fd ps sp) (hr:cZ k X.A) (hg:Gl X x) (hm:X.mg x=some (.ref f)) (hk:PySem.W.keepIn X.K (.ref f)=true) (hb:cw X.K fd ps ds) (hd:bx dvs ds) (hx:nr CX X E)
  (ha:PA X (e::es) t) (hdb:(x==("__debug__" : Str))=false:=by decide) (he:starEach (e::es) X.env=(false,eval e X.env)::starEach es X.env:=by rfl) (hpl:(backTo pos (starEach es X.env)).any (·.1)=false:=by rfl) :
  PE X (.Call (.Name x p) (e::es) [] pos) (yY sp dvs E t):=by
 intro pins s σ H Q I h
 refine wpAny_Call_Name_kw (li I hg hm ?_ hdb)
 refine PySem.W.callWith_K (h₀:=X.base) I.ok.mod.kin hk (thn (ha pos pins s σ H _ I h) λus s1 ⟨vs,H1,I1,r,q⟩=>⟨I1.kIn,?_⟩) he hpl
 exact ye F hr hb hd hx I1 r q
end
section
variable {X:Cx}{CX:CXT}{k:Nat}{f C:Addr}{fd:FuncData}{ps ks:List Str}{sp:Sp}{E:XK}{x m:Str}{p pos apos kpos:Pos}{e o:Expr}{es:List Expr}{kws:List Keyword}{te ta:TE}{t tk:TA}{nm:Option Str}
variable {g:List Value->List Value->List Value}{gV:List V->List V->List V}
end
structure bp (N P:List Str) (sc:Scope):Prop where
 kind:sc.kind=.function
 co:sc.isCoroutine=false
 gen:sc.isGenerator=false
 nd:N.Nodup
 pre:N.take P.length=P
 par:∀ x ∈ P,sc.names.lookup x=some .local\/sc.names.lookup x=some .cell
 nofree:∀ y ∈ sc.names,y.2≠.free
theorem mW {kindOf:Str->Option NameKind}{x:Str}:∀ {binds:List (Str×Value)}{m:Str->Option Value},(∀ v,(x,v) ∉ binds)->bindL kindOf binds m x=m x
 | [],_,_=>rfl
 | (n,v)::r,m,h=>by
  unfold bindL
  rw [mW λw hw=>h w (List.mem_cons_of_mem _ hw)]
  split
  ·have:x≠n:=by rintro rfl;exact h v List.mem_cons_self
   simp [this]
  ·rfl
theorem mS {kindOf:Str->Option NameKind}{x:Str}:∀ {binds:List (Str×Value)}{m:Str->Option Value},(∀ v,(x,v) ∉ binds)->bindC kindOf binds m x=m x
 | [],_,_=>rfl
 | (n,v)::r,m,h=>by
  unfold bindC
  rw [mS λw hw=>h w (List.mem_cons_of_mem _ hw)]
  split
  ·rfl
  ·have:x≠n:=by rintro rfl;exact h v List.mem_cons_self
   simp [this]
theorem mT {kindOf:Str->Option NameKind}{x:Str}{v:Value}:∀ {P:List Str}{vs:List Value}{i:Nat}{m:Str->Option Value},P.Nodup->P[i]?=some x->vs[i]?=some v->kindOf x=some .local->
  bindL kindOf (P.zip vs) m x=some v
 | [],_,_,_,_,h,_,_=>by simp at h
 | _::_,[],_,_,_,_,h,_=>by simp at h
 | p::P,w::vs,0,m,nd,h1,h2,hk=>by
  simp at h1 h2;subst h1;subst h2
  show bindL kindOf ((p,w)::P.zip vs) m p=_
  unfold bindL
  rw [mW λv hv=>(List.nodup_cons.mp nd).1 (List.of_mem_zip hv).1,if_pos hk]
  simp
 | p::P,w::vs,i+1,m,nd,h1,h2,hk=>by
  show bindL kindOf ((p,w)::P.zip vs) m x=_
  unfold bindL
  exact mT (i:=i) (List.nodup_cons.mp nd).2 (by simpa using h1) (by simpa using h2) hk
theorem mO {kindOf:Str->Option NameKind}{x:Str}{v:Value}:∀ {P:List Str}{vs:List Value}{i:Nat}{m:Str->Option Value},P.Nodup->P[i]?=some x->vs[i]?=some v->kindOf x≠some .local->
  bindC kindOf (P.zip vs) m x=some v
 | [],_,_,_,_,h,_,_=>by simp at h
 | _::_,[],_,_,_,_,h,_=>by simp at h
 | p::P,w::vs,0,m,nd,h1,h2,hk=>by
  simp at h1 h2;subst h1;subst h2
  show bindC kindOf ((p,w)::P.zip vs) m p=_
  unfold bindC
  rw [mS λv hv=>(List.nodup_cons.mp nd).1 (List.of_mem_zip hv).1,if_neg hk]
  simp
 | p::P,w::vs,i+1,m,nd,h1,h2,hk=>by
  show bindC kindOf ((p,w)::P.zip vs) m x=_
  unfold bindC
  exact mO (i:=i) (List.nodup_cons.mp nd).2 (by simpa using h1) (by simpa using h2) hk
noncomputable def iE (N:List Str) (vs:List V):St:=vs.map some++List.replicate (N.length - vs.length) none
noncomputable def ir (CX:CXT) (P:Program) (w:World) (K:PySem.W.Frag) (mg:Str->Option Value) (base:Heap) (N:List Str) (qual:Str) (scope:Scope) (f:Addr) (cd:Value) (A:Around) (outer:List Env) (s:Shared) (H:Hp) (E:XK):Cx where
 prog:=P
 w:=w
 K:=K
 mg:=mg
 base:=base
 A:=A.deeper (envOfC qual scope s.heap.objs.size f cd)
 N:=N
 s₀:=s
 H₀:=H
 env:=envOfC qual scope s.heap.objs.size f cd
 outer:=outer
 stack:=envOfC qual scope s.heap.objs.size f cd::outer
 ex:=[]
 calm:=true
 fn:=λ_=>true
 pn:=[]
 xe:=λe s'=>wpAny (model P w) (A.deeper (envOfC qual scope s.heap.objs.size f cd)) (leaving (envOfC qual scope s.heap.objs.size f cd) e) (λ_ s''=>CX outer H s E e s'') (λe' s''=>CX outer H s E e' s'') s'
theorem oR {sc:Scope}{n:Nat}{x:Str} (h:sc.names.lookup x=some .cell):∃ c,(cellsFrom n sc.names []).lookup x=some c:=by
 have q:=PySem.W.cellsFrom_some sc.names n [] (.inl h)
 exact Option.isSome_iff_exists.mp q
theorem sh {CX:CXT}{P:Program}{w:World}{K:PySem.W.Frag}{mg:Str->Option Value}{base:Heap}{N ps:List Str}{qual:Str}{scope:Scope}{f:Addr}{cd:Value}{A:Around}{outer:List Env}{s s1:Shared}{H:Hp}{E:XK}{us:List Value}{vs:List V}
  (S:bp N ps scope) (hd:A.handled=none) (e0:wF P w K mg base A outer s H) (hl:vs.length=ps.length) (r:bx vs us)
  (x:InCallC s s.heap.objs.size (bindL (envOfC qual scope s.heap.objs.size f cd).kindOf (ps.zip us) λ_=>none) (cellsFrom (s.heap.objs.size+1) scope.names []) (bindC (envOfC qual scope s.heap.objs.size f cd).kindOf (ps.zip us) λ_=>none) s1) :
  Inv (ir CX P w K mg base N qual scope f cd A outer s H E) [] (iE N vs) H s1:=by
 have hpl:ps.length<=N.length:=by have:=congrArg List.length S.pre;rw [List.length_take] at this;lia
 obtain⟨h1,tk,rfl,hk⟩:=x.done
 have noA:∀ b:Addr,b ∉ (ir CX P w K mg base N qual scope f cd A outer s H E).ex:=λb z=>absurd (show b ∈ ([]:List Addr) from z) (by simp)
 refine⟨⟨e0.mod,S.kind,rfl,rfl,Nat.le_refl _,λy z c h1 h2=>?_,λy hy=>?_,λy c _ h=>?_,λ_=>hd,Around.frames_deeper e0.frames,.inr ⟨rfl,rfl⟩,λb z=>absurd z (noA b),e0.bs,e0.bsz,λb _ _=>noA b,λb z=>absurd z (noA b),e0.funs,e0.frf⟩,
  rfl,e0.bare,Un.kept hk,⟨_,x.toInCall.ns,λi y v h1 h2 h3=>?_⟩,λy c h=>⟨_,x.cell y c h⟩,e0.hok.fresh (Nat.le_refl _),λy c h=>?_,λp hp=>absurd (show p ∈ ([]:List (Addr×Obj)) from hp) (by simp),e0.hok.kept hk,?_⟩
 ·exact name_of_addr x.apart (PySem.mem_of_lookup h1) (PySem.mem_of_lookup h2)
 ·have hy:scope.names.lookup y=some .cell\/scope.names.lookup y=some .free:=hy
  rcases hy with hy | hy
  ·exact oR hy
  ·exact absurd rfl (S.nofree _ (PySem.mem_of_lookup hy))
 ·exact Nat.le_of_lt (x.above y c (PySem.mem_of_lookup h))
 ·have hi:i < vs.length:=by
   unfold iE at h2
   by_cases hi:i < vs.length
   ·exact hi
   ·rw [List.getElem?_append_right (by simpa using hi)] at h2
    rw [List.getElem?_replicate] at h2
    split at h2<;>cases h2
  have ha:vs[i]?=some v:=by
   unfold iE at h2
   rw [List.getElem?_append_left (by simpa using hi),List.getElem?_map] at h2
   cases e:vs[i]? with
   | none=>rw [e] at h2;cases h2
   | some a=>rw [e] at h2;cases h2;rfl
  obtain⟨u,hu,rv⟩:=r.get ha
  have hp:ps[i]?=some y:=by
   rw [<-S.pre,List.getElem?_take_of_lt (by lia)];exact h1
  have ndP:ps.Nodup:=by rw [<-S.pre];exact S.nd.sublist (List.take_sublist _ _)
  refine⟨u,rv,?_⟩
  rcases S.par y (List.mem_of_getElem? hp) with k | k
  ·exact .inl ⟨k,mT ndP hp hu k⟩
  ·obtain⟨c,e⟩:=oR (n:=s.heap.objs.size+1) k
   refine .inr ⟨.inl k,c,e,?_⟩
   have q:=x.cell y c e
   rw [mO ndP hp hu (by show scope.names.lookup y≠_;rw [k];decide)] at q
   exact q
 ·exact e0.hok.fresh (Nat.le_of_lt (x.above y c (PySem.mem_of_lookup h)))
 ·unfold iE
  show _=N.length
  rw [List.length_append,List.length_map,List.length_replicate]
  lia
theorem xh {CX:CXT}{P:Program}{w:World}{K:PySem.W.Frag}{mg:Str->Option Value}{base:Heap}{k:Nat}{f:Addr}{name qual:Str}{params:Arguments}{body:List Stmt}{scope:Scope}{dV kV doc pm cdv ct oc:Value}{an od:Option Addr}
  {osl:Array (Option Value)}{N ps:List Str}{sp:Sp} (lk:K.lookup f=some ⟨oc,od,.func (PySem.W.fnOf name qual params body scope dV kV doc pm an cdv ct),osl⟩) (hcd:PySem.W.codeIn K cdv qual=true) (S:bp N ps scope)
  (len:∀ vs H Q E,sp vs H Q E->vs.length=ps.length)
  (hbody:∀ (A:Around) (outer:List Env) (s:Shared) (H:Hp) (vs:List V) (Q:VK) (E:XK),cZ k (A.deeper (envOfC qual scope s.heap.objs.size f cdv))->sp vs H Q E->
    ∃ t,PSs (ir CX P w K mg base N qual scope f cdv A outer s H E) body t/\t { nx:=λ_ H'=>Q .non H',rt:=Q } (iE N vs) H) :
  bD P w K mg base CX (k+1) f (PySem.W.fnOf name qual params body scope dV kV doc pm an cdv ct) ps sp:=by
 refine⟨len,λA outer s H args us vs Q E hr e0 hb r hsp=>?_⟩
 have hl:=len _ _ _ _ hsp
 have KX:K.In s.heap:=e0.mod.kin.keeps λb o e=>(e0.bs b o e).1
 have lim:s.heap.NoLimit:=e0.mod.nolimit.keeps λb o e=>(e0.bs b o e).1
 have hkind:∀ y ∈ ps.zip us,scope.names.lookup y.1=some .local\/(scope.names.lookup y.1=some .cell/\((cellsFrom (s.heap.objs.size+1) scope.names []).lookup y.1).isSome=true):=λ⟨n,v⟩ hy=>by
  rcases S.par n (List.of_mem_zip hy).1 with q | q
  ·exact .inl q
  ·exact .inr ⟨q,PySem.W.cellsFrom_some _ _ _ (.inl q)⟩
 refine codeAny_call_function hr.depth (KX _ _ lk) rfl S.co S.gen rfl (PySem.W.codeRec_of KX hcd) (hb _ _ _ _ ?_)
 refine wpAny_newFunctionEnv_cells S.kind hkind λenv he s1 x=>?_
 subst he
 refine⟨lim.keeps x.toInCall.keep,codeAny_func ?_⟩
 obtain⟨t,ht,hq⟩:=hbody A outer s H vs Q E (hr.deeper _) hsp
 have I:Inv (ir CX P w K mg base N qual scope f cdv A outer s H E) [] (iE N vs) H s1:=sh S hr.hd e0 hl r x
 refine wpAny_mono (ht [] s1 (iE N vs) H _ I hq) (λfl s' hs=>?_) λe s' hs=>hs
 have fin:∀ {σ':St}{H':Hp}{v:V}{u:Value},Inv (ir CX P w K mg base N qual scope f cdv A outer s H E) [] σ' H' s'->br v u->Q v H'->CE outer P w H s Q u s':=
  λ{σ' H' v u} J rv q=>⟨v,H',J.os,J.bare,J.base,J.hok,rv,q⟩
 cases fl with
 | ret u=>
  obtain⟨v,σ',H',J,rv,q⟩:=hs
  exact fin J rv q
 | next=>
  obtain⟨σ',H',J,q⟩:=hs
  exact fin (v:=V.non) (u:=Value.none) J rfl q
 | brk=>
  obtain⟨_,_,_,q⟩:=hs
  exact False.elim q
 | cont=>
  obtain⟨_,_,_,q⟩:=hs
  exact False.elim q
end L2
namespace L2
open PySem PySem.Spec PyProof.Rows
section
variable {X:Cx}{x:Str}{p pos:Pos}{e:Expr}{es:List Expr}{t:TA}{id T:String}{r:List V->Hp->VK->Prop}
noncomputable def tCB (r:List V->Hp->VK->Prop) (t:TA):TE:=λσ H Q=>t σ H λvs H1=>r vs H1 Q
theorem jq (hc:dJ X (.builtin id) r) (hg:Gl X x) (hm:X.mg x=none) (hv:bootBuiltins x=some (.builtin id)) (ha:PA X (e::es) t) (hn:x≠"__name__":=by decide) (hdb:(x==("__debug__" : Str))=false:=by decide)
  (he:starEach (e::es) X.env=(false,eval e X.env)::starEach es X.env:=by rfl) (hpl:(backTo pos (starEach es X.env)).any (·.1)=false:=by rfl):PE X (.Call (.Name x p) (e::es) [] pos) (tCB r t):=by
 intro pins s σ H Q I h
 refine wpAny_Call_Name_kw (ol I hg hm hv ?_ hn hdb)
 exact PyProof.Rows.callWith_builtin1 (thn (ha pos pins s σ H _ I h) λus s1 ⟨vs,H1,I1,r1,q1⟩=>hc pins s1 σ H1 vs us Q I1 r1 q1) he hpl
theorem kn (hc:dJ X (.type T) r) (hg:Gl X x) (hm:X.mg x=none) (hv:bootBuiltins x=some (.type T)) (ha:PA X (e::es) t) (hn:x≠"__name__":=by decide) (hdb:(x==("__debug__" : Str))=false:=by decide)
  (he:starEach (e::es) X.env=(false,eval e X.env)::starEach es X.env:=by rfl) (hpl:(backTo pos (starEach es X.env)).any (·.1)=false:=by rfl):PE X (.Call (.Name x p) (e::es) [] pos) (tCB r t):=by
 intro pins s σ H Q I h
 refine wpAny_Call_Name_kw (ol I hg hm hv ?_ hn hdb)
 exact PyProof.Rows.callWith_type1 (thn (ha pos pins s σ H _ I h) λus s1 ⟨vs,H1,I1,r1,q1⟩=>hc pins s1 σ H1 vs us Q I1 r1 q1) he hpl
end
end L2
namespace HT
open PySem PyProof.Rows
section
open PySem.SeqAt
open PySem.AutoSeq1 (wpAny_loadPart')
open PySem.MeetsSeq PySem.MeetsSeq2 PySem.MeetsSeq3
end
section
variable {prog:Program}{w:World}{A:Around}{E:Value->Shared->Prop}{s:Shared}
theorem cat_tup {t b:Addr}{vs ws:List Value}{Q:Value->Shared->Prop} (ht:IsTup s.heap t vs.toArray) (hb:IsTup s.heap b ws.toArray) (hv:vs≠[])
  (h1:ws=[]->Q (.ref t) s) (h2:ws≠[]->Q (.ref s.heap.objs.size) { s with heap:=s.heap.push { cls:=.type "tuple",data:=.seq (vs++ws).toArray } })
  (hsz:vs.length+ws.length<=sizeLine):wpAny (model prog w) A (binaryOp .Add (.ref t) (.ref b)) Q E s:=by
 obtain⟨⟨cls,dd,data,sl⟩,ho,hc,n,hd⟩:=id ht
 obtain⟨⟨cls2,dd2,data2,sl2⟩,ho2,hc2,n2,hd2⟩:=id hb
 simp only at hc hd hc2 hd2
 subst hc hd hc2 hd2
 have e:vs.toArray++ws.toArray=(vs++ws).toArray:=by simp
 by_cases hw:ws=[]
 ·exact concat_meets ⟨_,ho,rfl⟩ ⟨_,ho2,rfl⟩ noFill_tuple_add seq_tuple_add PySem.F.slot_tuple_add PySem.F.entry_tuple_add (PySem.F.args_tuple_add_2 _ _)
   (tuple_addW1 t b vs.toArray ws.toArray n n2 dd dd2 sl sl2 (by simpa using hv) (by simp [hw])) ⟨ho,ho2,h1 hw⟩
 ·refine concat_meets ⟨_,ho,rfl⟩ ⟨_,ho2,rfl⟩ noFill_tuple_add seq_tuple_add PySem.F.slot_tuple_add PySem.F.entry_tuple_add (PySem.F.args_tuple_add_2 _ _)
   (tuple_addW2 t b vs.toArray ws.toArray n n2 dd dd2 sl sl2 (by simpa using hv) (by simpa using hw) (by rw [List.size_toArray,List.size_toArray];exact hsz)) ⟨ho,ho2,?_⟩
  rw [e]
  exact h2 hw
noncomputable def sIx (n d:Nat):Option Int->Nat
 | none=>d
 | some v=>if v < 0 then (v+(n:Int)).toNat else min v.toNat n
end
end HT
namespace L2
open PySem PySem.Spec PyProof.Rows
abbrev TO:=St->Hp->(Option Int->Hp->Prop)->Prop
noncomputable def PO (X:Cx) (e:Option Expr) (t:TO):Prop:=
 ∀ (pins:List (Addr×Obj)) (s:Shared) (σ:St) (H:Hp) (Q:Option Int->Hp->Prop),Inv X pins σ H s->t σ H Q->
  wpAny (model X.prog X.w) X.A (evalPart e X.env) (λu s'=>∃ o H',Inv X pins σ H' s'/\IsPart u o/\Q o H') X.xe s
noncomputable def wc:TO:=λ_ H Q=>Q none H
noncomputable def zA (t:TE):TO:=λσ H Q=>t σ H λx H1=>∃ i,x=.int i/\Q (some i) H1
section
variable {X:Cx}{e:Expr}{te:TE}{lo hi:Option Expr}{tl th:TO}{pos p2:Pos}
theorem vh:PO X none wc:=by
 intro pins s σ H Q I h
 rw [evalPart_none]
 exact wpAny_pure ⟨none,H,I,.none,h⟩
theorem vR (h:PE X e te):PO X (some e) (zA te):=by
 intro pins s σ H Q I hw
 rw [evalPart_some]
 refine thn (h pins s σ H _ I hw) λu s1 ⟨x,H1,I1,r1,q1⟩=>?_
 obtain⟨i,rfl,q⟩:=q1
 obtain⟨t,rfl⟩:=r1
 exact⟨some i,H1,I1,.int i t,q⟩
noncomputable def SlR (X:Cx) (r:V->Option Int->Option Int->Hp->VK->Prop):Prop:=
 ∀ (pins:List (Addr×Obj)) (s:Shared) (σ:St) (H:Hp) (x:V) (v vl vu:Value) (lo hi:Option Int) (sl:Addr) (Q:VK),Inv X pins σ H s->br x v->s.heap.IsSliceOf sl vl vu .none->IsPart vl lo->IsPart vu hi->r x lo hi H Q->
  ∃ T id,typeLookup (.type T) "__getitem__" = pure (some (.builtin id))/\s.TypeIs v T/\wpAny (model X.prog X.w) X.A (getItem v (.ref sl)) (EP X pins σ Q) X.xe s
noncomputable def tSl (r:V->Option Int->Option Int->Hp->VK->Prop) (te:TE) (tl th:TO):TE:=λσ H Q=>te σ H λx H1=>tl σ H1 λl H2=>th σ H2 λu H3=>r x l u H3 Q
theorem tV {r:V->Option Int->Option Int->Hp->VK->Prop} (hr:SlR X r) (he:PE X e te) (hl:PO X lo tl) (hu:PO X hi th):PE X (.Subscript e (.Slice lo hi none p2) pos) (tSl r te tl th):=by
 intro pins s σ H Q I h
 refine Subscript_ (thn (he pins s σ H _ I h) λv s1 ⟨x,H1,I1,r1,q1⟩=>?_)
 refine wpAny_Slice (thn (hl pins s1 σ H1 _ I1 q1) λvl s2 ⟨l,H2,I2,pl,q2⟩=>thn (hu pins s2 σ H2 _ I2 q2) λvu s3 ⟨u,H3,I3,pu,q3⟩=>?_)
 rw [evalPart_none]
 refine wpAny_pure ?_
 have I4:Inv X pins σ H3 { s3 with heap:=s3.heap.push { cls:=.type "slice",data:=.fields #[vl,vu,.none] } }:=I3.kept (t':=s3.toks) λb ob q=>Heap.get?_push_of_some _ q
 obtain⟨T,id,hT,ht,hg⟩:=hr pins { s3 with heap:=s3.heap.push { cls:=.type "slice",data:=.fields #[vl,vu,.none] } } σ H3 x v vl vu l u s3.heap.objs.size Q I4 r1 (Heap.IsSliceOf.new ..) pl pu q3
 show wpAny (model X.prog X.w) X.A (subscriptTail e (.Slice lo hi none p2) v (.ref s3.heap.objs.size)) (EP X pins σ Q) X.xe { s3 with heap:=s3.heap.push { cls:=.type "slice",data:=.fields #[vl,vu,.none] } }
 exact tail_any (ops:=[.ref s3.heap.objs.size,v]) ht hT hg (by with_unfolding_all rfl)
noncomputable def ze (K:PySem.W.Frag):R2:=λx y H Q=>∃ a b xs ys,x=.ref a/\y=.ref b/\SqT K H a xs/\SqT K H b ys/\xs≠[]/\xs.length+ys.length<=sizeLine/\
 (ys=[]->Q (.ref a) H)/\(ys≠[]->∀ p,H p=none->Q (.ref p) (upd H p (.tup (xs++ys))))
theorem bx.nil_iff {xs:List V}{us:List Value} (r:bx xs us):us=[]↔xs=[]:=by
 cases r with
 | nil=>simp
 | cons _ _=>simp
theorem wL:OpR X (binaryOp .Add) (ze X.K):=by
 intro pins s σ H x y v u Q I rx ry h
 obtain⟨a,b,xs,ys,rfl,rfl,ha,hb,hx,hz,q1,q2⟩:=h
 cases rx
 cases ry
 obtain⟨its,r1,p1,_⟩:=I.tuple ha
 obtain⟨its2,r2,p2,_⟩:=I.tuple hb
 refine HT.cat_tup p1 p2 (λz=>hx (r1.nil_iff.mp z)) (λz=>⟨.ref a,H,I,rfl,q1 (r2.nil_iff.mp z)⟩) (λz=>?_) (by rw [<-r1.length,<-r2.length];exact hz)
 refine⟨.ref s.heap.objs.size,_,I.laid (t':=s.toks) (o:=.tup (xs++ys)) (λb ob q=>Heap.get?_push_of_some _ q) (Nat.le_refl _) ?_,rfl,q2 (λw=>z (r2.nil_iff.mpr w)) _ (I.hok.fresh (Nat.le_refl _))⟩
 exact⟨by rw [List.length_append];exact hz,_,r1.append r2,iH.new _ _⟩
end
end L2
namespace L2
open PySem PySem.Spec PyProof.Rows
noncomputable def ixN (n:Nat) (i:Int):Option Nat:=if 0<=i then (if i < n then some i.toNat else none) else if -(n:Int)<=i then some (i+n).toNat else none
noncomputable def atI {α:Type} (xs:List α) (i:Int):Option α:=(ixN xs.length i).bind λj=>xs[j]?
theorem rh {n:Nat}{i:Int}{j:Nat} (h:ixN n i=some j):seqIndex? i n=some j/\j < n/\-(n:Int)<=i/\i < n:=by
 unfold ixN at h
 by_cases h0:0<=i
 ·rw [if_pos h0] at h
  by_cases h1:i < n
  ·rw [if_pos h1] at h
   have e:i.toNat=j:=Option.some.inj h
   exact⟨by rw [seqIndex_of h0 h1,e],by lia,by lia,h1⟩
  ·rw [if_neg h1] at h;cases h
 ·rw [if_neg h0] at h
  by_cases h1:-(n:Int)<=i
  ·rw [if_pos h1] at h
   have e:(i+n).toNat=j:=Option.some.inj h
   exact⟨by rw [seqIndex_neg (by lia) h1,e],by lia,h1,by lia⟩
  ·rw [if_neg h1] at h;cases h
theorem nQ {α:Type}{xs:List α}{i:Int}{v:α} (h:atI xs i=some v):∃ j,seqIndex? i xs.length=some j/\xs[j]?=some v/\j < xs.length/\-(xs.length:Int)<=i/\i < xs.length:=by
 unfold atI at h
 cases e:ixN xs.length i with
 | none=>rw [e] at h;cases h
 | some j=>
  rw [e] at h
  obtain⟨h1,h2,h3,h4⟩:=rh e
  exact⟨j,h1,h,h2,h3,h4⟩
theorem iT {α:Type}{xs:List α}{j:Nat}{v:α} (h:xs[j]?=some v):atI xs (j:Int)=some v:=by
 have hj:j < xs.length:=(List.getElem?_eq_some_iff.mp h).1
 have e:ixN xs.length (j:Int)=some j:=by
  unfold ixN
  rw [if_pos (by lia),if_pos (by lia)];simp
 unfold atI;rw [e];exact h
theorem pb {α:Type} (xs:List α) (v:α):atI (xs++[v]) (-1)=some v:=by
 have hl:(xs++[v]).length=xs.length+1:=by simp
 have e:ixN (xs++[v]).length (-1)=some xs.length:=by
  unfold ixN
  rw [hl,if_neg (by decide),if_pos (by lia)]
  congr 1
  lia
 unfold atI
 rw [e]
 show (xs++[v])[xs.length]?=some v
 simp
noncomputable def qX (b:Expr):Prop:=∀ o i,subscripted b false o i=operate [o,i] (getItem o i)
noncomputable def IxR (X:Cx) (r:R2):Prop:=
 ∀ (value slice:Expr) (pins:List (Addr×Obj)) (s:Shared) (σ:St) (H:Hp) (x y:V) (v u:Value) (Q:VK),Inv X pins σ H s->br x v->br y u->r x y H Q->
  subscripted slice false v u=operate [v,u] (getItem v u)->wpAny (model X.prog X.w) X.A (subscriptTail value slice v u) (EP X pins σ Q) X.xe s
noncomputable def MtR (X:Cx) (id:String) (r:V->List V->Hp->VK->Prop):Prop:=
 ∀ (pins:List (Addr×Obj)) (s:Shared) (σ:St) (H:Hp) (x:V) (xs:List V) (v:Value) (us:List Value) (Q:VK),Inv X pins σ H s->br x v->bx xs us->r x xs H Q->
  wpAny (model X.prog X.w) X.A (call (.builtin id) (v::us)) (EP X pins σ Q) X.xe s
section
variable {X:Cx}{a b:Expr}{ta tb:TE}{pos:Pos}
theorem IxR.or {r r':R2} (h:IxR X r) (h':IxR X r'):IxR X (λx y H Q=>r x y H Q\/r' x y H Q):=by
 intro value slice pins s σ H x y v u Q I rx ry q hs
 rcases q with q | q
 ·exact h value slice pins s σ H x y v u Q I rx ry q hs
 ·exact h' value slice pins s σ H x y v u Q I rx ry q hs
theorem zK {r:R2} (hr:IxR X r) (ha:PE X a ta) (hb:PE X b tb) (hs:qX b):PE X (.Subscript a b pos) (tOp r ta tb):=by
 intro pins s σ H Q I h
 exact Subscript_ (yI ha hb I h λv u s2 x y H2 I2 rx ry q=>hr a b pins s2 σ H2 x y v u Q I2 rx ry q (hs _ _))
noncomputable def zR (K:PySem.W.Frag):R2:=λx y H Q=>∃ p xs i v,x=.ref p/\y=.int i/\SqL K H p xs/\atI xs i=some v/\Q v H
noncomputable def zC (K:PySem.W.Frag):R2:=λx y H Q=>∃ p xs i v,x=.ref p/\y=.int i/\SqT K H p xs/\atI xs i=some v/\Q v H
noncomputable def zw:R2:=λx y H Q=>∃ z i c,x=.str z/\y=.int i/\z.length<=sizeLine/\atI z.cps.toList i=some c/\Q (.str ⟨#[c]⟩) H
theorem wv:IxR X (zR X.K):=by
 intro value slice pins s σ H x y v u Q I rx ry h hs
 obtain⟨p,xs,i,z,rfl,rfl,hq,he,q⟩:=h
 cases rx
 obtain⟨t,rfl⟩:=ry
 obtain⟨its,r,pl,hz⟩:=I.list hq
 obtain⟨j,h1,h2,h3,h4,h5⟩:=nQ he
 obtain⟨w,ew,rw'⟩:=r.get h2
 have hl:=r.length
 have hn:=je
 have fin:EP X pins σ Q w s:=⟨z,H,I,rw',q⟩
 by_cases h0:0<=i
 ·have hj:i.toNat=j:=by
   rw [seqIndex_of h0 h5] at h1
   exact Option.some.inj h1
  exact item_listR pl.isList h0 (by lia) (by rw [hj];simpa using ew) fin hs
 ·have hj:(i+(its.toArray.size:Int)).toNat=j:=by
   rw [seqIndex_neg (by lia) h4] at h1
   rw [List.size_toArray,<-hl]
   exact Option.some.inj h1
  exact subscriptTail_builtinR (x:=w) pl.isList.typeIs slot_list_getitem.lookup
   (wpAny_getItem_list_neg (Q:=λr s'=>r=w/\EP X pins σ Q r s') pl.isList (by lia) (by rw [List.size_toArray]<;>lia) (by lia) (by rw [hj];simpa using ew) ⟨rfl,fin⟩) hs
theorem xq:IxR X (zC X.K):=by
 intro value slice pins s σ H x y v u Q I rx ry h hs
 obtain⟨p,xs,i,z,rfl,rfl,hq,he,q⟩:=h
 cases rx
 obtain⟨t,rfl⟩:=ry
 obtain⟨its,r,pl,hz⟩:=I.tuple hq
 obtain⟨j,h1,h2,h3,h4,h5⟩:=nQ he
 obtain⟨w,ew,rw'⟩:=r.get h2
 have hl:=r.length
 have hn:=je
 have fin:EP X pins σ Q w s:=⟨z,H,I,rw',q⟩
 exact subscriptTail_builtinR (x:=w) pl.typeIs slot_tuple_getitem.lookup
  (getItem_tuple (j:=j) (Q:=λr s'=>r=w/\EP X pins σ Q r s') pl (by lia) (by lia) (by rw [List.size_toArray,<-hl];exact h1) (by simpa using ew) ⟨rfl,fin⟩) hs
theorem xo:IxR X zw:=by
 intro value slice pins s σ H x y v u Q I rx ry h hs
 obtain⟨z,i,c,rfl,rfl,hz,he,q⟩:=h
 obtain⟨t,rfl⟩:=rx
 obtain⟨t',rfl⟩:=ry
 obtain⟨j,h1,h2,h3,h4,h5⟩:=nQ he
 have hl:z.cps.toList.length=z.length:=by simp [Str.length]
 rw [hl] at h1 h4 h5
 have hn:=je
 exact tail_any (typeIs_str s z t) slot_str_getitem.lookup (getItem_str (c:=c) (by
  have e1:decide (i < -(2 ^ 63:Int))=false:=decide_eq_false (by lia)
  have e2:decide (i>=2 ^ 63)=false:=decide_eq_false (by lia)
  rw [e1,e2,Bool.or_false]) (by rw [h1];simpa using h2) ⟨.str ⟨#[c]⟩,H,I.tok _,⟨_,rfl⟩,q⟩) hs
noncomputable def rIx (K:PySem.W.Frag):R2:=λx y H Q=>zR K x y H Q\/zC K x y H Q\/zw x y H Q
theorem sP:IxR X (rIx X.K):=wv.or (xq.or xo)
theorem pW (its:List Value) (n j:Nat) (u:Value):Obj.mapSeq (·.setIfInBounds j u) { cls:=.type "list",data:=.seq its.toArray n }={ cls:=.type "list",data:=.seq (its.set j u).toArray n }:=by
 simp [Obj.mapSeq]
theorem Inv.lst {pins:List (Addr×Obj)}{σ:St}{H:Hp}{s:Shared}{p:Addr}{xs:List V} (I:Inv X pins σ H s) (h:H p=some (.lst xs)) :
  ∃ (its:List Value) (n:Nat),bx xs its/\s.heap.get? p=some { cls:=.type "list",data:=.seq its.toArray n }/\xs.length<=sizeLine:=by
 obtain⟨z,its,n,r,e⟩:=I.hok p _ h
 exact⟨its,n,r,e,z⟩
theorem Inv.lstUpd {pins:List (Addr×Obj)}{σ:St}{H:Hp}{s:Shared}{p:Addr}{xs ys:List V}{its its':List Value}{n n':Nat}{f:Obj->Obj} (I:Inv X pins σ H s) (h:H p=some (.lst xs))
  (ho:s.heap.get? p=some { cls:=.type "list",data:=.seq its.toArray n }) (hf:f { cls:=.type "list",data:=.seq its.toArray n }={ cls:=.type "list",data:=.seq its'.toArray n' }) (r:bx ys its') (hz:ys.length<=sizeLine) (t:Nat) :
  Inv X pins σ (upd H p (.lst ys)) { s with heap:=s.heap.update p f,toks:=t }:=by
 have e:(s.heap.update p f).get? p=some { cls:=.type "list",data:=.seq its'.toArray n' }:=by
  rw [Heap.get?_update_self f ho (by rw [hf]<;>rfl),hf]
 refine I.write (x:=p) (e:=p) (by rw [h];trivial) (.inl rfl) (λb u hb q=>(Heap.get?_update_other _ _ (Ne.symm hb)).trans q) ⟨_,e⟩ ?_
 exact⟨hz,its',n',r,e⟩
noncomputable def zj:V->V->V->Hp->(Hp->Prop)->Prop:=λo i v H Q=>∃ p xs k j,o=.ref p/\i=.int k/\H p=some (.lst xs)/\ixN xs.length k=some j/\Q (upd H p (.lst (xs.set j v)))
theorem s0:Ac X zj:=by
 intro pins s σ H o i v ov iv u Q I ro ri rv h
 obtain⟨p,xs,k,j,rfl,rfl,hp,hj,q⟩:=h
 cases ro
 obtain⟨t,rfl⟩:=ri
 obtain⟨its,n,r,ho,hz⟩:=I.lst hp
 obtain⟨h1,h2,h3,h4⟩:=rh hj
 have hl:=r.length
 have hn:=je
 have I':Inv X pins σ (upd H p (.lst (xs.set j v))) { s with heap:=s.heap.update p (Obj.mapSeq (·.setIfInBounds j u)) }:=
  I.lstUpd hp ho (pW its n j u) (r.set rv j) (by rw [List.length_set];exact hz) s.toks
 by_cases h0:0<=k
 ·have hk:k.toNat=j:=by
   rw [seqIndex_of h0 h4] at h1
   exact Option.some.inj h1
  exact PySem.W.ki_setAt ho h0 (by lia) (by rw [List.size_toArray,<-hl];exact h4) (by rw [hk];exact⟨_,I',q⟩)
 ·have hk:(k+(its.toArray.size:Int)).toNat=j:=by
   rw [seqIndex_neg (by lia) h3] at h1
   rw [List.size_toArray,<-hl]
   exact Option.some.inj h1
  exact PySem.W.ki_setBack ho (by lia) (by rw [List.size_toArray,<-hl];exact h3) (by lia) (by rw [hk];exact⟨_,I',q⟩)
noncomputable def gE:V->Bool
 | .non=>true
 | .bl _=>true
 | .int _=>true
 | .str _=>true
 | _=>false
noncomputable def eqV:V->V->Bool
 | .non,.non=>true
 | .bl a,.bl b=>a==b
 | .bl a,.int b=>(if a then 1 else 0)==b
 | .int a,.bl b=>a==(if b then 1 else 0)
 | .int a,.int b=>a==b
 | .str a,.str b=>a==b
 | _,_=>false
theorem tJ {A:Around}{s:Shared}{y x:V}{u v:Value} (ry:br y u) (rx:br x v) (fy:gE y=true) (fx:gE x=true):SeqAt.EqAt A s u v (eqV y x):=by
 cases y with
 | non=>
  cases ry
  cases x with
  | non=>cases rx;exact SeqAt.EqAt.same _
  | bl b=>cases rx;exact SeqAt.EqAt.none_bool b
  | int b=>obtain⟨t,rfl⟩:=rx;exact SeqAt.EqAt.none_int b t
  | str b=>obtain⟨t,rfl⟩:=rx;exact SeqAt.EqAt.none_str b t
  | _=>exact absurd (show false=true from fx) Bool.false_ne_true
 | bl a=>
  cases ry
  cases x with
  | non=>cases rx;exact SeqAt.EqAt.bool_none a
  | bl b=>cases rx;exact SeqAt.EqAt.bool_bool a b
  | int b=>obtain⟨t,rfl⟩:=rx;exact SeqAt.EqAt.bool_int a b t
  | str b=>obtain⟨t,rfl⟩:=rx;exact SeqAt.EqAt.bool_str a b t
  | _=>exact absurd (show false=true from fx) Bool.false_ne_true
 | int a=>
  obtain⟨t',rfl⟩:=ry
  cases x with
  | non=>cases rx;exact SeqAt.EqAt.int_none a t'
  | bl b=>cases rx;exact SeqAt.EqAt.int_bool a t' b
  | int b=>obtain⟨t,rfl⟩:=rx;exact SeqAt.EqAt.int_int a t' b t
  | str b=>obtain⟨t,rfl⟩:=rx;exact SeqAt.EqAt.int_str a t' b t
  | _=>exact absurd (show false=true from fx) Bool.false_ne_true
 | str a=>
  obtain⟨t',rfl⟩:=ry
  cases x with
  | non=>cases rx;exact SeqAt.EqAt.str_none a t'
  | bl b=>cases rx;exact SeqAt.EqAt.str_bool a t' b
  | int b=>obtain⟨t,rfl⟩:=rx;exact SeqAt.EqAt.str_int a t' b t
  | str b=>obtain⟨t,rfl⟩:=rx;exact SeqAt.EqAt.str_str a t' b t
  | _=>exact absurd (show false=true from fx) Bool.false_ne_true
 | _=>exact absurd (show false=true from fy) Bool.false_ne_true
noncomputable def eqU (x:V) (u:Value):Bool:=match u with
 | .none=>eqV .non x
 | .bool b=>eqV (.bl b) x
 | .int i _=>eqV (.int i) x
 | .str z _=>eqV (.str z) x
 | _=>false
theorem uR {x y:V}{u:Value} (r:br y u) (f:gE y=true):eqU x u=eqV y x:=by
 cases y with
 | non=>cases r;rfl
 | bl b=>cases r;rfl
 | int i=>obtain⟨t,rfl⟩:=r;rfl
 | str z=>obtain⟨t,rfl⟩:=r;rfl
 | _=>exact absurd (show false=true from f) Bool.false_ne_true
theorem jE {x:V}:∀ {xs:List V}{us:List Value},bx xs us->xs.all gE=true->us.any (eqU x)=xs.any λy=>eqV y x
 | _,_,.nil,_=>rfl
 | y::xs,u::us,.cons r t,f=>by
  rw [List.all_cons,Bool.and_eq_true] at f
  rw [List.any_cons,List.any_cons,uR r f.1,jE t f.2]
theorem ix {A:Around}{s:Shared}{x:V}{v:Value} (rx:br x v) (fx:gE x=true):∀ {xs:List V}{us:List Value},bx xs us->xs.all gE=true->∀ u ∈ us,SeqAt.EqAt A s u v (eqU x u)
 | _,_,.nil,_=>λu hu=>by cases hu
 | y::xs,u::us,.cons r t,f=>λu' hu=>by
  rw [List.all_cons,Bool.and_eq_true] at f
  rcases List.mem_cons.mp hu with rfl | hu
  ·rw [uR r f.1];exact tJ r rx f.1 fx
  ·exact ix rx fx t f.2 u' hu
noncomputable def inV (x:V) (xs:List V):Bool:=xs.any λy=>eqV y x
noncomputable def rIn (K:PySem.W.Frag) (neg:Bool):R2:=λx y H Q=>∃ p xs,y=.ref p/\(SqL K H p xs\/SqT K H p xs)/\gE x=true/\xs.all gE=true/\Q (.bl (if neg then !inV x xs else inV x xs)) H
theorem sv:OpR X (compareOp .In) (rIn X.K false):=by
 intro pins s σ H x y v u Q I rx ry h
 obtain⟨p,xs,rfl,hq,fx,fs,q⟩:=h
 cases ry
 rcases hq with hq | hq
 ·obtain⟨its,r,pl,hz⟩:=I.list hq
  refine SeqAt.in_listAt (eqU x) pl.isList (λw hw=>ix rx fx r fs w (by simpa using hw)) ⟨.bl _,H,I,rfl,?_⟩
  rw [show its.toArray.any (eqU x)=its.any (eqU x) by simp,jE r fs]
  exact q
 ·obtain⟨its,r,pl,hz⟩:=I.tuple hq
  refine SeqAt.in_tupleAt (eqU x) pl (λw hw=>ix rx fx r fs w (by simpa using hw)) ⟨.bl _,H,I,rfl,?_⟩
  rw [show its.toArray.any (eqU x)=its.any (eqU x) by simp,jE r fs]
  exact q
theorem nA:OpR X (compareOp .NotIn) (rIn X.K true):=by
 intro pins s σ H x y v u Q I rx ry h
 obtain⟨p,xs,rfl,hq,fx,fs,q⟩:=h
 cases ry
 rcases hq with hq | hq
 ·obtain⟨its,r,pl,hz⟩:=I.list hq
  refine SeqAt.notIn_listAt (eqU x) pl.isList (λw hw=>ix rx fx r fs w (by simpa using hw)) ⟨.bl _,H,I,rfl,?_⟩
  rw [show its.toArray.any (eqU x)=its.any (eqU x) by simp,jE r fs]
  exact q
 ·obtain⟨its,r,pl,hz⟩:=I.tuple hq
  refine SeqAt.notIn_tupleAt (eqU x) pl (λw hw=>ix rx fx r fs w (by simpa using hw)) ⟨.bl _,H,I,rfl,?_⟩
  rw [show its.toArray.any (eqU x)=its.any (eqU x) by simp,jE r fs]
  exact q
theorem oa:dJ X (.builtin "len") (λxs H Q=>∃ p ys,xs=[.ref p]/\(SqL X.K H p ys\/SqT X.K H p ys)/\Q (.int ys.length) H):=by
 intro pins s σ H xs us Q I r h
 obtain⟨p,ys,rfl,hq,q⟩:=h
 obtain⟨u,rfl,rx⟩:=ik r
 cases rx
 have hn:=je
 rcases hq with hq | hq
 ·obtain⟨its,r',pl,hz⟩:=I.list hq
  have hlen:=r'.length
  exact Calls.call_len_list pl.isList (by simp only [List.size_toArray]<;>lia) ⟨.int ys.length,H,I.tok _,⟨s.toks+1,by rw [List.size_toArray,hlen]⟩,q⟩
 ·obtain⟨its,r',pl,hz⟩:=I.tuple hq
  have hlen:=r'.length
  exact len_tuple pl (by simp only [List.size_toArray]<;>lia) ⟨.int ys.length,H,I.tok _,⟨s.toks+1,by rw [List.size_toArray,hlen]⟩,q⟩
theorem nw:dJ X (.builtin "len") (λxs H Q=>∃ z,xs=[.str z]/\z.length<=sizeLine/\Q (.int z.length) H):=by
 intro pins s σ H xs us Q I r h
 obtain⟨z,rfl,hz,q⟩:=h
 obtain⟨u,rfl,t,rfl⟩:=ik r
 have hn:=je
 exact len_str (by lia) ⟨.int z.length,H,I.tok _,⟨_,rfl⟩,q⟩
theorem my:dJ X (.type "tuple") (λxs H Q=>∃ p ys,xs=[.ref p]/\((SqL X.K H p ys/\∀ l,H l=none->Q (.ref l) (upd H l (.tup ys)))\/(SqT X.K H p ys/\Q (.ref p) H))):=by
 intro pins s σ H xs us Q I r h
 obtain⟨p,ys,rfl,h⟩:=h
 obtain⟨u,rfl,rx⟩:=ik r
 cases rx
 rcases h with⟨hq,q⟩ | ⟨hq,q⟩
 ·obtain⟨its,r',pl,hz⟩:=I.list hq
  have hlen:=r'.length
  refine call_tuple_list pl.isList (λh' kp=>?_) (by simp only [List.size_toArray]<;>lia)
  have I1:Inv X pins σ H { s with heap:=h' }:=I.kept (t':=s.toks) kp
  have I2:Inv X pins σ (upd H h'.objs.size (.tup ys)) { s with heap:=h'.push { cls:=.type "tuple",data:=.seq its.toArray } }:=
   I1.laid (t':=s.toks) (λb o e=>Heap.get?_push_of_some _ e) (Nat.le_refl _) (show cP X.prog X.w _ _ _ (.tup ys) from ⟨hz,its,r',iH.new _ _⟩)
  exact⟨.ref h'.objs.size,_,I2,rfl,q _ (I1.hok.fresh (Nat.le_refl _))⟩
 ·obtain⟨its,r',pl,hz⟩:=I.tuple hq
  exact call_tuple_same pl ⟨.ref p,H,I,rfl,q⟩
noncomputable def tyV (K:PySem.W.Frag) (T:String) (x:V) (H:Hp):Prop:=match x with
 | .str _=>T = "str"
 | .int _=>T = "int"
 | .ref p=>(T = "list"/\∃ xs,SqL K H p xs)\/(T = "tuple"/\((∃ o,K.lookup p=some o/\o.cls=.type "tuple"/\o.dict=none)\/∃ xs,SqT K H p xs))\/
   (T = "dict"/\((∃ kvs,H p=some (.dK kvs))\/∃ kvs,H p=some (.dT kvs)))\/(T = "set"/\∃ S n,H p=some (.set S n))
 | _=>False
theorem ym {pins:List (Addr×Obj)}{σ:St}{H:Hp}{s:Shared}{T:String}{x:V}{v:Value} (I:Inv X pins σ H s) (r:br x v) (ty:tyV X.K T x H) :
  s.TypeIs v T/\∀ a,v=.ref a->∃ ob,s.heap.get? a=some ob/\ob.dict=none:=by
 cases x with
 | str z=>
  obtain⟨t,rfl⟩:=r
  cases (show T = "str" from ty)
  exact⟨typeIs_str s z t,λ_ e=>nomatch e⟩
 | int i=>
  obtain⟨t,rfl⟩:=r
  cases (show T = "int" from ty)
  exact⟨typeIs_int s i t,λ_ e=>nomatch e⟩
 | ref p=>
  cases r
  rcases ty with⟨rfl,xs,hq⟩ | ⟨rfl,ht⟩ | ⟨rfl,hk⟩ | ⟨rfl,S,n,hk⟩
  ·obtain⟨its,_,pl,_⟩:=I.list hq
   refine⟨pl.isList.typeIs,λa e=>?_⟩
   cases e
   obtain⟨o,n,e,c,hd,_⟩:=pl
   exact⟨o,e,hd⟩
  ·have z:∃ o:Obj,s.heap.get? p=some o/\o.cls=.type "tuple"/\o.dict=none:=by
    rcases ht with⟨o,hk,hc,hd⟩ | ⟨xs,hq⟩
    ·exact⟨o,I.kIn p o hk,hc,hd⟩
    ·exact I.tuple1 hq
   obtain⟨o,e1,hc,hd⟩:=z
   refine⟨⟨o,e1,hc⟩,λa e=>?_⟩
   cases e
   exact⟨o,e1,hd⟩
  ·have z:∃ o,s.heap.get? p=some o/\o.ExactDict:=by
    rcases hk with⟨kvs,hk⟩ | ⟨kvs,hk⟩
    ·obtain⟨_,_,_,_,o,_,_,e,ex,_⟩:=I.hok p _ hk
     exact⟨o,e,ex⟩
    ·obtain⟨_,_,_,_,o,_,_,e,ex,_⟩:=I.hok p _ hk
     exact⟨o,e,ex⟩
   obtain⟨o,e,ex⟩:=z
   refine⟨⟨o,e,ex.1⟩,λa e2=>?_⟩
   cases e2
   exact⟨o,e,ex.2.1⟩
  ·obtain⟨o,_,_,_,e,ex,_⟩:=I.hok p _ hk
   refine⟨⟨o,e,ex.1⟩,λa e2=>?_⟩
   cases e2
   exact⟨o,e,ex.2.1⟩
 | _=>exact False.elim ty
noncomputable def tBM (K:PySem.W.Frag) (T:String) (r:V->List V->Hp->VK->Prop) (to:TE) (t:TA):TE:=λσ H Q=>to σ H λx H1=>tyV K T x H1/\t σ H1 λxs H2=>r x xs H2 Q
variable {o e:Expr}{es:List Expr}{to:TE}{t:TA}{name:Str}{apos cpos:Pos}{T id:String}{r:V->List V->Hp->VK->Prop}
theorem tU (pa:PlainAttrs T) (slot:Slot T name id) (hty:typeOf (.builtin id)=pure (.type "method_descriptor")) (hm:MtR X id r) (ho:PE X o to) (ha:PA X (e::es) t)
  (hbase:attributeBase o name X.env (eval o X.env)=eval o X.env:=by rfl)
  (hfew:((backTo cpos (starEach (e::es) X.env)).all (λx=>!x.1) && (backToKw cpos (keywordEach [] X.env)).all (λx=>x.1.isSome)
    && decide ((e::es).length+([]:List Keyword).length+(if ([]:List Keyword).isEmpty then 0 else 1) < 30))=true:=by rfl)
  (hline:(apos.endLine==cpos.line)=true:=by rfl) (hs:starEach (e::es) X.env=(false,eval e X.env)::starEach es X.env:=by rfl) (hplain:(backTo cpos (starEach es X.env)).any (·.1)=false:=by rfl) :
  PE X (.Call (.Attribute o name apos) (e::es) [] cpos) (tBM X.K T r to t):=by
 intro pins s σ H Q I h
 refine wpAny_Call_method_late hbase hfew hline rfl (thn (ho pins s σ H _ I h) λv s1 ⟨x,H1,I1,r1,ty,q1⟩=>?_)
 obtain⟨h1,h2⟩:=ym I1 r1 ty
 refine⟨T,id,pa,slot,hty,h1,h2,?_⟩
 have hA:=ha cpos pins s1 σ H1 _ I1 q1
 rw [hs] at hA ⊢
 refine Calls.callWith_builtin (by show (false || (backTo cpos (starEach es X.env)).any (·.1))=false;rw [hplain]<;>rfl) (Calls.evalArgs_plain ?_)
 exact thn hA λus s2 ⟨vs,H2,I2,r2,q2⟩=>hm pins s2 σ H2 x vs v us Q I2 r1 r2 q2
end
end L2
namespace L2
open PySem PySem.Spec PyProof.Rows
noncomputable def MtM (X:Cx) (id:String) (r:V->List V->Hp->VK->Prop):Prop:=
 ∀ (pins:List (Addr×Obj)) (s:Shared) (σ:St) (H:Hp) (x:V) (xs:List V) (v:Value) (us:List Value) (Q:VK),Inv X pins σ H s->br x v->bx xs us->r x xs H Q->
  wpAny (model X.prog X.w) X.A (call (.builtin id) (v::us)) (EP X pins σ Q) X.xe s
theorem bx.one:∀ {x:V}{us:List Value},bx [x] us->∃ u,us=[u]/\br x u
 | _,_,.cons r .nil=>⟨_,rfl,r⟩
theorem bx.two {x y:V}{us:List Value} (h:bx [x,y] us):∃ u v,us=[u,v]/\br x u/\br y v:=by
 cases h with
 | cons r t=>cases t with
  | cons q t2=>cases t2;exact⟨_,_,rfl,r,q⟩
theorem bx.rep {xs:List V}{us:List Value} (h:bx xs us):∀ k:Nat,bx (List.replicate k xs).flatten (List.replicate k us).flatten
 | 0=>.nil
 | k+1=>by
  rw [List.replicate_succ,List.replicate_succ,List.flatten_cons,List.flatten_cons]
  exact bx.append h (bx.rep h k)
theorem ko (its:List Value):∀ (k:Nat) (acc:List Value),
  List.foldl (λx1 x2=>x1++x2) acc.toArray (List.replicate k its.toArray)=(acc++(List.replicate k its).flatten).toArray
 | 0,acc=>by simp
 | k+1,acc=>by
  have e:acc.toArray++its.toArray=(acc++its).toArray:=by simp
  have e2:(acc++its)++(List.replicate k its).flatten=acc++(List.replicate (k+1) its).flatten:=by
   rw [List.replicate_succ,List.flatten_cons,List.append_assoc]
  rw [<-e2,<-ko its k (acc++its),<-e,List.replicate_succ,List.foldl_cons]
section
variable {X:Cx}{pins:List (Addr×Obj)}{σ:St}{H:Hp}{s:Shared}{l b:Addr}{xs ys zs:List V}
theorem Inv.lset {its its':List Value}{n:Nat}{f:Array Value->Array Value}{t':Nat} (I:Inv X pins σ H s) (hH:H l=some (.lst xs))
  (e:s.heap.get? l=some { cls:=.type "list",data:=.seq its.toArray n }) (hf:f its.toArray=its'.toArray) (hv:bx ys its') (hz:ys.length<=sizeLine) :
  Inv X pins σ (upd H l (.lst ys)) { s with heap:=s.heap.update l (Obj.mapSeq f),toks:=t' }:=by
 have q:=PySem.IsL.update e f
 rw [hf] at q
 refine I.write (x:=l) (e:=l) (by rw [hH];exact trivial) (.inl rfl) (λb' u hb hu=>(Heap.get?_update_other s.heap (Obj.mapSeq f) (Ne.symm hb)).trans hu) ⟨_,q⟩ ?_
 exact⟨hz,its',_,hv,q⟩
theorem Inv.lnew {its:List Value}{t':Nat} (I:Inv X pins σ H s) (hv:bx ys its) (hz:ys.length<=sizeLine) :
  Inv X pins σ (upd H s.heap.objs.size (.lst ys)) { s with heap:=s.heap.push { cls:=.type "list",data:=.seq its.toArray },toks:=t' }:=
 I.laid (λ_ _ q=>Heap.get?_push_of_some _ q) (Nat.le_refl _) ⟨hz,its,0,hv,Heap.get?_push_size _ rfl⟩
theorem Inv.fresh (I:Inv X pins σ H s):H s.heap.objs.size=none:=I.hok.fresh (Nat.le_refl _)
theorem Inv.lstM (I:Inv X pins σ H s) (hH:H l=some (.lst xs)):xs.length<=sizeLine/\∃ (its:List Value) (n:Nat),bx xs its/\xs.length=its.length/\s.heap.get? l=some { cls:=.type "list",data:=.seq its.toArray n }:=by
 obtain⟨z,its,n,r,e⟩:=I.hok l _ hH
 exact⟨z,its,n,r,r.length,e⟩
theorem uY {n:Nat} (h:n<=sizeLine):Builtin.List.listTooLong n=false:=by
 unfold Builtin.List.listTooLong
 exact decide_eq_false (by lia)
end
section
variable {X:Cx}
noncomputable def vX:V->List V->Hp->VK->Prop:=λx vs H Q=>∃ l xs y,x=.ref l/\vs=[y]/\H l=some (.lst xs)/\xs.length < sizeLine/\Q .non (upd H l (.lst (xs++[y])))
theorem sH:MtM X "list.append" vX:=by
 intro pins s σ H x vs v us Q I rx rv h
 obtain⟨l,xs,y,rfl,rfl,hH,hz,q⟩:=h
 cases rx
 obtain⟨u,rfl,ru⟩:=rv.one
 obtain⟨z,its,n,r,hl,e⟩:=I.lstM hH
 refine call_meets F.slot_list_append ⟨_,e,rfl⟩ F.entry_list_append (F.args_list_append_2 _ _) (PySem.list_append l its.toArray n u (by rw [List.size_toArray];lia)) ⟨e,?_⟩
 refine⟨.non,_,I.lset (its':=its++[u]) hH e (by simp) (r.append (.cons ru .nil)) ?_,rfl,q⟩
 rw [List.length_append,List.length_singleton]
 lia
theorem nX {α:Type} (xs:List α) (k:Nat):(List.replicate k xs).flatten.length=k*xs.length:=by
 induction k with
 | zero=>simp
 | succ k ih=>rw [List.replicate_succ,List.flatten_cons,List.length_append,ih,Nat.succ_mul,Nat.add_comm]
end
section
variable {prog:Program}{w:World}{A:Around}{E:Value->Shared->Prop}{s:Shared}
end
section
variable {X:Cx}
end
end L2
namespace Att
open PySem PySem.W PySem.Calls PyProof.Rows
theorem kR {P:Params}{h:Heap}:∀ (ns:List Int) (vs:List Value),WellAll P h vs (ns.map WData.int)->IntsAre vs ns:=by
 intro ns
 induction ns with
 | nil=>
  intro vs w
  rw [List.map_nil] at w
  cases w
  exact .nil
 | cons n ns ih=>
  intro vs w
  rw [List.map_cons] at w
  cases w with
  | cons a b=>
   cases a
   exact .cons _ _ (ih _ b)
theorem sE {l:OpenLaw}{n:Nat} (hn:l.most=some n) {P:Params}{h:Heap}{args:List WData}{vals:List Value}
  (hpre:l.row.toRowW.claim.pre args=true) (hwl:WellAll P h vals args) :
  ∃ a vs ns,vals=[Value.ref a]/\args=[WData.list (ns.map WData.int)]/\h.get? a=some { cls:=.type "list",data:=.seq vs.toArray }/\IntsAre vs ns/\ns.length<=n:=by
 have hsh:WShape.hasAll [] args [.list .int]=true:=(pre_splitW hpre).1
 have hc:l.pre.holds [] { args:=args }=true:=(pre_splitW hpre).2
 obtain⟨d,r,rfl,h1,h2⟩:=hasAllW_cons hsh
 obtain rfl:=hasAllW_nil h2
 obtain⟨xs,rfl,h3⟩:=hasW_list h1
 obtain⟨ns,rfl⟩:=items_int h3
 have hlen:ns.length<=n:=by
  unfold OpenLaw.pre at hc
  have h4:(WTm.not (.lt (.lit (.int (n:Int))) (.len (.arg 0)))).holds [] { args:=[.list (ns.map .int)] }=true:=by
   have h4:=(holds_andW hc).1
   rw [hn] at h4
   exact h4
  have h5:=condW_of h4 (w_not (w_lt w_lit (w_len_list (w_arg rfl))))
  rw [List.length_map] at h5
  refine Nat.le_of_not_lt λq=>?_
  have q':(n:Int) < ((ns.length:Nat):Int):=by lia
  first
   | (rw [decide_eq_true q'] at h5;exact absurd h5 (by decide))
   | (simp at h5;lia)
 cases hwl with
 | cons w1 w2=>
  cases w2
  cases w1 with
  | list ho hall=>exact⟨_,_,ns,rfl,rfl,ho,kR ns _ hall,hlen⟩
theorem sC (l:OpenLaw) (args:List WData):l.row.toRowW.claim.post args (.bool true) args=true:=
 postW_of (r:=l.row.toRowW) (X:=(true==true))
  (show WShape.has [] (.bool true) .bool=true by first | rfl | decide | simp [WShape.has,WShape.arms,WShape.armsAll])
  (show (WTm.eq .res (.lit (.bool true))).value [] { args:=args,res:=some (.bool true),after:=args }=some (.bool (true==true)) from w_eq_bool (w_res rfl) w_lit) rfl
theorem attach_call {l:OpenLaw}{n:Nat}{q:Program}{loose:List Str}{XP:(Str->Option Value)->Heap->Prop}{YP:World->Heap->Prop}{d:DefRec}
  (hn:l.most=some n) (hdf:d.params.defaults=[])
  (call:∀ (w:World) (s₀ s₁:Shared) (mg mb:Str->Option Value) (fa:Addr) (o:Obj) (pm cd doc:Value) (a:Addr) (vs:List Value) (ns:List Int),
    Ground q loose [] XP w s₀ mg mb s₁.heap->YP w s₁.heap->
    s₁.heap.get? fa=some o->o.data=.func (docDef d.name d.params d.body d.scope pm cd doc)->s₁.heap.CodeRec cd d.name->mg d.name=some (.ref fa)->
    s₁.heap.get? a=some { cls:=.type "list",data:=.seq vs.toArray }->IntsAre vs ns->ns.length<=n->s₁.gens=#[]->
    codeAny (model l.prog w) callerA (.call (.ref fa) ⟨[.ref a],[]⟩) (λr s'=>r=.ok (.ret (.bool true))/\OldK s₁.heap s'.heap/\s'.os=s₁.os/\AllBare s'.gens) s₁) :
  WalkO q loose XP YP l.row.toRowW d [] (λf vs=>PySem.call f vs):=by
 intro w s₀ s₁ mg mb G Y fa o pm cd doc dV kV ho hd hcd hD hmg hg args vals as hpre hlay hrd hwl hlo
 obtain rfl:dV=.none:=Dflts.none hD hdf
 obtain rfl:kV=.none:=Dflts.noKw hD
 obtain⟨a,vs,ns,rfl,rfl,hobj,hints,hlen⟩:=sE hn hpre hwl
 refine enter_call (codeAny_mono (call w s₀ s₁ mg mb fa o pm cd doc a vs ns G Y ho (fd_plain hd) hcd hmg hobj hints hlen hg) λr s' hq=>?_)
 obtain⟨rfl,h2,h3,h4⟩:=hq
 exact⟨.inl ⟨.bool true,.bool true,[],rfl,λ_=>rfl,.bool true,sC l _,λ_=>⟨List.Pairwise.nil,λ_ hm=>(nomatch hm)⟩⟩,h2,h3,h4⟩
section
variable {prog:Program}{w:World}{A:Around}{E:Value->Shared->Prop}{s:Shared}{K:Frag}
end
end Att
namespace L2
open PySem PySem.Spec PyProof.Rows
theorem mP:∀ {vs:List Value}{ns:List Int},IntsAre vs ns->bx (ns.map V.int) vs
 | _,_,.nil=>.nil
 | _,_,.cons n t h=>.cons ⟨t,rfl⟩ (mP h)
noncomputable def wo (H:Hp):Prop:=∀ b,H b=none\/∃ o xs,H b=some (.frz o (.lst xs))
theorem uh {P:Program}{w:World}{K:PySem.W.Frag}{mg mb:Str->Option Value}{CX:CXT}{k:Nat}{fa a:Addr}{fd:FuncData}{x:Str}{sp:Sp}{s₁:Shared}{vs:List Value}{ns:List Int}
  (KX:K.In s₁.heap) (hns:s₁.heap.Ns mainGlobals mg) (hb:s₁.heap.Ns builtinsNs mb) (hbb:∀ x:Str,x≠"__name__"->mb x=bootBuiltins x) (hlim:s₁.heap.NoLimit) (hg:s₁.gens=#[])
  (ha:s₁.heap.get? a=some { cls:=.type "list",data:=.seq vs.toArray }) (hi:IntsAre vs ns) (hl:ns.length<=sizeLine) (hr:cZ k callerA)
  (F:∀ base:Heap,K.In base->base.Ns mainGlobals mg->bD P w K mg base CX k fa fd [x] sp) (hbind:∀ (s:Shared) (u:Value),BindsTo s fd ⟨[u],[]⟩ [(x,u)])
  (hsp:∀ H:Hp,wo H->SqL K H a (ns.map V.int)->sp [.ref a] H (λv _=>v=.bl true) λ_ _ _=>False)
  (hCX:∀ H e s',CX [] H s₁ (λ_ _ _=>False) e s'->False) :
  codeAny (model P w) callerA (.call (.ref fa) ⟨[.ref a],[]⟩) (λr s'=>r=.ok (.ret (.bool true))/\OldK s₁.heap s'.heap/\s'.os=s₁.os/\AllBare s'.gens) s₁:=by
 have rv:=mP hi
 have lenV:=hi.length
 -- from an abstract heap in which nothing but the script may be tracked
 have core:∀ H:Hp,wo H->SqL K H a (ns.map V.int)->HOk P w H s₁.heap->(∀ b,H b≠none->b=a)->(H a≠none->K.lookup a=none)->
   codeAny (model P w) callerA (.call (.ref fa) ⟨[.ref a],[]⟩) (λr s'=>r=.ok (.ret (.bool true))/\OldK s₁.heap s'.heap/\s'.os=s₁.os/\AllBare s'.gens) s₁:=by
  intro H hO hS hok hA hK
  have base_of:∀ {b:Addr}{o:Obj},s₁.heap.get? b=some o->H b=none->(nz s₁.heap H).get? b=some o:=λe n=>tM e n
  have noA:∀ {b:Addr}{o:Obj}{es:Array DictEntry}{ep:Nat},s₁.heap.get? b=some o->o.data=.dict es ep->H b=none:=λ{b o es ep} e d=>by
   cases q:H b with
   | none=>rfl
   | some u=>
    have e':b=a:=hA b (by rw [q];simp)
    subst e'
    rw [ha] at e;cases e
    have d':Data.seq vs.toArray _=Data.dict es ep:=d
    cases d'
  have nsK:∀ {b:Addr}{m:Str->Option Value},s₁.heap.Ns b m->(nz s₁.heap H).Ns b m:=λ{b m} ⟨o,es,ep,e,d,r⟩=>⟨o,es,ep,base_of e (noA e d),d,r⟩
  have hKb:K.In (nz s₁.heap H):=λb o e=>base_of (KX b o e) (by
   cases q:H b with
   | none=>rfl
   | some u=>
    have e':b=a:=hA b (by rw [q];simp)
    subst e'
    rw [hK (by rw [q];simp)] at e;cases e)
  have hM:Mod K mg (nz s₁.heap H):=⟨hKb,nsK hns,⟨mb,nsK hb,hbb⟩,let ⟨mc,h1,h2⟩:=hlim;⟨mc,nsK h1,h2⟩⟩
  have e0:wF P w K mg (nz s₁.heap H) callerA [] s₁ H:=⟨rfl,hM,λb o e=>vm e,Nat.le_of_eq (se _ _),trivial,λb hb=>absurd (show b ∈ ([]:List Addr) from hb) (by simp),hok,.of_eq hg⟩
  refine codeAny_mono ((F _ hKb (nsK hns)).run callerA [] s₁ H ⟨[.ref a],[]⟩ [.ref a] [.ref a] _ _ hr e0 (hbind s₁ (.ref a)) (.cons rfl .nil) (hsp H hO hS)) λr s' h=>?_
  cases r with
  | error e=>exact (hCX H e s' h).elim
  | ok fl=>
   cases fl with
   | next=>exact False.elim h
   | brk=>exact False.elim h
   | cont=>exact False.elim h
   | ret u=>
    obtain⟨v,H',os,bare,un,hok',r',q⟩:=h
    have q':v=.bl true:=q
    subst q'
    obtain rfl:u=Value.bool true:=r'
    refine⟨rfl,OldK.of_keep λb o e=>?_,os,bare⟩
    cases q:H b with
    | none=>exact un.keep b o e q (by intro z;exact absurd (show b ∈ ([]:List Addr) from z) (by simp)) (by simp)
    | some u=>
     rcases hO b with z | ⟨ob,xs,z⟩
     ·rw [q] at z;cases z
     ·have z2:=un.frzs b ob _ z
      obtain⟨e1,_⟩:=hok b _ z
      obtain⟨e2,_⟩:=hok' b _ z2
      rw [e] at e1;cases e1
      exact e2
 cases hk:K.lookup a with
 | some o=>
  -- the script is one of the module's own objects
  have e:=KX a o hk
  rw [ha] at e
  cases e
  refine core (λ_=>none) (λ_=>.inl rfl) (.inr ⟨_,vs.toArray,_,hk,rfl,rfl,rfl,by rw [List.size_toArray,lenV];exact hl,by simpa using rv⟩) (λb u z=>by have z':(none:Option HO)=some u:=z;cases z') (λb z=>absurd rfl z) λz=>absurd rfl z
 | none=>
  refine core (λb=>if b=a then some (.frz { cls:=.type "list",data:=.seq vs.toArray } (.lst (ns.map V.int))) else none) (λb=>?_) (.inl (.inr ⟨{ cls:=.type "list",data:=.seq vs.toArray },if_pos rfl⟩)) (λb u z=>?_) (λb z=>?_) λ_=>hk
  ·by_cases hb:b=a
   ·exact .inr ⟨_,_,if_pos hb⟩
   ·exact .inl (if_neg hb)
  ·by_cases hb:b=a
   ·have z':=(if_pos hb).symm.trans z
    cases z'
    subst hb
    exact⟨ha,by rw [List.length_map];exact hl,vs,_,rv,ha⟩
   ·have z':=(if_neg hb).symm.trans z
    cases z'
  ·by_cases hb:b=a
   ·exact hb
   ·exact absurd (if_neg hb) z
end L2
namespace L2
open PySem PySem.Spec PyProof.Rows
theorem walk_of {l:PySem.W.OpenLaw}{n k:Nat}{q:Program}{loose:List Str}{XP:(Str->Option Value)->Heap->Prop}{YP:World->Heap->Prop}{d:DefRec}{K:Params->PySem.W.Frag}{CX:World->CXT}{sp:World->Sp}{x:Str}
  (hn:l.most=some n) (hn2:n<=sizeLine) (hdf:d.params.defaults=[]) (hr:cZ k callerA)
  (hY:∀ (w:World) (h:Heap),YP w h->(K w.params).In h)
  (F:∀ (w:World) (mg:Str->Option Value) (fa:Addr) (h:Heap),(K w.params).In h->h.Ns mainGlobals mg->mg d.name=some (.ref fa)->
    ∃ fd:FuncData,(∀ (s:Shared) (u:Value),BindsTo s fd ⟨[u],[]⟩ [(x,u)])/\
     ∀ base:Heap,(K w.params).In base->base.Ns mainGlobals mg->bD l.prog w (K w.params) mg base (CX w) k fa fd [x] (sp w))
  (hsp:∀ (w:World) (H:Hp) (a:Addr) (ns:List Int),ns.length<=n->wo H->SqL (K w.params) H a (ns.map V.int)->sp w [.ref a] H (λv _=>v=.bl true) λ_ _ _=>False)
  (hCX:∀ (w:World) (H:Hp) (s:Shared) (e:Value) (s':Shared),CX w [] H s (λ_ _ _=>False) e s'->False) :
  PySem.W.WalkO q loose XP YP l.row.toRowW d [] (λf vs=>PySem.call f vs):=by
 refine Att.attach_call hn hdf λw s₀ s₁ mg mb fa o pm cd doc a vs ns G Y ho hd hcd hmg hobj hints hlen hg=>?_
 have KX:=hY w _ Y
 obtain⟨fd,hb,hF⟩:=F w mg fa _ KX G.T.g hmg
 exact uh KX G.T.g G.T.b G.T.builtins G.T.nolimit hg hobj hints (Nat.le_trans hlen hn2) hr hF hb (λH hO hS=>hsp w H a ns hlen hO hS) λH e s'=>hCX w H s₁ e s'
end L2
namespace L2
open PySem PySem.Spec PyProof.Rows
noncomputable def bu (s:Stmt):Arguments:=match s with
 | .FunctionDef _ a _ _ _ _ _ _ _ _=>a
 | _=>{ posonlyargs:=[],args:=[],vararg:=none,kwonlyargs:=[],kw_defaults:=[],kwarg:=none,defaults:=[] }
noncomputable def aZ (s:Stmt):List Stmt:=match s with
 | .FunctionDef _ _ b _ _ _ _ _ _ _=>b
 | _=>[]
noncomputable def ao (s:Stmt):Scope:=match s with
 | .FunctionDef _ _ _ _ _ _ sc _ _ _=>sc
 | _=>{ kind:=.function,names:=[],isGenerator:=false,isCoroutine:=false }
abbrev CX0:CXT:=λ_ _ _ _ _ _=>False
abbrev E0:XK:=λ_ _ _=>False
theorem zc {X:Cx}:nr CX0 X E0:=λ_ _ _ _ _ _ _ h=>h.elim
structure Fun (K:PySem.W.Frag) (x qual:Str) (st:Stmt) (f:Addr) (fd:FuncData):Prop where
 ex:∃ (oc:Value) (od:Option Addr) (kV doc pm:Value) (an:Option Addr) (cdv ct:Value) (osl:Array (Option Value)),
  fd=PySem.W.fnOf x qual (bu st) (aZ st) (ao st) .none kV doc pm an cdv ct/\K.lookup f=some ⟨oc,od,.func fd,osl⟩/\PySem.W.codeIn K cdv qual=true
 kp:PySem.W.keepIn K (.ref f)=true
section
variable {P:Program}{w:World}{K:PySem.W.Frag}{mg:Str->Option Value}{base:Heap}
theorem Fun.ok {x qual:Str}{st:Stmt}{f:Addr}{fd:FuncData}{N ps:List Str}{k:Nat}{sp:Sp} (F:Fun K x qual st f fd) (S:bp N ps (ao st)) (len:∀ vs H Q E,sp vs H Q E->vs.length=ps.length)
  (hbody:∀ (cdv:Value) (A:Around) (outer:List Env) (s:Shared) (H:Hp) (vs:List V) (Q:VK) (E:XK),cZ k (A.deeper (envOfC qual (ao st) s.heap.objs.size f cdv))->sp vs H Q E->
    ∃ t,PSs (ir CX0 P w K mg base N qual (ao st) f cdv A outer s H E).nox (aZ st) t/\t { nx:=λ_ H'=>Q .non H',rt:=Q } (iE N vs) H):bD P w K mg base CX0 (k+1) f fd ps sp:=by
 obtain⟨oc,od,kV,doc,pm,an,cdv,ct,osl,rfl,lk,hcd⟩:=F.ex
 refine xh lk hcd S len λA outer s H vs Q E hr hsp=>?_
 obtain⟨t,h,q⟩:=hbody cdv A outer s H vs Q E hr hsp
 exact⟨t,h.nox,q⟩
theorem Fun.binds {x qual:Str}{st:Stmt}{f:Addr}{fd:FuncData}{ps:List Str} (F:Fun K x qual st f fd)
  (h:∀ (kV doc pm:Value) (an:Option Addr) (cdv ct:Value) (us:List Value),us.length=ps.length->bindArgs (PySem.W.fnOf x qual (bu st) (aZ st) (ao st) .none kV doc pm an cdv ct) ⟨us,[]⟩=pure (ps.zip us)):cw K fd ps []:=by
 obtain⟨oc,od,kV,doc,pm,an,cdv,ct,osl,rfl,lk,hcd⟩:=F.ex
 exact .all (h kV doc pm an cdv ct)
theorem ce {x qual:Str}{st:Stmt}{f:Addr}{oc:Value}{od an:Option Addr}{osl:Array (Option Value)}{kV doc pm cdv ct:Value} (l:K.lookup f=some ⟨oc,od,.func (PySem.W.fnOf x qual (bu st) (aZ st) (ao st) .none kV doc pm an cdv ct),osl⟩)
  (c:PySem.W.codeIn K cdv qual=true) (k:PySem.W.keepIn K (.ref f)=true):Fun K x qual st f (PySem.W.fnOf x qual (bu st) (aZ st) (ao st) .none kV doc pm an cdv ct):=⟨⟨oc,od,kV,doc,pm,an,cdv,ct,osl,rfl,l,c⟩,k⟩
end
theorem zk {A:Around}{k:Nat} (hr:cZ k A):A.units+1 < cLine:=Nat.lt_of_le_of_lt (Nat.add_le_add_left (by decide:1<=64) _) hr.units
theorem ng {n:Nat} (h:n<=1000):n < sizeLine:=Nat.lt_of_le_of_lt h (by decide)
section
variable {X:Cx}
end
theorem mv {A B:Prop} (h:B):if false=true then A else B:=by
 rw [if_neg Bool.false_ne_true]
 exact h
theorem pE {A B:Prop} (h:A):if true=true then A else B:=by
 rw [if_pos rfl]
 exact h
noncomputable def bJ (H H':Hp):Prop:=∀ b o,H b=some o->H' b=some o
theorem bJ.refl (H:Hp):bJ H H:=λ_ _ h=>h
end L2
namespace L2
open PySem PySem.Spec PyProof.Rows
noncomputable def cy (cells:List (Str×Addr)):List (Str×NameKind)->List (Str×Addr)->List (Str×Addr)
 | [],acc=>acc
 | (n,k)::r,acc=>if k==.free then cy cells r ((n,(cells.lookup n).getD 0)::acc) else cy cells r acc
theorem jg {env:Env} (f:Str×NameKind->List (Str×Addr)->Sem (ForInStep (List (Str×Addr))))
  (hf:∀ n k cs,f (n,k) cs=if k==.free then (do let c <-cellOf env n;pure (.yield ((n,c)::cs))) else pure (.yield cs)) :
  ∀ (names:List (Str×NameKind)) (acc:List (Str×Addr)),(∀ x ∈ names,x.2=.free->∃ c,env.cells.lookup x.1=some c)->
   forIn names acc f=pure (cy env.cells names acc)
 | [],acc,_=>by rw [List.forIn_nil];rfl
 | (n,k)::r,acc,h=>by
  rw [List.forIn_cons,hf]
  unfold cy
  by_cases hk:(k==.free)=true
  ·obtain⟨c,hc⟩:=h (n,k) List.mem_cons_self (beq_iff_eq.mp hk)
   have hc':env.cells.lookup n=some c:=hc
   rw [if_pos hk,if_pos hk]
   have:cellOf env n=pure c:=by unfold cellOf;rw [hc']
   rw [this,hc']
   simp only [pure_bind,Option.getD_some]
   exact jg f hf r _ λx hx=>h x (List.mem_cons_of_mem _ hx)
  ·rw [if_neg hk,if_neg hk]
   simp only [pure_bind]
   exact jg f hf r _ λx hx=>h x (List.mem_cons_of_mem _ hx)
theorem i6 {scope:Scope}{env:Env} (h:∀ x ∈ scope.names,x.2=.free->∃ c,env.cells.lookup x.1=some c) :
  closureFor scope env=pure (cy env.cells scope.names []):=by
 simp only [closureFor]
 rw [jg (env:=env) _ (λn k cs=>by cases hk:k==NameKind.free<;>simp [hk]) scope.names [] h]
 simp
theorem gI {cells:List (Str×Addr)}:∀ (names:List (Str×NameKind)) (acc:List (Str×Addr)) {x:Str}{c:Addr},(cy cells names acc).lookup x=some c->
  acc.lookup x=some c\/((x,NameKind.free) ∈ names/\c=(cells.lookup x).getD 0)
 | [],_,_,_,h=>.inl h
 | (n,k)::r,acc,x,c,h=>by
  unfold cy at h
  by_cases hk:(k==.free)=true
  ·rw [if_pos hk] at h
   rcases gI r _ h with q | ⟨q1,q2⟩
   ·rw [List.lookup_cons] at q
    cases hx:x==n with
    | true=>
     rw [hx] at q
     have e:=beq_iff_eq.mp hx
     subst e
     exact .inr ⟨by rw [<-beq_iff_eq.mp hk];exact List.mem_cons_self,(Option.some.inj q).symm⟩
    | false=>rw [hx] at q;exact .inl q
   ·exact .inr ⟨List.mem_cons_of_mem _ q1,q2⟩
  ·rw [if_neg hk] at h
   rcases gI r _ h with q | ⟨q1,q2⟩
   ·exact .inl q
   ·exact .inr ⟨List.mem_cons_of_mem _ q1,q2⟩
theorem gA {cells:List (Str×Addr)}{x:Str}:∀ (names:List (Str×NameKind)) (acc:List (Str×Addr)),((x,NameKind.free) ∈ names\/(acc.lookup x).isSome=true)->((cy cells names acc).lookup x).isSome=true
 | [],_,h=>h.elim (λz=>nomatch z) id
 | (n,k)::r,acc,h=>by
  unfold cy
  by_cases hk:(k==.free)=true
  ·rw [if_pos hk]
   refine gA r _ ?_
   rcases h with h | h
   ·rcases List.mem_cons.mp h with e | h
    ·cases e
     exact .inr (by rw [List.lookup_cons,beq_self_eq_true];rfl)
    ·exact .inl h
   ·refine .inr ?_
    rw [List.lookup_cons]
    cases x==n
    ·exact h
    ·rfl
  ·rw [if_neg hk]
   refine gA r _ ?_
   rcases h with h | h
   ·rcases List.mem_cons.mp h with e | h
    ·cases e;exact absurd rfl hk
    ·exact .inl h
   ·exact .inr h
theorem fz:∀ (names:List (Str×NameKind)) (n:Nat) (acc:List (Str×Addr)) {x:Str}{c:Addr},(cellsFrom n names acc).lookup x=some c->acc.lookup x=some c\/((x,NameKind.cell) ∈ names/\n<=c)
 | [],_,_,_,_,h=>.inl h
 | (m,k)::r,n,acc,x,c,h=>by
  unfold cellsFrom at h
  by_cases hk:(k==.cell)=true
  ·rw [if_pos hk] at h
   rcases fz r _ _ h with q | ⟨q1,q2⟩
   ·rw [List.lookup_cons] at q
    cases hx:x==m with
    | true=>
     rw [hx] at q
     have e:=beq_iff_eq.mp hx
     subst e
     exact .inr ⟨by rw [<-beq_iff_eq.mp hk];exact List.mem_cons_self,by rw [Option.some.inj q];exact Nat.le_refl _⟩
    | false=>rw [hx] at q;exact .inl q
   ·exact .inr ⟨List.mem_cons_of_mem _ q1,Nat.le_of_succ_le q2⟩
  ·rw [if_neg hk] at h
   rcases fz r _ _ h with q | ⟨q1,q2⟩
   ·exact .inl q
   ·exact .inr ⟨List.mem_cons_of_mem _ q1,q2⟩
theorem mD:∀ (names:List (Str×NameKind)) (n:Nat) (acc:List (Str×Addr)),(∀ p ∈ acc,p.2 < n)->∀ {x y:Str}{c:Addr},(cellsFrom n names acc).lookup x=some c->(cellsFrom n names acc).lookup y=some c->n<=c->x=y:=by
 have key:∀ (names:List (Str×NameKind)) (n:Nat) (acc:List (Str×Addr)) (lo:Nat),lo<=n->(∀ p ∈ acc,p.2 < n)->(∀ p ∈ acc,∀ q ∈ acc,lo<=p.2->p.2=q.2->p.1=q.1)->
   ∀ p ∈ cellsFrom n names acc,∀ q ∈ cellsFrom n names acc,lo<=p.2->p.2=q.2->p.1=q.1:=by
  intro names
  induction names with
  | nil=>intro n acc lo _ _ h;exact h
  | cons z r ih=>
   intro n acc lo hlo hlt h
   obtain⟨m,k⟩:=z
   unfold cellsFrom
   by_cases hk:(k==.cell)=true
   ·rw [if_pos hk]
    refine ih _ _ lo (Nat.le_succ_of_le hlo) (λp hp=>?_) (λp hp q hq l e=>?_)
    ·rcases List.mem_cons.mp hp with e | hp
     ·rw [e];exact Nat.lt_succ_self _
     ·exact Nat.lt_succ_of_lt (hlt p hp)
    ·rcases List.mem_cons.mp hp with e1 | hp<;>rcases List.mem_cons.mp hq with e2 | hq
     ·rw [e1,e2]
     ·rw [e1] at e;exact absurd (hlt q hq) (by rw [<-e];exact Nat.lt_irrefl _)
     ·rw [e2] at e;exact absurd (hlt p hp) (by rw [e];exact Nat.lt_irrefl _)
     ·exact h p hp q hq l e
   ·rw [if_neg hk]
    exact ih _ _ lo hlo hlt h
 intro names n acc hlt x y c hx hy hc
 exact key names n acc n (Nat.le_refl _) hlt (λp hp q hq l _=>absurd (hlt p hp) (Nat.not_lt.mpr l)) _ (PySem.mem_of_lookup hx) _ (PySem.mem_of_lookup hy) hc rfl
theorem fT:∀ (names:List (Str×NameKind)) (h:Heap) (acc:List (Str×Addr)),(∀ p ∈ acc,∃ v,h.IsCell p.2 v)->∀ p ∈ cellsFrom h.objs.size names acc,∃ v,(pushCells h names).IsCell p.2 v
 | [],_,_,h=>h
 | (m,k)::r,h,acc,hc=>by
  unfold cellsFrom pushCells
  by_cases hk:(k==.cell)=true
  ·rw [if_pos hk,if_pos hk]
   have:=fT r (h.push { cls:=.type "cell",data:=.cell none }) ((m,h.objs.size)::acc) (λp hp=>by
    rcases List.mem_cons.mp hp with e | hp
    ·rw [e];exact⟨none,_,Heap.get?_push_size _ rfl,rfl⟩
    ·obtain⟨v,z⟩:=hc p hp
     exact⟨v,z.keeps λb o e=>Heap.get?_push_of_some _ e⟩)
   rwa [Heap.size_push] at this
  ·rw [if_neg hk,if_neg hk]
   exact fT r h acc hc
theorem fY {names:List (Str×NameKind)} (nd:(names.map (·.1)).Nodup):∀ {x:Str}{k:NameKind},(x,k) ∈ names->names.lookup x=some k:=by
 induction names with
 | nil=>intro x k h;cases h
 | cons z r ih=>
  intro x k h
  obtain⟨m,k'⟩:=z
  rw [List.map_cons,List.nodup_cons] at nd
  rw [List.lookup_cons]
  rcases List.mem_cons.mp h with e | h
  ·cases e;rw [beq_self_eq_true]
  ·have:(x==m)=false:=beq_eq_false_iff_ne.mpr λe=>nd.1 (e ▸ List.mem_map.mpr ⟨(x,k),by assumption,rfl⟩)
   rw [this]
   exact ih nd.2 h
theorem eZ {env:Env}:∀ {names:List (Str×NameKind)}{x:Str}{k:NameKind},
  (names.map λ(n,k)=>if (k==NameKind.free && env.scope.kind==.function && env.kindOf n==some .cell) then (n,NameKind.cell) else (n,k)).lookup x=some k->
  ∃ k0,names.lookup x=some k0/\(k=k0\/(k0=.free/\k=.cell))
 | [],_,_,h=>by cases h
 | (n,k0)::r,x,k,h=>by
  rw [List.map_cons] at h
  dsimp only at h
  rw [List.lookup_cons]
  by_cases hc:(k0==NameKind.free && env.scope.kind==.function && env.kindOf n==some .cell)=true
  ·rw [if_pos hc,List.lookup_cons] at h
   cases hx:x==n with
   | true=>
    rw [hx] at h
    refine⟨k0,rfl,.inr ⟨?_,(Option.some.inj h).symm⟩⟩
    simp only [Bool.and_eq_true] at hc
    exact beq_iff_eq.mp hc.1.1
   | false=>rw [hx] at h;exact eZ h
  ·rw [if_neg hc,List.lookup_cons] at h
   cases hx:x==n with
   | true=>rw [hx] at h;exact⟨k0,rfl,.inl (Option.some.inj h).symm⟩
   | false=>rw [hx] at h;exact eZ h
theorem ij {env:Env}:∀ {names:List (Str×NameKind)}{x:Str},names.lookup x=some .free->
  (names.map λ(n,k)=>if (k==NameKind.free && env.scope.kind==.function && env.kindOf n==some .cell) then (n,NameKind.cell) else (n,k)).lookup x=some .free\/
  (names.map λ(n,k)=>if (k==NameKind.free && env.scope.kind==.function && env.kindOf n==some .cell) then (n,NameKind.cell) else (n,k)).lookup x=some .cell
 | [],_,h=>by cases h
 | (n,k0)::r,x,h=>by
  rw [List.map_cons]
  dsimp only
  rw [List.lookup_cons] at h
  by_cases hc:(k0==NameKind.free && env.scope.kind==.function && env.kindOf n==some .cell)=true
  ·rw [if_pos hc,List.lookup_cons]
   cases hx:x==n with
   | true=>exact .inr rfl
   | false=>rw [hx] at h;exact ij h
  ·rw [if_neg hc,List.lookup_cons]
   cases hx:x==n with
   | true=>rw [hx] at h;exact .inl h
   | false=>rw [hx] at h;exact ij h
theorem jN {M:Model}{A:Around}{E:Value->Shared->Prop}{s:Shared}{scope:Scope}{env:Env}{cl:List (Str×Addr)}{Q:Env->Shared->Prop}
  (hQ:Q (newEnv scope s.heap.objs.size env.globals (cellsFrom (s.heap.objs.size+1) scope.names cl) env.qual none .none (some env) builtinsNs)
    { s with heap:=pushCells (s.heap.push { cls:=.type "dict",data:=.dict #[] }) scope.names }) :
  wpAny M A (newFunctionEnv scope env.globals cl [] env.qual none .none (some env)) Q E s:=by
 simp only [newFunctionEnv,Option.isSome_some,if_true]
 refine wpAny_bind (wpAny_alloc ?_)
 refine wpAny_bind (wpAny_layCells _ (λname kind cells=>by cases hkc:kind==NameKind.cell<;>simp [hkc]) _ _ _ _ ?_)
 rw [show ({ s with heap:=s.heap.push { cls:=.type "dict",data:=.dict #[] } }:Shared).heap.objs.size=s.heap.objs.size+1 from Heap.size_push ..]
 refine wpAny_bind ?_
 rw [List.forIn_nil]
 exact wpAny_pure (wpAny_pure hQ)
theorem fL {prog:Program}{w:World}{A:Around}{R:Result->Shared->Prop}{s:Shared}{elt target iter:Expr}{ifs:List Expr}{scope:Scope}{pos:Pos}{it acc:Value}{env:Env} (I:Nat->Shared->Prop)
  (turn:∀ n s,I n s->wpAny (model prog w) A (pyNext it) (λr s₁=>match r with
    | none=>R (.ok .next) s₁
    | some v=>wpAny (model prog w) A (letOwnedTupleGo target it v) (λ_ s₁'=>wpAny (model prog w) A (assign target env v) (λ_ s₂=>
      wpAny (model prog w) A (forIn ifs true λc r=>if r=true then do let ok <-isTrue c env (eval c env);pure (ForInStep.yield ok) else pure (ForInStep.yield r)) (λok s₃=>
       if ok=true then wpAny (model prog w) A (eval elt env) (λx s₄=>
        wpAny (model prog w) A (call (.builtin "list.append") [acc,x]) (λ_ s₅=>∃ m,m < n/\I m s₅) (λ_ _=>False) s₄) (λ_ _=>False) s₃
       else ∃ m,m < n/\I m s₃) (λ_ _=>False) s₂) (λ_ _=>False) s₁') (λ_ _=>False) s₁) (λ_ _=>False) s)
  (n:Nat) (h:I n s) :
  codeAny (model prog w) A (.compLoop (.ListComp elt [⟨target,iter,ifs,0⟩] scope pos) 0 it acc env) R s:=by
 refine codeAny_loop rfl I (λn s hI=>?_) n h
 show wpAny _ A ((compTurn (.ListComp elt [⟨target,iter,ifs,0⟩] scope pos) 0 it acc env).onRaise (λx=>do noteFrame x env;theTreesLotGoes x)) _ _ s
 refine wpAny_noted ?_
 rw [compTurn_list]
 refine wpAny_bind (wpAny_standAt (wpAny_bind (wpAny_mono (turn n s hI) (λr s₁ h₁=>?_) λ_ _ h'=>h'.elim)))
 cases r with
 | none=>exact wpAny_pure h₁
 | some v=>
  refine wpAny_bind (wpAny_mono h₁ (λ_ s₁' h₁'=>?_) λ_ _ h'=>h'.elim)
  refine wpAny_bind (wpAny_mono h₁' (λ_ s₂ h₂=>wpAny_bind (wpAny_mono h₂ (λok s₃ h₃=>?_) λ_ _ h'=>h'.elim)) λ_ _ h'=>h'.elim)
  cases ok with
  | false=>exact wpAny_pure ⟨rfl,h₃⟩
  | true=>
   exact wpAny_bind (wpAny_bind (wpAny_mono h₃ (λx s₄ h₄=>wpAny_bind (wpAny_mono h₄ (λ_ s₅ h₅=>wpAny_pure (wpAny_pure ⟨rfl,h₅⟩)) λ_ _ h'=>h'.elim)) λ_ _ h'=>h'.elim))
noncomputable def lcX (X:Cx) (scope:Scope) (cells:List (Str×Addr)) (Nc:List Str) (s:Shared) (H:Hp) (C:Addr) (fp:List Addr):Cx where
 prog:=X.prog
 w:=X.w
 K:=X.K
 mg:=X.mg
 base:=X.base
 A:=X.A
 N:=Nc
 s₀:=s
 H₀:=H
 env:=compEnvC scope cells C X.env
 outer:=X.stack
 stack:=X.stack
 ex:=fp
 fn:=λx=>scope.names.lookup x==some .cell
 calm:=X.calm
 pn:=[]
 xe:=λ_ _=>False
structure gy (X:Cx) (scope:Scope) (Nc:List Str) (emb:St->St):Prop where
 kind:scope.kind=.function
 nd:(scope.names.map (·.1)).Nodup
 nN:Nc.Nodup
 free:∀ x ∈ scope.names,x.2=.free->X.env.kindOf x.1=some .cell\/X.env.kindOf x.1=some .free
 len:∀ σ:St,σ.length=X.N.length->(emb σ).length=Nc.length
 emb:∀ σ:St,σ.length=X.N.length->∀ (i:Nat) (x:Str) (v:V),Nc[i]?=some x->(emb σ)[i]?=some (some v)->∃ j:Nat,X.N[j]?=some x/\σ[j]?=some (some v)/\scope.names.lookup x=some .free
section
variable {X:Cx}{pins:List (Addr×Obj)}{σ:St}{H:Hp}{s:Shared}{scope:Scope}{Nc:List Str}{emb:St->St}
theorem gy.clos (S:gy X scope Nc emb) (ok:X.Ok):∀ x ∈ scope.names,x.2=.free->∃ c,X.env.cells.lookup x.1=some c:=λx hx h=>ok.has x.1 (S.free x hx h)
theorem pJ (S:gy X scope Nc emb) (I:Inv X pins σ H s) {fp:List Addr} (hf:∀ b ∈ fp,jG X pins H b) (hfo:∀ b ∈ fp,∃ o,s.heap.get? b=some o) {lo:Obj} (hlo:∀ v,lo.data≠.cell v) (hfr:lo.isFreed=false) :
  Inv (lcX X scope (cellsFrom (s.heap.objs.size+2) scope.names (cy X.env.cells scope.names [])) Nc s H (s.heap.objs.size+1) fp) [(s.heap.objs.size,lo)] (emb σ) H
   { s with heap:=pushCells ((s.heap.push lo).push { cls:=.type "dict",data:=.dict #[] }) scope.names }:=by
 have hsz2:((s.heap.push lo).push { cls:=.type "dict",data:=.dict #[] }).objs.size=s.heap.objs.size+2:=by rw [Heap.size_push,Heap.size_push]
 have hsz1:(s.heap.push lo).objs.size=s.heap.objs.size+1:=by rw [Heap.size_push]
 have hk:∀ b o,s.heap.get? b=some o->(pushCells ((s.heap.push lo).push { cls:=.type "dict",data:=.dict #[] }) scope.names).get? b=some o:=λb o e=>
  pushCells_keeps _ _ b o (Heap.get?_push_of_some _ (Heap.get?_push_of_some _ e))
 have has:=S.clos I.ok
 have cl_old:∀ {x:Str}{c:Addr},(cy X.env.cells scope.names []).lookup x=some c->X.env.cells.lookup x=some c/\(x,NameKind.free) ∈ scope.names:=λ{x c} h=>by
  rcases gI _ _ h with q | ⟨q1,q2⟩
  ·cases q
  ·obtain⟨c',hc'⟩:=has _ q1 rfl
   have hc'':X.env.cells.lookup x=some c':=hc'
   rw [hc''] at q2
   exact⟨by rw [hc'',q2];rfl,q1⟩
 have cells_cases:∀ {x:Str}{c:Addr},(cellsFrom (s.heap.objs.size+2) scope.names (cy X.env.cells scope.names [])).lookup x=some c->
   (X.env.cells.lookup x=some c/\(x,NameKind.free) ∈ scope.names)\/((x,NameKind.cell) ∈ scope.names/\s.heap.objs.size+2<=c):=λ{x c} h=>by
  rcases fz _ _ _ h with q | q
  ·exact .inl (cl_old q)
  ·exact .inr q
 have oldlt:∀ {x:Str}{c:Addr},X.env.cells.lookup x=some c->c < s.heap.objs.size:=λ{x c} h=>by
  obtain⟨v,z⟩:=I.cell x c h
  exact z.lt
 have fplt:∀ b ∈ fp,b < s.heap.objs.size:=λb hb=>by obtain⟨o,e⟩:=hfo b hb;exact Heap.lt_size e
 have accmem:∀ p ∈ cy X.env.cells scope.names [],∃ x,X.env.cells.lookup x=some p.2:=by
  have key:∀ (names:List (Str×NameKind)) (acc:List (Str×Addr)),(∀ x ∈ names,x.2=.free->∃ c,X.env.cells.lookup x.1=some c)->(∀ p ∈ acc,∃ x,X.env.cells.lookup x=some p.2)->∀ p ∈ cy X.env.cells names acc,∃ x,X.env.cells.lookup x=some p.2:=by
   intro names
   induction names with
   | nil=>intro acc _ h;exact h
   | cons z r ih=>
    intro acc hn h
    obtain⟨m,k⟩:=z
    unfold cy
    by_cases hk:(k==.free)=true
    ·rw [if_pos hk]
     refine ih _ (λx hx=>hn x (List.mem_cons_of_mem _ hx)) λp hp=>?_
     rcases List.mem_cons.mp hp with e | hp
     ·obtain⟨c,hc⟩:=hn _ List.mem_cons_self (beq_iff_eq.mp hk)
      have hc':X.env.cells.lookup m=some c:=hc
      exact⟨m,by rw [e,hc'];rfl⟩
     ·exact h p hp
    ·rw [if_neg hk]
     exact ih _ (λx hx=>hn x (List.mem_cons_of_mem _ hx)) h
  exact key _ _ has λp hp=>nomatch hp
 refine⟨⟨I.ok.mod,S.kind,I.ok.glob,I.ok.blt,Nat.le_succ _,λx y c h1 h2=>?_,λx hx=>?_,λx c hx h=>?_,I.ok.hd,I.ok.frames,.inl rfl,λb hb=>?_,I.bs,Nat.le_trans I.ok.bsz I.sz,λb o e hb=>?_,λb hb=>?_,I.stack,I.stkFree⟩,
  rfl,I.bare,Un.kept hk,⟨_,(Heap.Ns.new (s.heap.push lo) (.type "dict")).keeps (pushCells_keeps _ _) |> λq=>by rw [hsz1] at q;exact q,λi x v h1 h2 _=>?_⟩,λx c h=>?_,I.hok.fresh (Nat.le_succ _),λx c h=>?_,λp hp=>?_,I.hok.kept hk,S.len σ I.len⟩
 ·-- inj
  have h1':(cellsFrom (s.heap.objs.size+2) scope.names (cy X.env.cells scope.names [])).lookup x=some c:=h1
  have h2':(cellsFrom (s.heap.objs.size+2) scope.names (cy X.env.cells scope.names [])).lookup y=some c:=h2
  rcases cells_cases h1' with⟨q1,_⟩ | ⟨_,q1⟩
  ·rcases cells_cases h2' with⟨q2,_⟩ | ⟨_,q2⟩
   ·exact I.ok.inj x y c q1 q2
   ·exact absurd (Nat.lt_of_lt_of_le (Nat.lt_succ_of_lt (Nat.lt_succ_of_lt (oldlt q1))) q2) (Nat.lt_irrefl _)
  ·refine mD scope.names _ _ (λp hp=>?_) h1' h2' q1
   obtain⟨z,hz⟩:=accmem p hp
   exact Nat.lt_succ_of_lt (Nat.lt_succ_of_lt (oldlt hz))
 ·-- has
  have hx':(relabel scope X.env).names.lookup x=some .cell\/(relabel scope X.env).names.lookup x=some .free:=hx
  have:∃ k0,scope.names.lookup x=some k0/\(k0=.cell\/k0=.free):=by
   rcases hx' with q | q
   ·obtain⟨k0,h1,h2⟩:=eZ q
    exact⟨k0,h1,h2.elim (λe=>.inl e.symm) λe=>.inr e.1⟩
   ·obtain⟨k0,h1,h2⟩:=eZ q
    exact⟨k0,h1,h2.elim (λe=>.inr e.symm) λe=>by cases e.2⟩
  obtain⟨k0,h1,h2⟩:=this
  refine Option.isSome_iff_exists.mp (PySem.W.cellsFrom_some scope.names _ _ ?_)
  rcases h2 with rfl | rfl
  ·exact .inl h1
  ·exact .inr (gA _ _ (.inl (PySem.mem_of_lookup h1)))
 ·-- cab
  have hx':scope.names.lookup x=some .cell:=beq_iff_eq.mp hx
  rcases cells_cases h with⟨_,q⟩ | ⟨_,q⟩
  ·have:=fY S.nd q
   rw [hx'] at this;cases this
  ·exact Nat.le_trans (Nat.le_add_right _ 2) q
 ·-- exf
  refine⟨Nat.ne_of_lt (Nat.lt_succ_of_lt (fplt b hb)),λx c h=>?_⟩
  rcases cells_cases h with⟨q,_⟩ | ⟨_,q⟩
  ·exact (hf b hb).2.2.2.2.1 x c q
  ·intro e
   exact absurd (Nat.lt_of_lt_of_le (Nat.lt_succ_of_lt (Nat.lt_succ_of_lt (fplt b hb))) (e ▸ q)) (Nat.lt_irrefl _)
 ·-- noex
  have hb':b ∈ fp:=hb
  rcases (hf b hb').2.2.2.1 with q | q
  ·exact I.ok.noex b o e q
  ·exact absurd (Nat.lt_of_lt_of_le (Heap.lt_size (I.ok.bs b o e).1) q) (Nat.lt_irrefl _)
 ·-- exfs
  intro hb2
  rcases List.mem_cons.mp (I.stkSub b hb2) with q | q
  ·exact (hf b hb).2.1 q
  ·exact (hf b hb).2.2.1 q
 ·-- loc
  obtain⟨j,e1,e2,e3⟩:=S.emb σ I.len i x v h1 h2
  have kx:=S.free (x,.free) (PySem.mem_of_lookup e3) rfl
  have kx':X.env.kindOf x=some .cell\/X.env.kindOf x=some .free:=kx
  obtain⟨m,hn,hl⟩:=I.loc
  obtain⟨u,ru,lk⟩:=hl j x v e1 e2 (.inr kx')
  refine⟨u,ru,.inr ⟨?_,?_⟩⟩
  ·rcases ij (env:=X.env) e3 with q | q
   ·exact .inr q
   ·exact .inl q
  ·rcases lk with⟨z,_⟩ | ⟨_,c,hc,hcell⟩
   ·rcases kx' with q | q<;>(rw [z] at q;cases q)
   ·obtain⟨c',hc'⟩:=Option.isSome_iff_exists.mp (PySem.W.cellsFrom_some scope.names (s.heap.objs.size+2) (cy X.env.cells scope.names []) (x:=x) (.inr (gA _ _ (.inl (PySem.mem_of_lookup e3)))))
    rcases cells_cases hc' with⟨q,_⟩ | ⟨q,_⟩
    ·rw [hc] at q
     cases q
     exact⟨c,hc',hcell.keeps hk⟩
    ·have:=fY S.nd q
     rw [e3] at this;cases this
 ·-- cell
  have h':(cellsFrom (s.heap.objs.size+2) scope.names (cy X.env.cells scope.names [])).lookup x=some c:=h
  have:=fT scope.names ((s.heap.push lo).push { cls:=.type "dict",data:=.dict #[] }) (cy X.env.cells scope.names []) (λp hp=>by
   obtain⟨z,hz⟩:=accmem p hp
   obtain⟨v,q⟩:=I.cell z p.2 hz
   exact⟨v,q.keeps λb o e=>Heap.get?_push_of_some _ (Heap.get?_push_of_some _ e)⟩) (x,c) (by rw [hsz2];exact PySem.mem_of_lookup h')
  exact this
 ·-- freeC
  rcases cells_cases h with⟨q,_⟩ | ⟨_,q⟩
  ·exact I.freeC x c q
  ·exact I.hok.fresh (Nat.le_trans (Nat.le_add_right _ 2) q)
 ·-- pin
  have hp':p=(s.heap.objs.size,lo):=by
   have:p ∈ ([]:List (Addr×Obj))++[(s.heap.objs.size,lo)]:=hp
   simpa using this
  subst hp'
  refine⟨pushCells_keeps _ _ _ _ (Heap.get?_push_of_some _ (Heap.get?_push_size _ hfr)),I.hok.fresh (Nat.le_refl _),Nat.ne_of_lt (Nat.lt_succ_self _),λhb=>?_,hlo⟩
  rcases List.mem_cons.mp (I.stkSub _ hb) with q | q
  ·exact absurd I.lt (by rw [<-q];exact Nat.lt_irrefl _)
  ·exact I.nofs (Nat.le_refl _) q
end
end L2
namespace L2
open PySem PySem.Spec PyProof.Rows
noncomputable def PTs (X:Cx) (ifs:List Expr) (t:TT):Prop:=
 ∀ (pins:List (Addr×Obj)) (s:Shared) (σ:St) (H:Hp) (Q:Bool->Hp->Prop),Inv X pins σ H s->t σ H Q->
  wpAny (model X.prog X.w) X.A (forIn ifs true λc r=>if r=true then do let ok <-isTrue c X.env (eval c X.env);pure (ForInStep.yield ok) else pure (ForInStep.yield r)) (TP X pins σ Q) X.xe s
noncomputable def Ax:TT:=λ_ H Q=>Q true H
theorem wf {X:Cx}:PTs X [] Ax:=λ_ _ _ H _ I h=>wpAny_tests_nil ⟨H,I,h⟩
noncomputable def Sub (σ σ':St):Prop:=σ.length=σ'.length/\∀ (i:Nat) (v:V),σ[i]?=some (some v)->σ'[i]?=some (some v)
noncomputable def y8 (J:It) (σe:St) (g:TG) (tt:TT) (te:TE) (H1:Hp) (Q:VK):Prop:=∃ W:Nat->Nat->List V->Hp->Prop,(∃ m,W 0 m [] H1)/\∀ i m ys H,W i m ys H->
 (J.stop i H/\∀ D,H D=none->Q (.ref D) (upd H D (.lst ys)))\/
 (J.go i H/\ys.length < sizeLine/\∃ N:List V->Hp->Prop,(∀ ys' H',N ys' H'->∃ m',m' < m/\W (i+1) m' ys' H')/\∀ x H',J.yld i H x H'->g x σe H' λσ2 H2=>Sub σe σ2/\tt σ2 H2 λb H3=>if b=true then te σ2 H3 λv H4=>N (ys++[v]) H4 else N ys H3)
noncomputable def tLc (emb:St->St) (wi:TI) (g:TG) (tt:TT) (te:TE):TE:=λσ H Q=>wi σ H λJ H1=>y8 J (emb σ) g tt te H1 Q
section
variable {X:Cx}{scope:Scope}{Nc:List Str}{emb:St->St}{elt iter tg:Expr}{ifs:List Expr}{pos:Pos}{wi:TI}{g:TG}{tt:TT}{te:TE}
theorem yP (S:gy X scope Nc emb) (hc:X.calm=true) (hi:PI X tg iter wi)
  (hg:∀ cells s H C fp,PG (lcX X scope cells Nc s H C fp) tg g) (ht:∀ cells s H C fp,PTs (lcX X scope cells Nc s H C fp) ifs tt) (he:∀ cells s H C fp,PE (lcX X scope cells Nc s H C fp) elt te)
  (hs:∀ x,foldedSetIterable iter X.env x=pure x:=by intro _;rfl):PE X (.ListComp elt [⟨tg,iter,ifs,0⟩] scope pos) (tLc emb wi g tt te):=by
 intro pins s σ H Q I h
 rw [eval_ListComp]
 refine wpAny_comprehension_free (use:=none) rfl hs (i6 (S.clos I.ok)) S.kind (λx hx hl=>fY S.nd (by rw [<-hl];exact hx)) ?_
 refine thn (hi pins s σ H _ I h) λv s1 h1=>thn h1 λitv s2 h2=>?_
 obtain⟨it,fp,tn,J,H2,e,I2,T,st2,f2,W,⟨m0,w0⟩,turn⟩:=h2
 subst e
 refine wpAny_newObj_type (jN ?_)
 rw [show (s2.heap.push { cls:=.type "list",dict:=none,data:=.seq ([]:List Value).toArray }).objs.size=s2.heap.objs.size+1 from Heap.size_push ..]
 generalize hD:s2.heap.objs.size=D
 generalize hlo:({ cls:=.type "list",dict:=none,data:=.seq ([]:List Value).toArray }:Obj)=lo
 have fplt:∀ b ∈ fp,b < s2.heap.objs.size:=λb hb=>by obtain⟨o,e,_⟩:=T.obj _ _ st2 b hb;exact Heap.lt_size e
 have I3:=pJ (lo:=lo) S I2 f2 (λb hb=>by obtain⟨o,e,_⟩:=T.obj _ _ st2 b hb;exact⟨o,e⟩) (by rw [<-hlo];intro v z;cases z) (by rw [<-hlo];rfl)
 rw [hD] at I3
 generalize hcells:cellsFrom (D+2) scope.names (cy X.env.cells scope.names [])=cells at I3
 generalize hX':lcX X scope cells Nc s2 H2 (D+1) fp=X' at I3
 have hfpX:∀ {H':Hp}{ps:List (Addr×Obj)},(∀ b ∈ fp,H' b=none)->(∀ p ∈ ps,p.1=D)->∀ b ∈ fp,jG X' ps H' b:=λ{H' ps} hn hps b hb=>by
  have ok:=I3.ok
  refine⟨hn b hb,?_,?_,.inl (by rw [<-hX'];exact hb),?_,λp hp=>?_⟩
  ·exact (ok.exf b (by rw [<-hX'];exact hb)).1
  ·exact ok.exfs b (by rw [<-hX'];exact hb)
  ·exact (ok.exf b (by rw [<-hX'];exact hb)).2
  ·have hp':p ∈ ([]:List (Addr×Obj))++ps:=by rw [<-hX'] at hp;exact hp
   have e:p.1=D:=hps p (by simpa using hp')
   rw [e,<-hD]
   exact Nat.ne_of_gt (fplt b hb)
 have Dex:D ∈ X'.ex\/X'.s₀.heap.objs.size<=D:=.inr (by rw [<-hX',<-hD];exact Nat.le_refl _)
 have Dloc:D≠X'.env.locals:=by rw [<-hX'];exact Nat.ne_of_lt (Nat.lt_succ_self _)
 have pD:=I3.pin (D,lo) (by rw [<-hX'];exact List.mem_append_right _ List.mem_cons_self)
 have Dfs:D ∉ X'.fs:=pD.2.2.2.1
 have Dcell:∀ x c,X'.env.cells.lookup x=some c->c≠D:=λx c hc' e=>by
  obtain⟨v,o,ho,hd⟩:=I3.cell x c hc'
  rw [e,pD.1] at ho
  cases ho
  exact pD.2.2.2.2 v hd
 -- the loop
 have loop:∀ s3:Shared,s3={ s2 with heap:=pushCells ((s2.heap.push lo).push { cls:=.type "dict",data:=.dict #[] }) scope.names }->
   codeAny (model X.prog X.w) X.A (.compLoop (.ListComp elt [⟨tg,iter,ifs,0⟩] scope pos) 0 (.ref it) (.ref D) (compEnvC scope cells (D+1) X.env))
    (compPost (model X.prog X.w) X.A X.xe none (EP X pins σ Q) (.ref D) (D+1)) s3:=by
  rintro s3 rfl
  refine fL (λn s'=>∃ i ys its k H',Inv X' [(D,{ cls:=.type "list",data:=.seq its.toArray k })] (emb σ) H' s'/\bx ys its/\tn i s'.heap/\(∀ b ∈ fp,H' b=none)/\ys.length<=sizeLine/\W i n ys H') ?_ m0
   ⟨0,[],[],0,H2,?_,.nil,?_,λb hb=>(f2 b hb).1,Nat.zero_le _,w0⟩
  ·rintro n s4 ⟨i,ys,its,k,H4,I4,rv,st4,fr4,hlen,w4⟩
   have hps:∀ p ∈ [(D,({ cls:=.type "list",data:=.seq its.toArray k }:Obj))],p.1=D:=λp hp=>by
    have:=List.mem_singleton.mp hp
    rw [this]
   rcases turn i n ys H4 w4 with⟨stop,qn⟩ | ⟨go,hlt,N,hN,step⟩
   ·-- the end
    have TD:=T.done X' (by rw [<-hX'];rfl) (by rw [<-hX'];rfl) (by rw [<-hX'];rfl) (by rw [<-hX'];exact hc) i _ s4 (emb σ) H4 (λ_ _=>False) I4 (hfpX fr4 hps) st4 stop
    rw [show X'.A=X.A by rw [<-hX'];rfl] at TD
    refine thn TD λr s5 ⟨hr,I5⟩=>?_
    subst hr
    obtain⟨m5,hn5,_⟩:=id I5.loc
    have eC:X'.env.locals=D+1:=by rw [<-hX'];rfl
    rw [eC] at hn5
    refine⟨m5,hn5,λh' hsb=>?_⟩
    have pD5:=I5.pin (D,{ cls:=.type "list",data:=.seq its.toArray k }) (by rw [<-hX'];exact List.mem_append_right _ List.mem_cons_self)
    have neC:∀ b u,H4 b=some u->b≠D+1:=λb u e z=>by
     have:=I5.free
     rw [eC,<-z,e] at this
     cases this
    have hD4:H4 D=none:=pD5.2.1
    have un:=I5.base
    have un':Un (frs X.stack) fp H2 H4 s2.heap s5.heap:=by rw [<-hX'] at un;exact un
    have old_ne:∀ b o,s2.heap.get? b=some o->b≠D/\b≠D+1:=λb o e=>by
     have q:=Heap.lt_size e
     rw [hD] at q
     exact⟨Nat.ne_of_lt q,Nat.ne_of_lt (Nat.lt_succ_of_lt q)⟩
    have h2D:H2 D=none:=by rw [<-hD];exact I2.fresh
    have hok':HOk X.prog X.w H4 h':=λb u e=>by
     have ob:cP X.prog X.w H4 s5.heap b u:=by have:=I5.hok b u e;rw [<-hX'] at this;exact this
     refine ob.stay (λc v hcv q=>(hsb.2 c ?_).trans q) (λ_ q=>q) λ_ _ q=>q
     rcases hcv with z | z
     ·rw [z];exact neC b u e
     ·exact neC c _ z
    have hokD:HOk X.prog X.w (upd H4 D (.lst ys)) h':=λb u e=>by
     by_cases hb:b=D
     ·subst hb
      rw [bG] at e
      cases e
      exact⟨hlen,its,k,rv,(hsb.2 b (Nat.ne_of_lt (Nat.lt_succ_self _))).trans pD5.1⟩
     ·rw [bA hb] at e
      refine (hok' b u e).stay (λ_ _ _ q=>q) (λc q=>?_) λc z q=>?_
      all_goals first
       | (rw [bA (bB q hD4)];exact q)
       | (rw [bA (bB z hD4)];exact z)
    refine⟨.ref D,upd H4 D (.lst ys),?_,rfl,qn D hD4⟩
    refine I2.call' (s':={ s5 with heap:=h' }) (ch:=fp) ?_ ⟨λb o e nb hb hx=>?_,λb o e nb hb hx=>?_,λb o e nb hx=>?_,λb o e hx=>?_,λb xs e=>?_,λb o u e=>?_,λb ps e=>?_⟩ hokD I5.bare (λb hb=>?_)
    ·have:=I5.os
     rw [<-hX'] at this
     exact this
    ·exact (hsb.2 b (old_ne b o e).2).trans (un'.keep b o e nb hb hx)
    ·obtain⟨sl,q⟩:=un'.slot b o e nb hb hx
     exact⟨sl,(hsb.2 b (old_ne b o e).2).trans q⟩
    ·rw [bA (old_ne b o e).1]
     exact un'.free b o e nb hx
    ·obtain⟨o',q⟩:=un'.there b o e hx
     exact⟨o',(hsb.2 b (old_ne b o e).2).trans q⟩
    ·rw [bA (bB e h2D)]
     exact un'.tups b xs e
    ·rw [bA (bB e h2D)]
     exact un'.frzs b o u e
    ·obtain⟨m,q⟩:=un'.tbls b ps e
     exact⟨m,by rw [bA (bB e h2D)];exact q⟩
    ·obtain⟨q0,q1,q2,q3,q4,q5⟩:=f2 b hb
     exact⟨q3,q1,q4,q5⟩
   ·-- a turn
    have hA:X'.A=X.A:=by rw [<-hX'];rfl
    have hP:X'.prog=X.prog:=by rw [<-hX'];rfl
    have hw:X'.w=X.w:=by rw [<-hX'];rfl
    have hE:X'.env=compEnvC scope cells (D+1) X.env:=by rw [<-hX'];rfl
    have hxe:X'.xe=λ_ _=>False:=by rw [<-hX'];rfl
    have TI':=T.item X' hP hw (by rw [<-hX'];rfl) (by rw [<-hX'];exact hc) i _ s4 (emb σ) H4 (λ_ _=>False) I4 (hfpX fr4 hps) st4 go
    rw [hA] at TI'
    refine thn TI' λr s5 ⟨u,hr,h5⟩=>?_
    subst hr
    refine thn h5 λ_ s6 ⟨x,H6,I6,r6,y6,st6,fr6⟩=>?_
    have I6':=I6.pinned (hfpX fr6 hps) (T.obj _ _ st6)
    have G:=hg cells s2 H2 (D+1) fp
    have TT':=ht cells s2 H2 (D+1) fp
    have EE:=he cells s2 H2 (D+1) fp
    rw [hX'] at G TT' EE
    have G':=G _ s6 (emb σ) H6 x u _ I6' r6 (step x H6 y6)
    rw [hA,hP,hw,hE,hxe] at G'
    refine thn G' λ_ s7 ⟨σ7,H7,I7,sb7,q7⟩=>?_
    have T':=TT' _ s7 σ7 H7 _ I7 q7
    rw [hA,hP,hw,hE,hxe] at T'
    refine thn T' λok s8 ⟨H8,I8,q8⟩=>?_
    -- what is pinned
    have pin_fp:∀ {σ9:St}{H9:Hp}{s9:Shared},Inv X' ([(D,({ cls:=.type "list",data:=.seq its.toArray k }:Obj))]++kr fp s6.heap) σ9 H9 s9->tn (i+1) s9.heap/\∀ b ∈ fp,H9 b=none:=λ{σ9 H9 s9} I9=>
     ⟨T.keep _ _ _ st6 λb hb o e=>(I9.pin (b,o) (List.mem_append_right _ (List.mem_append_right _ (ek hb e)))).1,λb hb=>by
      obtain⟨o,e,_⟩:=T.obj _ _ st6 b hb
      exact (I9.pin (b,o) (List.mem_append_right _ (List.mem_append_right _ (ek hb e)))).2.1⟩
    cases ok with
    | false=>
     rw [if_neg (by decide)] at q8
     rw [if_neg (by decide)]
     obtain⟨m',hm,w8⟩:=hN _ _ q8
     exact⟨m',hm,i+1,ys,its,k,H8,I8.unpinned.weak sb7.1 sb7.2,rv,(pin_fp I8).1,(pin_fp I8).2,hlen,w8⟩
    | true=>
     rw [if_pos rfl] at q8
     rw [if_pos rfl]
     have E':=EE _ s8 σ7 H8 _ I8 q8
     rw [hA,hP,hw,hE,hxe] at E'
     refine thn E' λy s9 ⟨v9,H9,I9,r9,n9⟩=>?_
     obtain⟨m',hm,w9⟩:=hN _ _ n9
     have pD9:=I9.pin (D,{ cls:=.type "list",data:=.seq its.toArray k }) (List.mem_append_right _ (List.mem_append_left _ List.mem_cons_self))
     have hl:=rv.length
     have I9n:Inv X' [] σ7 H9 s9:=I9.pins_of λp hp=>nomatch hp
     refine call_meets F.slot_list_append ⟨_,pD9.1,rfl⟩ F.entry_list_append (F.args_list_append_2 _ _) (PySem.list_append D its.toArray k y (by rw [List.size_toArray];lia)) ⟨pD9.1,?_⟩
     have up:∃ k':Nat,(s9.heap.update D (Obj.mapSeq λxs=>xs.push y)).get? D=some { cls:=.type "list",data:=.seq (its++[y]).toArray k' }:=by
      have q:=PySem.IsL.update pD9.1 (λxs:Array Value=>xs.push y)
      simp only [List.push_toArray] at q
      exact⟨_,q⟩
     obtain⟨k',up⟩:=up
     have hoth:∀ b o,b≠D->s9.heap.get? b=some o->(s9.heap.update D (Obj.mapSeq λxs=>xs.push y)).get? b=some o:=λb o hb e=>(Heap.get?_update_other s9.heap _ (Ne.symm hb)).trans e
     have I10:=I9n.turned (t':=s9.toks) hoth pD9.2.1 Dloc Dex Dcell (λp hp=>absurd (show p ∈ ([]:List (Addr×Obj)) by rw [<-hX'] at hp;exact hp) (by simp))
     refine⟨m',hm,i+1,ys++[v9],its++[y],k',H9,(I10.weak sb7.1 sb7.2).pins_of (λp hp=>?_),rv.append (.cons r9 .nil),T.keep _ _ _ (pin_fp I9).1 (λb hb o e=>hoth b o (by rw [<-hD];exact Nat.ne_of_lt (fplt b hb)) e),(pin_fp I9).2,?_,w9⟩
     ·have:=List.mem_singleton.mp hp
      subst this
      exact⟨up,pD9.2.1,Dloc,Dfs,λv z=>by cases z⟩
     ·rw [List.length_append,List.length_singleton]
      lia
  ·have q:lo={ cls:=.type "list",data:=.seq ([]:List Value).toArray 0 }:=hlo.symm
   rw [<-q]
   exact I3
  ·exact T.keep _ _ _ st2 λb hb o e=>pushCells_keeps _ _ b o (Heap.get?_push_of_some _ (Heap.get?_push_of_some _ e))
 refine codeAny_compStart_list ?_ ?_
 ·exact loop _ rfl
 ·refine T.self X.A 0 _ _ _ (T.keep _ _ _ st2 λb hb o e=>pushCells_keeps _ _ b o (Heap.get?_push_of_some _ (Heap.get?_push_of_some _ e))) ?_
  exact loop _ rfl
end
end L2
namespace L2
open PySem PySem.Spec PyProof.Rows
open PySem.AutoSeq1 (wpAny_loadPart')
section
variable {prog:Program}{w:World}{A:Around}{E:Value->Shared->Prop}{s:Shared}
end
section
variable {X:Cx}{pins:List (Addr×Obj)}{σ:St}{H:Hp}{s:Shared}{h':Heap}{fp:List Addr}
theorem jG.ch (hf:∀ b ∈ fp,jG X pins H b):∀ b ∈ fp,(b ∈ X.ex\/X.s₀.heap.objs.size<=b)/\b≠X.env.locals/\(∀ x c,X.env.cells.lookup x=some c->c≠b)/\∀ p ∈ X.pn++pins,p.1≠b:=λb hb=>
 let ⟨_,f1,_,f3,f4,f5⟩:=hf b hb
 ⟨f3,f1,f4,f5⟩
theorem Inv.turns {t':Nat} (I:Inv X pins σ H s) (hf:∀ b ∈ fp,jG X pins H b) (k:∀ b o,b ∉ fp->s.heap.get? b=some o->h'.get? b=some o):Inv X pins σ H { s with heap:=h',toks:=t' }:=by
 have nit:∀ b u,H b=some u->b ∉ fp:=λb u e z=>by have:=(hf b z).1;rw [e] at this;cases this
 refine I.step (g':=s.gens) (d':=s.drawn) (ch:=fp) (jG.ch hf) (λb o _ _ hc e _=>k b o hc e) (λb o _ _ hc e _=>⟨o.slots,k b o hc e⟩) (λ_ _ _ _ n=>n)
  (λb o hc e=>⟨o,k b o hc e⟩) (λ_ _ e=>e) (λ_ _ _ e=>e) (λb ps e=>⟨#[],by rw [e];simp⟩) (λm hm=>?_) (λb u e=>?_) I.bare
 ·obtain⟨o,es,ep,ho,r⟩:=hm
  exact⟨o,es,ep,k _ o (λz=>(hf _ z).2.1 rfl) ho,r⟩
 ·refine (I.hok b u e).stay (λc v hc q=>k c v ?_ q) (λ_ q=>q) λ_ _ q=>q
  rcases hc with z | z
  ·rw [z];exact nit b u e
  ·exact nit c _ z
end
end L2
namespace L2
open PySem PySem.Spec PyProof.Rows
section
variable {X:Cx}
theorem pY {ns:List Int}:∀ {us:List Value},bx (ns.map V.int) us->∃ xs:Array (Int×Tok),us.toArray=intItems xs/\xs.toList.map (·.1)=ns:=by
 induction ns with
 | nil=>intro us r;cases r;exact⟨#[],by simp [intItems],rfl⟩
 | cons n ns ih=>
  intro us r
  rw [List.map_cons] at r
  cases r with
  | cons r rr=>
   obtain⟨t,rfl⟩:=r
   obtain⟨xs,e,e2⟩:=ih rr
   refine⟨#[(n,t)]++xs,?_,by simp [e2]⟩
   apply Array.toList_inj.mp
   have e':=congrArg Array.toList e
   simp [intItems] at e' ⊢
   exact e'
theorem sQ:dJ X (.builtin "sum") (λxs H Q=>X.calm=true/\∃ (a:Addr) (ns:List Int),xs=[.ref a]/\SqL X.K H a (ns.map V.int)/\Q (.int ns.sum) H):=by
 intro pins s σ H xs us Q I rv h
 obtain⟨hc,a,ns,rfl,hq,q⟩:=h
 cases rv with
 | cons r rr=>
  cases rr
  cases r
  obtain⟨its,rv,p,hz⟩:=I.list hq
  obtain⟨ps,e1,e2⟩:=pY rv
  have hl:=p.isList
  rw [e1] at hl
  refine sum_intListG (I.ok.hd hc) hl λh' tk t' hk=>?_
  refine⟨.int ns.sum,H,I.kept (t':=tk) hk,⟨t',?_⟩,q⟩
  rw [preSum_eq,List.take_of_length_le (by simp),e2]
theorem sR:dJ X (.builtin "all") (λxs H Q=>X.calm=true/\∃ (a:Addr) (bs:List Bool),xs=[.ref a]/\SqL X.K H a (bs.map V.bl)/\Q (.bl (bs.all id)) H):=by
 intro pins s σ H xs us Q I rv h
 obtain⟨hc,a,bs,rfl,hq,q⟩:=h
 cases rv with
 | cons r rr=>
  cases rr
  cases r
  obtain⟨its,rv,p,hz⟩:=I.list hq
  have hlt:a < s.heap.objs.size:=by obtain⟨_,_,e,_⟩:=p;exact Heap.lt_size e
  have hlen:its.length=bs.length:=by have:=rv.length;simpa using this.symm
  refine call_all_walk (wpAny_pyIter_list p.isList ?_)
  refine⟨s.heap.objs.size,_,_,_,_,_,λi=>(bs[i]?).getD true,rfl,Walks.list (A:=X.A.in1) (I.ok.hd hc) s.heap.objs.size a (Nat.ne_of_lt hlt) its.toArray,⟨⟨_,Heap.get?_push_size _ rfl,rfl,rfl⟩,p.isList.push _⟩,?_,λh' tk hk=>?_⟩
  ·intro i v s' Q' E' hv hQ'
   have hv':its[i]?=some v:=by simpa using hv
   have hi:i < its.length:=(List.getElem?_eq_some_iff.mp hv').1
   obtain⟨b,hb⟩:∃ b,bs[i]?=some b:=⟨bs[i]'(by lia),by simp [show i < bs.length by lia]⟩
   have:(bs.map V.bl)[i]?=some (.bl b):=by rw [List.getElem?_map,hb];rfl
   obtain⟨u,hu,ru⟩:=rv.get this
   rw [hv'] at hu
   cases hu
   cases ru
   have hQ2:Q' ((bs[i]?).getD true) s':=hQ'
   rw [hb] at hQ2
   exact wpAny_truthy_bool hQ2
  ·refine⟨.bl (bs.all id),H,I.kept (t':=tk) (λb o e=>hk b o (λz=>absurd (Heap.lt_size e) (by rw [List.mem_singleton.mp z];exact Nat.lt_irrefl _)) (Heap.get?_push_of_some _ e)),?_,q⟩
   show Value.bool _=Value.bool _
   congr 1
   have:∀ n,n=bs.length->((List.range n).all λi=>(bs[i]?).getD true)=bs.all id:=by
    intro n hn
    rw [Bool.eq_iff_iff,List.all_eq_true,List.all_eq_true]
    constructor
    ·intro h b hb
     obtain⟨i,hi,e⟩:=List.mem_iff_getElem.mp hb
     have:=h i (List.mem_range.mpr (by lia))
     simp [hi,e] at this
     exact this
    ·intro h i hi
     have hi':=List.mem_range.mp hi
     have hlt':i < bs.length:=by lia
     simp [hlt']
     exact h _ (List.getElem_mem _)
   exact this _ (by simpa using hlen)
end
end L2
namespace L2
open PySem PySem.Spec PyProof.Rows
noncomputable def im (k:Nat) (js:List Nat) (σ:St):St:=List.replicate k none++js.map λj=>(σ[j]?).getD none
noncomputable def zJ (scope:Scope) (ns:List (Str×NameKind)) (N Nc:List Str) (k:Nat) (js:List Nat):Bool:=
 decide ((scope.names.map (·.1)).Nodup) && decide Nc.Nodup && decide (Nc.length=k+js.length) &&
 (scope.names.all λx=>x.2 != .free || ns.lookup x.1==some .cell || ns.lookup x.1==some .free) &&
 ((List.range js.length).all λi=>match Nc[k+i]?,js[i]? with | some x,some j=>N[j]?==some x && scope.names.lookup x==some .free | _,_=>false)
theorem md {X:Cx}{scope:Scope} (ns:List (Str×NameKind)) (N Nc:List Str) (k:Nat) (js:List Nat) (hns:X.env.scope.names=ns) (hN:X.N=N) (hk:scope.kind=.function) (h:zJ scope ns N Nc k js=true):gy X scope Nc (im k js):=by
 unfold zJ at h
 simp only [Bool.and_eq_true,decide_eq_true_eq] at h
 obtain⟨⟨⟨⟨h1,h2⟩,h3⟩,h4⟩,h5⟩:=h
 refine⟨hk,h1,h2,λx hx hf=>?_,λσ _=>?_,λσ _ i x v e1 e2=>?_⟩
 ·have:=List.all_eq_true.mp h4 x hx
  rw [hf] at this
  simp only [Bool.or_eq_true,beq_iff_eq,bne_self_eq_false,Bool.false_eq_true,false_or] at this
  unfold Env.kindOf
  rw [hns]
  exact this
 ·unfold im
  rw [List.length_append,List.length_replicate,List.length_map,h3]
 ·unfold im at e2
  by_cases hi:i < k
  ·rw [List.getElem?_append_left (by simpa using hi),List.getElem?_replicate,if_pos hi] at e2
   cases e2
  ·rw [List.getElem?_append_right (by simpa using hi),List.length_replicate,List.getElem?_map] at e2
   cases ej:js[i - k]? with
   | none=>rw [ej] at e2;cases e2
   | some j=>
    rw [ej] at e2
    have hlt:=(List.getElem?_eq_some_iff.mp ej).1
    have:=List.all_eq_true.mp h5 (i - k) (List.mem_range.mpr hlt)
    rw [show k+(i - k)=i by lia,e1,ej] at this
    simp only [Bool.and_eq_true,beq_iff_eq] at this
    refine⟨j,by rw [hN];exact this.1,?_,this.2⟩
    have e3:(σ[j]?).getD none=some v:=Option.some.inj e2
    cases eq:σ[j]? with
    | none=>rw [eq] at e3;cases e3
    | some o=>rw [eq] at e3;rw [show o=some v from e3]
section
variable {σe tl:St}{tt:TT}{te:TE}{H:Hp}{Q:VK}
end
section
variable {X:Cx}
theorem ww:OpR X (binaryOp .Mult) (rI IntMulOk λi j=>.int (i*j)):=opI λ_ _ _ _ _ _ _ hc q=>mul_int q hc
end
theorem bJ.new {H:Hp}{p:Addr} (h:H p=none) (o:HO):bJ H (upd H p o):=λb u q=>by rw [bA (bB q h)];exact q
end L2
namespace L2
open PySem PySem.Spec PyProof.Rows
theorem rF {n:Nat} (h:n<=1000):n<=sizeLine:=Nat.le_of_lt (ng h)
end L2
namespace L2
open PySem PySem.Spec PyProof.Rows
theorem zV:IntMulOk (10 ^ Int.toNat 60) (10 ^ Int.toNat 60):=by unfold IntMulOk;decide +kernel
theorem zT:IntMulOk (10 ^ Int.toNat 60*10 ^ Int.toNat 60) (10 ^ Int.toNat 60):=by unfold IntMulOk;decide +kernel
theorem zZ:IntMulOk (10 ^ Int.toNat 60*10 ^ Int.toNat 60*10 ^ Int.toNat 60) (10 ^ Int.toNat 60):=by unfold IntMulOk;decide +kernel
theorem oi:(0:Int) < 10 ^ Int.toNat 60*10 ^ Int.toNat 60*10 ^ Int.toNat 60*10 ^ Int.toNat 60:=by decide +kernel
theorem zp (b:Bool):-(2 ^ 64) < (if b=true then (1:Int) else 0):=by cases b<;>decide
theorem zd (b:Bool):(if b=true then (1:Int) else 0) < 2 ^ 64:=by cases b<;>decide
theorem xn (b:Bool):0<=(if b=true then (1:Int) else 0):=by cases b<;>decide
theorem p60:oF 10 60:=⟨by decide,by decide,by decide⟩
theorem p18:oF 10 18:=⟨by decide,by decide,by decide⟩
end L2
namespace L2
open PySem PySem.Spec PyProof.Rows
open PySem.AutoSeq1 (wpAny_loadPart')
theorem uQ (l:Addr) (items:Array Value) (n:Nat) (dct:Option Addr) (sl:Array (Option Value)) (u:Tok) :
  Meets (Builtin.«tuple.__mul__» ⟨[.ref l,.int 1 u],[]⟩) (λ_ R s=>s.heap.get? l=some { cls:=.type "tuple",dict:=dct,data:=.seq items n,slots:=sl }/\R (.ok (.ret (.ref l))) s):=
 .of_wp λprog w A R s h=>by
  obtain⟨hp,g,d,tk,os⟩:=s;obtain⟨hl,h⟩:=h
  wp_walk using wpAny_loadPart' hl
  exact⟨_,rfl,h⟩
theorem sD (l:Addr) (items:Array Value) (n:Nat) (dct:Option Addr) (sl:Array (Option Value)) (x:Int) (u:Tok) (h2:2<=x) (h3:x < 1000) (he:items.isEmpty=false) (hz:items.size<=1000)
  (hsz:((List.replicate x.toNat items).foldl (λx1 x2=>x1++x2) #[]).size<=sizeLine) :
  Meets (Builtin.«tuple.__mul__» ⟨[.ref l,.int x u],[]⟩) (λ_ R s=>s.heap.get? l=some { cls:=.type "tuple",dict:=dct,data:=.seq items n,slots:=sl }/\
   R (.ok (.ret (.ref s.heap.objs.size))) { s with heap:=s.heap.push { cls:=.type "tuple",data:=.seq ((List.replicate x.toNat items).foldl (λx1 x2=>x1++x2) #[]) } }):=
 .of_wp λprog w A R s h=>by
  obtain⟨hp,g,d,tk,os⟩:=s;obtain⟨hl,h⟩:=h
  have c1:(x < -(2 ^ 63) || x>=2 ^ 63)=false:=by simp;lia
  have c2:(items.isEmpty || x==1)=false:=by rw [he];simp;lia
  have c3:(x<=0 || items.isEmpty)=false:=by rw [he];simp;lia
  have hpr:(items.size:Int)*x<=1000000:=by
   have a1:(items.size:Int)*x<=1000*x:=Int.mul_le_mul_of_nonneg_right (by lia) (by lia)
   lia
  have c4:¬ ((items.size:Int)*x > (2 ^ 63 - 1) / 8):=by lia
  have c5:Builtin.Tuple.tupleTooMany ((items.size:Int)*x)=false:=by
   unfold Builtin.Tuple.tupleTooMany
   exact decide_eq_false (by have:(sizeLine:Nat)=16777216:=rfl
                             lia)
  wp_walk using wpAny_loadPart' hl
  refine wpAny_ite_false (decide_eq_false (by rw [c1];exact Bool.false_ne_true)) ?_
  wp_walk using wpAny_loadPart' hl
  refine wpAny_ite_false (decide_eq_false (by rw [c2];exact Bool.false_ne_true)) ?_
  wp_walk using wpAny_loadPart' hl
  refine wpAny_ite_false (decide_eq_false (by rw [c3];exact Bool.false_ne_true)) ?_
  wp_walk using wpAny_loadPart' hl
  refine wpAny_ite_false (decide_eq_false c4) ?_
  wp_walk using wpAny_loadPart' hl
  exact⟨_,rfl,h⟩
theorem kl:fillsNumberSlot (.type "tuple") "mul" = pure false:=
 PySem.fillsNumberSlot_seq (id:="tuple.__mul__") (r:=some (.builtin "tuple.__rmul__")) F.slot_tuple_mul.lookup (by decide +kernel) F.slot_tuple_rmul.lookup (by decide +kernel)
theorem om:seqRepeat? (.type "tuple")=pure (some (.builtin "tuple.__mul__")):=by
 unfold seqRepeat?
 rw [PySem.seqSlot_of (T:="tuple") (name:="__mul__") (id:="tuple.__mul__") F.slot_tuple_mul.lookup (by decide +kernel),PySem.seqSlot_of (T:="tuple") (name:="__rmul__") (id:="tuple.__rmul__") F.slot_tuple_rmul.lookup (by decide +kernel)]
 rfl
theorem lJ (a:Int) (t:Tok) (l:Addr) (items:Array Value) (n:Nat) (dct:Option Addr) (sl:Array (Option Value)) :
  Meets (Builtin.«int.__rmul__» ⟨[.int a t,.ref l],[]⟩) (λ_ R s=>s.heap.get? l=some { cls:=.type "tuple",dict:=dct,data:=.seq items n,slots:=sl }/\R (.ok (.ret Value.notImplemented)) s):=
 .of_wp λprog w A R s h=>by obtain⟨hp,g,d,tk,os⟩:=s;obtain⟨hl,h⟩:=h;wp_walk using wpAny_loadPart' hl;exact⟨_,rfl,h⟩
section
variable {X:Cx}
noncomputable def zv (K:PySem.W.Frag):R2:=λx y H Q=>∃ l k xs,x=.ref l/\y=.int k/\SqT K H l xs/\xs≠[]/\xs.length<=1000/\1<=k/\k < 1000/\(k=1->Q (.ref l) H)/\
 (k≠1->∀ p,H p=none->Q (.ref p) (upd H p (.tup (List.replicate k.toNat xs).flatten)))
theorem vw:OpR X (binaryOp .Mult) (zv X.K):=by
 intro pins s σ H x y v u Q I rx ry h
 obtain⟨l,k,xs,rfl,rfl,hq,hne,hl1,h1,h2,q1,q2⟩:=h
 cases rx
 obtain⟨t,rfl⟩:=ry
 obtain⟨its,rv,p,hz⟩:=I.tuple hq
 obtain⟨⟨c,dct,dt,sl⟩,e,hc,n,hd⟩:=p
 replace hc:c=.type "tuple":=hc
 replace hd:dt=.seq its.toArray n:=hd
 subst hc hd
 have hlen:=rv.length
 refine wpAny_binaryOp_repeat_ref (T:="tuple") (U:="int") (by decide) ⟨_,e,rfl⟩ (λs'=>typeIs_int s' k t) kl F.fills_int_mul F.slot_int_rmul om F.slot_int_index.lookup
  (call_meets F.slot_int_rmul (typeIs_int s k t) F.entry_int_rmul (F.args_int_rmul_2 _ _) (lJ k t l its.toArray n dct sl) ⟨e,rfl,⟨_,e,rfl⟩,?_⟩)
 by_cases hk:k=1
 ·subst hk
  exact call_meets F.slot_tuple_mul ⟨_,e,rfl⟩ F.entry_tuple_mul (F.args_tuple_mul_2 _ _) (uQ l its.toArray n dct sl t) ⟨e,.ref l,H,I,rfl,q1 rfl⟩
 ·have f0:List.foldl (λx1 x2=>x1++x2) #[] (List.replicate k.toNat its.toArray)=(List.replicate k.toNat its).flatten.toArray:=by
   have:=ko its k.toNat []
   rw [List.nil_append] at this
   exact this
  have hsz:(List.replicate k.toNat xs).flatten.length<=sizeLine:=by
   rw [nX]
   have:k.toNat*xs.length<=1000*1000:=Nat.mul_le_mul (by lia) hl1
   have hs:sizeLine=16777216:=rfl
   lia
  have hsz2:(List.replicate k.toNat its).flatten.length<=sizeLine:=by
   rw [nX] at hsz ⊢
   rw [<-hlen];exact hsz
  refine call_meets F.slot_tuple_mul ⟨_,e,rfl⟩ F.entry_tuple_mul (F.args_tuple_mul_2 _ _) (sD l its.toArray n dct sl k t (by lia) h2 ?_ (by rw [List.size_toArray];lia) (by rw [f0,List.size_toArray];exact hsz2)) ⟨e,?_⟩
  ·cases its with
   | nil=>cases xs with
    | nil=>exact absurd rfl hne
    | cons _ _=>cases hlen
   | cons _ _=>rfl
  ·rw [f0]
   refine⟨.ref _,_,I.laid (t':=s.toks) (o:=.tup (List.replicate k.toNat xs).flatten) (λ_ _ q=>Heap.get?_push_of_some _ q) (Nat.le_refl _) ⟨hsz,(List.replicate k.toNat its).flatten,rv.rep k.toNat,⟨_,Heap.get?_push_size _ rfl,rfl,⟨0,rfl⟩,rfl⟩⟩,rfl,q2 hk _ I.fresh⟩
end
end L2
namespace L2
open PySem PySem.Spec PyProof.Rows
end L2
namespace L2
open PySem PySem.Spec PyProof.Rows
section
variable {X:Cx}{K:PySem.W.Frag}
theorem yM (hc:X.calm=true:=by rfl) (hK:X.K=K:=by rfl):dJ X (.builtin "sum") (λxs H Q=>∃ (a:Addr) (ns:List Int),xs=[.ref a]/\SqL K H a (ns.map V.int)/\Q (.int ns.sum) H):=by
 subst hK
 intro pins s σ H xs us Q I rv h
 exact sQ pins s σ H xs us Q I rv ⟨hc,h⟩
theorem zf (hc:X.calm=true:=by rfl) (hK:X.K=K:=by rfl):dJ X (.builtin "all") (λxs H Q=>∃ (a:Addr) (bs:List Bool),xs=[.ref a]/\SqL K H a (bs.map V.bl)/\Q (.bl (bs.all id)) H):=by
 subst hK
 intro pins s σ H xs us Q I rv h
 exact sR pins s σ H xs us Q I rv ⟨hc,h⟩
end
end L2
namespace L2
open PySem PySem.Spec PyProof.Rows
section
variable {X:Cx}
end
end L2
namespace L2
open PySem PySem.Spec PyProof.Rows
theorem nG {n j:Nat} (h:j < n):ixN n (j:Int)=some j:=by
 unfold ixN
 rw [if_pos (by lia),if_pos (by lia),Int.toNat_natCast]
end L2
namespace L2
open PySem PySem.Spec PyProof.Rows
theorem Inv.bigG {X:Cx}{pins:List (Addr×Obj)}{σ:St}{H:Hp}{s:Shared} (I:Inv X pins σ H s):sysModules < s.heap.objs.size:=by
 have h:mainGlobals < s.heap.objs.size:=(I.mod.glob.keeps I.bk).lt
 exact Nat.lt_trans (by decide) h
section
variable {X:Cx}{e:Expr}{ty:TE}{p1 p2 p3 p4 dpos apos cpos:Pos}{j1 j2 j3 j4:Nat}
end
end L2
namespace L2
open PySem PySem.Spec PyProof.Rows
end L2
namespace L2
open PySem PySem.Spec PyProof.Rows
open PySem.AutoSeq1 (wpAny_loadPart')
section
variable {prog:Program}{w:World}{A:Around}{E:Value->Shared->Prop}{s:Shared}
end
section
variable {X:Cx}
end
section
variable {prog:Program}{w:World}{A:Around}{E:Value->Shared->Prop}{s:Shared}
end
section
variable {X:Cx}{e:Expr}{te:TE}{p1 p2 p3 pos:Pos}{j:Nat}
end
end L2
namespace L2
open PySem PySem.Spec PyProof.Rows
end L2
namespace L2
open PySem PySem.Spec PyProof.Rows
theorem bx.at {xs:List V}{us:List Value} (r:bx xs us):∀ (j:Nat) (h:j < us.length) ,∃ h':j < xs.length,br xs[j] us[j]:=by
 induction r with
 | nil=>intro j h;exact absurd h (Nat.not_lt_zero j)
 | cons a t ih=>
  intro j h
  cases j with
  | zero=>exact⟨Nat.zero_lt_succ _,a⟩
  | succ j=>
   obtain⟨h1,r1⟩:=ih j (Nat.lt_of_succ_lt_succ h)
   exact⟨Nat.succ_lt_succ h1,r1⟩
theorem lU (e:Nat->Bool) (n:Nat):(List.range (n+1)).all e=(e 0 && (List.range n).all λj=>e (j+1)):=by
 rw [List.range_succ_eq_map,List.all_cons,List.all_map];rfl
section
variable {X:Cx}{K:PySem.W.Frag}{pins:List (Addr×Obj)}{σ:St}{H:Hp}{s:Shared}{A:Around}{a b:Addr}{xs ys:List V}
end
end L2
namespace L2
open PySem PySem.Spec PyProof.Rows
section
variable {X:Cx}{pos p1 p2:Pos}{j1 j2:Nat}
noncomputable def tD0:TE:=λ_ H Q=>∀ p,H p=none->Q (.ref p) (upd H p (.dT []))
theorem zH:PE X (.Dict [] [] pos) tD0:=λpins s σ H Q I h=>
 wpAny_Dict_empty ⟨.ref s.heap.objs.size,_,I.laid (a:=s.heap.objs.size) (o:=.dT []) (t':=s.toks) (λ_ _ q=>Heap.get?_push_of_some _ q) (Nat.le_refl _)
  ⟨Nat.zero_le _,beq_eq_false_iff_ne.mpr (Ne.symm (Nat.ne_of_lt I.bigG)),[],.nil,_,#[],0,Heap.get?_push_size _ rfl,⟨rfl,rfl,rfl⟩,rfl,rfl,List.nodup_nil⟩,rfl,h _ (I.hok.fresh (Nat.le_refl _))⟩
end
section
variable {K:PySem.W.Frag}{H:Hp}
end
section
variable {X:Cx}{K:PySem.W.Frag}
end
end L2
namespace HT
open PySem PySem.Spec PyProof.Rows L2
section
variable {prog:Program}{w:World}{A:Around}{E:Value->Shared->Prop}{s:Shared}
end
end HT
namespace L2
open PySem PySem.Spec PyProof.Rows
end L2
namespace L2
open PySem PySem.Spec PyProof.Rows
section
variable {X:Cx}{scope:Scope}{Nc:List Str}{emb:St->St}{elt iter tg:Expr}{ifs:List Expr}{pos:Pos}{wi:TI}{g:TG}{tt:TT}{te:TE}
theorem za {i0:Nat}{x0:Str}{py spos:Pos} (hN0:X.N.Nodup) (hi0:X.N[i0]?=some x0) (hx0:Loc X.env.scope x0) (S:gy X scope Nc emb) (hc:X.calm=true) (hi:PI X tg iter wi)
  (hg:∀ cells s H C fp,PG (lcX X scope cells Nc s H C fp) tg g) (ht:∀ cells s H C fp,PTs (lcX X scope cells Nc s H C fp) ifs tt) (he:∀ cells s H C fp,PE (lcX X scope cells Nc s H C fp) elt te)
  (hsw:swapsWith (.ListComp elt [⟨tg,iter,ifs,0⟩] scope pos) (some (.Name x0 py)) spos.line X.env=pure true:=by rfl)
  (hf0:X.fn x0=true\/X.env.scope.names.lookup x0=some .local:=by first | exact .inl rfl | exact .inr rfl | assumption)
  (hs:∀ x,foldedSetIterable iter X.env x=pure x:=by intro _;rfl):PS X (.Assign [.Name x0 py] (.ListComp elt [⟨tg,iter,ifs,0⟩] scope pos) spos) (yu (tLc emb wi g tt te) (qI i0)):=by
 intro pins s σ H DD I h
 rw [exec_Assign_Name_used _ _ _ _ hsw]
 refine wpAny_bind (wpAny_standAt (wpAny_bind ?_))
 show wpAny _ X.A (do let _ <-comprehension (.ListComp elt [⟨tg,iter,ifs,0⟩] scope pos) scope X.env _ (newList []) false (eval iter X.env) (some (assign (.Name x0 py) X.env))) _ _ s
 refine wpAny_bind (wpAny_mono (wpAny_comprehension_free (use:=some (assign (.Name x0 py) X.env)) (Q:=λ_ s'=>SP X pins DD .next s') rfl hs (i6 (S.clos I.ok)) S.kind (λx hx hl=>fY S.nd (by rw [<-hl];exact hx)) ?_) (λ_ s' hq=>wpAny_pure (wpAny_pure hq)) λ_ _ e=>e)
 refine thn (hi pins s σ H _ I h) λv s1 h1=>thn h1 λitv s2 h2=>?_
 obtain⟨it,fp,tn,J,H2,e,I2,T,st2,f2,W,⟨m0,w0⟩,turn⟩:=h2
 subst e
 refine wpAny_newObj_type (jN ?_)
 rw [show (s2.heap.push { cls:=.type "list",dict:=none,data:=.seq ([]:List Value).toArray }).objs.size=s2.heap.objs.size+1 from Heap.size_push ..]
 generalize hD:s2.heap.objs.size=D
 generalize hlo:({ cls:=.type "list",dict:=none,data:=.seq ([]:List Value).toArray }:Obj)=lo
 have fplt:∀ b ∈ fp,b < s2.heap.objs.size:=λb hb=>by obtain⟨o,e,_⟩:=T.obj _ _ st2 b hb;exact Heap.lt_size e
 have I3:=pJ (lo:=lo) S I2 f2 (λb hb=>by obtain⟨o,e,_⟩:=T.obj _ _ st2 b hb;exact⟨o,e⟩) (by rw [<-hlo];intro v z;cases z) (by rw [<-hlo];rfl)
 rw [hD] at I3
 generalize hcells:cellsFrom (D+2) scope.names (cy X.env.cells scope.names [])=cells at I3
 generalize hX':lcX X scope cells Nc s2 H2 (D+1) fp=X' at I3
 have hfpX:∀ {H':Hp}{ps:List (Addr×Obj)},(∀ b ∈ fp,H' b=none)->(∀ p ∈ ps,p.1=D)->∀ b ∈ fp,jG X' ps H' b:=λ{H' ps} hn hps b hb=>by
  have ok:=I3.ok
  refine⟨hn b hb,?_,?_,.inl (by rw [<-hX'];exact hb),?_,λp hp=>?_⟩
  ·exact (ok.exf b (by rw [<-hX'];exact hb)).1
  ·exact ok.exfs b (by rw [<-hX'];exact hb)
  ·exact (ok.exf b (by rw [<-hX'];exact hb)).2
  ·have hp':p ∈ ([]:List (Addr×Obj))++ps:=by rw [<-hX'] at hp;exact hp
   have e:p.1=D:=hps p (by simpa using hp')
   rw [e,<-hD]
   exact Nat.ne_of_gt (fplt b hb)
 have Dex:D ∈ X'.ex\/X'.s₀.heap.objs.size<=D:=.inr (by rw [<-hX',<-hD];exact Nat.le_refl _)
 have Dloc:D≠X'.env.locals:=by rw [<-hX'];exact Nat.ne_of_lt (Nat.lt_succ_self _)
 have pD:=I3.pin (D,lo) (by rw [<-hX'];exact List.mem_append_right _ List.mem_cons_self)
 have Dfs:D ∉ X'.fs:=pD.2.2.2.1
 have Dcell:∀ x c,X'.env.cells.lookup x=some c->c≠D:=λx c hc' e=>by
  obtain⟨v,o,ho,hd⟩:=I3.cell x c hc'
  rw [e,pD.1] at ho
  cases ho
  exact pD.2.2.2.2 v hd
 -- the loop
 have loop:∀ s3:Shared,s3={ s2 with heap:=pushCells ((s2.heap.push lo).push { cls:=.type "dict",data:=.dict #[] }) scope.names }->
   codeAny (model X.prog X.w) X.A (.compLoop (.ListComp elt [⟨tg,iter,ifs,0⟩] scope pos) 0 (.ref it) (.ref D) (compEnvC scope cells (D+1) X.env))
    (compPost (model X.prog X.w) X.A X.xe (some (assign (.Name x0 py) X.env)) (λ_ s'=>SP X pins DD .next s') (.ref D) (D+1)) s3:=by
  rintro s3 rfl
  refine fL (λn s'=>∃ i ys its k H',Inv X' [(D,{ cls:=.type "list",data:=.seq its.toArray k })] (emb σ) H' s'/\bx ys its/\tn i s'.heap/\(∀ b ∈ fp,H' b=none)/\ys.length<=sizeLine/\W i n ys H') ?_ m0
   ⟨0,[],[],0,H2,?_,.nil,?_,λb hb=>(f2 b hb).1,Nat.zero_le _,w0⟩
  ·rintro n s4 ⟨i,ys,its,k,H4,I4,rv,st4,fr4,hlen,w4⟩
   have hps:∀ p ∈ [(D,({ cls:=.type "list",data:=.seq its.toArray k }:Obj))],p.1=D:=λp hp=>by
    have:=List.mem_singleton.mp hp
    rw [this]
   rcases turn i n ys H4 w4 with⟨stop,qn⟩ | ⟨go,hlt,N,hN,step⟩
   ·-- the end
    have TD:=T.done X' (by rw [<-hX'];rfl) (by rw [<-hX'];rfl) (by rw [<-hX'];rfl) (by rw [<-hX'];exact hc) i _ s4 (emb σ) H4 (λ_ _=>False) I4 (hfpX fr4 hps) st4 stop
    rw [show X'.A=X.A by rw [<-hX'];rfl] at TD
    refine thn TD λr s5 ⟨hr,I5⟩=>?_
    subst hr
    obtain⟨m5,hn5,_⟩:=id I5.loc
    have eC:X'.env.locals=D+1:=by rw [<-hX'];rfl
    rw [eC] at hn5
    suffices inv5:∀ h',Heap.SameBut (D+1) s5.heap h'->Inv X pins σ (upd H4 D (.lst ys)) { s5 with heap:=h' } by
     have I5X:Inv X pins σ (upd H4 D (.lst ys)) s5:=inv5 s5.heap ⟨rfl,λ_ _=>rfl⟩
     have hD4':H4 D=none:=(I5.pin (D,{ cls:=.type "list",data:=.seq its.toArray k }) (by rw [<-hX'];exact List.mem_append_right _ List.mem_cons_self)).2.1
     have hC4:upd H4 D (.lst ys) (D+1)=none:=by
      have:=I5.free
      rw [eC] at this
      rw [bA (Nat.ne_of_gt (Nat.lt_succ_self D))]
      exact this
     have fpC:∀ b ∈ [D+1],jG X pins (upd H4 D (.lst ys)) b:=λb hb=>by
      have e:=List.mem_singleton.mp hb
      subst e
      exact I2.fpOk (by rw [hD];exact Nat.le_succ D) hC4
     obtain⟨oC,esC,epC,getC,datC,relC⟩:=id hn5
     have I5p:=I5X.pinned fpC λb hb=>by
      have e:=List.mem_singleton.mp hb
      subst e
      exact⟨oC,getC,λv z=>by rw [datC] at z;cases z⟩
     refine wpAny_assign_Name (gS I5p hN0 hi0 hx0 (v:=.ref D) rfl (λs6 I6=>?_) hf0)
     have pC:=(I6.pin (D+1,oC) (List.mem_append_right _ (List.mem_append_right _ (ek List.mem_cons_self getC)))).1
     refine⟨m5,⟨oC,esC,epC,pC,datC,relC⟩,λh' hsb=>?_⟩
     have I6u:=I6.unpinned
     exact⟨_,_,I6u.turns (t':=s6.toks) fpC (λb o hb e=>(hsb.2 b (λz=>hb (by rw [z];exact List.mem_cons_self))).trans e),qn D hD4'⟩
    intro h' hsb
    have pD5:=I5.pin (D,{ cls:=.type "list",data:=.seq its.toArray k }) (by rw [<-hX'];exact List.mem_append_right _ List.mem_cons_self)
    have neC:∀ b u,H4 b=some u->b≠D+1:=λb u e z=>by
     have:=I5.free
     rw [eC,<-z,e] at this
     cases this
    have hD4:H4 D=none:=pD5.2.1
    have un:=I5.base
    have un':Un (frs X.stack) fp H2 H4 s2.heap s5.heap:=by rw [<-hX'] at un;exact un
    have old_ne:∀ b o,s2.heap.get? b=some o->b≠D/\b≠D+1:=λb o e=>by
     have q:=Heap.lt_size e
     rw [hD] at q
     exact⟨Nat.ne_of_lt q,Nat.ne_of_lt (Nat.lt_succ_of_lt q)⟩
    have h2D:H2 D=none:=by rw [<-hD];exact I2.fresh
    have hok':HOk X.prog X.w H4 h':=λb u e=>by
     have ob:cP X.prog X.w H4 s5.heap b u:=by have:=I5.hok b u e;rw [<-hX'] at this;exact this
     refine ob.stay (λc v hcv q=>(hsb.2 c ?_).trans q) (λ_ q=>q) λ_ _ q=>q
     rcases hcv with z | z
     ·rw [z];exact neC b u e
     ·exact neC c _ z
    have hokD:HOk X.prog X.w (upd H4 D (.lst ys)) h':=λb u e=>by
     by_cases hb:b=D
     ·subst hb
      rw [bG] at e
      cases e
      exact⟨hlen,its,k,rv,(hsb.2 b (Nat.ne_of_lt (Nat.lt_succ_self _))).trans pD5.1⟩
     ·rw [bA hb] at e
      refine (hok' b u e).stay (λ_ _ _ q=>q) (λc q=>?_) λc z q=>?_
      all_goals first
       | (rw [bA (bB q hD4)];exact q)
       | (rw [bA (bB z hD4)];exact z)
    refine I2.call' (s':={ s5 with heap:=h' }) (ch:=fp) ?_ ⟨λb o e nb hb hx=>?_,λb o e nb hb hx=>?_,λb o e nb hx=>?_,λb o e hx=>?_,λb xs e=>?_,λb o u e=>?_,λb ps e=>?_⟩ hokD I5.bare (λb hb=>?_)
    ·have:=I5.os
     rw [<-hX'] at this
     exact this
    ·exact (hsb.2 b (old_ne b o e).2).trans (un'.keep b o e nb hb hx)
    ·obtain⟨sl,q⟩:=un'.slot b o e nb hb hx
     exact⟨sl,(hsb.2 b (old_ne b o e).2).trans q⟩
    ·rw [bA (old_ne b o e).1]
     exact un'.free b o e nb hx
    ·obtain⟨o',q⟩:=un'.there b o e hx
     exact⟨o',(hsb.2 b (old_ne b o e).2).trans q⟩
    ·rw [bA (bB e h2D)]
     exact un'.tups b xs e
    ·rw [bA (bB e h2D)]
     exact un'.frzs b o u e
    ·obtain⟨m,q⟩:=un'.tbls b ps e
     exact⟨m,by rw [bA (bB e h2D)];exact q⟩
    ·obtain⟨q0,q1,q2,q3,q4,q5⟩:=f2 b hb
     exact⟨q3,q1,q4,q5⟩
   ·-- a turn
    have hA:X'.A=X.A:=by rw [<-hX'];rfl
    have hP:X'.prog=X.prog:=by rw [<-hX'];rfl
    have hw:X'.w=X.w:=by rw [<-hX'];rfl
    have hE:X'.env=compEnvC scope cells (D+1) X.env:=by rw [<-hX'];rfl
    have hxe:X'.xe=λ_ _=>False:=by rw [<-hX'];rfl
    have TI':=T.item X' hP hw (by rw [<-hX'];rfl) (by rw [<-hX'];exact hc) i _ s4 (emb σ) H4 (λ_ _=>False) I4 (hfpX fr4 hps) st4 go
    rw [hA] at TI'
    refine thn TI' λr s5 ⟨u,hr,h5⟩=>?_
    subst hr
    refine thn h5 λ_ s6 ⟨x,H6,I6,r6,y6,st6,fr6⟩=>?_
    have I6':=I6.pinned (hfpX fr6 hps) (T.obj _ _ st6)
    have G:=hg cells s2 H2 (D+1) fp
    have TT':=ht cells s2 H2 (D+1) fp
    have EE:=he cells s2 H2 (D+1) fp
    rw [hX'] at G TT' EE
    have G':=G _ s6 (emb σ) H6 x u _ I6' r6 (step x H6 y6)
    rw [hA,hP,hw,hE,hxe] at G'
    refine thn G' λ_ s7 ⟨σ7,H7,I7,sb7,q7⟩=>?_
    have T':=TT' _ s7 σ7 H7 _ I7 q7
    rw [hA,hP,hw,hE,hxe] at T'
    refine thn T' λok s8 ⟨H8,I8,q8⟩=>?_
    -- what is pinned
    have pin_fp:∀ {σ9:St}{H9:Hp}{s9:Shared},Inv X' ([(D,({ cls:=.type "list",data:=.seq its.toArray k }:Obj))]++kr fp s6.heap) σ9 H9 s9->tn (i+1) s9.heap/\∀ b ∈ fp,H9 b=none:=λ{σ9 H9 s9} I9=>
     ⟨T.keep _ _ _ st6 λb hb o e=>(I9.pin (b,o) (List.mem_append_right _ (List.mem_append_right _ (ek hb e)))).1,λb hb=>by
      obtain⟨o,e,_⟩:=T.obj _ _ st6 b hb
      exact (I9.pin (b,o) (List.mem_append_right _ (List.mem_append_right _ (ek hb e)))).2.1⟩
    cases ok with
    | false=>
     rw [if_neg (by decide)] at q8
     rw [if_neg (by decide)]
     obtain⟨m',hm,w8⟩:=hN _ _ q8
     exact⟨m',hm,i+1,ys,its,k,H8,I8.unpinned.weak sb7.1 sb7.2,rv,(pin_fp I8).1,(pin_fp I8).2,hlen,w8⟩
    | true=>
     rw [if_pos rfl] at q8
     rw [if_pos rfl]
     have E':=EE _ s8 σ7 H8 _ I8 q8
     rw [hA,hP,hw,hE,hxe] at E'
     refine thn E' λy s9 ⟨v9,H9,I9,r9,n9⟩=>?_
     obtain⟨m',hm,w9⟩:=hN _ _ n9
     have pD9:=I9.pin (D,{ cls:=.type "list",data:=.seq its.toArray k }) (List.mem_append_right _ (List.mem_append_left _ List.mem_cons_self))
     have hl:=rv.length
     have I9n:Inv X' [] σ7 H9 s9:=I9.pins_of λp hp=>nomatch hp
     refine call_meets F.slot_list_append ⟨_,pD9.1,rfl⟩ F.entry_list_append (F.args_list_append_2 _ _) (PySem.list_append D its.toArray k y (by rw [List.size_toArray];lia)) ⟨pD9.1,?_⟩
     have up:∃ k':Nat,(s9.heap.update D (Obj.mapSeq λxs=>xs.push y)).get? D=some { cls:=.type "list",data:=.seq (its++[y]).toArray k' }:=by
      have q:=PySem.IsL.update pD9.1 (λxs:Array Value=>xs.push y)
      simp only [List.push_toArray] at q
      exact⟨_,q⟩
     obtain⟨k',up⟩:=up
     have hoth:∀ b o,b≠D->s9.heap.get? b=some o->(s9.heap.update D (Obj.mapSeq λxs=>xs.push y)).get? b=some o:=λb o hb e=>(Heap.get?_update_other s9.heap _ (Ne.symm hb)).trans e
     have I10:=I9n.turned (t':=s9.toks) hoth pD9.2.1 Dloc Dex Dcell (λp hp=>absurd (show p ∈ ([]:List (Addr×Obj)) by rw [<-hX'] at hp;exact hp) (by simp))
     refine⟨m',hm,i+1,ys++[v9],its++[y],k',H9,(I10.weak sb7.1 sb7.2).pins_of (λp hp=>?_),rv.append (.cons r9 .nil),T.keep _ _ _ (pin_fp I9).1 (λb hb o e=>hoth b o (by rw [<-hD];exact Nat.ne_of_lt (fplt b hb)) e),(pin_fp I9).2,?_,w9⟩
     ·have:=List.mem_singleton.mp hp
      subst this
      exact⟨up,pD9.2.1,Dloc,Dfs,λv z=>by cases z⟩
     ·rw [List.length_append,List.length_singleton]
      lia
  ·have q:lo={ cls:=.type "list",data:=.seq ([]:List Value).toArray 0 }:=hlo.symm
   rw [<-q]
   exact I3
  ·exact T.keep _ _ _ st2 λb hb o e=>pushCells_keeps _ _ b o (Heap.get?_push_of_some _ (Heap.get?_push_of_some _ e))
 refine codeAny_compStart_list ?_ ?_
 ·exact loop _ rfl
 ·refine T.self X.A 0 _ _ _ (T.keep _ _ _ st2 λb hb o e=>pushCells_keeps _ _ b o (Heap.get?_push_of_some _ (Heap.get?_push_of_some _ e))) ?_
  exact loop _ rfl
end
end L2
namespace L2
open PySem PySem.Spec PyProof.Rows
noncomputable def bh:Expr->Bool
 | .Starred _ _=>false
 | _=>true
theorem cu {e:Expr}{es:List Expr}{env:Env} (h:bh e=true):starEach (e::es) env=(false,eval e env)::starEach es env:=by
 cases e<;>first | (cases h;done) | rfl
theorem dI {pos:Pos}{env:Env}:∀ {es:List Expr},es.all bh=true->(backTo pos (starEach es env)).any (·.1)=false
 | [],_=>by simp [starEach,backTo]
 | e::es,h=>by
  rw [List.all_cons,Bool.and_eq_true] at h
  rw [cu h.1]
  have:=dI (pos:=pos) (env:=env) h.2
  unfold backTo at this ⊢
  rw [List.map_cons,List.any_cons,this]
  rfl
theorem lS {pos:Pos}{env:Env}{es:List Expr} (h:es.all bh=true) (hl:es.length < 30):((backTo pos (starEach es env)).all (λx=>!x.1) && (backToKw pos (keywordEach [] env)).all (λx=>x.1.isSome)
   && decide (es.length+([]:List Keyword).length+(if ([]:List Keyword).isEmpty then 0 else 1) < 30))=true:=by
 have h1:(backTo pos (starEach es env)).all (λx=>!x.1)=true:=by
  have:=dI (pos:=pos) (env:=env) h
  rw [List.all_eq_true]
  intro x hx
  rw [List.any_eq_false] at this
  simpa using this x hx
 have h2:(backToKw pos (keywordEach [] env)).all (λx=>x.1.isSome)=true:=by simp [keywordEach,backToKw]
 rw [h1,h2]
 simpa using hl
theorem tK {e:Expr}{env:Env} (h:bh e=true):starEach [e] env=[(false,eval e env)]:=by rw [cu h];rfl
noncomputable def uU:Expr->Bool
 | .UnaryOp .Not _ _=>false
 | .BoolOp _ _ _=>false
 | .IfExp _ _ _ _=>false
 | .Compare _ _ _ _=>false
 | _=>true
theorem rR {a:Expr}{env:Env} (h:uU a=true):∀ whole,PySem.isTrue a env whole=(do let v <-whole;standAt a.pos;holding [v] (truthy v)):=by
 intro whole
 cases a with
 | UnaryOp op x p=>cases op<;>first | (cases h;done) | rfl
 | BoolOp _ _ _=>cases h
 | IfExp _ _ _ _=>cases h
 | Compare _ _ _ _=>cases h
 | _=>rfl
theorem vf {t:Expr}{ts:List Expr}{env:Env} (h:bh t=true):assignEach (t::ts) env=(false,assign t env)::assignEach ts env:=by
 cases t<;>first | (cases h;done) | rfl
theorem wa {t:Expr}{ts:List Expr}{env:Env} (h:bh t=true):(assignEach (t::ts) env).map (·.2)=assign t env::(assignEach ts env).map (·.2):=by rw [vf h];rfl
theorem w6 {t:Expr}{env:Env} (h:bh t=true):(assignEach [t] env).map (·.2)=[assign t env]:=by rw [wa h];simp [assignEach]
noncomputable def ms:Expr->Bool
 | .Slice _ _ _ _=>false
 | _=>true
theorem wT {o i:Expr}{pos:Pos}{env:Env} (h:ms i=true) (v:Value):assign (.Subscript o i pos) env v=(do
   let ov <-holding [v] (eval o env)
   let iv <-holding [v,ov] (eval i env)
   standAt pos
   holding [v,ov,iv] (setItem ov iv v)
   release [v,ov,iv] []):=by
 cases i<;>first | (cases h;done) | rfl
theorem pT {i:Expr} (h:ms i=true):qX i:=by
 intro o j
 cases i<;>first | (cases h;done) | rfl
end L2
namespace L2
open PySem PySem.Spec PyProof.Rows
inductive D where
 | non | bl (b:Bool) | int (i:Int) | str (x:Str) | ty (n:String) | dct | scr (ns:List Int) | tup (ds:List D) | lst (ds:List D)
 deriving Inhabited
inductive W where
 | d (x:D) | h (n:Nat)
 deriving Inhabited
inductive C where
 | l (ds:List D) | n (ws:List W) | m (kvs:List (List Int×D)) | k (kvs:List (Int×D))
 deriving Inhabited
abbrev Sto:=List C
noncomputable def lg (st:Sto) (n:Nat):Option (List D):=match st[n]? with
 | some (.l ds)=>some ds
 | _=>none
noncomputable def AB (l:List Int):List Key:=l.map Sum.inl
abbrev Ev:=List (Option W)
noncomputable def KLs (K:PySem.W.Frag) (a:Addr) (xs:List V):Prop:=
 ∃ (o:Obj) (its:Array Value) (n:Nat),K.lookup a=some o/\o.cls=.type "list"/\o.dict=none/\o.data=.seq its n/\its.size<=sizeLine/\bx xs its.toList
section
variable (K:PySem.W.Frag) (H:Hp) (φ:List Addr)
mutual
noncomputable def Rl:D->V->Prop
 | .non,v=>v=.non
 | .bl b,v=>v=.bl b
 | .int i,v=>v=.int i
 | .str x,v=>v=.str x
 | .ty n,v=>v=.ty n
 | .dct,v=>∃ a,v=.ref a/\a ∉ φ/\((∃ d,H a=some (.dK d))\/∃ d,H a=some (.dT d))
 | .scr ns,v=>∃ a,v=.ref a/\((∃ o,H a=some (.frz o (.lst (ns.map V.int))))\/KLs K a (ns.map V.int))
 | .tup ds,v=>∃ a vs,v=.ref a/\H a=some (.tup vs)/\Rls ds vs
 | .lst ds,v=>∃ a vs,v=.ref a/\a ∉ φ/\Rd H a (.lst vs)/\Rls ds vs
noncomputable def Rls:List D->List V->Prop
 | [],vs=>vs=[]
 | d::ds,vs=>∃ v r,vs=v::r/\Rl d v/\Rls ds r
end
noncomputable def Rw:W->V->Prop
 | .d x,v=>Rl K H φ x v
 | .h n,v=>∃ a,φ[n]?=some a/\v=.ref a
noncomputable def Rws:List W->List V->Prop
 | [],vs=>vs=[]
 | d::ds,vs=>∃ v r,vs=v::r/\Rw K H φ d v/\Rws ds r
noncomputable def Rkv:List (List Int×D)->List (List Key×V)->Prop
 | [],vs=>vs=[]
 | (k,d)::ds,vs=>∃ v r,vs=(AB k,v)::r/\Rl K H φ d v/\Rkv ds r
noncomputable def Rkk:List (Int×D)->List (Key×V)->Prop
 | [],vs=>vs=[]
 | (k,d)::ds,vs=>∃ v r,vs=(Sum.inl k,v)::r/\Rl K H φ d v/\Rkk ds r
noncomputable def Rc (k:Nat) (a:Addr):C->Prop
 | .l ds=>∃ vs,H a=some (.lst vs)/\Rls K H φ ds vs
 | .n ws=>∃ vs,H a=some (.lst vs)/\Rws K H φ ws vs/\∀ m,W.h m ∈ ws->m < k
 | .m kvs=>∃ vs,H a=some (.dT vs)/\Rkv K H φ kvs vs
 | .k kvs=>∃ vs,H a=some (.dK vs)/\Rkk K H φ kvs vs
structure Sr (st:Sto):Prop where
 nd:φ.Nodup
 len:φ.length=st.length
 at_:∀ (n:Nat) a c,φ[n]?=some a->st[n]?=some c->Rc K H φ n a c
structure Er (env:Ev) (σ:St):Prop where
 len:env.length=σ.length
 at_:∀ (i:Nat) w,env[i]?=some (some w)->∃ v,σ[i]?=some (some v)/\Rw K H φ w v
end
structure Fw (φ φ':List Addr) (H H':Hp):Prop where
 ext:∃ ψ,φ'=φ++ψ/\∀ a ∈ ψ,H a=none
 keep:∀ b o,b ∉ φ->H b=some o->H' b=some o
 there:∀ b o,H b=some o->∃ o',H' b=some o'
section
variable {K:PySem.W.Frag}{H H1 H2 H':Hp}{φ φ1 φ2 φ':List Addr}{st st':Sto}
theorem Fw.refl (φ:List Addr) (H:Hp):Fw φ φ H H:=⟨⟨[],by simp,by simp⟩,λ_ _ _ h=>h,λ_ o h=>⟨o,h⟩⟩
theorem Fw.trans (a:Fw φ φ1 H H1) (b:Fw φ1 φ2 H1 H2):Fw φ φ2 H H2:=by
 obtain⟨ψ,rfl,e1⟩:=a.ext
 obtain⟨ψ2,rfl,e2⟩:=b.ext
 refine⟨⟨ψ++ψ2,by rw [List.append_assoc],λc hc=>?_⟩,λc o hc h=>?_,λc o h=>?_⟩
 ·rcases List.mem_append.mp hc with z | z
  ·exact e1 c z
  ·cases q:H c with
   | none=>rfl
   | some o=>
    obtain⟨o',q'⟩:=a.there c o q
    rw [e2 c z] at q';cases q'
 ·refine b.keep c o (λz=>?_) (a.keep c o hc h)
  rcases List.mem_append.mp z with z | z
  ·exact hc z
  ·rw [e1 c z] at h;cases h
 ·obtain⟨o',q⟩:=a.there c o h
  exact b.there c o' q
theorem Fw.same (s:bJ H H'):Fw φ φ H H':=⟨⟨[],by simp,by simp⟩,λb o _ h=>s b o h,λb o h=>⟨o,s b o h⟩⟩
theorem Fw.new {p:Addr}{o:HO} (hp:H p=none):Fw φ φ H (upd H p o):=.same (bJ.new hp o)
theorem Fw.get (f:Fw φ φ' H H') {n:Nat}{a:Addr} (h:φ[n]?=some a):φ'[n]?=some a:=by
 obtain⟨ψ,rfl,_⟩:=f.ext
 rw [List.getElem?_append_left (List.getElem?_eq_some_iff.mp h).1];exact h
theorem Fw.nin (f:Fw φ φ' H H') {a:Addr}{o:HO} (h:a ∉ φ) (q:H a=some o):a ∉ φ':=by
 obtain⟨ψ,rfl,e⟩:=f.ext
 intro z
 rcases List.mem_append.mp z with z | z
 ·exact h z
 ·rw [e a z] at q;cases q
noncomputable def zm:HO->Bool
 | .lst _=>true
 | .dT _=>true
 | .dK _=>true
 | _=>false
theorem Rc.ob {k:Nat}{a:Addr}{c:C} (h:Rc K H φ k a c):∃ o,H a=some o/\zm o=true:=by
 cases c with
 | l ds=>obtain⟨vs,q,_⟩:=h;exact⟨_,q,rfl⟩
 | n ds=>obtain⟨vs,q,_⟩:=h;exact⟨_,q,rfl⟩
 | m ds=>obtain⟨vs,q,_⟩:=h;exact⟨_,q,rfl⟩
 | k ds=>obtain⟨vs,q,_⟩:=h;exact⟨_,q,rfl⟩
theorem Sr.lst (S:Sr K H φ st) {a:Addr} (h:a ∈ φ):∃ o,H a=some o/\zm o=true:=by
 obtain⟨n,hn,e⟩:=List.mem_iff_getElem.mp h
 have hs:n < st.length:=by rw [<-S.len];exact hn
 exact (S.at_ n a st[n] (by rw [List.getElem?_eq_getElem hn,e]) (by rw [List.getElem?_eq_getElem hs])).ob
theorem vI {st:Sto}{n:Nat}{ds:List D} (h:lg st n=some ds):st[n]?=some (.l ds):=by
 unfold lg at h
 split at h
 ·rename_i q;cases h;exact q
 ·cases h
theorem Sr.atl (S:Sr K H φ st) (n:Nat) (a:Addr) (ds:List D) (e1:φ[n]?=some a) (e2:lg st n=some ds):∃ vs,H a=some (.lst vs)/\Rls K H φ ds vs:=S.at_ n a _ e1 (vI e2)
theorem Sr.nin (S:Sr K H φ st) {a:Addr} (h:H a=none):a ∉ φ:=λz=>by
 obtain⟨vs,q,_⟩:=S.lst z
 rw [q] at h;cases h
theorem Rd.nin (S:Sr K H φ st) {a:Addr}{vs:List V} (h:Rd H a (.tup vs)):a ∉ φ:=λz=>by
 obtain⟨ws,q,qm⟩:=S.lst z
 rcases h with h | ⟨o,h⟩<;>(rw [q] at h;cases h;cases qm)
theorem Rd.fw (f:Fw φ φ' H H') {a:Addr}{u:HO} (hn:a ∉ φ) (h:Rd H a u):Rd H' a u:=by
 rcases h with h | ⟨o,h⟩
 ·exact .inl (f.keep _ _ hn h)
 ·exact .inr ⟨o,f.keep _ _ hn h⟩
theorem SqT.fw (S:Sr K H φ st) (f:Fw φ φ' H H') {a:Addr}{vs:List V} (h:SqT K H a vs):SqT K H' a vs:=by
 rcases h with h | h
 ·exact .inl (f.keep _ _ (Rd.nin S (.inl h)) h)
 ·exact .inr h
theorem Rd.some {a:Addr}{u:HO} (h:Rd H a u):∃ o,H a=some o:=by
 rcases h with h | ⟨o,h⟩
 ·exact⟨_,h⟩
 ·exact⟨_,h⟩
mutual
theorem Rl.fw (S:Sr K H φ st) (f:Fw φ φ' H H'):∀ {d:D}{v:V},Rl K H φ d v->Rl K H' φ' d v
 | .non,_,h=>h
 | .bl _,_,h=>h
 | .int _,_,h=>h
 | .str _,_,h=>h
 | .ty _,_,h=>h
 | .dct,_,h=>by
  obtain⟨a,rfl,hn,h⟩:=h
  rcases h with⟨d,h⟩ | ⟨d,h⟩
  ·exact⟨a,rfl,f.nin hn h,.inl ⟨d,f.keep _ _ hn h⟩⟩
  ·exact⟨a,rfl,f.nin hn h,.inr ⟨d,f.keep _ _ hn h⟩⟩
 | .scr ns,_,h=>by
  obtain⟨a,rfl,h⟩:=h
  refine⟨a,rfl,?_⟩
  rcases h with⟨o,h⟩ | h
  ·refine .inl ⟨o,f.keep _ _ (λz=>?_) h⟩
   obtain⟨ws,q,qm⟩:=S.lst z
   rw [q] at h;cases h;cases qm
  ·exact .inr h
 | .tup ds,_,h=>by
  obtain⟨a,vs,rfl,h1,h2⟩:=h
  exact⟨a,vs,rfl,f.keep _ _ (Rd.nin S (.inl h1)) h1,Rls.fw S f h2⟩
 | .lst ds,_,h=>by
  obtain⟨a,vs,rfl,h0,h1,h2⟩:=h
  obtain⟨o,e⟩:=h1.some
  exact⟨a,vs,rfl,f.nin h0 e,h1.fw f h0,Rls.fw S f h2⟩
theorem Rls.fw (S:Sr K H φ st) (f:Fw φ φ' H H'):∀ {ds:List D}{vs:List V},Rls K H φ ds vs->Rls K H' φ' ds vs
 | [],_,h=>h
 | d::ds,_,h=>by
  obtain⟨v,r,rfl,h1,h2⟩:=h
  exact⟨v,r,rfl,Rl.fw S f h1,Rls.fw S f h2⟩
end
theorem Rw.fw (S:Sr K H φ st) (f:Fw φ φ' H H') {w:W}{v:V} (h:Rw K H φ w v):Rw K H' φ' w v:=by
 cases w with
 | d x=>exact Rl.fw S f h
 | h n=>obtain⟨a,e,rfl⟩:=h;exact⟨a,f.get e,rfl⟩
theorem Rws.fw (S:Sr K H φ st) (f:Fw φ φ' H H'):∀ {ws:List W}{vs:List V},Rws K H φ ws vs->Rws K H' φ' ws vs
 | [],_,h=>h
 | d::ds,_,h=>by
  obtain⟨v,r,rfl,h1,h2⟩:=h
  exact⟨v,r,rfl,h1.fw S f,Rws.fw S f h2⟩
theorem Er.fw (S:Sr K H φ st) (f:Fw φ φ' H H') {env:Ev}{σ:St} (h:Er K H φ env σ):Er K H' φ' env σ:=
 ⟨h.len,λi w e=>let ⟨v,e1,r⟩:=h.at_ i w e;⟨v,e1,r.fw S f⟩⟩
theorem Rkv.fw (S:Sr K H φ st) (f:Fw φ φ' H H'):∀ {ds:List (List Int×D)}{vs:List (List Key×V)},Rkv K H φ ds vs->Rkv K H' φ' ds vs
 | [],_,h=>h
 | (k,d)::ds,_,h=>by
  obtain⟨v,r,rfl,h1,h2⟩:=h
  exact⟨v,r,rfl,Rl.fw S f h1,Rkv.fw S f h2⟩
theorem Rkk.fw (S:Sr K H φ st) (f:Fw φ φ' H H'):∀ {ds:List (Int×D)}{vs:List (Key×V)},Rkk K H φ ds vs->Rkk K H' φ' ds vs
 | [],_,h=>h
 | (k,d)::ds,_,h=>by
  obtain⟨v,r,rfl,h1,h2⟩:=h
  exact⟨v,r,rfl,Rl.fw S f h1,Rkk.fw S f h2⟩
theorem Rc.fw (S:Sr K H φ st) (f:Fw φ φ' H H') {k:Nat}{a:Addr}{c:C} (e:∀ o,H a=some o->H' a=some o) (h:Rc K H φ k a c):Rc K H' φ' k a c:=by
 cases c with
 | l ds=>obtain⟨vs,q,r⟩:=h;exact⟨vs,e _ q,r.fw S f⟩
 | n ds=>obtain⟨vs,q,r,b⟩:=h;exact⟨vs,e _ q,r.fw S f,b⟩
 | m ds=>obtain⟨vs,q,r⟩:=h;exact⟨vs,e _ q,r.fw S f⟩
 | k ds=>obtain⟨vs,q,r⟩:=h;exact⟨vs,e _ q,r.fw S f⟩
theorem Sr.same (S:Sr K H φ st) (s:bJ H H'):Sr K H' φ st:=
 ⟨S.nd,S.len,λn a c e1 e2=>(S.at_ n a c e1 e2).fw S (Fw.same s) λo h=>s _ _ h⟩
theorem Sr.new (S:Sr K H φ st) {p:Addr}{o:HO} (hp:H p=none):Sr K (upd H p o) φ st:=S.same (bJ.new hp o)
theorem Rls.length:∀ {ds:List D}{vs:List V},Rls K H φ ds vs->ds.length=vs.length
 | [],_,h=>by cases h;rfl
 | d::ds,_,h=>by
  obtain⟨v,r,rfl,h1,h2⟩:=h
  rw [List.length_cons,List.length_cons,Rls.length h2]
theorem Rws.length:∀ {ds:List W}{vs:List V},Rws K H φ ds vs->ds.length=vs.length
 | [],_,h=>by cases h;rfl
 | d::ds,_,h=>by
  obtain⟨v,r,rfl,h1,h2⟩:=h
  rw [List.length_cons,List.length_cons,Rws.length h2]
theorem Rls.append:∀ {ds es:List D}{vs us:List V},Rls K H φ ds vs->Rls K H φ es us->Rls K H φ (ds++es) (vs++us)
 | [],_,_,_,h,h'=>by cases h;exact h'
 | d::ds,_,_,_,h,h'=>by
  obtain⟨v,r,rfl,h1,h2⟩:=h
  exact⟨v,r++_,rfl,h1,Rls.append h2 h'⟩
theorem Rls.get:∀ {ds:List D}{vs:List V},Rls K H φ ds vs->∀ {i:Nat}{d:D},ds[i]?=some d->∃ v,vs[i]?=some v/\Rl K H φ d v
 | [],_,h,i,d,e=>by simp at e
 | d::ds,_,h,i,e,q=>by
  obtain⟨v,r,rfl,h1,h2⟩:=h
  cases i with
  | zero=>simp at q;subst q;exact⟨v,rfl,h1⟩
  | succ i=>simpa using Rls.get h2 (i:=i) (d:=e) (by simpa using q)
theorem Rls.set:∀ {ds:List D}{vs:List V} (n:Nat) {d:D}{v:V},Rls K H φ ds vs->Rl K H φ d v->Rls K H φ (ds.set n d) (vs.set n v)
 | [],_,_,_,_,h,_=>by cases h;exact rfl
 | e::ds,_,0,d,v,h,hd=>by
  obtain⟨u,r,rfl,h1,h2⟩:=h
  exact⟨v,r,rfl,hd,h2⟩
 | e::ds,_,n+1,d,v,h,hd=>by
  obtain⟨u,r,rfl,h1,h2⟩:=h
  exact⟨u,_,rfl,h1,Rls.set n h2 hd⟩
theorem Rls.rep {ds:List D}{vs:List V} (h:Rls K H φ ds vs):∀ k:Nat,Rls K H φ (List.replicate k ds).flatten (List.replicate k vs).flatten
 | 0=>rfl
 | k+1=>by rw [List.replicate_succ,List.replicate_succ,List.flatten_cons,List.flatten_cons];exact h.append (Rls.rep h k)
theorem Rls.ints:∀ {ns:List Int}{vs:List V},Rls K H φ (ns.map D.int) vs->vs=ns.map V.int
 | [],_,h=>h
 | n::ns,_,h=>by
  obtain⟨v,r,rfl,h1,h2⟩:=h
  rw [show v=.int n from h1,Rls.ints h2];rfl
theorem Rls.bools:∀ {ns:List Bool}{vs:List V},Rls K H φ (ns.map D.bl) vs->vs=ns.map V.bl
 | [],_,h=>h
 | n::ns,_,h=>by
  obtain⟨v,r,rfl,h1,h2⟩:=h
  rw [show v=.bl n from h1,Rls.bools h2];rfl
theorem Rls.of_ints:∀ (ns:List Int),Rls K H φ (ns.map D.int) (ns.map V.int)
 | []=>rfl
 | n::ns=>⟨_,_,rfl,rfl,Rls.of_ints ns⟩
theorem Rl.less {ψ:List Addr}:∀ {d:D}{v:V},Rl K H (φ++ψ) d v->Rl K H φ d v:=by
 intro d v
 refine (?_:∀ v,Rl K H (φ++ψ) d v->Rl K H φ d v) v
 refine D.rec (motive_1:=λd=>∀ v,Rl K H (φ++ψ) d v->Rl K H φ d v) (motive_2:=λds=>∀ vs,Rls K H (φ++ψ) ds vs->Rls K H φ ds vs) ?_ ?_ ?_ ?_ ?_ ?_ ?_ ?_ ?_ ?_ ?_ d
 ·exact λv h=>h
 ·exact λb v h=>h
 ·exact λb v h=>h
 ·exact λb v h=>h
 ·exact λb v h=>h
 ·rintro v ⟨a,e,hn,h⟩;exact⟨a,e,λz=>hn (List.mem_append_left _ z),h⟩
 ·exact λns v h=>h
 ·rintro ds ih v ⟨a,vs,rfl,h1,h2⟩;exact⟨a,vs,rfl,h1,ih vs h2⟩
 ·rintro ds ih v ⟨a,vs,rfl,h0,h1,h2⟩;exact⟨a,vs,rfl,λz=>h0 (List.mem_append_left _ z),h1,ih vs h2⟩
 ·exact λvs h=>h
 ·rintro d ds ih1 ih2 vs ⟨v,r,rfl,h1,h2⟩;exact⟨v,r,rfl,ih1 v h1,ih2 r h2⟩
theorem Rls.less {ψ:List Addr}:∀ {ds:List D}{vs:List V},Rls K H (φ++ψ) ds vs->Rls K H φ ds vs
 | [],_,h=>h
 | d::ds,_,h=>by
  obtain⟨v,r,rfl,h1,h2⟩:=h
  exact⟨v,r,rfl,Rl.less h1,Rls.less h2⟩
theorem Rkv.less {ψ:List Addr}:∀ {ds:List (List Int×D)}{vs:List (List Key×V)},Rkv K H (φ++ψ) ds vs->Rkv K H φ ds vs
 | [],_,h=>h
 | (k,d)::ds,_,h=>by
  obtain⟨v,r,rfl,h1,h2⟩:=h
  exact⟨v,r,rfl,Rl.less h1,Rkv.less h2⟩
theorem Rkk.less {ψ:List Addr}:∀ {ds:List (Int×D)}{vs:List (Key×V)},Rkk K H (φ++ψ) ds vs->Rkk K H φ ds vs
 | [],_,h=>h
 | (k,d)::ds,_,h=>by
  obtain⟨v,r,rfl,h1,h2⟩:=h
  exact⟨v,r,rfl,Rl.less h1,Rkk.less h2⟩
theorem Rws.less {ψ:List Addr}:∀ {ds:List W}{vs:List V},(∀ m,W.h m ∈ ds->m < φ.length)->Rws K H (φ++ψ) ds vs->Rws K H φ ds vs
 | [],_,_,h=>h
 | d::ds,_,hm,h=>by
  obtain⟨v,r,rfl,h1,h2⟩:=h
  refine⟨v,r,rfl,?_,Rws.less (λm z=>hm m (List.mem_cons_of_mem _ z)) h2⟩
  cases d with
  | d x=>exact Rl.less h1
  | h m=>
   obtain⟨a,e,rfl⟩:=h1
   rw [List.getElem?_append_left (hm m List.mem_cons_self)] at e
   exact⟨a,e,rfl⟩
theorem Rc.less {ψ:List Addr}{k:Nat}{a:Addr}{c:C} (hk:k < φ.length) (h:Rc K H (φ++ψ) k a c):Rc K H φ k a c:=by
 cases c with
 | l ds=>obtain⟨vs,q,r⟩:=h;exact⟨vs,q,r.less⟩
 | n ds=>obtain⟨vs,q,r,b⟩:=h;exact⟨vs,q,r.less λm z=>Nat.lt_trans (b m z) hk,b⟩
 | m ds=>obtain⟨vs,q,r⟩:=h;exact⟨vs,q,r.less⟩
 | k ds=>obtain⟨vs,q,r⟩:=h;exact⟨vs,q,r.less⟩
theorem Sr.less {ψ:List Addr} (S:Sr K H (φ++ψ) st):Sr K H φ (st.take φ.length):=by
 have hl:=S.len
 rw [List.length_append] at hl
 refine⟨(List.nodup_append.mp S.nd).1,by rw [List.length_take];lia,λn a ds e1 e2=>?_⟩
 have hn:=(List.getElem?_eq_some_iff.mp e1).1
 rw [List.getElem?_take_of_lt hn] at e2
 exact (S.at_ n a ds (by rw [List.getElem?_append_left hn];exact e1) e2).less hn
end
end L2
namespace L2
open PySem PySem.Spec PyProof.Rows
abbrev Ef:=Ev->Sto->Option (W×Sto)
abbrev Af:=Ev->Sto->Option (List W×Sto)
abbrev Tf:=Ev->Sto->Option (Bool×Sto)
abbrev Lf:=Ev->Sto->Option (List D×Sto)
abbrev Fn:=List W->Sto->Option (W×Sto)
section
variable (K:PySem.W.Frag)
noncomputable def tI (env:Ev) (st:Sto) (r:W×Sto):TE:=λσ H Q=>∃ φ,Er K H φ env σ/\Sr K H φ st/\∀ v H' φ',Fw φ φ' H H'->Sr K H' φ' r.2->Rw K H' φ' r.1 v->Q v H'
noncomputable def tIA (env:Ev) (st:Sto) (r:List W×Sto):TA:=λσ H Q=>∃ φ,Er K H φ env σ/\Sr K H φ st/\∀ vs H' φ',Fw φ φ' H H'->Sr K H' φ' r.2->Rws K H' φ' r.1 vs->Q vs H'
noncomputable def tIT (env:Ev) (st:Sto) (r:Bool×Sto):TT:=λσ H Q=>∃ φ,Er K H φ env σ/\Sr K H φ st/\∀ H' φ',Fw φ φ' H H'->Sr K H' φ' r.2->Q r.1 H'
noncomputable def tIL (env:Ev) (st:Sto) (r:List D×Sto):TE:=λσ H Q=>∃ φ,Er K H φ env σ/\Sr K H φ st/\∀ a vs H1 φ',Fw φ φ' H H1->Sr K H1 φ' r.2->H1 a=none->Rls K H1 φ' r.1 vs->Q (.ref a) (upd H1 a (.lst vs))
structure IE (X:Cx) (e:Expr) (f:Ef):Prop where
 run:∀ env st r,f env st=some r->PE X e (tI K env st r)
structure IA (X:Cx) (es:List Expr) (f:Af):Prop where
 run:∀ env st r,f env st=some r->PA X es (tIA K env st r)
structure IT (X:Cx) (e:Expr) (f:Tf):Prop where
 run:∀ env st r,f env st=some r->PT X e (tIT K env st r)
structure ITW (X:Cx) (e:Expr) (f:Tf):Prop where
 run:∀ env st r,f env st=some r->PW X e (tIT K env st r)
structure IL (X:Cx) (e:Expr) (f:Lf):Prop where
 run:∀ env st r,f env st=some r->PE X e (tIL K env st r)
noncomputable def rD (st:Sto) (x y:W) (d:D):R2:=λvx vy H Q=>∃ φ,Sr K H φ st/\Rw K H φ x vx/\Rw K H φ y vy/\∀ v H',bJ H H'->Rl K H' φ d v->Q v H'
structure OpD (X:Cx) (f:Value->Value->Sem Value) (g:Sto->W->W->Option D):Prop where
 run:∀ st x y d,g st x y=some d->OpR X f (rD K st x y d)
noncomputable def rCD (st:Sto) (ws:List W) (d:D):List V->Hp->VK->Prop:=λvs H Q=>∃ φ,Sr K H φ st/\Rws K H φ ws vs/\∀ v H',bJ H H'->Rl K H' φ d v->Q v H'
structure gl (X:Cx) (f:Value) (g:Sto->List W->Option D):Prop where
 run:∀ st ws d,g st ws=some d->dJ X f (rCD K st ws d)
noncomputable def rCL (st:Sto) (ws:List W) (ds:List D):List V->Hp->VK->Prop:=λvs H Q=>∃ φ,Sr K H φ st/\Rws K H φ ws vs/\∀ a us H1,bJ H H1->H1 a=none->Rls K H1 φ ds us->Q (.ref a) (upd H1 a (.lst us))
structure xk (X:Cx) (f:Value) (g:Sto->List W->Option (List D)):Prop where
 run:∀ st ws d,g st ws=some d->dJ X f (rCL K st ws d)
end
noncomputable def iV (i:Nat):Ef
 | env,st=>(env.getD i none).map λw=>(w,st)
noncomputable def iC (d:D):Ef
 | _,st=>some (.d d,st)
noncomputable def iOp (g:Sto->W->W->Option D) (a b:Ef):Ef
 | env,st=>(a env st).bind λx=>(b env x.2).bind λy=>(g y.2 x.1 y.1).map λd=>(.d d,y.2)
noncomputable def dD:D->Option Bool
 | .bl b=>some b
 | _=>none
noncomputable def blW:W->Option Bool
 | .d (.bl b)=>some b
 | _=>none
noncomputable def aG (g:Sto->W->W->Option D) (a b:Ef):Tf
 | env,st=>(a env st).bind λx=>(b env x.2).bind λy=>(g y.2 x.1 y.1).bind λd=>(dD d).map λk=>(k,y.2)
noncomputable def nq (g g':Sto->W->W->Option D) (a b c:Ef):Ef
 | env,st=>(a env st).bind λx=>(b env x.2).bind λy=>(g y.2 x.1 y.1).bind λd=>(dD d).bind λk=>
 if k=true then (c env y.2).bind λz=>(g' z.2 y.1 z.1).map λd=>(.d d,z.2) else some (.d (.bl false),y.2)
noncomputable def iUn (g:W->Option D) (a:Ef):Ef
 | env,st=>(a env st).bind λx=>(g x.1).map λd=>(.d d,x.2)
noncomputable def qQ (a:Ef):Ef
 | env,st=>(a env st).bind λx=>(blW x.1).map λk=>(.d (.bl (!k)),x.2)
noncomputable def eO (a b:Ef):Ef
 | env,st=>(a env st).bind λx=>(blW x.1).bind λk=>if k=true then b env x.2 else some (.d (.bl false),x.2)
noncomputable def qC (c:Tf) (a b:Ef):Ef
 | env,st=>(c env st).bind λr=>if r.1=true then a env r.2 else b env r.2
noncomputable def da (c:Tf):Tf
 | env,st=>(c env st).map λr=>(!r.1,r.2)
noncomputable def ci (a b:Tf):Tf
 | env,st=>(a env st).bind λr=>if r.1=true then some (true,r.2) else b env r.2
noncomputable def fu (g:Sto->W->Option Bool) (a:Ef):Tf
 | env,st=>(a env st).bind λx=>(g x.2 x.1).map λk=>(k,x.2)
noncomputable def ai:Af
 | _,st=>some ([],st)
noncomputable def ac (a:Ef) (r:Af):Af
 | env,st=>(a env st).bind λx=>(r env x.2).map λy=>(x.1::y.1,y.2)
noncomputable def iCB (g:Sto->List W->Option D) (a:Af):Ef
 | env,st=>(a env st).bind λr=>(g r.2 r.1).map λd=>(.d d,r.2)
noncomputable def iCL (g:Sto->List W->Option (List D)) (a:Af):Lf
 | env,st=>(a env st).bind λr=>(g r.2 r.1).map λd=>(d,r.2)
noncomputable def ar (m:Fn) (a:Af):Ef
 | env,st=>(a env st).bind λr=>m r.1 r.2
noncomputable def d2:List W->Option (List D)
 | []=>some []
 | .d x::ws=>(d2 ws).map λr=>x::r
 | .h _::_=>none
noncomputable def aE (a:Af):Ef
 | env,st=>(a env st).bind λr=>(d2 r.1).bind λds=>if ds.length<=1000 then some (.d (.tup ds),r.2) else none
noncomputable def bv (a:Af):Lf
 | env,st=>(a env st).bind λr=>(d2 r.1).bind λds=>if ds.length<=1000 then some (ds,r.2) else none
noncomputable def aJ (a:Lf):Ef
 | env,st=>(a env st).map λr=>(.d (.lst r.1),r.2)
noncomputable def hX (a:Lf):Ef
 | env,st=>(a env st).map λr=>(.h r.2.length,r.2++[.l r.1])
section
variable {K:PySem.W.Frag}{X:Cx}{e a b c:Expr}{es:List Expr}{pos:Pos}{f fa fb fc:Ef}
theorem PE.imp {t t':TE} (h:PE X e t) (m:∀ σ H Q,t' σ H Q->t σ H Q):PE X e t':=λpins s σ H Q I q=>h pins s σ H Q I (m σ H Q q)
theorem PT.imp {t t':TT} (h:PT X e t) (m:∀ σ H Q,t' σ H Q->t σ H Q):PT X e t':=λpins s σ H Q I q=>h pins s σ H Q I (m σ H Q q)
theorem PW.imp {t t':TT} (h:PW X e t) (m:∀ σ H Q,t' σ H Q->t σ H Q):PW X e t':=λwh pins s σ H Q I q=>h wh pins s σ H Q I (m σ H Q q)
theorem PA.imp {t t':TA} (h:PA X es t) (m:∀ σ H Q,t' σ H Q->t σ H Q):PA X es t':=λpos pins s σ H Q I q=>h pos pins s σ H Q I (m σ H Q q)
theorem OpR.imp {g:Value->Value->Sem Value}{r r':R2} (h:OpR X g r) (m:∀ x y H Q,r' x y H Q->r x y H Q):OpR X g r':=λpins s σ H x y v u Q I rx ry q=>h pins s σ H x y v u Q I rx ry (m _ _ _ _ q)
theorem dJ.imp {g:Value}{r r':List V->Hp->VK->Prop} (h:dJ X g r) (m:∀ xs H Q,r' xs H Q->r xs H Q):dJ X g r':=λpins s σ H xs us Q I rx q=>h pins s σ H xs us Q I rx (m _ _ _ q)
theorem jR:PE X e (λ_ _ _=>False):=λ_ _ _ _ _ _ q=>q.elim
theorem uE:PW X e (λ_ _ _=>False):=λ_ _ _ _ _ _ _ q=>q.elim
theorem yd {i:Nat}{x:Str}{t:TE} (h:PE X (.Name x pos) (qg i)):IE K X (.Name x pos) (iV i):=by
 refine⟨λenv st r hr=>?_⟩
 unfold iV at hr
 obtain⟨w,hw,rfl⟩:=Option.map_eq_some_iff.mp hr
 refine h.imp ?_
 rintro σ H Q ⟨φ,hE,hS,q⟩
 have hi:env[i]?=some (some w):=by
  rw [List.getD] at hw
  cases q:env[i]? with
  | none=>rw [q] at hw;cases hw
  | some o=>rw [q] at hw;rw [show o=some w from hw]
 obtain⟨v,e1,r⟩:=hE.at_ i w hi
 exact⟨v,e1,q v H φ (Fw.refl φ H) hS r⟩
theorem iv (i:Nat) {x:Str} (hN:X.N[i]?=some x:=by rfl) (hv:Vis X.env.scope x:=by first | exact Or.inl rfl | exact Or.inr (Or.inl rfl) | exact Or.inr (Or.inr rfl)) (hd:(x==("__debug__" : Str))=false:=by decide)
  (hcd:(x==("__classdict__" : Str))=false:=by decide):IE K X (.Name x pos) (iV i):=yd (t:=qg i) (mt hN hv hd hcd)
theorem rK {d:D}{v:V} (h:PE X e (tC v)) (r:∀ H φ,Rl K H φ d v):IE K X e (iC d):=by
 refine⟨λenv st r hr=>?_⟩
 cases hr
 refine h.imp ?_
 rintro σ H Q ⟨φ,hE,hS,q⟩
 exact q v H φ (Fw.refl φ H) hS (r H φ)
theorem ah {i j}:IE K X (.Constant (.int i) j pos) (iC (.int i)):=rK yw λ_ _=>rfl
theorem nj {i j}:IE K X (.Constant (.bool i) j pos) (iC (.bl i)):=rK zn λ_ _=>rfl
theorem fC {j}:IE K X (.Constant .none j pos) (iC .non):=rK va λ_ _=>rfl
theorem aj {x j}:IE K X (.Constant (.str x) j pos) (iC (.str x)):=rK qd λ_ _=>rfl
theorem oz {env:Ev}{st:Sto}{x y:W×Sto}{d:D}{σ:St}{H:Hp}{Q:VK} (h:tI K env st (.d d,y.2) σ H Q):tOp (rD K y.2 x.1 y.1 d) (tI K env st x) (tI K env x.2 y) σ H Q:=by
 obtain⟨φ,hE,hS,q⟩:=h
 refine⟨φ,hE,hS,λv H1 φ1 f1 s1 w1=>⟨φ1,hE.fw hS f1,s1,λu H2 φ2 f2 s2 w2=>⟨φ2,s2,w1.fw s1 f2,w2,λv3 H3 f3 w3=>?_⟩⟩⟩
 exact q v3 H3 φ2 ((f1.trans f2).trans (Fw.same f3)) (s2.same f3) w3
theorem aD {op:Operator}{g:Sto->W->W->Option D} (ho:OpD K X (binaryOp op) g) (ha:IE K X a fa) (hb:IE K X b fb):IE K X (.BinOp a op b pos) (iOp g fa fb):=by
 refine⟨λenv st r hr=>?_⟩
 simp only [iOp,Option.bind_eq_some_iff,Option.map_eq_some_iff] at hr
 obtain⟨x,hx,y,hy,d,hd,rfl⟩:=hr
 exact (zE (ho.run _ _ _ _ hd) (ha.run _ _ _ hx) (hb.run _ _ _ hy)).imp λσ H Q h=>oz h
theorem ig {op:CmpOp}{g:Sto->W->W->Option D} (ho:OpD K X (compareOp op) g) (ha:IE K X a fa) (hb:IE K X b fb) (hm:behindInMarks op b=false):IE K X (.Compare a [op] [b] pos) (iOp g fa fb):=by
 refine⟨λenv st r hr=>?_⟩
 simp only [iOp,Option.bind_eq_some_iff,Option.map_eq_some_iff] at hr
 obtain⟨x,hx,y,hy,d,hd,rfl⟩:=hr
 exact (vM (ho.run _ _ _ _ hd) (ha.run _ _ _ hx) (hb.run _ _ _ hy) hm).imp λσ H Q h=>oz h
theorem mX {d:D}{k:Bool} (h:dD d=some k):d=.bl k:=by
 cases d<;>first | (cases h;done) | (injection h with h;subst h;rfl)
theorem pO {d:W}{k:Bool} (h:blW d=some k):d=.d (.bl k):=by
 cases d with
 | h n=>cases h
 | d x=>cases x<;>first | (cases h;done) | (injection h with h;subst h;rfl)
theorem aN {op:CmpOp}{g:Sto->W->W->Option D} (ho:OpD K X (compareOp op) g) (ha:IE K X a fa) (hb:IE K X b fb) (hm:behindInMarks op b=false):IT K X (.Compare a [op] [b] pos) (aG g fa fb):=by
 refine⟨λenv st r hr=>?_⟩
 simp only [aG,Option.bind_eq_some_iff,Option.map_eq_some_iff] at hr
 obtain⟨x,hx,y,hy,d,hd,k,hk,rfl⟩:=hr
 cases mX hk
 refine (rG (ho.run _ _ _ _ hd) (ha.run _ _ _ hx) (hb.run _ _ _ hy) hm).imp λσ H Q h=>?_
 obtain⟨φ,hE,hS,q⟩:=h
 refine oz ⟨φ,hE,hS,λv H1 φ1 f1 s1 w1=>⟨k,w1,q H1 φ1 f1 s1⟩⟩
theorem uw {op op':CmpOp}{g g':Sto->W->W->Option D} (ho:OpD K X (compareOp op) g) (ho':OpD K X (compareOp op') g') (ha:IE K X a fa) (hb:IE K X b fb) (hc:IE K X c fc)
  (hm:lastMarks [op,op'] [b,c]=false:=by with_unfolding_all rfl):IE K X (.Compare a [op,op'] [b,c] pos) (nq g g' fa fb fc):=by
 refine⟨λenv st r hr=>?_⟩
 simp only [nq,Option.bind_eq_some_iff] at hr
 obtain⟨x,hx,y,hy,d,hd,k,hk,hr⟩:=hr
 cases mX hk
 cases k with
 | false=>
  rw [if_neg Bool.false_ne_true] at hr
  cases hr
  refine (oM (r':=λ_ _ _ _=>False) (ho.run _ _ _ _ hd) (λ_ _ _ _ _ _ _ _ _ _ _ _ q=>q.elim) (ha.run _ _ _ hx) (hb.run _ _ _ hy) jR hm).imp ?_
  rintro σ H Q ⟨φ,hE,hS,q⟩
  refine⟨φ,hE,hS,λv H1 φ1 f1 s1 w1=>⟨φ1,hE.fw hS f1,s1,λu H2 φ2 f2 s2 w2=>⟨φ2,s2,w1.fw s1 f2,w2,λv3 H3 f3 w3=>⟨false,w3,?_⟩⟩⟩⟩
  rw [if_neg Bool.false_ne_true]
  exact q _ H3 φ2 ((f1.trans f2).trans (Fw.same f3)) (s2.same f3) rfl
 | true=>
  simp only [if_true,Option.bind_eq_some_iff,Option.map_eq_some_iff] at hr
  obtain⟨z,hz,d',hd',rfl⟩:=hr
  refine (oM (ho.run _ _ _ _ hd) (ho'.run _ _ _ _ hd') (ha.run _ _ _ hx) (hb.run _ _ _ hy) (hc.run _ _ _ hz) hm).imp ?_
  rintro σ H Q ⟨φ,hE,hS,q⟩
  refine⟨φ,hE,hS,λv H1 φ1 f1 s1 w1=>⟨φ1,hE.fw hS f1,s1,λu H2 φ2 f2 s2 w2=>⟨φ2,s2,w1.fw s1 f2,w2,λv3 H3 f3 w3=>⟨true,w3,?_⟩⟩⟩⟩
  rw [if_pos rfl]
  have f13:=(f1.trans f2).trans (Fw.same (φ:=φ2) f3)
  refine⟨φ2,hE.fw hS f13,s2.same f3,λu4 H4 φ4 f4 s4 w4=>⟨φ4,s4,(w2.fw s2 (Fw.same f3)).fw (s2.same f3) f4,w4,λv5 H5 f5 w5=>?_⟩⟩
  exact q v5 H5 φ4 (f13.trans (f4.trans (Fw.same f5))) (s4.same f5) w5
noncomputable def iu:W->Option D
 | .d (.int i)=>some (.int (-i))
 | _=>none
theorem qj (ha:IE K X a fa):IE K X (.UnaryOp .USub a pos) (iUn iu fa):=by
 refine⟨λenv st r hr=>?_⟩
 simp only [iUn,Option.bind_eq_some_iff,Option.map_eq_some_iff] at hr
 obtain⟨⟨x,s1⟩,hx,d,hd,rfl⟩:=hr
 cases x with
 | h n=>cases hd
 | d x=>
  cases x with
  | int i=>
   cases hd
   refine (zg yt (ha.run _ _ _ hx)).imp ?_
   rintro σ H Q ⟨φ,hE,hS,q⟩
   exact⟨φ,hE,hS,λv H1 φ1 f1 s1 w1=>⟨i,w1,q _ H1 φ1 f1 s1 rfl⟩⟩
  | _=>cases hd
theorem xV (ha:IE K X a fa):IE K X (.UnaryOp .Not a pos) (qQ fa):=by
 refine⟨λenv st r hr=>?_⟩
 simp only [qQ,Option.bind_eq_some_iff,Option.map_eq_some_iff] at hr
 obtain⟨x,hx,k,hk,rfl⟩:=hr
 have e:=pO hk
 refine (yz (ha.run _ _ _ hx)).imp ?_
 rintro σ H Q ⟨φ,hE,hS,q⟩
 exact⟨φ,hE,hS,λv H1 φ1 f1 s1 w1=>⟨k,by rw [e] at w1;exact w1,q _ H1 φ1 f1 s1 rfl⟩⟩
theorem j0 {op} (h:IE K X a fa):IE K X (.BoolOp op [a] pos) fa:=⟨λenv st r hr=>yG (h.run env st r hr)⟩
theorem jm {rest:List Expr} (ha:IE K X a fa) (hb:IE K X (.BoolOp .And (b::rest) pos) fb):IE K X (.BoolOp .And (a::b::rest) pos) (eO fa fb):=by
 refine⟨λenv st r hr=>?_⟩
 simp only [eO,Option.bind_eq_some_iff] at hr
 obtain⟨x,hx,k,hk,hr⟩:=hr
 have e:=pO hk
 cases k with
 | false=>
  rw [if_neg Bool.false_ne_true] at hr
  cases hr
  refine (ul (ha.run _ _ _ hx) jR).imp ?_
  rintro σ H Q ⟨φ,hE,hS,q⟩
  refine⟨φ,hE,hS,λv H1 φ1 f1 s1 w1=>⟨false,by rw [e] at w1;exact w1,?_⟩⟩
  rw [if_neg Bool.false_ne_true]
  exact q _ H1 φ1 f1 s1 rfl
 | true=>
  rw [if_pos rfl] at hr
  refine (ul (ha.run _ _ _ hx) (hb.run _ _ _ hr)).imp ?_
  rintro σ H Q ⟨φ,hE,hS,q⟩
  refine⟨φ,hE,hS,λv H1 φ1 f1 s1 w1=>⟨true,by rw [e] at w1;exact w1,?_⟩⟩
  rw [if_pos rfl]
  exact⟨φ1,hE.fw hS f1,s1,λu H2 φ2 f2 s2 w2=>q u H2 φ2 (f1.trans f2) s2 w2⟩
variable {ta tb:Tf}
theorem gm (ha:IT K X a ta):IT K X (.UnaryOp .Not a pos) (da ta):=by
 refine⟨λenv st r hr=>?_⟩
 simp only [da,Option.map_eq_some_iff] at hr
 obtain⟨x,hx,rfl⟩:=hr
 refine (pX (ha.run _ _ _ hx)).imp ?_
 rintro σ H Q ⟨φ,hE,hS,q⟩
 exact⟨φ,hE,hS,λH1 φ1 f1 s1=>q H1 φ1 f1 s1⟩
theorem gt (h:ITW K X a ta):IT K X a ta:=⟨λenv st r hr=>(h.run env st r hr).pt⟩
theorem eS (h:IT K X a ta):ITW K X (.BoolOp .Or [a] pos) ta:=⟨λenv st r hr=>uz (h.run env st r hr)⟩
theorem fg {rest:List Expr} (ha:IT K X a ta) (hb:ITW K X (.BoolOp .Or (b::rest) pos) tb):ITW K X (.BoolOp .Or (a::b::rest) pos) (ci ta tb):=by
 refine⟨λenv st r hr=>?_⟩
 simp only [ci,Option.bind_eq_some_iff] at hr
 obtain⟨⟨k,s1⟩,hx,hr⟩:=hr
 cases k with
 | true=>
  rw [if_pos rfl] at hr
  cases hr
  refine (qW (ha.run _ _ _ hx) uE).imp ?_
  rintro σ H Q ⟨φ,hE,hS,q⟩
  refine⟨φ,hE,hS,λH1 φ1 f1 s1=>?_⟩
  refine pE ?_
  exact q H1 φ1 f1 s1
 | false=>
  rw [if_neg Bool.false_ne_true] at hr
  refine (qW (ha.run _ _ _ hx) (hb.run _ _ _ hr)).imp ?_
  rintro σ H Q ⟨φ,hE,hS,q⟩
  refine⟨φ,hE,hS,λH1 φ1 f1 s1=>?_⟩
  refine mv ?_
  exact⟨φ1,hE.fw hS f1,s1,λH2 φ2 f2 s2=>q H2 φ2 (f1.trans f2) s2⟩
theorem zI {tc:Tf} (hc:IT K X c tc) (ha:IE K X a fa) (hb:IE K X b fb):IE K X (.IfExp c a b pos) (qC tc fa fb):=by
 refine⟨λenv st r hr=>?_⟩
 simp only [qC,Option.bind_eq_some_iff] at hr
 obtain⟨⟨k,s1⟩,hx,hr⟩:=hr
 cases k with
 | true=>
  rw [if_pos rfl] at hr
  refine (pd (hc.run _ _ _ hx) (ha.run _ _ _ hr) jR).imp ?_
  rintro σ H Q ⟨φ,hE,hS,q⟩
  refine⟨φ,hE,hS,λH1 φ1 f1 s1=>?_⟩
  refine pE ?_
  exact⟨φ1,hE.fw hS f1,s1,λu H2 φ2 f2 s2 w2=>q u H2 φ2 (f1.trans f2) s2 w2⟩
 | false=>
  rw [if_neg Bool.false_ne_true] at hr
  refine (pd (hc.run _ _ _ hx) jR (hb.run _ _ _ hr)).imp ?_
  rintro σ H Q ⟨φ,hE,hS,q⟩
  refine⟨φ,hE,hS,λH1 φ1 f1 s1=>?_⟩
  refine mv ?_
  exact⟨φ1,hE.fw hS f1,s1,λu H2 φ2 f2 s2 w2=>q u H2 φ2 (f1.trans f2) s2 w2⟩
noncomputable def cB (st:Sto):W->Option (List D)
 | .d (.tup ds)=>some ds
 | .d (.lst ds)=>some ds
 | .d (.scr ns)=>some (ns.map D.int)
 | .h n=>lg st n
 | _=>none
theorem pv {st:Sto}{H:Hp}{φ:List Addr}{w:W}{v:V}{ds:List D} (S:Sr K H φ st) (r:Rw K H φ w v) (e:cB st w=some ds):∃ a vs,v=.ref a/\(SqL K H a vs\/H a=some (.tup vs))/\Rls K H φ ds vs:=by
 cases w with
 | h n=>
  obtain⟨a,ea,rfl⟩:=r
  obtain⟨vs,q,rl⟩:=S.atl n a ds ea e
  exact⟨a,vs,rfl,.inl (SqL.of q),rl⟩
 | d x=>
  cases x with
  | tup es=>cases e;obtain⟨a,vs,rfl,h1,h2⟩:=r;exact⟨a,vs,rfl,.inr h1,h2⟩
  | lst es=>cases e;obtain⟨a,vs,rfl,h0,h1,h2⟩:=r;exact⟨a,vs,rfl,.inl (.inl h1),h2⟩
  | scr ns=>
   cases e
   obtain⟨a,rfl,h⟩:=r
   refine⟨a,_,rfl,.inl ?_,Rls.of_ints ns⟩
   rcases h with⟨o,h⟩ | h
   ·exact .inl (.inr ⟨o,h⟩)
   ·exact .inr h
  | _=>cases e
theorem jB {st:Sto}{H:Hp}{φ:List Addr}{w:W}{v:V}{ds:List D} (S:Sr K H φ st) (r:Rw K H φ w v) (e:cB st w=some ds):∃ a vs,v=.ref a/\(SqL K H a vs\/SqT K H a vs)/\Rls K H φ ds vs:=by
 obtain⟨a,vs,h0,h1,h2⟩:=pv S r e
 exact⟨a,vs,h0,h1.imp id SqT.of,h2⟩
noncomputable def fK (st:Sto):W->Option Bool
 | .d .non=>some false
 | .d (.bl b)=>some b
 | .d (.int i)=>some (i != 0)
 | w=>(cB st w).map λds=>!ds.isEmpty
theorem wR {st:Sto}{H:Hp}{φ:List Addr}{w:W}{v:V}{k:Bool} (S:Sr K H φ st) (r:Rw K H φ w v) (e:fK st w=some k):wy K v H k:=by
 have seq:∀ ds,cB st w=some ds->k=!ds.isEmpty->wy K v H k:=λds h hk=>by
  obtain⟨a,vs,rfl,h1,h2⟩:=jB S r h
  have hl:=h2.length
  have e':k=!vs.isEmpty:=by
   rw [hk]
   cases ds<;>cases vs<;>first | rfl | cases hl
  rcases h1 with h1 | h1
  ·exact .inl ⟨vs,h1,e'⟩
  ·exact .inr (.inl ⟨vs,h1,e'⟩)
 cases w with
 | h n=>
  obtain⟨ds,h1,h2⟩:=Option.map_eq_some_iff.mp e
  exact seq ds h1 h2.symm
 | d x=>
  cases x with
  | non=>have r':v=.non:=r;subst r';cases e;exact rfl
  | bl b=>have r':v=.bl b:=r;subst r';cases e;exact rfl
  | int i=>have r':v=.int i:=r;subst r';cases e;exact rfl
  | tup ds=>exact seq ds rfl (Option.some.inj e).symm
  | lst ds=>exact seq ds rfl (Option.some.inj e).symm
  | scr ds=>exact seq _ rfl (Option.some.inj e).symm
  | _=>cases e
theorem gq (ha:IE K X a fa) (he:uU a=true:=by rfl) (hK:X.K=K:=by rfl):IT K X a (fu fK fa):=by
 subst hK
 refine⟨λenv st r hr=>?_⟩
 simp only [fu,Option.bind_eq_some_iff,Option.map_eq_some_iff] at hr
 obtain⟨x,hx,k,hk,rfl⟩:=hr
 refine (sN (ha.run _ _ _ hx) (rR he)).imp ?_
 rintro σ H Q ⟨φ,hE,hS,q⟩
 exact⟨φ,hE,hS,λv H1 φ1 f1 s1 w1=>⟨k,wR s1 w1 hk,q H1 φ1 f1 s1⟩⟩
variable {af:Af}
theorem ag:IA K X [] ai:=by
 refine⟨λenv st r hr=>?_⟩
 cases hr
 refine iw.imp ?_
 rintro σ H Q ⟨φ,hE,hS,q⟩
 exact q [] H φ (Fw.refl φ H) hS rfl
theorem ae (ha:IE K X e fa) (hr:IA K X es af) (hs:bh e=true:=by rfl):IA K X (e::es) (ac fa af):=by
 refine⟨λenv st r h=>?_⟩
 simp only [ac,Option.bind_eq_some_iff,Option.map_eq_some_iff] at h
 obtain⟨x,hx,y,hy,rfl⟩:=h
 refine (cU (ha.run _ _ _ hx) (hr.run _ _ _ hy) (cu hs)).imp ?_
 rintro σ H Q ⟨φ,hE,hS,q⟩
 refine⟨φ,hE,hS,λv H1 φ1 f1 s1 w1=>⟨φ1,hE.fw hS f1,s1,λu H2 φ2 f2 s2 w2=>?_⟩⟩
 exact q _ H2 φ2 (f1.trans f2) s2 ⟨v,u,rfl,w1.fw s1 f2,w2⟩
theorem cm {x:Str}{id:String}{p:Pos}{g:Sto->List W->Option D} (hc:gl K X (.builtin id) g) (hg:Gl X x) (hm:X.mg x=none) (hv:bootBuiltins x=some (.builtin id)) (ha:IA K X (e::es) af)
  (hn:x≠"__name__":=by decide) (hdb:(x==("__debug__" : Str))=false:=by decide) (hs:bh e=true:=by rfl) (hp:es.all bh=true:=by rfl) :
  IE K X (.Call (.Name x p) (e::es) [] pos) (iCB g af):=by
 refine⟨λenv st r hr=>?_⟩
 simp only [iCB,Option.bind_eq_some_iff,Option.map_eq_some_iff] at hr
 obtain⟨y,hy,d,hd,rfl⟩:=hr
 refine (jq (hc.run _ _ _ hd) hg hm hv (ha.run _ _ _ hy) hn hdb (cu hs) (dI hp)).imp ?_
 rintro σ H Q ⟨φ,hE,hS,q⟩
 exact⟨φ,hE,hS,λv H1 φ1 f1 s1 w1=>⟨φ1,s1,w1,λu H2 f2 w2=>q u H2 φ1 (f1.trans (Fw.same f2)) (s1.same f2) w2⟩⟩
theorem pQ {x:Str}{T:String}{p:Pos}{g:Sto->List W->Option D} (hc:gl K X (.type T) g) (hg:Gl X x) (hm:X.mg x=none) (hv:bootBuiltins x=some (.type T)) (ha:IA K X (e::es) af)
  (hn:x≠"__name__":=by decide) (hdb:(x==("__debug__" : Str))=false:=by decide) (hs:bh e=true:=by rfl) (hp:es.all bh=true:=by rfl) :
  IE K X (.Call (.Name x p) (e::es) [] pos) (iCB g af):=by
 refine⟨λenv st r hr=>?_⟩
 simp only [iCB,Option.bind_eq_some_iff,Option.map_eq_some_iff] at hr
 obtain⟨y,hy,d,hd,rfl⟩:=hr
 refine (kn (hc.run _ _ _ hd) hg hm hv (ha.run _ _ _ hy) hn hdb (cu hs) (dI hp)).imp ?_
 rintro σ H Q ⟨φ,hE,hS,q⟩
 exact⟨φ,hE,hS,λv H1 φ1 f1 s1 w1=>⟨φ1,s1,w1,λu H2 f2 w2=>q u H2 φ1 (f1.trans (Fw.same f2)) (s1.same f2) w2⟩⟩
theorem rA {x:Str}{T:String}{p:Pos}{g:Sto->List W->Option (List D)} (hc:xk K X (.type T) g) (hg:Gl X x) (hm:X.mg x=none) (hv:bootBuiltins x=some (.type T)) (ha:IA K X (e::es) af)
  (hn:x≠"__name__":=by decide) (hdb:(x==("__debug__" : Str))=false:=by decide) (hs:bh e=true:=by rfl) (hp:es.all bh=true:=by rfl) :
  IL K X (.Call (.Name x p) (e::es) [] pos) (iCL g af):=by
 refine⟨λenv st r hr=>?_⟩
 simp only [iCL,Option.bind_eq_some_iff,Option.map_eq_some_iff] at hr
 obtain⟨y,hy,d,hd,rfl⟩:=hr
 refine (kn (hc.run _ _ _ hd) hg hm hv (ha.run _ _ _ hy) hn hdb (cu hs) (dI hp)).imp ?_
 rintro σ H Q ⟨φ,hE,hS,q⟩
 exact⟨φ,hE,hS,λv H1 φ1 f1 s1 w1=>⟨φ1,s1,w1,λa us H2 f2 n2 w2=>q a us H2 φ1 (f1.trans (Fw.same f2)) (s1.same f2) n2 w2⟩⟩
theorem lX {H:Hp}{φ:List Addr}:∀ {ws:List W}{vs:List V}{ds:List D},d2 ws=some ds->Rws K H φ ws vs->Rls K H φ ds vs
 | [],_,_,e,h=>by cases e;exact h
 | .d x::ws,_,_,e,h=>by
  obtain⟨v,r,rfl,h1,h2⟩:=h
  obtain⟨es,e1,rfl⟩:=Option.map_eq_some_iff.mp e
  exact⟨v,r,rfl,h1,lX e1 h2⟩
 | .h n::ws,_,_,e,h=>by cases e
theorem aY {x1} (h:IA K X es af):IE K X (.Tuple es x1 pos) (aE af):=by
 refine⟨λenv st r hr=>?_⟩
 simp only [aE,Option.bind_eq_some_iff] at hr
 obtain⟨y,hy,ds,hd,hr⟩:=hr
 split at hr
 ·cases hr
  rename_i hl
  refine (nR (h.run _ _ _ hy)).imp ?_
  rintro σ H Q ⟨φ,hE,hS,q⟩
  refine⟨φ,hE,hS,λvs H1 φ1 f1 s1 w1=>?_⟩
  have w:=lX hd w1
  refine⟨by rw [<-w.length];exact rF hl,λp hp=>?_⟩
  exact q _ _ φ1 (f1.trans (Fw.new hp)) (s1.new hp) ⟨p,vs,rfl,bG,w.fw s1 (Fw.new hp)⟩
 ·cases hr
theorem bR (h:IA K X es af):IL K X (.List es pos) (bv af):=by
 refine⟨λenv st r hr=>?_⟩
 simp only [bv,Option.bind_eq_some_iff] at hr
 obtain⟨y,hy,ds,hd,hr⟩:=hr
 split at hr
 ·cases hr
  rename_i hl
  refine (t9 (h.run _ _ _ hy)).imp ?_
  rintro σ H Q ⟨φ,hE,hS,q⟩
  refine⟨φ,hE,hS,λvs H1 φ1 f1 s1 w1=>?_⟩
  have w:=lX hd w1
  exact⟨by rw [<-w.length];exact rF hl,λp hp=>q p vs H1 φ1 f1 s1 hp w⟩
 ·cases hr
theorem bi {lf:Lf} (h:IL K X e lf):IE K X e (aJ lf):=by
 refine⟨λenv st r hr=>?_⟩
 simp only [aJ,Option.map_eq_some_iff] at hr
 obtain⟨y,hy,rfl⟩:=hr
 refine (h.run _ _ _ hy).imp ?_
 rintro σ H Q ⟨φ,hE,hS,q⟩
 refine⟨φ,hE,hS,λa vs H1 φ1 f1 s1 n1 w1=>?_⟩
 exact q _ _ φ1 (f1.trans (Fw.new n1)) (s1.new n1) ⟨a,vs,rfl,s1.nin n1,.inl bG,w1.fw s1 (Fw.new n1)⟩
theorem Sr.moreC {H:Hp}{φ:List Addr}{st:Sto}{a:Addr}{o:HO}{c:C} (S:Sr K H φ st) (n:H a=none) (w:Rc K (upd H a o) (φ++[a]) φ.length a c):Sr K (upd H a o) (φ++[a]) (st++[c]):=by
 have f:Fw φ (φ++[a]) H (upd H a o):=⟨⟨[a],rfl,λb hb=>by rw [List.mem_singleton.mp hb];exact n⟩,λb o _ h=>bJ.new n _ b o h,λb o h=>⟨o,bJ.new n _ b o h⟩⟩
 refine⟨?_,by rw [List.length_append,List.length_append,S.len];rfl,λi b es e1 e2=>?_⟩
 ·rw [List.nodup_append]
  refine⟨S.nd,by simp,λx hx y hy e=>?_⟩
  rw [List.mem_singleton.mp hy] at e
  rw [e] at hx
  exact S.nin n hx
 ·by_cases hi:i < φ.length
  ·rw [List.getElem?_append_left hi] at e1
   rw [List.getElem?_append_left (by rw [<-S.len];exact hi)] at e2
   exact (S.at_ i b es e1 e2).fw S f λo h=>bJ.new n _ _ _ h
  ·have e:i=φ.length:=by
    have:=(List.getElem?_eq_some_iff.mp e1).1
    rw [List.length_append] at this
    simp at this
    lia
   subst e
   rw [List.getElem?_append_right (Nat.le_refl _)] at e1
   rw [S.len,List.getElem?_append_right (Nat.le_refl _)] at e2
   simp at e1 e2
   subst e1 e2
   exact w
theorem Fw.moreO {H:Hp}{φ:List Addr}{a:Addr}{o:HO} (n:H a=none):Fw φ (φ++[a]) H (upd H a o):=
 ⟨⟨[a],rfl,λb hb=>by rw [List.mem_singleton.mp hb];exact n⟩,λb o _ h=>bJ.new n _ b o h,λb o h=>⟨o,bJ.new n _ b o h⟩⟩
theorem Fw.more {H:Hp}{φ:List Addr}{a:Addr}{vs:List V} (n:H a=none):Fw φ (φ++[a]) H (upd H a (.lst vs)):=Fw.moreO n
theorem Sr.more {H:Hp}{φ:List Addr}{st:Sto}{a:Addr}{vs:List V}{ds:List D} (S:Sr K H φ st) (n:H a=none) (w:Rls K H φ ds vs):Sr K (upd H a (.lst vs)) (φ++[a]) (st++[.l ds]):=
 S.moreC n ⟨vs,bG,w.fw S (Fw.moreO n)⟩
theorem ml {lf:Lf} (h:IL K X e lf):IE K X e (hX lf):=by
 refine⟨λenv st r hr=>?_⟩
 simp only [hX,Option.map_eq_some_iff] at hr
 obtain⟨y,hy,rfl⟩:=hr
 refine (h.run _ _ _ hy).imp ?_
 rintro σ H Q ⟨φ,hE,hS,q⟩
 refine⟨φ,hE,hS,λa vs H1 φ1 f1 s1 n1 w1=>?_⟩
 exact q _ _ (φ1++[a]) (f1.trans (Fw.more n1)) (s1.more n1 w1) ⟨a,by rw [<-s1.len];simp,rfl⟩
noncomputable def spI (K:PySem.W.Frag) (m:Fn):Sp:=λvs H Q _=>∃ φ st ws r,m ws st=some r/\Rws K H φ ws vs/\Sr K H φ st/\∀ v H' φ',Fw φ φ' H H'->Sr K H' φ' r.2->Rw K H' φ' r.1 v->Q v H'
theorem aC {x:Str}{k j:Nat}{ff:Addr}{fd:FuncData}{ps:List Str}{m:Fn}{p:Pos} (F:bD X.prog X.w X.K X.mg X.base CX0 j ff fd ps (spI K m)) (hjk:j<=k) (hr:cZ k X.A) (hg:Gl X x) (hm:X.mg x=some (.ref ff)) (hk:PySem.W.keepIn X.K (.ref ff)=true) (hb:cw X.K fd ps [])
  (ha:IA K X (e::es) af) (hdb:(x==("__debug__" : Str))=false:=by decide) (hs:bh e=true:=by rfl) (hp:es.all bh=true:=by rfl) :
  IE K X (.Call (.Name x p) (e::es) [] pos) (ar m af):=by
 refine⟨λenv st r h=>?_⟩
 simp only [ar,Option.bind_eq_some_iff] at h
 obtain⟨y,hy,h⟩:=h
 refine (qK (F.mono hjk) hr hg hm hk hb .nil zc (ha.run _ _ _ hy) hdb (cu hs) (dI hp)).imp ?_
 rintro σ H Q ⟨φ,hE,hS,q⟩
 refine⟨φ,hE,hS,λvs H1 φ1 f1 s1 w1=>?_⟩
 show spI K m (vs++[]) H1 Q E0
 rw [List.append_nil]
 exact⟨φ1,y.2,y.1,r,h,w1,s1,λv H2 φ2 f2 s2 w2=>q v H2 φ2 (f1.trans f2) s2 w2⟩
end
end L2
namespace L2
open PySem PySem.Spec PyProof.Rows
inductive Fl where
 | nx (env:Ev) (st:Sto) | rt (w:W) (st:Sto) | bk (env:Ev) (st:Sto) | ct (env:Ev) (st:Sto)
abbrev Sf:=Ev->Sto->Option Fl
noncomputable def uP (K:PySem.W.Frag) (φ:List Addr) (H:Hp) (D:ph):Fl->Prop
 | .nx e s=>∀ σ' H' φ',Fw φ φ' H H'->Er K H' φ' e σ'->Sr K H' φ' s->D.nx σ' H'
 | .rt w s=>∀ v H' φ',Fw φ φ' H H'->Sr K H' φ' s->Rw K H' φ' w v->D.rt v H'
 | .bk e s=>∀ σ' H' φ',Fw φ φ' H H'->Er K H' φ' e σ'->Sr K H' φ' s->D.bk σ' H'
 | .ct e s=>∀ σ' H' φ',Fw φ φ' H H'->Er K H' φ' e σ'->Sr K H' φ' s->D.ct σ' H'
theorem uP.fw {K:PySem.W.Frag}{φ φ1:List Addr}{H H1:Hp}{D:ph}{r:Fl} (h:uP K φ H D r) (f:Fw φ φ1 H H1):uP K φ1 H1 D r:=by
 cases r with
 | nx e s=>exact λσ' H' φ' f'=>h σ' H' φ' (f.trans f')
 | rt w s=>exact λv H' φ' f'=>h v H' φ' (f.trans f')
 | bk e s=>exact λσ' H' φ' f'=>h σ' H' φ' (f.trans f')
 | ct e s=>exact λσ' H' φ' f'=>h σ' H' φ' (f.trans f')
noncomputable def tS (K:PySem.W.Frag) (env:Ev) (st:Sto) (r:Fl):TS:=λD σ H=>∃ φ,Er K H φ env σ/\Sr K H φ st/\uP K φ H D r
structure IS (K:PySem.W.Frag) (X:Cx) (s:Stmt) (g:Sf):Prop where
 run:∀ env st r,g env st=some r->PS X s (tS K env st r)
structure ISs (K:PySem.W.Frag) (X:Cx) (s:List Stmt) (g:Sf):Prop where
 run:∀ env st r,g env st=some r->PSs X s (tS K env st r)
inductive Tg where
 | nm (i:Nat) | tp (is:List Nat)
noncomputable def vZ:Tg->List Nat
 | .nm i=>[i]
 | .tp is=>is
noncomputable def tw:List Nat->List D->Ev->Ev
 | i::is,d::ds,env=>tw is ds (env.set i (some (.d d)))
 | _,_,env=>env
noncomputable def dA:Tg->W->Ev->Option Ev
 | .nm i,w,env=>some (env.set i (some w))
 | .tp is,.d (.tup ds),env=>if is.length=ds.length then some (tw is ds env) else none
 | .tp is,.d (.lst ds),env=>if is.length=ds.length then some (tw is ds env) else none
 | _,_,_=>none
noncomputable def xR (is:List Nat) (σ σ':St):Prop:=σ'.length=σ.length/\∀ j,j ∉ is->σ'[j]?=σ[j]?
noncomputable def tG (K:PySem.W.Frag) (g:Tg):TG:=λv σ H Q=>∃ φ st env w env',Er K H φ env σ/\Sr K H φ st/\Rw K H φ w v/\dA g w env=some env'/\∀ σ',Er K H φ env' σ'->xR (vZ g) σ σ'->Q σ' H
noncomputable def aM:Sf
 | env,st=>some (.nx env st)
noncomputable def av (a b:Sf):Sf
 | env,st=>(a env st).bind λr=>match r with
 | .nx e s=>b e s
 | r=>some r
noncomputable def aT (g:Tg) (f:Ef):Sf
 | env,st=>(f env st).bind λr=>(dA g r.1 env).map λe=>.nx e r.2
noncomputable def lK (i j:Nat) (a:Af):Sf
 | env,st=>(a env st).bind λr=>match r.1 with
 | [x,y]=>some (.nx ((env.set i (some x)).set j (some y)) r.2)
 | _=>none
noncomputable def gT (st:Sto) (o i v:W):Option Sto:=match o,i,v with
 | .h n,.d (.int k),.d x=>(lg st n).bind λds=>(ixN ds.length k).map λj=>st.set n (.l (ds.set j x))
 | _,_,_=>none
noncomputable def d3 (o i v:Ef):Sf
 | env,st=>(v env st).bind λrv=>(o env rv.2).bind λro=>(i env ro.2).bind λri=>(gT ri.2 ro.1 ri.1 rv.1).map λs=>.nx env s
noncomputable def aX (f:Ef):Sf
 | env,st=>(f env st).map λr=>.rt r.1 r.2
noncomputable def iB (f:Ef):Sf
 | env,st=>(f env st).map λr=>.nx env r.2
noncomputable def bc (c:Tf) (a b:Sf):Sf
 | env,st=>(c env st).bind λr=>if r.1=true then a env r.2 else b env r.2
noncomputable def fS (g:Tg) (body:Sf):List D->Ev->Sto->Option Fl
 | [],env,st=>some (.nx env st)
 | d::ds,env,st=>(dA g (.d d) env).bind λe=>(body e st).bind λr=>match r with
  | .nx e s=>fS g body ds e s
  | .ct e s=>fS g body ds e s
  | .bk e s=>some (.nx e s)
  | .rt w s=>some (.rt w s)
noncomputable def jt (fi:Lf) (g:Tg) (body:Sf):Sf
 | env,st=>(fi env st).bind λr=>fS g body r.1 env r.2
noncomputable def eu (c:Tf) (body:Sf):Nat->Ev->Sto->Option Fl
 | 0,_,_=>none
 | n+1,env,st=>(c env st).bind λk=>if k.1=true then (body env k.2).bind λr=>match r with
   | .nx e s=>eu c body n e s
   | .ct e s=>eu c body n e s
   | .bk e s=>some (.nx e s)
   | .rt w s=>some (.rt w s)
  else some (.nx env k.2)
noncomputable def lcI (g:Tg) (tt:Tf) (te:Ef) (env:Ev):List D->Sto->Option (List D×Sto)
 | [],st=>some ([],st)
 | d::ds,st=>(dA g (.d d) env).bind λe=>(tt e st).bind λb=>if b.1=true then (te e b.2).bind λx=>(d2 [x.1]).bind λys=>(lcI g tt te env ds x.2).map λr=>(ys++r.1,r.2)
   else lcI g tt te env ds b.2
noncomputable def kZ (k:Nat) (js:List Nat) (env:Ev):Ev:=List.replicate k none++js.map λj=>env.getD j none
noncomputable def iLc (k:Nat) (js:List Nat) (fi:Lf) (g:Tg) (tt:Tf) (te:Ef):Lf
 | env,st=>(fi env st).bind λr=>if r.1.length<=1000000 then lcI g tt te (kZ k js env) r.1 r.2 else none
noncomputable def fj:Tf
 | _,st=>some (true,st)
noncomputable def cf (f:Ef):Lf
 | env,st=>(f env st).bind λr=>match r.1 with
 | .d (.tup ds)=>some (ds,r.2)
 | .d (.lst ds)=>some (ds,r.2)
 | _=>none
noncomputable def gO (lo:Int) (n:Nat):List D:=(List.range n).map λk:Nat=>D.int (lo+k)
noncomputable def dB (a:Af):Lf
 | env,st=>(a env st).bind λr=>match r.1 with
 | [.d (.int j)]=>if -(2 ^ 62)<=j/\j < 2 ^ 62 then some (gO 0 j.toNat,r.2) else none
 | _=>none
section
variable {K:PySem.W.Frag}{X:Cx}{pos:Pos}
theorem PS.imp {s:Stmt}{t t':TS} (h:PS X s t) (m:∀ D σ H,t' D σ H->t D σ H):PS X s t':=λpins s σ H D I q=>h pins s σ H D I (m D σ H q)
theorem PSs.imp {s:List Stmt}{t t':TS} (h:PSs X s t) (m:∀ D σ H,t' D σ H->t D σ H):PSs X s t':=λpins s σ H D I q=>h pins s σ H D I (m D σ H q)
theorem Er.set {H:Hp}{φ:List Addr}{env:Ev}{σ:St} (h:Er K H φ env σ) (i:Nat) {w:W}{v:V} (r:Rw K H φ w v):Er K H φ (env.set i (some w)) (σ.set i (some v)):=by
 refine⟨by rw [List.length_set,List.length_set,h.len],λj w' e=>?_⟩
 by_cases hj:i=j
 ·subst hj
  have hi:i < env.length:=by
   have:=(List.getElem?_eq_some_iff.mp e).1
   rwa [List.length_set] at this
  rw [List.getElem?_set_self hi] at e
  cases e
  exact⟨v,by rw [List.getElem?_set_self (by rw [<-h.len];exact hi)],r⟩
 ·rw [List.getElem?_set_ne hj] at e
  obtain⟨v',e1,r1⟩:=h.at_ j w' e
  exact⟨v',by rw [List.getElem?_set_ne hj];exact e1,r1⟩
theorem uT (i:Nat) (σ:St) (v:Option V):xR [i] σ (σ.set i v):=⟨by rw [List.length_set],λj hj=>by rw [List.getElem?_set_ne (by rintro rfl;simp at hj)]⟩
theorem dW {i:Nat}{x:Str} (h:PG X (.Name x pos) (qI i)):PG X (.Name x pos) (tG K (.nm i)):=by
 intro pins s σ H v u Q I rv q
 obtain⟨φ,st,env,w,env',hE,hS,r,e,q⟩:=q
 cases e
 exact h pins s σ H v u Q I rv (q _ (hE.set i r) (uT i σ _))
variable {s:Stmt}{ss rest:List Stmt}{e a b c:Expr}{ga gb:Sf}{f fa fb fc:Ef}
theorem aK:ISs K X [] aM:=by
 refine⟨λenv st r hr=>?_⟩
 cases hr
 exact lp.imp λD σ H ⟨φ,hE,hS,q⟩=>q σ H φ (Fw.refl φ H) hE hS
theorem au (h:IS K X s ga):ISs K X [s] ga:=⟨λenv st r hr=>iR (h.run env st r hr)⟩
theorem am (h1:IS K X s ga) (h2:ISs K X rest gb):ISs K X (s::rest) (av ga gb):=by
 refine⟨λenv st r hr=>?_⟩
 simp only [av,Option.bind_eq_some_iff] at hr
 obtain⟨r1,e1,hr⟩:=hr
 cases r1 with
 | nx e s1=>
  refine (dN (h1.run _ _ _ e1) (h2.run _ _ _ hr)).imp ?_
  rintro D σ H ⟨φ,hE,hS,q⟩
  exact⟨φ,hE,hS,λσ' H' φ' f' e' s'=>⟨φ',e',s',q.fw f'⟩⟩
 | rt w s1=>
  cases hr
  exact (dN (h1.run _ _ _ e1) dw).imp λD σ H ⟨φ,hE,hS,q⟩=>⟨φ,hE,hS,q⟩
 | bk w s1=>
  cases hr
  exact (dN (h1.run _ _ _ e1) dw).imp λD σ H ⟨φ,hE,hS,q⟩=>⟨φ,hE,hS,q⟩
 | ct w s1=>
  cases hr
  exact (dN (h1.run _ _ _ e1) dw).imp λD σ H ⟨φ,hE,hS,q⟩=>⟨φ,hE,hS,q⟩
theorem aV {i:Nat}{x:Str}{pos':Pos} (hN:X.N.Nodup) (hi:X.N[i]?=some x) (hx:Loc X.env.scope x) (he:IE K X e f) (hs:swapsWith e (some (.Name x pos')) pos.line X.env=pure false:=by rfl) (hf:X.fn x=true\/X.env.scope.names.lookup x=some .local:=by first | exact .inl rfl | exact .inr rfl | assumption) :
  IS K X (.Assign [.Name x pos'] e pos) (aT (.nm i) f):=by
 refine⟨λenv st r hr=>?_⟩
 simp only [aT,dA,Option.bind_eq_some_iff,Option.map_eq_some_iff] at hr
 obtain⟨y,hy,e',ee,rfl⟩:=hr
 cases ee
 refine (nH hN hi hx (he.run _ _ _ hy) hs hf).imp ?_
 rintro D σ H ⟨φ,hE,hS,q⟩
 exact⟨φ,hE,hS,λv H1 φ1 f1 s1 w1=>q _ H1 φ1 f1 ((hE.fw hS f1).set i w1) s1⟩
theorem Sr.putC {H:Hp}{φ:List Addr}{st:Sto}{n:Nat}{a:Addr}{o:HO}{c:C} (S:Sr K H φ st) (hn:φ[n]?=some a) (w:Fw φ φ H (upd H a o)->Rc K (upd H a o) φ n a c) :
  Fw φ φ H (upd H a o)/\Sr K (upd H a o) φ (st.set n c):=by
 have ha:a ∈ φ:=List.mem_of_getElem? hn
 have f:Fw φ φ H (upd H a o):=⟨⟨[],by simp,by simp⟩,λb o hb h=>by rw [bA (λz=>hb (by rw [z];exact ha))];exact h,λb o h=>by
  by_cases z:b=a
  ·subst z;exact⟨_,bG⟩
  ·exact⟨o,by rw [bA z];exact h⟩⟩
 refine⟨f,S.nd,by rw [List.length_set];exact S.len,λm b es e1 e2=>?_⟩
 by_cases hm:n=m
 ·subst hm
  rw [e1] at hn;cases hn
  have hl:n < st.length:=by rw [<-S.len];exact (List.getElem?_eq_some_iff.mp e1).1
  rw [List.getElem?_set_self hl] at e2
  cases e2
  exact w f
 ·rw [List.getElem?_set_ne hm] at e2
  have q:=S.at_ m b es e1 e2
  have hne:b≠a:=by
   rintro rfl
   obtain⟨h1,h1'⟩:=List.getElem?_eq_some_iff.mp hn
   obtain⟨h2,h2'⟩:=List.getElem?_eq_some_iff.mp e1
   exact hm ((List.getElem_inj S.nd).mp (h1'.trans h2'.symm))
  exact q.fw S f λo h=>by rw [bA hne];exact h
theorem Sr.put {H:Hp}{φ:List Addr}{st:Sto}{n:Nat}{a:Addr}{vs:List V}{ds:List D} (S:Sr K H φ st) (hn:φ[n]?=some a) (w:Rls K H φ ds vs) :
  Fw φ φ H (upd H a (.lst vs))/\Sr K (upd H a (.lst vs)) φ (st.set n (.l ds)):=S.putC hn λf=>⟨vs,bG,w.fw S f⟩
theorem qE {st s':Sto}{o i v:W} (h:gT st o i v=some s'):∃ n k x ds j,o=.h n/\i=.d (.int k)/\v=.d x/\lg st n=some ds/\ixN ds.length k=some j/\s'=st.set n (.l (ds.set j x)):=by
 unfold gT at h
 split at h
 ·obtain⟨ds,e1,h⟩:=Option.bind_eq_some_iff.mp h
  obtain⟨j,e2,h⟩:=Option.map_eq_some_iff.mp h
  exact⟨_,_,_,ds,j,rfl,rfl,rfl,e1,e2,h.symm⟩
 ·cases h
theorem jP {tpos:Pos} (ho:IE K X a fa) (hi:IE K X b fb) (hv:IE K X e f) (hb:ms b=true:=by rfl) (hs:swapsWithSole [.Subscript a b tpos] e pos.line X.env=pure false:=by rfl) (hw:swappedStores [.Subscript a b tpos] e X.env=pure none:=by rfl) :
  IS K X (.Assign [.Subscript a b tpos] e pos) (d3 fa fb f):=by
 refine⟨λenv st r hr=>?_⟩
 simp only [d3,Option.bind_eq_some_iff,Option.map_eq_some_iff] at hr
 obtain⟨rv,ev,ro,eo,ri,ei,s',es,rfl⟩:=hr
 refine (yK (hv.run _ _ _ ev) (xP (ho.run _ _ _ eo) (hi.run _ _ _ ei) s0 (wT hb)) hs hw (w6 rfl)).imp ?_
 rintro D σ H ⟨φ,hE,hS,q⟩
 refine⟨φ,hE,hS,λv H1 φ1 f1 s1 w1=>⟨φ1,hE.fw hS f1,s1,λo H2 φ2 f2 s2 w2=>⟨φ2,(hE.fw hS f1).fw s1 f2,s2,λi H3 φ3 f3 s3 w3=>?_⟩⟩⟩
 have e3:=((hE.fw hS f1).fw s1 f2).fw s2 f3
 have w1':=(w1.fw s1 f2).fw s2 f3
 have w2':=w2.fw s2 f3
 obtain⟨ro1,ro2⟩:=ro
 obtain⟨rv1,rv2⟩:=rv
 obtain⟨ri1,ri2⟩:=ri
 obtain⟨n,k,x,ds,j,rfl,rfl,rfl,eds,ej,rfl⟩:=qE es
 obtain⟨p,ep,rfl⟩:=w2'
 obtain⟨vs,hp,rl⟩:=s3.atl n p ds ep eds
 have w3':i=.int k:=w3
 subst w3'
 obtain⟨f4,s4⟩:=s3.put ep (Rls.set j rl w1')
 refine⟨p,vs,k,j,rfl,rfl,hp,by rw [<-rl.length];exact ej,?_⟩
 exact q _ _ φ3 (((f1.trans f2).trans f3).trans f4) (e3.fw s3 f4) s4
theorem aQ (h:IE K X e f):IS K X (.Return (some e) pos) (aX f):=by
 refine⟨λenv st r hr=>?_⟩
 simp only [aX,Option.map_eq_some_iff] at hr
 obtain⟨y,hy,rfl⟩:=hr
 exact (kd (h.run _ _ _ hy)).imp λD σ H ⟨φ,hE,hS,q⟩=>⟨φ,hE,hS,q⟩
theorem jL (h:IE K X e f) (hs:swapsWith e none pos.line X.env=pure false:=by rfl):IS K X (.Expr e pos) (iB f):=by
 refine⟨λenv st r hr=>?_⟩
 simp only [iB,Option.map_eq_some_iff] at hr
 obtain⟨y,hy,rfl⟩:=hr
 exact (wg (h.run _ _ _ hy) hs).imp λD σ H ⟨φ,hE,hS,q⟩=>⟨φ,hE,hS,λv H1 φ1 f1 s1 w1=>q σ H1 φ1 f1 (hE.fw hS f1) s1⟩
theorem bn {tc:Tf}{sa sb:List Stmt} (hc:IT K X c tc) (ha:ISs K X sa ga) (hb:ISs K X sb gb):IS K X (.If c sa sb pos) (bc tc ga gb):=by
 refine⟨λenv st r hr=>?_⟩
 simp only [bc,Option.bind_eq_some_iff] at hr
 obtain⟨⟨k,s1⟩,hx,hr⟩:=hr
 cases k with
 | true=>
  rw [if_pos rfl] at hr
  refine (lr (hc.run _ _ _ hx) (ha.run _ _ _ hr) dw).imp ?_
  rintro D σ H ⟨φ,hE,hS,q⟩
  refine⟨φ,hE,hS,λH1 φ1 f1 s1=>pE ?_⟩
  exact⟨φ1,hE.fw hS f1,s1,q.fw f1⟩
 | false=>
  rw [if_neg Bool.false_ne_true] at hr
  refine (lr (hc.run _ _ _ hx) dw (hb.run _ _ _ hr)).imp ?_
  rintro D σ H ⟨φ,hE,hS,q⟩
  refine⟨φ,hE,hS,λH1 φ1 f1 s1=>mv ?_⟩
  exact⟨φ1,hE.fw hS f1,s1,q.fw f1⟩
noncomputable def zO (K:PySem.W.Frag) (g:Sf):TS:=λD σ H=>∃ env st r,g env st=some r/\tS K env st r D σ H
noncomputable def xf (K:PySem.W.Frag) (f:Ef):TE:=λσ H Q=>∃ env st r,f env st=some r/\tI K env st r σ H Q
noncomputable def ux (K:PySem.W.Frag) (f:Tf):TT:=λσ H Q=>∃ env st r,f env st=some r/\tIT K env st r σ H Q
theorem ISs.any (h:ISs K X ss ga):PSs X ss (zO K ga):=λpins s σ H D I ⟨env,st,r,e,q⟩=>h.run env st r e pins s σ H D I q
theorem IE.any (h:IE K X e f):PE X e (xf K f):=λpins s σ H D I ⟨env,st,r,e,q⟩=>h.run env st r e pins s σ H D I q
theorem IT.any {tf:Tf} (h:IT K X e tf):PT X e (ux K tf):=λpins s σ H D I ⟨env,st,r,e,q⟩=>h.run env st r e pins s σ H D I q
noncomputable def Yl (K:PySem.W.Frag) (φ0:List Addr) (H0:Hp) (J:It) (ds:List D):Prop:=∀ (H:Hp) (φ:List Addr) (st:Sto) (i:Nat),Fw φ0 φ H0 H->Sr K H φ st->
 (∀ d,ds[i]?=some d->J.go i H/\∀ x H',J.yld i H x H'->bJ H H'/\Rl K H' φ d x)/\(ds.length=i->J.stop i H)
noncomputable def tII (K:PySem.W.Frag) (env:Ev) (st:Sto) (r:List D×Sto):TI:=λσ H R=>∃ φ,Er K H φ env σ/\Sr K H φ st/\∀ J H' φ',Fw φ φ' H H'->Sr K H' φ' r.2->Yl K φ' H' J r.1->R J H'
structure II (K:PySem.W.Frag) (X:Cx) (tg iter:Expr) (f:Lf):Prop where
 run:∀ env st r,f env st=some r->PI X tg iter (tII K env st r)
theorem PI.imp {tg iter:Expr}{t t':TI} (h:PI X tg iter t) (m:∀ σ H R,t' σ H R->t σ H R):PI X tg iter t':=λpins s σ H R I q=>h pins s σ H R I (m σ H R q)
variable {tg:Expr}
end
end L2
namespace L2
open PySem PySem.Spec PyProof.Rows
section
variable {K:PySem.W.Frag}{X:Cx}{pos:Pos}{tg e a b:Expr}{f:Ef}{af:Af}
theorem ji (h:IE K X e f) (hK:X.K=K:=by rfl):II K X tg e (cf f):=by
 subst hK
 refine⟨λenv st r hr=>?_⟩
 simp only [cf,Option.bind_eq_some_iff] at hr
 obtain⟨⟨w,s1⟩,hy,hr⟩:=hr
 match w,hr with
 | .d (.tup ds),hr=>
  cases hr
  refine (xB (h.run _ _ _ hy)).imp ?_
  rintro σ H R ⟨φ,hE,hS,q⟩
  refine⟨φ,hE,hS,λv H1 φ1 f1 s1 w1=>?_⟩
  obtain⟨a,vs,rfl,hq,hr⟩:=w1
  refine⟨a,rfl,⟨vs,(SqT.of hq)⟩,q _ H1 φ1 f1 s1 λH2 φ2 st2 i f2 s2=>?_⟩
  have hq2:=(SqT.of hq).fw s1 f2
  have hr2:=hr.fw s1 f2
  refine⟨λd hd=>?_,λhi=>⟨vs,hq2,by rw [<-hr2.length];exact Nat.le_of_eq hi⟩⟩
  obtain⟨v,ev,rv⟩:=hr2.get hd
  refine⟨⟨vs,v,hq2,ev⟩,λx H' y=>?_⟩
  obtain⟨rfl,y⟩:=y
  have:=y vs hq2
  rw [ev] at this
  cases this
  exact⟨bJ.refl _,rv⟩
 | .d (.lst ds),hr=>
  cases hr
  refine (wP (h.run _ _ _ hy)).imp ?_
  rintro σ H R ⟨φ,hE,hS,q⟩
  refine⟨φ,hE,hS,λv H1 φ1 f1 s1 w1=>?_⟩
  obtain⟨a,vs,rfl,h0,hq,hr⟩:=w1
  refine⟨a,rfl,⟨vs,.inl hq⟩,q _ H1 φ1 f1 s1 λH2 φ2 st2 i f2 s2=>?_⟩
  have hq2:SqL X.K H2 a vs:=.inl (hq.fw f2 h0)
  have hr2:=hr.fw s1 f2
  refine⟨λd hd=>?_,λhi=>⟨vs,hq2,by rw [<-hr2.length];exact Nat.le_of_eq hi⟩⟩
  obtain⟨v,ev,rv⟩:=hr2.get hd
  refine⟨⟨vs,v,hq2,ev⟩,λx H' y=>?_⟩
  obtain⟨rfl,y⟩:=y
  have:=y vs hq2
  rw [ev] at this
  cases this
  exact⟨bJ.refl _,rv⟩
theorem jM (lo:Int) (n i:Nat):(gO lo n)[i]?=if i < n then some (.int (lo+i)) else none:=by
 unfold gO
 rw [List.getElem?_map]
 by_cases h:i < n
 ·rw [List.getElem?_range h,if_pos h];rfl
 ·rw [List.getElem?_eq_none (by simpa using h),if_neg h];rfl
theorem gu (lo:Int) (n:Nat):(gO lo n).length=n:=by unfold gO;rw [List.length_map,List.length_range]
theorem xr (lo:Int) (n:Nat) {φ:List Addr}{H:Hp}:Yl K φ H (Itr lo n) (gO lo n):=by
 intro H2 φ2 st2 i f2 s2
 refine⟨λd hd=>?_,λhi=>by rw [gu] at hi;exact Nat.le_of_eq hi⟩
 rw [jM] at hd
 by_cases h:i < n
 ·rw [if_pos h] at hd
  cases hd
  refine⟨h,λx H' y=>?_⟩
  obtain⟨rfl,rfl⟩:=y
  exact⟨bJ.refl _,rfl⟩
 ·rw [if_neg h] at hd;cases hd
theorem iU {p:Pos} (hg:Gl X "range") (hm:X.mg "range" = none) (ha:IA K X [a] af) (hs:bh a=true:=by rfl):II K X tg (.Call (.Name "range" p) [a] [] pos) (dB af):=by
 refine⟨λenv st r hr=>?_⟩
 simp only [dB,Option.bind_eq_some_iff] at hr
 obtain⟨⟨ws,s1⟩,hy,hr⟩:=hr
 match ws,hr with
 | [.d (.int j)],hr=>
  have hr':(if -(2 ^ 62)<=j/\j < 2 ^ 62 then some (gO 0 j.toNat,s1) else none)=some r:=hr
  by_cases hj:-(2 ^ 62)<=j/\j < 2 ^ 62
  ·rw [if_pos hj] at hr'
   cases hr'
   refine (sg hg hm (ha.run _ _ _ hy) (tK hs)).imp ?_
   rintro σ H R ⟨φ,hE,hS,q⟩
   refine⟨φ,hE,hS,λvs H1 φ1 f1 s1 w1=>?_⟩
   obtain⟨v,r,rfl,r1,rfl⟩:=w1
   exact⟨j,by rw [show v=.int j from r1],hj.1,hj.2,q _ H1 φ1 f1 s1 (xr 0 _)⟩
  ·rw [if_neg hj] at hr';cases hr'
theorem jZ {iter:Expr}{body:List Stmt}{fi:Lf}{g:Tg}{gb:Sf} (hi:II K X tg iter fi) (hg:PG X tg (tG K g)) (hb:ISs K X body gb) (hp:PassesOwn (model X.prog X.w) X.A X.env X.xe) (hc:X.calm=true:=by rfl)
  (hs:∀ x,foldedSetIterable iter X.env x=pure x:=by intro _;rfl):IS K X (.For tg iter body [] pos) (jt fi g gb):=by
 refine⟨λenv st r hr=>?_⟩
 simp only [jt,Option.bind_eq_some_iff] at hr
 obtain⟨⟨ds,s1⟩,hy,hr⟩:=hr
 refine (yC hp hc (hi.run _ _ _ hy) hg hb.any hs).imp ?_
 rintro D σ H ⟨φ,hE,hS,q⟩
 refine⟨φ,hE,hS,λJ H1 φ1 f1 S1 yl=>?_⟩
 refine⟨λi m σ H=>m=ds.length - i/\i<=ds.length/\∃ env st φ2,Fw φ1 φ2 H1 H/\Er K H φ2 env σ/\Sr K H φ2 st/\fS g gb (ds.drop i) env st=some r,⟨ds.length,by simp,Nat.zero_le _,env,s1,φ1,Fw.refl _ _,hE.fw hS f1,S1,hr⟩,?_⟩
 rintro i m σ H2 ⟨rfl,hi,env2,st2,φ2,f2,e2,S2,h2⟩
 obtain⟨y1,y2⟩:=yl H2 φ2 st2 i f2 S2
 by_cases hlt:i < ds.length
 ·obtain⟨go,yld⟩:=y1 ds[i] (List.getElem?_eq_getElem hlt)
  rw [List.drop_eq_getElem_cons hlt] at h2
  simp only [fS,Option.bind_eq_some_iff] at h2
  obtain⟨e3,he3,r3,hr3,h3⟩:=h2
  refine .inr ⟨go,λσ' H'=>i+1<=ds.length/\∃ env st φ2,Fw φ1 φ2 H1 H'/\Er K H' φ2 env σ'/\Sr K H' φ2 st/\fS g gb (ds.drop (i+1)) env st=some r,λσ' H' ⟨hn,p'⟩=>⟨ds.length - (i+1),by lia,rfl,hn,p'⟩,λx H' y=>?_⟩
  obtain⟨sm,rx⟩:=yld x H' y
  have S3:=S2.same sm
  have f3:=f2.trans (Fw.same (φ:=φ2) sm)
  refine⟨φ2,st2,env2,.d ds[i],e3,e2.fw S2 (Fw.same sm),S3,rx,he3,λσ' e' _=>?_⟩
  refine⟨e3,st2,r3,hr3,φ2,e',S3,?_⟩
  cases r3 with
  | nx e4 s4=>exact λσ4 H4 φ4 f4 e4' s4'=>⟨hlt,e4,s4,φ4,f3.trans f4,e4',s4',h3⟩
  | ct e4 s4=>exact λσ4 H4 φ4 f4 e4' s4'=>⟨hlt,e4,s4,φ4,f3.trans f4,e4',s4',h3⟩
  | bk e4 s4=>
   cases h3
   exact λσ4 H4 φ4 f4 e4' s4'=>q σ4 H4 φ4 (f1.trans (f3.trans f4)) e4' s4'
  | rt w s4=>
   cases h3
   exact λv H4 φ4 f4 s4' w4=>q v H4 φ4 (f1.trans (f3.trans f4)) s4' w4
 ·have hi':i=ds.length:=by lia
  subst hi'
  rw [List.drop_length] at h2
  cases h2
  exact .inl ⟨y2 rfl,q σ H2 φ2 (f1.trans f2) e2 S2⟩
noncomputable def kf (n:Nat) (c:Tf) (b:Sf):Sf
 | env,st=>eu c b n env st
theorem pM {c:Expr}{body:List Stmt}{tc:Tf}{gb:Sf} (n:Nat) (hc:IT K X c tc) (hb:ISs K X body gb) (hp:PassesOwn (model X.prog X.w) X.A X.env X.xe):IS K X (.While c body [] pos) (kf n tc gb):=by
 refine⟨λenv st r hr=>?_⟩
 refine (oS hp hc.any hb.any).imp ?_
 rintro D σ H ⟨φ,hE,hS,q⟩
 refine⟨λm σ H'=>∃ env st φ2,Fw φ φ2 H H'/\Er K H' φ2 env σ/\Sr K H' φ2 st/\eu tc gb m env st=some r,⟨n,env,st,φ,Fw.refl _ _,hE,hS,hr⟩,?_⟩
 rintro m σ H2 ⟨env2,st2,φ2,f2,e2,S2,h2⟩
 cases m with
 | zero=>cases h2
 | succ m=>
  simp only [eu,Option.bind_eq_some_iff] at h2
  obtain⟨⟨k,s3⟩,hk,h2⟩:=h2
  refine⟨env2,st2,_,hk,φ2,e2,S2,λH3 φ3 f3 S3=>?_⟩
  cases k with
  | false=>
   rw [if_neg Bool.false_ne_true] at h2
   cases h2
   exact mv (q σ H3 φ3 (f2.trans f3) (e2.fw S2 f3) S3)
  | true=>
   simp only [if_true,Option.bind_eq_some_iff] at h2
   obtain⟨r3,hr3,h3⟩:=h2
   refine pE ⟨λσ' H'=>∃ env st φ2,Fw φ φ2 H H'/\Er K H' φ2 env σ'/\Sr K H' φ2 st/\eu tc gb m env st=some r,λσ' H' p'=>⟨m,Nat.lt_succ_self _,p'⟩,?_⟩
   refine⟨env2,s3,r3,hr3,φ3,e2.fw S2 f3,S3,?_⟩
   have f3':=f2.trans f3
   cases r3 with
   | nx e4 s4=>exact λσ4 H4 φ4 f4 e4' s4'=>⟨e4,s4,φ4,f3'.trans f4,e4',s4',h3⟩
   | ct e4 s4=>exact λσ4 H4 φ4 f4 e4' s4'=>⟨e4,s4,φ4,f3'.trans f4,e4',s4',h3⟩
   | bk e4 s4=>
    cases h3
    exact λσ4 H4 φ4 f4 e4' s4'=>q σ4 H4 φ4 (f3'.trans f4) e4' s4'
   | rt w s4=>
    cases h3
    exact λv H4 φ4 f4 s4' w4=>q v H4 φ4 (f3'.trans f4) s4' w4
structure ITs (K:PySem.W.Frag) (X:Cx) (ifs:List Expr) (t:Tf):Prop where
 run:PTs X ifs (ux K t)
theorem ii:ITs K X [] fj:=by
 refine⟨λpins s σ H Q I ⟨env,st,r,e,φ,hE,hS,q⟩=>?_⟩
 cases e
 exact wf pins s σ H Q I (q H φ (Fw.refl φ H) hS)
theorem Er.emb {H:Hp}{φ:List Addr}{env:Ev}{σ:St} (h:Er K H φ env σ) (k:Nat) (js:List Nat):Er K H φ (kZ k js env) (im k js σ):=by
 refine⟨by unfold kZ im;simp,λi w e=>?_⟩
 unfold kZ at e
 unfold im
 by_cases hi:i < k
 ·rw [List.getElem?_append_left (by simpa using hi),List.getElem?_replicate,if_pos hi] at e
  cases e
 ·rw [List.getElem?_append_right (by simpa using hi),List.length_replicate,List.getElem?_map,Option.map_eq_some_iff] at e
  obtain⟨j,ej,e⟩:=e
  have ej2:env[j]?=some (some w):=by
   rw [List.getD] at e
   cases q:env[j]? with
   | none=>rw [q] at e;cases e
   | some o=>rw [q] at e;rw [show o=some w from e]
  obtain⟨v,ev,rv⟩:=h.at_ j w ej2
  refine⟨v,?_,rv⟩
  rw [List.getElem?_append_right (by simpa using hi),List.length_replicate,List.getElem?_map,ej]
  show some ((σ[j]?).getD none)=_
  rw [ev];rfl
theorem Sub.stay {k:Nat}{js is:List Nat}{σ σ':St} (h:xR is (im k js σ) σ') (hi:∀ j ∈ is,j < k):Sub (im k js σ) σ':=by
 refine⟨h.1.symm,λj v e=>?_⟩
 by_cases hj:j ∈ is
 ·have:=hi j hj
  unfold im at e
  rw [List.getElem?_append_left (by simpa using this),List.getElem?_replicate,if_pos this] at e
  cases e
 ·rw [h.2 j hj];exact e
theorem tW {k:Nat}{js:List Nat}{g:Tg}{tt:Tf}{te:Ef}{env:Ev}{st s1:Sto}{ds:List D}{r:List D×Sto} (hgi:∀ j ∈ vZ g,j < k) (hdl:ds.length<=1000000) (hr':lcI g tt te (kZ k js env) ds s1=some r) :
  ∀ σ H Q,tIL K env st r σ H Q->tLc (im k js) (tII K env st (ds,s1)) (tG K g) (ux K tt) (xf K te) σ H Q:=by
 rintro σ H Q ⟨φ,hE,hS,q⟩
 refine⟨φ,hE,hS,λJ H1 φ1 f1 S1 yl=>?_⟩
 have hE1:=(hE.fw hS f1).emb k js
 refine⟨λi m ys H2=>m=ds.length - i/\i<=ds.length/\∃ st φ2 es r2,Fw φ1 φ2 H1 H2/\Sr K H2 φ2 st/\Rls K H2 φ2 es ys/\es.length<=i/\lcI g tt te (kZ k js env) (ds.drop i) st=some r2/\r=(es++r2.1,r2.2),⟨ds.length,by simp,Nat.zero_le _,s1,φ1,[],r,Fw.refl _ _,S1,rfl,Nat.le_refl _,hr',rfl⟩,?_⟩
 rintro i m ys H2 ⟨rfl,hi,st2,φ2,es,r2,f2,S2,rl2,hle,h2,rfl⟩
 obtain⟨y1,y2⟩:=yl H2 φ2 st2 i f2 S2
 by_cases hlt:i < ds.length
 ·obtain⟨go,yld⟩:=y1 ds[i] (List.getElem?_eq_getElem hlt)
  rw [List.drop_eq_getElem_cons hlt] at h2
  simp only [lcI,Option.bind_eq_some_iff] at h2
  obtain⟨e3,he3,⟨kb,s3⟩,hb3,h3⟩:=h2
  have hz:ys.length < sizeLine:=by
   rw [<-rl2.length]
   have:sizeLine=16777216:=sizeLine_eq
   lia
  refine .inr ⟨go,hz,λys' H'=>i+1<=ds.length/\∃ st φ2 es' r2',Fw φ1 φ2 H1 H'/\Sr K H' φ2 st/\Rls K H' φ2 es' ys'/\es'.length<=i+1/\lcI g tt te (kZ k js env) (ds.drop (i+1)) st=some r2'/\(es++r2.1,r2.2)=(es'++r2'.1,r2'.2),λys' H' ⟨hn,p'⟩=>⟨ds.length - (i+1),by lia,rfl,hn,p'⟩,λx H' y=>?_⟩
  obtain⟨sm,rx⟩:=yld x H' y
  have S3:=S2.same sm
  have f3:=f2.trans (Fw.same (φ:=φ2) sm)
  refine⟨φ2,st2,kZ k js env,.d ds[i],e3,hE1.fw S1 f3,S3,rx,he3,λσ' e' stay=>⟨Sub.stay stay hgi,?_⟩⟩
  refine⟨e3,st2,_,hb3,φ2,e',S3,λH4 φ4 f4 S4=>?_⟩
  cases kb with
  | false=>
   rw [if_neg Bool.false_ne_true] at h3
   exact mv ⟨hlt,s3,φ4,es,r2,f3.trans f4,S4,(rl2.fw S2 (Fw.same sm)).fw S3 f4,by lia,h3,rfl⟩
  | true=>
   simp only [if_true,Option.bind_eq_some_iff,Option.map_eq_some_iff] at h3
   obtain⟨x5,hx5,zs,hzs,r5,hr5,rfl⟩:=h3
   refine pE ⟨e3,s3,x5,hx5,φ4,e'.fw S3 f4,S4,λv H5 φ5 f5 S5 w5=>?_⟩
   obtain⟨x5,s5⟩:=x5
   cases x5 with
   | h n=>cases hzs
   | d z=>
    cases hzs
    refine⟨hlt,s5,φ5,es++[z],r5,(f3.trans f4).trans f5,S5,(((rl2.fw S2 (Fw.same sm)).fw S3 f4).fw S4 f5).append ⟨v,[],rfl,w5,rfl⟩,by rw [List.length_append];simp;lia,hr5,?_⟩
    simp
 ·have hi':i=ds.length:=by lia
  subst hi'
  rw [List.drop_length] at h2
  cases h2
  refine .inl ⟨y2 rfl,λDn hD=>?_⟩
  have:=q Dn ys H2 φ2 (f1.trans f2) S2 hD
  exact this (by simpa using rl2)
theorem mY {scope:Scope}{Nc:List Str}{k:Nat}{js:List Nat}{elt iter:Expr}{ifs:List Expr}{fi:Lf}{g:Tg}{tt:Tf}{te:Ef}
  (S:gy X scope Nc (im k js)) (hc:X.calm=true) (hgi:∀ j ∈ vZ g,j < k) (hi:II K X tg iter fi)
  (hg:∀ cells s H C fp,PG (lcX X scope cells Nc s H C fp) tg (tG K g)) (ht:∀ cells s H C fp,ITs K (lcX X scope cells Nc s H C fp) ifs tt) (he:∀ cells s H C fp,IE K (lcX X scope cells Nc s H C fp) elt te)
  (hs:∀ x,foldedSetIterable iter X.env x=pure x:=by intro _;rfl):IL K X (.ListComp elt [⟨tg,iter,ifs,0⟩] scope pos) (iLc k js fi g tt te):=by
 refine⟨λenv st r hr=>?_⟩
 simp only [iLc,Option.bind_eq_some_iff] at hr
 obtain⟨⟨ds,s1⟩,hy,hr⟩:=hr
 have hr':(if ds.length<=1000000 then lcI g tt te (kZ k js env) ds s1 else none)=some r:=hr
 by_cases hdn:¬ ds.length<=1000000
 ·rw [if_neg hdn] at hr';cases hr'
 have hdl:ds.length<=1000000:=by lia
 rw [if_pos hdl] at hr'
 refine (yP S hc (hi.run _ _ _ hy) hg (λcells s H C fp=>(ht cells s H C fp).run) (λcells s H C fp=>(he cells s H C fp).any) hs).imp (tW hgi hdl hr')
theorem zb {scope:Scope}{Nc:List Str}{k:Nat}{js:List Nat}{elt iter:Expr}{ifs:List Expr}{fi:Lf}{g:Tg}{tt:Tf}{te:Ef}{i0:Nat}{x0:Str}{py spos:Pos}
  (hN0:X.N.Nodup) (hi0:X.N[i0]?=some x0) (hx0:Loc X.env.scope x0) (S:gy X scope Nc (im k js)) (hc:X.calm=true) (hgi:∀ j ∈ vZ g,j < k) (hi:II K X tg iter fi)
  (hg:∀ cells s H C fp,PG (lcX X scope cells Nc s H C fp) tg (tG K g)) (ht:∀ cells s H C fp,ITs K (lcX X scope cells Nc s H C fp) ifs tt) (he:∀ cells s H C fp,IE K (lcX X scope cells Nc s H C fp) elt te)
  (hsw:swapsWith (.ListComp elt [⟨tg,iter,ifs,0⟩] scope pos) (some (.Name x0 py)) spos.line X.env=pure true:=by rfl)
  (hf0:X.fn x0=true\/X.env.scope.names.lookup x0=some .local:=by first | exact .inl rfl | exact .inr rfl | assumption)
  (hs:∀ x,foldedSetIterable iter X.env x=pure x:=by intro _;rfl):IS K X (.Assign [.Name x0 py] (.ListComp elt [⟨tg,iter,ifs,0⟩] scope pos) spos) (aT (.nm i0) (aJ (iLc k js fi g tt te)))/\
   IS K X (.Assign [.Name x0 py] (.ListComp elt [⟨tg,iter,ifs,0⟩] scope pos) spos) (aT (.nm i0) (hX (iLc k js fi g tt te))):=by
 have key:∀ env st r0 r,iLc k js fi g tt te env st=some r->(∀ σ φ H (D:ph),Er K H φ env σ->Sr K H φ st->uP K φ H D r0->∀ a vs H1 φ',Fw φ φ' H H1->Sr K H1 φ' r.2->H1 a=none->Rls K H1 φ' r.1 vs->D.nx (σ.set i0 (some (.ref a))) (upd H1 a (.lst vs)))->
   PS X (.Assign [.Name x0 py] (.ListComp elt [⟨tg,iter,ifs,0⟩] scope pos) spos) (tS K env st r0):=by
  intro env st r0 r hr h
  simp only [iLc,Option.bind_eq_some_iff] at hr
  obtain⟨⟨ds,s1⟩,hy,hr⟩:=hr
  have hr':(if ds.length<=1000000 then lcI g tt te (kZ k js env) ds s1 else none)=some r:=hr
  by_cases hdn:¬ ds.length<=1000000
  ·rw [if_neg hdn] at hr';cases hr'
  have hdl:ds.length<=1000000:=by lia
  rw [if_pos hdl] at hr'
  refine (za hN0 hi0 hx0 S hc (hi.run _ _ _ hy) hg (λcells s H C fp=>(ht cells s H C fp).run) (λcells s H C fp=>(he cells s H C fp).any) hsw hf0 hs).imp ?_
  rintro D σ H ⟨φ,hE,hS,q⟩
  exact tW hgi hdl hr' σ H _ ⟨φ,hE,hS,h σ φ H D hE hS q⟩
 constructor
 ·refine⟨λenv st r hr=>?_⟩
  simp only [aT,aJ,dA,Option.bind_eq_some_iff,Option.map_eq_some_iff] at hr
  obtain⟨y,⟨r2,hy,rfl⟩,e',ee,rfl⟩:=hr
  cases ee
  refine key _ _ _ _ hy λσ φ H D hE hS q a vs H1 φ1 f1 s1 n1 w1=>?_
  exact q _ _ φ1 (f1.trans (Fw.new n1)) ((((hE.fw hS f1).fw s1 (Fw.new n1))).set i0 (w:=.d (.lst r2.1)) ⟨a,vs,rfl,s1.nin n1,.inl bG,w1.fw s1 (Fw.new n1)⟩) (s1.new n1)
 ·refine⟨λenv st r hr=>?_⟩
  simp only [aT,hX,dA,Option.bind_eq_some_iff,Option.map_eq_some_iff] at hr
  obtain⟨y,⟨r2,hy,rfl⟩,e',ee,rfl⟩:=hr
  cases ee
  refine key _ _ _ _ hy λσ φ H D hE hS q a vs H1 φ1 f1 s1 n1 w1=>?_
  exact q _ _ (φ1++[a]) (f1.trans (Fw.more n1)) (((hE.fw hS f1).fw s1 (Fw.more n1)).set i0 (w:=.h r2.2.length) ⟨a,by rw [<-s1.len];simp,rfl⟩) (s1.more n1 w1)
end
end L2
namespace L2
open PySem PySem.Spec PyProof.Rows
noncomputable def bX (n k:Nat) (b:Sf):Fn
 | ws,st=>if ws.length=k then (b (ws.map some++List.replicate (n - k) none) st).bind λr=>match r with
 | .nx _ s=>some (.d .non,s)
 | .rt w s=>some (w,s)
 | _=>none
 else none
noncomputable def j9 (n:Nat) (w:W) (s:Sto):Option (W×Sto):=match w with
 | .d x=>some (.d x,s.take n)
 | .h m=>if m < n then some (.h m,s.take n) else (lg s m).map λds=>(.d (.lst ds),s.take n)
noncomputable def gw (n k:Nat) (b:Sf):Fn
 | ws,st=>if ws.length=k then (b (ws.map some++List.replicate (n - k) none) st).bind λr=>match r with
 | .nx _ s=>some (.d .non,s.take st.length)
 | .rt w s=>j9 st.length w s
 | _=>none
 else none
section
variable {P:Program}{w:World}{K:PySem.W.Frag}{mg:Str->Option Value}{base:Heap}
theorem mj {H:Hp}{φ:List Addr}{N:List Str}{k:Nat}:∀ {ws:List W}{vs:List V},Rws K H φ ws vs->ws.length=k->Er K H φ (ws.map some++List.replicate (N.length - k) none) (iE N vs):=by
 intro ws vs r hk
 have hl:=r.length
 refine⟨by unfold iE;simp;lia,λi x e=>?_⟩
 unfold iE
 by_cases hi:i < ws.length
 ·rw [List.getElem?_append_left (by simpa using hi),List.getElem?_map,Option.map_eq_some_iff] at e
  obtain⟨y,ey,e⟩:=e
  have:∃ v,vs[i]?=some v/\Rw K H φ y v:=by
   clear hk hl hi e
   induction ws generalizing vs i with
   | nil=>simp at ey
   | cons w ws ih=>
    obtain⟨v,r',rfl,r1,r2⟩:=r
    cases i with
    | zero=>simp at ey;subst ey;exact⟨v,rfl,r1⟩
    | succ i=>simpa using ih r2 i (by simpa using ey)
  obtain⟨v,ev,rv⟩:=this
  cases e
  refine⟨v,?_,rv⟩
  rw [List.getElem?_append_left (by rw [List.length_map,<-hl];exact hi),List.getElem?_map,ev];rfl
 ·rw [List.getElem?_append_right (by simpa using hi)] at e
  have:=List.mem_of_getElem? e
  have:=(List.mem_replicate.mp this).2
  cases this
theorem gM {x qual:Str}{st:Stmt}{f:Addr}{fd:FuncData}{N ps:List Str}{k:Nat}{b:Sf} (F:Fun K x qual st f fd) (S:bp N ps (ao st))
  (hb:∀ (cdv:Value) (A:Around) (outer:List Env) (s:Shared) (H:Hp) (E:XK),cZ k (A.deeper (envOfC qual (ao st) s.heap.objs.size f cdv))->ISs K (ir CX0 P w K mg base N qual (ao st) f cdv A outer s H E).nox (aZ st) b) :
  bD P w K mg base CX0 (k+1) f fd ps (spI K (bX N.length ps.length b)):=by
 refine F.ok S (λvs H Q E h=>?_) λcdv A outer s H vs Q E hr h=>?_
 ·obtain⟨φ,st,ws,r,e,rw,_⟩:=h
  rw [bX] at e
  by_cases hl:ws.length=ps.length
  ·rw [<-rw.length,hl]
  ·rw [if_neg hl] at e;cases e
 ·obtain⟨φ,st',ws,r,e,rw,S',q⟩:=h
  rw [bX] at e
  by_cases hl:ws.length=ps.length
  ·rw [if_pos hl] at e
   obtain⟨fl,e1,e2⟩:=Option.bind_eq_some_iff.mp e
   refine⟨_,(hb cdv A outer s H E hr).run _ _ _ e1,φ,mj rw hl,S',?_⟩
   cases fl with
   | nx e s=>cases e2;exact λσ' H' φ' f' e' s'=>q .non H' φ' f' s' rfl
   | rt w s=>cases e2;exact λv H' φ' f' s' w'=>q v H' φ' f' s' w'
   | bk e s=>cases e2
   | ct e s=>cases e2
  ·rw [if_neg hl] at e;cases e
theorem Fw.less {φ φ':List Addr}{H H':Hp} (f:Fw φ φ' H H'):Fw φ φ H H':=⟨⟨[],by simp,by simp⟩,f.keep,f.there⟩
theorem xF {x qual:Str}{st:Stmt}{f:Addr}{fd:FuncData}{N ps:List Str}{k:Nat}{b:Sf} (F:Fun K x qual st f fd) (S:bp N ps (ao st))
  (hb:∀ (cdv:Value) (A:Around) (outer:List Env) (s:Shared) (H:Hp) (E:XK),cZ k (A.deeper (envOfC qual (ao st) s.heap.objs.size f cdv))->ISs K (ir CX0 P w K mg base N qual (ao st) f cdv A outer s H E).nox (aZ st) b) :
  bD P w K mg base CX0 (k+1) f fd ps (spI K (gw N.length ps.length b)):=by
 refine F.ok S (λvs H Q E h=>?_) λcdv A outer s H vs Q E hr h=>?_
 ·obtain⟨φ,st,ws,r,e,rw,_⟩:=h
  rw [gw] at e
  by_cases hl:ws.length=ps.length
  ·rw [<-rw.length,hl]
  ·rw [if_neg hl] at e;cases e
 ·obtain⟨φ,st',ws,r,e,rw,S',q⟩:=h
  rw [gw] at e
  by_cases hl:ws.length=ps.length
  ·rw [if_pos hl] at e
   obtain⟨fl,e1,e2⟩:=Option.bind_eq_some_iff.mp e
   refine⟨_,(hb cdv A outer s H E hr).run _ _ _ e1,φ,mj rw hl,S',?_⟩
   have less:∀ {H':Hp}{φ':List Addr}{s':Sto},Fw φ φ' H H'->Sr K H' φ' s'->Sr K H' φ (s'.take st'.length):=λ{H' φ' s'} f' S2=>by
    obtain⟨ψ,rfl,_⟩:=f'.ext
    rw [<-S'.len]
    exact S2.less
   cases fl with
   | nx e s=>cases e2;exact λσ' H' φ' f' e' s'=>q .non H' φ f'.less (less f' s') rfl
   | rt w s=>
    intro v H' φ' f' s' w'
    have e3:j9 st'.length w s=some r:=e2
    obtain⟨ψ,eψ,_⟩:=f'.ext
    cases w with
    | d x=>
     cases e3
     subst eψ
     exact q v H' φ f'.less (less f' s') (Rl.less w')
    | h m=>
     obtain⟨a,ea,rfl⟩:=w'
     unfold j9 at e3
     by_cases hm:m < st'.length
     ·have e4:some (W.h m,s.take st'.length)=some r:=by
       have:=e3
       simp only [hm,if_true] at this
       exact this
      cases e4
      subst eψ
      rw [List.getElem?_append_left (by rw [S'.len];exact hm)] at ea
      exact q _ H' φ f'.less (less f' s') ⟨a,ea,rfl⟩
     ·simp only [hm,if_false] at e3
      obtain⟨ds,eds,rfl⟩:=Option.map_eq_some_iff.mp e3
      obtain⟨vs,hv,rl⟩:=s'.atl m a ds ea eds
      have hn:a ∉ φ:=λz=>by
       obtain⟨i,hi,ei⟩:=List.mem_iff_getElem.mp z
       have h1:φ'[i]?=some a:=by subst eψ;rw [List.getElem?_append_left hi,List.getElem?_eq_getElem hi,ei]
       obtain⟨h2,h2'⟩:=List.getElem?_eq_some_iff.mp h1
       obtain⟨h3,h3'⟩:=List.getElem?_eq_some_iff.mp ea
       have:=(List.getElem_inj s'.nd).mp (h2'.trans h3'.symm)
       rw [S'.len] at hi
       lia
      subst eψ
      exact q _ H' φ f'.less (less f' s') ⟨a,vs,rfl,hn,.inl hv,rl.less⟩
   | bk e s=>cases e2
   | ct e s=>cases e2
  ·rw [if_neg hl] at e;cases e
end
noncomputable def di:D->Bool
 | .non=>true
 | .bl _=>true
 | .int _=>true
 | .str _=>true
 | _=>false
noncomputable def vOf:D->V
 | .bl b=>.bl b
 | .int i=>.int i
 | .str x=>.str x
 | _=>.non
mutual
noncomputable def eqD:D->D->Bool
 | .non,.non=>true
 | .bl a,.bl b=>a==b
 | .bl a,.int b=>(if a then 1 else 0)==b
 | .int a,.bl b=>a==(if b then 1 else 0)
 | .int a,.int b=>a==b
 | .str a,.str b=>a==b
 | .tup as,.tup bs=>i5 as bs
 | .lst as,.lst bs=>i5 as bs
 | _,_=>false
noncomputable def i5:List D->List D->Bool
 | [],[]=>true
 | a::as,b::bs=>eqD a b && i5 as bs
 | _,_=>false
end
noncomputable def okD:Nat->D->Bool
 | _,.non=>true
 | _,.bl _=>true
 | _,.int _=>true
 | _,.str _=>true
 | n+1,.tup ds=>ds.all (okD n)
 | n+1,.lst ds=>ds.all (okD n)
 | _,_=>false
noncomputable def lsD (st:Sto):W->Option (List D)
 | .d (.lst ds)=>some ds
 | .h n=>lg st n
 | _=>none
noncomputable def aP (st:Sto) (x y:W):Option D:=match x,y with
 | .d (.int i),.d (.int j)=>some (.int (i+j))
 | .d (.tup a),.d (.tup b)=>if a.length+b.length<=1000000 then some (.tup (a++b)) else none
 | .d (.str a),.d (.str b)=>if a.length+b.length<=1000000 then some (.str (a++b)) else none
 | x,y=>(lsD st x).bind λa=>(lsD st y).bind λb=>if a.length+b.length<=1000000 then some (.lst (a++b)) else none
noncomputable def cS (_:Sto):W->W->Option D
 | .d (.int i),.d (.int j)=>some (.int (i - j))
 | _,_=>none
instance (a b:Int):Decidable (IntMulOk a b):=by unfold IntMulOk;infer_instance
noncomputable def fV (_:Sto):W->W->Option D
 | .d (.int i),.d (.int j)=>if IntMulOk i j then some (.int (i*j)) else none
 | .d (.tup a),.d (.int k)=>if a≠[]/\a.length<=1000/\1<=k/\k < 1000 then some (.tup (List.replicate k.toNat a).flatten) else none
 | .d (.lst a),.d (.int k)=>if a.length<=1000/\-1000<=k/\k < 1000 then some (.lst (List.replicate k.toNat a).flatten) else none
 | _,_=>none
noncomputable def iF (_:Sto):W->W->Option D
 | .d (.int i),.d (.int j)=>if 0 < j/\j < 1073741824 then some (.int (i / j)) else none
 | _,_=>none
noncomputable def jv (_:Sto):W->W->Option D
 | .d (.int i),.d (.int j)=>if 0 < j then some (.int (i % j)) else none
 | _,_=>none
instance (i j:Int):Decidable (oF i j):=by unfold oF;infer_instance
noncomputable def ow (_:Sto):W->W->Option D
 | .d (.int i),.d (.int j)=>if oF i j then some (.int (i ^ j.toNat)) else none
 | _,_=>none
noncomputable def dLt (_:Sto):W->W->Option D
 | .d (.int i),.d (.int j)=>some (.bl (decide (i < j)))
 | _,_=>none
noncomputable def dLe (_:Sto):W->W->Option D
 | .d (.int i),.d (.int j)=>some (.bl (decide (i<=j)))
 | _,_=>none
noncomputable def dGt (_:Sto):W->W->Option D
 | .d (.int i),.d (.int j)=>some (.bl (decide (j < i)))
 | _,_=>none
noncomputable def dGe (_:Sto):W->W->Option D
 | .d (.int i),.d (.int j)=>some (.bl (decide (j<=i)))
 | _,_=>none
noncomputable def qM:D->Bool
 | .non=>true
 | _=>false
noncomputable def jk (_:Sto):W->W->Option D
 | .d x,.d .non=>some (.bl (qM x))
 | _,_=>none
noncomputable def rj (_:Sto):W->W->Option D
 | .d x,.d .non=>some (.bl (!qM x))
 | _,_=>none
noncomputable def inD (x:D) (ds:List D):Bool:=ds.any λy=>eqD y x
noncomputable def dIn (st:Sto) (x y:W):Option D:=match x with
 | .d x=>(cB st y).bind λds=>if di x=true/\ds.all di=true then some (.bl (inD x ds)) else none
 | _=>none
noncomputable def cA (st:Sto) (x y:W):Option D:=match x with
 | .d x=>(cB st y).bind λds=>if di x=true/\ds.all di=true then some (.bl (!inD x ds)) else none
 | _=>none
section
variable {K:PySem.W.Frag}{X:Cx}
theorem hZ {H:Hp}{φ:List Addr}{d:D}{v:V} (h:di d=true) (r:Rl K H φ d v):v=vOf d/\gE v=true:=by
 cases d with
 | non=>cases (show v=.non from r);exact⟨rfl,rfl⟩
 | bl b=>cases (show v=.bl b from r);exact⟨rfl,rfl⟩
 | int b=>cases (show v=.int b from r);exact⟨rfl,rfl⟩
 | str b=>cases (show v=.str b from r);exact⟨rfl,rfl⟩
 | _=>cases h
theorem nC {a b:D} (ha:di a=true) (hb:di b=true):eqV (vOf a) (vOf b)=eqD a b:=by
 cases a<;>cases b<;>first | rfl | (cases ha;done) | (cases hb;done) | (simp [eqV,vOf,eqD];done)
theorem mn {H:Hp}{φ:List Addr}:∀ {ds:List D}{vs:List V},ds.all di=true->Rls K H φ ds vs->vs=ds.map vOf/\vs.all gE=true
 | [],_,_,h=>by cases h;exact⟨rfl,rfl⟩
 | d::ds,_,h,r=>by
  rw [List.all_cons,Bool.and_eq_true] at h
  obtain⟨v,vr,rfl,r1,r2⟩:=r
  obtain⟨e1,e2⟩:=hZ h.1 r1
  obtain⟨e3,e4⟩:=mn h.2 r2
  exact⟨by rw [e1,e3];rfl,by rw [List.all_cons,e2,e4];rfl⟩
theorem n6 {x:D} (hx:di x=true):∀ {ds:List D},ds.all di=true->inV (vOf x) (ds.map vOf)=inD x ds
 | [],_=>rfl
 | d::ds,h=>by
  rw [List.all_cons,Bool.and_eq_true] at h
  have ih:=n6 hx h.2
  unfold inV inD at ih ⊢
  rw [List.map_cons,List.any_cons,List.any_cons,ih,nC h.1 hx]
theorem iK {f:Value->Value->Sem Value}{g:Sto->W->W->Option D} (h:∀ st x y d,g st x y=some d->∃ i j,x=.d (.int i)/\y=.d (.int j)/\OpR X f (λvx vy H Q=>vx=.int i/\vy=.int j/\Q (vOf d) H)/\di d=true):OpD K X f g:=by
 refine⟨λst x y d hd=>?_⟩
 obtain⟨i,j,rfl,rfl,ho,hf⟩:=h st x y d hd
 refine ho.imp ?_
 rintro vx vy H Q ⟨φ,S,r1,r2,q⟩
 refine⟨r1,r2,q _ H (bJ.refl H) ?_⟩
 cases d<;>first | rfl | cases hf
theorem eQ:OpD K X (binaryOp .Sub) cS:=iK λst x y d h=>by
 match x,y,h with
 | .d (.int i),.d (.int j),h=>cases h;exact⟨i,j,rfl,rfl,xJ.imp λvx vy H Q ⟨a,b,q⟩=>⟨i,j,a,b,q⟩,rfl⟩
theorem sO:OpD K X (compareOp .Lt) dLt:=iK λst x y d h=>by
 match x,y,h with
 | .d (.int i),.d (.int j),h=>cases h;exact⟨i,j,rfl,rfl,yU.imp λvx vy H Q ⟨a,b,q⟩=>⟨i,j,a,b,q⟩,rfl⟩
theorem rB:OpD K X (compareOp .LtE) dLe:=iK λst x y d h=>by
 match x,y,h with
 | .d (.int i),.d (.int j),h=>cases h;exact⟨i,j,rfl,rfl,yZ.imp λvx vy H Q ⟨a,b,q⟩=>⟨i,j,a,b,q⟩,rfl⟩
theorem u9:OpD K X (compareOp .Gt) dGt:=iK λst x y d h=>by
 match x,y,h with
 | .d (.int i),.d (.int j),h=>cases h;exact⟨i,j,rfl,rfl,zF.imp λvx vy H Q ⟨a,b,q⟩=>⟨i,j,a,b,q⟩,rfl⟩
theorem yT:OpD K X (compareOp .GtE) dGe:=iK λst x y d h=>by
 match x,y,h with
 | .d (.int i),.d (.int j),h=>cases h;exact⟨i,j,rfl,rfl,yL.imp λvx vy H Q ⟨a,b,q⟩=>⟨i,j,a,b,q⟩,rfl⟩
theorem nJ:OpD K X (binaryOp .FloorDiv) iF:=iK λst x y d h=>by
 match x,y,h with
 | .d (.int i),.d (.int j),h=>
  simp only [iF] at h
  split at h
  ·rename_i hc
   cases h;exact⟨i,j,rfl,rfl,vS.imp λvx vy H Q ⟨a,b,q⟩=>⟨i,j,a,b,hc,q⟩,rfl⟩
  ·cases h
theorem iD:OpD K X (binaryOp .Mod) jv:=iK λst x y d h=>by
 match x,y,h with
 | .d (.int i),.d (.int j),h=>
  simp only [jv] at h
  split at h
  ·rename_i hc
   cases h;exact⟨i,j,rfl,rfl,yg.imp λvx vy H Q ⟨a,b,q⟩=>⟨i,j,a,b,hc,q⟩,rfl⟩
  ·cases h
theorem lZ:OpD K X (binaryOp .Pow) ow:=iK λst x y d h=>by
 match x,y,h with
 | .d (.int i),.d (.int j),h=>
  simp only [ow] at h
  split at h
  ·rename_i hc
   cases h;exact⟨i,j,rfl,rfl,xX.imp λvx vy H Q ⟨a,b,q⟩=>⟨i,j,a,b,hc,q⟩,rfl⟩
  ·cases h
theorem uV {H:Hp}{φ:List Addr}{d:D}{v:V} (r:Rl K H φ d v):decide (v=.non)=qM d:=by
 cases d with
 | non=>cases (show v=.non from r);rfl
 | bl b=>cases (show v=.bl b from r);rfl
 | int b=>cases (show v=.int b from r);rfl
 | str b=>cases (show v=.str b from r);rfl
 | ty b=>cases (show v=.ty b from r);rfl
 | dct=>obtain⟨a,rfl,_⟩:=r;rfl
 | scr ns=>obtain⟨a,rfl,_⟩:=r;rfl
 | tup ds=>obtain⟨a,vs,rfl,_⟩:=r;rfl
 | lst ds=>obtain⟨a,vs,rfl,_⟩:=r;rfl
theorem nW:OpD K X (compareOp .Is) jk:=by
 refine⟨λst x y d h=>?_⟩
 match x,y,h with
 | .d x,.d .non,h=>
  cases h
  refine yn.imp ?_
  rintro vx vy H Q ⟨φ,S,r1,r2,q⟩
  refine⟨r2,q _ H (bJ.refl H) ?_⟩
  rw [uV r1];rfl
theorem vj:OpD K X (compareOp .IsNot) rj:=by
 refine⟨λst x y d h=>?_⟩
 match x,y,h with
 | .d x,.d .non,h=>
  cases h
  refine wW.imp ?_
  rintro vx vy H Q ⟨φ,S,r1,r2,q⟩
  refine⟨r2,q _ H (bJ.refl H) ?_⟩
  rw [uV r1];rfl
theorem nk (hK:X.K=K:=by rfl):OpD K X (compareOp .In) dIn:=by
 subst hK
 refine⟨λst x y d h=>?_⟩
 match x,h with
 | .d x,h=>
  simp only [dIn,Option.bind_eq_some_iff] at h
  obtain⟨ds,hs,h⟩:=h
  split at h
  ·rename_i hc
   cases h
   refine sv.imp ?_
   rintro vx vy H Q ⟨φ,S,r1,r2,q⟩
   obtain⟨a,vs,rfl,h1,h2⟩:=jB S r2 hs
   obtain⟨e1,e2⟩:=hZ hc.1 r1
   obtain⟨e3,e4⟩:=mn hc.2 h2
   refine⟨a,vs,rfl,h1,e2,e4,q _ H (bJ.refl H) ?_⟩
   rw [e1,e3,n6 hc.1 hc.2];rfl
  ·cases h
theorem gk (hK:X.K=K:=by rfl):OpD K X (compareOp .NotIn) cA:=by
 subst hK
 refine⟨λst x y d h=>?_⟩
 match x,h with
 | .d x,h=>
  simp only [cA,Option.bind_eq_some_iff] at h
  obtain⟨ds,hs,h⟩:=h
  split at h
  ·rename_i hc
   cases h
   refine nA.imp ?_
   rintro vx vy H Q ⟨φ,S,r1,r2,q⟩
   obtain⟨a,vs,rfl,h1,h2⟩:=jB S r2 hs
   obtain⟨e1,e2⟩:=hZ hc.1 r1
   obtain⟨e3,e4⟩:=mn hc.2 h2
   refine⟨a,vs,rfl,h1,e2,e4,q _ H (bJ.refl H) ?_⟩
   rw [e1,e3,n6 hc.1 hc.2];rfl
  ·cases h
end
end L2
namespace L2
open PySem PySem.Spec PyProof.Rows
section
variable {K:PySem.W.Frag}{X:Cx}
theorem vn:OpR X (binaryOp .Add) (λx y H Q=>∃ l b xs zs,x=.ref l/\y=.ref b/\Rd H l (.lst xs)/\Rd H b (.lst zs)/\xs.length+zs.length<=sizeLine/\∀ p,H p=none->Q (.ref p) (upd H p (.lst (xs++zs)))):=by
 intro pins s σ H x y v u Q I rx ry h
 obtain⟨l,b,xs,zs,rfl,rfl,hH,hB,hz,q⟩:=h
 cases rx
 cases ry
 obtain⟨z,its,n,r,e⟩:=hH.ok I.hok
 obtain⟨z2,its2,n2,r2,e2⟩:=hB.ok I.hok
 have hl:=r.length
 have hl2:=r2.length
 refine PySem.P.add_list e e2 ?_ (by rw [List.size_toArray,List.size_toArray];lia)
 have ea:its.toArray++its2.toArray=(its++its2).toArray:=by simp
 rw [ea]
 exact⟨.ref _,_,I.lnew (t':=s.toks) (r.append r2) (by rw [List.length_append];lia),rfl,q _ I.fresh⟩
theorem uH:OpR X (binaryOp .Add) (λx y H Q=>∃ a b xs ys,x=.ref a/\y=.ref b/\SqT X.K H a xs/\SqT X.K H b ys/\xs.length+ys.length<=sizeLine/\
  (xs=[]->Q (.ref b) H)/\(ys=[]->Q (.ref a) H)/\∀ p,H p=none->Q (.ref p) (upd H p (.tup (xs++ys)))):=by
 intro pins s σ H x y v u Q I rx ry h
 obtain⟨a,b,xs,ys,rfl,rfl,ha,hb,hz,q0,q1,q2⟩:=h
 by_cases hx:xs=[]
 ·cases rx
  cases ry
  obtain⟨its,r1,p1,_⟩:=I.tuple ha
  obtain⟨its2,r2,p2,_⟩:=I.tuple hb
  obtain⟨⟨cls,dd,data,sl⟩,ho,hc,n,hd⟩:=id p1
  obtain⟨⟨cls2,dd2,data2,sl2⟩,ho2,hc2,n2,hd2⟩:=id p2
  simp only at hc hd hc2 hd2
  subst hc hd hc2 hd2
  exact concat_meets ⟨_,ho,rfl⟩ ⟨_,ho2,rfl⟩ noFill_tuple_add seq_tuple_add PySem.F.slot_tuple_add PySem.F.entry_tuple_add (PySem.F.args_tuple_add_2 _ _)
   (tuple_addW0 a b its.toArray its2.toArray n n2 dd dd2 sl sl2 (by simp [r1.nil_iff.mpr hx])) ⟨ho,ho2,.ref b,H,I,rfl,q0 hx⟩
 ·exact wL pins s σ H _ _ v u Q I rx ry ⟨a,b,xs,ys,rfl,rfl,ha,hb,hx,hz,q1,λ_ p hp=>q2 p hp⟩
theorem tN {st:Sto}{H:Hp}{φ:List Addr}{w:W}{v:V}{ds:List D} (S:Sr K H φ st) (r:Rw K H φ w v) (e:lsD st w=some ds):∃ a vs,v=.ref a/\Rd H a (.lst vs)/\Rls K H φ ds vs:=by
 cases w with
 | h n=>
  obtain⟨a,ea,rfl⟩:=r
  obtain⟨vs,q,rl⟩:=S.atl n a ds ea e
  exact⟨a,vs,rfl,.inl q,rl⟩
 | d x=>
  cases x with
  | lst es=>cases e;obtain⟨a,vs,rfl,h0,h1,h2⟩:=r;exact⟨a,vs,rfl,h1,h2⟩
  | _=>cases e
theorem mil:(1000000:Nat)<=sizeLine:=by rw [sizeLine_eq];decide
theorem aL (hK:X.K=K:=by rfl):OpD K X (binaryOp .Add) aP:=by
 subst hK
 refine⟨λst x y d h=>?_⟩
 have lists:(lsD st x).bind (λa=>(lsD st y).bind λb=>if a.length+b.length<=1000000 then some (.lst (a++b)) else none)=some d->OpR X (binaryOp .Add) (rD X.K st x y d):=λh=>by
  simp only [Option.bind_eq_some_iff] at h
  obtain⟨as,ha,bs,hb,h⟩:=h
  split at h
  ·rename_i hl
   cases h
   refine vn.imp ?_
   rintro vx vy H Q ⟨φ,S,r1,r2,q⟩
   obtain⟨a,us,rfl,h1,h2⟩:=tN S r1 ha
   obtain⟨b,vs,rfl,h3,h4⟩:=tN S r2 hb
   refine⟨a,b,us,vs,rfl,rfl,h1,h3,by rw [<-h2.length,<-h4.length];exact Nat.le_trans hl mil,λp hp=>q _ _ (bJ.new hp _) ?_⟩
   exact⟨p,_,rfl,S.nin hp,.inl bG,(h2.append h4).fw S (Fw.new hp)⟩
  ·cases h
 match x,y,h with
 | .d (.int i),.d (.int j),h=>
  cases h
  refine xz.imp ?_
  rintro vx vy H Q ⟨φ,S,r1,r2,q⟩
  exact⟨i,j,r1,r2,q _ H (bJ.refl H) rfl⟩
 | .d (.tup as),.d (.tup bs),h=>
  simp only [aP] at h
  split at h
  ·rename_i hl
   cases h
   refine uH.imp ?_
   rintro vx vy H Q ⟨φ,S,⟨a,us,rfl,h1,h2⟩,⟨b,vs,rfl,h3,h4⟩,q⟩
   refine⟨a,b,us,vs,rfl,rfl,(SqT.of h1),(SqT.of h3),by rw [<-h2.length,<-h4.length];exact Nat.le_trans hl mil,λe=>?_,λe=>?_,λp hp=>?_⟩
   ·subst e
    have:as=[]:=by cases as with | nil=>rfl | cons _ _=>cases h2.length
    subst this
    exact q _ H (bJ.refl H) ⟨b,vs,rfl,h3,h4⟩
   ·subst e
    have:bs=[]:=by cases bs with | nil=>rfl | cons _ _=>cases h4.length
    subst this
    exact q _ H (bJ.refl H) ⟨a,us,rfl,h1,by rw [List.append_nil];exact h2⟩
   ·exact q _ _ (bJ.new hp _) ⟨p,_,rfl,bG,(h2.append h4).fw S (Fw.new hp)⟩
  ·cases h
 | .d (.str as),.d (.str bs),h=>
  simp only [aP] at h
  split at h
  ·rename_i hl
   cases h
   refine qD.imp ?_
   rintro vx vy H Q ⟨φ,S,r1,r2,q⟩
   exact⟨as,bs,r1,r2,Nat.le_trans hl mil,q _ H (bJ.refl H) rfl⟩
  ·cases h
 | .d (.lst as),y,h=>exact lists (by cases y with | h n=>exact h | d y=>cases y<;>exact h)
 | .h n,y,h=>exact lists (by cases y with | h n=>exact h | d y=>cases y<;>exact h)
theorem vk:OpR X (binaryOp .Mult) (λx y H Q=>∃ l k xs,x=.ref l/\y=.int k/\Rd H l (.lst xs)/\-(2 ^ 63)<=k/\k < 2 ^ 63/\xs.length*k.toNat<=sizeLine/\
 ∀ p,H p=none->Q (.ref p) (upd H p (.lst (List.replicate k.toNat xs).flatten))):=by
 intro pins s σ H x y v u Q I rx ry h
 obtain⟨l,k,xs,rfl,rfl,hH,h1,h2,hz,q⟩:=h
 cases rx
 obtain⟨t,rfl⟩:=ry
 obtain⟨z,its,n,r,e⟩:=hH.ok I.hok
 have hl:=r.length
 have hlen:its.toArray.size*k.toNat<=sizeLine:=by rw [List.size_toArray,<-hl];exact hz
 have hcap:¬ its.toArray.size*k.toNat > (2 ^ 63 - 1) / 8:=by
  have:(sizeLine:Nat)<=(2 ^ 63 - 1) / 8:=by decide
  lia
 have hfit:¬ (!Builtin.List.listFitsIndex k)=true:=by
  rw [fitsIndex_both h1 h2]
  exact Bool.false_ne_true
 have hlong:¬ Builtin.List.listTooLong (its.toArray.size*k.toNat)=true:=by
  rw [uY hlen]
  exact Bool.false_ne_true
 have hnew:List.foldl (λx1 x2=>x1++x2) #[] (List.replicate (if its.toArray.isEmpty=true then 0 else k.toNat) its.toArray)=(List.replicate k.toNat its).flatten.toArray:=by
  have f0:∀ m:Nat,List.foldl (λx1 x2=>x1++x2) #[] (List.replicate m its.toArray)=(List.replicate m its).flatten.toArray:=λm=>by
   have:=ko its m []
   rw [List.nil_append] at this
   exact this
  rw [f0]
  cases its with
  | nil=>simp
  | cons a r'=>rw [if_neg (by simp)]
 refine wpAny_binaryOp_repeat_ref (T:="list") (U:="int") (by decide) ⟨_,e,rfl⟩ (λs'=>typeIs_int s' k t) noFill_list_mul F.fills_int_mul F.slot_int_rmul repeat_list F.slot_int_index.lookup
  (call_meets F.slot_int_rmul (typeIs_int s k t) F.entry_int_rmul (F.args_int_rmul_2 _ _) (int___rmul___int_list k t l its.toArray n)
    ⟨e,rfl,⟨_,e,rfl⟩,call_meets F.slot_list_mul ⟨_,e,rfl⟩ F.entry_list_mul (F.args_list_mul_2 _ _) (AutoListH.list___mul___list_int_3 l its.toArray n k t hfit hcap hlong) ⟨e,?_⟩⟩)
 rw [hnew]
 exact⟨.ref _,_,I.lnew (t':=s.toks) (r.rep k.toNat) (by rw [nX,Nat.mul_comm];exact hz),rfl,q _ I.fresh⟩
theorem fU (hK:X.K=K:=by rfl):OpD K X (binaryOp .Mult) fV:=by
 subst hK
 refine⟨λst x y d h=>?_⟩
 match x,y,h with
 | .d (.int i),.d (.int j),h=>
  simp only [fV] at h
  split at h
  ·rename_i hl
   cases h
   refine ww.imp ?_
   rintro vx vy H Q ⟨φ,S,r1,r2,q⟩
   exact⟨i,j,r1,r2,hl,q _ H (bJ.refl H) rfl⟩
  ·cases h
 | .d (.tup as),.d (.int k),h=>
  simp only [fV] at h
  split at h
  ·rename_i hl
   cases h
   refine vw.imp ?_
   rintro vx vy H Q ⟨φ,S,⟨a,us,rfl,h1,h2⟩,r2,q⟩
   have hne:us≠[]:=by rintro rfl;cases as with | nil=>exact hl.1 rfl | cons _ _=>cases h2.length
   refine⟨a,k,us,rfl,r2,(SqT.of h1),hne,by rw [<-h2.length];exact hl.2.1,hl.2.2.1,hl.2.2.2,λe=>?_,λ_ p hp=>?_⟩
   ·subst e
    exact q _ H (bJ.refl H) ⟨a,us,rfl,h1,by simpa using h2⟩
   ·exact q _ _ (bJ.new hp _) ⟨p,_,rfl,bG,(h2.rep _).fw S (Fw.new hp)⟩
  ·cases h
 | .d (.lst as),.d (.int k),h=>
  simp only [fV] at h
  split at h
  ·rename_i hl
   cases h
   refine vk.imp ?_
   rintro vx vy H Q ⟨φ,S,⟨a,us,rfl,h0,h1,h2⟩,r2,q⟩
   refine⟨a,k,us,rfl,r2,h1,by lia,by lia,?_,λp hp=>?_⟩
   ·rw [<-h2.length]
    have:as.length*k.toNat<=1000*1000:=Nat.mul_le_mul hl.1 (by lia)
    exact Nat.le_trans this mil
   ·exact q _ _ (bJ.new hp _) ⟨p,_,rfl,S.nin hp,.inl bG,(h2.rep _).fw S (Fw.new hp)⟩
  ·cases h
noncomputable def dIx (st:Sto) (x y:W):Option D:=match x,y with
 | .d (.str z),.d (.int i)=>if z.length<=1000000 then (atI z.cps.toList i).map λc=>.str ⟨#[c]⟩ else none
 | x,.d (.int i)=>(cB st x).bind λds=>atI ds i
 | _,_=>none
theorem xw {H:Hp}{φ:List Addr}{ds:List D}{vs:List V}{i:Int}{d:D} (r:Rls K H φ ds vs) (e:atI ds i=some d):∃ v,atI vs i=some v/\Rl K H φ d v:=by
 unfold atI at e ⊢
 rw [<-r.length]
 obtain⟨j,e1,e2⟩:=Option.bind_eq_some_iff.mp e
 obtain⟨v,ev,rv⟩:=r.get e2
 exact⟨v,by rw [e1];exact ev,rv⟩
theorem IxR.imp {r r':R2} (h:IxR X r) (m:∀ x y H Q,r' x y H Q->r x y H Q):IxR X r':=λvalue slice pins s σ H x y v u Q I rx ry q hs=>h value slice pins s σ H x y v u Q I rx ry (m _ _ _ _ q) hs
theorem zQ (st:Sto) (x y:W) (d:D) (h:dIx st x y=some d) (hK:X.K=K):IxR X (rD K st x y d):=by
 subst hK
 match y,h with
 | .d (.int i),h=>
  have seq:(cB st x).bind (λds=>atI ds i)=some d->IxR X (rD X.K st x (.d (.int i)) d):=λh=>by
   obtain⟨ds,e1,e2⟩:=Option.bind_eq_some_iff.mp h
   refine sP.imp ?_
   rintro vx vy H Q ⟨φ,S,r1,r2,q⟩
   obtain⟨a,vs,rfl,h1,h2⟩:=jB S r1 e1
   obtain⟨v,ev,rv⟩:=xw h2 e2
   rcases h1 with h1 | h1
   ·exact .inl ⟨a,vs,i,v,rfl,r2,h1,ev,q _ H (bJ.refl H) rv⟩
   ·exact .inr (.inl ⟨a,vs,i,v,rfl,r2,h1,ev,q _ H (bJ.refl H) rv⟩)
  match x,h with
  | .d (.str z),h=>
   simp only [dIx] at h
   split at h
   ·rename_i hl
    obtain⟨c,e1,rfl⟩:=Option.map_eq_some_iff.mp h
    refine sP.imp ?_
    rintro vx vy H Q ⟨φ,S,r1,r2,q⟩
    exact .inr (.inr ⟨z,i,c,r1,r2,Nat.le_trans hl mil,e1,q _ H (bJ.refl H) rfl⟩)
   ·cases h
  | .d (.tup z),h=>exact seq h
  | .d (.lst z),h=>exact seq h
  | .d (.scr z),h=>exact seq h
  | .h z,h=>exact seq h
 | .d .non,h=>cases x with | h n=>cases h | d x=>cases x<;>cases h
 | .d (.bl _),h=>cases x with | h n=>cases h | d x=>cases x<;>cases h
 | .d (.str _),h=>cases x with | h n=>cases h | d x=>cases x<;>cases h
 | .d (.ty _),h=>cases x with | h n=>cases h | d x=>cases x<;>cases h
 | .d (.scr _),h=>cases x with | h n=>cases h | d x=>cases x<;>cases h
 | .d .dct,h=>cases x with | h n=>cases h | d x=>cases x<;>cases h
 | .d (.tup _),h=>cases x with | h n=>cases h | d x=>cases x<;>cases h
 | .d (.lst _),h=>cases x with | h n=>cases h | d x=>cases x<;>cases h
 | .h _,h=>cases x with | h n=>cases h | d x=>cases x<;>cases h
variable {e a b:Expr}{pos p2:Pos}{f fa fb:Ef}
theorem aS (ha:IE K X a fa) (hb:IE K X b fb) (hs:ms b=true:=by rfl) (hK:X.K=K:=by rfl):IE K X (.Subscript a b pos) (iOp dIx fa fb):=by
 refine⟨λenv st r hr=>?_⟩
 simp only [iOp,Option.bind_eq_some_iff,Option.map_eq_some_iff] at hr
 obtain⟨x,hx,y,hy,d,hd,rfl⟩:=hr
 exact (zK (zQ _ _ _ _ hd hK) (ha.run _ _ _ hx) (hb.run _ _ _ hy) (pT hs)).imp λσ H Q h=>oz h
abbrev Pf:=Ev->Sto->Option (Option Int×Sto)
noncomputable def iPn:Pf
 | _,st=>some (none,st)
noncomputable def xL:W->Option Int
 | .d (.int i)=>some i
 | _=>none
theorem rZ {w:W}{i:Int} (h:xL w=some i):w=.d (.int i):=by
 cases w with
 | h n=>cases h
 | d x=>cases x<;>first | (cases h;done) | (injection h with h;subst h;rfl)
noncomputable def iPs (f:Ef):Pf
 | env,st=>(f env st).bind λr=>(xL r.1).map λi=>(some i,r.2)
noncomputable def tIO (K:PySem.W.Frag) (env:Ev) (st:Sto) (r:Option Int×Sto):TO:=λσ H Q=>∃ φ,Er K H φ env σ/\Sr K H φ st/\∀ H' φ',Fw φ φ' H H'->Sr K H' φ' r.2->Q r.1 H'
structure IO (K:PySem.W.Frag) (X:Cx) (e:Option Expr) (f:Pf):Prop where
 run:∀ env st r,f env st=some r->PO X e (tIO K env st r)
theorem PO.imp {e:Option Expr}{t t':TO} (h:PO X e t) (m:∀ σ H Q,t' σ H Q->t σ H Q):PO X e t':=λpins s σ H Q I q=>h pins s σ H Q I (m σ H Q q)
theorem fZ:IO K X none iPn:=by
 refine⟨λenv st r hr=>?_⟩
 cases hr
 exact vh.imp λσ H Q ⟨φ,hE,hS,q⟩=>q H φ (Fw.refl φ H) hS
theorem bj (h:IE K X e f):IO K X (some e) (iPs f):=by
 refine⟨λenv st r hr=>?_⟩
 simp only [iPs,Option.bind_eq_some_iff,Option.map_eq_some_iff] at hr
 obtain⟨⟨x,s1⟩,hx,i,hi,rfl⟩:=hr
 cases rZ hi
 refine (vR (h.run _ _ _ hx)).imp ?_
 rintro σ H Q ⟨φ,hE,hS,q⟩
 exact⟨φ,hE,hS,λv H1 φ1 f1 s1 w1=>⟨i,w1,q H1 φ1 f1 s1⟩⟩
end
end L2
namespace L2
open PySem PySem.Spec PyProof.Rows
section
variable {K:PySem.W.Frag}{X:Cx}{pins:List (Addr×Obj)}{σ:St}{H:Hp}{s:Shared}{φ:List Addr}{st:Sto}
theorem gs:∀ (xs ys:List D),((List.range (min xs.length ys.length)).all (λj=>eqD (xs.getD j .non) (ys.getD j .non)) && xs.length==ys.length)=i5 xs ys
 | [],[]=>rfl
 | [],y::ys=>by simp [i5]
 | x::xs,[]=>by simp [i5]
 | x::xs,y::ys=>by
  show ((List.range (min (xs.length+1) (ys.length+1))).all (λj=>eqD ((x::xs).getD j .non) ((y::ys).getD j .non)) && (xs.length+1==ys.length+1))=(eqD x y && i5 xs ys)
  rw [show min (xs.length+1) (ys.length+1)=min xs.length ys.length+1 by lia,lU,<-gs xs ys]
  have e:(xs.length+1==ys.length+1)=(xs.length==ys.length):=by rw [Bool.eq_iff_iff];simp
  rw [e,Bool.and_assoc]
  rfl
theorem i8 {xs ys:List D} (h:xs.length=ys.length):(List.range xs.length).all (λj=>eqD (xs.getD j .non) (ys.getD j .non))=i5 xs ys:=by
 rw [<-gs xs ys,<-h,Nat.min_self];simp
theorem oQ:∀ {xs ys:List D},xs.length≠ys.length->i5 xs ys=false
 | [],[],h=>absurd rfl h
 | [],_::_,_=>rfl
 | _::_,[],_=>rfl
 | x::xs,y::ys,h=>by
  show (eqD x y && i5 xs ys)=false
  rw [oQ (by intro e;apply h;rw [List.length_cons,List.length_cons,e]),Bool.and_false]
theorem vD (I:Inv X pins σ H s) {a:Addr}{vs ws:List V} (h:Rd H a (.lst vs)) (h':Rd H a (.lst ws)):vs=ws:=I.list_inj (.inl h) (.inl h')
theorem rp (I:Inv X pins σ H s):∀ (n:Nat) {d e:D}{v:V},Rl X.K H φ d v->Rl X.K H φ e v->okD n d=true->okD n e=true->eqD d e=true:=by
 intro n
 induction n with
 | zero=>
  intro d e v r1 r2 o1 o2
  cases d<;>first | (cases o1;done) | skip
  all_goals (cases e<;>first | (cases o2;done) | skip)
  all_goals (first | rfl | (cases r1.symm.trans r2;done) | (cases r1.symm.trans r2;simp [eqD]))
 | succ n ih=>
  have lists:∀ {ds es:List D}{vs:List V},Rls X.K H φ ds vs->Rls X.K H φ es vs->(∀ d ∈ ds,okD n d=true)->(∀ d ∈ es,okD n d=true)->i5 ds es=true:=by
   intro ds
   induction ds with
   | nil=>
    intro es vs r1 r2 _ _
    cases r1
    cases es with
    | nil=>rfl
    | cons e es=>obtain⟨_,_,q,_⟩:=r2;cases q
   | cons d ds ihd=>
    intro es vs r1 r2 o1 o2
    obtain⟨v,r,rfl,a1,a2⟩:=r1
    cases es with
    | nil=>cases r2
    | cons e es=>
     obtain⟨v',r',q,b1,b2⟩:=r2
     cases q
     show (eqD d e && i5 ds es)=true
     rw [ih a1 b1 (o1 d List.mem_cons_self) (o2 e List.mem_cons_self),ihd a2 b2 (λx hx=>o1 x (List.mem_cons_of_mem _ hx)) (λx hx=>o2 x (List.mem_cons_of_mem _ hx))]
     rfl
  intro d e v r1 r2 o1 o2
  cases d with
  | tup ds=>
   obtain⟨a,vs,rfl,h1,h2⟩:=r1
   cases e with
   | tup es=>
    obtain⟨b,us,q,h3,h4⟩:=r2
    cases q
    rw [I.tuple_inj (SqT.of h3) (SqT.of h1)] at h4
    exact lists h2 h4 (List.all_eq_true.mp o1) (List.all_eq_true.mp o2)
   | lst es=>
    obtain⟨b,us,q,_,h3,h4⟩:=r2
    cases q
    obtain⟨_,_,p1,_⟩:=I.tuple (SqT.of h1)
    obtain⟨_,_,p2,_⟩:=I.list (.inl h3)
    exact absurd rfl (SeqAt.ne_of_list_tuple p2.isList p1)
   | _=>first | (cases o2;done) | (cases r2;done)
  | lst ds=>
   obtain⟨a,vs,rfl,h0,h1,h2⟩:=r1
   cases e with
   | lst es=>
    obtain⟨b,us,q,_,h3,h4⟩:=r2
    cases q
    rw [vD I h3 h1] at h4
    exact lists h2 h4 (List.all_eq_true.mp o1) (List.all_eq_true.mp o2)
   | tup es=>
    obtain⟨b,us,q,h3,h4⟩:=r2
    cases q
    obtain⟨_,_,p1,_⟩:=I.tuple (SqT.of h3)
    obtain⟨_,_,p2,_⟩:=I.list (.inl h1)
    exact absurd rfl (SeqAt.ne_of_list_tuple p2.isList p1)
   | _=>first | (cases o2;done) | (cases r2;done)
  | non=>cases e<;>first | rfl | (cases o2;done) | (cases r1.symm.trans r2;done) | (cases r1;obtain⟨_,_,q,_⟩:=r2;cases q)
  | bl b=>cases e<;>first | (cases o2;done) | (cases r1.symm.trans r2;simp [eqD];done) | (cases r1.symm.trans r2;done) | (cases r1;obtain⟨_,_,q,_⟩:=r2;cases q)
  | int b=>cases e<;>first | (cases o2;done) | (cases r1.symm.trans r2;simp [eqD];done) | (cases r1.symm.trans r2;done) | (cases r1;obtain⟨_,_,q,_⟩:=r2;cases q)
  | str b=>cases e<;>first | (cases o2;done) | (cases r1.symm.trans r2;simp [eqD];done) | (cases r1.symm.trans r2;done) | (cases r1;obtain⟨_,_,q,_⟩:=r2;cases q)
  | ty b=>cases o1
  | scr b=>cases o1
  | dct=>cases o1
theorem gf {ds:List D}{vs:List V}{us:List Value} (r:Rls K H φ ds vs) (rv:bx vs us):∀ (j:Nat) (h:j < us.length),∃ v,Rl K H φ (ds.getD j .non) v/\br v us[j]/\ds.getD j .non ∈ ds:=by
 intro j h
 obtain⟨h',q⟩:=rv.at j h
 have hd:j < ds.length:=by rw [r.length];exact h'
 have e:ds[j]?=some ds[j]:=List.getElem?_eq_getElem hd
 obtain⟨v,ev,rl⟩:=r.get e
 rw [List.getElem?_eq_getElem h'] at ev
 cases ev
 refine⟨_,?_,q,?_⟩
 ·rw [List.getD,e];exact rl
 ·rw [List.getD,e];exact List.getElem_mem hd
theorem yh (I:Inv X pins σ H s):∀ (n:Nat) {A:Around}{d e:D}{v u:V}{vv uu:Value},Rl X.K H φ d v->Rl X.K H φ e u->br v vv->br u uu->okD n d=true->okD n e=true->A.units+n < cLine->SeqAt.EqAt A s vv uu (eqD d e):=by
 have flat:∀ {A:Around}{d e:D}{v u:V}{vv uu:Value},di d=true->di e=true->Rl X.K H φ d v->Rl X.K H φ e u->br v vv->br u uu->SeqAt.EqAt A s vv uu (eqD d e):=by
  intro A d e v u vv uu f1 f2 r1 r2 q1 q2
  obtain⟨e1,g1⟩:=hZ f1 r1
  obtain⟨e2,g2⟩:=hZ f2 r2
  rw [<-nC f1 f2,<-e1,<-e2]
  exact tJ q1 q2 g1 g2
 intro n
 induction n with
 | zero=>
  intro A d e v u vv uu r1 r2 q1 q2 o1 o2 hu
  refine flat ?_ ?_ r1 r2 q1 q2
  ·cases d<;>first | rfl | cases o1
  ·cases e<;>first | rfl | cases o2
 | succ n ih=>
  intro A d e v u vv uu r1 r2 q1 q2 o1 o2 hu
  have hu0:A.units < cLine:=by lia
  have hu1:A.in1.units+n < cLine:=by show A.units+1+n < cLine;lia
  cases d with
  | tup ds=>
   obtain⟨a,vs,rfl,h1,h2⟩:=r1
   cases q1
   obtain⟨its,rv,p1,_⟩:=I.tuple (SqT.of h1)
   cases e with
   | tup es=>
    obtain⟨b,us,rfl,h3,h4⟩:=id r2
    cases q2
    by_cases hab:a=b
    ·subst hab
     rw [rp I (n+1) (d:=.tup ds) ⟨a,vs,rfl,h1,h2⟩ r2 o1 o2]
     exact SeqAt.EqAt.same _
    ·obtain⟨its2,rv2,p2,_⟩:=I.tuple (SqT.of h3)
     have z:=SeqAt.RcAt.tuples (A:=A) (e:=λj=>eqD (ds.getD j .non) (es.getD j .non)) p1 p2 hu0 λj g1 g2=>by
      obtain⟨v1,k1,k2,k3⟩:=gf h2 rv j (by simpa using g1)
      obtain⟨v2,k4,k5,k6⟩:=gf h4 rv2 j (by simpa using g2)
      exact ih k1 k4 (by simpa using k2) (by simpa using k5) (List.all_eq_true.mp o1 _ k3) (List.all_eq_true.mp o2 _ k6) hu1
     have e1:its.toArray.size=ds.length:=by simp [<-rv.length,h2.length]
     have e2:its2.toArray.size=es.length:=by simp [<-rv2.length,h4.length]
     rw [e1,e2,gs] at z
     exact SeqAt.EqAt.of_refs hab z
   | lst es=>
    obtain⟨b,us,rfl,_,h3,h4⟩:=id r2
    cases q2
    obtain⟨its2,rv2,p2,_⟩:=I.list (.inl h3)
    exact SeqAt.EqAt.tuple_list p1 p2.isList hu0
   | non=>cases r2;cases q2;exact SeqAt.EqAt.tuple_none p1 hu0
   | bl x=>cases r2;cases q2;exact SeqAt.EqAt.tuple_bool x p1 hu0
   | int x=>cases r2;obtain⟨t,rfl⟩:=q2;exact SeqAt.EqAt.tuple_int x t p1 hu0
   | str x=>cases r2;obtain⟨t,rfl⟩:=q2;exact SeqAt.EqAt.tuple_str x t p1 hu0
   | ty _=>cases o2
   | scr _=>cases o2
   | dct=>cases o2
  | lst ds=>
   obtain⟨a,vs,rfl,h0,h1,h2⟩:=r1
   cases q1
   obtain⟨its,rv,p1,_⟩:=I.list (.inl h1)
   cases e with
   | lst es=>
    obtain⟨b,us,rfl,_,h3,h4⟩:=id r2
    cases q2
    by_cases hab:a=b
    ·subst hab
     rw [rp I (n+1) (d:=.lst ds) ⟨a,vs,rfl,h0,h1,h2⟩ r2 o1 o2]
     exact SeqAt.EqAt.same _
    ·obtain⟨its2,rv2,p2,_⟩:=I.list (.inl h3)
     have e1:its.toArray.size=ds.length:=by simp [<-rv.length,h2.length]
     have e2:its2.toArray.size=es.length:=by simp [<-rv2.length,h4.length]
     by_cases hl:ds.length=es.length
     ·have z:=SeqAt.RcAt.lists (A:=A) (e:=λj=>eqD (ds.getD j .non) (es.getD j .non)) p1.isList p2.isList (by rw [e1,e2,hl]) hu0 λj g1 g2=>by
       obtain⟨v1,k1,k2,k3⟩:=gf h2 rv j (by simpa using g1)
       obtain⟨v2,k4,k5,k6⟩:=gf h4 rv2 j (by simpa using g2)
       exact ih k1 k4 (by simpa using k2) (by simpa using k5) (List.all_eq_true.mp o1 _ k3) (List.all_eq_true.mp o2 _ k6) hu1
      rw [e1,i8 hl] at z
      exact SeqAt.EqAt.of_refs hab z
     ·have z:=SeqAt.RcAt.lists_lengths (A:=A) p1.isList p2.isList (by rw [e1,e2];simpa using hl) hu0
      show SeqAt.EqAt A s _ _ (i5 ds es)
      rw [oQ hl]
      exact SeqAt.EqAt.of_refs hab z
   | tup es=>
    obtain⟨b,us,rfl,h3,h4⟩:=id r2
    cases q2
    obtain⟨its2,rv2,p2,_⟩:=I.tuple (SqT.of h3)
    exact SeqAt.EqAt.list_tuple p1.isList p2 hu0
   | non=>cases r2;cases q2;exact SeqAt.EqAt.list_none p1.isList hu0
   | bl x=>cases r2;cases q2;exact SeqAt.EqAt.list_bool x p1.isList hu0
   | int x=>cases r2;obtain⟨t,rfl⟩:=q2;exact SeqAt.EqAt.list_int x t p1.isList hu0
   | str x=>cases r2;obtain⟨t,rfl⟩:=q2;exact SeqAt.EqAt.list_str x t p1.isList hu0
   | ty _=>cases o2
   | scr _=>cases o2
   | dct=>cases o2
  | non=>
   cases r1;cases q1
   cases e with
   | tup es=>obtain⟨b,us,rfl,h3,h4⟩:=r2;cases q2;obtain⟨_,_,p2,_⟩:=I.tuple (SqT.of h3);exact SeqAt.EqAt.none_tuple p2 hu0
   | lst es=>obtain⟨b,us,rfl,_,h3,h4⟩:=r2;cases q2;obtain⟨_,_,p2,_⟩:=I.list (.inl h3);exact SeqAt.EqAt.none_list p2.isList hu0
   | _=>first | (cases o2;done) | exact flat rfl rfl (d:=.non) rfl r2 (v:=.non) rfl q2
  | bl x=>
   cases r1;cases q1
   cases e with
   | tup es=>obtain⟨b,us,rfl,h3,h4⟩:=r2;cases q2;obtain⟨_,_,p2,_⟩:=I.tuple (SqT.of h3);exact SeqAt.EqAt.bool_tuple x p2 hu0
   | lst es=>obtain⟨b,us,rfl,_,h3,h4⟩:=r2;cases q2;obtain⟨_,_,p2,_⟩:=I.list (.inl h3);exact SeqAt.EqAt.bool_list x p2.isList hu0
   | _=>first | (cases o2;done) | exact flat rfl rfl (d:=.bl x) rfl r2 (v:=.bl x) rfl q2
  | int x=>
   cases r1;obtain⟨t1,rfl⟩:=q1
   cases e with
   | tup es=>obtain⟨b,us,rfl,h3,h4⟩:=r2;cases q2;obtain⟨_,_,p2,_⟩:=I.tuple (SqT.of h3);exact SeqAt.EqAt.int_tuple x t1 p2 hu0
   | lst es=>obtain⟨b,us,rfl,_,h3,h4⟩:=r2;cases q2;obtain⟨_,_,p2,_⟩:=I.list (.inl h3);exact SeqAt.EqAt.int_list x t1 p2.isList hu0
   | _=>first | (cases o2;done) | exact flat rfl rfl (d:=.int x) rfl r2 (v:=.int x) ⟨t1,rfl⟩ q2
  | str x=>
   cases r1;obtain⟨t1,rfl⟩:=q1
   cases e with
   | tup es=>obtain⟨b,us,rfl,h3,h4⟩:=r2;cases q2;obtain⟨_,_,p2,_⟩:=I.tuple (SqT.of h3);exact SeqAt.EqAt.str_tuple x t1 p2 hu0
   | lst es=>obtain⟨b,us,rfl,_,h3,h4⟩:=r2;cases q2;obtain⟨_,_,p2,_⟩:=I.list (.inl h3);exact SeqAt.EqAt.str_list x t1 p2.isList hu0
   | _=>first | (cases o2;done) | exact flat rfl rfl (d:=.str x) rfl r2 (v:=.str x) ⟨t1,rfl⟩ q2
  | ty _=>cases o1
  | scr _=>cases o1
  | dct=>cases o1
theorem yb {A:Around}{y x:V}{u v:Value} (ry:br y u) (rx:br x v) (fy:gE y=true) (fx:gE x=true):SeqAt.RcAt A s u v (eqV y x):=by
 cases y with
 | non=>
  cases ry
  cases x with
  | non=>cases rx;exact SeqAt.RcAt.none_none
  | bl b=>cases rx;exact SeqAt.RcAt.none_bool b
  | int b=>obtain⟨t,rfl⟩:=rx;exact SeqAt.RcAt.none_int b t
  | str b=>obtain⟨t,rfl⟩:=rx;exact SeqAt.RcAt.none_str b t
  | _=>cases fx
 | bl a=>
  cases ry
  cases x with
  | non=>cases rx;exact SeqAt.RcAt.bool_none a
  | bl b=>cases rx;exact SeqAt.RcAt.bool_bool a b
  | int b=>obtain⟨t,rfl⟩:=rx;exact SeqAt.RcAt.bool_int a b t
  | str b=>obtain⟨t,rfl⟩:=rx;exact SeqAt.RcAt.bool_str a b t
  | _=>cases fx
 | int a=>
  obtain⟨t',rfl⟩:=ry
  cases x with
  | non=>cases rx;exact SeqAt.RcAt.int_none a t'
  | bl b=>cases rx;exact SeqAt.RcAt.int_bool a t' b
  | int b=>obtain⟨t,rfl⟩:=rx;exact SeqAt.RcAt.int_int a t' b t
  | str b=>obtain⟨t,rfl⟩:=rx;exact SeqAt.RcAt.int_str a t' b t
  | _=>cases fx
 | str a=>
  obtain⟨t',rfl⟩:=ry
  cases x with
  | non=>cases rx;exact SeqAt.RcAt.str_none a t'
  | bl b=>cases rx;exact SeqAt.RcAt.str_bool a t' b
  | int b=>obtain⟨t,rfl⟩:=rx;exact SeqAt.RcAt.str_int a t' b t
  | str b=>obtain⟨t,rfl⟩:=rx;exact SeqAt.RcAt.str_str a t' b t
  | _=>cases fx
 | _=>cases fy
theorem vg {A:Around}{y x:V}{u v:Value} (ry:br y u) (rx:br x v) (fy:gE y=true) (fx:gE x=true):SeqAt.RcNeAt A s u v (!eqV y x):=by
 cases y with
 | non=>
  cases ry
  cases x with
  | non=>cases rx;exact SeqAt.RcNeAt.none_none
  | bl b=>cases rx;exact SeqAt.RcNeAt.none_bool b
  | int b=>obtain⟨t,rfl⟩:=rx;exact SeqAt.RcNeAt.none_int b t
  | str b=>obtain⟨t,rfl⟩:=rx;exact SeqAt.RcNeAt.none_str b t
  | _=>cases fx
 | bl a=>
  cases ry
  cases x with
  | non=>cases rx;exact SeqAt.RcNeAt.bool_none a
  | bl b=>cases rx;exact SeqAt.RcNeAt.bool_bool a b
  | int b=>obtain⟨t,rfl⟩:=rx;exact SeqAt.RcNeAt.bool_int a b t
  | str b=>obtain⟨t,rfl⟩:=rx;exact SeqAt.RcNeAt.bool_str a b t
  | _=>cases fx
 | int a=>
  obtain⟨t',rfl⟩:=ry
  cases x with
  | non=>cases rx;exact SeqAt.RcNeAt.int_none a t'
  | bl b=>cases rx;exact SeqAt.RcNeAt.int_bool a t' b
  | int b=>obtain⟨t,rfl⟩:=rx;exact SeqAt.RcNeAt.int_int a t' b t
  | str b=>obtain⟨t,rfl⟩:=rx;exact SeqAt.RcNeAt.int_str a t' b t
  | _=>cases fx
 | str a=>
  obtain⟨t',rfl⟩:=ry
  cases x with
  | non=>cases rx;exact SeqAt.RcNeAt.str_none a t'
  | bl b=>cases rx;exact SeqAt.RcNeAt.str_bool a t' b
  | int b=>obtain⟨t,rfl⟩:=rx;exact SeqAt.RcNeAt.str_int a t' b t
  | str b=>obtain⟨t,rfl⟩:=rx;exact SeqAt.RcNeAt.str_str a t' b t
  | _=>cases fx
 | _=>cases fy
inductive Kin where
 | fl (d:D) | tp (ds:List D) | ls (ds:List D)
noncomputable def cM (st:Sto):W->Option Kin
 | .d (.tup ds)=>some (.tp ds)
 | .d (.lst ds)=>some (.ls ds)
 | .h n=>(lg st n).map .ls
 | .d .non=>some (.fl .non)
 | .d (.bl b)=>some (.fl (.bl b))
 | .d (.int i)=>some (.fl (.int i))
 | .d (.str x)=>some (.fl (.str x))
 | _=>none
noncomputable def eqK:Kin->Kin->Option Bool
 | .fl a,.fl b=>some (eqD a b)
 | .tp as,.tp bs=>if (as.isEmpty || bs.isEmpty)=true then some (as.isEmpty && bs.isEmpty) else if as.all (okD 60)=true/\bs.all (okD 60)=true then some (i5 as bs) else none
 | .ls as,.ls bs=>if as.length=bs.length then (if as.all (okD 60)=true/\bs.all (okD 60)=true then some (i5 as bs) else none) else some false
 | .fl _,.tp _=>some false
 | .tp _,.fl _=>some false
 | .fl _,.ls _=>some false
 | .ls _,.fl _=>some false
 | .tp _,.ls _=>some false
 | .ls _,.tp _=>some false
noncomputable def dEq (st:Sto) (x y:W):Option D:=(cM st x).bind λa=>(cM st y).bind λb=>(eqK a b).map λk=>.bl k
noncomputable def dNe (st:Sto) (x y:W):Option D:=(cM st x).bind λa=>(cM st y).bind λb=>(eqK a b).map λk=>.bl (!k)
noncomputable def yi (K:PySem.W.Frag) (H:Hp) (φ:List Addr):Kin->V->Prop
 | .fl d,v=>di d=true/\Rl K H φ d v
 | .tp ds,v=>∃ a vs,v=.ref a/\SqT K H a vs/\Rls K H φ ds vs
 | .ls ds,v=>∃ a vs,v=.ref a/\Rd H a (.lst vs)/\Rls K H φ ds vs
theorem ll {w:W}{v:V}{k:Kin} (S:Sr K H φ st) (r:Rw K H φ w v) (e:cM st w=some k):yi K H φ k v:=by
 cases w with
 | h n=>
  obtain⟨a,ea,rfl⟩:=r
  obtain⟨ds,e1,rfl⟩:=Option.map_eq_some_iff.mp e
  obtain⟨vs,q,rl⟩:=S.atl n a ds ea e1
  exact⟨a,vs,rfl,.inl q,rl⟩
 | d x=>
  cases x with
  | tup es=>cases e;obtain⟨a,vs,rfl,h1,h2⟩:=r;exact⟨a,vs,rfl,SqT.of h1,h2⟩
  | lst es=>cases e;obtain⟨a,vs,rfl,h0,h1,h2⟩:=r;exact⟨a,vs,rfl,h1,h2⟩
  | non=>cases e;exact⟨rfl,r⟩
  | bl b=>cases e;exact⟨rfl,r⟩
  | int b=>cases e;exact⟨rfl,r⟩
  | str b=>cases e;exact⟨rfl,r⟩
  | _=>cases e
theorem xC {A:Around}{k:Nat} (hr:cZ k A):A.in1.units+60 < cLine:=by
 have:=hr.un
 show A.units+1+60 < cLine
 lia
theorem uF {k:Nat} (hr:cZ k X.A) (I:Inv X pins σ H s) {a b:Kin}{v u:V}{vv uu:Value}{r:Bool} (ra:yi X.K H φ a v) (rb:yi X.K H φ b u) (qa:br v vv) (qb:br u uu) (e:eqK a b=some r) :
  SeqAt.RcAt X.A s vv uu r/\SeqAt.RcNeAt X.A s vv uu (!r):=by
 have hu0:=hr.units0
 have items:∀ {ds es:List D}{vs us:List V}{its its2:List Value},Rls X.K H φ ds vs->Rls X.K H φ es us->bx vs its->bx us its2->ds.all (okD 60)=true->es.all (okD 60)=true->
   ∀ j (g1:j < its.toArray.size) (g2:j < its2.toArray.size),SeqAt.EqAt X.A.in1 s its.toArray[j] its2.toArray[j] (eqD (ds.getD j .non) (es.getD j .non)):=by
  intro ds es vs us its its2 h2 h4 rv rv2 o1 o2 j g1 g2
  obtain⟨v1,k1,k2,k3⟩:=gf h2 rv j (by simpa using g1)
  obtain⟨v2,k4,k5,k6⟩:=gf h4 rv2 j (by simpa using g2)
  exact yh I 60 k1 k4 (by simpa using k2) (by simpa using k5) (List.all_eq_true.mp o1 _ k3) (List.all_eq_true.mp o2 _ k6) (xC hr)
 match a,b,e with
 | .fl d,.fl d',e=>
  cases e
  obtain⟨f1,r1⟩:=ra
  obtain⟨f2,r2⟩:=rb
  obtain⟨e1,g1⟩:=hZ f1 r1
  obtain⟨e2,g2⟩:=hZ f2 r2
  rw [<-nC f1 f2,<-e1,<-e2]
  exact⟨yb qa qb g1 g2,vg qa qb g1 g2⟩
 | .tp ds,.tp es,e=>
  simp only [eqK] at e
  obtain⟨a,vs,rfl,h1,h2⟩:=ra
  obtain⟨b,us,rfl,h3,h4⟩:=rb
  cases qa;cases qb
  obtain⟨its,rv,p1,_⟩:=I.tuple h1
  obtain⟨its2,rv2,p2,_⟩:=I.tuple h3
  have e1:its.toArray.size=ds.length:=by simp [<-rv.length,h2.length]
  have e2:its2.toArray.size=es.length:=by simp [<-rv2.length,h4.length]
  split at e
  ·rename_i hc
   cases e
   have hv:∀ j (g1:j < its.toArray.size) (g2:j < its2.toArray.size),SeqAt.EqAt X.A.in1 s its.toArray[j] its2.toArray[j] (eqD (ds.getD j .non) (es.getD j .non)):=λj g1 g2=>by
    rw [e1] at g1
    rw [e2] at g2
    rw [Bool.or_eq_true] at hc
    rcases hc with hc | hc
    ·rw [List.isEmpty_iff.mp hc] at g1;exact absurd g1 (Nat.not_lt_zero _)
    ·rw [List.isEmpty_iff.mp hc] at g2;exact absurd g2 (Nat.not_lt_zero _)
   have z:=SeqAt.RcAt.tuples (A:=X.A) p1 p2 hu0 hv
   have z':=SeqAt.RcNeAt.tuples (A:=X.A) p1 p2 hu0 hv
   rw [e1,e2,gs] at z z'
   have e3:i5 ds es=(ds.isEmpty && es.isEmpty):=by
    cases ds with
    | nil=>cases es<;>rfl
    | cons _ _=>cases es with
     | nil=>rfl
     | cons _ _=>cases hc
   rw [e3] at z z'
   exact⟨z,z'⟩
  ·split at e
   ·rename_i hc
    cases e
    have z:=SeqAt.RcAt.tuples (A:=X.A) p1 p2 hu0 (items h2 h4 rv rv2 hc.1 hc.2)
    have z':=SeqAt.RcNeAt.tuples (A:=X.A) p1 p2 hu0 (items h2 h4 rv rv2 hc.1 hc.2)
    rw [e1,e2,gs] at z z'
    exact⟨z,z'⟩
   ·cases e
 | .ls ds,.ls es,e=>
  simp only [eqK] at e
  obtain⟨a,vs,rfl,h1,h2⟩:=ra
  obtain⟨b,us,rfl,h3,h4⟩:=rb
  cases qa;cases qb
  obtain⟨its,rv,p1,_⟩:=I.list (.inl h1)
  obtain⟨its2,rv2,p2,_⟩:=I.list (.inl h3)
  have e1:its.toArray.size=ds.length:=by simp [<-rv.length,h2.length]
  have e2:its2.toArray.size=es.length:=by simp [<-rv2.length,h4.length]
  split at e
  ·rename_i hl
   split at e
   ·rename_i hc
    cases e
    have z:=SeqAt.RcAt.lists (A:=X.A) p1.isList p2.isList (by rw [e1,e2,hl]) hu0 (items h2 h4 rv rv2 hc.1 hc.2)
    have z':=SeqAt.RcNeAt.lists (A:=X.A) p1.isList p2.isList (by rw [e1,e2,hl]) hu0 (items h2 h4 rv rv2 hc.1 hc.2)
    rw [e1,i8 hl] at z z'
    exact⟨z,z'⟩
   ·cases e
  ·rename_i hl
   cases e
   have z:=SeqAt.RcAt.lists_lengths (A:=X.A) p1.isList p2.isList (by rw [e1,e2];simpa using hl) hu0
   have z':=SeqAt.RcNeAt.lists_lengths (A:=X.A) p1.isList p2.isList (by rw [e1,e2];simpa using hl) hu0
   exact⟨z,z'⟩
 | .fl d,.tp es,e=>
  cases e
  obtain⟨f1,r1⟩:=ra
  obtain⟨b,us,rfl,h3,h4⟩:=rb
  cases qb
  obtain⟨its2,rv2,p2,_⟩:=I.tuple h3
  cases d with
  | non=>cases r1;cases qa;exact⟨SeqAt.RcAt.none_tuple p2 hu0,SeqAt.RcNeAt.none_tuple p2 hu0⟩
  | bl x=>cases r1;cases qa;exact⟨SeqAt.RcAt.bool_tuple x p2 hu0,SeqAt.RcNeAt.bool_tuple x p2 hu0⟩
  | int x=>cases r1;obtain⟨t,rfl⟩:=qa;exact⟨SeqAt.RcAt.int_tuple x t p2 hu0,SeqAt.RcNeAt.int_tuple x t p2 hu0⟩
  | str x=>cases r1;obtain⟨t,rfl⟩:=qa;exact⟨SeqAt.RcAt.str_tuple x t p2 hu0,SeqAt.RcNeAt.str_tuple x t p2 hu0⟩
  | _=>cases f1
 | .tp es,.fl d,e=>
  cases e
  obtain⟨f1,r1⟩:=rb
  obtain⟨b,us,rfl,h3,h4⟩:=ra
  cases qa
  obtain⟨its2,rv2,p2,_⟩:=I.tuple h3
  cases d with
  | non=>cases r1;cases qb;exact⟨SeqAt.RcAt.tuple_none p2 hu0,SeqAt.RcNeAt.tuple_none p2 hu0⟩
  | bl x=>cases r1;cases qb;exact⟨SeqAt.RcAt.tuple_bool x p2 hu0,SeqAt.RcNeAt.tuple_bool x p2 hu0⟩
  | int x=>cases r1;obtain⟨t,rfl⟩:=qb;exact⟨SeqAt.RcAt.tuple_int x t p2 hu0,SeqAt.RcNeAt.tuple_int x t p2 hu0⟩
  | str x=>cases r1;obtain⟨t,rfl⟩:=qb;exact⟨SeqAt.RcAt.tuple_str x t p2 hu0,SeqAt.RcNeAt.tuple_str x t p2 hu0⟩
  | _=>cases f1
 | .fl d,.ls es,e=>
  cases e
  obtain⟨f1,r1⟩:=ra
  obtain⟨b,us,rfl,h3,h4⟩:=rb
  cases qb
  obtain⟨its2,rv2,p2,_⟩:=I.list (.inl h3)
  replace p2:=p2.isList
  cases d with
  | non=>cases r1;cases qa;exact⟨SeqAt.RcAt.none_list p2 hu0,SeqAt.RcNeAt.none_list p2 hu0⟩
  | bl x=>cases r1;cases qa;exact⟨SeqAt.RcAt.bool_list x p2 hu0,SeqAt.RcNeAt.bool_list x p2 hu0⟩
  | int x=>cases r1;obtain⟨t,rfl⟩:=qa;exact⟨SeqAt.RcAt.int_list x t p2 hu0,SeqAt.RcNeAt.int_list x t p2 hu0⟩
  | str x=>cases r1;obtain⟨t,rfl⟩:=qa;exact⟨SeqAt.RcAt.str_list x t p2 hu0,SeqAt.RcNeAt.str_list x t p2 hu0⟩
  | _=>cases f1
 | .ls es,.fl d,e=>
  cases e
  obtain⟨f1,r1⟩:=rb
  obtain⟨b,us,rfl,h3,h4⟩:=ra
  cases qa
  obtain⟨its2,rv2,p2,_⟩:=I.list (.inl h3)
  replace p2:=p2.isList
  cases d with
  | non=>cases r1;cases qb;exact⟨SeqAt.RcAt.list_none p2 hu0,SeqAt.RcNeAt.list_none p2 hu0⟩
  | bl x=>cases r1;cases qb;exact⟨SeqAt.RcAt.list_bool x p2 hu0,SeqAt.RcNeAt.list_bool x p2 hu0⟩
  | int x=>cases r1;obtain⟨t,rfl⟩:=qb;exact⟨SeqAt.RcAt.list_int x t p2 hu0,SeqAt.RcNeAt.list_int x t p2 hu0⟩
  | str x=>cases r1;obtain⟨t,rfl⟩:=qb;exact⟨SeqAt.RcAt.list_str x t p2 hu0,SeqAt.RcNeAt.list_str x t p2 hu0⟩
  | _=>cases f1
 | .tp ds,.ls es,e=>
  cases e
  obtain⟨a,vs,rfl,h1,h2⟩:=ra
  obtain⟨b,us,rfl,h3,h4⟩:=rb
  cases qa;cases qb
  obtain⟨its,rv,p1,_⟩:=I.tuple h1
  obtain⟨its2,rv2,p2,_⟩:=I.list (.inl h3)
  exact⟨SeqAt.RcAt.tuple_list p1 p2.isList hu0,SeqAt.RcNeAt.tuple_list p1 p2.isList hu0⟩
 | .ls ds,.tp es,e=>
  cases e
  obtain⟨a,vs,rfl,h1,h2⟩:=ra
  obtain⟨b,us,rfl,h3,h4⟩:=rb
  cases qa;cases qb
  obtain⟨its,rv,p1,_⟩:=I.list (.inl h1)
  obtain⟨its2,rv2,p2,_⟩:=I.tuple h3
  exact⟨SeqAt.RcAt.list_tuple p1.isList p2 hu0,SeqAt.RcNeAt.list_tuple p1.isList p2 hu0⟩
theorem cp {k:Nat} (hr:cZ k X.A) (hK:X.K=K:=by rfl):OpD K X (compareOp .Eq) dEq:=by
 subst hK
 refine⟨λst x y d h=>?_⟩
 simp only [dEq,Option.bind_eq_some_iff,Option.map_eq_some_iff] at h
 obtain⟨a,ha,b,hb,r,e,rfl⟩:=h
 intro pins s σ H vx vy v u Q I rx ry q
 obtain⟨φ,S,r1,r2,q⟩:=q
 exact (uF hr I (ll S r1 ha) (ll S r2 hb) rx ry e).1 _ _ _ _ ⟨.bl r,H,I,rfl,q _ H (bJ.refl H) rfl⟩
theorem il {k:Nat} (hr:cZ k X.A) (hK:X.K=K:=by rfl):OpD K X (compareOp .NotEq) dNe:=by
 subst hK
 refine⟨λst x y d h=>?_⟩
 simp only [dNe,Option.bind_eq_some_iff,Option.map_eq_some_iff] at h
 obtain⟨a,ha,b,hb,r,e,rfl⟩:=h
 intro pins s σ H vx vy v u Q I rx ry q
 obtain⟨φ,S,r1,r2,q⟩:=q
 exact (uF hr I (ll S r1 ha) (ll S r2 hb) rx ry e).2 _ _ _ _ ⟨.bl (!r),H,I,rfl,q _ H (bJ.refl H) rfl⟩
end
end L2
namespace L2
open PySem PySem.Spec PyProof.Rows
section
variable {K:PySem.W.Frag}{X:Cx}
noncomputable def ky:List D->Option (List Int)
 | []=>some []
 | .int i::ds=>(ky ds).map λr=>i::r
 | _=>none
theorem kE:∀ {ds:List D}{ns:List Int},ky ds=some ns->ds=ns.map D.int
 | [],_,h=>by cases h;rfl
 | .int i::ds,_,h=>by
  obtain⟨r,e,rfl⟩:=Option.map_eq_some_iff.mp h
  rw [kE e];rfl
 | .non::_,_,h=>by cases h
 | .bl _::_,_,h=>by cases h
 | .str _::_,_,h=>by cases h
 | .ty _::_,_,h=>by cases h
 | .dct::_,_,h=>by cases h
 | .scr _::_,_,h=>by cases h
 | .tup _::_,_,h=>by cases h
 | .lst _::_,_,h=>by cases h
theorem lE:∀ (ns:List Int),ky (ns.map D.int)=some ns
 | []=>rfl
 | n::ns=>by rw [List.map_cons,ky,lE ns];rfl
noncomputable def jh:List D->Option (List Bool)
 | []=>some []
 | .bl i::ds=>(jh ds).map λr=>i::r
 | _=>none
theorem kJ:∀ {ds:List D}{ns:List Bool},jh ds=some ns->ds=ns.map D.bl
 | [],_,h=>by cases h;rfl
 | .bl i::ds,_,h=>by
  obtain⟨r,e,rfl⟩:=Option.map_eq_some_iff.mp h
  rw [kJ e];rfl
 | .non::_,_,h=>by cases h
 | .int _::_,_,h=>by cases h
 | .str _::_,_,h=>by cases h
 | .ty _::_,_,h=>by cases h
 | .dct::_,_,h=>by cases h
 | .scr _::_,_,h=>by cases h
 | .tup _::_,_,h=>by cases h
 | .lst _::_,_,h=>by cases h
noncomputable def du (st:Sto):List W->Option D
 | [.d (.str x)]=>if x.length<=1000000 then some (.int x.length) else none
 | [w]=>(cB st w).map λds=>.int ds.length
 | _=>none
noncomputable def uW (_:Sto):List W->Option D
 | [.d (.int i)]=>some (.int (if i < 0 then -i else i))
 | _=>none
noncomputable def yJ (_:Sto):List W->Option D
 | [.d (.int i),.d (.int j)]=>some (.int (if j < i then j else i))
 | _=>none
noncomputable def ud (_:Sto):List W->Option D
 | [.d (.int i)]=>some (.int i)
 | [.d (.bl k)]=>some (.int (if k then 1 else 0))
 | _=>none
noncomputable def v8 (_:Sto):List W->Option D
 | [.d (.lst ds)]=>(ky ds).map λns=>.int ns.sum
 | _=>none
noncomputable def rT (_:Sto):List W->Option D
 | [.d (.lst ds)]=>(jh ds).map λns=>.bl (ns.all id)
 | _=>none
noncomputable def oI (st:Sto):List W->Option D
 | [w]=>(cB st w).map λds=>.tup ds
 | _=>none
noncomputable def gK (st:Sto):W->Option String
 | .d .non=>some "NoneType"
 | .d (.bl _)=>some "bool"
 | .d (.int _)=>some "int"
 | .d (.str _)=>some "str"
 | .d (.tup _)=>some "tuple"
 | .d (.lst _)=>some "list"
 | .d .dct=>some "dict"
 | .h n=>(lg st n).map λ_=>"list"
 | _=>none
noncomputable def qc (t c:String):Option Bool:=
 if c = "int" then some (t=="int" || t=="bool")
 else if c = "bool"\/c = "str"\/c = "tuple"\/c = "list" then some (t==c)
 else none
noncomputable def gP (st:Sto):List W->Option D
 | [w,.d (.ty c)]=>(gK st w).bind λt=>(qc t c).map λb=>.bl b
 | _=>none
theorem ft (hK:X.K=K:=by rfl):gl K X (.builtin "len") du:=by
 subst hK
 refine⟨λst ws d h=>?_⟩
 have seq:∀ w,(cB st w).map (λds=>D.int ds.length)=some d->dJ X (.builtin "len") (rCD X.K st [w] d):=λw h=>by
  obtain⟨ds,e,rfl⟩:=Option.map_eq_some_iff.mp h
  refine oa.imp ?_
  rintro vs H Q ⟨φ,S,⟨v,r,rfl,r1,rfl⟩,q⟩
  obtain⟨a,us,rfl,h1,h2⟩:=jB S r1 e
  exact⟨a,us,rfl,h1,q _ H (bJ.refl H) (by rw [<-h2.length];rfl)⟩
 cases ws with
 | nil=>cases h
 | cons w tl=>
  cases tl with
  | cons _ _=>
   cases w with
   | h n=>cases h
   | d x=>cases x<;>cases h
  | nil=>
   cases w with
   | h n=>exact seq _ h
   | d x=>
    cases x with
    | str x=>
     simp only [du] at h
     split at h
     ·rename_i hl
      cases h
      refine nw.imp ?_
      rintro vs H Q ⟨φ,S,⟨v,r,rfl,r1,rfl⟩,q⟩
      exact⟨x,by rw [show v=.str x from r1],Nat.le_trans hl mil,q _ H (bJ.refl H) rfl⟩
     ·cases h
    | tup ds=>exact seq _ h
    | lst ds=>exact seq _ h
    | scr ds=>exact seq _ h
    | _=>cases h
theorem uy:gl K X (.builtin "abs") uW:=by
 refine⟨λst ws d h=>?_⟩
 match ws,h with
 | [.d (.int i)],h=>
  cases h
  refine tR.imp ?_
  rintro vs H Q ⟨φ,S,⟨v,r,rfl,r1,rfl⟩,q⟩
  exact⟨i,by rw [show v=.int i from r1],q _ H (bJ.refl H) rfl⟩
theorem xH (hc:X.calm=true:=by rfl):gl K X (.builtin "min") yJ:=by
 refine⟨λst ws d h=>?_⟩
 match ws,h with
 | [.d (.int i),.d (.int j)],h=>
  cases h
  refine (rN hc).imp ?_
  rintro vs H Q ⟨φ,S,⟨v,r,rfl,r1,u,r',rfl,r2,rfl⟩,q⟩
  exact⟨i,j,by rw [show v=.int i from r1,show u=.int j from r2],q _ H (bJ.refl H) rfl⟩
theorem tD:gl K X (.type "int") ud:=by
 refine⟨λst ws d h=>?_⟩
 match ws,h with
 | [.d (.int i)],h=>
  cases h
  refine mL.imp ?_
  rintro vs H Q ⟨φ,S,⟨v,r,rfl,r1,rfl⟩,q⟩
  exact .inl ⟨i,by rw [show v=.int i from r1],q _ H (bJ.refl H) rfl⟩
 | [.d (.bl i)],h=>
  cases h
  refine mL.imp ?_
  rintro vs H Q ⟨φ,S,⟨v,r,rfl,r1,rfl⟩,q⟩
  exact .inr ⟨i,by rw [show v=.bl i from r1],q _ H (bJ.refl H) rfl⟩
theorem yF (hc:X.calm=true:=by rfl) (hK:X.K=K:=by rfl):gl K X (.builtin "sum") v8:=by
 subst hK
 refine⟨λst ws d h=>?_⟩
 match ws,h with
 | [.d (.lst ds)],h=>
  obtain⟨ns,e,rfl⟩:=Option.map_eq_some_iff.mp h
  cases kE e
  refine (yM (K:=X.K) hc rfl).imp ?_
  rintro vs H Q ⟨φ,S,⟨v,r,rfl,⟨a,us,rfl,h0,h1,h2⟩,rfl⟩,q⟩
  cases h2.ints
  exact⟨a,ns,rfl,.inl h1,q _ H (bJ.refl H) rfl⟩
theorem qk (hc:X.calm=true:=by rfl) (hK:X.K=K:=by rfl):gl K X (.builtin "all") rT:=by
 subst hK
 refine⟨λst ws d h=>?_⟩
 match ws,h with
 | [.d (.lst ds)],h=>
  obtain⟨ns,e,rfl⟩:=Option.map_eq_some_iff.mp h
  cases kJ e
  refine (zf (K:=X.K) hc rfl).imp ?_
  rintro vs H Q ⟨φ,S,⟨v,r,rfl,⟨a,us,rfl,h0,h1,h2⟩,rfl⟩,q⟩
  cases h2.bools
  exact⟨a,ns,rfl,.inl h1,q _ H (bJ.refl H) rfl⟩
theorem pU (hK:X.K=K:=by rfl):gl K X (.type "tuple") oI:=by
 subst hK
 refine⟨λst ws d h=>?_⟩
 match ws,h with
 | [w],h=>
  obtain⟨ds,e,rfl⟩:=Option.map_eq_some_iff.mp h
  refine my.imp ?_
  rintro vs H Q ⟨φ,S,⟨v,r,rfl,r1,rfl⟩,q⟩
  obtain⟨a,us,rfl,h1,h2⟩:=pv S r1 e
  refine⟨a,us,rfl,?_⟩
  rcases h1 with h1 | h1
  ·exact .inl ⟨h1,λl hl=>q _ _ (bJ.new hl _) ⟨l,us,rfl,bG,h2.fw S (Fw.new hl)⟩⟩
  ·exact .inr ⟨SqT.of h1,q _ H (bJ.refl H) ⟨a,us,rfl,h1,h2⟩⟩
theorem gL {t c:String}{b:Bool} (ht:t = "NoneType"\/t = "bool"\/t = "int"\/t = "str"\/t = "tuple"\/t = "list"\/t = "dict") (h:qc t c=some b):PySem.W.kitOne K (.type t) (.type c)=some b:=by
 unfold qc at h
 split at h
 ·rename_i hc
  subst hc
  rcases ht with rfl | rfl | rfl | rfl | rfl | rfl | rfl<;>(cases h;rfl)
 ·split at h
  ·rename_i _ hc
   rcases hc with rfl | rfl | rfl | rfl<;>rcases ht with rfl | rfl | rfl | rfl | rfl | rfl | rfl<;>(cases h;rfl)
  ·cases h
theorem iM (hK:X.K=K:=by rfl):gl K X (.builtin "isinstance") gP:=by
 subst hK
 refine⟨λst ws d h=>?_⟩
 match ws,h with
 | [w,.d (.ty c)],h=>
  simp only [gP,Option.bind_eq_some_iff,Option.map_eq_some_iff] at h
  obtain⟨t,ht,b,hb,rfl⟩:=h
  intro pins s σ H xs us Q I rv q
  obtain⟨φ,S,⟨v,r,rfl,r1,u,r',rfl,r2,rfl⟩,q⟩:=q
  cases (show u=.ty c from r2)
  obtain⟨vv,uu,rfl,rv1,rv2⟩:=rv.two
  cases rv2
  have fin:∀ tk,EP X pins σ Q (.bool b) { s with toks:=tk }:=λtk=>⟨.bl b,H,I.tok tk,rfl,q _ H (bJ.refl H) rfl⟩
  cases w with
  | h n=>
   obtain⟨a,ea,rfl⟩:=r1
   obtain⟨ds,eds,rfl⟩:=Option.map_eq_some_iff.mp ht
   obtain⟨vs,hv,_⟩:=S.atl n a ds ea eds
   exact dX I rv1 (.lst hv) (gL (by simp) hb) fin
  | d x=>
   cases x with
   | non=>cases ht;cases r1;exact dX I rv1 .non (gL (by simp) hb) fin
   | bl x=>cases ht;cases r1;exact dX I rv1 (.bl x) (gL (by simp) hb) fin
   | int x=>cases ht;cases r1;exact dX I rv1 (.int x) (gL (by simp) hb) fin
   | str x=>cases ht;cases r1;exact dX I rv1 (.str x) (gL (by simp) hb) fin
   | lst ds=>
    cases ht
    obtain⟨a,vs,rfl,h0,h1,h2⟩:=r1
    rcases h1 with h1 | ⟨o,h1⟩
    ·exact dX I rv1 (.lst h1) (gL (by simp) hb) fin
    ·exact dX I rv1 (.frz h1) (gL (by simp) hb) fin
   | tup ds=>
    cases ht
    obtain⟨a,vs,rfl,h1,h2⟩:=r1
    cases rv1
    obtain⟨its,_,p,_⟩:=I.tuple (SqT.of h1)
    obtain⟨o,e1,e2,_⟩:=p
    exact PySem.W.kia_one PySem.W.kitx_tuple I.kIn ⟨o,e1,e2⟩ (gL (by simp) hb) (λz=>nomatch z) fin
   | dct=>
    cases ht
    obtain⟨a,rfl,_,h1⟩:=r1
    rcases h1 with⟨d,h1⟩ | ⟨d,h1⟩
    ·exact dX I rv1 (.dK h1) (gL (by simp) hb) fin
    ·exact dX I rv1 (.dT h1) (gL (by simp) hb) fin
   | ty x=>cases ht
   | scr x=>cases ht
variable {e a b:Expr}{es:List Expr}{pos:Pos}{f fa fb:Ef}{af:Af}
theorem kK {x:Str}{c:String} (hg:Gl X x) (hm:X.mg x=none) (hv:bootBuiltins x=some (.type c)) (hn:x≠"__name__":=by decide) (hd:(x==("__debug__" : Str))=false:=by decide):IE K X (.Name x pos) (iC (.ty c)):=
 rK (v:=.ty c) (qR hg hm hv rfl hn hd) λ_ _=>rfl
theorem fW {x:Str}{d:D}{v:V}{u:Value} (hg:Gl X x) (hm:X.mg x=some u) (r:br v u) (h:∀ H φ,Rl K H φ d v) (hd:(x==("__debug__" : Str))=false:=by decide):IE K X (.Name x pos) (iC d):=
 rK (iQ hg hm r hd) h
theorem zL:IE K X (.Dict [] [] pos) (iC .dct):=by
 refine⟨λenv st r hr=>?_⟩
 cases hr
 refine zH.imp ?_
 rintro σ H Q ⟨φ,hE,hS,q⟩
 exact λp hp=>q _ _ φ (Fw.new hp) (hS.new hp) ⟨p,rfl,hS.nin hp,.inr ⟨_,bG⟩⟩
noncomputable def iq (g:List D->List W->Option (D×List D)) (o:Ef) (a:Af):Ef
 | env,st=>(o env st).bind λx=>(a env x.2).bind λr=>match x.1 with
 | .h n=>(lg x.2 n).bind λ_=>(lg r.2 n).bind λds=>(g ds r.1).map λy=>(.d y.1,r.2.set n (.l y.2))
 | _=>none
noncomputable def d9 (ds:List D):List W->Option (D×List D)
 | [.d x]=>if ds.length < 1000000 then some (.non,ds++[x]) else none
 | _=>none
theorem xG {name:Str}{id:String}{apos:Pos}{rr:V->List V->Hp->VK->Prop}{g:List D->List W->Option (D×List D)} (slot:Slot "list" name id) (hty:typeOf (.builtin id)=pure (.type "method_descriptor")) (hm:MtR X id rr)
  (hg:∀ (H:Hp) (φ:List Addr) (st:Sto) (n:Nat) (ad:Addr) (ds:List D) (vs:List V) (ws:List W) (us:List V) (y:D×List D) (Q:VK),Sr K H φ st->φ[n]?=some ad->lg st n=some ds->H ad=some (.lst vs)->Rls K H φ ds vs->Rws K H φ ws us->g ds ws=some y->
    (∀ v vs',Rl K H φ y.1 v->Rls K H φ y.2 vs'->(∀ b,v≠.ref b)->Q v (upd H ad (.lst vs')))->rr (.ref ad) us H Q)
  (hfl:∀ ds ws y,g ds ws=some y->di y.1=true)
  (ho:IE K X a fa) (ha:IA K X (e::es) af) (hbase:attributeBase a name X.env (eval a X.env)=eval a X.env:=by rfl)
  (hall:(e::es).all bh=true:=by rfl) (hfl30:(e::es).length < 30:=by decide) (hline:(apos.endLine==pos.line)=true:=by rfl) (hK:X.K=K:=by rfl) :
  IE K X (.Call (.Attribute a name apos) (e::es) [] pos) (iq g fa af):=by
 subst hK
 have hall2:bh e=true/\es.all bh=true:=by rw [List.all_cons,Bool.and_eq_true] at hall;exact hall
 refine⟨λenv st r hr=>?_⟩
 simp only [iq,Option.bind_eq_some_iff] at hr
 obtain⟨⟨x,s1⟩,hx,⟨ws,s2⟩,hw,hr⟩:=hr
 cases x with
 | d x=>cases hr
 | h n=>
  simp only [Option.bind_eq_some_iff,Option.map_eq_some_iff] at hr
  obtain⟨ds1,hds1,ds,hds,y,hy,rfl⟩:=hr
  refine (tU PySem.F.plainAttrs_list slot hty hm (ho.run _ _ _ hx) (ha.run _ _ _ hw) hbase (lS hall hfl30) hline (cu hall2.1) (dI hall2.2)).imp ?_
  rintro σ H Q ⟨φ,hE,hS,q⟩
  refine⟨φ,hE,hS,λv H1 φ1 f1 S1 w1=>?_⟩
  obtain⟨ad,ea,rfl⟩:=w1
  obtain⟨vs1,hv1,_⟩:=S1.atl n ad _ ea hds1
  refine⟨.inl ⟨rfl,vs1,SqL.of hv1⟩,φ1,hE.fw hS f1,S1,λus H2 φ2 f2 S2 w2=>?_⟩
  have ea2:=f2.get ea
  obtain⟨vs2,hv2,rl2⟩:=S2.atl n ad ds ea2 hds
  refine hg H2 φ2 s2 n ad ds vs2 ws us y _ S2 ea2 hds hv2 rl2 w2 hy λv vs' r1 r2 hb=>?_
  obtain⟨f3,S3⟩:=S2.put ea2 r2
  exact q v _ φ2 ((f1.trans f2).trans f3) S3 (r1.fw S2 f3)
theorem gQ {apos:Pos} (ho:IE K X a fa) (ha:IA K X (e::es) af) (hbase:attributeBase a "append" X.env (eval a X.env)=eval a X.env:=by rfl)
  (hall:(e::es).all bh=true:=by rfl) (hfl30:(e::es).length < 30:=by decide) (hline:(apos.endLine==pos.line)=true:=by rfl) (hK:X.K=K:=by rfl) :
  IE K X (.Call (.Attribute a "append" apos) (e::es) [] pos) (iq d9 fa af):=by
 refine xG PySem.F.slot_list_append PySem.F.type_list_append sH (λH φ st n ad ds vs ws us y Q S ea eds hv rl rw hy q=>?_) (λds ws y h=>?_) ho ha hbase hall hfl30 hline hK
 ·match ws,hy with
  | [.d x],hy=>
   simp only [d9] at hy
   split at hy
   ·rename_i hl
    cases hy
    obtain⟨v,r,rfl,r1,rfl⟩:=rw
    exact⟨ad,vs,v,rfl,rfl,hv,by rw [<-rl.length];exact Nat.lt_of_lt_of_le hl mil,q _ _ rfl (rl.append ⟨v,[],rfl,r1,rfl⟩) (λb z=>nomatch z)⟩
   ·cases hy
 ·match ws,h with
  | [.d x],h=>
   simp only [d9] at h
   split at h
   ·cases h;rfl
   ·cases h
end
end L2
namespace L2
open PySem PySem.Spec PyProof.Rows
section
variable {K:PySem.W.Frag}{X:Cx}{e a b:Expr}{es:List Expr}{pos:Pos}{f fa fb:Ef}{af:Af}
theorem og {i j:Nat}{x y:Str}{px py pt:Pos}{kt k2 pt2}
  (h:∀ ta,PA X [a,b] ta->PS X (.Assign [.Tuple [.Name x px,.Name y py] kt pt] (.Tuple [a,b] k2 pt2) pos) (zG i j ta)) (ha:IA K X [a,b] af) :
  IS K X (.Assign [.Tuple [.Name x px,.Name y py] kt pt] (.Tuple [a,b] k2 pt2) pos) (lK i j af):=by
 refine⟨λenv st r hr=>?_⟩
 simp only [lK,Option.bind_eq_some_iff] at hr
 obtain⟨⟨ws,s1⟩,hy,hr⟩:=hr
 match ws,hr with
 | [x,y],hr=>
  cases hr
  refine (h _ (ha.run _ _ _ hy)).imp ?_
  rintro D σ H ⟨φ,hE,hS,q⟩
  refine⟨φ,hE,hS,λvs H1 φ1 f1 s1 w1=>?_⟩
  obtain⟨v,r,rfl,r1,u,r',rfl,r2,r3⟩:=w1
  cases r3
  exact⟨v,u,rfl,q _ H1 φ1 f1 (((hE.fw hS f1).set i r1).set j r2) s1⟩
theorem vJ {H:Hp}{ad:Addr}{ns:List Int}{m:Fn} (hO:wo H) (hS:SqL K H ad (ns.map V.int)) (h:∃ st,m [.d (.scr ns)] []=some (.d (.bl true),st)):spI K m [.ref ad] H (λv _=>v=.bl true) λ_ _ _=>False:=by
 obtain⟨st,h⟩:=h
 refine⟨[],[],[.d (.scr ns)],_,h,⟨_,[],rfl,⟨ad,rfl,?_⟩,rfl⟩,⟨List.nodup_nil,rfl,λn a ds e=>by simp at e⟩,λv H' φ' _ _ r=>r⟩
 rcases hS with (h | h) | h
 ·rcases hO ad with z | ⟨o,xs,z⟩
  ·rw [h] at z;cases z
  ·rw [h] at z;cases z
 ·exact .inl h
 ·exact .inr h
end
end L2
namespace L2
open PySem
theorem iJ {g:Tg}{body:Sf}:∀ {ds:List D} (Pv:Nat->Ev->Sto->Prop) {env:Ev}{st:Sto},Pv 0 env st->
  (∀ i d env st,ds[i]?=some d->Pv i env st->∃ e1 e2 s2,dA g (.d d) env=some e1/\(body e1 st=some (.nx e2 s2)\/body e1 st=some (.ct e2 s2))/\Pv (i+1) e2 s2)->
  ∃ env' st',fS g body ds env st=some (.nx env' st')/\Pv ds.length env' st'
 | [],Pv,env,st,h0,_=>⟨env,st,rfl,h0⟩
 | d::ds,Pv,env,st,h0,hs=>by
  obtain⟨e1,e2,s2,h1,h2,h3⟩:=hs 0 d env st rfl h0
  obtain⟨e',s',h4,h5⟩:=iJ (g:=g) (body:=body) (ds:=ds) (λi=>Pv (i+1)) h3 λi d' env' st' hd p=>hs (i+1) d' env' st' (by simpa using hd) p
  refine⟨e',s',?_,h5⟩
  unfold fS
  rw [h1,Option.bind_some]
  rcases h2 with h2 | h2<;>(rw [h2,Option.bind_some];exact h4)
theorem ln {g:Tg}{tt:Tf}{te:Ef}{env:Ev}:∀ {ds:List D} (Pv:Nat->List D->Sto->Prop) {st:Sto}{ys0:List D},Pv 0 ys0 st->
  (∀ i d ys st,ds[i]?=some d->Pv i ys st->∃ e1,dA g (.d d) env=some e1/\((∃ s1 x s2,tt e1 st=some (true,s1)/\te e1 s1=some (.d x,s2)/\Pv (i+1) (ys++[x]) s2)\/∃ s1,tt e1 st=some (false,s1)/\Pv (i+1) ys s1))->
  ∃ ys st',lcI g tt te env ds st=some (ys,st')/\Pv ds.length (ys0++ys) st'
 | [],Pv,st,ys0,h0,_=>⟨[],st,rfl,by rw [List.append_nil];exact h0⟩
 | d::ds,Pv,st,ys0,h0,hs=>by
  obtain⟨e1,h1,h2⟩:=hs 0 d ys0 st rfl h0
  rcases h2 with⟨s1,x,s2,h2,h3,h4⟩ | ⟨s1,h2,h4⟩
  ·obtain⟨ys,s',h5,h6⟩:=ln (g:=g) (tt:=tt) (te:=te) (env:=env) (ds:=ds) (λi=>Pv (i+1)) h4 λi d' ys' st' hd p=>hs (i+1) d' ys' st' (by simpa using hd) p
   refine⟨x::ys,s',?_,by simpa using h6⟩
   unfold lcI
   rw [h1,Option.bind_some,h2,Option.bind_some,if_pos rfl,h3,Option.bind_some,h5]
   rfl
  ·obtain⟨ys,s',h5,h6⟩:=ln (g:=g) (tt:=tt) (te:=te) (env:=env) (ds:=ds) (λi=>Pv (i+1)) h4 λi d' ys' st' hd p=>hs (i+1) d' ys' st' (by simpa using hd) p
   refine⟨ys,s',?_,by simpa using h6⟩
   unfold lcI
   rw [h1,Option.bind_some,h2,Option.bind_some,if_neg Bool.false_ne_true,h5]
theorem o8 {g:Tg}{tt:Tf}{te:Ef}{env:Ev}{st:Sto} (p:D->Bool) (F:D->D):∀ {ds:List D},(∀ d ∈ ds,∃ e1,dA g (.d d) env=some e1/\tt e1 st=some (p d,st)/\(p d=true->te e1 st=some (.d (F d),st)))->
  lcI g tt te env ds st=some ((ds.filter p).map F,st)
 | [],_=>rfl
 | d::ds,h=>by
  obtain⟨e1,h1,h2,h3⟩:=h d List.mem_cons_self
  have ih:=o8 (g:=g) (tt:=tt) (te:=te) (env:=env) (st:=st) p F (ds:=ds) λx hx=>h x (List.mem_cons_of_mem _ hx)
  unfold lcI
  rw [h1,Option.bind_some,h2,Option.bind_some]
  cases hp:p d with
  | true=>rw [if_pos rfl,h3 hp,Option.bind_some,ih,List.filter_cons,hp];rfl
  | false=>rw [if_neg Bool.false_ne_true,ih,List.filter_cons,hp];rfl
theorem rn {g:Tg}{te:Ef}{env:Ev}{st:Sto} (F:D->D) {ds:List D} (h:∀ d ∈ ds,∃ e1,dA g (.d d) env=some e1/\te e1 st=some (.d (F d),st)):lcI g fj te env ds st=some (ds.map F,st):=by
 have:=o8 (g:=g) (tt:=fj) (te:=te) (env:=env) (st:=st) (λ_=>true) F (ds:=ds) λd hd=>by
  obtain⟨e1,h1,h2⟩:=h d hd
  exact⟨e1,h1,rfl,λ_=>h2⟩
 rw [this,List.filter_eq_self.mpr λ_ _=>rfl]
noncomputable def cC (st:Sto) (n:Nat):Prop:=∃ x y z:Int,0<=x/\st[n]?=some (.l [.int x,.int y,.int z])
noncomputable def Stp (n:Nat) (st st':Sto):Prop:=(∃ v,st'=st.set n v)/\cC st' n
theorem cC.lt {st:Sto}{n:Nat} (h:cC st n):n < st.length:=by
 obtain⟨x,y,z,_,e⟩:=h
 exact (List.getElem?_eq_some_iff.mp e).1
theorem Stp.refl {st:Sto}{n:Nat} (h:cC st n):Stp n st st:=by
 obtain⟨x,y,z,h0,e⟩:=id h
 exact⟨⟨_,(List.set_getElem_self (h.lt)).symm⟩,h⟩
theorem Stp.trans {n:Nat}{a b c:Sto} (h:Stp n a b) (h':Stp n b c):Stp n a c:=by
 obtain⟨⟨v,rfl⟩,_⟩:=h
 obtain⟨⟨u,rfl⟩,q⟩:=h'
 exact⟨⟨u,by rw [List.set_set]⟩,q⟩
theorem Stp.hand {n:Nat}{a b:Sto} (h:Stp n a b):cC b n:=h.2
theorem Stp.len {n:Nat}{a b:Sto} (h:Stp n a b):b.length=a.length:=by obtain⟨⟨v,rfl⟩,_⟩:=h;rw [List.length_set]
theorem Stp.get {n m:Nat}{a b:Sto} (h:Stp n a b) (hm:m≠n):b[m]?=a[m]?:=by obtain⟨⟨v,rfl⟩,_⟩:=h;rw [List.getElem?_set_ne (Ne.symm hm)]
theorem nu {a b:Int} (h:-(2 ^ 64) < a/\a < 2 ^ 64):PySem.IntMulOk a b:=wZ.ok (.inl h)
theorem nl {a b:Int} (h:-(2 ^ 64) < b/\b < 2 ^ 64):PySem.IntMulOk a b:=wZ.ok (.inr h)
theorem lq {st:Sto}{n:Nat}{v:C} (h:n < st.length):(st.set n v)[n]?=some v:=List.getElem?_set_self h
theorem gZ {α:Type} (a:α) (l:List α):atI (a::l) 0=some a:=iT (j:=0) rfl
theorem oZ {α:Type} (a b:α) (l:List α):atI (a::b::l) 1=some b:=iT (j:=1) rfl
theorem Aa {α:Type} (a b c:α) (l:List α):atI (a::b::c::l) 2=some c:=iT (j:=2) rfl
theorem mE (n:Nat):ixN (n+1) 0=some 0:=nG (j:=0) (by lia)
theorem AI (n:Nat):ixN (n+2) 1=some 1:=nG (j:=1) (by lia)
theorem AL (n:Nat):ixN (n+3) 2=some 2:=nG (j:=2) (by lia)
end L2
namespace L2
open PySem
theorem pP:qc "int" "int" = some true:=rfl
theorem nP:qc "int" "bool" = some false:=rfl
theorem dE:qc "str" "str" = some true:=rfl
theorem cb:qc "tuple" "tuple" = some true:=rfl
theorem cC.app {st:Sto}{n:Nat} (h:cC st n) (u:Sto):cC (st++u) n:=by
 obtain⟨x,y,z,h0,e⟩:=id h
 exact⟨x,y,z,h0,by rw [List.getElem?_append_left h.lt];exact e⟩
theorem Stp.unapp {n:Nat}{a s:Sto}{u:Sto} (hn:n < a.length) (h:Stp n (a++u) s):∃ b,s=b++u/\Stp n a b:=by
 obtain⟨⟨v,rfl⟩,x,y,z,h0,e⟩:=h
 rw [List.set_append_left _ _ hn] at e ⊢
 exact⟨_,rfl,⟨v,rfl⟩,x,y,z,h0,by rw [List.getElem?_append_left (by rw [List.length_set];exact hn)] at e;exact e⟩
theorem wX {n i:Nat}{d:D} (h:(gO 0 n)[i]?=some d):d=.int (i:Int)/\i < n:=by
 rw [jM] at h
 by_cases hi:i < n
 ·rw [if_pos hi] at h
  cases h
  exact⟨by rw [Int.zero_add],hi⟩
 ·rw [if_neg hi] at h;cases h
end L2
namespace L2
open PySem PySem.Spec PyProof.Rows
section
variable {prog:Program}{w:World}{A:Around}{E:Value->Shared->Prop}{s:Shared}{κ:SortKind}{O:KeyOrd}{rk:Keyed->O.α}{S:Keyed->Prop}
variable {a0:Array Keyed}{lo:Nat}{p0:Array (Nat×Nat×Nat)}{g0:Nat}{st:SortSt}
end
end L2
namespace L2
open PySem PySem.Spec PyProof.Rows
section
variable {prog:Program}{w:World}{A:Around}{E:Value->Shared->Prop}{s:Shared}{κ:SortKind}{O:KeyOrd}{rk:Keyed->O.α}{S:Keyed->Prop}
variable {a0:Array Keyed}{lo:Nat}{p0:Array (Nat×Nat×Nat)}{g0:Nat}{st:SortSt}
end
end L2
namespace L2
open PySem PySem.Spec PyProof.Rows
section
variable {prog:Program}{w:World}{A:Around}{E:Value->Shared->Prop}{s:Shared}{κ:SortKind}{O:KeyOrd}{rk:Keyed->O.α}{S:Keyed->Prop}
variable {a0:Array Keyed}{lo:Nat}{p0:Array (Nat×Nat×Nat)}{g0:Nat}{st:SortSt}
end
end L2
namespace L2
open PySem PySem.Spec PyProof.Rows
section
variable {O:KeyOrd}{rk:Keyed->O.α}
variable {a b out:Array Keyed}{ia ib:Nat}
variable {na nb:Nat}
end
end L2
namespace L2
open PySem PySem.Spec PyProof.Rows
section
variable {prog:Program}{w:World}{A:Around}{E:Value->Shared->Prop}{s:Shared}{κ:SortKind}{O:KeyOrd}{rk:Keyed->O.α}{S:Keyed->Prop}{st:SortSt}{a b:Array Keyed}
end
end L2
namespace L2
open PySem PySem.Spec PyProof.Rows
section
variable {prog:Program}{w:World}{A:Around}{E:Value->Shared->Prop}{s:Shared}{κ:SortKind}{O:KeyOrd}{rk:Keyed->O.α}{S:Keyed->Prop}{st:SortSt}{a b out:Array Keyed}{na nb:Nat}
end
end L2
namespace L2
open PySem PySem.Spec PyProof.Rows
section
variable {prog:Program}{w:World}{A:Around}{E:Value->Shared->Prop}{s:Shared}{κ:SortKind}{O:KeyOrd}{rk:Keyed->O.α}{S:Keyed->Prop}{st:SortSt}{arr:Array Keyed}{n1 n2:Nat}
end
end L2
namespace L2
open PySem PySem.Spec PyProof.Rows
section
variable {prog:Program}{w:World}{A:Around}{E:Value->Shared->Prop}{s:Shared}{κ:SortKind}{O:KeyOrd}{rk:Keyed->O.α}{S:Keyed->Prop}{st:SortSt}{a0:Array Keyed}
end
end L2
namespace L2
open PySem PySem.Spec PyProof.Rows PySem.SeqAt
open MeetsSeq MeetsSeq2 MeetsSeq3 SeqRoads2
open AutoSeq1 (wpAny_loadPart')
section
variable {A:Around}{s:Shared}{p q:Addr}{us vs:Array Value}{e l:Nat->Bool}
end
end L2
namespace L2
open PySem PySem.Spec PyProof.Rows PySem.SeqAt PySem.W
section
variable {prog:Program}{w:World}{A:Around}{E:Value->Shared->Prop}{s:Shared}{x y:Value}{l m:List Int}
end
end L2
namespace L2
open PySem PySem.Spec PyProof.Rows PySem.SeqAt PySem.W
section
variable {prog:Program}{w:World}{A:Around}{E:Value->Shared->Prop}{s:Shared}{O:KeyOrd}{rk:Keyed->O.α}{S:Keyed->Prop}{vs:List Value}
end
end L2
namespace L2
open PySem PySem.Spec PyProof.Rows PySem.SeqAt PySem.W
section
variable {prog:Program}{w:World}{A:Around}{E:Value->Shared->Prop}{s:Shared}
end
end L2
namespace L2
open PySem PySem.Spec PyProof.Rows PySem.SeqAt PySem.W
section
variable {K:PySem.W.Frag}{X:Cx}{pins:List (Addr×Obj)}{σ:St}{H:Hp}{s:Shared}{φ:List Addr}
end
end L2
namespace L2
open PySem PySem.Spec PyProof.Rows
open PySem.AutoSeq1 (wpAny_loadPart')
section
variable {prog:Program}{w:World}{A:Around}{E:Value->Shared->Prop}{s:Shared}{k k2:Bool}
variable {z TI TO i1 i2 l1 l2:Addr}{n:Nat}{xs ys:Array Value}{a b:Value}
end
end L2
namespace L2
open PySem PySem.Spec PyProof.Rows
open PySem.AutoSeq1 (wpAny_loadPart')
section
variable {prog:Program}{w:World}{A:Around}{E:Value->Shared->Prop}{s:Shared}{k k2:Bool}
end
section
variable {K:PySem.W.Frag}{X:Cx}{a b:Expr}{pos:Pos}{af:Af}
end
end L2
namespace L2
open PySem PySem.Spec PyProof.Rows
section
variable {prog:Program}{w:World}{A:Around}{s:Shared}{I l S:Addr}{items:Array Value}{ns:List Int}{kw:List (Str×Value)}{R:Result->Shared->Prop}
variable {E:Value->Shared->Prop}
end
end L2
namespace L2
open PySem PySem.Spec PyProof.Rows
section
variable {K:PySem.W.Frag}{X:Cx}{e a b:Expr}{es:List Expr}{pos:Pos}{f fa fb:Ef}{af:Af}
end
end L2
namespace L2
open PySem PySem.Spec PyProof.Rows
section
variable {K:PySem.W.Frag}{X:Cx}
end
end L2
namespace L2
open PySem PySem.Spec PyProof.Rows
section
variable {K:PySem.W.Frag}{X:Cx}{pos:Pos}{a b:Expr}{af:Af}
end
end L2
namespace L2
open PySem PySem.Spec PyProof.Rows
section
variable {K:PySem.W.Frag}{X:Cx}{pos:Pos}{e a b c:Expr}{es:List Expr}{f fa fb:Ef}{af:Af}
end
end L2
namespace L2
open PySem PySem.Spec PyProof.Rows
open Classical in
noncomputable def lcH (n:Nat) (all:List D) (g:Tg) (tt:Tf) (te:Ef) (env:Ev):List D->Sto->Option (List D×Sto)
 | [],st=>if lg st n=some all then some ([],st) else none
 | d::ds,st=>if lg st n=some all then ((dA g (.d d) env).bind λe=>(tt e st).bind λb=>if b.1=true then (te e b.2).bind λx=>(d2 [x.1]).bind λys=>(lcH n all g tt te env ds x.2).map λr=>(ys++r.1,r.2)
   else lcH n all g tt te env ds b.2) else none
section
variable {K:PySem.W.Frag}{X:Cx}{pos:Pos}{tg:Expr}
end
end L2
namespace L2
open PySem PySem.Spec PyProof.Rows
noncomputable def rO (c:Nat):Str:=⟨#[c]⟩
noncomputable def sj (x:Str):List D:=x.cps.toList.map λc=>D.str (rO c)
section
variable {K:PySem.W.Frag}{X:Cx}{pos:Pos}{tg e:Expr}{f:Ef}
end
end L2
namespace L2
open PySem PySem.Spec PyProof.Rows
section
variable {K:PySem.W.Frag}{X:Cx}{pos:Pos}{a e:Expr}{fa:Ef}{af:Af}
noncomputable def jd:List D->Option (List Str)
 | []=>some []
 | .str x::ds=>(jd ds).map (x::·)
 | _::_=>none
noncomputable def hG (o:Ef) (a:Af):Ef
 | env,st=>(o env st).bind λx=>(a env x.2).bind λr=>match x.1,r.1 with
 | .d (.str s),[.d (.lst ds)]=>(jd ds).bind λxs=>if JoinOk s xs=true then some (.d (.str (PySem.Txt.join s xs)),r.2) else none
 | _,_=>none
theorem kL:∀ {ds:List D}{xs:List Str}{vs:List V}{φ:List Addr}{H:Hp},jd ds=some xs->Rls K H φ ds vs->vs=xs.map V.str
 | [],xs,vs,φ,H,h,r=>by
  cases h
  exact r
 | d::ds,xs,vs,φ,H,h,r=>by
  obtain⟨v,vr,rfl,r1,r2⟩:=r
  cases d with
  | str x=>
   obtain⟨ys,hy,rfl⟩:=Option.map_eq_some_iff.mp h
   have:=kL hy r2
   subst this
   have r1:v=.str x:=r1
   subst r1
   rfl
  | _=>cases h
theorem mR:∀ {xs:List Str}{its:List Value},bx (xs.map V.str) its->∃ l:List (Str×Tok),its=strValues l/\l.map (·.1)=xs
 | [],its,r=>by
  cases r
  exact⟨[],rfl,rfl⟩
 | x::xs,its,r=>by
  cases r with
  | cons r1 r2=>
   obtain⟨t,rfl⟩:=r1
   obtain⟨l,rfl,rfl⟩:=mR r2
   exact⟨(x,t)::l,rfl,rfl⟩
noncomputable def y9 (X:Cx):V->List V->Hp->VK->Prop:=λx xs H Q=>∃ s p ts,x=.str s/\xs=[.ref p]/\SqL X.K H p (ts.map V.str)/\JoinOk s ts=true/\Q (.str (PySem.Txt.join s ts)) H
theorem we:MtR X "str.join" (y9 X):=by
 intro pins s σ H x xs v us Q I rx rv h
 obtain⟨z,p,ts,rfl,rfl,hq,hj,q⟩:=h
 obtain⟨t,rfl⟩:=rx
 obtain⟨u,rfl,ru⟩:=rv.one
 cases ru
 obtain⟨its,r,pl,hz⟩:=I.list hq
 obtain⟨l,rfl,rfl⟩:=mR r
 exact SC.join pl.isList rfl hj λt' k=>⟨.str _,H,I.tok k,⟨_,rfl⟩,q⟩
theorem lj {apos:Pos} (ho:IE K X a fa) (ha:IA K X [e] af) (hbase:attributeBase a "join" X.env (eval a X.env)=eval a X.env:=by rfl)
  (hall:[e].all bh=true:=by rfl) (hline:(apos.endLine==pos.line)=true:=by rfl) (hK:X.K=K:=by rfl) :
  IE K X (.Call (.Attribute a "join" apos) [e] [] pos) (hG fa af):=by
 subst hK
 have hall2:bh e=true:=by rw [List.all_cons,Bool.and_eq_true] at hall;exact hall.1
 refine⟨λenv st r hr'=>?_⟩
 simp only [hG,Option.bind_eq_some_iff] at hr'
 obtain⟨⟨x,s1⟩,hx,⟨ws,s2⟩,hw,hr'⟩:=hr'
 match x,ws,hr' with
 | .d (.str z),[.d (.lst ds)],hr'=>
  simp only [Option.bind_eq_some_iff] at hr'
  obtain⟨ts,hts,hr'⟩:=hr'
  by_cases hj:JoinOk z ts=true
  case neg=>rw [if_neg hj] at hr';cases hr'
  rw [if_pos hj] at hr'
  cases hr'
  refine (tU PySem.F.plainAttrs_str PySem.F.slot_str_join PySem.F.type_str_join we (ho.run _ _ _ hx) (ha.run _ _ _ hw) hbase (lS hall (by show 1 < 30;decide)) hline (cu hall2) (dI rfl)).imp ?_
  rintro σ H Q ⟨φ,hE,hS,q⟩
  refine⟨φ,hE,hS,λv H1 φ1 f1 S1 w1=>?_⟩
  have w1:v=.str z:=w1
  subst w1
  refine⟨rfl,φ1,hE.fw hS f1,S1,λus H2 φ2 f2 S2 w2=>?_⟩
  obtain⟨y,us',rfl,ry,rfl⟩:=w2
  obtain⟨p,vs,rfl,h0,hq,hrl⟩:=ry
  have:=kL hts hrl
  subst this
  exact⟨z,p,ts,rfl,rfl,.inl hq,hj,q _ H2 φ2 (f1.trans f2) S2 rfl⟩
end
end L2
namespace L2
open PySem PySem.Spec PyProof.Rows
section
variable {κ:Type} [DecidableEq κ]
noncomputable def jc (kvs:List (κ×V)) (k:κ):Option V:=(kvs.find? λkv=>decide (kv.1=k)).map (·.2)
theorem oN {p:κ×V}{r:List (κ×V)}{k:κ} (e:p.1=k):jc (p::r) k=some p.2:=by simp [jc,List.find?_cons,e]
theorem oH {p:κ×V}{r:List (κ×V)}{k:κ} (e:¬ p.1=k):jc (p::r) k=jc r k:=by simp [jc,List.find?_cons,e]
theorem ma.isSome_eq {o:Option V}{u:Option Value} (r:ma o u):o.isSome=u.isSome:=by
 cases o with
 | none=>cases u with
  | none=>rfl
  | some _=>exact (show False from r).elim
 | some _=>cases u with
  | none=>exact (show False from r).elim
  | some _=>rfl
theorem KV.val {kvs:List (κ×V)}{vs:List (κ×Value)} (r:KV kvs vs) (k:κ):ma (jc kvs k) (valueAt vs k):=by
 unfold KV at r
 induction r with
 | nil=>exact True.intro
 | @cons p q ps qs h t ih=>
  obtain⟨h1,h2⟩:=h
  by_cases e:p.1=k
  ·have e':q.1=k:=h1.symm.trans e
   have b:valueAt (q::qs) k=some q.2:=by simp [valueAt,List.find?_cons,e']
   rw [oN e,b];exact h2
  ·have e':¬ q.1=k:=λz=>e (h1.trans z)
   have b:valueAt (q::qs) k=valueAt qs k:=by simp [valueAt,List.find?_cons,e']
   rw [oH e,b];exact ih
end
theorem uG {P:Program}{w:World}{k:Key}{u:Value} (r:br (kV k) u):(bN P w).is k u=true:=by
 cases k with
 | inl i=>obtain⟨t,e⟩:=(show ∃ t,u=Value.int i t from r);subst e;exact pF P w i t
 | inr x=>obtain⟨t,e⟩:=(show ∃ t,u=Value.str x t from r);subst e;exact bQ P w x t
theorem mU {P:Program}{w:World}:∀ {ks:List Key}{us:List Value},bx (ks.map kV) us->ItemsAre (bN P w) ks us
 | [],_,r=>by rw [List.map_nil] at r;cases r;exact .nil
 | k::ks,_,r=>by
  rw [List.map_cons] at r
  cases r with
  | cons h t=>exact .cons (uG h) (mU t)
abbrev KT (H:Hp):List (List Key×V)->List (List Key×Addr×Value)->Prop:=Paired λp q=>p.1=q.1/\H q.2.1=some (.tup (p.1.map kV))/\br p.2 q.2.2
theorem KT.val {H:Hp}{kvs:List (List Key×V)}{xs:List (List Key×Addr×Value)} (r:KT H kvs xs) (k:List Key):ma (jc kvs k) ((atKey xs k).map (·.2)):=by
 induction r with
 | nil=>exact True.intro
 | @cons p q ps qs h t ih=>
  obtain⟨h1,_,h2⟩:=h
  by_cases e:p.1=k
  ·have e':q.1=k:=h1.symm.trans e
   have b:atKey (q::qs) k=some q.2:=by simp [atKey,List.find?_cons,e']
   rw [oN e,b];exact h2
  ·have e':¬ q.1=k:=λz=>e (h1.trans z)
   have b:atKey (q::qs) k=atKey qs k:=by simp [atKey,List.find?_cons,e']
   rw [oH e,b];exact ih
section
variable {P:Program}{w:World}{H:Hp}{h:Heap}{a:Addr}
theorem xc {u:HO} (ok:HOk P w H h) (e:Rd H a u):cP P w H h a u:=e.ok ok
theorem tY {kvs:List (Key×V)} (ok:HOk P w H h) (e:Rd H a (.dK kvs)):kvs.length<=sizeLine/\(a==sysModules)=false/\∃ vs,KV kvs vs/\h.DictOf (bN P w) a vs:=
 show cP P w H h a (.dK kvs) from xc ok e
theorem qy {ks:List Key} (ok:HOk P w H h) (e:H a=some (.tup (ks.map kV))):(tupleKind (bN P w)).is h ks a:=by
 obtain⟨_,its,r,o,h1,h2,⟨n,h3⟩,_⟩:=(show cP P w H h a (.tup (ks.map kV)) from ok a _ e)
 exact⟨o,its.toArray,n,h1,h2,h3,by simpa using mU r⟩
theorem ue {kvs:List (List Key×V)} (ok:HOk P w H h) (e:Rd H a (.dT kvs)):kvs.length<=sizeLine/\(a==sysModules)=false/\
  ∃ xs,KT H kvs xs/\h.DictOfH (tupleKind (bN P w)) a xs:=by
 obtain⟨z,y,xs,r,o,es,ep,h1,h2,h3,h4,h5⟩:=(show cP P w H h a (.dT kvs) from xc ok e)
 refine⟨z,y,xs,r,o,es,ep,h1,h2,h3,h4,λx hx=>?_,h5⟩
 have all:∀ {l:List (List Key×V)}{m:List (List Key×Addr×Value)},KT H l m->∀ x ∈ m,(tupleKind (bN P w)).is h x.1 x.2.1:=by
  intro l m q
  induction q with
  | nil=>intro x hx;exact nomatch hx
  | @cons p q ps qs hq t ih=>
   intro x hx
   rcases List.mem_cons.mp hx with e | hx
   ·subst e
    exact qy ok (by rw [<-hq.1];exact hq.2.1)
   ·exact ih x hx
 exact all r x hx
end
noncomputable def lI (H:Hp) (a:Addr) (y:V) (r:Option V):Prop:=
 (∃ kvs k,Rd H a (.dK kvs)/\y=kV k/\r=jc kvs k)\/∃ kvs k b,Rd H a (.dT kvs)/\y=.ref b/\H b=some (.tup (k.map kV))/\r=jc kvs k
theorem lI.k {H:Hp}{a:Addr}{kvs:List (Key×V)}{k:Key} (e:H a=some (.dK kvs)):lI H a (kV k) (jc kvs k):=.inl ⟨kvs,k,.inl e,rfl,rfl⟩
section
variable {X:Cx}{pins:List (Addr×Obj)}{σ:St}{H:Hp}{s:Shared}{a:Addr}{y v:V}{u r:Value}{o:Option V}{A:Around}{E:Value->Shared->Prop}
theorem rM {Q:Value->Shared->Prop} (hu:A.units+1 < cLine) (I:Inv X pins σ H s) (g:lI H a y (some v)) (ry:br y u) (h:∀ w' s',Inv X pins σ H s'->br v w'->Q w' s') :
  wpAny (model X.prog X.w) A (getItem (.ref a) u) Q E s:=by
 rcases g with⟨kvs,k,e,ey,l⟩ | ⟨kvs,k,b,e,ey,eb,l⟩
 ·subst ey
  obtain⟨z,hd,vs,rel,dd⟩:=tY I.hok e
  obtain⟨w',hw,rw'⟩:=ma.some_of (v:=v) (o:=valueAt vs k) (by rw [l];exact rel.val k)
  exact wpAny_getItem_of (uG ry) dd.mapOf hw (h w' _ (I.tok _) rw')
 ·subst ey
  cases (show u=Value.ref b from ry)
  obtain⟨z,hd,xs,rel,dd⟩:=ue I.hok e
  obtain⟨w',hw,rw'⟩:=ma.some_of (v:=v) (o:=(atKey xs k).map (·.2)) (by rw [l];exact rel.val k)
  obtain⟨p,hp,hp2⟩:=Option.map_eq_some_iff.mp hw
  refine wpAny_getItem_heap (tupleKind_room_in1 hu) (qy I.hok eb) dd hp ?_
  rw [hp2]
  exact h w' _ (I.tok _) rw'
theorem AH {Q:Value->Shared->Prop} (hu:A.units+1 < cLine) (I:Inv X pins σ H s) (g:lI H a y o) (ry:br y u) (h:∀ s',Inv X pins σ H s'->Q (.bool o.isSome) s') :
  wpAny (model X.prog X.w) A (compareOp .In u (.ref a)) Q E s:=by
 rcases g with⟨kvs,k,e,ey,l⟩ | ⟨kvs,k,b,e,ey,eb,l⟩
 ·subst ey
  obtain⟨z,hd,vs,rel,dd⟩:=tY I.hok e
  refine wpAny_in_of (uG ry) hd dd.mapOf ?_
  rw [<-(rel.val k).isSome_eq,<-l]
  exact h _ (I.tok _)
 ·subst ey
  cases (show u=Value.ref b from ry)
  obtain⟨z,hd,xs,rel,dd⟩:=ue I.hok e
  refine wpAny_in_heap (tupleKind_room_in1 hu) (qy I.hok eb) hd dd ?_
  have q:=(rel.val k).isSome_eq
  rw [Option.isSome_map] at q
  rw [<-q,<-l]
  exact h _ (I.tok _)
end
section
variable {X:Cx}{pins:List (Addr×Obj)}{σ:St}{H:Hp}{s:Shared}{a:Addr}{kvs:List (Key×V)}{k:Key}{u:Value}{A:Around}{E:Value->Shared->Prop}
end
noncomputable def yx (i:Expr):Prop:=∀ ov iv,subscripted i false ov iv=operate [ov,iv] (getItem ov iv)
theorem qH {prog:Program}{w:World}{A:Around}{E:Value->Shared->Prop}{s:Shared}{env:Env}{value slice:Expr}{pos:Pos}{T id:String}{Q:Value->Shared->Prop}
  (hl:typeLookup (.type T) "__getitem__" = pure (some (.builtin id))) (hs:yx slice)
  (h:wpAny (model prog w) A (eval value env) (λo s₁=>wpAny (model prog w) A (eval slice env) (λi s₂=>s₂.TypeIs o T/\wpAny (model prog w) A (getItem o i) Q E s₂) E s₁) E s) :
  wpAny (model prog w) A (eval (.Subscript value slice pos) env) Q E s:=by
 refine Subscript_ (wpAny_mono h (λo s₁ h₁=>wpAny_mono h₁ (λi s₂ h₂=>?_) λ_ _ x=>x) λ_ _ x=>x)
 obtain⟨hT,h₂⟩:=h₂
 unfold subscriptTail
 refine wpAny_bind ?_
 rw [getitemInPython_of_ne hT.not_modules]
 refine wpAny_bind (wpAny_specialOf hT hl ?_)
 have fin:wpAny (model prog w) A (subscripted slice false o i) (λr s₃=>wpAny (model prog w) A (letTemporaryGo value o r >>= λ_=>pure r) Q E s₃) E s₂:=by
  rw [hs o i]
  exact wpAny_operating (wpAny_mono h₂ (λr s₃ h₃=>wpAny_bind (wpAny_letTemporaryGo (wpAny_pure h₃))) λ_ _ x=>x)
 first
  | exact wpAny_pure (wpAny_bind fin)
  | exact wpAny_bind (wpAny_pure (wpAny_bind fin))
  | exact wpAny_bind fin
theorem pA {X:Cx}{pins:List (Addr×Obj)}{σ:St}{H:Hp}{s:Shared}{a:Addr}{y:V}{o:Option V} (I:Inv X pins σ H s) (g:lI H a y o):s.TypeIs (.ref a) "dict":=by
 rcases g with⟨kvs,k,e,_,_⟩ | ⟨kvs,k,b,e,_,_,_⟩
 ·obtain⟨_,_,vs,_,dd⟩:=tY I.hok e
  exact dd.typeIs
 ·obtain⟨_,_,xs,_,dd⟩:=ue I.hok e
  exact dd.typeIs
noncomputable def zU (td ty:TE):TE:=λσ H Q=>td σ H λx H1=>ty σ H1 λy H2=>∃ a v,x=.ref a/\lI H2 a y (some v)/\Q v H2
noncomputable def Av (ty td:TE):TE:=λσ H Q=>ty σ H λy H1=>td σ H1 λx H2=>∃ a o,x=.ref a/\lI H2 a y o/\Q (.bl o.isSome) H2
section
variable {X:Cx}{o i e value:Expr}{pos pos' tpos:Pos}{td ty tv:TE}
theorem wC (hu:X.A.units+1 < cLine) (ho:PE X o td) (hi:PE X i ty) (hs:yx i):PE X (.Subscript o i pos) (zU td ty):=by
 intro pins s σ H Q I h
 refine qH PySem.F.slot_dict_getitem.lookup hs (thn (ho pins s σ H _ I h) λu s1 ⟨x,H1,I1,rx,q1⟩=>thn (hi pins s1 σ H1 _ I1 q1) λiv s2 ⟨y,H2,I2,ry,a,v,ex,g,q2⟩=>?_)
 subst ex
 obtain rfl:u=Value.ref a:=rx
 exact⟨pA I2 g,rM hu I2 g ry λw' s3 I3 rw'=>⟨v,H2,I3,rw',q2⟩⟩
theorem sW (hu:X.A.units+1 < cLine) (hi:PE X i ty) (ho:PE X o td):PC X .In i o (Av ty td):=by
 intro pins s σ H Q I h
 refine thn (hi pins s σ H _ I h) λiv s1 ⟨y,H1,I1,ry,q1⟩=>thn (ho pins s1 σ H1 _ I1 q1) λu s2 ⟨x,H2,I2,rx,a,ov,ex,g,q2⟩=>?_
 subst ex
 obtain rfl:u=Value.ref a:=rx
 exact AH hu I2 g ry λs3 I3=>⟨.bl ov.isSome,H2,I3,rfl,q2⟩
end
section
variable {X:Cx}{pos:Pos}
end
section
variable {X:Cx}{pins:List (Addr×Obj)}{σ:St}{H:Hp}{s:Shared}{a:Addr}{y d:V}{u r:Value}{o:Option V}{A:Around}{E:Value->Shared->Prop}
end
section
variable {X:Cx}{o e f:Expr}{apos cpos:Pos}{td ty tx:TE}
end
section
variable {X:Cx}{pins:List (Addr×Obj)}{σ:St}{H:Hp}{s:Shared}{a:Addr}{kvs:List (Key×V)}{A:Around}{E:Value->Shared->Prop}
end
section
variable {X:Cx}{pins:List (Addr×Obj)}{σ:St}{H:Hp}{s:Shared}{a:Addr}{y:V}{u:Value}{A:Around}{E:Value->Shared->Prop}
end
end L2
namespace L2
open PySem PySem.Spec PyProof.Rows
section
variable {prog:Program}{w:World}{A:Around}{E:Value->Shared->Prop}{s:Shared}{κ:Type} [DecidableEq κ] {knd:KeyKind prog w κ}{a:Addr}{kvs:List (κ×Value)}
end
section
variable {X:Cx}{pins:List (Addr×Obj)}{σ:St}{H:Hp}{s:Shared}{a:Addr}{kvs:List (Key×V)}{k:Key}{u r:Value}{A:Around}{E:Value->Shared->Prop}{z:V}
end
section
variable {K:PySem.W.Frag}{X:Cx}{pos:Pos}{e a b o f:Expr}{fe fa fb fo ff:Ef}
end
section
variable {K:PySem.W.Frag}{X:Cx}
end
end L2
namespace L2
open PySem PySem.Spec PyProof.Rows
section
variable {K:PySem.W.Frag}{X:Cx}
noncomputable def zD (_:Sto):List W->Option D
 | [.d (.int i)]=>if i.natAbs.log2 < 1920 then some (.str (toString i)) else none
 | _=>none
theorem x9:gl K X (.type "str") zD:=by
 refine⟨λst ws d h=>?_⟩
 match ws,h with
 | [.d (.int i)],h=>
  dsimp only [zD] at h
  by_cases hl:i.natAbs.log2 < 1920
  case neg=>rw [if_neg hl] at h;cases h
  rw [if_pos hl] at h
  cases h
  refine nI.imp ?_
  rintro vs H Q ⟨φ,S,⟨v,r,rfl,r1,rfl⟩,q⟩
  exact⟨i,by rw [show v=.int i from r1],hl,q _ H (bJ.refl H) rfl⟩
theorem qi:dJ X (.builtin "repr") (λxs H Q=>∃ x,xs=[.str x]/\(reprText x).length<=sizeLine/\Q (.str (reprText x)) H):=by
 intro pins s σ H xs us Q I rv h
 obtain⟨x,rfl,hz,q⟩:=h
 obtain⟨u,rfl,t,rfl⟩:=ik rv
 exact call_repr_gives (typeIs_str s x t) PySem.F.slot_str_repr PySem.F.entry_str_repr (PySem.F.args_str_repr_1 _) (gives_str_repr x t) ⟨.str _,H,I.tok _,⟨_,rfl⟩,q⟩ rfl hz
end
end L2
namespace L2
open PySem PySem.Spec PyProof.Rows
noncomputable def atS (x:Str):List (Str×D)->Option D
 | []=>none
 | (k,d)::r=>if k=x then some d else atS x r
noncomputable def nD:D->Option V
 | .non=>some .non
 | .bl b=>some (.bl b)
 | .int i=>some (.int i)
 | .str x=>some (.str x)
 | _=>none
theorem qU {K:PySem.W.Frag}{H:Hp}{φ:List Addr}:∀ {d:D}{v:V},nD d=some v->Rl K H φ d v
 | .non,_,h=>by cases h;rfl
 | .bl _,_,h=>by cases h;rfl
 | .int _,_,h=>by cases h;rfl
 | .str _,_,h=>by cases h;rfl
 | .ty _,_,h=>nomatch h
 | .dct,_,h=>nomatch h
 | .scr _,_,h=>nomatch h
 | .tup _,_,h=>nomatch h
 | .lst _,_,h=>nomatch h
inductive KPs:List (Str×D)->List (Key×Value)->Prop
 | nil:KPs [] []
 | cons {x:Str}{d:D}{v:V}{u:Value}{r:List (Str×D)}{vs:List (Key×Value)} (h:nD d=some v) (e:br v u) (t:KPs r vs):KPs ((x,d)::r) ((.inr x,u)::vs)
theorem KPs.some {x:Str}{d:D}:∀ {kvs:List (Str×D)}{vs:List (Key×Value)},KPs kvs vs->atS x kvs=some d->∃ v u,nD d=some v/\br v u/\valueAt vs (.inr x)=some u
 | _,_,.nil,h=>nomatch h
 | (k,d')::r,_,.cons (u:=u) hv e t,h=>by
  unfold atS at h
  by_cases hk:k=x
  ·subst hk
   rw [if_pos rfl] at h
   cases h
   exact⟨_,u,hv,e,by simp [valueAt]⟩
  ·rw [if_neg hk] at h
   obtain⟨v,u,h1,h2,h3⟩:=KPs.some t h
   refine⟨v,u,h1,h2,?_⟩
   rw [<-h3]
   have:¬ (Sum.inr k:Key)=Sum.inr x:=λq=>hk (Sum.inr.inj q)
   simp [valueAt,List.find?_cons,this]
theorem KPs.none {x:Str}:∀ {kvs:List (Str×D)}{vs:List (Key×Value)},KPs kvs vs->atS x kvs=none->valueAt vs (.inr x)=none
 | _,_,.nil,h=>rfl
 | (k,d')::r,_,.cons (u:=u) hv e t,h=>by
  unfold atS at h
  by_cases hk:k=x
  ·rw [if_pos hk] at h
   cases h
  ·rw [if_neg hk] at h
   rw [<-KPs.none t h]
   have:¬ (Sum.inr k:Key)=Sum.inr x:=λq=>hk (Sum.inr.inj q)
   simp [valueAt,List.find?_cons,this]
theorem KPs.isSome {x:Str}{kvs:List (Str×D)}{vs:List (Key×Value)} (h:KPs kvs vs):(valueAt vs (.inr x)).isSome=(atS x kvs).isSome:=by
 cases e:atS x kvs with
 | none=>rw [h.none e];rfl
 | some d=>
  obtain⟨v,u,_,_,h3⟩:=h.some e
  rw [h3];rfl
noncomputable def KDc (K:PySem.W.Frag) (P:Program) (w:World) (p:Addr) (kvs:List (Str×D)):Prop:=(p==sysModules)=false/\∃ o vs,K.lookup p=some o/\Obj.IsDictOf (bN P w) o vs/\KPs kvs vs
section
variable {K:PySem.W.Frag}{X:Cx}{pins:List (Addr×Obj)}{σ:St}{H:Hp}{s:Shared}{p:Addr}{kvs:List (Str×D)}
theorem KDc.at (h:KDc X.K X.prog X.w p kvs) (I:Inv X pins σ H s):∃ vs,s.heap.DictOf (bN X.prog X.w) p vs/\KPs kvs vs:=by
 obtain⟨_,o,vs,hk,⟨es,ep,hd⟩,kp⟩:=h
 exact⟨vs,⟨o,es,ep,I.kIn p o hk,hd⟩,kp⟩
variable {pos p1:Pos}{a:Expr}{fa:Ef}{x:Str}
noncomputable def sB (kvs:List (Str×D)) (f:Ef):Ef
 | env,st=>(f env st).bind λr=>match r.1 with
 | .d (.str x)=>(atS x kvs).map λd=>(.d d,r.2)
 | _=>none
noncomputable def lQ (k:Bool) (kvs:List (Str×D)) (f:Ef):Tf
 | env,st=>(f env st).bind λr=>match r.1 with
 | .d (.str x)=>some (k != (atS x kvs).isSome,r.2)
 | _=>none
noncomputable def Aw (td ty:TE) (X:Cx) (p:Addr) (kvs:List (Str×D)):TE:=λσ H Q=>td σ H λx H1=>ty σ H1 λy H2=>∃ z d v,x=.ref p/\y=.str z/\KDc X.K X.prog X.w p kvs/\atS z kvs=some d/\nD d=some v/\Q v H2
theorem yf {o i:Expr}{td ty:TE} (ho:PE X o td) (hi:PE X i ty) (hs:yx i):PE X (.Subscript o i pos) (Aw td ty X p kvs):=by
 intro pins s σ H Q I h
 refine qH PySem.F.slot_dict_getitem.lookup hs (thn (ho pins s σ H _ I h) λu s1 ⟨x,H1,I1,rx,q1⟩=>thn (hi pins s1 σ H1 _ I1 q1) λiv s2 ⟨y,H2,I2,ry,z,d,v,ex,ey,g,hz,hv,q2⟩=>?_)
 subst ex;subst ey
 obtain rfl:u=Value.ref p:=rx
 obtain⟨t,rfl⟩:=ry
 obtain⟨vs,dd,kp⟩:=g.at I2
 obtain⟨v',u',h1,h2,h3⟩:=kp.some hz
 rw [hv] at h1
 cases h1
 exact⟨dd.typeIs,wpAny_getItem_of (bQ _ _ z t) dd.mapOf h3 ⟨v,H2,I2.tok _,h2,q2⟩⟩
noncomputable def z8 (X:Cx) (p:Addr) (kvs:List (Str×D)) (k:Bool):R2:=λx y H Q=>∃ z,x=.str z/\y=.ref p/\KDc X.K X.prog X.w p kvs/\Q (.bl (k != (atS z kvs).isSome)) H
theorem tq:OpR X (compareOp .In) (z8 X p kvs false):=by
 intro pins s σ H x y v u Q I rx ry h
 obtain⟨z,rfl,rfl,g,q⟩:=h
 obtain⟨t,rfl⟩:=rx
 cases ry
 obtain⟨vs,dd,kp⟩:=g.at I
 refine wpAny_in_of (bQ _ _ z t) g.1 dd.mapOf ?_
 refine⟨.bl _,H,I.tok _,?_,q⟩
 show Value.bool _=Value.bool _
 rw [kp.isSome,Bool.false_bne]
theorem ui (hg:Gl X x) (hm:X.mg x=some (.ref p)) (g:KDc X.K X.prog X.w p kvs) (ha:IE K X a fa) (hb:ms a=true:=by rfl) (hd:(x==("__debug__" : Str))=false:=by decide):IE K X (.Subscript (.Name x p1) a pos) (sB kvs fa):=by
 refine⟨λenv st r hr=>?_⟩
 simp only [sB,Option.bind_eq_some_iff] at hr
 obtain⟨⟨w,s1⟩,hx,hr⟩:=hr
 match w,hr with
 | .d (.str z),hr=>
  obtain⟨d,hz,rfl⟩:=Option.map_eq_some_iff.mp hr
  have hv:∃ v,nD d=some v:=by
   obtain⟨_,o,vs,_,_,kp⟩:=g
   obtain⟨v,u,h1,_⟩:=kp.some hz
   exact⟨v,h1⟩
  obtain⟨v,hv⟩:=hv
  refine (yf (p:=p) (kvs:=kvs) (iQ (v:=.ref p) hg hm rfl hd) (ha.run _ _ _ hx) (pT hb)).imp ?_
  rintro σ H Q ⟨φ,hE,hS,q⟩
  refine⟨φ,hE,hS,λy H1 φ1 f1 S1 w1=>?_⟩
  exact⟨z,d,v,rfl,w1,g,hz,hv,q _ H1 φ1 f1 S1 (qU hv)⟩
theorem sU {k:Bool}{op:CmpOp} (ho:OpR X (compareOp op) (z8 X p kvs k)) (hg:Gl X x) (hm:X.mg x=some (.ref p)) (g:KDc X.K X.prog X.w p kvs) (ha:IE K X a fa) (hd:(x==("__debug__" : Str))=false:=by decide) (hb:behindInMarks op (.Name x p1)=false:=by rfl) :
  IT K X (.Compare a [op] [.Name x p1] pos) (lQ k kvs fa):=by
 refine⟨λenv st r hr=>?_⟩
 simp only [lQ,Option.bind_eq_some_iff] at hr
 obtain⟨⟨w,s1⟩,hx,hr⟩:=hr
 match w,hr with
 | .d (.str z),hr=>
  cases hr
  refine (rG ho (ha.run _ _ _ hx) (iQ (v:=.ref p) hg hm rfl hd) hb).imp ?_
  rintro σ H Q ⟨φ,hE,hS,q⟩
  refine⟨φ,hE,hS,λy H1 φ1 f1 S1 w1=>?_⟩
  have w1:y=.str z:=w1
  subst w1
  exact⟨z,rfl,rfl,g,_,rfl,q H1 φ1 f1 S1⟩
end
end L2
namespace L2
open PySem PySem.Spec PyProof.Rows
section
variable {X:Cx}{e:Expr}{ty:TE}{p1 p2 p3 p4 p5 dpos apos cpos:Pos}{j1 j2 j3 j4 j5:Nat}
end
section
variable {K:PySem.W.Frag}{X:Cx}{e:Expr}{f:Ef}{pos p1:Pos}{x:Str}{p:Addr}{ds:List D}{s:Stmt}
noncomputable def jy:Sf
 | _,_=>none
theorem d8:IS K X s jy:=⟨λenv st r hr=>by cases hr⟩
end
end L2
namespace L2
open PySem PySem.Spec PyProof.Rows
inductive EPs (w:World):List DictEntry->List (Str×D)->List (Key×Value)->Prop
 | nil:EPs w [] [] []
 | cons {x:Str}{t:Tok}{d:D}{v:V}{u:Value}{es:List DictEntry}{kvs:List (Str×D)}{vs:List (Key×Value)} (h:nD d=some v) (r:br v u) (q:EPs w es kvs vs) :
   EPs w (⟨PyData.keyHash w.params x,.str x t,u⟩::es) ((x,d)::kvs) ((.inr x,u)::vs)
theorem EPs.kps {w:World}:∀ {es:List DictEntry}{kvs:List (Str×D)}{vs:List (Key×Value)},EPs w es kvs vs->KPs kvs vs
 | _,_,_,.nil=>.nil
 | _,_,_,.cons h r q=>.cons h r q.kps
theorem EPs.keys {P:Program}{w:World}:∀ {es:List DictEntry}{kvs:List (Str×D)}{vs:List (Key×Value)},EPs w es kvs vs->(∀ e ∈ es,∃ k,(bN P w).is k e.key=true/\e.hash=(bN P w).hash k)/\Pairs (bN P w) es vs/\vs.map (·.1)=kvs.map λkv=>Sum.inr kv.1
 | _,_,_,.nil=>⟨λe he=>(nomatch he),.nil,rfl⟩
 | _,_,_,.cons (x:=x) (t:=t) h r q=>by
  obtain⟨h1,h2,h3⟩:=q.keys (P:=P)
  refine⟨λe he=>?_,.cons (bQ P w x t) rfl h2,by rw [List.map_cons,List.map_cons,h3]⟩
  rcases List.mem_cons.mp he with rfl | he
  ·exact⟨.inr x,bQ P w x t,rfl⟩
  ·exact h1 e he
theorem kdc_mk {P:Program}{w:World}{es:List DictEntry}{ep:Nat}{kvs:List (Str×D)}{vs:List (Key×Value)} (h:EPs w es kvs vs) (hn:(kvs.map (·.1)).Nodup) :
  ∃ vs,Obj.IsDictOf (bN P w) { cls:=.type "dict",data:=.dict es.toArray ep } vs/\KPs kvs vs:=by
 obtain⟨h1,h2,h3⟩:=h.keys (P:=P)
 refine⟨vs,⟨es.toArray,ep,⟨rfl,rfl,rfl⟩,rfl,λe he=>h1 e (by simpa using he),h2,?_⟩,h.kps⟩
 rw [h3]
 have:(kvs.map λkv=>(Sum.inr kv.1:Key))=(kvs.map (·.1)).map Sum.inr:=by rw [List.map_map];rfl
 rw [this]
 rw [List.nodup_iff_pairwise_ne,List.pairwise_map]
 exact (List.nodup_iff_pairwise_ne.mp hn).imp λh e=>h (Sum.inr.inj e)
end L2
namespace L2
open PySem PySem.Spec PyProof.Rows
theorem yB (a b c:Value):merged [] [((Sum.inr "all" : Key),a),(Sum.inr "any",b),(Sum.inr "odd",c)]=[((Sum.inr "all" : Key),a),(Sum.inr "any",b),(Sum.inr "odd",c)]:=by
 have m12:¬ (Sum.inr ("all" : Str):Key)=Sum.inr ("any" : Str):=by decide
 have m13:¬ (Sum.inr ("all" : Str):Key)=Sum.inr ("odd" : Str):=by decide
 have m23:¬ (Sum.inr ("any" : Str):Key)=Sum.inr ("odd" : Str):=by decide
 simp [merged,stored,m12,m13,m23]
theorem As (a b c:Value) (z:Str):valueAt [((Sum.inr "all" : Key),a),(Sum.inr "any",b),(Sum.inr "odd",c)] (Sum.inr z)=if z = "all" then some a else if z = "any" then some b else if z = "odd" then some c else none:=by
 have n:∀ k:Str,(decide ((Sum.inr k:Key)=Sum.inr z))=decide (z=k):=λk=>by
  by_cases e:z=k
  ·subst e;simp
  ·have:¬ (Sum.inr k:Key)=Sum.inr z:=λq=>e (Sum.inr.inj q).symm
   simp [e,this]
 simp only [valueAt,List.find?_cons,n,List.find?_nil]
 by_cases e1:z = "all"
 ·rw [if_pos e1,decide_eq_true e1];rfl
 rw [if_neg e1,decide_eq_false e1]
 by_cases e2:z = "any"
 ·rw [if_pos e2,decide_eq_true e2];rfl
 rw [if_neg e2,decide_eq_false e2]
 by_cases e3:z = "odd"
 ·rw [if_pos e3,decide_eq_true e3];rfl
 rw [if_neg e3,decide_eq_false e3];rfl
section
variable {X:Cx}{e d:Expr}{ty td:TE}{p1 p2 p3 p4 p5 p6 dpos apos cpos:Pos}{j1 j2 j3 j4 j5 j6:Nat}
noncomputable def zq (ty td:TE):TE:=λσ H Q=>ty σ H λy H1=>∃ z,y=.str z/\td σ H1 λu H2=>
 (z = "all"->Q (.str "&") H2)/\(z = "any"->Q (.str "|") H2)/\(z = "odd"->Q (.str "^") H2)/\(z≠"all"->z≠"any"->z≠"odd"->Q u H2)
set_option maxHeartbeats 2000000 in
theorem wj {D:Expr} (he:PE X e ty) (hd':PE X d td) (hD:D=.Dict [some (.Constant (.str "all") j1 p1),some (.Constant (.str "any") j2 p2),some (.Constant (.str "odd") j3 p3)] [.Constant (.str "&") j4 p4,.Constant (.str "|") j5 p5,.Constant (.str "^") j6 p6] dpos:=by rfl)
  (base:attributeBase D "get" X.env (eval D X.env)=eval D X.env:=by rfl)
  (few:((backTo cpos (starEach [e,d] X.env)).all (λx=>!x.1) && (backToKw cpos (keywordEach [] X.env)).all (λx=>x.1.isSome)
    && decide (([e,d]:List Expr).length+([]:List Keyword).length+(if ([]:List Keyword).isEmpty then 0 else 1) < 30))=true:=by rfl)
  (line:(apos.endLine==cpos.line)=true:=by rfl) (trees:backTo cpos (starEach [e,d] X.env)=[(false,eval e X.env),(false,eval d X.env)]:=by rfl) :
  PE X (.Call (.Attribute D "get" apos) [e,d] [] cpos) (zq ty td):=by
 intro pins s σ H Q I h
 refine wpAny_Call_method base few line PySem.F.plainAttrs_dict PySem.F.slot_dict_get PySem.F.type_dict_get ?_
 rw [hD]
 refine wpAny_Dict_walk (knd:=bN X.prog X.w) rfl rfl (by simp) (by simp) ?_
 refine pairTrees_cons_walk (Calls.Constant_str (Calls.Constant_str ?_))
 refine pairTrees_cons_walk (Calls.Constant_str (Calls.Constant_str ?_))
 refine pairTrees_cons_walk (Calls.Constant_str (Calls.Constant_str (pairTrees_nil_walk ?_)))
 refine⟨[(.inr "all",_),(.inr "any",_),(.inr "odd",_)],⟨bQ _ _ _ _,rfl,bQ _ _ _ _,rfl,bQ _ _ _ _,rfl,trivial⟩,Heap.DictOf.new s.heap,λh' dd hs=>?_⟩
 have hdn:(s.heap.objs.size==sysModules)=false:=beq_eq_false_iff_ne.mpr (Ne.symm (Nat.ne_of_lt I.bigG))
 have hk:∀ b o,s.heap.get? b=some o->h'.get? b=some o:=λb o q=>(hs.2 b (Nat.ne_of_lt (Heap.lt_size q))).trans (Heap.get?_push_of_some _ q)
 rw [yB] at dd
 obtain⟨ta,tb,tc,dd⟩:∃ ta tb tc,h'.DictOf (bN X.prog X.w) s.heap.objs.size [((Sum.inr "all" : Key),.str "&" ta),(Sum.inr "any",.str "|" tb),(Sum.inr "odd",.str "^" tc)]:=⟨_,_,_,dd⟩
 obtain⟨o,es,ep,ho,hc,hd,hr⟩:=id dd
 refine⟨dd.typeIs,λb q=>?_,?_⟩
 ·cases q
  exact⟨o,ho,hc.2.1⟩
 rw [trees]
 generalize hs2:({ s with heap:=h',toks:=_ }:Shared)=s2
 have I2:Inv X pins σ H s2:=by rw [<-hs2];exact I.kept hk
 have h2:s2.heap=h':=by rw [<-hs2]
 have I3:Inv X (pins++[(s.heap.objs.size,o)]) σ H s2:=I2.pins_of λp hp=>by
  rcases List.mem_append.mp hp with z | z
  ·exact I2.pin p (List.mem_append_right _ z)
  ·have:=List.mem_singleton.mp z
   subst this
   exact⟨by rw [h2];exact ho,I.hok.fresh (Nat.le_refl _),Nat.ne_of_gt I.lt,I.nofs (Nat.le_refl _),λv q=>by rw [hd] at q;cases q⟩
 refine Calls.callWith_builtin rfl (Calls.evalArgs_plain (Calls.spliced_cons (thn (he _ s2 σ H _ I3 h) λiv s4 ⟨y,H4,I4,ry,z,ez,q4⟩=>?_)))
 refine Calls.spliced_cons (thn (hd' _ s4 σ H4 _ I4 q4) λuv s5 ⟨u,H5,I5,ru,q1,q2,q3,q0⟩=>Calls.spliced_nil ?_)
 subst ez
 obtain⟨t,rfl⟩:=ry
 have pD:=(I5.pin (s.heap.objs.size,o) (List.mem_append_right _ (List.mem_append_right _ List.mem_cons_self))).1
 have dd5:s5.heap.DictOf (bN X.prog X.w) s.heap.objs.size _:=⟨o,es,ep,pD,hc,hd,hr⟩
 have I5':Inv X pins σ H5 s5:=I5.unpinned
 refine call_meetsIn PySem.F.slot_dict_get dd5.typeIs PySem.F.entry_dict_get (PySem.F.args_dict_get_3 _ _ _) (meets_dict_get_default (bN X.prog X.w) (k:=.inr z) s.heap.objs.size (bQ _ _ _ _) hdn _) ⟨_,dd5.mapOf,?_⟩
 rw [As]
 by_cases e1:z = "all"
 ·rw [if_pos e1]
  exact⟨.str "&",H5,I5'.tok _,⟨_,rfl⟩,q1 e1⟩
 rw [if_neg e1]
 by_cases e2:z = "any"
 ·rw [if_pos e2]
  exact⟨.str "|",H5,I5'.tok _,⟨_,rfl⟩,q2 e2⟩
 rw [if_neg e2]
 by_cases e3:z = "odd"
 ·rw [if_pos e3]
  exact⟨.str "^",H5,I5'.tok _,⟨_,rfl⟩,q3 e3⟩
 rw [if_neg e3]
 exact⟨u,H5,I5'.tok _,ru,q0 e1 e2 e3⟩
end
section
variable {K:PySem.W.Frag}{X:Cx}{e d:Expr}{f g:Ef}
noncomputable def atT (x:Str):List (Str×Str)->Option Str
 | []=>none
 | (k,d)::r=>if k=x then some d else atT x r
noncomputable def lR (kvs:List (Str×Str)) (a b:Ef):Ef
 | env,st=>(a env st).bind λx=>(b env x.2).bind λy=>match x.1 with
 | .d (.str z)=>some (match atT z kvs with | some v=>.d (.str v) | none=>y.1,y.2)
 | _=>none
theorem wn {p1 p2 p3 p4 p5 p6 dpos apos cpos:Pos}{j1 j2 j3 j4 j5 j6:Nat}{D':Expr} (he:IE K X e f) (hd:IE K X d g) (hD:D'=.Dict [some (.Constant (.str "all") j1 p1),some (.Constant (.str "any") j2 p2),some (.Constant (.str "odd") j3 p3)] [.Constant (.str "&") j4 p4,.Constant (.str "|") j5 p5,.Constant (.str "^") j6 p6] dpos:=by rfl)
  (base:attributeBase D' "get" X.env (eval D' X.env)=eval D' X.env:=by rfl)
  (few:((backTo cpos (starEach [e,d] X.env)).all (λx=>!x.1) && (backToKw cpos (keywordEach [] X.env)).all (λx=>x.1.isSome)
    && decide (([e,d]:List Expr).length+([]:List Keyword).length+(if ([]:List Keyword).isEmpty then 0 else 1) < 30))=true:=by rfl)
  (line:(apos.endLine==cpos.line)=true:=by rfl) (trees:backTo cpos (starEach [e,d] X.env)=[(false,eval e X.env),(false,eval d X.env)]:=by rfl) :
  IE K X (.Call (.Attribute D' "get" apos) [e,d] [] cpos) (lR [("all","&"),("any","|"),("odd","^")] f g):=by
 refine⟨λenv st r hr=>?_⟩
 simp only [lR,Option.bind_eq_some_iff] at hr
 obtain⟨⟨x,s1⟩,hx,⟨y,s2⟩,hy,hr⟩:=hr
 match x,hr with
 | .d (.str z),hr=>
  refine (wj (he.run _ _ _ hx) (hd.run _ _ _ hy) hD base few line trees).imp ?_
  rintro σ H Q ⟨φ,hE,hS,q⟩
  refine⟨φ,hE,hS,λv H1 φ1 f1 S1 w1=>?_⟩
  have w1:v=.str z:=w1
  refine⟨z,w1,φ1,hE.fw hS f1,S1,λu H2 φ2 f2 S2 w2=>⟨λez=>?_,λez=>?_,λez=>?_,λh1 h2 h3=>?_⟩⟩
  ·subst ez;cases hr;exact q _ H2 φ2 (f1.trans f2) S2 rfl
  ·subst ez;cases hr;exact q _ H2 φ2 (f1.trans f2) S2 rfl
  ·subst ez;cases hr;exact q _ H2 φ2 (f1.trans f2) S2 rfl
  ·have ea:atT z [("all","&"),("any","|"),("odd","^")]=none:=by
    simp only [atT,if_neg (Ne.symm h1),if_neg (Ne.symm h2),if_neg (Ne.symm h3)]
   dsimp only at hr
   rw [ea] at hr
   cases hr
   exact q _ H2 φ2 (f1.trans f2) S2 w2
end
end L2
namespace L2
open PySem PySem.Spec PyProof.Rows
section
variable {b:Bool}{t:SetTable}{m d k:Nat}
end
end L2
namespace L2
open PySem PySem.Spec PyProof.Rows
section
variable {prog:Program}{w:World}{A:Around}{E:Value->Shared->Prop}{s:Shared}{a:Addr}{m d k:Nat}
end
end L2
namespace L2
open PySem PySem.Spec PyProof.Rows
section
variable {prog:Program}{w:World}{A:Around}{E:Value->Shared->Prop}{s:Shared}{a it:Addr}{m d ep i:Nat}{f:Nat->Tok}
end
end L2
namespace L2
open PySem PySem.Spec PyProof.Rows
section
variable {prog:Program}{w:World}{A:Around}{E:Value->Shared->Prop}{s:Shared}{a it:Addr}{m d ep i:Nat}{f:Nat->Tok}
end
end L2
namespace L2
open PySem PySem.Spec PyProof.Rows
section
variable {prog:Program}{w:World}{A:Around}{E:Value->Shared->Prop}{s:Shared}
end
section
variable {prog:Program}{w:World}{A:Around}{R:Result->Shared->Prop}{I:Addr}{fp wr:List Addr}{G:Array GenState->Array GenState->Prop}{P:Nat->Value->Prop}{St:Nat->Shared->Prop}
end
section
variable {prog:Program}{w:World}{A:Around}{E:Value->Shared->Prop}{s:Shared}
end
end L2
namespace L2
open PySem PySem.Spec PyProof.Rows
section
variable {prog:Program}{w:World}{A:Around}{E:Value->Shared->Prop}{s:Shared}{a r o:Addr}{m m1 m2 d k ep:Nat}{f:Nat->Tok}
end
end L2
namespace L2
open PySem PySem.Spec PyProof.Rows
section
variable {prog:Program}{w:World}{A:Around}{E:Value->Shared->Prop}{s:Shared}{a b r o:Addr}{m m1 m2 d k ep:Nat}{f:Nat->Tok}
end
end L2
namespace L2
open PySem PySem.Spec PyProof.Rows
section
variable {prog:Program}{w:World}{A:Around}{E:Value->Shared->Prop}{s:Shared}{a b r o:Addr}{m m1 m2 d k ep:Nat}{f:Nat->Tok}
end
end L2
namespace L2
open PySem PySem.Spec PyProof.Rows
section
variable {prog:Program}{w:World}{A:Around}{E:Value->Shared->Prop}{s:Shared}{a:Addr}{m d ep:Nat}{f:Nat->Tok}
end
section
variable {K:PySem.W.Frag}{X:Cx}{pos p:Pos}{e a b:Expr}{fe:Ef}{fa fb:Xf}
end
end L2
namespace L2
open PySem PySem.Spec PyProof.Rows
section
variable {prog:Program}{w:World}{A:Around}{E:Value->Shared->Prop}{s:Shared}{d it:Addr}{es:Array DictEntry}{i ep:Nat}
end
end L2
namespace L2
open PySem PySem.Spec PyProof.Rows
section
variable {prog:Program}{w:World}{A:Around}{E:Value->Shared->Prop}{s:Shared}{d:Addr}{es:Array DictEntry}{ep:Nat}
end
section
variable {K:PySem.W.Frag}{X:Cx}{pos:Pos}{e a b o f:Expr}{fe fa fb fo ff:Ef}
end
end L2
namespace L2
open PySem PySem.Spec PyProof.Rows
mutual
noncomputable def toP:D->PyData
 | .non=>.none
 | .bl b=>.bool b
 | .int i=>.int i
 | .str x=>.str x
 | .tup ds=>.tuple (iZ ds)
 | .lst ds=>.list (iZ ds)
 | _=>.none
noncomputable def iZ:List D->List PyData
 | []=>[]
 | d::ds=>toP d::iZ ds
end
mutual
noncomputable def rpD:D->Bool
 | .non=>true
 | .bl _=>true
 | .int i=>decide (i.natAbs.log2 < 1920)
 | .str _=>true
 | .tup ds=>jj ds
 | .lst ds=>jj ds
 | _=>false
noncomputable def jj:List D->Bool
 | []=>true
 | d::ds=>rpD d && jj ds
end
mutual
noncomputable def wtD:D->Nat
 | .non=>10
 | .bl _=>10
 | .int _=>2000
 | .str x=>(reprText x).length
 | .tup ds=>kW ds+5
 | .lst ds=>kW ds+5
 | _=>0
noncomputable def kW:List D->Nat
 | []=>0
 | d::ds=>wtD d+2+kW ds
end
mutual
noncomputable def dpD:D->Nat
 | .tup ds=>kP ds+1
 | .lst ds=>kP ds+1
 | _=>1
noncomputable def kP:List D->Nat
 | []=>0
 | d::ds=>max (dpD d) (kP ds)
end
noncomputable def gp (st:Sto):List W->Option D
 | [w]=>match w with
  | .d d=>if rpD d=true/\wtD d<=16000000/\dpD d<=50 then some (.str (toP d).shown) else none
  | .h _=>none
 | _=>none
theorem kB:∀ (ts:List Str) (k:Nat) (acc:Str),(textFrom k acc ts).length<=acc.length+piled ts
 | [],k,acc=>by show acc.length<=_;lia
 | t::r,k,acc=>by
  have h:=kB r (k+1) (acc++(if k > 0 then ", " else "" : String)++t)
  have e:(acc++(if k > 0 then ", " else "" : String)++t).length<=acc.length+2+t.length:=by
   rw [strLen_append,strLen_append]
   have:((if k > 0 then ", " else "" : String):Str).length<=2:=by split<;>decide
   lia
  rw [piled_cons]
  show (textFrom (k+1) _ r).length<=_
  lia
theorem tu (ts:List Str):(tupleText ts).length<=piled ts+3:=by
 have hz:(Str.join ", " ts).length<=piled ts:=by
  cases ts with
  | nil=>exact Nat.zero_le _
  | cons x r=>
   have:=join_length_add (x::r) (by simp)
   lia
 unfold tupleText
 rw [strLen_append,strLen_append]
 have h2:((if ts.length==1 then ",)" else ")" : String):Str).length<=2:=by split<;>decide
 have h1:((("(" : String):Str)).length=1:=rfl
 lia
theorem vE (ts:List Str):(listText ts).length<=piled ts+2:=by
 have h:=kB ts 0 "["
 unfold listText
 rw [strLen_append]
 have h1:((("[" : String):Str)).length=1:=rfl
 have h2:((("]" : String):Str)).length=1:=rfl
 lia
mutual
theorem lM:∀ d:D,rpD d=true->(toP d).shown.length<=wtD d
 | .non,_=>by rw [toP,wtD];decide
 | .bl b,_=>by rw [toP,wtD];cases b<;>decide
 | .int i,h=>by
  rw [rpD,decide_eq_true_eq] at h
  rw [toP,wtD,PyData.shown]
  have:=int_text_length_le (k:=1920) (by decide) h
  rw [PySem.ofString_length]
  lia
 | .str x,_=>by rw [toP,wtD,PyData.shown];exact Nat.le_refl _
 | .tup ds,h=>by
  rw [rpD] at h
  rw [toP,wtD,PyData.shown]
  have:=jY ds h
  have:=tu (PyData.shownAll (iZ ds))
  lia
 | .lst ds,h=>by
  rw [rpD] at h
  rw [toP,wtD,PyData.shown]
  have:=jY ds h
  have:=vE (PyData.shownAll (iZ ds))
  lia
 | .ty _,h=>by simp [rpD] at h
 | .dct,h=>by simp [rpD] at h
 | .scr _,h=>by simp [rpD] at h
theorem jY:∀ ds:List D,jj ds=true->piled (PyData.shownAll (iZ ds))<=kW ds
 | [],_=>by rw [iZ,kW,PyData.shownAll];exact Nat.le_refl _
 | d::ds,h=>by
  rw [jj,Bool.and_eq_true] at h
  rw [iZ,kW,PyData.shownAll,piled_cons]
  have:=lM d h.1
  have:=jY ds h.2
  lia
end
mutual
theorem ot:∀ d:D,rpD d=true->(toP d).showable=true/\(toP d).hasDict=false/\(toP d).depth<=dpD d
 | .non,_=>⟨rfl,rfl,by decide⟩
 | .bl b,_=>⟨rfl,rfl,by rw [toP,PyData.depth];exact Nat.zero_le _⟩
 | .int i,h=>by
  rw [rpD] at h
  rw [toP]
  exact⟨h,rfl,by rw [PyData.depth];exact Nat.zero_le _⟩
 | .str x,_=>⟨rfl,rfl,by rw [toP,PyData.depth];exact Nat.zero_le _⟩
 | .tup ds,h=>by
  rw [rpD] at h
  rw [toP,dpD,PyData.showable,PyData.hasDict,PyData.depth]
  obtain⟨a,b,c⟩:=lT ds h
  exact⟨a,b,by lia⟩
 | .lst ds,h=>by
  rw [rpD] at h
  rw [toP,dpD,PyData.showable,PyData.hasDict,PyData.depth]
  obtain⟨a,b,c⟩:=lT ds h
  exact⟨a,b,by lia⟩
 | .ty _,h=>by simp [rpD] at h
 | .dct,h=>by simp [rpD] at h
 | .scr _,h=>by simp [rpD] at h
theorem lT:∀ ds:List D,jj ds=true->PyData.showableAll (iZ ds)=true/\PyData.hasDictAll (iZ ds)=false/\PyData.depthAll (iZ ds)<=kP ds
 | [],_=>by rw [iZ,kP];exact⟨rfl,rfl,by simp [PyData.depthAll]⟩
 | d::ds,h=>by
  rw [jj,Bool.and_eq_true] at h
  obtain⟨a,b,c⟩:=ot d h.1
  obtain⟨a',b',c'⟩:=lT ds h.2
  rw [iZ,kP,PyData.showableAll,PyData.hasDictAll,PyData.depthAll,a,b,a',b']
  exact⟨rfl,rfl,by lia⟩
end
section
variable {K:PySem.W.Frag}{X:Cx}{pins:List (Addr×Obj)}{σ:St}{H:Hp}{s:Shared}{φ:List Addr}
mutual
theorem lG (I:Inv X pins σ H s):∀ (d:D) (v:V) (u:Value),rpD d=true->Rl X.K H φ d v->br v u->∃ as,Reads s.heap u (toP d) as
 | .non,v,u,_,r,q=>by cases (show v=.non from r);cases q;exact⟨_,by rw [toP];exact .none⟩
 | .bl b,v,u,_,r,q=>by cases (show v=.bl b from r);cases q;exact⟨_,by rw [toP];exact .bool b⟩
 | .int i,v,u,_,r,q=>by cases (show v=.int i from r);obtain⟨t,rfl⟩:=q;exact⟨_,by rw [toP];exact .int i t⟩
 | .str x,v,u,_,r,q=>by cases (show v=.str x from r);obtain⟨t,rfl⟩:=q;exact⟨_,by rw [toP];exact .str x t⟩
 | .tup ds,v,u,h,r,q=>by
  rw [rpD] at h
  obtain⟨a,vs,rfl,h1,h2⟩:=r
  cases q
  obtain⟨its,rv,⟨o,ho,hc,n,hd⟩,_⟩:=I.tuple (SqT.of h1)
  obtain⟨as,ra⟩:=ki I ds vs its h h2 rv
  exact⟨as,by rw [toP];exact .tuple ho hc hd (by simpa using ra)⟩
 | .lst ds,v,u,h,r,q=>by
  rw [rpD] at h
  obtain⟨a,vs,rfl,_,h1,h2⟩:=r
  cases q
  obtain⟨its,rv,⟨o,n,ho,hc,hdd,hd⟩,_⟩:=I.list (.inl h1)
  obtain⟨as,ra⟩:=ki I ds vs its h h2 rv
  exact⟨a::as,by rw [toP];exact .list ho hc hd (by simpa using ra)⟩
 | .ty _,_,_,h,_,_=>by simp [rpD] at h
 | .dct,_,_,h,_,_=>by simp [rpD] at h
 | .scr _,_,_,h,_,_=>by simp [rpD] at h
theorem ki (I:Inv X pins σ H s):∀ (ds:List D) (vs:List V) (us:List Value),jj ds=true->Rls X.K H φ ds vs->bx vs us->∃ as,ReadsAll s.heap us (iZ ds) as
 | [],vs,us,_,r,q=>by cases r;cases q;exact⟨[],by rw [iZ];exact .nil⟩
 | d::ds,vs,us,h,r,q=>by
  rw [jj,Bool.and_eq_true] at h
  obtain⟨v,r',rfl,h1,h2⟩:=r
  cases q with
  | cons q1 q2=>
   obtain⟨as,a1⟩:=lG I d v _ h.1 h1 q1
   obtain⟨bs,a2⟩:=ki I ds r' _ h.2 h2 q2
   exact⟨as++bs,by rw [iZ];exact .cons a1 a2⟩
end
end
noncomputable def uf (st:Sto):List W->Option D
 | [.d (.tup ds)]=>gp st [.d (.tup ds)]
 | [.d (.lst ds)]=>gp st [.d (.lst ds)]
 | _=>none
theorem sI {K:PySem.W.Frag}{X:Cx}{k:Nat} (hr:cZ k X.A) (hK:X.K=K:=by rfl):gl K X (.builtin "repr") uf:=by
 subst hK
 refine⟨λst ws d h=>?_⟩
 have key:∀ x:D,(∀ (H:Hp) (φ:List Addr) v,Rl X.K H φ x v->∃ a,v=.ref a)->gp st [.d x]=some d->dJ X (.builtin "repr") (rCD X.K st [.d x] d):=by
  intro x hx h
  simp only [gp] at h
  split at h
  ·rename_i hc
   cases h
   intro pins s σ H xs us Q I rv q
   obtain⟨φ,S,⟨v,r,rfl,r1,rfl⟩,q⟩:=q
   obtain⟨u,rfl,ru⟩:=ik rv
   obtain⟨as,rd⟩:=lG I x v u hc.1 r1 ru
   obtain⟨a,rfl⟩:=hx H φ v r1
   cases ru
   obtain⟨b1,b2,b3⟩:=ot x hc.1
   have hl:=lM x hc.1
   have hun:=hr.units
   refine repr_of_reads' rd b1 (PyData.noDict_hsm b2) hr.gd (by lia) (λ_ _ e=>e) (λh' u tk hk=>⟨.str _,H,I.kept (t':=tk) hk,⟨u,rfl⟩,q _ H (bJ.refl H) rfl⟩) ?_
   rw [sizeLine_eq];lia
  ·cases h
 match ws,h with
 | [.d (.tup ds)],h=>exact key (.tup ds) (λH φ v ⟨a,vs,e,_⟩=>⟨a,e⟩) h
 | [.d (.lst ds)],h=>exact key (.lst ds) (λH φ v ⟨a,vs,e,_⟩=>⟨a,e⟩) h
end L2
namespace L2
open PySem PySem.Spec PyProof.Rows
section
variable {K:PySem.W.Frag}{X:Cx}
end
end L2
namespace L2
open PySem PySem.Spec PyProof.Rows
theorem uS (n:Nat) (d:Nat) (hd:d<=n) (o:Option Int):HT.sIx n d o<=n:=by
 cases o with
 | none=>exact hd
 | some i=>unfold HT.sIx;split<;>lia
noncomputable def jX (z:Str) (lo hi:Option Int):Str:=⟨((z.cps.toList.drop (HT.sIx z.length 0 lo)).take (HT.sIx z.length z.length hi - HT.sIx z.length 0 lo)).toArray⟩
theorem tm (lo hi:Option Int) (n:Nat):Builtin.Str.strSliceIndices lo hi 1 n=sliceRange ((HT.sIx n 0 lo:Nat):Int) ((HT.sIx n n hi:Nat):Int) 1:=by
 unfold Builtin.Str.strSliceIndices
 dsimp only
 simp only [show (1:Int) > 0 by decide,if_true]
 congr 1
 ·cases lo with
  | none=>simp [HT.sIx]
  | some i=>
   simp only [HT.sIx]
   by_cases h:i < 0
   ·simp only [h,if_true]<;>lia
   ·simp only [h,if_false]<;>lia
 ·cases hi with
  | none=>simp [HT.sIx]
  | some i=>
   simp only [HT.sIx]
   by_cases h:i < 0
   ·simp only [h,if_true]<;>lia
   ·simp only [h,if_false]<;>lia
theorem sr (z:Str) (lo hi:Option Int):Txt.slice z lo hi=jX z lo hi:=by
 have h1:=uS z.length 0 (Nat.zero_le _) lo
 have h2:=uS z.length z.length (Nat.le_refl _) hi
 unfold Txt.slice jX
 rw [tm,sliceRange_one]
 generalize HT.sIx z.length 0 lo=a at *
 generalize HT.sIx z.length z.length hi=b at *
 split
 ·rename_i hc
  have hl:b - a=z.length:=by simpa using hc
  have ha:a=0:=by lia
  subst ha
  have hz:z.length=z.cps.toList.length:=by simp [Str.length]
  rw [hl,hz,List.drop_zero,List.take_length]
 ·rw [pick_run]
noncomputable def Ak:V->Option Int->Option Int->Hp->VK->Prop:=λx lo hi H Q=>∃ z,x=.str z/\z.length<=sizeLine/\Q (.str (jX z lo hi)) H
section
variable {K:PySem.W.Frag}{X:Cx}{pos p2:Pos}{a e:Expr}{f fa:Ef}{af:Af}
theorem xp:SlR X Ak:=by
 intro pins s σ H x v vl vu lo hi sl Q I rx hs pl pu h
 obtain⟨z,rfl,hz,q⟩:=h
 obtain⟨t,rfl⟩:=rx
 refine⟨"str",_,PySem.F.slot_str_getitem.lookup,typeIs_str _ _ _,?_⟩
 have key:∀ (l u:Option (Int×Tok)),vl=partValue l->vu=partValue u->lo=l.map (·.1)->hi=u.map (·.1)->wpAny (model X.prog X.w) X.A (getItem (.str z t) (.ref sl)) (EP X pins σ Q) X.xe s:=by
  rintro l u rfl rfl rfl rfl
  rw [<-sr] at q
  exact wpAny_getItem_str_slice (l:=l) (u:=u) (st:=none) hs rfl (post_val_or_str ⟨Nat.le_trans (Txt.slice_le z _ _) hz,λt' k=>⟨.str _,H,I.tok k,⟨_,rfl⟩,q⟩⟩)
 cases pl with
 | none=>cases pu with
  | none=>exact key none none rfl rfl rfl rfl
  | int j u=>exact key none (some (j,u)) rfl rfl rfl rfl
 | int i t=>cases pu with
  | none=>exact key (some (i,t)) none rfl rfl rfl rfl
  | int j u=>exact key (some (i,t)) (some (j,u)) rfl rfl rfl rfl
noncomputable def cQ (f:Ef) (lo hi:Pf):Ef
 | env,st=>(f env st).bind λx=>(lo env x.2).bind λl=>(hi env l.2).bind λu=>match x.1 with
 | .d (.str z)=>if z.length<=1000000 then some (.d (.str (jX z l.1 u.1)),u.2) else none
 | _=>none
theorem cX {lo hi:Option Expr}{fl fh:Pf} (h:IE K X e f) (hl:IO K X lo fl) (hh:IO K X hi fh) (hK:X.K=K:=by rfl):IE K X (.Subscript e (.Slice lo hi none p2) pos) (cQ f fl fh):=by
 subst hK
 refine⟨λenv st r hr=>?_⟩
 simp only [cQ,Option.bind_eq_some_iff] at hr
 obtain⟨⟨x,s1⟩,hx,l,hl',u,hu',hr⟩:=hr
 match x,hr with
 | .d (.str z),hr=>
  dsimp only at hr
  by_cases hz:z.length<=1000000
  case neg=>rw [if_neg hz] at hr;cases hr
  rw [if_pos hz] at hr
  cases hr
  refine (tV xp (h.run _ _ _ hx) (hl.run _ _ _ hl') (hh.run _ _ _ hu')).imp ?_
  rintro σ H Q ⟨φ,hE,hS,q⟩
  refine⟨φ,hE,hS,λv H1 φ1 f1 s1 w1=>⟨φ1,hE.fw hS f1,s1,λH2 φ2 f2 s2=>⟨φ2,(hE.fw hS f1).fw s1 f2,s2,λH3 φ3 f3 s3=>?_⟩⟩⟩
  exact⟨z,w1,by rw [sizeLine_eq];lia,q _ _ φ3 ((f1.trans f2).trans f3) s3 rfl⟩
noncomputable def iTm (g:Str->Str->Option D) (o:Ef) (a:Af):Ef
 | env,st=>(o env st).bind λx=>(a env x.2).bind λr=>match x.1,r.1 with
 | .d (.str s),[.d (.str t)]=>(g s t).map λd=>(.d d,r.2)
 | _,_=>none
noncomputable def rTm (g:Str->Str->Option D):V->List V->Hp->VK->Prop:=λx xs H Q=>∃ z y d v,x=.str z/\xs=[.str y]/\g z y=some d/\nD d=some v/\Q v H
theorem oE {apos:Pos}{name:Str}{id:String}{g:Str->Str->Option D} (slot:Slot "str" name id) (hty:typeOf (.builtin id)=pure (.type "method_descriptor")) (hm:MtR X id (rTm g)) (hf:∀ x y d,g x y=some d->∃ v,nD d=some v)
  (ho:IE K X a fa) (ha:IA K X [e] af) (hbase:attributeBase a name X.env (eval a X.env)=eval a X.env:=by rfl)
  (hall:[e].all bh=true:=by rfl) (hline:(apos.endLine==pos.line)=true:=by rfl) (hK:X.K=K:=by rfl) :
  IE K X (.Call (.Attribute a name apos) [e] [] pos) (iTm g fa af):=by
 subst hK
 have hall2:bh e=true:=by rw [List.all_cons,Bool.and_eq_true] at hall;exact hall.1
 refine⟨λenv st r hr'=>?_⟩
 simp only [iTm,Option.bind_eq_some_iff] at hr'
 obtain⟨⟨x,s1⟩,hx,⟨ws,s2⟩,hw,hr'⟩:=hr'
 match x,ws,hr' with
 | .d (.str z),[.d (.str y)],hr'=>
  obtain⟨d,hd,rfl⟩:=Option.map_eq_some_iff.mp hr'
  obtain⟨v,hv⟩:=hf _ _ _ hd
  refine (tU PySem.F.plainAttrs_str slot hty hm (ho.run _ _ _ hx) (ha.run _ _ _ hw) hbase (lS hall (by show 1 < 30;decide)) hline (cu hall2) (dI rfl)).imp ?_
  rintro σ H Q ⟨φ,hE,hS,q⟩
  refine⟨φ,hE,hS,λv' H1 φ1 f1 S1 w1=>?_⟩
  have w1:v'=.str z:=w1
  subst w1
  refine⟨rfl,φ1,hE.fw hS f1,S1,λus H2 φ2 f2 S2 w2=>?_⟩
  obtain⟨y',us',rfl,ry,rfl⟩:=w2
  have ry:y'=.str y:=ry
  subst ry
  exact⟨z,y,d,v,rfl,rfl,hd,hv,q _ H2 φ2 (f1.trans f2) S2 (qU hv)⟩
noncomputable def iN (x y:Str):Option D:=some (.int (Txt.find x y))
theorem jO:MtR X "str.find" (rTm iN):=by
 intro pins s σ H x xs v us Q I rx rv h
 obtain⟨z,y,d,v',rfl,rfl,hd,hv,q⟩:=h
 cases hd
 cases hv
 obtain⟨t,rfl⟩:=rx
 obtain⟨u,rfl,ru⟩:=rv.one
 obtain⟨t2,rfl⟩:=ru
 exact call_gives PySem.F.slot_str_find (typeIs_str _ _ _) PySem.F.entry_str_find (PySem.F.args_str_find_2 _ _) (gives_str_find z y t t2) ⟨.int _,H,I.tok _,⟨_,rfl⟩,q⟩
theorem hJ:∀ x y d,iN x y=some d->∃ v,nD d=some v:=λx y d h=>by cases h;exact⟨_,rfl⟩
noncomputable def ve (x:Str) (n:Int):Str:=if n < 1 then Str.empty else if (n==1 || x.length==0)=true then x else ⟨(List.replicate n.toNat x.cps).foldl (·++·) #[]⟩
noncomputable def kG (st:Sto) (x y:W):Option D:=match x,y with
 | .d (.str x),.d (.int n)=>if x.length=1/\0<=n/\n<=1000/\(ve x n).length<=1000 then some (.str (ve x n)) else none
 | x,y=>fV st x y
noncomputable def zy:R2:=λx y H Q=>∃ z n,x=.str z/\y=.int n/\z.length=1/\0<=n/\n<=1000/\(ve z n).length<=1000/\Q (.str (ve z n)) H
theorem wG:OpR X (binaryOp .Mult) zy:=by
 intro pins s σ H x y v u Q I rx ry h
 obtain⟨z,n,rfl,rfl,hz,h0,h1,h2,q⟩:=h
 obtain⟨t,rfl⟩:=rx
 obtain⟨t',rfl⟩:=ry
 have hline:=sizeLine_eq
 refine PySem.P.mul_str (by rw [decide_eq_false (by lia),decide_eq_false (by lia)];rfl) (λa b c=>?_) (λa b=>?_) ?_
 ·have h3:(z.length:Int)<=(2 ^ 63 - 1) / n:=by
   rw [Int.le_ediv_iff_mul_le (by lia)]
   rw [hz]
   lia
  lia
 ·unfold Builtin.Str.tooLong
  refine decide_eq_false ?_
  rw [hz];lia
 ·unfold ve at q h2
  by_cases c1:n < 1
  ·rw [if_pos c1] at q ⊢
   exact⟨by show Str.empty.length<=sizeLine;decide,.str _,H,I.tok _,⟨_,rfl⟩,q⟩
  ·rw [if_neg c1] at q h2 ⊢
   by_cases c2:(n==1 || z.length==0)=true
   ·rw [if_pos c2] at q ⊢
    exact⟨.str _,H,I.tok _,⟨_,rfl⟩,q⟩
   ·rw [if_neg c2] at q h2 ⊢
    exact⟨by lia,.str _,H,I.tok _,⟨_,rfl⟩,q⟩
theorem wl (hK:X.K=K:=by rfl):OpD K X (binaryOp .Mult) kG:=by
 refine⟨λst x y d h=>?_⟩
 unfold kG at h
 split at h
 ·rename_i z n
  split at h
  ·rename_i hc
   cases h
   refine wG.imp ?_
   rintro vx vy H Q ⟨φ,S,r1,r2,q⟩
   exact⟨z,n,r1,r2,hc.1,hc.2.1,hc.2.2.1,hc.2.2.2,q _ H (bJ.refl H) rfl⟩
  ·cases h
 ·exact (fU hK).run st x y d h
noncomputable def vY (st:Sto) (x y:W):Option D:=match x,y with
 | .d (.str a),.d (.str b)=>some (.bl (Txt.contains b a))
 | x,y=>dIn st x y
theorem yj:OpR X (compareOp .In) (λx y H Q=>∃ a b,x=.str a/\y=.str b/\Q (.bl (Txt.contains b a)) H):=by
 intro pins s σ H x y v u Q I rx ry h
 obtain⟨a,b,rfl,rfl,q⟩:=h
 obtain⟨t,rfl⟩:=rx
 obtain⟨t',rfl⟩:=ry
 exact PyProof.Rows.in_str ⟨.bl _,H,I,rfl,q⟩
theorem xO (hK:X.K=K:=by rfl):OpD K X (compareOp .In) vY:=by
 refine⟨λst x y d h=>?_⟩
 unfold vY at h
 split at h
 ·rename_i a b
  cases h
  refine yj.imp ?_
  rintro vx vy H Q ⟨φ,S,r1,r2,q⟩
  exact⟨a,b,r1,r2,q _ H (bJ.refl H) rfl⟩
 ·exact (nk hK).run st x y d h
noncomputable def sV (st:Sto):List W->Option D
 | [.d (.str x)]=>if x.length<=640 then (intText? x).map D.int else none
 | ws=>ud st ws
theorem wS:gl K X (.type "int") sV:=by
 refine⟨λst ws d h=>?_⟩
 unfold sV at h
 split at h
 ·rename_i x
  split at h
  ·rename_i hl
   obtain⟨n,hn,rfl⟩:=Option.map_eq_some_iff.mp h
   intro pins s σ H xs us Q I rv q
   obtain⟨φ,S,⟨v,r,rfl,r1,rfl⟩,q⟩:=q
   have r1:v=.str x:=r1
   subst r1
   obtain⟨u,rfl,t,rfl⟩:=ik rv
   exact PySem.W.KIN.call_text hn hl ⟨.int n,H,I.tok _,⟨_,rfl⟩,q _ H (bJ.refl H) rfl⟩
  ·cases h
 ·exact tD.run st _ d h
noncomputable def iI (st:Sto) (ws:List W):Option D:=match ws with
 | [.d (.str x)]=>if (reprText x).length<=sizeLine then some (.str (reprText x)) else none
 | ws=>uf st ws
theorem jA {k:Nat} (hr:cZ k X.A) (hK:X.K=K:=by rfl):gl K X (.builtin "repr") iI:=by
 refine⟨λst ws d h=>?_⟩
 unfold iI at h
 split at h
 ·rename_i x
  by_cases hl:(reprText x).length<=sizeLine
  case neg=>rw [if_neg hl] at h;cases h
  rw [if_pos hl] at h
  cases h
  refine qi.imp ?_
  rintro vs H Q ⟨φ,S,⟨v,r,rfl,r1,rfl⟩,q⟩
  exact⟨x,by rw [show v=.str x from r1],hl,q _ H (bJ.refl H) rfl⟩
 ·exact (sI hr hK).run st ws d h
end
end L2
namespace L2
open PySem PySem.Spec PyProof.Rows
section
variable {K:PySem.W.Frag}{X:Cx}
noncomputable def jQ (st:Sto) (x y:W):Option D:=match x,y with
 | .d (.str a),.d (.str b)=>some (.bl (!Txt.contains b a))
 | x,y=>cA st x y
theorem rH:OpR X (compareOp .NotIn) (λx y H Q=>∃ a b,x=.str a/\y=.str b/\Q (.bl (!Txt.contains b a)) H):=by
 intro pins s σ H x y v u Q I rx ry h
 obtain⟨a,b,rfl,rfl,q⟩:=h
 obtain⟨t,rfl⟩:=rx
 obtain⟨t',rfl⟩:=ry
 exact PyProof.Rows.notIn_str ⟨.bl _,H,I,rfl,q⟩
theorem rQ (hK:X.K=K:=by rfl):OpD K X (compareOp .NotIn) jQ:=by
 refine⟨λst x y d h=>?_⟩
 unfold jQ at h
 split at h
 ·rename_i a b
  cases h
  refine rH.imp ?_
  rintro vx vy H Q ⟨φ,S,r1,r2,q⟩
  exact⟨a,b,r1,r2,q _ H (bJ.refl H) rfl⟩
 ·exact (gk hK).run st x y d h
end
section
variable {X:Cx}{e:Expr}{ty:TE}{p1 p2 p3 p4 dpos apos cpos:Pos}{j1 j2 j3 j4:Nat}
end
section
variable {K:PySem.W.Frag}{X:Cx}{e:Expr}{f:Ef}
end
end L2
namespace HT
open PySem PyProof.Rows
section
open PySem.SeqAt
open PySem.AutoSeq1 (wpAny_loadPart')
open PySem.MeetsSeq PySem.MeetsSeq2 PySem.MeetsSeq3
end
section
variable {prog:Program}{w:World}{A:Around}{E:Value->Shared->Prop}{s:Shared}
end
end HT
namespace PySem
open Sem (wp)
namespace F
end F
end PySem
namespace PySem
open Sem (wp)
namespace F
end F
end PySem
namespace L2
open PySem PySem.Spec PyProof.Rows
section
variable {X:Cx}{pins:List (Addr×Obj)}{σ:St}{H:Hp}{s:Shared}{A:Around}{E:Value->Shared->Prop}
end
section
variable {K:PySem.W.Frag}{X:Cx}{pos:Pos}{e a b o f:Expr}{fe fa fb fo ff:Ef}
end
end L2
namespace L2
open PySem PySem.Spec PyProof.Rows
section
variable {K:PySem.W.Frag}{X:Cx}{pos:Pos}{e a b:Expr}{fe fa:Ef}
end
end L2
namespace L2
open PySem PySem.Spec PyProof.Rows
noncomputable def kv3:List (Key×V):=[(.inr "&",.str "all"),(.inr "|",.str "any"),(.inr "^",.str "odd")]
theorem yp (a b c:Value):merged [] [((Sum.inr "&" : Key),a),(Sum.inr "|",b),(Sum.inr "^",c)]=[((Sum.inr "&" : Key),a),(Sum.inr "|",b),(Sum.inr "^",c)]:=by
 have m12:¬ (Sum.inr ("&" : Str):Key)=Sum.inr ("|" : Str):=by decide
 have m13:¬ (Sum.inr ("&" : Str):Key)=Sum.inr ("^" : Str):=by decide
 have m23:¬ (Sum.inr ("|" : Str):Key)=Sum.inr ("^" : Str):=by decide
 simp [merged,stored,m12,m13,m23]
section
variable {X:Cx}{p1 p2 p3 p4 p5 p6 dpos:Pos}{j1 j2 j3 j4 j5 j6:Nat}
theorem xi:PE X (.Dict [some (.Constant (.str "&") j1 p1),some (.Constant (.str "|") j2 p2),some (.Constant (.str "^") j3 p3)] [.Constant (.str "all") j4 p4,.Constant (.str "any") j5 p5,.Constant (.str "odd") j6 p6] dpos)
  (λ_ H Q=>∀ p,H p=none->Q (.ref p) (upd H p (.dK kv3))):=by
 intro pins s σ H Q I h
 refine wpAny_Dict_walk (knd:=bN X.prog X.w) rfl rfl (by simp) (by simp) ?_
 refine pairTrees_cons_walk (Calls.Constant_str (Calls.Constant_str ?_))
 refine pairTrees_cons_walk (Calls.Constant_str (Calls.Constant_str ?_))
 refine pairTrees_cons_walk (Calls.Constant_str (Calls.Constant_str (pairTrees_nil_walk ?_)))
 refine⟨[(.inr "&",_),(.inr "|",_),(.inr "^",_)],⟨bQ _ _ _ _,rfl,bQ _ _ _ _,rfl,bQ _ _ _ _,rfl,trivial⟩,Heap.DictOf.new s.heap,λh' dd hs=>?_⟩
 have hdn:(s.heap.objs.size==sysModules)=false:=beq_eq_false_iff_ne.mpr (Ne.symm (Nat.ne_of_lt I.bigG))
 have hk:∀ b o,s.heap.get? b=some o->h'.get? b=some o:=λb o q=>(hs.2 b (Nat.ne_of_lt (Heap.lt_size q))).trans (Heap.get?_push_of_some _ q)
 rw [yp] at dd
 refine⟨.ref s.heap.objs.size,upd H s.heap.objs.size (.dK kv3),I.laid hk (Nat.le_refl _) ⟨by show 3<=sizeLine;rw [sizeLine_eq];decide,hdn,_,.cons ⟨rfl,_,rfl⟩ (.cons ⟨rfl,_,rfl⟩ (.cons ⟨rfl,_,rfl⟩ .nil)),dd⟩,rfl,h _ (I.hok.fresh (Nat.le_refl _))⟩
end
theorem vV (z:Str):jc kv3 (Sum.inr z)=if z = "&" then some (.str "all") else if z = "|" then some (.str "any") else if z = "^" then some (.str "odd") else none:=by
 have n:∀ k:Str,(decide ((Sum.inr k:Key)=Sum.inr z))=decide (z=k):=λk=>by
  by_cases e:z=k
  ·subst e;simp
  ·have:¬ (Sum.inr k:Key)=Sum.inr z:=λq=>e (Sum.inr.inj q).symm
   simp [e,this]
 simp only [jc,kv3,List.find?_cons,n,List.find?_nil]
 by_cases e1:z = "&"
 ·rw [if_pos e1,decide_eq_true e1];rfl
 rw [if_neg e1,decide_eq_false e1]
 by_cases e2:z = "|"
 ·rw [if_pos e2,decide_eq_true e2];rfl
 rw [if_neg e2,decide_eq_false e2]
 by_cases e3:z = "^"
 ·rw [if_pos e3,decide_eq_true e3];rfl
 rw [if_neg e3,decide_eq_false e3];rfl
noncomputable def pN (z:Str):Option Str:=if z = "&" then some "all" else if z = "|" then some "any" else if z = "^" then some "odd" else none
noncomputable def pH (z:Str) (x:D):Option D:=match pN z with
 | some w=>some (.tup [.str w,x])
 | none=>if z.length<=640 then (intText? z).map λi=>.tup [.str "least",.int i,x] else none
noncomputable def rE:Sf
 | env,st=>match env with
 | [some (.d (.str z)),some (.d x),none]=>(pH z x).map λd=>.rt (.d d) st
 | _=>none
theorem pq (z:Str):jc kv3 (Sum.inr z)=(pN z).map V.str:=by
 rw [vV]
 unfold pN
 split
 ·rfl
 ·split
  ·rfl
  ·split<;>rfl
section
variable {K:PySem.W.Frag}{X:Cx}{k:Nat}{p1 p2 p3 p4 p5 p6 p7 p8 p9 q1 q2 q3 q4 q5 q6 q7 q8 q9 r1 r2 r3 r4 r5 r6 s1 s2:Pos}{j1 j2 j3 j4 j5 j6 j7 k1 k2:Nat}
set_option maxHeartbeats 2000000 in
theorem tZ (hr:cZ k X.A) (nd:X.N.Nodup) (hN:X.N=[("_law_sign" : Str),"_law_inner","_law_words"]) (v0:Vis X.env.scope "_law_sign") (v1:Vis X.env.scope "_law_inner") (v2:Vis X.env.scope "_law_words") (l2:Loc X.env.scope "_law_words")
  (hf:X.fn "_law_words" = true\/X.env.scope.names.lookup ("_law_words" : Str)=some .local) (hgI:Gl X "int") (hmI:X.mg "int" = none)
  (hs:swapsWith (.Dict [some (.Constant (.str "&") j1 p1),some (.Constant (.str "|") j2 p2),some (.Constant (.str "^") j3 p3)] [.Constant (.str "all") j4 p4,.Constant (.str "any") j5 p5,.Constant (.str "odd") j6 p6] p7) (some (.Name "_law_words" p8)) p9.line X.env=pure false) :
  ISs K X [.Assign [.Name "_law_words" p8] (.Dict [some (.Constant (.str "&") j1 p1),some (.Constant (.str "|") j2 p2),some (.Constant (.str "^") j3 p3)] [.Constant (.str "all") j4 p4,.Constant (.str "any") j5 p5,.Constant (.str "odd") j6 p6] p7) p9,
   .If (.Compare (.Name "_law_sign" q1) [.In] [.Name "_law_words" q2] q3) [.Return (some (.Tuple [.Subscript (.Name "_law_words" q4) (.Name "_law_sign" q5) q6,.Name "_law_inner" q7] k1 q8)) q9] [] r1,
   .Return (some (.Tuple [.Constant (.str "least") j7 r2,.Call (.Name "int" r3) [.Name "_law_sign" r4] [] r5,.Name "_law_inner" r6] k2 s1)) s2] rE:=by
 have hu:=zk hr
 have n0:X.N[0]?=some ("_law_sign" : Str):=by rw [hN];rfl
 have n1:X.N[1]?=some ("_law_inner" : Str):=by rw [hN];rfl
 have n2:X.N[2]?=some ("_law_words" : Str):=by rw [hN];rfl
 refine⟨λenv st r hr=>?_⟩
 unfold rE at hr
 dsimp only at hr
 split at hr
 case h_2=>cases hr
 rename_i z x
 obtain⟨d,hd,rfl⟩:=Option.map_eq_some_iff.mp hr
 unfold pH at hd
 have pz:∀ {p:Pos},PE X (.Name "_law_sign" p) (qg 0):=λ{p}=>mt n0 v0
 have pi:∀ {p:Pos},PE X (.Name "_law_inner" p) (qg 1):=λ{p}=>mt n1 v1
 have pw:∀ {p:Pos},PE X (.Name "_law_words" p) (qg 2):=λ{p}=>mt n2 v2
 cases hw:pN z with
 | some w=>
  rw [hw] at hd
  cases hd
  refine (dN (nH (i:=2) nd n2 l2 xi hs hf) (dN (lr (uq (sW hu pz pw)) (iR (kd (nR (cU (wC hu pw pz (λ_ _=>rfl)) (cU pi iw))))) lp) (dw (sts:=[.Return (some (.Tuple [.Constant (.str "least") j7 r2,.Call (.Name "int" r3) [.Name "_law_sign" r4] [] r5,.Name "_law_inner" r6] k2 s1)) s2])))).imp ?_
  rintro D σ H ⟨φ,hE,hS,q⟩
  obtain⟨vz,ez,rz⟩:=hE.at_ 0 (.d (.str z)) rfl
  have rz:vz=.str z:=rz
  subst rz
  obtain⟨vx,ex,rx⟩:=hE.at_ 1 (.d x) rfl
  intro p hp
  have hlen:σ.length=3:=hE.len.symm
  have g0:(σ.set 2 (some (.ref p)))[0]?=some (some (.str z)):=by rw [List.getElem?_set_ne (by decide)];exact ez
  have g1:(σ.set 2 (some (.ref p)))[1]?=some (some vx):=by rw [List.getElem?_set_ne (by decide)];exact ex
  have g2:(σ.set 2 (some (.ref p)))[2]?=some (some (.ref p)):=by rw [List.getElem?_set_self (by omega)]
  have dg:lI (upd H p (.dK kv3)) p (.str z) (jc kv3 (Sum.inr z)):=lI.k (k:=Sum.inr z) bG
  rw [pq,hw] at dg
  refine⟨_,g0,_,g2,p,_,rfl,dg,true,rfl,?_⟩
  refine pE ?_
  refine⟨_,g2,_,g0,p,_,rfl,dg,_,g1,by show 2<=sizeLine;rw [sizeLine_eq];decide,λt ht=>?_⟩
  have f1:=Fw.new (φ:=φ) (o:=.dK kv3) hp
  have f2:=Fw.new (φ:=φ) (o:=.tup [.str w,vx]) ht
  refine q _ _ φ (f1.trans f2) ((hS.new hp).new ht) ⟨t,_,rfl,bG,_,_,rfl,rfl,_,_,rfl,(rx.fw hS f1).fw (hS.new hp) f2,rfl⟩
 | none=>
  rw [hw] at hd
  have hd:(if z.length<=640 then (intText? z).map λi=>D.tup [.str "least",.int i,x] else none)=some d:=hd
  by_cases hl:z.length<=640
  case neg=>rw [if_neg hl] at hd;cases hd
  rw [if_pos hl] at hd
  obtain⟨n,hn,rfl⟩:=Option.map_eq_some_iff.mp hd
  have hc:sV st [.d (.str z)]=some (.int n):=by
   show (if z.length<=640 then (intText? z).map D.int else none)=_
   rw [if_pos hl,hn];rfl
  refine (dN (nH (i:=2) nd n2 l2 xi hs hf) (dN (lr (uq (sW hu pz pw)) (dw (sts:=[.Return (some (.Tuple [.Subscript (.Name "_law_words" q4) (.Name "_law_sign" q5) q6,.Name "_law_inner" q7] k1 q8)) q9])) lp) (iR (kd (nR (cU qd (cU (kn ((wS (K:=K)).run st [.d (.str z)] _ hc) hgI hmI PyProof.Rows.boot_int (cU pz iw)) (cU pi iw)))))))).imp ?_
  rintro D σ H ⟨φ,hE,hS,q⟩
  obtain⟨vz,ez,rz⟩:=hE.at_ 0 (.d (.str z)) rfl
  have rz:vz=.str z:=rz
  subst rz
  obtain⟨vx,ex,rx⟩:=hE.at_ 1 (.d x) rfl
  intro p hp
  have hlen:σ.length=3:=hE.len.symm
  have g0:(σ.set 2 (some (.ref p)))[0]?=some (some (.str z)):=by rw [List.getElem?_set_ne (by decide)];exact ez
  have g1:(σ.set 2 (some (.ref p)))[1]?=some (some vx):=by rw [List.getElem?_set_ne (by decide)];exact ex
  have g2:(σ.set 2 (some (.ref p)))[2]?=some (some (.ref p)):=by rw [List.getElem?_set_self (by omega)]
  have dg:lI (upd H p (.dK kv3)) p (.str z) (jc kv3 (Sum.inr z)):=lI.k (k:=Sum.inr z) bG
  rw [pq,hw] at dg
  refine⟨_,g0,_,g2,p,_,rfl,dg,false,rfl,?_⟩
  refine mv ?_
  have f1:=Fw.new (φ:=φ) (o:=.dK kv3) hp
  refine⟨_,g0,φ,hS.new hp,⟨_,_,rfl,rfl,rfl⟩,λu H2 sm ru=>?_⟩
  have ru:u=.int n:=ru
  subst ru
  refine⟨_,g1,by show 3<=sizeLine;rw [sizeLine_eq];decide,λt ht=>?_⟩
  have f2:=Fw.new (φ:=φ) (o:=.tup [.str "least",.int n,vx]) ht
  refine q _ _ φ ((f1.trans (Fw.same sm)).trans f2) (((hS.new hp).same sm).new ht) ⟨t,_,rfl,bG,_,_,rfl,rfl,_,_,rfl,rfl,_,_,rfl,((rx.fw hS f1).fw (hS.new hp) (Fw.same sm)).fw ((hS.new hp).same sm) f2,rfl⟩
end
end L2
namespace L2
open PySem PySem.Spec PyProof.Rows
section
variable {K:PySem.W.Frag}{X:Cx}
noncomputable def dO (st:Sto):List W->Option (List D)
 | [.d (.str x)]=>if x.cps.size<=1000000 then some (sj x) else none
 | _=>none
theorem pe {H:Hp}{φ:List Addr}:∀ (cs:List Nat),Rls K H φ (cs.map λc=>D.str (rO c)) (cs.map λc=>V.str (rO c))
 | []=>rfl
 | c::cs=>⟨_,_,rfl,rfl,pe cs⟩
theorem lA:∀ (cs:List Nat) (vs:List Value),vs.length=cs.length->(∀ (j:Nat) (v:Value),vs[j]?=some v->∃ c u,cs[j]?=some c/\v=.str ⟨#[c]⟩ u)->bx (cs.map λc=>V.str (rO c)) vs
 | [],[],_,_=>.nil
 | c::cs,v::vs,hl,h=>by
  obtain⟨c',u,hc,rfl⟩:=h 0 v rfl
  cases hc
  exact .cons ⟨u,rfl⟩ (lA cs vs (by simpa using hl) λj v' hj=>h (j+1) v' hj)
theorem jI {k:Nat} (hr:cZ k X.A):xk K X (.type "list") dO:=by
 refine⟨λst ws d h=>?_⟩
 match ws,h with
 | [.d (.str x)],h=>
  dsimp only [dO] at h
  by_cases hl:x.cps.size<=1000000
  case neg=>rw [if_neg hl] at h;cases h
  rw [if_pos hl] at h
  cases h
  intro pins s σ H xs us Q I rv q
  obtain⟨φ,S,⟨v,r,rfl,r1,rfl⟩,q⟩:=q
  have r1:v=.str x:=r1
  subst r1
  obtain⟨u,rfl,t,rfl⟩:=ik rv
  refine call_list_str hr.hd x t (λh' tk acc c kp e hac=>?_) (by rw [sizeLine_eq];lia)
  have hv:bx (x.cps.toList.map λc=>V.str (rO c)) acc.toList:=lA _ _ (by rw [Array.length_toList,Array.length_toList,hac.1]) λj v hj=>by
   obtain⟨c,u,hc,e⟩:=hac.2 j v (by simpa using hj)
   exact⟨c,u,by simpa using hc,e⟩
  refine⟨.ref s.heap.objs.size,_,I.laid (t':=tk) kp (Nat.le_refl _) (show cP X.prog X.w _ h' _ (.lst (x.cps.toList.map λc=>V.str (rO c))) from ⟨by rw [List.length_map,Array.length_toList,sizeLine_eq];lia,acc.toList,c,hv,by simpa using e⟩),rfl,?_⟩
  exact q _ _ H (bJ.refl H) (I.hok.fresh (Nat.le_refl _)) (pe _)
noncomputable def kH (st:Sto):List W->Option D
 | [.d (.int i)]=>if i.natAbs.log2 < 1920 then some (.str (toString i)) else none
 | [.d (.tup ds)]=>gp st [.d (.tup ds)]
 | _=>none
theorem wu {k:Nat} (hr:cZ k X.A) (hK:X.K=K:=by rfl):gl K X (.type "str") kH:=by
 subst hK
 refine⟨λst ws d h=>?_⟩
 match ws,h with
 | [.d (.tup ds)],h=>
  have h':gp st [.d (.tup ds)]=some d:=h
  simp only [gp] at h'
  split at h'
  ·rename_i hc
   cases h'
   intro pins s σ H xs us Q I rv q
   obtain⟨φ,S,⟨v,r,rfl,r1,rfl⟩,q⟩:=q
   obtain⟨u,rfl,ru⟩:=ik rv
   obtain⟨as,rd⟩:=lG I (.tup ds) v u hc.1 r1 ru
   obtain⟨a,vs,rfl,_⟩:=r1
   cases ru
   obtain⟨b1,b2,b3⟩:=ot (.tup ds) hc.1
   have hl:=lM (.tup ds) hc.1
   have hun:=hr.units
   refine str_of_reads rd b1 (PyData.noDict_hsm b2) hr.gd (by lia) (λ_ _ e=>e) (λh' u tk hk=>⟨.str _,H,I.kept (t':=tk) hk,⟨u,rfl⟩,q _ H (bJ.refl H) rfl⟩) ?_
   rw [sizeLine_eq];lia
  ·cases h'
 | [.d (.int i)],h=>exact x9.run st _ d h
end
end L2
namespace L2
open PySem PySem.Spec PyProof.Rows
noncomputable def ExT (N:Addr->Prop) (H:Hp) (h:Heap) (C:Value) (e:Addr):Prop:=
 N e/\H e=none/\∃ oe vs T oT ts fl,h.get? e=some oe/\oe.cls=C/\oe.data=.fields vs/\vs[1]?=some (.ref T)/\N T/\H T=none/\T≠e/\h.get? T=some oT/\oT.data=.fields ts/\ts[3]?=some fl
noncomputable def Ex (N:Addr->Prop) (H:Hp) (h:Heap) (C:Value) (e:Addr):Prop:=
 (N e/\H e=none/\∃ oe vs,h.get? e=some oe/\oe.cls=C/\oe.data=.fields vs/\vs[1]?=some .none)\/ExT N H h C e
theorem ExT.ex {N:Addr->Prop}{H:Hp}{h:Heap}{C:Value}{e:Addr} (x:ExT N H h C e):Ex N H h C e:=.inr x
theorem ExT.imp {N N':Addr->Prop}{H:Hp}{h:Heap}{C:Value}{e:Addr} (f:∀ a,N a->N' a) (x:ExT N H h C e):ExT N' H h C e:=by
 obtain⟨a,b,oe,vs,T,oT,ts,fl,h1,h2,h3,h4,h5,h6⟩:=x
 exact⟨f _ a,b,oe,vs,T,oT,ts,fl,h1,h2,h3,h4,f _ h5,h6⟩
theorem Ex.imp {N N':Addr->Prop}{H:Hp}{h:Heap}{C:Value}{e:Addr} (f:∀ a,N a->N' a) (x:Ex N H h C e):Ex N' H h C e:=by
 rcases x with⟨a,b,x⟩ | x
 ·exact .inl ⟨f _ a,b,x⟩
 ·exact .inr (x.imp f)
structure Chg (N:Addr->Prop) (H:Hp) (fs:List Addr) (h h':Heap):Prop where
 keep:∀ b o,h.get? b=some o->b ∉ fs->(N b->(∀ vs,o.data≠.fields vs)\/H b≠none)->h'.get? b=some o
 slot:∀ b o,h.get? b=some o->b ∈ fs->∃ sl,h'.get? b=some { o with slots:=sl }
 there:∀ b o,h.get? b=some o->∃ o',h'.get? b=some o'
theorem Chg.refl {N:Addr->Prop}{H:Hp}{fs:List Addr}{h:Heap}:Chg N H fs h h:=⟨λ_ _ e _ _=>e,λ_ o e _=>⟨o.slots,e⟩,λ_ o e=>⟨o,e⟩⟩
theorem Chg.trans {N:Addr->Prop}{H:Hp}{fs:List Addr}{h h1 h2:Heap} (a:Chg N H fs h h1) (b:Chg N H fs h1 h2):Chg N H fs h h2:=
 ⟨λc o e hf hn=>b.keep c o (a.keep c o e hf hn) hf hn,λc o e hf=>by
  obtain⟨sl,e1⟩:=a.slot c o e hf
  obtain⟨sl',e2⟩:=b.slot c _ e1 hf
  exact⟨sl',e2⟩,λc o e=>by
  obtain⟨o',e1⟩:=a.there c o e
  exact b.there c o' e1⟩
section
variable {M:Model}{A:Around}{E:Value->Shared->Prop}{s:Shared}{N:Addr->Prop}{H:Hp}{C:Value}{e:Addr}{fs:List Addr}
theorem kq {fr:Option Addr}{Q:Unit->Shared->Prop} (hfs:∀ b ∈ fs,∃ o,s.heap.get? b=some o/\∀ vs,o.data≠.fields vs) (x:ExT N H s.heap C e)
  (hQ:∀ h',Chg N H fs s.heap h'->ExT N H h' C e->Q () { s with heap:=h' }):wpAny M A (setFlight (.ref e) fr) Q E s:=by
 obtain⟨nE,tE,oe,vs,T,oT,ts,fl,he,hc,hd,h1,nT,tT,hTe,hT,hdT,h3⟩:=x
 have hsz:3 < ts.size:=(Array.getElem?_eq_some_iff.mp h3).1
 unfold setFlight
 refine wpAny_bind (wpAny_field he hd h1 ?_)
 rw [if_pos (show (Value.ref T != Value.none)=true from by simp)]
 generalize (fr.elim Value.none λf=>rawInt f)=fv
 refine wpAny_setField hT hdT hsz (hQ _ ⟨λb o hb hf hn=>?_,λb o hb hf=>?_,λb o hb=>?_⟩ ?_)
 ·have:b≠T:=λz=>by
   subst z
   rw [hT] at hb;cases hb
   rcases hn nT with q | q
   ·exact q ts hdT
   ·exact q tT
  rw [Heap.get?_update_other _ _ (Ne.symm this)];exact hb
 ·have:b≠T:=λz=>by
   subst z
   obtain⟨o',e1,e2⟩:=hfs b hf
   rw [hT] at e1;cases e1
   exact e2 ts hdT
  exact⟨o.slots,by rw [Heap.get?_update_other _ _ (Ne.symm this)];exact hb⟩
 ·by_cases hbT:b=T
  ·subst hbT
   exact⟨_,Heap.get?_update_self _ hT (Obj.isFreed_of_fields (Obj.data_mapFields hdT _))⟩
  ·exact⟨o,by rw [Heap.get?_update_other _ _ (Ne.symm hbT)];exact hb⟩
 ·refine⟨nE,tE,oe,vs,T,_,_,fv,by rw [Heap.get?_update_other _ _ hTe];exact he,hc,hd,h1,nT,tT,hTe,Heap.get?_update_self _ hT (Obj.isFreed_of_fields (Obj.data_mapFields hdT _)),Obj.data_mapFields hdT _,?_⟩
  simp [hsz]
theorem rm {env:Env}{outer:List Env}{base:Heap}{L:Addr}{Q:Unit->Shared->Prop} (hfr:A.frames=some (env::outer)) (hl:s.heap.FunFrames base (env::outer)) (hf:env.frame=some L)
  (hN:∀ a,s.heap.get? a=none->N a) (hH:H s.heap.objs.size=none) (x:Ex N H s.heap C e)
  (hQ:∀ h',Chg N H (frs (env::outer)) s.heap h'->ExT N H h' C e->Q () { s with heap:=h' }):wpAny M A (noteFrame (.ref e) env) Q E s:=by
 have hfs:∀ b ∈ frs (env::outer),∃ o,s.heap.get? b=some o/\∀ vs,o.data≠.fields vs:=λb hb=>(hl.mem hb).2
 -- a new head of the trace
 have go:∀ (s1:Shared) (head:Value) (hn:Bool) (oe:Obj) (vs:Array Value),s1.heap.FunFrames base (env::outer)->s1.heap.objs.size=s.heap.objs.size->Chg N H (frs (env::outer)) s.heap s1.heap->{ s1 with heap:=s.heap }=s->N e->H e=none->
   s1.heap.get? e=some oe->oe.cls=C->oe.data=.fields vs->1 < vs.size->
   wpAny M A (do let a <-frameOf env;let pl <-entryPlaceOf L hn;let b <-EntryCells.newEntry head a .none (rawInt L) .none pl;setField (.ref e) 1 b) Q E s1:=by
  intro s1 head hn oe vs hl1 hsz0 c1 hs1 nE tE he hc hd hsz
  refine wpAny_bind (wpAny_frameOf_fun hfr hl1 hf λh₁ hs₁=>?_)
  refine wpAny_bind (wpAny_entryPlaceOf λpl hpl=>?_)
  unfold EntryCells.newEntry newFields
  refine wpAny_bind (wpAny_newObj_type ?_ (hpl.sizeOk5 _ _ _ _ _))
  have hene:e ∉ (env::outer).filterMap (·.frame):=λhm=>by
   obtain⟨_,o,ho,hnf⟩:=hl1.mem hm
   rw [he] at ho;cases ho;exact hnf vs hd
  have he₁:h₁.get? e=some oe:=(hs₁.2.1 e hene).trans he
  have hsz1:h₁.objs.size=s.heap.objs.size:=hs₁.1.trans hsz0
  generalize hnew:({ cls:=.type "traceback",dict:=none,data:=.fields ([head,.ref L,.none,rawInt L,.none]++(if pl.isEmpty then List.replicate 6 Value.none else pl)).toArray }:Obj)=ob
  have he₂:=Heap.get?_push_of_some (h:=h₁) ob he₁
  refine wpAny_setField he₂ hd hsz ?_
  have hTe:h₁.objs.size≠e:=Nat.ne_of_gt (Heap.lt_size he₁)
  have hd₃:=Obj.data_mapFields hd (·.setIfInBounds 1 (Value.ref h₁.objs.size))
  have he₃:=Heap.get?_update_self (Obj.mapFields (·.setIfInBounds 1 (Value.ref h₁.objs.size))) he₂ (Obj.isFreed_of_fields hd₃)
  have hT₃:((h₁.push ob).update e (Obj.mapFields (·.setIfInBounds 1 (Value.ref h₁.objs.size)))).get? h₁.objs.size=some ob:=by
   rw [Heap.get?_update_other _ _ (Ne.symm hTe)]
   exact Heap.get?_push_size h₁ (by rw [<-hnew];rfl)
  have other:∀ b o,b≠e->h₁.get? b=some o->((h₁.push ob).update e (Obj.mapFields (·.setIfInBounds 1 (Value.ref h₁.objs.size)))).get? b=some o:=λb o hbe hb=>by
   rw [Heap.get?_update_other _ _ (Ne.symm hbe)];exact Heap.get?_push_of_some _ hb
  have hTn:s.heap.get? h₁.objs.size=none:=by
   rw [hsz1]
   cases q:s.heap.get? s.heap.objs.size with
   | none=>rfl
   | some o=>exact absurd (Heap.lt_size q) (Nat.lt_irrefl _)
  have hst:∀ h',{ s1 with heap:=h' }={ s with heap:=h' }:=λh'=>by rw [<-hs1]
  rw [hst]
  refine hQ _ ⟨λb o hb hfb hnb=>?_,λb o hb hfb=>?_,λb o hb=>?_⟩ ⟨nE,tE,_,_,h₁.objs.size,_,_,rawInt L,he₃,by rw [Obj.cls_mapFields];exact hc,hd₃,by simp [hsz],hN _ hTn,by rw [hsz1];exact hH,hTe,hT₃,by rw [<-hnew],?_⟩
  ·have b1:=c1.keep b o hb hfb hnb
   refine other b o (λz=>?_) ((hs₁.2.1 b hfb).trans b1)
   subst z
   rw [he] at b1;cases b1
   rcases hnb nE with q | q
   ·exact q vs hd
   ·exact q tE
  ·obtain⟨sl,b1⟩:=c1.slot b o hb hfb
   obtain⟨sl',b2⟩:=hs₁.2.2 b _ b1
   exact⟨sl',other b _ (λz=>hene (z ▸ hfb)) b2⟩
  ·obtain⟨o1,b1⟩:=c1.there b o hb
   obtain⟨sl',b2⟩:=hs₁.2.2 b _ b1
   by_cases hbe:b=e
   ·subst hbe;exact⟨_,he₃⟩
   ·exact⟨_,other b _ hbe b2⟩
  ·first | (simp;done) | (rcases hpl with rfl | ⟨_,_,_,_,_,_,_,rfl⟩<;>simp)
 rcases x with⟨nE,tE,oe,vs,he,hc,hd,h1⟩ | ⟨nE,tE,oe,vs,T,oT,ts,fl,he,hc,hd,h1,nT,tT,hTe,hT,hdT,h3⟩
 ·unfold noteFrame
  simp only [hf]
  refine wpAny_bind (wpAny_field he hd h1 ?_)
  rw [if_neg (by decide)]
  exact go s _ _ oe vs hl rfl .refl rfl nE tE he hc hd (Array.getElem?_eq_some_iff.mp h1).1
 ·have hsz:3 < ts.size:=(Array.getElem?_eq_some_iff.mp h3).1
  unfold noteFrame
  simp only [hf]
  refine wpAny_bind (wpAny_field he hd h1 ?_)
  rw [if_pos (show (Value.ref T != Value.none)=true from by simp)]
  refine wpAny_bind (wpAny_field hT hdT h3 ?_)
  by_cases hfl:(fl==rawInt L)=true
  ·rw [if_pos hfl]
   exact wpAny_pure (hQ _ .refl ⟨nE,tE,oe,vs,T,oT,ts,fl,he,hc,hd,h1,nT,tT,hTe,hT,hdT,h3⟩)
  ·rw [if_neg hfl]
   refine wpAny_bind (wpAny_setField hT hdT hsz ?_)
   have other:∀ b,b≠T->(s.heap.update T (Obj.mapFields (·.setIfInBounds 3 Value.none))).get? b=s.heap.get? b:=λb hb=>Heap.get?_update_other _ _ (Ne.symm hb)
   have nfT:∀ b o,s.heap.get? b=some o->(∀ vs,o.data≠.fields vs)->b≠T:=λb o hb hnf z=>by
    subst z;rw [hT] at hb;cases hb;exact hnf ts hdT
   refine go _ _ _ oe vs (hl.of_keeps λb o hb hnf=>⟨o,(other b (nfT b o hb hnf)).trans hb,rfl⟩) ?_ ⟨λb o hb hfb hnb=>?_,λb o hb hfb=>?_,λb o hb=>?_⟩ rfl nE tE ((other e (Ne.symm hTe)).trans he) hc hd (Array.getElem?_eq_some_iff.mp h1).1
   ·exact Heap.size_after_update ..
   ·refine (other b λz=>?_).trans hb
    subst z
    rw [hT] at hb;cases hb
    rcases hnb nT with q | q
    ·exact q ts hdT
    ·exact q tT
   ·obtain⟨o',e1,e2⟩:=hfs b hfb
    rw [hb] at e1;cases e1
    exact⟨o.slots,(other b (nfT b o hb e2)).trans hb⟩
   ·by_cases hbT:b=T
    ·subst hbT
     exact⟨_,Heap.get?_update_self _ hT (Obj.isFreed_of_fields (Obj.data_mapFields hdT _))⟩
    ·exact⟨o,(other b hbT).trans hb⟩
theorem uo {env:Env}{outer:List Env}{base:Heap}{L:Addr}{Q:Unit->Shared->Prop} (hfr:A.frames=some (env::outer)) (hl:s.heap.FunFrames base (env::outer)) (hf:env.frame=some L)
  (hN:∀ a,s.heap.get? a=none->N a) (hH:H s.heap.objs.size=none) (x:Ex N H s.heap C e)
  (hQ:∀ h',Chg N H (frs (env::outer)) s.heap h'->ExT N H h' C e->Q () { s with heap:=h' }):wpAny M A (leaving env (.ref e)) Q E s:=by
 unfold leaving
 refine wpAny_bind (rm hfr hl hf hN hH x λh1 c1 x1=>?_)
 refine kq (s:={ s with heap:=h1 }) (fs:=frs (env::outer)) (λb hb=>?_) x1 λh2 c2 x2=>hQ h2 (c1.trans c2) x2
 obtain⟨o,ho,hd⟩:=(hl.mem hb).2
 obtain⟨sl,e1⟩:=c1.slot b o ho hb
 exact⟨_,e1,hd⟩
end
end L2
namespace L2
open PySem PySem.Spec PyProof.Rows
noncomputable def vQ (X:Cx) (a:Addr):Prop:=(X.s₀.heap.get? a=none\/a ∈ X.ex)/\∀ p ∈ X.pn,p.1≠a
theorem Inv.new {X:Cx}{pins:List (Addr×Obj)}{σ:St}{H:Hp}{s:Shared} (I:Inv X pins σ H s) {a:Addr} (h:s.heap.get? a=none):vQ X a:=by
 refine⟨?_,λp hp z=>?_⟩
 ·by_cases hx:a ∈ X.ex
  ·exact .inr hx
  ·refine .inl ?_
   cases q:X.s₀.heap.get? a with
   | none=>rfl
   | some o=>
    obtain⟨o',e⟩:=I.base.there a o q hx
    rw [h] at e;cases e
 ·have:=(I.pin p (List.mem_append_left _ hp)).1
  rw [z,h] at this;cases this
noncomputable def XE (X:Cx) (C:Value) (H':Hp):Prop:=∀ e pins σ' s',Inv X pins σ' H' s'->Ex (vQ X) H' s'.heap C e->X.xe (.ref e) s'
noncomputable def CX1 (P:Program) (w:World) (C:Value):CXT:=λouter H s E e s'=>∃ a H',e=.ref a/\s'.os=s.os/\AllBare s'.gens/\Un (frs outer) [] H H' s.heap s'.heap/\HOk P w H' s'.heap/\Ex (λb=>s.heap.get? b=none) H' s'.heap C a/\E e none H'
noncomputable def EX (X:Cx) (C:Value):XK:=λ_ _ H'=>XE X C H'
theorem yW {X:Cx}{C:Value}:nr (CX1 X.prog X.w C) X (EX X C):=λpins σ H s e s' I h=>by
 obtain⟨a,H',rfl,os,bare,un,hok,x,q⟩:=h
 exact q a pins σ s' (I.call' (ch:=[]) os un hok bare (λb z=>absurd z (by simp))) (x.imp λb hb=>I.new hb)
theorem Chg.hok {P:Program}{w:World}{N:Addr->Prop}{H:Hp}{fs:List Addr}{h h':Heap} (x:HOk P w H h) (hf:∀ b ∈ fs,H b=none) (c:Chg N H fs h h'):HOk P w H h':=λa o e=>by
 refine (x a o e).stay (λb u hb q=>c.keep b u q (λz=>?_) λ_=>.inr ?_) (λ_ q=>q) λ_ _ q=>q
 ·have:=hf b z
  rcases hb with rfl | hb
  ·rw [e] at this;cases this
  ·rw [hb] at this;cases this
 ·rcases hb with rfl | hb
  ·rw [e];intro z;cases z
  ·rw [hb];intro z;cases z
theorem zY {P:Program}{w:World}{K:PySem.W.Frag}{mg:Str->Option Value}{base:Heap}{N:List Str}{qual:Str}{scope:Scope}{f:Addr}{cd:Value}{A:Around}{outer:List Env}{s:Shared}{H H':Hp}{E:XK}{C:Value}
  (hE:∀ a,E (.ref a) none H'):XE (ir (CX1 P w C) P w K mg base N qual scope f cd A outer s H E) C H':=by
 intro e pins σ' s' I x
 show wpAny (model P w) (A.deeper (envOfC qual scope s.heap.objs.size f cd)) (leaving (envOfC qual scope s.heap.objs.size f cd) (.ref e)) _ _ s'
 refine uo (base:=base) I.ok.frames I.stack rfl (λa h=>I.new h) (I.hok.fresh (Nat.le_refl _)) x λh' c x'=>?_
 have old:∀ b o,s.heap.get? b=some o->¬ vQ (ir (CX1 P w C) P w K mg base N qual scope f cd A outer s H E) b:=λb o q z=>by
  rcases z.1 with z | z
  ·have z':s.heap.get? b=none:=z
   rw [q] at z';cases z'
  ·exact absurd (show b ∈ ([]:List Addr) from z) (by simp)
 have nL:∀ b o,s.heap.get? b=some o->b ∉ frs outer->b ∉ frs (envOfC qual scope s.heap.objs.size f cd::outer):=λb o q hb z=>by
  unfold frs at z
  rw [List.filterMap_cons] at z
  rcases List.mem_cons.mp z with z | z
  ·exact absurd (Heap.lt_size q) (by rw [z];exact Nat.lt_irrefl _)
  ·exact hb z
 have inL:∀ b,b ∈ frs outer->b ∈ frs (envOfC qual scope s.heap.objs.size f cd::outer):=λb hb=>by
  unfold frs
  rw [List.filterMap_cons]
  exact List.mem_cons_of_mem _ hb
 refine⟨e,H',rfl,I.os,I.bare,⟨λb o q n hb hx=>?_,λb o q n hb hx=>?_,I.base.free,λb o q hx=>?_,I.base.tups,I.base.frzs,I.base.tbls⟩,c.hok I.hok I.stkFree,x'.ex.imp λa z=>?_,hE e⟩
 ·exact c.keep b o (I.base.keep b o q n hb hx) (nL b o q hb) λz=>absurd z (old b o q)
 ·obtain⟨sl,q1⟩:=I.base.slot b o q n hb hx
  obtain⟨sl',q2⟩:=c.slot b _ q1 (inL b hb)
  exact⟨sl',q2⟩
 ·obtain⟨o1,q1⟩:=I.base.there b o q hx
  exact c.there b o1 q1
 ·rcases z.1 with z | z
  ·exact z
  ·exact absurd (show a ∈ ([]:List Addr) from z) (by simp)
abbrev Rf:=Ev->Sto->Option Sto
abbrev Rn:=List W->Sto->Option Sto
noncomputable def tX (K:PySem.W.Frag) (X:Cx) (C:Value) (env:Ev) (st st':Sto) (σ:St) (H:Hp):Prop:=∃ φ,Er K H φ env σ/\Sr K H φ st/\∀ H' φ',Fw φ φ' H H'->Sr K H' φ' st'->XE X C H'
structure RE (K:PySem.W.Frag) (X:Cx) (C:Value) (e:Expr) (f:Rf):Prop where
 run:∀ env st st',f env st=some st'->PE X e (λσ H _=>tX K X C env st st' σ H)
structure RA (K:PySem.W.Frag) (X:Cx) (C:Value) (es:List Expr) (f:Rf):Prop where
 run:∀ env st st',f env st=some st'->PA X es (λσ H _=>tX K X C env st st' σ H)
structure RS (K:PySem.W.Frag) (X:Cx) (C:Value) (s:Stmt) (f:Rf):Prop where
 run:∀ env st st',f env st=some st'->PS X s (λ_ σ H=>tX K X C env st st' σ H)
structure RSs (K:PySem.W.Frag) (X:Cx) (C:Value) (s:List Stmt) (f:Rf):Prop where
 run:∀ env st st',f env st=some st'->PSs X s (λ_ σ H=>tX K X C env st st' σ H)
noncomputable def xNo:Rf
 | _,_=>none
noncomputable def eV (xa:Rf) (a:Sf) (xb:Rf):Rf
 | env,st=>match xa env st with
 | some s=>some s
 | none=>(a env st).bind λr=>match r with
  | .nx e s=>xb e s
  | _=>none
noncomputable def xIf (c:Tf) (xa xb:Rf):Rf
 | env,st=>(c env st).bind λr=>if r.1=true then xa env r.2 else xb env r.2
noncomputable def iA (m:Rn) (a:Af):Rf
 | env,st=>(a env st).bind λr=>m r.1 r.2
noncomputable def eI (c:Tf) (b:Sf) (xb:Rf):Nat->Ev->Sto->Option Sto
 | 0,_,_=>none
 | n+1,env,st=>(c env st).bind λk=>if k.1=true then (match xb env k.2 with
   | some s=>some s
   | none=>(b env k.2).bind λr=>match r with
    | .nx e s=>eI c b xb n e s
    | .ct e s=>eI c b xb n e s
    | _=>none)
  else none
noncomputable def nZ (n:Nat) (c:Tf) (b:Sf) (xb:Rf):Rf
 | env,st=>eI c b xb n env st
noncomputable def oP (n k:Nat) (b:Rf):Rn
 | ws,st=>if ws.length=k then (b (ws.map some++List.replicate (n - k) none) st).map λs=>s.take st.length else none
noncomputable def spX (K:PySem.W.Frag) (m:Rn):Sp:=λvs H _ E=>∃ φ st ws st',m ws st=some st'/\Rws K H φ ws vs/\Sr K H φ st/\∀ e H' φ',Fw φ φ' H H'->Sr K H' φ' st'->E (.ref e) none H'
section
variable {K:PySem.W.Frag}{X:Cx}{C:Value}{e a b c:Expr}{es:List Expr}{s:Stmt}{ss rest:List Stmt}{pos:Pos}{f fa fb:Rf}{af:Af}{ef:Ef}{sf:Sf}{tc:Tf}
theorem PA.nox {t:TA} (h:PA X.nox es t):PA X es t:=λpos pins s σ H Q I hw=>
 wpAny_mono (h pos pins s σ H Q (I.wish _) hw) (λ_ _ ⟨v,H',I',r,q⟩=>⟨v,H',I'.unwish,r,q⟩) λ_ _ z=>False.elim z
theorem PS.nox {t:TS} (h:PS X.nox s t):PS X s t:=λpins s σ H D I hw=>
 wpAny_mono (h pins s σ H D (I.wish _) hw) (λ_ _ q=>q.unwish) λ_ _ z=>False.elim z
theorem uD:PA X es (λ_ _ _=>False):=λ_ _ _ _ _ _ _ q=>q.elim
theorem i9:RS K X C s xNo:=⟨λ_ _ _ h=>nomatch h⟩
theorem gH:RSs K X C ss xNo:=⟨λ_ _ _ h=>nomatch h⟩
theorem iW {x:Str}{k j:Nat}{ff:Addr}{fd:FuncData}{ps:List Str}{m:Rn}{p:Pos} (F:bD X.prog X.w X.K X.mg X.base (CX1 X.prog X.w C) j ff fd ps (spX K m)) (hjk:j<=k) (hr:cZ k X.A) (hg:Gl X x) (hm:X.mg x=some (.ref ff)) (hk:PySem.W.keepIn X.K (.ref ff)=true) (hb:cw X.K fd ps [])
  (ha:IA K X.nox (e::es) af) (hdb:(x==("__debug__" : Str))=false:=by decide) (hs:bh e=true:=by rfl) (hp:es.all bh=true:=by rfl) :
  RE K X C (.Call (.Name x p) (e::es) [] pos) (iA m af):=by
 refine⟨λenv st st' h=>?_⟩
 simp only [iA,Option.bind_eq_some_iff] at h
 obtain⟨y,hy,h⟩:=h
 refine (qK (F.mono hjk) hr hg hm hk hb .nil yW (ha.run _ _ _ hy).nox hdb (cu hs) (dI hp)).imp ?_
 rintro σ H Q ⟨φ,hE,hS,q⟩
 refine⟨φ,hE,hS,λvs H1 φ1 f1 s1 w1=>?_⟩
 show spX K m (vs++[]) H1 Q (EX X C)
 rw [List.append_nil]
 exact⟨φ1,y.2,y.1,st',h,w1,s1,λ_ H2 φ2 f2 s2=>q H2 φ2 (f1.trans f2) s2⟩
theorem wI (h:RE K X C e f) (hs:bh e=true:=by rfl):RA K X C (e::es) f:=
 ⟨λenv st st' hf=>(cU (h.run _ _ _ hf) uD (cu hs)).imp λσ H Q q=>q⟩
theorem xM (h:RA K X C es f):RE K X C (.List es pos) f:=⟨λenv st st' hf=>(t9 (h.run _ _ _ hf)).imp λσ H Q q=>q⟩
theorem lw {i:Nat}{x:Str}{pos':Pos} (hN:X.N.Nodup) (hi:X.N[i]?=some x) (hx:Loc X.env.scope x) (he:RE K X C e f) (hs:swapsWith e (some (.Name x pos')) pos.line X.env=pure false:=by rfl) (hf:X.fn x=true\/X.env.scope.names.lookup x=some .local:=by first | exact .inl rfl | exact .inr rfl | assumption) :
  RS K X C (.Assign [.Name x pos'] e pos) f:=⟨λenv st st' h=>(nH hN hi hx (he.run _ _ _ h) hs hf).imp λD σ H q=>q⟩
theorem yH (he:RE K X C e f):RS K X C (.Return (some e) pos) f:=⟨λenv st st' h=>(kd (he.run _ _ _ h)).imp λD σ H q=>q⟩
theorem mK (hc:IT K X.nox c tc) (ha:RSs K X C ss fa) (hb:RSs K X C rest fb):RS K X C (.If c ss rest pos) (xIf tc fa fb):=by
 refine⟨λenv st st' hf=>?_⟩
 simp only [xIf,Option.bind_eq_some_iff] at hf
 obtain⟨⟨k,s1⟩,hx,hf⟩:=hf
 cases k with
 | true=>
  rw [if_pos rfl] at hf
  refine (lr (hc.run _ _ _ hx).nox (ha.run _ _ _ hf) dw).imp ?_
  rintro D σ H ⟨φ,hE,hS,q⟩
  refine⟨φ,hE,hS,λH1 φ1 f1 s1=>?_⟩
  refine pE ?_
  exact⟨φ1,hE.fw hS f1,s1,λH2 φ2 f2 s2=>q H2 φ2 (f1.trans f2) s2⟩
 | false=>
  rw [if_neg Bool.false_ne_true] at hf
  refine (lr (hc.run _ _ _ hx).nox dw (hb.run _ _ _ hf)).imp ?_
  rintro D σ H ⟨φ,hE,hS,q⟩
  refine⟨φ,hE,hS,λH1 φ1 f1 s1=>?_⟩
  refine mv ?_
  exact⟨φ1,hE.fw hS f1,s1,λH2 φ2 f2 s2=>q H2 φ2 (f1.trans f2) s2⟩
theorem gC (h:RS K X C s f):RSs K X C [s] f:=⟨λenv st st' hf=>(iR (h.run _ _ _ hf)).imp λD σ H q=>q⟩
theorem bE (hx:RS K X C s fa) (h:IS K X.nox s sf) (hr:RSs K X C rest fb):RSs K X C (s::rest) (eV fa sf fb):=by
 refine⟨λenv st st' hf=>?_⟩
 simp only [eV] at hf
 cases ha:fa env st with
 | some s1=>
  rw [ha] at hf
  cases hf
  exact (dN (hx.run _ _ _ ha) dw).imp λD σ H q=>q
 | none=>
  rw [ha] at hf
  obtain⟨r,h1,hf⟩:=Option.bind_eq_some_iff.mp hf
  cases r with
  | nx e1 s1=>
   refine (dN (h.run _ _ _ h1).nox (hr.run _ _ _ hf)).imp ?_
   rintro D σ H ⟨φ,hE,hS,q⟩
   exact⟨φ,hE,hS,λσ' H' φ' f' e' s'=>⟨φ',e',s',λH2 φ2 f2 s2=>q H2 φ2 (f'.trans f2) s2⟩⟩
  | rt w s1=>cases hf
  | bk w s1=>cases hf
  | ct w s1=>cases hf
theorem PSs.or {t u:TS} (h:PSs X ss t) (h':PSs X ss u):PSs X ss (λD σ H=>t D σ H\/u D σ H):=λpins s σ H D I q=>q.elim (h pins s σ H D I) (h' pins s σ H D I)
noncomputable def tXa (K:PySem.W.Frag) (X:Cx) (C:Value) (x:Rf) (σ:St) (H:Hp):Prop:=∃ env st st',x env st=some st'/\tX K X C env st st' σ H
theorem RSs.any (h:RSs K X C ss f):PSs X ss (λ_ σ H=>tXa K X C f σ H):=λpins s σ H D I ⟨env,st,st',e,q⟩=>h.run env st st' e pins s σ H D I q
theorem uA (n:Nat) (hc:IT K X.nox c tc) (hb:ISs K X.nox ss sf) (hx:RSs K X C ss f) (hp:PassesOwn (model X.prog X.w) X.A X.env X.xe):RS K X C (.While c ss [] pos) (nZ n tc sf f):=by
 refine⟨λenv st st' hr=>?_⟩
 refine (oS hp hc.any.nox (hb.any.nox.or hx.any)).imp ?_
 rintro D σ H ⟨φ,hE,hS,q⟩
 refine⟨λm σ H'=>∃ env st φ2,Fw φ φ2 H H'/\Er K H' φ2 env σ/\Sr K H' φ2 st/\eI tc sf f m env st=some st',⟨n,env,st,φ,Fw.refl _ _,hE,hS,hr⟩,?_⟩
 rintro m σ H2 ⟨env2,st2,φ2,f2,e2,S2,h2⟩
 cases m with
 | zero=>cases h2
 | succ m=>
  simp only [eI,Option.bind_eq_some_iff] at h2
  obtain⟨⟨k,s3⟩,hk,h2⟩:=h2
  refine⟨env2,st2,_,hk,φ2,e2,S2,λH3 φ3 f3 S3=>?_⟩
  cases k with
  | false=>
   rw [if_neg Bool.false_ne_true] at h2
   cases h2
  | true=>
   rw [if_pos rfl] at h2
   have f3':=f2.trans f3
   refine pE ⟨λσ' H'=>∃ env st φ2,Fw φ φ2 H H'/\Er K H' φ2 env σ'/\Sr K H' φ2 st/\eI tc sf f m env st=some st',λσ' H' p'=>⟨m,Nat.lt_succ_self _,p'⟩,?_⟩
   cases hx:f env2 s3 with
   | some s4=>
    rw [hx] at h2
    cases h2
    exact .inr ⟨env2,s3,_,hx,φ3,e2.fw S2 f3,S3,λH4 φ4 f4 S4=>q H4 φ4 (f3'.trans f4) S4⟩
   | none=>
    rw [hx] at h2
    obtain⟨r3,hr3,h3⟩:=Option.bind_eq_some_iff.mp h2
    refine .inl ⟨env2,s3,r3,hr3,φ3,e2.fw S2 f3,S3,?_⟩
    cases r3 with
    | nx e4 s4=>exact λσ4 H4 φ4 f4 e4' s4'=>⟨e4,s4,φ4,f3'.trans f4,e4',s4',h3⟩
    | ct e4 s4=>exact λσ4 H4 φ4 f4 e4' s4'=>⟨e4,s4,φ4,f3'.trans f4,e4',s4',h3⟩
    | bk e4 s4=>cases h3
    | rt w s4=>cases h3
end
theorem vH {P:Program}{w:World}{K:PySem.W.Frag}{mg:Str->Option Value}{base:Heap}{C:Value}{x qual:Str}{st:Stmt}{f:Addr}{fd:FuncData}{N ps:List Str}{k:Nat}{b:Rf} (F:Fun K x qual st f fd) (S:bp N ps (ao st))
  (hb:∀ (cdv:Value) (A:Around) (outer:List Env) (s:Shared) (H:Hp) (E:XK),cZ k (A.deeper (envOfC qual (ao st) s.heap.objs.size f cdv))->RSs K (ir (CX1 P w C) P w K mg base N qual (ao st) f cdv A outer s H E) C (aZ st) b) :
  bD P w K mg base (CX1 P w C) (k+1) f fd ps (spX K (oP N.length ps.length b)):=by
 obtain⟨oc,od,kV,doc,pm,an,cdv,ct,osl,rfl,lk,hcd⟩:=F.ex
 refine xh lk hcd S (λvs H Q E h=>?_) λA outer s H vs Q E hr h=>?_
 ·obtain⟨φ,st,ws,r,e,rw,_⟩:=h
  rw [oP] at e
  by_cases hl:ws.length=ps.length
  ·rw [<-rw.length,hl]
  ·rw [if_neg hl] at e;cases e
 ·obtain⟨φ,st',ws,r,e,rw,S',q⟩:=h
  rw [oP] at e
  by_cases hl:ws.length=ps.length
  ·rw [if_pos hl] at e
   obtain⟨s1,e1,rfl⟩:=Option.map_eq_some_iff.mp e
   refine⟨_,(hb cdv A outer s H E hr).run _ _ _ e1,φ,mj rw hl,S',λH' φ' f' s'=>zY λa=>?_⟩
   refine q a H' φ f'.less ?_
   obtain⟨ψ,rfl,_⟩:=f'.ext
   rw [<-S'.len]
   exact s'.less
  ·rw [if_neg hl] at e;cases e
end L2
namespace L2
open PySem PySem.Spec PyProof.Rows
theorem cP.there {P:Program}{w:World}{H:Hp}{h:Heap}{a:Addr}{o:HO} (x:cP P w H h a o):∃ ob,h.get? a=some ob:=by
 cases o with
 | lst xs=>obtain⟨_,_,_,_,e⟩:=x;exact⟨_,e⟩
 | tup xs=>obtain⟨_,_,_,_,e,_⟩:=x;exact⟨_,e⟩
 | dK kvs=>obtain⟨_,_,_,_,o,_,_,e,_⟩:=x;exact⟨_,e⟩
 | dT kvs=>obtain⟨_,_,_,_,o,_,_,e,_⟩:=x;exact⟨_,e⟩
 | set S n=>obtain⟨o,_,_,_,e,_⟩:=x;exact⟨_,e⟩
 | ins C dx fs=>obtain⟨_,_,_,e,_⟩:=x;exact⟨_,e⟩
 | own y=>obtain⟨_,e⟩:=x;exact⟨_,e⟩
 | xd fs=>obtain⟨_,⟨_,_,_,e,_⟩,_⟩:=x;exact⟨_,e⟩
 | rng lo hi=>obtain⟨_,_,_,e⟩:=x;exact⟨_,e⟩
 | frz ob u=>obtain⟨e,_⟩:=x;exact⟨_,e⟩
 | tbl ps=>exact⟨_,show h.get? a=some _ from x⟩
 | met f y=>exact⟨_,show h.get? a=some _ from x⟩
 | ext φ=>obtain⟨_,⟨_,e⟩,_⟩:=x;exact⟨_,e⟩
theorem HOk.none_of {P:Program}{w:World}{H:Hp}{h:Heap}{a:Addr} (x:HOk P w H h) (e:h.get? a=none):H a=none:=by
 cases q:H a with
 | none=>rfl
 | some o=>
  obtain⟨ob,z⟩:=(x a o q).there
  rw [e] at z;cases z
noncomputable def gN (a:Af):Rf
 | env,st=>(a env st).bind λr=>if r.1.length<=1000 then some r.2 else none
section
variable {K:PySem.W.Frag}{X:Cx}{C:Addr}{e:Expr}{es:List Expr}{pos np cpos:Pos}{af:Af}
theorem uX {x:Str}{B newId initId:String}{bm:List Value} (O:OwnCls x C bm newId X.mg X.base) (FB:ExcBaseFacts B newId initId bm) (hc:X.calm=true) (hg:Gl X x) (ha:IA K X.nox (e::es) af)
  (hd:(x==("__debug__" : Str))=false:=by decide) (hs:bh e=true:=by rfl) (hp:es.all bh=true:=by rfl) :
  RS K X (.ref C) (.Raise (some (.Call (.Name x np) (e::es) [] cpos)) none pos) (gN af):=by
 refine⟨λenv st st' hf=>?_⟩
 simp only [gN,Option.bind_eq_some_iff] at hf
 obtain⟨y,hy,hf⟩:=hf
 by_cases hnl:¬ y.1.length<=1000
 ·rw [if_neg hnl] at hf;cases hf
 have hl:y.1.length<=1000:=Decidable.not_not.mp hnl
 rw [if_pos hl] at hf
 cases hf
 rintro pins s σ H D I ⟨φ,hE,hS,q⟩
 obtain⟨tl,N,nm,qn,bs,hdct,sn,sub,ab,col,dd,k0,k1,k2,k3,k5,mN,hC,hN,hni,T⟩:=O.obj
 refine wpAny_Raise_call_subT (C:=C) (nm:=nm) (q:=qn) (N:=N) (bs:=bs) (bm:=tl) (hdct:=hdct) (sn:=sn) (sub:=sub) (ab:=ab) (col:=col) (dd:=dd) (k0:=k0) (k1:=k1) (k2:=k2) (k3:=k3) (k5:=k5)
  FB (mN:=mN) (T.hasType FB.hasBase) (I.ok.hd hc) (dI (by rw [List.all_cons,hs,hp];rfl)) hni (li I hg O.bound ⟨rfl,?_⟩ hd)
 have pa:=(ha.run _ _ _ hy).nox cpos pins s σ H (λvs H1=>y.1.length=vs.length/\XE X (.ref C) H1) I ⟨φ,hE,hS,λvs H1 φ1 f1 s1 w1=>⟨w1.length,q H1 φ1 f1 s1⟩⟩
 rw [cu hs] at pa ⊢
 refine Calls.evalArgs_plain (thn pa λus s1 ⟨vs,H1,I1,r1,q1⟩=>?_)
 have kb:∀ b o,X.base.get? b=some o->s1.heap.get? b=some o:=I1.bk
 refine⟨rfl,?_,kb _ _ hC,hN.keeps kb,T.keeps kb,λh' ex hm=>?_⟩
 ·show us.length<=sizeLine
  rw [<-r1.length,<-q1.1]
  exact Nat.le_of_lt (ng hl)
 ·obtain⟨t,ht,_⟩:=hm.there
  exact q1.2 ex pins σ { s1 with heap:=h' } (I1.kept (t':=s1.toks) hm.keeps) (.inl ⟨I1.new hm.new,I1.hok.none_of hm.new,_,_,ht,rfl,rfl,rfl⟩)
end
end L2
namespace L2
open PySem PySem.Spec PyProof.Rows
section
variable {X:Cx}{scope:Scope}{Nc:List Str}{emb:St->St}{elt iter tg:Expr}{pos:Pos}{wi:TI}{g:TG}{te:TE}{Cv:Value}
end
section
variable {K:PySem.W.Frag}{X:Cx}{scope:Scope}{Nc:List Str}{k:Nat}{js:List Nat}{elt iter tg:Expr}{pos:Pos}{fi:Lf}{g:Tg}{te:Ef}{xe:Rf}{C:Value}
end
end L2
namespace L2
open PySem PySem.Spec PyProof.Rows PySem.W Builtin Builtin.ObjectAttr Builtin.Getset_descriptor
noncomputable def ExH (e C:Addr) (h:Heap):Prop:=∃ oe vs,h.get? e=some oe/\oe.cls=.ref C/\oe.data=.fields vs
noncomputable def lN (K:Frag) (C:Addr):Bool:=(clsIn K C).isSome && findIn K (.ref C) "__getattribute__"==some (some (.builtin "BaseException.__getattribute__")) && findIn K (.ref C) "__getattr__"==some none
 && findIn K (.ref C) "__class__"==some (some (.builtin "object.__class__")) && subIn K (.ref C) (.type "BaseException")==some true && mroIn K C (.type "object")==some true
section
variable {prog:Program}{w:World}{A:Around}{E:Value->Shared->Prop}{K:Frag}{h:Heap}{g:Array GenState}{d:Drawn}{t:Nat}{os:OsState}{a C:Addr}{o:Obj}{vs:Array Value}
theorem yE {R:Result->Shared->Prop}{tp:Value} (X:K.In h) (hm:mroIn K C (.type "object")=some true) (hx:h.get? a=some o) (hc:o.cls=.ref C)
  (hq:R (.ok (.ret (.ref C))) ⟨h,g,d,t,os⟩):codeAny (model prog w) A (.call (.builtin "getset_descriptor.__get__") ⟨[.builtin "object.__class__",.ref a,tp],[]⟩) R ⟨h,g,d,t,os⟩:=by
 have L0:Looks (model prog w) h (typeOf (.ref a)) (.ref C):=hc ▸ (Looks.ld hx).andThen .now
 have L1:=looks_mroIn (M:=model prog w) X hm
 refine codeAny_call_builtin KF.slot_gs.plain KF.entry_gs (KF.slot_gs.check _ _ _ _ _ _ _ _ KF.type_class (KF.args_gs _ _ _) ?_)
 unfold Builtin.«getset_descriptor.__get__» descrGet
 rw [dga_obj]
 refine wpAny_bind (wpAny_pure ?_)
 unfold descrGetter descrCheckInstance descrNameAndClass isInstance
 simp only [KF.owner_class]
 repeat lk
 refine⟨Code.quiet_builtin _ (by decide +kernel),codeAny_builtin KF.entry_class ?_⟩
 unfold Builtin.«object.__class__» shownTypeOf
 repeat lk
 exact hq
theorem ur {M:Model}{nameV:Value}{Q:Unit->Shared->Prop} (X:K.In h) (hb:subIn K (.ref C) (.type "BaseException")=some true)
  (hx:h.get? a=some o) (hc:o.cls=.ref C) (hq:Q () ⟨h,g,d,t,os⟩):wpAny M A (checkBuiltinCall "BaseException.__getattribute__" ⟨[.ref a,nameV],[]⟩) Q E ⟨h,g,d,t,os⟩:=by
 have hk:builtinKind "BaseException.__getattribute__" = some .slot:=by decide +kernel
 have hsplit:splitId "BaseException.__getattribute__" = some ("BaseException","__getattribute__"):=by decide +kernel
 have ha:=F.args_bexc_ga (.ref a) nameV
 simp only [checkBuiltinCall,hk,hsplit]
 refine wpAny_bind ?_
 ·unfold isInstance
  repeat (first | (with_reducible refine wpAny_loadPart_at hx ?_;rw [hc]) | with_reducible refine (looks_subIn X hb).at ?_ | wp_step)
  exact hq
theorem uO {tk:Tok}{Q:Fin->Shared->Prop} (X:K.In h) (hm:mroIn K C (.type "object")=some true) (hcl:findIn K (.ref C) "__class__" = some (some (.builtin "object.__class__")))
  (hx:h.get? a=some o) (hc:o.cls=.ref C) (hq:Q (.done (.ret (.ref C))) ⟨h,g,d,t,os⟩) :
  wpAny (model prog w) A (Builtin.«object.__getattribute__» ⟨[.ref a,.str "__class__" tk],[]⟩) Q E ⟨h,g,d,t,os⟩:=by
 have hT5:(⟨h,g,d,t,os⟩:Shared).TypeIs (.builtin "object.__class__") "getset_descriptor":=F.typeOf_object_class
 have f5:=F.typeOf_object_class
 have f6:=F.slot_gs_get.lookup
 have f7:=F.slot_gs_set.lookup
 repeat (any_goals (first | assumption | (with_reducible refine wpAny_loadPart_at hx ?_;rw [hc]) | with_reducible refine (looks_findIn X hcl).at ?_ | wp_step))
 refine yE X hm hx hc ?_
 repeat (any_goals (first | assumption | wp_step))
theorem yV {tk:Tok}{fill expr:Bool}{Q:Value->Shared->Prop} (X:K.In h) (hk:lN K C=true) (hx:h.get? a=some o) (hc:o.cls=.ref C) (hq:Q (.ref C) ⟨h,g,d,t,os⟩) :
  wpAny (model prog w) A (getAttrBy (.ref a) (.str "__class__" tk) fill expr) Q E ⟨h,g,d,t,os⟩:=by
 unfold lN at hk
 simp only [Bool.and_eq_true,beq_iff_eq] at hk
 obtain⟨⟨⟨⟨⟨k0,k1⟩,k2⟩,k3⟩,k4⟩,k5⟩:=hk
 have FB:=PySem.F.attrBase_ValueError
 have f3:=FB.ga.bind (.ref a)
 have hx0:(expr && onTheHeap (Value.builtin "BaseException.__getattribute__"))=false:=by cases expr<;>rfl
 have hx2:(Value.builtin "BaseException.__getattribute__"==Value.builtin "object.__getattribute__")=false:=by decide +kernel
 have hx1:(onTheHeap (Value.ref C) && Value.builtin "BaseException.__getattribute__"==Value.builtin "object.__getattribute__")=false:=by rw [hx2];rfl
 repeat (any_goals (first | assumption | (with_reducible refine wpAny_loadPart_at hx ?_;rw [hc]) | with_reducible refine (looks_findIn X k1).at ?_ | with_reducible refine (looks_findIn X k2).at ?_ | wp_step))
 refine codeAny_call_builtin FB.ga.plain F.entry_bexc_ga (ur X k4 hx hc (uO X k5 k3 hx hc ?_))
 repeat (any_goals (first | assumption | wp_step))
theorem vB {Q:Option Value->Shared->Prop} (X:K.In h) (hk:lN K C=true) (hx:h.get? a=some o) (hc:o.cls=.ref C) (hq:Q (some (.ref C)) ⟨h,g,d,t+1,os⟩) :
  wpAny (model prog w) A (getAttr? (.ref a) "__class__") Q E ⟨h,g,d,t,os⟩:=by
 unfold getAttr? getAttrBy?
 repeat (any_goals (first | assumption | with_reducible apply yV X hk hx hc | wp_step))
end
theorem oU {K:Frag}{e C:Addr} (hk:lN K C=true):KitX K (.ref e) (.ref C) (ExH e C) where
 ty:=λM h _ p=>by
  obtain⟨oe,vs,h1,h2,_⟩:=p
  exact h2 ▸ (Looks.ld h1).andThen .now
 it:=λ_ _ X _=>by
  unfold lN at hk
  simp only [Bool.and_eq_true,beq_iff_eq] at hk
  have k0:=hk.1.1.1.1.1
  unfold clsIn at k0
  split at k0
  ·rename_i c' d' cd' sl' ho
   intro A' Q' E' s' k q
   unfold isType loadHead
   exact wpAny_bind (wpAny_loadPart (k _ _ (X _ _ ho)) (wpAny_pure q))
  ·cases k0
 ne:=λh tp dd its n sl X htp=>by
  unfold lN at hk
  simp only [Bool.and_eq_true,beq_iff_eq] at hk
  have k0:=hk.1.1.1.1.1
  refine Bool.eq_false_iff.mpr λq=>?_
  have e:C=tp:=Value.ref.inj (beq_iff_eq.mp q)
  subst e
  unfold clsIn at k0
  split at k0
  ·rename_i ho
   have:=X _ _ ho
   rw [htp] at this
   cases this
  ·cases k0
 ca:=λ{_ _ _ _ _ s} X p k=>by
  obtain⟨h,g,d,t,os⟩:=s
  obtain⟨oe,vs,h1,h2,_⟩:=p
  exact vB X hk h1 h2 k
end L2
namespace L2
open PySem PySem.Spec PyProof.Rows PySem.W
section
variable {X:Cx}{pins:List (Addr×Obj)}{σ:St}{H:Hp}{s:Shared}{h':Heap}
theorem Inv.chg {N:Addr->Prop} (I:Inv X pins σ H s) (c:Chg N H (frs X.stack) s.heap h') (hN:∀ b,N b->(X.s₀.heap.get? b=none\/b ∈ X.ex)/\∀ p ∈ X.pn++pins,p.1≠b):Inv X pins σ H { s with heap:=h' }:=by
 have any:∀ b o,s.heap.get? b=some o->(∀ vs,o.data≠.fields vs)->∃ sl,h'.get? b=some { o with slots:=sl }:=λb o e d=>by
  by_cases hb:b ∈ frs X.stack
  ·exact c.slot b o e hb
  ·exact⟨o.slots,c.keep b o e hb λ_=>.inl d⟩
 have old:∀ b o,X.s₀.heap.get? b=some o->b ∉ X.ex->¬ N b:=λb o e hx z=>by
  rcases (hN b z).1 with q | q
  ·rw [e] at q;cases q
  ·exact hx q
 have neL:∀ b o,X.s₀.heap.get? b=some o->b≠X.env.locals:=λb o e=>Nat.ne_of_lt (Nat.lt_of_lt_of_le (Heap.lt_size e) I.ok.above)
 have cellK:∀ cc v,s.heap.IsCell cc v->h'.IsCell cc v:=λcc v ⟨o,ho,hd⟩=>by
  obtain⟨sl,q⟩:=any cc o ho (λvs z=>by rw [hd] at z;cases z)
  exact⟨_,q,hd⟩
 refine⟨I.ok,I.os,I.bare,⟨λb o e n hb hx=>?_,λb o e n hb hx=>?_,I.base.free,λb o e hx=>?_,I.base.tups,I.base.frzs,I.base.tbls⟩,?_,λx cc e=>?_,I.free,I.freeC,λp hp=>?_,c.hok I.hok I.stkFree,I.len⟩
 ·refine c.keep b o (I.base.keep b o e n hb hx) (λz=>?_) λz=>absurd z (old b o e hx)
  rcases List.mem_cons.mp (I.stkSub b z) with q | q
  ·exact neL b o e q
  ·exact hb q
 ·obtain⟨sl,e1⟩:=I.base.slot b o e n hb hx
  by_cases hs:b ∈ frs X.stack
  ·obtain⟨sl',e2⟩:=c.slot b _ e1 hs
   exact⟨sl',e2⟩
  ·exact⟨sl,c.keep b _ e1 hs λz=>absurd z (old b o e hx)⟩
 ·obtain⟨o',e1⟩:=I.base.there b o e hx
  exact c.there b o' e1
 ·obtain⟨m,⟨o,es,ep,ho,hd,hr⟩,hl⟩:=I.loc
  obtain⟨sl,q⟩:=any _ o ho (λvs z=>by rw [hd] at z;cases z)
  refine⟨m,⟨_,es,ep,q,hd,hr⟩,λi x v e1 e2 e3=>?_⟩
  obtain⟨u,r,l⟩:=hl i x v e1 e2 e3
  refine⟨u,r,?_⟩
  rcases l with l | ⟨k,cc,e,z⟩
  ·exact .inl l
  ·exact .inr ⟨k,cc,e,cellK cc _ z⟩
 ·obtain⟨v,z⟩:=I.cell x cc e
  exact⟨v,cellK cc v z⟩
 ·obtain⟨e,n,ne,nf,d⟩:=I.pin p hp
  refine⟨c.keep p.1 p.2 e (λz=>?_) (λz=>absurd rfl ((hN p.1 z).2 p hp)),n,ne,nf,d⟩
  rcases List.mem_cons.mp (I.stkSub p.1 z) with q | q
  ·exact ne q
  ·exact nf q
theorem Inv.goes {m':Str->Option Value}{t':Nat} (I:Inv X pins σ H s) (hn:h'.Ns X.env.locals m') (hsb:Heap.SameBut X.env.locals s.heap h'):Inv X pins (List.replicate X.N.length none) H { s with heap:=h',toks:=t' }:=by
 have neL:∀ b o,X.s₀.heap.get? b=some o->b≠X.env.locals:=λb o e=>Nat.ne_of_lt (Nat.lt_of_lt_of_le (Heap.lt_size e) I.ok.above)
 refine⟨I.ok,I.os,I.bare,⟨λb o e n hb hx=>?_,λb o e n hb hx=>?_,I.base.free,λb o e hx=>?_,I.base.tups,I.base.frzs,I.base.tbls⟩,⟨m',hn,λi x v e1 e2 _=>?_⟩,λx cc e=>?_,I.free,I.freeC,λp hp=>?_,λa o e=>?_,by rw [List.length_replicate]⟩
 ·exact (hsb.2 b (neL b o e)).trans (I.base.keep b o e n hb hx)
 ·obtain⟨sl,e1⟩:=I.base.slot b o e n hb hx
  exact⟨sl,(hsb.2 b (neL b o e)).trans e1⟩
 ·obtain⟨o',e1⟩:=I.base.there b o e hx
  exact⟨o',(hsb.2 b (neL b o e)).trans e1⟩
 ·rw [List.getElem?_replicate] at e2
  split at e2<;>cases e2
 ·obtain⟨v,o,ho,hd⟩:=I.cell x cc e
  exact⟨v,o,(hsb.2 cc (I.cne x cc e)).trans ho,hd⟩
 ·obtain⟨e,n,ne,nf,d⟩:=I.pin p hp
  exact⟨(hsb.2 p.1 ne).trans e,n,ne,nf,d⟩
 ·have nL:∀ b,H b≠none->b≠X.env.locals:=λb hb z=>hb (z ▸ I.free)
  refine (I.hok a o e).stay (λb u hb q=>(hsb.2 b (nL b ?_)).trans q) (λ_ q=>q) λ_ _ q=>q
  rcases hb with rfl | hb
  ·rw [e];intro z;cases z
  ·rw [hb];intro z;cases z
end
theorem pc {M:Model}{A:Around}{E:Value->Shared->Prop}{K:Frag}{h:Heap}{g:Array GenState}{d:Drawn}{t:Nat}{os:OsState}{e C S:Addr}{oe:Obj}{Q:Bool->Shared->Prop} (X:K.In h)
  (he:h.get? e=some oe) (hcls:oe.cls=.ref C) (hty:typeIn K (.ref S)=some (.type "type")) (hcl:(clsIn K S).isSome=true) (hB:subIn K (.ref S) (.type "BaseException")=some true) (hs:subIn K (.ref C) (.ref S)=some true)
  (hq:Q true ⟨h,g,d,t,os⟩):wpAny M A (excMatches (.ref e) (.ref S)) Q E ⟨h,g,d,t,os⟩:=by
 have f:=tc_notTuple
 have L1:=looks_typeIn (M:=M) X hty
 have LC:Looks M h (isType (.ref S)) true:=by
  unfold clsIn at hcl
  split at hcl
  ·rename_i c' d' cd' sl' ho
   intro A' Q' E' s' k q
   unfold isType loadHead
   exact wpAny_bind (wpAny_loadPart (k _ _ (X _ _ ho)) (wpAny_pure q))
  ·cases hcl
 have L0:Looks M h (typeOf (.ref e)) (.ref C):=hcls ▸ (Looks.ld he).andThen .now
 have LB:=looks_subIn (M:=M) X hB
 have LS:=looks_subIn (M:=M) X hs
 unfold excMatches isInstance isExcClass
 repeat (first | with_reducible refine L1.at ?_ | with_reducible refine L0.at ?_ | with_reducible refine LC.at ?_ | with_reducible refine LB.at ?_ | with_reducible refine LS.at ?_ | wp_step)
 exact hq
end L2
namespace L2
open PySem PySem.Spec PyProof.Rows PySem.W
abbrev Cx.pw (X:Cx) (pn:List (Addr×Obj)) (E:Value->Shared->Prop):Cx:={ X with pn:=pn,xe:=E }
abbrev Cx.hdl (X:Cx) (e:Addr) (oe:Obj):Cx:={ X with A:=X.A.mark (some (.ref e)),calm:=false,pn:=X.pn++[(e,oe)],xe:=λ_ _=>False }
theorem Cx.Ok.pw {X:Cx} (ok:X.Ok) (pn:List (Addr×Obj)) (E:Value->Shared->Prop):(X.pw pn E).Ok:=
 ⟨ok.mod,ok.kind,ok.glob,ok.blt,ok.above,ok.inj,ok.has,ok.cab,ok.hd,ok.frames,ok.stk,ok.exf,ok.bs,ok.bsz,ok.noex,ok.exfs,ok.funs,ok.frf⟩
theorem Cx.Ok.hdl {X:Cx} (ok:X.Ok) (e:Addr) (oe:Obj):(X.hdl e oe).Ok:=
 ⟨ok.mod,ok.kind,ok.glob,ok.blt,ok.above,ok.inj,ok.has,ok.cab,(λz=>nomatch z),ok.frames,ok.stk,ok.exf,ok.bs,ok.bsz,ok.noex,ok.exfs,ok.funs,ok.frf⟩
theorem Inv.pw {X:Cx}{pins:List (Addr×Obj)}{σ:St}{H:Hp}{s:Shared} (I:Inv X pins σ H s) (E:Value->Shared->Prop):Inv (X.pw (X.pn++pins) E) [] σ H s:=
 ⟨I.ok.pw _ E,I.os,I.bare,I.base,I.loc,I.cell,I.free,I.freeC,λp hp=>I.pin p (by simpa using hp),I.hok,I.len⟩
theorem Inv.unpw {X:Cx}{pins ps:List (Addr×Obj)}{σ:St}{H:Hp}{s:Shared}{E:Value->Shared->Prop} (I:Inv (X.pw (X.pn++pins) E) ps σ H s) (ok:X.Ok):Inv X pins σ H s:=
 ⟨ok,I.os,I.bare,I.base,I.loc,I.cell,I.free,I.freeC,λp hp=>I.pin p (List.mem_append_left _ hp),I.hok,I.len⟩
theorem Inv.hdl {X:Cx}{pins:List (Addr×Obj)}{σ:St}{H:Hp}{s:Shared} (I:Inv X pins σ H s) {e:Addr}{oe:Obj} (h1:s.heap.get? e=some oe) (h2:H e=none) (h3:e≠X.env.locals) (h4:e ∉ X.fs) (h5:∀ v,oe.data≠.cell v):Inv (X.hdl e oe) pins σ H s:=
 ⟨I.ok.hdl e oe,I.os,I.bare,I.base,I.loc,I.cell,I.free,I.freeC,λp hp=>by
  rcases List.mem_append.mp hp with hp | hp
  ·rcases List.mem_append.mp hp with hp | hp
   ·exact I.pin p (List.mem_append_left _ hp)
   ·have:=List.mem_singleton.mp hp
    subst this
    exact⟨h1,h2,h3,h4,h5⟩
  ·exact I.pin p (List.mem_append_right _ hp),I.hok,I.len⟩
theorem Inv.unhdl {X:Cx}{pins:List (Addr×Obj)}{σ:St}{H:Hp}{s:Shared}{e:Addr}{oe:Obj} (I:Inv (X.hdl e oe) pins σ H s) (ok:X.Ok):Inv X pins σ H s:=
 ⟨ok,I.os,I.bare,I.base,I.loc,I.cell,I.free,I.freeC,λp hp=>I.pin p (by
  rcases List.mem_append.mp hp with hp | hp
  ·exact List.mem_append_left _ (List.mem_append_left _ hp)
  ·exact List.mem_append_right _ hp),I.hok,I.len⟩
noncomputable def qr (gb:Sf) (xb:Rf) (w:D):Sf
 | env,st=>match gb env st with
 | some r=>some r
 | none=>(xb env st).map λs=>.rt (.d w) s
noncomputable def vp (K:Frag) (C S:Addr):Bool:=typeIn K (.ref S)==some (.type "type") && (clsIn K S).isSome && subIn K (.ref S) (.type "BaseException")==some true && subIn K (.ref C) (.ref S)==some true
section
variable {K:Frag}{X:Cx}{C S:Addr}{x n:Str}{i:Nat}{np hpos pos:Pos}{body suite:List Stmt}{b₀:Stmt}{gb:Sf}{xb:Rf}{w:D}{v:V}
theorem xE (hst:X.stack=X.env::X.outer) (hN:X.N.Nodup) (hi:X.N[i]?=some n) (hl:X.env.scope.names.lookup n=some .local) (hb:ISs K X.nox body gb) (hx:∀ pn E,RSs K (X.pw pn E) (.ref C) body xb)
  (hg:Gl X x) (hm:X.mg x=some (.ref S)) (hk:vp X.K C S=true) (hh:∀ e oe vs,oe.cls=.ref C->oe.data=.fields vs->PSs (X.hdl e oe) (b₀::suite) (λD σ H=>σ[i]?=some (some (.ref e))/\∀ H1,bJ H H1->D.rt v H1))
  (hv:∀ H φ,Rl K H φ w v) (hd:(x==("__debug__" : Str))=false:=by decide) :
  IS K X (.Try body [.ExceptHandler (some (.Name x np)) (some n) (b₀::suite) hpos] [] [] pos) (qr gb xb w):=by
 refine⟨λenv st r hr=>?_⟩
 simp only [qr] at hr
 rintro pins s σ H D I ⟨φ,hE,hS,q⟩
 refine wpAny_Try_except ?_
 cases hgb:gb env st with
 | some r0=>
  rw [hgb] at hr
  cases hr
  refine wpAny_mono (hb.run _ _ _ hgb pins s σ H D (I.wish _) ⟨φ,hE,hS,q⟩) (λf s1 z=>?_) λ_ _ z=>False.elim z
  cases f with
  | next=>exact wpAny_execs_nil (SP.unwish (f:=.next) z)
  | brk=>exact SP.unwish (f:=.brk) z
  | cont=>exact SP.unwish (f:=.cont) z
  | ret u=>exact SP.unwish (f:=.ret u) z
 | none=>
  rw [hgb] at hr
  obtain⟨st',hxb,rfl⟩:=Option.map_eq_some_iff.mp hr
  generalize hEE:(λ(u:Value) (s1:Shared)=>wpAny (model X.prog X.w) X.A (noteFrame u X.env) (λ_ s₂=>wpAny (model X.prog X.w) X.A (setFlight u none) (λ_ s₃=>wpAny (model X.prog X.w) X.A (handleBy u X.env [.ExceptHandler (some (.Name x np)) (some n) (b₀::suite) hpos]) (SP X pins D) X.xe s₃) X.xe s₂) X.xe s1)=EE
  refine wpAny_mono ((hx (X.pn++pins) EE).run _ _ _ hxb [] s σ H { nx:=λ_ _=>False,rt:=λ_ _=>False } (I.pw EE) ⟨φ,hE,hS,λH' φ' f' S'=>?_⟩) (λf s1 z=>?_) λu s1 z=>?_
  ·intro e pins' σ' s1 I1 x1
   show EE (.ref e) s1
   rw [<-hEE]
   have IX:=I1.unpw I.ok
   have hfr:X.env.frame=some X.env.locals:=by
    rcases I.ok.stk with z | z
    ·rw [hst] at z
     exact absurd (congrArg List.length z) (by rw [List.length_cons];exact Nat.succ_ne_self _)
    ·exact z.2
   have fr9:X.A.frames=some (X.env::X.outer):=by rw [I.ok.frames,hst]
   have ff9:s1.heap.FunFrames X.base (X.env::X.outer):=by have z:=IX.stack;rwa [hst] at z
   have hNN:∀ b,vQ (X.pw (X.pn++pins) EE) b->(X.s₀.heap.get? b=none\/b ∈ X.ex)/\∀ p ∈ X.pn++pins,p.1≠b:=λb z=>z
   refine rm (base:=X.base) fr9 ff9 hfr (λa ha=>I1.new ha) (IX.hok.fresh (Nat.le_refl _)) x1 λh2 c2 x2=>?_
   rw [<-hst] at c2
   have I2:=IX.chg c2 hNN
   refine kq (s:={ s1 with heap:=h2 }) (fs:=frs X.stack) (λb hb=>(I2.stack.mem hb).2) x2 λh3 c3 x3=>?_
   have I3:Inv X pins σ' H' { s1 with heap:=h3 }:=I2.chg c3 hNN
   unfold vp at hk
   simp only [Bool.and_eq_true,beq_iff_eq] at hk
   obtain⟨⟨⟨k1,k2⟩,k3⟩,k4⟩:=hk
   have apart:∀ {h:Heap}{oe:Obj}{vs:Array Value},Inv X pins σ' H' { s1 with heap:=h }->h.get? e=some oe->oe.data=.fields vs->e≠X.env.locals/\e ∉ X.fs:=λ{h oe vs} J he hd'=>by
    constructor
    ·rintro rfl
     obtain⟨m,⟨o,es,ep,ho,hdd,_⟩,_⟩:=J.loc
     have ho':h.get? X.env.locals=some o:=ho
     rw [he] at ho';cases ho'
     rw [hdd] at hd';cases hd'
    ·intro z
     obtain⟨_,o,ho,hnf⟩:=J.funs.mem z
     have ho':h.get? e=some o:=ho
     rw [he] at ho';cases ho'
     exact hnf vs hd'
   have x3':=x3
   obtain⟨nE,tE,oe,vs,T,oT,ts,fl,he,hc,hdt,hrest⟩:=x3'
   have ap:=apart I3 he hdt
   have I3h:Inv (X.hdl e oe) pins σ' H' { s1 with heap:=h3 }:=I3.hdl he tE ap.1 ap.2 (by intro v z;rw [hdt] at z;cases z)
   refine wpAny_handleBy_cons (codeAny_handlers_test (li (X:=X.hdl e oe) I3h hg hm ?_ hd)) (by intro z;cases z)
   have KX:X.K.In h3:=I3.kIn
   refine pc (K:=X.K) KX he hc k1 k2 k3 k4 ?_
   show codeAny (model X.prog X.w) (X.A.mark (some (.ref e))) (.handlers (.ref e) [.ExceptHandler none (some n) (b₀::suite) hpos] X.env) _ _
   refine codeAny_handlers_suite_as ?_
   refine kq (s:={ s1 with heap:=h3 }) (fs:=frs X.stack) (λb hb=>(I3.stack.mem hb).2) x3 λh4 c4 x4=>?_
   have I4:Inv X pins σ' H' { s1 with heap:=h4 }:=I3.chg c4 hNN
   obtain⟨nE4,tE4,oe4,vs4,T4,oT4,ts4,fl4,he4,hc4,hdt4,hrest4⟩:=x4
   have ap4:=apart I4 he4 hdt4
   have I4h:Inv (X.hdl e oe4) pins σ' H' { s1 with heap:=h4 }:=I4.hdl he4 tE4 ap4.1 ap4.2 (by intro v z;rw [hdt4] at z;cases z)
   refine gS (X:=X.hdl e oe4) (v:=.ref e) I4h hN hi (.inl hl) rfl (λs5 I5=>?_) (.inr hl)
   have hil:i < σ'.length:=by rw [I4.len];exact (List.getElem?_eq_some_iff.mp hi).1
   refine wpAny_mono (hh e oe4 vs4 hc4 hdt4 pins s5 _ H' { nx:=λ_ _=>False,rt:=D.rt } I5 ⟨by rw [List.getElem?_set_self hil],λH1 sm=>q v H1 φ' (f'.trans (Fw.same sm)) (S'.same sm) (hv H1 φ')⟩) (λf s6 z=>?_) λ_ _ z=>False.elim z
   have gone:∀ {σ6:St}{H6:Hp},Inv (X.hdl e oe4) pins σ6 H6 s6->(∀ s7,Inv X pins (List.replicate X.N.length none) H6 s7->SP X pins D f s7)->wpAny (model X.prog X.w) X.A (do bindName X.env n .none;unbindBehindTheSuite X.env n hpos) (λ_ s₃=>SP X pins D f s₃) X.xe s6:=λ{σ6 H6} I6 k=>by
    have I6':=I6.unhdl I.ok
    obtain⟨m,hn,_⟩:=id I6'.loc
    refine wpAny_nameGoes hl hn (by rw [I.ok.kind];rfl) λh7 m7 hn7 hs7=>k _ (I6'.goes hn7 hs7)
   cases f with
   | next=>obtain⟨σ6,H6,I6,z⟩:=z;exact False.elim z
   | brk=>obtain⟨σ6,H6,I6,z⟩:=z;exact False.elim z
   | cont=>obtain⟨σ6,H6,I6,z⟩:=z;exact False.elim z
   | ret u=>obtain⟨v6,σ6,H6,I6,r6,z⟩:=z;exact gone I6 λs7 I7=>⟨v6,_,H6,I7,r6,z⟩
  ·cases f with
   | next=>obtain⟨σ6,H6,I6,z⟩:=z;exact z.elim
   | brk=>obtain⟨σ6,H6,I6,z⟩:=z;exact False.elim z
   | cont=>obtain⟨σ6,H6,I6,z⟩:=z;exact False.elim z
   | ret u=>obtain⟨v6,σ6,H6,I6,r6,z⟩:=z;exact z.elim
  ·exact z
end
end L2
namespace L2
open PySem PySem.Spec PyProof.Rows PySem.W
theorem vL:bootBuiltins "ValueError" = some (.type "ValueError"):=by decide +kernel
section
variable {X:Cx}{e C L O:Addr}{oe:Obj}{vs:Array Value}{i:Nat}{b:Bool}
theorem qV {c:Value}{cv:V} (hcls:oe.cls=.ref C) (hdat:oe.data=.fields vs) (hk:lN X.K C=true) (rc:∀ u,br cv u->u=c) (he:kitOne X.K (.ref C) c=some b) :
  dJ (X.hdl e oe) (.builtin "isinstance") (λvs H Q=>vs=[.ref e,cv]/\Q (.bl b) H):=by
 rintro pins s σ H xs us Q I r ⟨rfl,q⟩
 cases r with
 | cons r1 r=>
  cases r with
  | cons r2 r=>
   cases r
   cases rc _ r2
   have e1:=r1
   cases (show _=Value.ref e from r1)
   have pn:=I.pin (e,oe) (List.mem_append_left _ (List.mem_append_right _ List.mem_cons_self))
   exact kia_one (oU hk) I.kIn ⟨oe,vs,pn.1,hcls,hdat⟩ he (by intro z;cases z) λtk=>⟨.bl b,H,I.tok tk,rfl,q⟩
theorem vW {c1 c2:Addr} (hcls:oe.cls=.ref C) (hdat:oe.data=.fields vs) (hk:lN X.K C=true) (he:kitAny X.K (.ref C) [.ref c1,.ref c2]=some b) :
  dJ (X.hdl e oe) (.builtin "isinstance") (λvs H Q=>(∃ a,vs=[.ref e,.ref a]/\H a=some (.tup [.ref c1,.ref c2]))/\Q (.bl b) H):=by
 rintro pins s σ H xs us Q I r ⟨⟨a,rfl,ha⟩,q⟩
 cases r with
 | cons r1 r=>
  cases r with
  | cons r2 r=>
   cases r
   cases (show _=Value.ref e from r1)
   cases (show _=Value.ref a from r2)
   have pn:=I.pin (e,oe) (List.mem_append_left _ (List.mem_append_right _ List.mem_cons_self))
   obtain⟨_,its,rv,o,ho,hoc,⟨n,hon⟩,hdd⟩:=I.hok a _ ha
   have hits:its=[.ref c1,.ref c2]:=by
    cases rv with
    | cons q1 rv=>
     cases rv with
     | cons q2 rv=>
      cases rv
      cases (show _=Value.ref c1 from q1)
      cases (show _=Value.ref c2 from q2)
      rfl
   subst hits
   obtain⟨oc,od,odt,osl⟩:=o
   cases hoc
   cases hon
   exact kia_tup (oU hk) I.kIn ⟨oe,vs,pn.1,hcls,hdat⟩ ho he (by intro z;cases z) λtk=>⟨.bl b,H,I.tok tk,rfl,q⟩
theorem qz {p1 p2 p3 p4 p5 p6 p7 p8 p9 p10 p11 p12 p13 p14 p15 p16 p17 p18 p19 p20 p21 p22:Pos}{k j1 j2} (hcls:oe.cls=.ref C) (hdat:oe.data=.fields vs) (hi:X.N[i]?=some ("error" : Str)) (hv:Vis X.env.scope "error")
  (hgI:Gl X "isinstance") (hmI:X.mg "isinstance" = none) (hgC:Gl X "NoText") (hmC:X.mg "NoText" = some (.ref C)) (hgL:Gl X "NoLine") (hmL:X.mg "NoLine" = some (.ref L)) (hgO:Gl X "OnNought") (hmO:X.mg "OnNought" = some (.ref O))
  (hgV:Gl X "ValueError") (hmV:X.mg "ValueError" = none) (hk:lN X.K C=true) (hkT:kitAny X.K (.ref C) [.ref L,.ref O]=some false) (hkV:kitOne X.K (.ref C) (.type "ValueError")=some true) :
  PSs (X.hdl e oe) [.If (.BoolOp .Or [.UnaryOp .Not (.Call (.Name "isinstance" p1) [.Name "error" p2,.Name "NoText" p3] [] p4) p5,.Call (.Name "isinstance" p6) [.Name "error" p7,.Tuple [.Name "NoLine" p8,.Name "OnNought" p9] k p10] [] p11,
   .UnaryOp .Not (.Call (.Name "isinstance" p12) [.Name "error" p13,.Name "ValueError" p14] [] p15) p16] p17) [.Return (some (.Constant .none j1 p18)) p19] [] p20,.Return (some (.Constant (.str "no text") j2 p21)) p22]
   (λD σ H=>σ[i]?=some (some (.ref e))/\∀ H1,bJ H H1->D.rt (.str "no text") H1):=by
 have k1:kitOne X.K (.ref C) (.ref C)=some true:=by unfold kitOne;rw [if_pos (by simp)]
 have ev:∀ {p:Pos},PE (X.hdl e oe) (.Name "error" p) (qg i):=λ{p}=>mt hi hv
 have c1:=qV (X:=X) (e:=e) (oe:=oe) (b:=true) (cv:=.ref C) hcls hdat hk (λu r=>r) k1
 have c3:=qV (X:=X) (e:=e) (oe:=oe) (b:=true) (cv:=.ty "ValueError") hcls hdat hk (λu r=>r) hkV
 have c2:=vW (X:=X) (e:=e) (oe:=oe) hcls hdat hk hkT
 have a1:PT (X.hdl e oe) (.Call (.Name "isinstance" p1) [.Name "error" p2,.Name "NoText" p3] [] p4) _:=qe (jq c1 hgI hmI PyProof.Rows.boot_isinstance (cU ev (cU (iQ (v:=.ref C) hgC hmC rfl) iw)))
 have a2:PT (X.hdl e oe) (.Call (.Name "isinstance" p6) [.Name "error" p7,.Tuple [.Name "NoLine" p8,.Name "OnNought" p9] k p10] [] p11) _:=qe (jq c2 hgI hmI PyProof.Rows.boot_isinstance (cU ev (cU (nR (cU (iQ (v:=.ref L) hgL hmL rfl) (cU (iQ (v:=.ref O) hgO hmO rfl) iw))) iw)))
 have a3:PT (X.hdl e oe) (.Call (.Name "isinstance" p12) [.Name "error" p13,.Name "ValueError" p14] [] p15) _:=qe (jq c3 hgI hmI PyProof.Rows.boot_isinstance (cU ev (cU (qR (v:=.ty "ValueError") hgV hmV vL rfl) iw)))
 refine (dN (lr (PW.pt (qW (pX a1) (qW a2 (uz (pX a3))))) (iR (kd va)) lp) (iR (kd qd))).imp ?_
 rintro D σ H ⟨hσ,q⟩
 refine⟨_,hσ,⟨rfl,true,rfl,?_⟩⟩
 refine mv ⟨_,hσ,?_⟩
 refine⟨by show 2<=sizeLine;rw [sizeLine_eq];decide,λt ht=>⟨⟨t,rfl,bG⟩,false,rfl,?_⟩⟩
 refine mv ⟨_,hσ,⟨rfl,true,rfl,?_⟩⟩
 refine mv ?_
 exact q _ (bJ.new ht _)
end
theorem wB {K:Frag}{h:Heap}{mg:Str->Option Value}{x:Str}{C:Addr}{bmB:List Value}{newId:String} (X:K.In h) (hm:mg x=some (.ref C)) (q:excIn K C bmB newId=true):OwnCls x C bmB newId mg h:=by
 refine⟨hm,?_⟩
 unfold excIn at q
 split at q
 ·rename_i dd cd sl ho
  split at q
  ·rename_i C' bm k0 k1 k2 k3 n k5 hm hs
   simp only [Bool.and_eq_true,beq_iff_eq,Bool.not_eq_true'] at q
   obtain⟨⟨⟨⟨⟨rfl,rfl⟩,hdel⟩,ht⟩,hok⟩,hni⟩:=q
   obtain⟨nm,bs,mro,ns,qn,hd,sn,sub,ab,col,del⟩:=cd
   dsimp only at hm hdel hok hni
   subst hm hdel
   have hsl:sl=#[k0,k1,k2,k3,some (.builtin n),k5]:=by
    obtain⟨l⟩:=sl
    simp only at hs
    rw [hs]
   subst hsl
   exact⟨bm,ns,nm,qn,bs,hd,sn,sub,ab,col,dd,k0,k1,k2,k3,k5,_,X _ _ ho,.of_isNs (isNs_of_in X hok),nsMap_none_of_in X hok hni,tail_of_in X ht⟩
  ·cases q
 ·cases q
abbrev xy:List Value:=[.type "ValueError",.type "Exception",.type "BaseException",.type "object"]
theorem ge {K:Frag}{X:Cx}{C:Addr}{e:Expr}{es:List Expr}{pos np cpos:Pos}{af:Af}{x:Str} (hq:excIn X.K C xy "ValueError.__new__" = true) (hm:X.mg x=some (.ref C)) (hc:X.calm=true) (hg:Gl X x) (ha:IA K X.nox (e::es) af)
  (hd:(x==("__debug__" : Str))=false:=by decide) (hs:bh e=true:=by rfl) (hp:es.all bh=true:=by rfl) :
  RS K X (.ref C) (.Raise (some (.Call (.Name x np) (e::es) [] cpos)) none pos) (gN af):=
 ⟨λenv st st' hf pins s σ H D I h=>(uX (wB I.ok.mod.kin hm hq) PySem.F.excBase_ValueError hc hg ha hd hs hp).run env st st' hf pins s σ H D I h⟩
end L2
namespace Own
open PySem L2
noncomputable def h8:Sf:=(aX (eO (iCB gP (ac (iV 0) (ac (iC (.ty "int")) ai))) (qQ (iCB gP (ac (iV 0) (ac (iC (.ty "bool")) ai))))))
noncomputable def jf:Fn:=bX 1 1 h8
noncomputable def gG:Sf:=(aX (eO (ar jf (ac (iV 0) ai)) (nq dLe dLe (iV 1) (iV 0) (iV 2))))
noncomputable def fM:Fn:=bX 3 3 gG
noncomputable def dC:Sf:=(aX (eO (iCB gP (ac (iV 0) (ac (iC (.ty "tuple")) ai))) (iOp dLe (iCB du (ac (iV 0) ai)) (iC (.int 6)))))
noncomputable def cF:Fn:=bX 1 1 dC
noncomputable def dm:Sf:=(av (bc (aG dEq (iV 1) (iC (.str "switch"))) (aX (ar fM (ac (iOp dIx (iV 0) (iC (.int 1))) (ac (iC (.int 0)) (ac (iC (.int 5)) ai))))) aM) (av (bc (aG dEq (iV 1) (iC (.str "not"))) (aX (iC (.bl true))) aM) (aX (eO (iOp dIn (iV 1) (aE (ac (iC (.str "all")) (ac (iC (.str "any")) (ac (iC (.str "odd")) ai))))) (ar cF (ac (iOp dIx (iV 0) (iC (.int 1))) ai))))))
noncomputable def dn:Sf:=(av (bc (ci (da (fu fK (iCB gP (ac (iV 0) (ac (iC (.ty "tuple")) ai))))) (ci (aG cA (iCB du (ac (iV 0) ai)) (aE (ac (iC (.int 2)) (ac (iC (.int 3)) ai)))) (da (fu fK (iCB gP (ac (iOp dIx (iV 0) (iC (.int 0))) (ac (iC (.ty "str")) ai))))))) (aX (iC (.bl false))) aM) (av (aT (.nm 1) (iOp dIx (iV 0) (iC (.int 0)))) (av (bc (aG dEq (iV 1) (iC (.str "least"))) (aX (eO (iOp dEq (iCB du (ac (iV 0) ai)) (iC (.int 3))) (eO (ar fM (ac (iOp dIx (iV 0) (iC (.int 1))) (ac (iC (.int 0)) (ac (iC (.int 9)) ai)))) (ar cF (ac (iOp dIx (iV 0) (iC (.int 2))) ai))))) aM) (av (bc (aG dNe (iCB du (ac (iV 0) ai)) (iC (.int 2))) (aX (iC (.bl false))) aM) dm))))
noncomputable def bZ:Fn:=bX 2 1 dn
noncomputable def dk:Sf:=(av (bc (aG dEq (iOp dIx (iV 0) (iC (.int 0))) (iC (.str "switch"))) (aX (aE ai)) aM) (av (bc (aG dEq (iOp dIx (iV 0) (iC (.int 0))) (iC (.str "not"))) (aX (aE (ac (iOp dIx (iV 0) (iC (.int 1))) ai))) aM) (aX (iOp dIx (iV 0) (iUn iu (iC (.int 1)))))))
noncomputable def bU:Fn:=bX 1 1 dk
noncomputable def cD (self:Fn):Sf:=(av (aT (.nm 4) (ar self (ac (iV 3) (ac (iOp cS (iV 1) (iC (.int 1))) ai)))) (av (bc (aG jk (iV 4) (iC .non)) (aX (iC .non)) aM) (aT (.nm 2) (iOp aP (iV 2) (iV 4)))))
noncomputable def fD (self:Fn):Sf:=(av (bc (ci (aG dEq (iV 1) (iC (.int 0))) (da (fu fK (ar bZ (ac (iV 0) ai))))) (aX (iC .non)) aM) (av (aT (.nm 2) (iC (.int 1))) (av (jt (cf (ar bU (ac (iV 0) ai))) (.nm 3) (cD self)) (aX (iV 2)))))
noncomputable def bS:Nat->Fn
 | 0=>λ_ _=>none
 | n+1=>bX 5 2 (fD (bS n))
noncomputable def iP:Sf:=(av (aT (.nm 1) (ar (bS 7) (ac (iV 0) (ac (iC (.int 6)) ai)))) (aX (eO (iOp rj (iV 1) (iC .non)) (iOp dLe (iV 1) (iC (.int 40))))))
noncomputable def fq:Fn:=bX 2 1 iP
noncomputable def iX:Sf:=(av (bc (lQ false [("&",(.str "all")),("|",(.str "any")),("^",(.str "odd"))] (iV 0)) (aX (aE (ac (sB [("&",(.str "all")),("|",(.str "any")),("^",(.str "odd"))] (iV 0)) ai))) aM) (av (bc (aG dIn (iV 0) (aJ (iCL dO (ac (iC (.str "0123456789")) ai)))) (aX (aE (ac (iC (.str "least")) (ac (iTm iN (iC (.str "0123456789")) (ac (iV 0) ai)) ai)))) aM) jy))
noncomputable def dy:Fn:=bX 1 1 iX
noncomputable def ic:Rf:=(eV xNo (bc (lQ false [("&",(.str "all")),("|",(.str "any")),("^",(.str "odd"))] (iV 0)) (aX (aE (ac (sB [("&",(.str "all")),("|",(.str "any")),("^",(.str "odd"))] (iV 0)) ai))) aM) (eV xNo (bc (aG dIn (iV 0) (aJ (iCL dO (ac (iC (.str "0123456789")) ai)))) (aX (aE (ac (iC (.str "least")) (ac (iTm iN (iC (.str "0123456789")) (ac (iV 0) ai)) ai)))) aM) (gN (ac (iC (.str "no rule begins so")) ai))))
noncomputable def fE:Rn:=oP 1 1 ic
noncomputable def bI (self:Fn):Tf:=(aG dNe (iV 3) (iC (.str ")")))
noncomputable def bM (self:Fn):Sf:=(av (aT (.nm 5) (ar self (ac (iV 0) (ac (iOp aP (iV 1) (iC (.int 1))) (ac (iV 2) ai))))) (av (iB (iq d9 (iV 4) (ac (iOp dIx (iV 5) (iC (.int 0))) ai))) (av (aT (.nm 1) (iOp dIx (iV 5) (iC (.int 1)))) (av (aT (.nm 3) (cQ (iV 0) (iPs (iV 1)) (iPs (iOp aP (iV 1) (iC (.int 1)))))) (bc (aG cA (iV 3) (aE (ac (iC (.str " ")) (ac (iC (.str ")")) ai)))) jy aM)))))
noncomputable def dl (self:Fn):Sf:=(av (bc (aG dEq (cQ (iV 0) (iPs (iV 1)) (iPs (iOp aP (iV 1) (iC (.int 2))))) (iC (.str "()"))) (aX (aE (ac (aE ai) (ac (iOp aP (iV 1) (iC (.int 2))) ai)))) aM) (av (aT (.nm 3) (cQ (iV 0) (iPs (iV 1)) (iPs (iOp aP (iV 1) (iC (.int 1)))))) (av (bc (aG dNe (iV 3) (iC (.str "("))) jy aM) (av (aT (.nm 4) (hX (bv ai))) (av (kf 1000 (bI self) (bM self)) (aX (aE (ac (iCB oI (ac (iV 4) ai)) (ac (iOp aP (iV 1) (iC (.int 1))) ai)))))))))
noncomputable def cg (self:Fn):Fn:=gw 6 3 (dl self)
noncomputable def j8 (self:Fn) (selfx:Rn):Tf:=(aG dNe (iV 3) (iC (.str ")")))
noncomputable def kQ (self:Fn) (selfx:Rn):Sf:=(av (aT (.nm 5) (ar self (ac (iV 0) (ac (iOp aP (iV 1) (iC (.int 1))) (ac (iV 2) ai))))) (av (iB (iq d9 (iV 4) (ac (iOp dIx (iV 5) (iC (.int 0))) ai))) (av (aT (.nm 1) (iOp dIx (iV 5) (iC (.int 1)))) (av (aT (.nm 3) (cQ (iV 0) (iPs (iV 1)) (iPs (iOp aP (iV 1) (iC (.int 1)))))) (bc (aG cA (iV 3) (aE (ac (iC (.str " ")) (ac (iC (.str ")")) ai)))) jy aM)))))
noncomputable def bT (self:Fn) (selfx:Rn):Rf:=(eV (iA selfx (ac (iV 0) (ac (iOp aP (iV 1) (iC (.int 1))) (ac (iV 2) ai)))) (aT (.nm 5) (ar self (ac (iV 0) (ac (iOp aP (iV 1) (iC (.int 1))) (ac (iV 2) ai))))) (eV xNo (iB (iq d9 (iV 4) (ac (iOp dIx (iV 5) (iC (.int 0))) ai))) (eV xNo (aT (.nm 1) (iOp dIx (iV 5) (iC (.int 1)))) (eV xNo (aT (.nm 3) (cQ (iV 0) (iPs (iV 1)) (iPs (iOp aP (iV 1) (iC (.int 1)))))) (xIf (aG cA (iV 3) (aE (ac (iC (.str " ")) (ac (iC (.str ")")) ai)))) (gN (ac (iC (.str "behind a rule in brackets stands neither a blank nor a bracket")) ai)) xNo)))))
noncomputable def kh (self:Fn) (selfx:Rn):Tf:=(aG dNe (iV 3) (iC (.str ")")))
noncomputable def kU (self:Fn) (selfx:Rn):Sf:=(av (aT (.nm 5) (ar self (ac (iV 0) (ac (iOp aP (iV 1) (iC (.int 1))) (ac (iV 2) ai))))) (av (iB (iq d9 (iV 4) (ac (iOp dIx (iV 5) (iC (.int 0))) ai))) (av (aT (.nm 1) (iOp dIx (iV 5) (iC (.int 1)))) (av (aT (.nm 3) (cQ (iV 0) (iPs (iV 1)) (iPs (iOp aP (iV 1) (iC (.int 1)))))) (bc (aG cA (iV 3) (aE (ac (iC (.str " ")) (ac (iC (.str ")")) ai)))) jy aM)))))
noncomputable def d6 (self:Fn) (selfx:Rn):Rf:=(eV xNo (bc (aG dEq (cQ (iV 0) (iPs (iV 1)) (iPs (iOp aP (iV 1) (iC (.int 2))))) (iC (.str "()"))) (aX (aE (ac (aE ai) (ac (iOp aP (iV 1) (iC (.int 2))) ai)))) aM) (eV xNo (aT (.nm 3) (cQ (iV 0) (iPs (iV 1)) (iPs (iOp aP (iV 1) (iC (.int 1)))))) (eV (xIf (aG dNe (iV 3) (iC (.str "("))) (gN (ac (iC (.str "no bracket begins where one is asked for")) ai)) xNo) (bc (aG dNe (iV 3) (iC (.str "("))) jy aM) (eV xNo (aT (.nm 4) (hX (bv ai))) (eV (nZ 1000 (j8 self selfx) (kQ self selfx) (bT self selfx)) (kf 1000 (kh self selfx) (kU self selfx)) xNo)))))
noncomputable def eR (self:Fn) (selfx:Rn):Rn:=oP 6 3 (d6 self selfx)
noncomputable def mF (self:Fn):Sf:=(av (aT (.nm 5) (ar dy (ac (iV 3) ai))) (av (aT (.nm 4) (ar (cg self) (ac (iV 0) (ac (iOp aP (iV 1) (iC (.int 1))) (ac (iOp cS (iV 2) (iC (.int 1))) ai))))) (aX (aE (ac (iOp aP (iV 5) (aE (ac (iOp dIx (iV 4) (iC (.int 0))) ai))) (ac (iOp dIx (iV 4) (iC (.int 1))) ai))))))
noncomputable def cI (self:Fn):Sf:=(av (bc (aG dEq (iV 2) (iC (.int 0))) jy aM) (av (aT (.nm 3) (cQ (iV 0) (iPs (iV 1)) (iPs (iOp aP (iV 1) (iC (.int 1)))))) (av (bc (aG dIn (iV 3) (aJ (iCL dO (ac (iC (.str "abcdef")) ai)))) (aX (aE (ac (aE (ac (iC (.str "switch")) (ac (iTm iN (iC (.str "abcdef")) (ac (iV 3) ai)) ai))) (ac (iOp aP (iV 1) (iC (.int 1))) ai)))) aM) (av (bc (aG dEq (iV 3) (iC (.str "!"))) (av (aT (.nm 4) (ar self (ac (iV 0) (ac (iOp aP (iV 1) (iC (.int 1))) (ac (iOp cS (iV 2) (iC (.int 1))) ai))))) (aX (aE (ac (aE (ac (iC (.str "not")) (ac (iOp dIx (iV 4) (iC (.int 0))) ai))) (ac (iOp dIx (iV 4) (iC (.int 1))) ai))))) aM) (mF self)))))
noncomputable def aH:Nat->Fn
 | 0=>λ_ _=>none
 | n+1=>bX 6 3 (cI (aH n))
noncomputable def cE (self:Fn) (selfx:Rn):Rf:=(eV (xIf (aG dEq (iV 2) (iC (.int 0))) (gN (ac (iC (.str "rules nested too deep")) ai)) xNo) (bc (aG dEq (iV 2) (iC (.int 0))) jy aM) (eV xNo (aT (.nm 3) (cQ (iV 0) (iPs (iV 1)) (iPs (iOp aP (iV 1) (iC (.int 1)))))) (eV xNo (bc (aG dIn (iV 3) (aJ (iCL dO (ac (iC (.str "abcdef")) ai)))) (aX (aE (ac (aE (ac (iC (.str "switch")) (ac (iTm iN (iC (.str "abcdef")) (ac (iV 3) ai)) ai))) (ac (iOp aP (iV 1) (iC (.int 1))) ai)))) aM) (eV (xIf (aG dEq (iV 3) (iC (.str "!"))) (eV (iA selfx (ac (iV 0) (ac (iOp aP (iV 1) (iC (.int 1))) (ac (iOp cS (iV 2) (iC (.int 1))) ai)))) (aT (.nm 4) (ar self (ac (iV 0) (ac (iOp aP (iV 1) (iC (.int 1))) (ac (iOp cS (iV 2) (iC (.int 1))) ai))))) xNo) xNo) (bc (aG dEq (iV 3) (iC (.str "!"))) (av (aT (.nm 4) (ar self (ac (iV 0) (ac (iOp aP (iV 1) (iC (.int 1))) (ac (iOp cS (iV 2) (iC (.int 1))) ai))))) (aX (aE (ac (aE (ac (iC (.str "not")) (ac (iOp dIx (iV 4) (iC (.int 0))) ai))) (ac (iOp dIx (iV 4) (iC (.int 1))) ai))))) aM) (eV (iA fE (ac (iV 3) ai)) (aT (.nm 5) (ar dy (ac (iV 3) ai))) (eV (iA (eR self selfx) (ac (iV 0) (ac (iOp aP (iV 1) (iC (.int 1))) (ac (iOp cS (iV 2) (iC (.int 1))) ai)))) (aT (.nm 4) (ar (cg self) (ac (iV 0) (ac (iOp aP (iV 1) (iC (.int 1))) (ac (iOp cS (iV 2) (iC (.int 1))) ai))))) xNo))))))
noncomputable def bC:Nat->Rn
 | 0=>λ_ _=>none
 | n+1=>oP 6 3 (cE (aH n) (bC n))
noncomputable def gB:Sf:=(av (bc (da (fu fK (iCB gP (ac (iV 0) (ac (iC (.ty "str")) ai))))) jy aM) (av (aT (.nm 1) (ar (aH 7) (ac (iV 0) (ac (iC (.int 0)) (ac (iC (.int 6)) ai))))) (av (bc (ci (aG dNe (iOp dIx (iV 1) (iC (.int 1))) (iCB du (ac (iV 0) ai))) (da (fu fK (ar fq (ac (iOp dIx (iV 1) (iC (.int 0))) ai))))) jy aM) (aX (iOp dIx (iV 1) (iC (.int 0)))))))
noncomputable def de:Fn:=bX 2 1 gB
noncomputable def eW:Rf:=(eV (xIf (da (fu fK (iCB gP (ac (iV 0) (ac (iC (.ty "str")) ai))))) (gN (ac (iC (.str "no text")) ai)) xNo) (bc (da (fu fK (iCB gP (ac (iV 0) (ac (iC (.ty "str")) ai))))) jy aM) (eV (iA (bC 7) (ac (iV 0) (ac (iC (.int 0)) (ac (iC (.int 6)) ai)))) (aT (.nm 1) (ar (aH 7) (ac (iV 0) (ac (iC (.int 0)) (ac (iC (.int 6)) ai))))) (eV (xIf (ci (aG dNe (iOp dIx (iV 1) (iC (.int 1))) (iCB du (ac (iV 0) ai))) (da (fu fK (ar fq (ac (iOp dIx (iV 1) (iC (.int 0))) ai))))) (gN (ac (iC (.str "more than a rule")) ai)) xNo) (bc (ci (aG dNe (iOp dIx (iV 1) (iC (.int 1))) (iCB du (ac (iV 0) ai))) (da (fu fK (ar fq (ac (iOp dIx (iV 1) (iC (.int 0))) ai))))) jy aM) xNo)))
noncomputable def gx:Rn:=oP 2 1 eW
noncomputable def fQ:Sf:=(av (aT (.nm 2) (iC (.int 0))) (av (bc (aG dLt (iV 1) (iCB du (ac (iV 0) ai))) (aT (.nm 2) (iOp dIx (iV 0) (iV 1))) aM) (av (aT (.nm 3) (iOp fV (iOp fV (iOp fV (iOp ow (iC (.int 10)) (iC (.int 60))) (iOp ow (iC (.int 10)) (iC (.int 60)))) (iOp ow (iC (.int 10)) (iC (.int 60)))) (iOp ow (iC (.int 10)) (iC (.int 60))))) (av (aT (.nm 4) (iOp jv (iOp fV (iOp aP (iOp aP (iOp jv (iV 2) (iC (.int 2147483629))) (iOp fV (iC (.int 7919)) (iV 1))) (iC (.int 11))) (iC (.int 48271))) (iC (.int 2147483647)))) (aX (hX (bv (ac (iOp fV (iOp jv (iCB uW (ac (iV 2) ai)) (iV 3)) (iCB ud (ac (iOp dGe (iCB uW (ac (iV 2) ai)) (iOp ow (iC (.int 10)) (iC (.int 18)))) ai))) (ac (iV 4) (ac (iC (.int 0)) ai))))))))))
noncomputable def eJ:Fn:=bX 5 2 fQ
noncomputable def fN:Sf:=(av (bc (aG dGt (iOp dIx (iV 0) (iC (.int 0))) (iC (.int 0))) (av (aT (.nm 2) (iOp jv (iOp dIx (iV 0) (iC (.int 0))) (iV 1))) (av (d3 (iV 0) (iC (.int 0)) (iOp iF (iOp dIx (iV 0) (iC (.int 0))) (iV 1))) (aX (iV 2)))) aM) (av (d3 (iV 0) (iC (.int 2)) (iOp aP (iOp dIx (iV 0) (iC (.int 2))) (iC (.int 1)))) (av (d3 (iV 0) (iC (.int 1)) (iOp jv (iOp aP (iOp aP (iOp fV (iOp dIx (iV 0) (iC (.int 1))) (iC (.int 39373))) (iC (.int 12345))) (iOp fV (iC (.int 31)) (iOp dIx (iV 0) (iC (.int 2))))) (iC (.int 2147483647)))) (aX (iOp jv (iOp iF (iOp jv (iOp fV (iOp dIx (iV 0) (iC (.int 1))) (iOp aP (iOp jv (iOp dIx (iV 0) (iC (.int 1))) (iC (.int 40009))) (iC (.int 3)))) (iC (.int 2147483629))) (iC (.int 64))) (iV 1))))))
noncomputable def aB:Fn:=bX 3 2 fN
noncomputable def gD:Sf:=(aX (iOp dIx (iV 1) (ar aB (ac (iV 0) (ac (iCB du (ac (iV 1) ai)) ai)))))
noncomputable def bP:Fn:=bX 2 2 gD
noncomputable def d5 (self:Fn):Sf:=(aX (aE (ac (iV 7) (ac (iCB oI (ac (iV 5) ai)) ai))))
noncomputable def dz (self:Fn):Sf:=(bc (aG dGt (iOp dIx (iV 1) (iC (.int 0))) (iC (.int 0))) (iB (iq d9 (iV 5) (ac (ar self (ac (iV 0) (ac (iV 1) (ac (iOp cS (iV 2) (iC (.int 1))) (ac (iV 3) ai))))) ai))) aM)
noncomputable def cN (self:Fn):Sf:=(av (aT (.nm 5) (hX (bv ai))) (av (jt (dB (ac (ar aB (ac (iV 0) (ac (iOp dIx (aJ (bv (ac (iC (.int 4)) (ac (iC (.int 4)) (ac (iC (.int 4)) (ac (iC (.int 7)) ai)))))) (ar aB (ac (iV 0) (ac (iC (.int 4)) ai)))) ai))) ai)) (.nm 6) (dz self)) (av (aT (.nm 7) (iOp dIx (aJ (bv (ac (iC (.str "all")) (ac (iC (.str "any")) (ac (iC (.str "odd")) (ac (iC (.str "least")) (ac (iC (.str "all")) (ac (iC (.str "any")) ai)))))))) (iOp cS (iV 4) (iC (.int 2))))) (av (bc (aG dEq (iV 7) (iC (.str "least"))) (aX (aE (ac (iV 7) (ac (ar aB (ac (iV 0) (ac (iOp dIx (aJ (bv (ac (iOp aP (iCB du (ac (iV 5) ai)) (iC (.int 2))) (ac (iC (.int 10)) ai)))) (iOp iF (ar aB (ac (iV 0) (ac (iC (.int 4)) ai))) (iC (.int 3)))) ai))) (ac (iCB oI (ac (iV 5) ai)) ai))))) aM) (d5 self)))))
noncomputable def bq (self:Fn):Sf:=(av (d3 (iV 1) (iC (.int 0)) (iOp cS (iOp dIx (iV 1) (iC (.int 0))) (iC (.int 1)))) (av (aT (.nm 4) (ar aB (ac (iV 0) (ac (iC (.int 8)) ai)))) (av (bc (ci (aG dLt (iV 2) (iC (.int 2))) (ci (aG dLt (iOp dIx (iV 1) (iC (.int 0))) (iC (.int 1))) (aG dEq (iV 4) (iC (.int 0))))) (av (bc (ci (aG dEq (iV 3) (iC (.int 0))) (aG dEq (iV 4) (iC (.int 3)))) (aX (ar bP (ac (iV 0) (ac (aJ (bv (ac (aE (ac (iC (.str "all")) (ac (aE ai) ai))) (ac (aE (ac (iC (.str "any")) (ac (aE ai) ai))) (ac (aE (ac (iC (.str "odd")) (ac (aE ai) ai))) (ac (aE (ac (iC (.str "least")) (ac (ar aB (ac (iV 0) (ac (iC (.int 10)) ai))) (ac (aE ai) ai)))) ai)))))) ai)))) aM) (aX (aE (ac (iC (.str "switch")) (ac (ar aB (ac (iV 0) (ac (iV 3) ai))) ai))))) aM) (av (bc (aG dEq (iV 4) (iC (.int 1))) (aX (aE (ac (iC (.str "not")) (ac (ar self (ac (iV 0) (ac (iV 1) (ac (iOp cS (iV 2) (iC (.int 1))) (ac (iV 3) ai))))) ai)))) aM) (cN self)))))
noncomputable def bb:Nat->Fn
 | 0=>λ_ _=>none
 | n+1=>gw 8 4 (bq (bb n))
noncomputable def gX (self:Fn):Ef:=(ar self (ac (iV 0) ai))
noncomputable def dG (self:Fn):Sf:=(av (bc (aG dEq (iOp dIx (iV 0) (iC (.int 0))) (iC (.str "switch"))) (aX (iOp dIx (iC (.str "abcdef")) (iOp dIx (iV 0) (iC (.int 1))))) aM) (av (bc (aG dEq (iOp dIx (iV 0) (iC (.int 0))) (iC (.str "not"))) (aX (iOp aP (iC (.str "!")) (ar self (ac (iOp dIx (iV 0) (iC (.int 1))) ai)))) aM) (av (aT (.nm 1) (lR [("all","&"),("any","|"),("odd","^")] (iOp dIx (iV 0) (iC (.int 0))) (iCB kH (ac (iOp dIx (iV 0) (iC (.int 1))) ai)))) (aX (iOp aP (iOp aP (iOp aP (iV 1) (iC (.str "("))) (hG (iC (.str " ")) (ac (aJ (iLc 1 [] (cf (iOp dIx (iV 0) (iUn iu (iC (.int 1))))) (.nm 0) fj (gX self))) ai))) (iC (.str ")")))))))
noncomputable def bo:Nat->Fn
 | 0=>λ_ _=>none
 | n+1=>bX 2 1 (dG (bo n))
noncomputable def gj:Sf:=(av (lK 5 6 (ac (ar aB (ac (iV 0) (ac (iOp aP (iCB du (ac (iV 1) ai)) (iC (.int 1))) ai))) (ac (ar aB (ac (iV 0) (ac (iC (.int 3)) ai))) ai))) (av (aT (.nm 7) (iOp dIx (iV 3) (ar aB (ac (iV 0) (ac (iCB du (ac (iV 3) ai)) ai))))) (aT (.nm 1) (iOp aP (iOp aP (cQ (iV 1) iPn (iPs (iV 5))) (iOp dIx (aJ (bv (ac (ar bP (ac (iV 0) (ac (iV 2) ai))) (ac (iV 7) ai)))) (ar aB (ac (iV 0) (ac (iC (.int 2)) ai))))) (cQ (iV 1) (iPs (iOp aP (iV 5) (iV 6))) iPn)))))
noncomputable def dU:Sf:=(av (aT (.nm 3) (iC (.str " !\"#$&'()*+,-./0123456789:;<=>?@ABCDEFGHIJKLMNOPQRSTUVWXYZ[\\]^_`abcdefghijklmnopqrstuvwxyz{|}~\n"))) (av (jt (dB (ac (iOp aP (iC (.int 1)) (ar aB (ac (iV 0) (ac (iC (.int 2)) ai)))) ai)) (.nm 4) gj) (aX (iV 1))))
noncomputable def fF:Fn:=bX 8 3 dU
noncomputable def fP:Sf:=(qr (aX (aJ (bv (ac (ar de (ac (iV 0) ai)) ai)))) (iA gx (ac (iV 0) ai)) (.str "no text"))
noncomputable def eL:Fn:=bX 2 1 fP
noncomputable def iG:Sf:=rE
noncomputable def eM:Fn:=bX 3 2 iG
noncomputable def bw (self:Fn):Sf:=(av (aT (.nm 2) (ar self (ac (iV 4) (ac (iOp cS (iV 1) (iC (.int 1))) ai)))) (av (bc (ci (aG jk (iV 2) (iC .non)) (aG cA (cQ (iOp dIx (iV 2) (iC (.int 1))) iPn (iPs (iC (.int 1)))) (aE (ac (iC (.str " ")) (ac (iC (.str ")")) ai))))) (aX (iC .non)) aM) (av (lK 3 4 (ac (iOp aP (iV 3) (aE (ac (iOp dIx (iV 2) (iC (.int 0))) ai))) (ac (cQ (iOp dIx (iV 2) (iC (.int 1))) (iPs (iC (.int 1))) iPn) ai))) (bc (aG dEq (iOp dIx (iOp dIx (iV 2) (iC (.int 1))) (iC (.int 0))) (iC (.str ")"))) (aX (aE (ac (ar eM (ac (iOp dIx (iV 0) (iC (.int 0))) (ac (iV 3) ai))) (ac (iV 4) ai)))) aM))))
noncomputable def kX (self:Fn):Sf:=(av (lK 3 4 (ac (aE ai) (ac (cQ (iV 0) (iPs (iC (.int 2))) iPn) ai))) (av (bc (aG dEq (cQ (iV 4) iPn (iPs (iC (.int 1)))) (iC (.str ")"))) (aX (aE (ac (ar eM (ac (iOp dIx (iV 0) (iC (.int 0))) (ac (aE ai) ai))) (ac (cQ (iV 4) (iPs (iC (.int 1))) iPn) ai)))) aM) (av (jt (dB (ac (iC (.int 6)) ai)) (.nm 5) (bw self)) (aX (iC .non)))))
noncomputable def cO (self:Fn):Sf:=(av (bc (ci (aG dEq (iV 1) (iC (.int 0))) (aG dEq (iV 0) (iC (.str "")))) (aX (iC .non)) aM) (av (bc (aG vY (iOp dIx (iV 0) (iC (.int 0))) (iC (.str "abcdef"))) (aX (aE (ac (aE (ac (iC (.str "switch")) (ac (iTm iN (iC (.str "abcdef")) (ac (iOp dIx (iV 0) (iC (.int 0))) ai)) ai))) (ac (cQ (iV 0) (iPs (iC (.int 1))) iPn) ai)))) aM) (av (bc (aG dEq (iOp dIx (iV 0) (iC (.int 0))) (iC (.str "!"))) (av (aT (.nm 2) (ar self (ac (cQ (iV 0) (iPs (iC (.int 1))) iPn) (ac (iOp cS (iV 1) (iC (.int 1))) ai)))) (aX (qC (aG jk (iV 2) (iC .non)) (iC .non) (aE (ac (aE (ac (iC (.str "not")) (ac (iOp dIx (iV 2) (iC (.int 0))) ai))) (ac (iOp dIx (iV 2) (iC (.int 1))) ai)))))) aM) (av (bc (ci (aG jQ (iOp dIx (iV 0) (iC (.int 0))) (iC (.str "&|^0123456789"))) (aG dNe (cQ (iV 0) (iPs (iC (.int 1))) (iPs (iC (.int 2)))) (iC (.str "(")))) (aX (iC .non)) aM) (kX self)))))
noncomputable def bd:Nat->Fn
 | 0=>λ_ _=>none
 | n+1=>bX 6 2 (cO (bd n))
noncomputable def gJ (self:Fn):Ef:=(ar self (ac (iV 0) ai))
noncomputable def fR (self:Fn):Sf:=(av (bc (aG dEq (iOp dIx (iV 0) (iC (.int 0))) (iC (.str "switch"))) (aX (iC (.int 1))) aM) (av (bc (aG dEq (iOp dIx (iV 0) (iC (.int 0))) (iC (.str "not"))) (aX (iOp aP (iC (.int 1)) (ar self (ac (iOp dIx (iV 0) (iC (.int 1))) ai)))) aM) (aX (iOp aP (iC (.int 1)) (iCB v8 (ac (aJ (iLc 1 [] (cf (iOp dIx (iV 0) (iUn iu (iC (.int 1))))) (.nm 0) fj (gJ self))) ai))))))
noncomputable def bK:Nat->Fn
 | 0=>λ_ _=>none
 | n+1=>bX 1 1 (fR (bK n))
noncomputable def h9:Sf:=(av (aT (.nm 1) (ar (bd 7) (ac (iV 0) (ac (iC (.int 6)) ai)))) (av (bc (ci (aG jk (iV 1) (iC .non)) (ci (aG dNe (iOp dIx (iV 1) (iC (.int 1))) (iC (.str ""))) (aG dGt (ar (bK 7) (ac (iOp dIx (iV 1) (iC (.int 0))) ai)) (iC (.int 40))))) (aX (iC (.str "no text"))) aM) (aX (aJ (bv (ac (iOp dIx (iV 1) (iC (.int 0))) ai))))))
noncomputable def gg:Fn:=bX 2 1 h9
noncomputable def fI:Ef:=(iOp aP (iOp aP (iOp aP (iOp dIx (aJ (bv (ac (iC (.str "|")) (ac (iC (.str "^")) (ac (iC (.str "&")) (ac (iC (.str "3")) ai)))))) (ar aB (ac (iV 1) (ac (iC (.int 4)) ai)))) (iC (.str "("))) (hG (iC (.str " ")) (ac (iOp fV (aJ (bv (ac (iC (.str "a")) ai))) (iC (.int 6))) ai))) (iC (.str ")")))
noncomputable def gz:Sf:=(av (aT (.nm 1) (aJ (iLc 1 [0] (dB (ac (iC (.int 5)) ai)) (.nm 0) fj fI))) (aX (iOp aP (iOp aP (iC (.str "&(")) (hG (iC (.str " ")) (ac (iOp aP (iV 1) (aJ (bv (ac (iOp aP (iOp aP (iC (.str "|(")) (hG (iC (.str " ")) (ac (iOp fV (aJ (bv (ac (iC (.str "f")) ai))) (ar aB (ac (iV 0) (ac (iC (.int 8)) ai)))) ai))) (iC (.str ")"))) ai)))) ai))) (iC (.str ")")))))
noncomputable def fO:Fn:=bX 2 1 gz
noncomputable def oh:Ef:=(iOp dEq (ar eL (ac (iV 0) ai)) (iC (.str "no text")))
noncomputable def wY:Ef:=(iOp dEq (iCB iI (ac (ar eL (ac (iV 0) ai)) ai)) (iCB iI (ac (ar gg (ac (iV 0) ai)) ai)))
noncomputable def qS:Sf:=(av (aT (.nm 7) (iOp aP (iV 7) (aJ (bv (ac (iC (.str "&(a, b)")) (ac (iC (.str "&(a,b)")) (ac (iC (.str "&(a-b)")) (ac (iC (.str "a ")) ai)))))))) (av (aT (.nm 7) (iOp aP (iV 7) (aJ (bv (ac (iC (.str "&(a b))")) (ac (iC (.str "&((a b)")) (ac (iC (.str "&(a b")) (ac (iC (.str "&a")) (ac (iC (.str "!(a)")) (ac (iC (.str "2")) (ac (iC (.str "2()")) (ac (iC (.str "ab")) (ac (iC (.str "&[a b]")) (ac (iC (.str "&(!a)")) (ac (iC (.str "!&(a)")) (ac (iC (.str "&(a )")) ai)))))))))))))))) (av (bc (da (fu fK (iCB rT (ac (aJ (iLc 1 [] (cf (iV 7)) (.nm 0) fj wY)) ai)))) (aX (iC (.bl false))) aM) (aX (iCB rT (ac (aJ (iLc 1 [] (cf (aJ (bv (ac (iC .non) (ac (iC (.int 0)) (ac (iC (.bl true)) (ac (aE (ac (iC (.str "switch")) (ac (iC (.int 0)) ai))) (ac (aJ (bv (ac (iC (.str "a")) ai))) (ac (iC .dct) (ac (aE ai) (ac (aE (ac (iC (.str "a")) ai)) (ac (iC (.int 5)) ai)))))))))))) (.nm 0) fj oh)) ai))))))
noncomputable def jJ:Ef:=(iOp dEq (iCB iI (ac (ar eL (ac (iV 0) ai)) ai)) (iCB iI (ac (ar gg (ac (iV 0) ai)) ai)))
noncomputable def le:Ef:=(ar fF (ac (iV 1) (ac (iV 2) (ac (iV 3) ai))))
noncomputable def nO:Sf:=(av (aT (.nm 6) (iOp aP (aJ (bv (ac (iV 5) ai))) (aJ (iLc 1 [3,5,1] (dB (ac (iC (.int 4)) ai)) (.nm 0) fj le)))) (bc (da (fu fK (iCB rT (ac (aJ (iLc 1 [] (cf (iV 6)) (.nm 0) fj jJ)) ai)))) (aX (iC (.bl false))) aM))
noncomputable def oq:Sf:=(av (aT (.nm 3) (ar eJ (ac (iV 0) (ac (iV 2) ai)))) (av (aT (.nm 4) (aJ (bv (ac (ar (bo 7) (ac (ar (bb 7) (ac (iV 3) (ac (hX (bv (ac (iC (.int 14)) ai))) (ac (iOp aP (iC (.int 1)) (ar aB (ac (iV 3) (ac (iC (.int 7)) ai)))) (ac (iC (.int 6)) ai))))) ai)) (ac (ar fO (ac (iV 3) ai)) ai))))) (jt (cf (iOp aP (iV 4) (aJ (bv (ac (iOp aP (iOp kG (iC (.str "!")) (ar aB (ac (iV 3) (ac (iC (.int 9)) ai)))) (ar bP (ac (iV 3) (ac (aJ (bv (ac (iC (.str "a")) (ac (iC (.str "&()")) (ac (iC (.str "9()")) (ac (iC (.str "|(f)")) ai)))))) ai)))) ai))))) (.nm 5) nO)))
noncomputable def qY:Sf:=(av (aT (.nm 1) (aJ (bv (ac (iC (.str "")) (ac (iC (.str " ")) (ac (iC (.str "(")) (ac (iC (.str ")")) (ac (iC (.str "!")) (ac (iC (.str "&")) (ac (iC (.str "|")) (ac (iC (.str "^")) (ac (iC (.str "0")) (ac (iC (.str "12")) (ac (iC (.str "a")) (ac (iC (.str "f")) (ac (iC (.str "g")) (ac (iC (.str "&()")) (ac (iC (.str " a")) (ac (iC (.str "()")) (ac (iC (.str "!!")) (ac (iC (.str ") ")) ai))))))))))))))))))))) (av (jt (dB (ac (iOp aP (iC (.int 1)) (iCB yJ (ac (iC (.int 6)) (ac (iCB du (ac (iV 0) ai)) ai)))) ai)) (.nm 2) oq) (av (aT (.nm 7) (aJ (bv (ac (iC (.str "")) (ac (iC (.str "a")) (ac (iC (.str "f")) (ac (iC (.str "g")) (ac (iC (.str "A")) (ac (iC (.str "!")) (ac (iC (.str "!!!!!a")) (ac (iC (.str "!!!!!!a")) (ac (iC (.str "&")) (ac (iC (.str "&(")) (ac (iC (.str "&()")) (ac (iC (.str "&( )")) (ac (iC (.str "&(a)")) (ac (iC (.str "&(a b)")) (ac (iC (.str "&(a  b)")) ai)))))))))))))))))) (av (aT (.nm 7) (iOp aP (iV 7) (aJ (bv (ac (iC (.str "&(a b c d e f)")) (ac (iC (.str "&(a b c d e f a)")) (ac (iC (.str "10(a)")) (ac (iC (.str "9(a)")) (ac (iC (.str "0()")) (ac (iC (.str "-1(a)")) (ac (iC (.str "(a)")) (ac (iC (.str "a b")) (ac (iC (.str "a\n")) (ac (iC (.str " a")) ai)))))))))))))) qS))))
noncomputable def oB:Fn:=gw 8 1 qY
end Own
section
set_option maxHeartbeats 2000000
namespace Own
open PySem L2
noncomputable def top (i:Nat):Stmt:=PySem.Challenge.pw_signpoly_k78_texts_of_no_rules.main.body.getD i (.Pass ⟨0,0,0,0⟩)
abbrev eE:Stmt:=top 7
abbrev dH:Stmt:=top 8
abbrev bO:Stmt:=top 14
abbrev eg:Stmt:=top 15
abbrev eG:Stmt:=top 16
abbrev dZ:Stmt:=top 17
abbrev fH:Stmt:=top 18
abbrev eK:Stmt:=top 23
abbrev cG:Stmt:=top 24
abbrev dh:Stmt:=top 25
abbrev dc:Stmt:=top 26
abbrev dF:Stmt:=top 28
abbrev dL:Stmt:=top 29
abbrev dQ:Stmt:=top 30
abbrev cL:Stmt:=top 31
abbrev bF:Stmt:=top 32
abbrev bV:Stmt:=top 33
abbrev dM:Stmt:=top 34
abbrev dR:Stmt:=top 35
abbrev bW:Stmt:=top 36
abbrev cj:Stmt:=top 37
abbrev eH:Stmt:=top 38
abbrev df:Stmt:=top 39
abbrev iy:Stmt:=top 40
theorem pf:bp ["thing"] ["thing"] (ao eE):=⟨rfl,rfl,rfl,by decide +kernel,rfl,by decide +kernel,by decide +kernel⟩
theorem oy:bp ["thing","low","high"] ["thing","low","high"] (ao dH):=⟨rfl,rfl,rfl,by decide +kernel,rfl,by decide +kernel,by decide +kernel⟩
theorem jl:bp ["thing"] ["thing"] (ao bO):=⟨rfl,rfl,rfl,by decide +kernel,rfl,by decide +kernel,by decide +kernel⟩
theorem kI:bp ["thing","word"] ["thing"] (ao eg):=⟨rfl,rfl,rfl,by decide +kernel,rfl,by decide +kernel,by decide +kernel⟩
theorem oV:bp ["rule"] ["rule"] (ao eG):=⟨rfl,rfl,rfl,by decide +kernel,rfl,by decide +kernel,by decide +kernel⟩
theorem gn:bp ["thing","deep","many","part","within"] ["thing","deep"] (ao dZ):=⟨rfl,rfl,rfl,by decide +kernel,rfl,by decide +kernel,by decide +kernel⟩
theorem lD:bp ["thing","many"] ["thing"] (ao fH):=⟨rfl,rfl,rfl,by decide +kernel,rfl,by decide +kernel,by decide +kernel⟩
theorem mm:bp ["sign"] ["sign"] (ao eK):=⟨rfl,rfl,rfl,by decide +kernel,rfl,by decide +kernel,by decide +kernel⟩
theorem aW:bp ["text","place","deep","ahead","rules","told"] ["text","place","deep"] (ao cG):=⟨rfl,rfl,rfl,by decide +kernel,rfl,by decide +kernel,by decide +kernel⟩
theorem bt:bp ["text","place","deep","sign","told","head"] ["text","place","deep"] (ao dh):=⟨rfl,rfl,rfl,by decide +kernel,rfl,by decide +kernel,by decide +kernel⟩
theorem eP:bp ["thing","told"] ["thing"] (ao dc):=⟨rfl,rfl,rfl,by decide +kernel,rfl,by decide +kernel,by decide +kernel⟩
theorem eX:bp ["_law_script","_law_k","_law_cell","_law_far","_law_seed"] ["_law_script","_law_k"] (ao dF):=⟨rfl,rfl,rfl,by decide +kernel,rfl,by decide +kernel,by decide +kernel⟩
theorem jw:bp ["_law_hand_here","_law_many_here","_law_digit"] ["_law_hand_here","_law_many_here"] (ao dL):=⟨rfl,rfl,rfl,by decide +kernel,rfl,by decide +kernel,by decide +kernel⟩
theorem nv:bp ["_law_hand_here","_law_some"] ["_law_hand_here","_law_some"] (ao dQ):=⟨rfl,rfl,rfl,by decide +kernel,rfl,by decide +kernel,by decide +kernel⟩
theorem eU:bp ["_law_hand_here","_law_left","_law_deep","_law_most","_law_way","_law_some","_law_turn","_law_word"] ["_law_hand_here","_law_left","_law_deep","_law_most"] (ao cL):=⟨rfl,rfl,rfl,by decide +kernel,rfl,by decide +kernel,by decide +kernel⟩
theorem io:bp ["_law_rule_here","_law_mark"] ["_law_rule_here"] (ao bF):=⟨rfl,rfl,rfl,by decide +kernel,rfl,by decide +kernel,by decide +kernel⟩
theorem bY:bp ["_law_hand_here","_law_text","_law_near","_law_signs","_law_turn","_law_at","_law_cut","_law_one"] ["_law_hand_here","_law_text","_law_near"] (ao bV):=⟨rfl,rfl,rfl,by decide +kernel,rfl,by decide +kernel,by decide +kernel⟩
theorem jx:bp ["_law_text","error"] ["_law_text"] (ao dM):=⟨rfl,rfl,rfl,by decide +kernel,rfl,by decide +kernel,by decide +kernel⟩
theorem jS:bp ["_law_sign","_law_inner","_law_words"] ["_law_sign","_law_inner"] (ao dR):=⟨rfl,rfl,rfl,by decide +kernel,rfl,by decide +kernel,by decide +kernel⟩
theorem cY:bp ["_law_text","_law_deep","_law_found","_law_inner","_law_rest","_law_turn"] ["_law_text","_law_deep"] (ao bW):=⟨rfl,rfl,rfl,by decide +kernel,rfl,by decide +kernel,by decide +kernel⟩
theorem nn:bp ["_law_rule_here"] ["_law_rule_here"] (ao cj):=⟨rfl,rfl,rfl,by decide +kernel,rfl,by decide +kernel,by decide +kernel⟩
theorem kF:bp ["_law_text","_law_found"] ["_law_text"] (ao eH):=⟨rfl,rfl,rfl,by decide +kernel,rfl,by decide +kernel,by decide +kernel⟩
theorem jo:bp ["_law_hand_here","_law_inner"] ["_law_hand_here"] (ao df):=⟨rfl,rfl,rfl,by decide +kernel,rfl,by decide +kernel,by decide +kernel⟩
theorem gv:bp ["_law_script","_law_near","_law_k","_law_hand_here","_law_some","_law_text","_law_bent","_law_edges"] ["_law_script"] (ao iy):=⟨rfl,rfl,rfl,by decide +kernel,rfl,by decide +kernel,by decide +kernel⟩
set_option genSizeOf false in
set_option genInjectivity false in
structure Adr where
 f0:Addr
 g0:FuncData
 f1:Addr
 g1:FuncData
 f2:Addr
 g2:FuncData
 f3:Addr
 g3:FuncData
 f4:Addr
 g4:FuncData
 f5:Addr
 g5:FuncData
 f6:Addr
 g6:FuncData
 f7:Addr
 g7:FuncData
 f8:Addr
 g8:FuncData
 f9:Addr
 g9:FuncData
 f10:Addr
 g10:FuncData
 f11:Addr
 g11:FuncData
 f12:Addr
 g12:FuncData
 f13:Addr
 g13:FuncData
 f14:Addr
 g14:FuncData
 f15:Addr
 g15:FuncData
 f16:Addr
 g16:FuncData
 f17:Addr
 g17:FuncData
 f18:Addr
 g18:FuncData
 f19:Addr
 g19:FuncData
 f20:Addr
 g20:FuncData
 f21:Addr
 g21:FuncData
 f22:Addr
 g22:FuncData
 f23:Addr
 g23:FuncData
 ga_FIGURES:Tok
 ga_GREATEST_LEAST:Tok
 ga_LAST_SWITCH:Tok
 ga_LETTERS:Tok
 ga_MOST_DEEP:Tok
 ga_MOST_PARTS:Tok
 ga_MOST_RULES:Tok
 ga_WORDS:Addr
 ca_SignError:Addr
 ca_NoText:Addr
 ca_NoLine:Addr
 ca_OnNought:Addr
structure Txt (P:Program) (w:World) (K:PySem.W.Frag) (mg:Str->Option Value) (t:Adr):Prop where
 cm_SignError:mg "SignError" = some (.ref t.ca_SignError)
 cm_NoText:mg "NoText" = some (.ref t.ca_NoText)
 cm_NoLine:mg "NoLine" = some (.ref t.ca_NoLine)
 cm_OnNought:mg "OnNought" = some (.ref t.ca_OnNought)
 ck:PySem.W.excIn K t.ca_NoText xy "ValueError.__new__" = true
 cx:lN K t.ca_NoText=true
 ch:vp K t.ca_NoText t.ca_SignError=true
 cT:PySem.W.kitAny K (.ref t.ca_NoText) [.ref t.ca_NoLine,.ref t.ca_OnNought]=some false
 cV:PySem.W.kitOne K (.ref t.ca_NoText) (.type "ValueError")=some true
 F0:Fun K "is_whole" "is_whole" eE t.f0 t.g0
 m0:mg "is_whole" = some (.ref t.f0)
 b0:cw K t.g0 ["thing"] []
 F1:Fun K "is_within" "is_within" dH t.f1 t.g1
 m1:mg "is_within" = some (.ref t.f1)
 b1:cw K t.g1 ["thing","low","high"] []
 F2:Fun K "is_row_of_parts" "is_row_of_parts" bO t.f2 t.g2
 m2:mg "is_row_of_parts" = some (.ref t.f2)
 b2:cw K t.g2 ["thing"] []
 F3:Fun K "has_form" "has_form" eg t.f3 t.g3
 m3:mg "has_form" = some (.ref t.f3)
 b3:cw K t.g3 ["thing"] []
 F4:Fun K "parts_of" "parts_of" eG t.f4 t.g4
 m4:mg "parts_of" = some (.ref t.f4)
 b4:cw K t.g4 ["rule"] []
 F5:Fun K "counted" "counted" dZ t.f5 t.g5
 m5:mg "counted" = some (.ref t.f5)
 b5:cw K t.g5 ["thing","deep"] []
 F6:Fun K "is_rule" "is_rule" fH t.f6 t.g6
 m6:mg "is_rule" = some (.ref t.f6)
 b6:cw K t.g6 ["thing"] []
 F7:Fun K "head_by" "head_by" eK t.f7 t.g7
 m7:mg "head_by" = some (.ref t.f7)
 b7:cw K t.g7 ["sign"] []
 F8:Fun K "rules_from" "rules_from" cG t.f8 t.g8
 m8:mg "rules_from" = some (.ref t.f8)
 b8:cw K t.g8 ["text","place","deep"] []
 F9:Fun K "rule_from" "rule_from" dh t.f9 t.g9
 m9:mg "rule_from" = some (.ref t.f9)
 b9:cw K t.g9 ["text","place","deep"] []
 F10:Fun K "read_rule" "read_rule" dc t.f10 t.g10
 m10:mg "read_rule" = some (.ref t.f10)
 b10:cw K t.g10 ["thing"] []
 F11:Fun K "_law_hand" "_law_hand" dF t.f11 t.g11
 m11:mg "_law_hand" = some (.ref t.f11)
 b11:cw K t.g11 ["_law_script","_law_k"] []
 F12:Fun K "_law_take" "_law_take" dL t.f12 t.g12
 m12:mg "_law_take" = some (.ref t.f12)
 b12:cw K t.g12 ["_law_hand_here","_law_many_here"] []
 F13:Fun K "_law_pick" "_law_pick" dQ t.f13 t.g13
 m13:mg "_law_pick" = some (.ref t.f13)
 b13:cw K t.g13 ["_law_hand_here","_law_some"] []
 F14:Fun K "_law_rule" "_law_rule" cL t.f14 t.g14
 m14:mg "_law_rule" = some (.ref t.f14)
 b14:cw K t.g14 ["_law_hand_here","_law_left","_law_deep","_law_most"] []
 F15:Fun K "_law_written" "_law_written" bF t.f15 t.g15
 m15:mg "_law_written" = some (.ref t.f15)
 b15:cw K t.g15 ["_law_rule_here"] []
 F16:Fun K "_law_text_bent" "_law_text_bent" bV t.f16 t.g16
 m16:mg "_law_text_bent" = some (.ref t.f16)
 b16:cw K t.g16 ["_law_hand_here","_law_text","_law_near"] []
 F17:Fun K "_law_told" "_law_told" dM t.f17 t.g17
 m17:mg "_law_told" = some (.ref t.f17)
 b17:cw K t.g17 ["_law_text"] []
 F18:Fun K "_law_made" "_law_made" dR t.f18 t.g18
 m18:mg "_law_made" = some (.ref t.f18)
 b18:cw K t.g18 ["_law_sign","_law_inner"] []
 F19:Fun K "_law_begins" "_law_begins" bW t.f19 t.g19
 m19:mg "_law_begins" = some (.ref t.f19)
 b19:cw K t.g19 ["_law_text","_law_deep"] []
 F20:Fun K "_law_many" "_law_many" cj t.f20 t.g20
 m20:mg "_law_many" = some (.ref t.f20)
 b20:cw K t.g20 ["_law_rule_here"] []
 F21:Fun K "_law_due" "_law_due" eH t.f21 t.g21
 m21:mg "_law_due" = some (.ref t.f21)
 b21:cw K t.g21 ["_law_text"] []
 F22:Fun K "_law_wide" "_law_wide" df t.f22 t.g22
 m22:mg "_law_wide" = some (.ref t.f22)
 b22:cw K t.g22 ["_law_hand_here"] []
 F23:Fun K "law" "law" iy t.f23 t.g23
 m23:mg "law" = some (.ref t.f23)
 b23:cw K t.g23 ["_law_script"] []
 z_ValueError:mg "ValueError" = none
 z_abs:mg "abs" = none
 z_all:mg "all" = none
 z_bool:mg "bool" = none
 z_int:mg "int" = none
 z_isinstance:mg "isinstance" = none
 z_len:mg "len" = none
 z_list:mg "list" = none
 z_min:mg "min" = none
 z_range:mg "range" = none
 z_repr:mg "repr" = none
 z_str:mg "str" = none
 z_sum:mg "sum" = none
 z_tuple:mg "tuple" = none
 g_FIGURES:mg "FIGURES" = some (.str "0123456789" t.ga_FIGURES)
 gq_FIGURES:∀ H φ,Rl K H φ (.str "0123456789") (.str "0123456789")
 g_GREATEST_LEAST:mg "GREATEST_LEAST" = some (.int 9 t.ga_GREATEST_LEAST)
 gq_GREATEST_LEAST:∀ H φ,Rl K H φ (.int 9) (.int 9)
 g_LAST_SWITCH:mg "LAST_SWITCH" = some (.int 5 t.ga_LAST_SWITCH)
 gq_LAST_SWITCH:∀ H φ,Rl K H φ (.int 5) (.int 5)
 g_LETTERS:mg "LETTERS" = some (.str "abcdef" t.ga_LETTERS)
 gq_LETTERS:∀ H φ,Rl K H φ (.str "abcdef") (.str "abcdef")
 g_MOST_DEEP:mg "MOST_DEEP" = some (.int 6 t.ga_MOST_DEEP)
 gq_MOST_DEEP:∀ H φ,Rl K H φ (.int 6) (.int 6)
 g_MOST_PARTS:mg "MOST_PARTS" = some (.int 6 t.ga_MOST_PARTS)
 gq_MOST_PARTS:∀ H φ,Rl K H φ (.int 6) (.int 6)
 g_MOST_RULES:mg "MOST_RULES" = some (.int 40 t.ga_MOST_RULES)
 gq_MOST_RULES:∀ H φ,Rl K H φ (.int 40) (.int 40)
 g_WORDS:mg "WORDS" = some (.ref t.ga_WORDS)
 gk_WORDS:KDc K P w t.ga_WORDS [("&",(.str "all")),("|",(.str "any")),("^",(.str "odd"))]
abbrev Bdy (P:Program) (w:World) (K:PySem.W.Frag) (mg:Str->Option Value) (base:Heap) (k:Nat) (N:List Str) (x:Str) (sd:Stmt) (f:Addr) (b:Sf):Prop:=∀ (cdv:Value) (A:Around) (outer:List Env) (s:Shared) (H:Hp) (E:XK),cZ k (A.deeper (PyProof.Rows.envOfC x (ao sd) s.heap.objs.size f cdv))->ISs K (ir CX0 P w K mg base N x (ao sd) f cdv A outer s H E).nox (aZ sd) b
abbrev vA (P:Program) (w:World) (K:PySem.W.Frag) (mg:Str->Option Value) (base:Heap) (C:Value) (k:Nat) (N:List Str) (x:Str) (sd:Stmt) (f:Addr) (b:Rf):Prop:=∀ (cdv:Value) (A:Around) (outer:List Env) (s:Shared) (H:Hp) (E:XK),cZ k (A.deeper (PyProof.Rows.envOfC x (ao sd) s.heap.objs.size f cdv))->RSs K (ir (CX1 P w C) P w K mg base N x (ao sd) f cdv A outer s H E) C (aZ sd) b
section
variable {P:Program}{w:World}{K:PySem.W.Frag}{mg:Str->Option Value}{base:Heap}{t:Adr}
theorem mw (T:Txt P w K mg t):Bdy P w K mg base 0 ["thing"] "is_whole" eE t.f0 h8:=
 λ_ _ _ _ _ _ hr=>(au (aQ (jm (cm (iM rfl) rfl T.z_isinstance PyProof.Rows.boot_isinstance (ae (iv 0) (ae (kK rfl T.z_int PyProof.Rows.boot_int (by decide) (by decide)) ag rfl) rfl) (by decide) (by decide) rfl rfl) (j0 (xV (cm (iM rfl) rfl T.z_isinstance PyProof.Rows.boot_isinstance (ae (iv 0) (ae (kK rfl T.z_bool PyProof.Rows.boot_bool (by decide) (by decide)) ag rfl) rfl) (by decide) (by decide) rfl rfl))))))
theorem pS (T:Txt P w K mg t):bD P w K mg base CX0 1 t.f0 t.g0 ["thing"] (spI K jf):=
 gM (N:=["thing"]) (b:=h8) T.F0 pf (mw T)
theorem mq (T:Txt P w K mg t):Bdy P w K mg base 1 ["thing","low","high"] "is_within" dH t.f1 gG:=
 λ_ _ _ _ _ _ hr=>(au (aQ (jm (aC (pS T) (by decide) hr rfl T.m0 T.F0.kp T.b0 (ae (iv 0) ag rfl) (by decide) rfl rfl) (j0 (uw rB rB (iv 1) (iv 0) (iv 2) (by with_unfolding_all rfl))))))
theorem jC (T:Txt P w K mg t):bD P w K mg base CX0 2 t.f1 t.g1 ["thing","low","high"] (spI K fM):=
 gM (N:=["thing","low","high"]) (b:=gG) T.F1 oy (mq T)
theorem iL (T:Txt P w K mg t):Bdy P w K mg base 0 ["thing"] "is_row_of_parts" bO t.f2 dC:=
 λ_ _ _ _ _ _ hr=>(au (aQ (jm (cm (iM rfl) rfl T.z_isinstance PyProof.Rows.boot_isinstance (ae (iv 0) (ae (kK rfl T.z_tuple PyProof.Rows.boot_tuple (by decide) (by decide)) ag rfl) rfl) (by decide) (by decide) rfl rfl) (j0 (ig rB (cm (ft rfl) rfl T.z_len PySem.boot_len (ae (iv 0) ag rfl) (by decide) (by decide) rfl rfl) (fW (v:=.int 6) rfl T.g_MOST_PARTS ⟨_,rfl⟩ T.gq_MOST_PARTS (by decide)) (aU _))))))
theorem gh (T:Txt P w K mg t):bD P w K mg base CX0 1 t.f2 t.g2 ["thing"] (spI K cF):=
 gM (N:=["thing"]) (b:=dC) T.F2 jl (iL T)
theorem mz (T:Txt P w K mg t):Bdy P w K mg base 2 ["thing","word"] "has_form" eg t.f3 dn:=
 λ_ _ _ _ _ _ hr=>(am (bn (gt (fg (gm (gq (cm (iM rfl) rfl T.z_isinstance PyProof.Rows.boot_isinstance (ae (iv 0) (ae (kK rfl T.z_tuple PyProof.Rows.boot_tuple (by decide) (by decide)) ag rfl) rfl) (by decide) (by decide) rfl rfl) rfl rfl)) (fg (aN (gk rfl) (cm (ft rfl) rfl T.z_len PySem.boot_len (ae (iv 0) ag rfl) (by decide) (by decide) rfl rfl) (aY (ae ah (ae ah ag rfl) rfl)) rfl) (eS (gm (gq (cm (iM rfl) rfl T.z_isinstance PyProof.Rows.boot_isinstance (ae (aS (iv 0) ah rfl rfl) (ae (kK rfl T.z_str PyProof.Rows.boot_str (by decide) (by decide)) ag rfl) rfl) (by decide) (by decide) rfl rfl) rfl rfl)))))) (au (aQ nj)) aK) (am (aV (i:=1) kI.nd rfl (.inl rfl) (aS (iv 0) ah rfl rfl) rfl (.inl rfl)) (am (bn (aN (cp hr rfl) (iv 1) aj (aU _)) (au (aQ (jm (ig (cp hr rfl) (cm (ft rfl) rfl T.z_len PySem.boot_len (ae (iv 0) ag rfl) (by decide) (by decide) rfl rfl) ah (aU _)) (jm (aC (jC T) (by decide) hr rfl T.m1 T.F1.kp T.b1 (ae (aS (iv 0) ah rfl rfl) (ae ah (ae (fW (v:=.int 9) rfl T.g_GREATEST_LEAST ⟨_,rfl⟩ T.gq_GREATEST_LEAST (by decide)) ag rfl) rfl) rfl) (by decide) rfl rfl) (j0 (aC (gh T) (by decide) hr rfl T.m2 T.F2.kp T.b2 (ae (aS (iv 0) ah rfl rfl) ag rfl) (by decide) rfl rfl)))))) aK) (am (bn (aN (il hr rfl) (cm (ft rfl) rfl T.z_len PySem.boot_len (ae (iv 0) ag rfl) (by decide) (by decide) rfl rfl) ah (aU _)) (au (aQ nj)) aK) (am (bn (aN (cp hr rfl) (iv 1) aj (aU _)) (au (aQ (aC (jC T) (by decide) hr rfl T.m1 T.F1.kp T.b1 (ae (aS (iv 0) ah rfl rfl) (ae ah (ae (fW (v:=.int 5) rfl T.g_LAST_SWITCH ⟨_,rfl⟩ T.gq_LAST_SWITCH (by decide)) ag rfl) rfl) rfl) (by decide) rfl rfl))) aK) (am (bn (aN (cp hr rfl) (iv 1) aj (aU _)) (au (aQ nj)) aK) (au (aQ (jm (ig (nk rfl) (iv 1) (aY (ae aj (ae aj (ae aj ag rfl) rfl) rfl)) rfl) (j0 (aC (gh T) (by decide) hr rfl T.m2 T.F2.kp T.b2 (ae (aS (iv 0) ah rfl rfl) ag rfl) (by decide) rfl rfl)))))))))))
theorem oJ (T:Txt P w K mg t):bD P w K mg base CX0 3 t.f3 t.g3 ["thing"] (spI K bZ):=
 gM (N:=["thing","word"]) (b:=dn) T.F3 kI (mz T)
theorem mB (T:Txt P w K mg t):Bdy P w K mg base 0 ["rule"] "parts_of" eG t.f4 dk:=
 λ_ _ _ _ _ _ hr=>(am (bn (aN (cp hr rfl) (aS (iv 0) ah rfl rfl) aj (aU _)) (au (aQ (aY ag))) aK) (am (bn (aN (cp hr rfl) (aS (iv 0) ah rfl rfl) aj (aU _)) (au (aQ (aY (ae (aS (iv 0) ah rfl rfl) ag rfl)))) aK) (au (aQ (aS (iv 0) (qj ah) rfl rfl)))))
theorem oA (T:Txt P w K mg t):bD P w K mg base CX0 1 t.f4 t.g4 ["rule"] (spI K bU):=
 gM (N:=["rule"]) (b:=dk) T.F4 oV (mB T)
theorem nS (T:Txt P w K mg t) (n:Nat) (ih:bD P w K mg base CX0 (3+n) t.f5 t.g5 ["thing","deep"] (spI K (bS n))) (cdv:Value) (A:Around) (outer:List Env) (s:Shared) (H:Hp) (E:XK) (hr:cZ (3+n) (A.deeper (PyProof.Rows.envOfC "counted" (ao dZ) s.heap.objs.size t.f5 cdv))):ISs K (ir CX0 P w K mg base ["thing","deep","many","part","within"] "counted" (ao dZ) t.f5 cdv A outer s H E).nox (aZ dZ) (fD (bS n)):=
 (am (bn (gt (fg (aN (cp hr rfl) (iv 1) ah (aU _)) (eS (gm (gq (aC (oJ T) (by omega) hr rfl T.m3 T.F3.kp T.b3 (ae (iv 0) ag rfl) (by decide) rfl rfl) rfl rfl))))) (au (aQ fC)) aK) (am (aV (i:=2) gn.nd rfl (.inl rfl) ah rfl (.inl rfl)) (am (jZ (ji (aC (oA T) (by omega) hr rfl T.m4 T.F4.kp T.b4 (ae (iv 0) ag rfl) (by decide) rfl rfl) rfl) (dW (dY (i:=3) gn.nd rfl (.inl rfl))) (am (aV (i:=4) gn.nd rfl (.inl rfl) (aC ih (Nat.le_refl _) hr rfl T.m5 T.F5.kp T.b5 (ae (iv 3) (ae (aD eQ (iv 1) ah) ag rfl) rfl) (by decide) rfl rfl) rfl (.inl rfl)) (am (bn (aN nW (iv 4) fC (aU _)) (au (aQ fC)) aK) (au (aV (i:=2) gn.nd rfl (.inl rfl) (aD (aL rfl) (iv 2) (iv 4)) rfl (.inl rfl))))) PassesOwn.never rfl (λ_=>rfl)) (au (aQ (iv 2))))))
theorem lC (T:Txt P w K mg t):∀ n:Nat,bD P w K mg base CX0 (3+n) t.f5 t.g5 ["thing","deep"] (spI K (bS n))
 | 0=>⟨λ_ _ _ _ ⟨_,_,_,_,h,_⟩=>(nomatch h),λ_ _ _ _ _ _ _ _ _ _ _ _ _ ⟨_,_,_,_,h,_⟩=>(nomatch h)⟩
 | n+1=>show bD P w K mg base CX0 (3+n+1) t.f5 t.g5 ["thing","deep"] (spI K (bX (List.length (α:=Str) ["thing","deep","many","part","within"]) (List.length (α:=Str) ["thing","deep"]) (fD (bS n)))) from gM (N:=["thing","deep","many","part","within"]) (ps:=["thing","deep"]) (k:=3+n) (b:=fD (bS n)) T.F5 gn (λcdv A outer s H E hr=>nS T n (lC T n) cdv A outer s H E hr)
theorem ox (T:Txt P w K mg t):Bdy P w K mg base 11 ["thing","many"] "is_rule" fH t.f6 iP:=
 λ_ _ _ _ _ _ hr=>(am (aV (i:=1) lD.nd rfl (.inl rfl) (aC (lC T 7) (by decide) hr rfl T.m5 T.F5.kp T.b5 (ae (iv 0) (ae (fW (v:=.int 6) rfl T.g_MOST_DEEP ⟨_,rfl⟩ T.gq_MOST_DEEP (by decide)) ag rfl) rfl) (by decide) rfl rfl) rfl (.inl rfl)) (au (aQ (jm (ig vj (iv 1) fC (aU _)) (j0 (ig rB (iv 1) (fW (v:=.int 40) rfl T.g_MOST_RULES ⟨_,rfl⟩ T.gq_MOST_RULES (by decide)) (aU _)))))))
theorem jb (T:Txt P w K mg t):bD P w K mg base CX0 12 t.f6 t.g6 ["thing"] (spI K fq):=
 gM (N:=["thing","many"]) (b:=iP) T.F6 lD (ox T)
theorem ny (T:Txt P w K mg t):Bdy P w K mg base 0 ["sign"] "head_by" eK t.f7 iX:=
 λ_ _ _ _ _ _ hr=>(am (bn (sU tq rfl T.g_WORDS T.gk_WORDS (iv 0) (by decide) rfl) (au (aQ (aY (ae (ui rfl T.g_WORDS T.gk_WORDS (iv 0) rfl (by decide)) ag rfl)))) aK) (am (bn (aN (nk rfl) (iv 0) (bi (rA (jI hr) rfl T.z_list PyProof.Rows.boot_list (ae (fW (v:=.str "0123456789") rfl T.g_FIGURES ⟨_,rfl⟩ T.gq_FIGURES (by decide)) ag rfl) (by decide) (by decide) rfl rfl)) rfl) (au (aQ (aY (ae aj (ae (oE PySem.F.slot_str_find PySem.F.type_str_find jO hJ (fW (v:=.str "0123456789") rfl T.g_FIGURES ⟨_,rfl⟩ T.gq_FIGURES (by decide)) (ae (iv 0) ag rfl) rfl rfl rfl rfl) ag rfl) rfl)))) aK) (au d8)))
theorem mo (T:Txt P w K mg t):bD P w K mg base CX0 1 t.f7 t.g7 ["sign"] (spI K dy):=
 gM (N:=["sign"]) (b:=iX) T.F7 mm (ny T)
theorem mG (T:Txt P w K mg t):vA P w K mg base (.ref t.ca_NoText) 0 ["sign"] "head_by" eK t.f7 ic:=
 λ_ _ _ _ _ _ hr=>(bE i9 (bn (sU tq rfl T.g_WORDS T.gk_WORDS (iv 0) (by decide) rfl) (au (aQ (aY (ae (ui rfl T.g_WORDS T.gk_WORDS (iv 0) rfl (by decide)) ag rfl)))) aK) (bE i9 (bn (aN (nk rfl) (iv 0) (bi (rA (jI hr) rfl T.z_list PyProof.Rows.boot_list (ae (fW (v:=.str "0123456789") rfl T.g_FIGURES ⟨_,rfl⟩ T.gq_FIGURES (by decide)) ag rfl) (by decide) (by decide) rfl rfl)) rfl) (au (aQ (aY (ae aj (ae (oE PySem.F.slot_str_find PySem.F.type_str_find jO hJ (fW (v:=.str "0123456789") rfl T.g_FIGURES ⟨_,rfl⟩ T.gq_FIGURES (by decide)) (ae (iv 0) ag rfl) rfl rfl rfl rfl) ag rfl) rfl)))) aK) (gC (ge T.ck T.cm_NoText rfl rfl (ae aj ag rfl) (by decide) rfl rfl))))
theorem pG (T:Txt P w K mg t):bD P w K mg base (CX1 P w (.ref t.ca_NoText)) 1 t.f7 t.g7 ["sign"] (spX K fE):=
 vH (N:=["sign"]) (b:=ic) T.F7 mm (mG T)
theorem kO (T:Txt P w K mg t) (n:Nat) {self:Fn} (ih:bD P w K mg base CX0 (1+2*n) t.f9 t.g9 ["text","place","deep"] (spI K self)):Bdy P w K mg base (1+2*n) ["text","place","deep","ahead","rules","told"] "rules_from" cG t.f8 (dl self):=
 λ_ _ _ _ _ _ hr=>(am (bn (aN (cp hr rfl) (cX (iv 0) (bj (iv 1)) (bj (aD (aL rfl) (iv 1) ah)) rfl) aj (aU _)) (au (aQ (aY (ae (aY ag) (ae (aD (aL rfl) (iv 1) ah) ag rfl) rfl)))) aK) (am (aV (i:=3) aW.nd rfl (.inl rfl) (cX (iv 0) (bj (iv 1)) (bj (aD (aL rfl) (iv 1) ah)) rfl) rfl (.inl rfl)) (am (bn (aN (il hr rfl) (iv 3) aj (aU _)) (au d8) aK) (am (aV (i:=4) aW.nd rfl (.inl rfl) (ml (bR ag)) rfl (.inl rfl)) (am (pM 1000 (aN (il hr rfl) (iv 3) aj (aU _)) (am (aV (i:=5) aW.nd rfl (.inl rfl) (aC ih (by lia) hr rfl T.m9 T.F9.kp T.b9 (ae (iv 0) (ae (aD (aL rfl) (iv 1) ah) (ae (iv 2) ag rfl) rfl) rfl) (by decide) rfl rfl) rfl (.inl rfl)) (am (jL (gQ (iv 4) (ae (aS (iv 5) ah rfl rfl) ag rfl) rfl rfl (by decide) rfl rfl) rfl) (am (aV (i:=1) aW.nd rfl (.inl rfl) (aS (iv 5) ah rfl rfl) rfl (.inl rfl)) (am (aV (i:=3) aW.nd rfl (.inl rfl) (cX (iv 0) (bj (iv 1)) (bj (aD (aL rfl) (iv 1) ah)) rfl) rfl (.inl rfl)) (au (bn (aN (gk rfl) (iv 3) (aY (ae aj (ae aj ag rfl) rfl)) rfl) (au d8) aK)))))) PassesOwn.never) (au (aQ (aY (ae (pQ (pU rfl) rfl T.z_tuple PyProof.Rows.boot_tuple (ae (iv 4) ag rfl) (by decide) (by decide) rfl rfl) (ae (aD (aL rfl) (iv 1) ah) ag rfl) rfl)))))))))
theorem ja (T:Txt P w K mg t) (n:Nat) {self:Fn} (ih:bD P w K mg base CX0 (1+2*n) t.f9 t.g9 ["text","place","deep"] (spI K self)):bD P w K mg base CX0 (1+2*n+1) t.f8 t.g8 ["text","place","deep"] (spI K (cg self)):=
 xF (N:=["text","place","deep","ahead","rules","told"]) (b:=dl self) T.F8 aW (kO T n ih)
theorem kj (T:Txt P w K mg t) (n:Nat) {self:Fn} (ih:bD P w K mg base CX0 (1+2*n) t.f9 t.g9 ["text","place","deep"] (spI K self)) {selfx:Rn} (ihx:bD P w K mg base (CX1 P w (.ref t.ca_NoText)) (1+2*n) t.f9 t.g9 ["text","place","deep"] (spX K selfx)):vA P w K mg base (.ref t.ca_NoText) (1+2*n) ["text","place","deep","ahead","rules","told"] "rules_from" cG t.f8 (d6 self selfx):=
 λ_ _ _ _ _ _ hr=>(bE i9 (bn (aN (cp hr rfl) (cX (iv 0) (bj (iv 1)) (bj (aD (aL rfl) (iv 1) ah)) rfl) aj (aU _)) (au (aQ (aY (ae (aY ag) (ae (aD (aL rfl) (iv 1) ah) ag rfl) rfl)))) aK) (bE i9 (aV (i:=3) aW.nd rfl (.inl rfl) (cX (iv 0) (bj (iv 1)) (bj (aD (aL rfl) (iv 1) ah)) rfl) rfl (.inl rfl)) (bE (mK (aN (il hr rfl) (iv 3) aj (aU _)) (gC (ge T.ck T.cm_NoText rfl rfl (ae aj ag rfl) (by decide) rfl rfl)) gH) (bn (aN (il hr rfl) (iv 3) aj (aU _)) (au d8) aK) (bE i9 (aV (i:=4) aW.nd rfl (.inl rfl) (ml (bR ag)) rfl (.inl rfl)) (bE (uA 1000 (aN (il hr rfl) (iv 3) aj (aU _)) (am (aV (i:=5) aW.nd rfl (.inl rfl) (aC ih (by lia) hr rfl T.m9 T.F9.kp T.b9 (ae (iv 0) (ae (aD (aL rfl) (iv 1) ah) (ae (iv 2) ag rfl) rfl) rfl) (by decide) rfl rfl) rfl (.inl rfl)) (am (jL (gQ (iv 4) (ae (aS (iv 5) ah rfl rfl) ag rfl) rfl rfl (by decide) rfl rfl) rfl) (am (aV (i:=1) aW.nd rfl (.inl rfl) (aS (iv 5) ah rfl rfl) rfl (.inl rfl)) (am (aV (i:=3) aW.nd rfl (.inl rfl) (cX (iv 0) (bj (iv 1)) (bj (aD (aL rfl) (iv 1) ah)) rfl) rfl (.inl rfl)) (au (bn (aN (gk rfl) (iv 3) (aY (ae aj (ae aj ag rfl) rfl)) rfl) (au d8) aK)))))) (bE (lw (i:=5) aW.nd rfl (.inl rfl) (iW ihx (by lia) hr rfl T.m9 T.F9.kp T.b9 (ae (iv 0) (ae (aD (aL rfl) (iv 1) ah) (ae (iv 2) ag rfl) rfl) rfl) (by decide) rfl rfl) rfl (.inl rfl)) (aV (i:=5) aW.nd rfl (.inl rfl) (aC ih (by lia) hr rfl T.m9 T.F9.kp T.b9 (ae (iv 0) (ae (aD (aL rfl) (iv 1) ah) (ae (iv 2) ag rfl) rfl) rfl) (by decide) rfl rfl) rfl (.inl rfl)) (bE i9 (jL (gQ (iv 4) (ae (aS (iv 5) ah rfl rfl) ag rfl) rfl rfl (by decide) rfl rfl) rfl) (bE i9 (aV (i:=1) aW.nd rfl (.inl rfl) (aS (iv 5) ah rfl rfl) rfl (.inl rfl)) (bE i9 (aV (i:=3) aW.nd rfl (.inl rfl) (cX (iv 0) (bj (iv 1)) (bj (aD (aL rfl) (iv 1) ah)) rfl) rfl (.inl rfl)) (gC (mK (aN (gk rfl) (iv 3) (aY (ae aj (ae aj ag rfl) rfl)) rfl) (gC (ge T.ck T.cm_NoText rfl rfl (ae aj ag rfl) (by decide) rfl rfl)) gH)))))) PassesOwn.leaving) (pM 1000 (aN (il hr rfl) (iv 3) aj (aU _)) (am (aV (i:=5) aW.nd rfl (.inl rfl) (aC ih (by lia) hr rfl T.m9 T.F9.kp T.b9 (ae (iv 0) (ae (aD (aL rfl) (iv 1) ah) (ae (iv 2) ag rfl) rfl) rfl) (by decide) rfl rfl) rfl (.inl rfl)) (am (jL (gQ (iv 4) (ae (aS (iv 5) ah rfl rfl) ag rfl) rfl rfl (by decide) rfl rfl) rfl) (am (aV (i:=1) aW.nd rfl (.inl rfl) (aS (iv 5) ah rfl rfl) rfl (.inl rfl)) (am (aV (i:=3) aW.nd rfl (.inl rfl) (cX (iv 0) (bj (iv 1)) (bj (aD (aL rfl) (iv 1) ah)) rfl) rfl (.inl rfl)) (au (bn (aN (gk rfl) (iv 3) (aY (ae aj (ae aj ag rfl) rfl)) rfl) (au d8) aK)))))) PassesOwn.never) gH)))))
theorem mi (T:Txt P w K mg t) (n:Nat) {self:Fn} (ih:bD P w K mg base CX0 (1+2*n) t.f9 t.g9 ["text","place","deep"] (spI K self)) {selfx:Rn} (ihx:bD P w K mg base (CX1 P w (.ref t.ca_NoText)) (1+2*n) t.f9 t.g9 ["text","place","deep"] (spX K selfx)):bD P w K mg base (CX1 P w (.ref t.ca_NoText)) (1+2*n+1) t.f8 t.g8 ["text","place","deep"] (spX K (eR self selfx)):=
 vH (N:=["text","place","deep","ahead","rules","told"]) (b:=d6 self selfx) T.F8 aW (kj T n ih ihx)
theorem lP (T:Txt P w K mg t) (n:Nat) {self:Fn} (ih:bD P w K mg base CX0 (1+2*n) t.f9 t.g9 ["text","place","deep"] (spI K self)):Bdy P w K mg base (1+2*n+1) ["text","place","deep","sign","told","head"] "rule_from" dh t.f9 (cI self):=
 λ_ _ _ _ _ _ hr=>(am (bn (aN (cp hr rfl) (iv 2) ah (aU _)) (au d8) aK) (am (aV (i:=3) bt.nd rfl (.inl rfl) (cX (iv 0) (bj (iv 1)) (bj (aD (aL rfl) (iv 1) ah)) rfl) rfl (.inl rfl)) (am (bn (aN (nk rfl) (iv 3) (bi (rA (jI hr) rfl T.z_list PyProof.Rows.boot_list (ae (fW (v:=.str "abcdef") rfl T.g_LETTERS ⟨_,rfl⟩ T.gq_LETTERS (by decide)) ag rfl) (by decide) (by decide) rfl rfl)) rfl) (au (aQ (aY (ae (aY (ae aj (ae (oE PySem.F.slot_str_find PySem.F.type_str_find jO hJ (fW (v:=.str "abcdef") rfl T.g_LETTERS ⟨_,rfl⟩ T.gq_LETTERS (by decide)) (ae (iv 3) ag rfl) rfl rfl rfl rfl) ag rfl) rfl)) (ae (aD (aL rfl) (iv 1) ah) ag rfl) rfl)))) aK) (am (bn (aN (cp hr rfl) (iv 3) aj (aU _)) (am (aV (i:=4) bt.nd rfl (.inl rfl) (aC ih (by lia) hr rfl T.m9 T.F9.kp T.b9 (ae (iv 0) (ae (aD (aL rfl) (iv 1) ah) (ae (aD eQ (iv 2) ah) ag rfl) rfl) rfl) (by decide) rfl rfl) rfl (.inl rfl)) (au (aQ (aY (ae (aY (ae aj (ae (aS (iv 4) ah rfl rfl) ag rfl) rfl)) (ae (aS (iv 4) ah rfl rfl) ag rfl) rfl))))) aK) (am (aV (i:=5) bt.nd rfl (.inl rfl) (aC (mo T) (by lia) hr rfl T.m7 T.F7.kp T.b7 (ae (iv 3) ag rfl) (by decide) rfl rfl) rfl (.inl rfl)) (am (aV (i:=4) bt.nd rfl (.inl rfl) (aC (ja T n ih) (by lia) hr rfl T.m8 T.F8.kp T.b8 (ae (iv 0) (ae (aD (aL rfl) (iv 1) ah) (ae (aD eQ (iv 2) ah) ag rfl) rfl) rfl) (by decide) rfl rfl) rfl (.inl rfl)) (au (aQ (aY (ae (aD (aL rfl) (iv 5) (aY (ae (aS (iv 4) ah rfl rfl) ag rfl))) (ae (aS (iv 4) ah rfl rfl) ag rfl) rfl))))))))))
theorem gc (T:Txt P w K mg t):∀ n:Nat,bD P w K mg base CX0 (1+2*n) t.f9 t.g9 ["text","place","deep"] (spI K (aH n))
 | 0=>⟨λ_ _ _ _ ⟨_,_,_,_,h,_⟩=>(nomatch h),λ_ _ _ _ _ _ _ _ _ _ _ _ _ ⟨_,_,_,_,h,_⟩=>(nomatch h)⟩
 | n+1=>show bD P w K mg base CX0 (1+2*n+1+1) t.f9 t.g9 ["text","place","deep"] (spI K (bX (List.length (α:=Str) ["text","place","deep","sign","told","head"]) (List.length (α:=Str) ["text","place","deep"]) (cI (aH n)))) from gM (N:=["text","place","deep","sign","told","head"]) (ps:=["text","place","deep"]) (k:=1+2*n+1) (b:=cI (aH n)) T.F9 bt (lP T n (gc T n))
theorem kT (T:Txt P w K mg t) (n:Nat) {self:Fn}{selfx:Rn} (ih:bD P w K mg base CX0 (1+2*n) t.f9 t.g9 ["text","place","deep"] (spI K self)) (ihx:bD P w K mg base (CX1 P w (.ref t.ca_NoText)) (1+2*n) t.f9 t.g9 ["text","place","deep"] (spX K selfx)):vA P w K mg base (.ref t.ca_NoText) (1+2*n+1) ["text","place","deep","sign","told","head"] "rule_from" dh t.f9 (cE self selfx):=
 λ_ _ _ _ _ _ hr=>(bE (mK (aN (cp hr rfl) (iv 2) ah (aU _)) (gC (ge T.ck T.cm_NoText rfl rfl (ae aj ag rfl) (by decide) rfl rfl)) gH) (bn (aN (cp hr rfl) (iv 2) ah (aU _)) (au d8) aK) (bE i9 (aV (i:=3) bt.nd rfl (.inl rfl) (cX (iv 0) (bj (iv 1)) (bj (aD (aL rfl) (iv 1) ah)) rfl) rfl (.inl rfl)) (bE i9 (bn (aN (nk rfl) (iv 3) (bi (rA (jI hr) rfl T.z_list PyProof.Rows.boot_list (ae (fW (v:=.str "abcdef") rfl T.g_LETTERS ⟨_,rfl⟩ T.gq_LETTERS (by decide)) ag rfl) (by decide) (by decide) rfl rfl)) rfl) (au (aQ (aY (ae (aY (ae aj (ae (oE PySem.F.slot_str_find PySem.F.type_str_find jO hJ (fW (v:=.str "abcdef") rfl T.g_LETTERS ⟨_,rfl⟩ T.gq_LETTERS (by decide)) (ae (iv 3) ag rfl) rfl rfl rfl rfl) ag rfl) rfl)) (ae (aD (aL rfl) (iv 1) ah) ag rfl) rfl)))) aK) (bE (mK (aN (cp hr rfl) (iv 3) aj (aU _)) (bE (lw (i:=4) bt.nd rfl (.inl rfl) (iW ihx (by lia) hr rfl T.m9 T.F9.kp T.b9 (ae (iv 0) (ae (aD (aL rfl) (iv 1) ah) (ae (aD eQ (iv 2) ah) ag rfl) rfl) rfl) (by decide) rfl rfl) rfl (.inl rfl)) (aV (i:=4) bt.nd rfl (.inl rfl) (aC ih (by lia) hr rfl T.m9 T.F9.kp T.b9 (ae (iv 0) (ae (aD (aL rfl) (iv 1) ah) (ae (aD eQ (iv 2) ah) ag rfl) rfl) rfl) (by decide) rfl rfl) rfl (.inl rfl)) gH) gH) (bn (aN (cp hr rfl) (iv 3) aj (aU _)) (am (aV (i:=4) bt.nd rfl (.inl rfl) (aC ih (by lia) hr rfl T.m9 T.F9.kp T.b9 (ae (iv 0) (ae (aD (aL rfl) (iv 1) ah) (ae (aD eQ (iv 2) ah) ag rfl) rfl) rfl) (by decide) rfl rfl) rfl (.inl rfl)) (au (aQ (aY (ae (aY (ae aj (ae (aS (iv 4) ah rfl rfl) ag rfl) rfl)) (ae (aS (iv 4) ah rfl rfl) ag rfl) rfl))))) aK) (bE (lw (i:=5) bt.nd rfl (.inl rfl) (iW (pG T) (by lia) hr rfl T.m7 T.F7.kp T.b7 (ae (iv 3) ag rfl) (by decide) rfl rfl) rfl (.inl rfl)) (aV (i:=5) bt.nd rfl (.inl rfl) (aC (mo T) (by lia) hr rfl T.m7 T.F7.kp T.b7 (ae (iv 3) ag rfl) (by decide) rfl rfl) rfl (.inl rfl)) (bE (lw (i:=4) bt.nd rfl (.inl rfl) (iW (mi T n ih ihx) (by lia) hr rfl T.m8 T.F8.kp T.b8 (ae (iv 0) (ae (aD (aL rfl) (iv 1) ah) (ae (aD eQ (iv 2) ah) ag rfl) rfl) rfl) (by decide) rfl rfl) rfl (.inl rfl)) (aV (i:=4) bt.nd rfl (.inl rfl) (aC (ja T n ih) (by lia) hr rfl T.m8 T.F8.kp T.b8 (ae (iv 0) (ae (aD (aL rfl) (iv 1) ah) (ae (aD eQ (iv 2) ah) ag rfl) rfl) rfl) (by decide) rfl rfl) rfl (.inl rfl)) gH))))))
theorem i7 (T:Txt P w K mg t):∀ n:Nat,bD P w K mg base (CX1 P w (.ref t.ca_NoText)) (1+2*n) t.f9 t.g9 ["text","place","deep"] (spX K (bC n))
 | 0=>⟨λ_ _ _ _ ⟨_,_,_,_,h,_⟩=>(nomatch h),λ_ _ _ _ _ _ _ _ _ _ _ _ _ ⟨_,_,_,_,h,_⟩=>(nomatch h)⟩
 | n+1=>show bD P w K mg base (CX1 P w (.ref t.ca_NoText)) (1+2*n+1+1) t.f9 t.g9 ["text","place","deep"] (spX K (oP (List.length (α:=Str) ["text","place","deep","sign","told","head"]) (List.length (α:=Str) ["text","place","deep"]) (cE (aH n) (bC n)))) from vH (N:=["text","place","deep","sign","told","head"]) (ps:=["text","place","deep"]) (k:=1+2*n+1) (b:=cE (aH n) (bC n)) T.F9 bt (kT T n (gc T n) (i7 T n))
theorem lx (T:Txt P w K mg t):Bdy P w K mg base 15 ["thing","told"] "read_rule" dc t.f10 gB:=
 λ_ _ _ _ _ _ hr=>(am (bn (gm (gq (cm (iM rfl) rfl T.z_isinstance PyProof.Rows.boot_isinstance (ae (iv 0) (ae (kK rfl T.z_str PyProof.Rows.boot_str (by decide) (by decide)) ag rfl) rfl) (by decide) (by decide) rfl rfl) rfl rfl)) (au d8) aK) (am (aV (i:=1) eP.nd rfl (.inl rfl) (aC (gc T 7) (by decide) hr rfl T.m9 T.F9.kp T.b9 (ae (iv 0) (ae ah (ae (fW (v:=.int 6) rfl T.g_MOST_DEEP ⟨_,rfl⟩ T.gq_MOST_DEEP (by decide)) ag rfl) rfl) rfl) (by decide) rfl rfl) rfl (.inl rfl)) (am (bn (gt (fg (aN (il hr rfl) (aS (iv 1) ah rfl rfl) (cm (ft rfl) rfl T.z_len PySem.boot_len (ae (iv 0) ag rfl) (by decide) (by decide) rfl rfl) (aU _)) (eS (gm (gq (aC (jb T) (by decide) hr rfl T.m6 T.F6.kp T.b6 (ae (aS (iv 1) ah rfl rfl) ag rfl) (by decide) rfl rfl) rfl rfl))))) (au d8) aK) (au (aQ (aS (iv 1) ah rfl rfl))))))
theorem nV (T:Txt P w K mg t):bD P w K mg base CX0 16 t.f10 t.g10 ["thing"] (spI K de):=
 gM (N:=["thing","told"]) (b:=gB) T.F10 eP (lx T)
theorem kS (T:Txt P w K mg t):vA P w K mg base (.ref t.ca_NoText) 15 ["thing","told"] "read_rule" dc t.f10 eW:=
 λ_ _ _ _ _ _ hr=>(bE (mK (gm (gq (cm (iM rfl) rfl T.z_isinstance PyProof.Rows.boot_isinstance (ae (iv 0) (ae (kK rfl T.z_str PyProof.Rows.boot_str (by decide) (by decide)) ag rfl) rfl) (by decide) (by decide) rfl rfl) rfl rfl)) (gC (ge T.ck T.cm_NoText rfl rfl (ae aj ag rfl) (by decide) rfl rfl)) gH) (bn (gm (gq (cm (iM rfl) rfl T.z_isinstance PyProof.Rows.boot_isinstance (ae (iv 0) (ae (kK rfl T.z_str PyProof.Rows.boot_str (by decide) (by decide)) ag rfl) rfl) (by decide) (by decide) rfl rfl) rfl rfl)) (au d8) aK) (bE (lw (i:=1) eP.nd rfl (.inl rfl) (iW (i7 T 7) (by decide) hr rfl T.m9 T.F9.kp T.b9 (ae (iv 0) (ae ah (ae (fW (v:=.int 6) rfl T.g_MOST_DEEP ⟨_,rfl⟩ T.gq_MOST_DEEP (by decide)) ag rfl) rfl) rfl) (by decide) rfl rfl) rfl (.inl rfl)) (aV (i:=1) eP.nd rfl (.inl rfl) (aC (gc T 7) (by decide) hr rfl T.m9 T.F9.kp T.b9 (ae (iv 0) (ae ah (ae (fW (v:=.int 6) rfl T.g_MOST_DEEP ⟨_,rfl⟩ T.gq_MOST_DEEP (by decide)) ag rfl) rfl) rfl) (by decide) rfl rfl) rfl (.inl rfl)) (bE (mK (gt (fg (aN (il hr rfl) (aS (iv 1) ah rfl rfl) (cm (ft rfl) rfl T.z_len PySem.boot_len (ae (iv 0) ag rfl) (by decide) (by decide) rfl rfl) (aU _)) (eS (gm (gq (aC (jb T) (by decide) hr rfl T.m6 T.F6.kp T.b6 (ae (aS (iv 1) ah rfl rfl) ag rfl) (by decide) rfl rfl) rfl rfl))))) (gC (ge T.ck T.cm_NoText rfl rfl (ae aj ag rfl) (by decide) rfl rfl)) gH) (bn (gt (fg (aN (il hr rfl) (aS (iv 1) ah rfl rfl) (cm (ft rfl) rfl T.z_len PySem.boot_len (ae (iv 0) ag rfl) (by decide) (by decide) rfl rfl) (aU _)) (eS (gm (gq (aC (jb T) (by decide) hr rfl T.m6 T.F6.kp T.b6 (ae (aS (iv 1) ah rfl rfl) ag rfl) (by decide) rfl rfl) rfl rfl))))) (au d8) aK) gH)))
theorem mx (T:Txt P w K mg t):bD P w K mg base (CX1 P w (.ref t.ca_NoText)) 16 t.f10 t.g10 ["thing"] (spX K gx):=
 vH (N:=["thing","told"]) (b:=eW) T.F10 eP (kS T)
theorem lW (T:Txt P w K mg t):Bdy P w K mg base 0 ["_law_script","_law_k","_law_cell","_law_far","_law_seed"] "_law_hand" dF t.f11 fQ:=
 λ_ _ _ _ _ _ hr=>(am (aV (i:=2) eX.nd rfl (.inl rfl) ah rfl (.inl rfl)) (am (bn (aN sO (iv 1) (cm (ft rfl) rfl T.z_len PySem.boot_len (ae (iv 0) ag rfl) (by decide) (by decide) rfl rfl) (aU _)) (au (aV (i:=2) eX.nd rfl (.inl rfl) (aS (iv 0) (iv 1) rfl rfl) rfl (.inl rfl))) aK) (am (aV (i:=3) eX.nd rfl (.inl rfl) (aD (fU rfl) (aD (fU rfl) (aD (fU rfl) (aD lZ ah ah) (aD lZ ah ah)) (aD lZ ah ah)) (aD lZ ah ah)) rfl (.inl rfl)) (am (aV (i:=4) eX.nd rfl (.inl rfl) (aD iD (aD (fU rfl) (aD (aL rfl) (aD (aL rfl) (aD iD (iv 2) ah) (aD (fU rfl) ah (iv 1))) ah) ah) ah) rfl (.inl rfl)) (au (aQ (ml (bR (ae (aD (fU rfl) (aD iD (cm uy rfl T.z_abs PyProof.Rows.boot_abs (ae (iv 2) ag rfl) (by decide) (by decide) rfl rfl) (iv 3)) (pQ tD rfl T.z_int PyProof.Rows.boot_int (ae (ig yT (cm uy rfl T.z_abs PyProof.Rows.boot_abs (ae (iv 2) ag rfl) (by decide) (by decide) rfl rfl) (aD lZ ah ah) (aU _)) ag rfl) (by decide) (by decide) rfl rfl)) (ae (iv 4) (ae ah ag rfl) rfl) rfl)))))))))
theorem oo (T:Txt P w K mg t):bD P w K mg base CX0 1 t.f11 t.g11 ["_law_script","_law_k"] (spI K eJ):=
 gM (N:=["_law_script","_law_k","_law_cell","_law_far","_law_seed"]) (b:=fQ) T.F11 eX (lW T)
theorem mf (T:Txt P w K mg t):Bdy P w K mg base 0 ["_law_hand_here","_law_many_here","_law_digit"] "_law_take" dL t.f12 fN:=
 λ_ _ _ _ _ _ hr=>(am (bn (aN u9 (aS (iv 0) ah rfl rfl) ah (aU _)) (am (aV (i:=2) jw.nd rfl (.inl rfl) (aD iD (aS (iv 0) ah rfl rfl) (iv 1)) rfl (.inl rfl)) (am (jP (iv 0) ah (aD nJ (aS (iv 0) ah rfl rfl) (iv 1)) rfl rfl rfl) (au (aQ (iv 2))))) aK) (am (jP (iv 0) ah (aD (aL rfl) (aS (iv 0) ah rfl rfl) ah) rfl rfl rfl) (am (jP (iv 0) ah (aD iD (aD (aL rfl) (aD (aL rfl) (aD (fU rfl) (aS (iv 0) ah rfl rfl) ah) ah) (aD (fU rfl) ah (aS (iv 0) ah rfl rfl))) ah) rfl rfl rfl) (au (aQ (aD iD (aD nJ (aD iD (aD (fU rfl) (aS (iv 0) ah rfl rfl) (aD (aL rfl) (aD iD (aS (iv 0) ah rfl rfl) ah) ah)) ah) ah) (iv 1)))))))
theorem bf (T:Txt P w K mg t):bD P w K mg base CX0 1 t.f12 t.g12 ["_law_hand_here","_law_many_here"] (spI K aB):=
 gM (N:=["_law_hand_here","_law_many_here","_law_digit"]) (b:=fN) T.F12 jw (mf T)
theorem lY (T:Txt P w K mg t):Bdy P w K mg base 1 ["_law_hand_here","_law_some"] "_law_pick" dQ t.f13 gD:=
 λ_ _ _ _ _ _ hr=>(au (aQ (aS (iv 1) (aC (bf T) (by decide) hr rfl T.m12 T.F12.kp T.b12 (ae (iv 0) (ae (cm (ft rfl) rfl T.z_len PySem.boot_len (ae (iv 1) ag rfl) (by decide) (by decide) rfl rfl) ag rfl) rfl) (by decide) rfl rfl) rfl rfl)))
theorem ie (T:Txt P w K mg t):bD P w K mg base CX0 2 t.f13 t.g13 ["_law_hand_here","_law_some"] (spI K bP):=
 gM (N:=["_law_hand_here","_law_some"]) (b:=gD) T.F13 nv (lY T)
theorem lV (T:Txt P w K mg t) (n:Nat) (ih:bD P w K mg base CX0 (2+n) t.f14 t.g14 ["_law_hand_here","_law_left","_law_deep","_law_most"] (spI K (bb n))) (cdv:Value) (A:Around) (outer:List Env) (s:Shared) (H:Hp) (E:XK) (hr:cZ (2+n) (A.deeper (PyProof.Rows.envOfC "_law_rule" (ao cL) s.heap.objs.size t.f14 cdv))):ISs K (ir CX0 P w K mg base ["_law_hand_here","_law_left","_law_deep","_law_most","_law_way","_law_some","_law_turn","_law_word"] "_law_rule" (ao cL) t.f14 cdv A outer s H E).nox (aZ cL) (bq (bb n)):=
 (am (jP (iv 1) ah (aD eQ (aS (iv 1) ah rfl rfl) ah) rfl rfl rfl) (am (aV (i:=4) eU.nd rfl (.inl rfl) (aC (bf T) (by omega) hr rfl T.m12 T.F12.kp T.b12 (ae (iv 0) (ae ah ag rfl) rfl) (by decide) rfl rfl) rfl (.inl rfl)) (am (bn (gt (fg (aN sO (iv 2) ah (aU _)) (fg (aN sO (aS (iv 1) ah rfl rfl) ah (aU _)) (eS (aN (cp hr rfl) (iv 4) ah (aU _)))))) (am (bn (gt (fg (aN (cp hr rfl) (iv 3) ah (aU _)) (eS (aN (cp hr rfl) (iv 4) ah (aU _))))) (au (aQ (aC (ie T) (by omega) hr rfl T.m13 T.F13.kp T.b13 (ae (iv 0) (ae (bi (bR (ae (aY (ae aj (ae (aY ag) ag rfl) rfl)) (ae (aY (ae aj (ae (aY ag) ag rfl) rfl)) (ae (aY (ae aj (ae (aY ag) ag rfl) rfl)) (ae (aY (ae aj (ae (aC (bf T) (by omega) hr rfl T.m12 T.F12.kp T.b12 (ae (iv 0) (ae ah ag rfl) rfl) (by decide) rfl rfl) (ae (aY ag) ag rfl) rfl) rfl)) ag rfl) rfl) rfl) rfl))) ag rfl) rfl) (by decide) rfl rfl))) aK) (au (aQ (aY (ae aj (ae (aC (bf T) (by omega) hr rfl T.m12 T.F12.kp T.b12 (ae (iv 0) (ae (iv 3) ag rfl) rfl) (by decide) rfl rfl) ag rfl) rfl))))) aK) (am (bn (aN (cp hr rfl) (iv 4) ah (aU _)) (au (aQ (aY (ae aj (ae (aC ih (Nat.le_refl _) hr rfl T.m14 T.F14.kp T.b14 (ae (iv 0) (ae (iv 1) (ae (aD eQ (iv 2) ah) (ae (iv 3) ag rfl) rfl) rfl) rfl) (by decide) rfl rfl) ag rfl) rfl)))) aK) (am (aV (i:=5) eU.nd rfl (.inl rfl) (ml (bR ag)) rfl (.inl rfl)) (am (jZ (iU rfl T.z_range (ae (aC (bf T) (by omega) hr rfl T.m12 T.F12.kp T.b12 (ae (iv 0) (ae (aS (bi (bR (ae ah (ae ah (ae ah (ae ah ag rfl) rfl) rfl) rfl))) (aC (bf T) (by omega) hr rfl T.m12 T.F12.kp T.b12 (ae (iv 0) (ae ah ag rfl) rfl) (by decide) rfl rfl) rfl rfl) ag rfl) rfl) (by decide) rfl rfl) ag rfl) rfl) (dW (dY (i:=6) eU.nd rfl (.inl rfl))) (au (bn (aN u9 (aS (iv 1) ah rfl rfl) ah (aU _)) (au (jL (gQ (iv 5) (ae (aC ih (Nat.le_refl _) hr rfl T.m14 T.F14.kp T.b14 (ae (iv 0) (ae (iv 1) (ae (aD eQ (iv 2) ah) (ae (iv 3) ag rfl) rfl) rfl) rfl) (by decide) rfl rfl) ag rfl) rfl rfl (by decide) rfl rfl) rfl)) aK)) PassesOwn.never rfl (λ_=>rfl)) (am (aV (i:=7) eU.nd rfl (.inl rfl) (aS (bi (bR (ae aj (ae aj (ae aj (ae aj (ae aj (ae aj ag rfl) rfl) rfl) rfl) rfl) rfl))) (aD eQ (iv 4) ah) rfl rfl) rfl (.inl rfl)) (am (bn (aN (cp hr rfl) (iv 7) aj (aU _)) (au (aQ (aY (ae (iv 7) (ae (aC (bf T) (by omega) hr rfl T.m12 T.F12.kp T.b12 (ae (iv 0) (ae (aS (bi (bR (ae (aD (aL rfl) (cm (ft rfl) rfl T.z_len PySem.boot_len (ae (iv 5) ag rfl) (by decide) (by decide) rfl rfl) ah) (ae ah ag rfl) rfl))) (aD nJ (aC (bf T) (by omega) hr rfl T.m12 T.F12.kp T.b12 (ae (iv 0) (ae ah ag rfl) rfl) (by decide) rfl rfl) ah) rfl rfl) ag rfl) rfl) (by decide) rfl rfl) (ae (pQ (pU rfl) rfl T.z_tuple PyProof.Rows.boot_tuple (ae (iv 5) ag rfl) (by decide) (by decide) rfl rfl) ag rfl) rfl) rfl)))) aK) (au (aQ (aY (ae (iv 7) (ae (pQ (pU rfl) rfl T.z_tuple PyProof.Rows.boot_tuple (ae (iv 5) ag rfl) (by decide) (by decide) rfl rfl) ag rfl) rfl))))))))))))
theorem ju (T:Txt P w K mg t):∀ n:Nat,bD P w K mg base CX0 (2+n) t.f14 t.g14 ["_law_hand_here","_law_left","_law_deep","_law_most"] (spI K (bb n))
 | 0=>⟨λ_ _ _ _ ⟨_,_,_,_,h,_⟩=>(nomatch h),λ_ _ _ _ _ _ _ _ _ _ _ _ _ ⟨_,_,_,_,h,_⟩=>(nomatch h)⟩
 | n+1=>show bD P w K mg base CX0 (2+n+1) t.f14 t.g14 ["_law_hand_here","_law_left","_law_deep","_law_most"] (spI K (gw (List.length (α:=Str) ["_law_hand_here","_law_left","_law_deep","_law_most","_law_way","_law_some","_law_turn","_law_word"]) (List.length (α:=Str) ["_law_hand_here","_law_left","_law_deep","_law_most"]) (bq (bb n)))) from xF (N:=["_law_hand_here","_law_left","_law_deep","_law_most","_law_way","_law_some","_law_turn","_law_word"]) (ps:=["_law_hand_here","_law_left","_law_deep","_law_most"]) (k:=2+n) (b:=bq (bb n)) T.F14 eU (λcdv A outer s H E hr=>lV T n (ju T n) cdv A outer s H E hr)
theorem jD (T:Txt P w K mg t) (n:Nat) (ih:bD P w K mg base CX0 (0+n) t.f15 t.g15 ["_law_rule_here"] (spI K (bo n))) (cdv:Value) (A:Around) (outer:List Env) (s:Shared) (H:Hp) (E:XK) (hr:cZ (0+n) (A.deeper (PyProof.Rows.envOfC "_law_written" (ao bF) s.heap.objs.size t.f15 cdv))):ISs K (ir CX0 P w K mg base ["_law_rule_here","_law_mark"] "_law_written" (ao bF) t.f15 cdv A outer s H E).nox (aZ bF) (dG (bo n)):=
 (am (bn (aN (cp hr rfl) (aS (iv 0) ah rfl rfl) aj (aU _)) (au (aQ (aS aj (aS (iv 0) ah rfl rfl) rfl rfl))) aK) (am (bn (aN (cp hr rfl) (aS (iv 0) ah rfl rfl) aj (aU _)) (au (aQ (aD (aL rfl) aj (aC ih (Nat.le_refl _) hr rfl T.m15 T.F15.kp T.b15 (ae (aS (iv 0) ah rfl rfl) ag rfl) (by decide) rfl rfl)))) aK) (am (aV (i:=1) io.nd rfl (.inl rfl) (wn (aS (iv 0) ah rfl rfl) (pQ (wu hr rfl) rfl T.z_str PyProof.Rows.boot_str (ae (aS (iv 0) ah rfl rfl) ag rfl) (by decide) (by decide) rfl rfl) rfl rfl rfl rfl rfl) rfl (.inl rfl)) (au (aQ (aD (aL rfl) (aD (aL rfl) (aD (aL rfl) (iv 1) aj) (lj aj (ae (bi (mY (md (ao bF).names ["_law_rule_here","_law_mark"] ["_law_one"] 1 [] rfl rfl rfl (by decide +kernel)) rfl (by decide) (ji (aS (iv 0) (qj ah) rfl rfl) rfl) (λ_ _ _ _ _=>(dW (dY (i:=0) (show List.Nodup (α:=Str) ["_law_one"] by decide +kernel) rfl (.inl rfl)))) (λ_ _ _ _ _=>ii) (λ_ _ _ _ _=>(aC ih (Nat.le_refl _) hr rfl T.m15 T.F15.kp T.b15 (ae (iv 0) ag rfl) (by decide) rfl rfl)) (λ_=>rfl))) ag rfl) rfl rfl rfl rfl)) aj))))))
theorem ip (T:Txt P w K mg t):∀ n:Nat,bD P w K mg base CX0 (0+n) t.f15 t.g15 ["_law_rule_here"] (spI K (bo n))
 | 0=>⟨λ_ _ _ _ ⟨_,_,_,_,h,_⟩=>(nomatch h),λ_ _ _ _ _ _ _ _ _ _ _ _ _ ⟨_,_,_,_,h,_⟩=>(nomatch h)⟩
 | n+1=>show bD P w K mg base CX0 (0+n+1) t.f15 t.g15 ["_law_rule_here"] (spI K (bX (List.length (α:=Str) ["_law_rule_here","_law_mark"]) (List.length (α:=Str) ["_law_rule_here"]) (dG (bo n)))) from gM (N:=["_law_rule_here","_law_mark"]) (ps:=["_law_rule_here"]) (k:=0+n) (b:=dG (bo n)) T.F15 io (λcdv A outer s H E hr=>jD T n (ip T n) cdv A outer s H E hr)
theorem iY (T:Txt P w K mg t):Bdy P w K mg base 2 ["_law_hand_here","_law_text","_law_near","_law_signs","_law_turn","_law_at","_law_cut","_law_one"] "_law_text_bent" bV t.f16 dU:=
 λ_ _ _ _ _ _ hr=>(am (aV (i:=3) bY.nd rfl (.inl rfl) aj rfl (.inl rfl)) (am (jZ (iU rfl T.z_range (ae (aD (aL rfl) ah (aC (bf T) (by decide) hr rfl T.m12 T.F12.kp T.b12 (ae (iv 0) (ae ah ag rfl) rfl) (by decide) rfl rfl)) ag rfl) rfl) (dW (dY (i:=4) bY.nd rfl (.inl rfl))) (am (og (i:=5) (j:=6) (λ_ h=>qp rfl bY.nd rfl rfl (by decide) rfl rfl h rfl) (ae (aC (bf T) (by decide) hr rfl T.m12 T.F12.kp T.b12 (ae (iv 0) (ae (aD (aL rfl) (cm (ft rfl) rfl T.z_len PySem.boot_len (ae (iv 1) ag rfl) (by decide) (by decide) rfl rfl) ah) ag rfl) rfl) (by decide) rfl rfl) (ae (aC (bf T) (by decide) hr rfl T.m12 T.F12.kp T.b12 (ae (iv 0) (ae ah ag rfl) rfl) (by decide) rfl rfl) ag rfl) rfl)) (am (aV (i:=7) bY.nd rfl (.inl rfl) (aS (iv 3) (aC (bf T) (by decide) hr rfl T.m12 T.F12.kp T.b12 (ae (iv 0) (ae (cm (ft rfl) rfl T.z_len PySem.boot_len (ae (iv 3) ag rfl) (by decide) (by decide) rfl rfl) ag rfl) rfl) (by decide) rfl rfl) rfl rfl) rfl (.inl rfl)) (au (aV (i:=1) bY.nd rfl (.inl rfl) (aD (aL rfl) (aD (aL rfl) (cX (iv 1) fZ (bj (iv 5)) rfl) (aS (bi (bR (ae (aC (ie T) (by decide) hr rfl T.m13 T.F13.kp T.b13 (ae (iv 0) (ae (iv 2) ag rfl) rfl) (by decide) rfl rfl) (ae (iv 7) ag rfl) rfl))) (aC (bf T) (by decide) hr rfl T.m12 T.F12.kp T.b12 (ae (iv 0) (ae ah ag rfl) rfl) (by decide) rfl rfl) rfl rfl)) (cX (iv 1) (bj (aD (aL rfl) (iv 5) (iv 6))) fZ rfl)) rfl (.inl rfl))))) PassesOwn.never rfl (λ_=>rfl)) (au (aQ (iv 1)))))
theorem jW (T:Txt P w K mg t):bD P w K mg base CX0 3 t.f16 t.g16 ["_law_hand_here","_law_text","_law_near"] (spI K fF):=
 gM (N:=["_law_hand_here","_law_text","_law_near","_law_signs","_law_turn","_law_at","_law_cut","_law_one"]) (b:=dU) T.F16 bY (iY T)
theorem lO (T:Txt P w K mg t):Bdy P w K mg base 16 ["_law_text","error"] "_law_told" dM t.f17 fP:=
 λ_ _ _ _ _ _ hr=>(au (xE (i:=1) (x:="SignError") rfl jx.nd rfl rfl (au (aQ (bi (bR (ae (aC (nV T) (by decide) hr rfl T.m10 T.F10.kp T.b10 (ae (iv 0) ag rfl) (by decide) rfl rfl) ag rfl))))) (λ_ _=>(gC (yH (xM (wI (iW (mx T) (by decide) hr rfl T.m10 T.F10.kp T.b10 (ae (iv 0) ag rfl) (by decide) rfl rfl) rfl))))) rfl T.cm_SignError T.ch (λ_ _ _ hc hd=>qz hc hd rfl (Or.inl rfl) rfl T.z_isinstance rfl T.cm_NoText rfl T.cm_NoLine rfl T.cm_OnNought rfl T.z_ValueError T.cx T.cT T.cV) (λ_ _=>rfl) (by decide)))
theorem hW (T:Txt P w K mg t):bD P w K mg base CX0 17 t.f17 t.g17 ["_law_text"] (spI K eL):=
 gM (N:=["_law_text","error"]) (b:=fP) T.F17 jx (lO T)
theorem lB (T:Txt P w K mg t):Bdy P w K mg base 0 ["_law_sign","_law_inner","_law_words"] "_law_made" dR t.f18 iG:=
 λ_ _ _ _ _ _ hr=>(tZ hr jS.nd rfl (Or.inl rfl) (Or.inl rfl) (Or.inl rfl) (Or.inl rfl) (Or.inr rfl) (by exact rfl) T.z_int (by exact rfl))
theorem jV (T:Txt P w K mg t):bD P w K mg base CX0 1 t.f18 t.g18 ["_law_sign","_law_inner"] (spI K eM):=
 gM (N:=["_law_sign","_law_inner","_law_words"]) (b:=iG) T.F18 jS (lB T)
theorem ke (T:Txt P w K mg t) (n:Nat) (ih:bD P w K mg base CX0 (1+n) t.f19 t.g19 ["_law_text","_law_deep"] (spI K (bd n))) (cdv:Value) (A:Around) (outer:List Env) (s:Shared) (H:Hp) (E:XK) (hr:cZ (1+n) (A.deeper (PyProof.Rows.envOfC "_law_begins" (ao bW) s.heap.objs.size t.f19 cdv))):ISs K (ir CX0 P w K mg base ["_law_text","_law_deep","_law_found","_law_inner","_law_rest","_law_turn"] "_law_begins" (ao bW) t.f19 cdv A outer s H E).nox (aZ bW) (cO (bd n)):=
 (am (bn (gt (fg (aN (cp hr rfl) (iv 1) ah (aU _)) (eS (aN (cp hr rfl) (iv 0) aj (aU _))))) (au (aQ fC)) aK) (am (bn (aN (xO rfl) (aS (iv 0) ah rfl rfl) aj rfl) (au (aQ (aY (ae (aY (ae aj (ae (oE PySem.F.slot_str_find PySem.F.type_str_find jO hJ aj (ae (aS (iv 0) ah rfl rfl) ag rfl) rfl rfl rfl rfl) ag rfl) rfl)) (ae (cX (iv 0) (bj ah) fZ rfl) ag rfl) rfl)))) aK) (am (bn (aN (cp hr rfl) (aS (iv 0) ah rfl rfl) aj (aU _)) (am (aV (i:=2) cY.nd rfl (.inl rfl) (aC ih (Nat.le_refl _) hr rfl T.m19 T.F19.kp T.b19 (ae (cX (iv 0) (bj ah) fZ rfl) (ae (aD eQ (iv 1) ah) ag rfl) rfl) (by decide) rfl rfl) rfl (.inl rfl)) (au (aQ (zI (aN nW (iv 2) fC (aU _)) fC (aY (ae (aY (ae aj (ae (aS (iv 2) ah rfl rfl) ag rfl) rfl)) (ae (aS (iv 2) ah rfl rfl) ag rfl) rfl)))))) aK) (am (bn (gt (fg (aN (rQ rfl) (aS (iv 0) ah rfl rfl) aj rfl) (eS (aN (il hr rfl) (cX (iv 0) (bj ah) (bj ah) rfl) aj (aU _))))) (au (aQ fC)) aK) (am (og (i:=3) (j:=4) (λ_ h=>qp rfl cY.nd rfl rfl (by decide) rfl rfl h rfl) (ae (aY ag) (ae (cX (iv 0) (bj ah) fZ rfl) ag rfl) rfl)) (am (bn (aN (cp hr rfl) (cX (iv 4) fZ (bj ah) rfl) aj (aU _)) (au (aQ (aY (ae (aC (jV T) (by omega) hr rfl T.m18 T.F18.kp T.b18 (ae (aS (iv 0) ah rfl rfl) (ae (aY ag) ag rfl) rfl) (by decide) rfl rfl) (ae (cX (iv 4) (bj ah) fZ rfl) ag rfl) rfl)))) aK) (am (jZ (iU rfl T.z_range (ae ah ag rfl) rfl) (dW (dY (i:=5) cY.nd rfl (.inl rfl))) (am (aV (i:=2) cY.nd rfl (.inl rfl) (aC ih (Nat.le_refl _) hr rfl T.m19 T.F19.kp T.b19 (ae (iv 4) (ae (aD eQ (iv 1) ah) ag rfl) rfl) (by decide) rfl rfl) rfl (.inl rfl)) (am (bn (gt (fg (aN nW (iv 2) fC (aU _)) (eS (aN (gk rfl) (cX (aS (iv 2) ah rfl rfl) fZ (bj ah) rfl) (aY (ae aj (ae aj ag rfl) rfl)) rfl)))) (au (aQ fC)) aK) (am (og (i:=3) (j:=4) (λ_ h=>qp rfl cY.nd rfl rfl (by decide) rfl rfl h rfl) (ae (aD (aL rfl) (iv 3) (aY (ae (aS (iv 2) ah rfl rfl) ag rfl))) (ae (cX (aS (iv 2) ah rfl rfl) (bj ah) fZ rfl) ag rfl) rfl)) (au (bn (aN (cp hr rfl) (aS (aS (iv 2) ah rfl rfl) ah rfl rfl) aj (aU _)) (au (aQ (aY (ae (aC (jV T) (by omega) hr rfl T.m18 T.F18.kp T.b18 (ae (aS (iv 0) ah rfl rfl) (ae (iv 3) ag rfl) rfl) (by decide) rfl rfl) (ae (iv 4) ag rfl) rfl)))) aK))))) PassesOwn.never rfl (λ_=>rfl)) (au (aQ fC)))))))))
theorem iO (T:Txt P w K mg t):∀ n:Nat,bD P w K mg base CX0 (1+n) t.f19 t.g19 ["_law_text","_law_deep"] (spI K (bd n))
 | 0=>⟨λ_ _ _ _ ⟨_,_,_,_,h,_⟩=>(nomatch h),λ_ _ _ _ _ _ _ _ _ _ _ _ _ ⟨_,_,_,_,h,_⟩=>(nomatch h)⟩
 | n+1=>show bD P w K mg base CX0 (1+n+1) t.f19 t.g19 ["_law_text","_law_deep"] (spI K (bX (List.length (α:=Str) ["_law_text","_law_deep","_law_found","_law_inner","_law_rest","_law_turn"]) (List.length (α:=Str) ["_law_text","_law_deep"]) (cO (bd n)))) from gM (N:=["_law_text","_law_deep","_law_found","_law_inner","_law_rest","_law_turn"]) (ps:=["_law_text","_law_deep"]) (k:=1+n) (b:=cO (bd n)) T.F19 cY (λcdv A outer s H E hr=>ke T n (iO T n) cdv A outer s H E hr)
theorem lH (T:Txt P w K mg t) (n:Nat) (ih:bD P w K mg base CX0 (0+n) t.f20 t.g20 ["_law_rule_here"] (spI K (bK n))) (cdv:Value) (A:Around) (outer:List Env) (s:Shared) (H:Hp) (E:XK) (hr:cZ (0+n) (A.deeper (PyProof.Rows.envOfC "_law_many" (ao cj) s.heap.objs.size t.f20 cdv))):ISs K (ir CX0 P w K mg base ["_law_rule_here"] "_law_many" (ao cj) t.f20 cdv A outer s H E).nox (aZ cj) (fR (bK n)):=
 (am (bn (aN (cp hr rfl) (aS (iv 0) ah rfl rfl) aj (aU _)) (au (aQ ah)) aK) (am (bn (aN (cp hr rfl) (aS (iv 0) ah rfl rfl) aj (aU _)) (au (aQ (aD (aL rfl) ah (aC ih (Nat.le_refl _) hr rfl T.m20 T.F20.kp T.b20 (ae (aS (iv 0) ah rfl rfl) ag rfl) (by decide) rfl rfl)))) aK) (au (aQ (aD (aL rfl) ah (cm (yF rfl rfl) rfl T.z_sum PyProof.Rows.boot_sum (ae (bi (mY (md (ao cj).names ["_law_rule_here"] ["_law_one"] 1 [] rfl rfl rfl (by decide +kernel)) rfl (by decide) (ji (aS (iv 0) (qj ah) rfl rfl) rfl) (λ_ _ _ _ _=>(dW (dY (i:=0) (show List.Nodup (α:=Str) ["_law_one"] by decide +kernel) rfl (.inl rfl)))) (λ_ _ _ _ _=>ii) (λ_ _ _ _ _=>(aC ih (Nat.le_refl _) hr rfl T.m20 T.F20.kp T.b20 (ae (iv 0) ag rfl) (by decide) rfl rfl)) (λ_=>rfl))) ag rfl) (by decide) (by decide) rfl rfl))))))
theorem jT (T:Txt P w K mg t):∀ n:Nat,bD P w K mg base CX0 (0+n) t.f20 t.g20 ["_law_rule_here"] (spI K (bK n))
 | 0=>⟨λ_ _ _ _ ⟨_,_,_,_,h,_⟩=>(nomatch h),λ_ _ _ _ _ _ _ _ _ _ _ _ _ ⟨_,_,_,_,h,_⟩=>(nomatch h)⟩
 | n+1=>show bD P w K mg base CX0 (0+n+1) t.f20 t.g20 ["_law_rule_here"] (spI K (bX (List.length (α:=Str) ["_law_rule_here"]) (List.length (α:=Str) ["_law_rule_here"]) (fR (bK n)))) from gM (N:=["_law_rule_here"]) (ps:=["_law_rule_here"]) (k:=0+n) (b:=fR (bK n)) T.F20 nn (λcdv A outer s H E hr=>lH T n (jT T n) cdv A outer s H E hr)
theorem mC (T:Txt P w K mg t):Bdy P w K mg base 9 ["_law_text","_law_found"] "_law_due" eH t.f21 h9:=
 λ_ _ _ _ _ _ hr=>(am (aV (i:=1) kF.nd rfl (.inl rfl) (aC (iO T 7) (by decide) hr rfl T.m19 T.F19.kp T.b19 (ae (iv 0) (ae ah ag rfl) rfl) (by decide) rfl rfl) rfl (.inl rfl)) (am (bn (gt (fg (aN nW (iv 1) fC (aU _)) (fg (aN (il hr rfl) (aS (iv 1) ah rfl rfl) aj (aU _)) (eS (aN u9 (aC (jT T 7) (by decide) hr rfl T.m20 T.F20.kp T.b20 (ae (aS (iv 1) ah rfl rfl) ag rfl) (by decide) rfl rfl) ah (aU _)))))) (au (aQ aj)) aK) (au (aQ (bi (bR (ae (aS (iv 1) ah rfl rfl) ag rfl)))))))
theorem kC (T:Txt P w K mg t):bD P w K mg base CX0 10 t.f21 t.g21 ["_law_text"] (spI K gg):=
 gM (N:=["_law_text","_law_found"]) (b:=h9) T.F21 kF (mC T)
theorem lz (T:Txt P w K mg t):Bdy P w K mg base 1 ["_law_hand_here","_law_inner"] "_law_wide" df t.f22 gz:=
 λ_ _ _ _ _ _ hr=>(am (And.left (zb (i0:=1) jo.nd rfl (.inl rfl) (md (ao df).names ["_law_hand_here","_law_inner"] ["_law_turn","_law_hand_here"] 1 [0] rfl rfl rfl (by decide +kernel)) rfl (by decide) (iU rfl T.z_range (ae ah ag rfl) rfl) (λ_ _ _ _ _=>(dW (dY (i:=0) (show List.Nodup (α:=Str) ["_law_turn","_law_hand_here"] by decide +kernel) rfl (.inl rfl)))) (λ_ _ _ _ _=>ii) (λ_ _ _ _ _=>(aD (aL rfl) (aD (aL rfl) (aD (aL rfl) (aS (bi (bR (ae aj (ae aj (ae aj (ae aj ag rfl) rfl) rfl) rfl))) (aC (bf T) (by decide) hr rfl T.m12 T.F12.kp T.b12 (ae (iv 1) (ae ah ag rfl) rfl) (by decide) rfl rfl) rfl rfl) aj) (lj aj (ae (aD (fU rfl) (bi (bR (ae aj ag rfl))) ah) ag rfl) rfl rfl rfl rfl)) aj)) rfl (.inl rfl) (λ_=>rfl))) (au (aQ (aD (aL rfl) (aD (aL rfl) aj (lj aj (ae (aD (aL rfl) (iv 1) (bi (bR (ae (aD (aL rfl) (aD (aL rfl) aj (lj aj (ae (aD (fU rfl) (bi (bR (ae aj ag rfl))) (aC (bf T) (by decide) hr rfl T.m12 T.F12.kp T.b12 (ae (iv 0) (ae ah ag rfl) rfl) (by decide) rfl rfl)) ag rfl) rfl rfl rfl rfl)) aj) ag rfl)))) ag rfl) rfl rfl rfl rfl)) aj))))
theorem nB (T:Txt P w K mg t):bD P w K mg base CX0 2 t.f22 t.g22 ["_law_hand_here"] (spI K fO):=
 gM (N:=["_law_hand_here","_law_inner"]) (b:=gz) T.F22 jo (lz T)
theorem tH (T:Txt P w K mg t):Bdy P w K mg base 17 ["_law_script","_law_near","_law_k","_law_hand_here","_law_some","_law_text","_law_bent","_law_edges"] "law" iy t.f23 qY:=
 λ_ _ _ _ _ _ hr=>(am (aV (i:=1) gv.nd rfl (.inr rfl) (bi (bR (ae aj (ae aj (ae aj (ae aj (ae aj (ae aj (ae aj (ae aj (ae aj (ae aj (ae aj (ae aj (ae aj (ae aj (ae aj (ae aj (ae aj (ae aj ag rfl) rfl) rfl) rfl) rfl) rfl) rfl) rfl) rfl) rfl) rfl) rfl) rfl) rfl) rfl) rfl) rfl) rfl))) rfl (.inl rfl)) (am (jZ (iU rfl T.z_range (ae (aD (aL rfl) ah (cm (xH rfl) rfl T.z_min PyProof.Rows.boot_min (ae ah (ae (cm (ft rfl) rfl T.z_len PySem.boot_len (ae (iv 0) ag rfl) (by decide) (by decide) rfl rfl) ag rfl) rfl) (by decide) (by decide) rfl rfl)) ag rfl) rfl) (dW (dY (i:=2) gv.nd rfl (.inl rfl))) (am (aV (i:=3) gv.nd rfl (.inr rfl) (aC (oo T) (by decide) hr rfl T.m11 T.F11.kp T.b11 (ae (iv 0) (ae (iv 2) ag rfl) rfl) (by decide) rfl rfl) rfl (.inl rfl)) (am (aV (i:=4) gv.nd rfl (.inl rfl) (bi (bR (ae (aC (ip T 7) (by decide) hr rfl T.m15 T.F15.kp T.b15 (ae (aC (ju T 7) (by decide) hr rfl T.m14 T.F14.kp T.b14 (ae (iv 3) (ae (ml (bR (ae ah ag rfl))) (ae (aD (aL rfl) ah (aC (bf T) (by decide) hr rfl T.m12 T.F12.kp T.b12 (ae (iv 3) (ae ah ag rfl) rfl) (by decide) rfl rfl)) (ae ah ag rfl) rfl) rfl) rfl) (by decide) rfl rfl) ag rfl) (by decide) rfl rfl) (ae (aC (nB T) (by decide) hr rfl T.m22 T.F22.kp T.b22 (ae (iv 3) ag rfl) (by decide) rfl rfl) ag rfl) rfl))) rfl (.inl rfl)) (au (jZ (ji (aD (aL rfl) (iv 4) (bi (bR (ae (aD (aL rfl) (aD (wl rfl) aj (aC (bf T) (by decide) hr rfl T.m12 T.F12.kp T.b12 (ae (iv 3) (ae ah ag rfl) rfl) (by decide) rfl rfl)) (aC (ie T) (by decide) hr rfl T.m13 T.F13.kp T.b13 (ae (iv 3) (ae (bi (bR (ae aj (ae aj (ae aj (ae aj ag rfl) rfl) rfl) rfl))) ag rfl) rfl) (by decide) rfl rfl)) ag rfl)))) rfl) (dW (dY (i:=5) gv.nd rfl (.inr rfl))) (am (aV (i:=6) gv.nd rfl (.inl rfl) (aD (aL rfl) (bi (bR (ae (iv 5) ag rfl))) (bi (mY (md (ao iy).names ["_law_script","_law_near","_law_k","_law_hand_here","_law_some","_law_text","_law_bent","_law_edges"] ["_law_turn","_law_hand_here","_law_text","_law_near"] 1 [3,5,1] rfl rfl rfl (by decide +kernel)) rfl (by decide) (iU rfl T.z_range (ae ah ag rfl) rfl) (λ_ _ _ _ _=>(dW (dY (i:=0) (show List.Nodup (α:=Str) ["_law_turn","_law_hand_here","_law_text","_law_near"] by decide +kernel) rfl (.inl rfl)))) (λ_ _ _ _ _=>ii) (λ_ _ _ _ _=>(aC (jW T) (by decide) hr rfl T.m16 T.F16.kp T.b16 (ae (iv 1) (ae (iv 2) (ae (iv 3) ag rfl) rfl) rfl) (by decide) rfl rfl)) (λ_=>rfl)))) rfl (.inl rfl)) (au (bn (gm (gq (cm (qk rfl rfl) rfl T.z_all PyProof.Rows.boot_all (ae (bi (mY (md (ao iy).names ["_law_script","_law_near","_law_k","_law_hand_here","_law_some","_law_text","_law_bent","_law_edges"] ["_law_one"] 1 [] rfl rfl rfl (by decide +kernel)) rfl (by decide) (ji (iv 6) rfl) (λ_ _ _ _ _=>(dW (dY (i:=0) (show List.Nodup (α:=Str) ["_law_one"] by decide +kernel) rfl (.inl rfl)))) (λ_ _ _ _ _=>ii) (λ_ _ _ _ _=>(ig (cp hr rfl) (cm (jA hr rfl) rfl T.z_repr PyProof.Rows.boot_repr (ae (aC (hW T) (by decide) hr rfl T.m17 T.F17.kp T.b17 (ae (iv 0) ag rfl) (by decide) rfl rfl) ag rfl) (by decide) (by decide) rfl rfl) (cm (jA hr rfl) rfl T.z_repr PyProof.Rows.boot_repr (ae (aC (kC T) (by decide) hr rfl T.m21 T.F21.kp T.b21 (ae (iv 0) ag rfl) (by decide) rfl rfl) ag rfl) (by decide) (by decide) rfl rfl) (aU _))) (λ_=>rfl))) ag rfl) (by decide) (by decide) rfl rfl) rfl rfl)) (au (aQ nj)) aK))) PassesOwn.never rfl (λ_=>rfl))))) PassesOwn.never rfl (λ_=>rfl)) (am (aV (i:=7) gv.nd rfl (.inl rfl) (bi (bR (ae aj (ae aj (ae aj (ae aj (ae aj (ae aj (ae aj (ae aj (ae aj (ae aj (ae aj (ae aj (ae aj (ae aj (ae aj ag rfl) rfl) rfl) rfl) rfl) rfl) rfl) rfl) rfl) rfl) rfl) rfl) rfl) rfl) rfl))) rfl (.inl rfl)) (am (aV (i:=7) gv.nd rfl (.inl rfl) (aD (aL rfl) (iv 7) (bi (bR (ae aj (ae aj (ae aj (ae aj (ae aj (ae aj (ae aj (ae aj (ae aj (ae aj ag rfl) rfl) rfl) rfl) rfl) rfl) rfl) rfl) rfl) rfl)))) rfl (.inl rfl)) (am (aV (i:=7) gv.nd rfl (.inl rfl) (aD (aL rfl) (iv 7) (bi (bR (ae aj (ae aj (ae aj (ae aj ag rfl) rfl) rfl) rfl)))) rfl (.inl rfl)) (am (aV (i:=7) gv.nd rfl (.inl rfl) (aD (aL rfl) (iv 7) (bi (bR (ae aj (ae aj (ae aj (ae aj (ae aj (ae aj (ae aj (ae aj (ae aj (ae aj (ae aj (ae aj ag rfl) rfl) rfl) rfl) rfl) rfl) rfl) rfl) rfl) rfl) rfl) rfl)))) rfl (.inl rfl)) (am (bn (gm (gq (cm (qk rfl rfl) rfl T.z_all PyProof.Rows.boot_all (ae (bi (mY (md (ao iy).names ["_law_script","_law_near","_law_k","_law_hand_here","_law_some","_law_text","_law_bent","_law_edges"] ["_law_one"] 1 [] rfl rfl rfl (by decide +kernel)) rfl (by decide) (ji (iv 7) rfl) (λ_ _ _ _ _=>(dW (dY (i:=0) (show List.Nodup (α:=Str) ["_law_one"] by decide +kernel) rfl (.inl rfl)))) (λ_ _ _ _ _=>ii) (λ_ _ _ _ _=>(ig (cp hr rfl) (cm (jA hr rfl) rfl T.z_repr PyProof.Rows.boot_repr (ae (aC (hW T) (by decide) hr rfl T.m17 T.F17.kp T.b17 (ae (iv 0) ag rfl) (by decide) rfl rfl) ag rfl) (by decide) (by decide) rfl rfl) (cm (jA hr rfl) rfl T.z_repr PyProof.Rows.boot_repr (ae (aC (kC T) (by decide) hr rfl T.m21 T.F21.kp T.b21 (ae (iv 0) ag rfl) (by decide) rfl rfl) ag rfl) (by decide) (by decide) rfl rfl) (aU _))) (λ_=>rfl))) ag rfl) (by decide) (by decide) rfl rfl) rfl rfl)) (au (aQ nj)) aK) (au (aQ (cm (qk rfl rfl) rfl T.z_all PyProof.Rows.boot_all (ae (bi (mY (md (ao iy).names ["_law_script","_law_near","_law_k","_law_hand_here","_law_some","_law_text","_law_bent","_law_edges"] ["_law_thing"] 1 [] rfl rfl rfl (by decide +kernel)) rfl (by decide) (ji (bi (bR (ae fC (ae ah (ae nj (ae (aY (ae aj (ae ah ag rfl) rfl)) (ae (bi (bR (ae aj ag rfl))) (ae zL (ae (aY ag) (ae (aY (ae aj ag rfl)) (ae ah ag rfl) rfl) rfl) rfl) rfl) rfl) rfl) rfl) rfl))) rfl) (λ_ _ _ _ _=>(dW (dY (i:=0) (show List.Nodup (α:=Str) ["_law_thing"] by decide +kernel) rfl (.inl rfl)))) (λ_ _ _ _ _=>ii) (λ_ _ _ _ _=>(ig (cp hr rfl) (aC (hW T) (by decide) hr rfl T.m17 T.F17.kp T.b17 (ae (iv 0) ag rfl) (by decide) rfl rfl) aj (aU _))) (λ_=>rfl))) ag rfl) (by decide) (by decide) rfl rfl))))))))))
theorem xu (T:Txt P w K mg t):bD P w K mg base CX0 18 t.f23 t.g23 ["_law_script"] (spI K oB):=
 xF (N:=["_law_script","_law_near","_law_k","_law_hand_here","_law_some","_law_text","_law_bent","_law_edges"]) (b:=qY) T.F23 gv (tH T)
end
end Own
end
namespace L2
open PySem
end L2
namespace L2
end L2
namespace L2
end L2
namespace L2
open PySem
end L2
namespace L2
open PySem
end L2
namespace L2
open PySem
inductive Gw where | all | any | odd | least
inductive Ru where
 | sw (k:Int)
 | nt (r:Ru)
 | gr (g:Gw) (k:Int) (rs:List Ru)
noncomputable def Gw.wd:Gw->Str
 | .all=>"all"
 | .any=>"any"
 | .odd=>"odd"
 | .least=>"least"
noncomputable def grD (g:Gw) (k:Int) (ds:List D):D:=match g with
 | .least=>.tup [.str "least",.int k,.tup ds]
 | .all=>.tup [.str "all",.tup ds]
 | .any=>.tup [.str "any",.tup ds]
 | .odd=>.tup [.str "odd",.tup ds]
mutual
noncomputable def toD:Ru->D
 | .sw k=>.tup [.str "switch",.int k]
 | .nt r=>.tup [.str "not",toD r]
 | .gr g k rs=>grD g k (aI rs)
noncomputable def aI:List Ru->List D
 | []=>[]
 | r::rs=>toD r::aI rs
end
mutual
noncomputable def dep:Ru->Nat
 | .sw _=>1
 | .nt r=>dep r+1
 | .gr _ _ rs=>d7 rs+1
noncomputable def d7:List Ru->Nat
 | []=>0
 | r::rs=>max (dep r) (d7 rs)
end
mutual
noncomputable def cnt:Ru->Int
 | .sw _=>1
 | .nt r=>1+cnt r
 | .gr _ _ rs=>1+cq rs
noncomputable def cq:List Ru->Int
 | []=>0
 | r::rs=>cnt r+cq rs
end
mutual
noncomputable def dP (m:Int):Ru->Prop
 | .sw k=>0<=k/\k < m
 | .nt r=>dP m r
 | .gr _ k rs=>0<=k/\k<=9/\rs.length<=6/\db m rs
noncomputable def db (m:Int):List Ru->Prop
 | []=>True
 | r::rs=>dP m r/\db m rs
end
theorem dq:∀ rs:List Ru,aI rs=rs.map toD
 | []=>by rw [aI];rfl
 | r::rs=>by rw [aI,dq rs];rfl
theorem jF:∀ {rs:List Ru}{n:Nat},d7 rs<=n->∀ r ∈ rs,dep r<=n
 | [],n,_,r,h=>by cases h
 | x::rs,n,hd,r,h=>by
  rw [d7] at hd
  rcases List.mem_cons.mp h with rfl | h
  ·lia
  ·exact jF (rs:=rs) (by lia) r h
theorem kc:∀ {m:Int}{rs:List Ru},db m rs->∀ r ∈ rs,dP m r
 | m,[],_,r,h=>by cases h
 | m,x::rs,hg,r,h=>by
  rw [db] at hg
  rcases List.mem_cons.mp h with rfl | h
  ·exact hg.1
  ·exact kc (rs:=rs) hg.2 r h
theorem mH {m:Int}:∀ {rs:List Ru}{r:Ru},db m rs->dP m r->db m (rs++[r])
 | [],r,_,h=>by show db m [r];rw [db,db];exact⟨h,trivial⟩
 | x::rs,r,hg,h=>by
  rw [db] at hg
  show db m (x::(rs++[r]))
  rw [db];exact⟨hg.1,mH hg.2 h⟩
theorem pI {n:Nat}:∀ {rs:List Ru}{r:Ru},d7 rs<=n->dep r<=n->d7 (rs++[r])<=n
 | [],r,_,h=>by show d7 [r]<=n;rw [d7,d7];lia
 | x::rs,r,hg,h=>by
  rw [d7] at hg
  show d7 (x::(rs++[r]))<=n
  rw [d7]
  have:=pI (rs:=rs) (r:=r) (n:=n) (by lia) h
  lia
theorem oD:∀ {rs:List Ru}{r:Ru},cq (rs++[r])=cq rs+cnt r
 | [],r=>by show cq [r]=_;rw [cq,cq,cq];lia
 | x::rs,r=>by
  show cq (x::(rs++[r]))=_
  rw [cq,cq,oD (rs:=rs)];lia
end L2
namespace L2
open PySem
theorem aF {g:Sto->W->W->Option D}{a b:Ef}{env:Ev}{st s1 s2:Sto}{x y:W}{d:D} (ha:a env st=some (x,s1)) (hb:b env s1=some (y,s2)) (hg:g s2 x y=some d):iOp g a b env st=some (.d d,s2):=by
 simp only [iOp,ha,hb,hg,Option.bind_some,Option.map_some]
theorem bg {g:Sto->W->W->Option D}{a b:Ef}{env:Ev}{st s1 s2:Sto}{x y:W}{k:Bool} (ha:a env st=some (x,s1)) (hb:b env s1=some (y,s2)) (hg:g s2 x y=some (.bl k)):aG g a b env st=some (k,s2):=by
 simp only [aG,ha,hb,hg,Option.bind_some,dD,Option.map_some]
theorem lh {a b:Sf}{env e:Ev}{st s:Sto}{r:Fl} (ha:a env st=some (.nx e s)) (hb:b e s=some r):av a b env st=some r:=by
 simp only [av,ha,hb,Option.bind_some]
theorem qZ {a b:Sf}{env:Ev}{st s:Sto}{w:W} (ha:a env st=some (.rt w s)):av a b env st=some (.rt w s):=by
 simp only [av,ha,Option.bind_some]
theorem bH {i:Nat}{f:Ef}{env:Ev}{st s:Sto}{w:W} (h:f env st=some (w,s)):aT (.nm i) f env st=some (.nx (env.set i (some w)) s):=by
 simp only [aT,h,Option.bind_some,dA,Option.map_some]
theorem aR {m:Fn}{a:Af}{env:Ev}{st s:Sto}{ws:List W}{r:W×Sto} (ha:a env st=some (ws,s)) (hm:m ws s=some r):ar m a env st=some r:=by
 simp only [ar,ha,hm,Option.bind_some]
theorem fG {g:Sto->List W->Option D}{a:Af}{env:Ev}{st s:Sto}{ws:List W}{d:D} (ha:a env st=some (ws,s)) (hm:g s ws=some d):iCB g a env st=some (.d d,s):=by
 simp only [iCB,ha,hm,Option.bind_some,Option.map_some]
theorem aq {a:Ef}{b:Af}{env:Ev}{st s1 s2:Sto}{x:W}{y:List W} (ha:a env st=some (x,s1)) (hb:b env s1=some (y,s2)):ac a b env st=some (x::y,s2):=by
 simp only [ac,ha,hb,Option.bind_some,Option.map_some]
theorem gF {fi:Lf}{g:Tg}{b:Sf}{env:Ev}{st s:Sto}{ds:List D}{r:Fl} (h:fi env st=some (ds,s)) (hf:fS g b ds env s=some r):jt fi g b env st=some r:=by
 simp only [jt,h,hf,Option.bind_some]
theorem bL {f:Ef}{env:Ev}{st s:Sto}{w:W} (h:f env st=some (w,s)):aX f env st=some (.rt w s):=by
 simp only [aX,h,Option.map_some]
theorem xj {c:Tf}{a b:Sf}{env:Ev}{st s:Sto}{r:Option Fl} (h:c env st=some (true,s)) (ha:a env s=r):bc c a b env st=r:=by
 simp only [bc,h,Option.bind_some,if_true,ha]
theorem ug {c:Tf}{a b:Sf}{env:Ev}{st s:Sto}{r:Option Fl} (h:c env st=some (false,s)) (hb:b env s=r):bc c a b env st=r:=by
 simp only [bc,h,Option.bind_some,Bool.false_eq_true,if_false,hb]
theorem ka {k:Nat}{js:List Nat}{fi:Lf}{g:Tg}{tt:Tf}{te:Ef}{env:Ev}{st s s2:Sto}{ds ys:List D} (h:fi env st=some (ds,s)) (hl:ds.length<=1000000) (hc:lcI g tt te (kZ k js env) ds s=some (ys,s2)):iLc k js fi g tt te env st=some (ys,s2):=by
 simp only [iLc,h,hc,hl,Option.bind_some,if_true]
theorem dv {a:Lf}{env:Ev}{st s:Sto}{ds:List D} (h:a env st=some (ds,s)):aJ a env st=some (.d (.lst ds),s):=by
 simp only [aJ,h,Option.map_some]
theorem cJ {n k:Nat}{b:Sf}{ws:List W}{st s:Sto}{w:W} (hl:ws.length=k) (h:b (ws.map some++List.replicate (n - k) none) st=some (.rt w s)):bX n k b ws st=some (w,s):=by
 simp only [bX,hl,if_true,h,Option.bind_some]
theorem oK {n k:Nat}{b:Sf}{ws:List W}{st s:Sto}{x:D} (hl:ws.length=k) (h:b (ws.map some++List.replicate (n - k) none) st=some (.rt (.d x) s)):gw n k b ws st=some (.d x,s.take st.length):=by
 simp only [gw,hl,if_true,h,Option.bind_some,j9]
end L2
section
set_option maxHeartbeats 1000000
namespace Own
open PySem L2
noncomputable def S (l:List Nat):Str:=⟨l.toArray⟩
theorem pj (a b:List Nat):S a++S b=S (a++b):=by
 show (⟨a.toArray++b.toArray⟩:Str)=⟨(a++b).toArray⟩
 congr 1
 simp
theorem gY (a:List Nat):(S a).length=a.length:=by show a.toArray.size=_;simp
theorem qx (a:List Nat):(S a).cps.toList=a:=rfl
theorem zr {a b:List Nat} (h:S a=S b):a=b:=by
 have:(S a).cps.toList=(S b).cps.toList:=by rw [h]
 exact this
theorem re (a b:List Nat):(S a==S b)=decide (a=b):=by
 by_cases h:a=b
 ·subst h;simp
 ·have:¬ S a=S b:=λq=>h (zr q)
  simp [h,this]
theorem cH {st:Sto}{n:Nat}{m:Int} (h:cC st n) (m0:0 < m) (m1:m < 1073741824):∃ r st',0<=r/\r < m/\Stp n st st'/\aB [.h n,.d (.int m)] st=some (.d (.int r),st'):=by
 have hn:=h.lt
 obtain⟨x,y,z,h0,h⟩:=h
 by_cases hx:0 < x
 ·refine⟨x % m,st.set n (.l [.int (x / m),.int y,.int z]),Int.emod_nonneg _ (by lia),Int.emod_lt_of_pos _ m0,⟨⟨_,rfl⟩,_,_,_,Int.ediv_nonneg h0 (by lia),lq hn⟩,?_⟩
  simp only [aB,fN,iV,iC,iOp,aG,aM,av,aT,gT,d3,aX,bc,bX,dA,dD,cB,lsD,dIx,aP,fV,iF,jv,dGt,Option.bind_some,Option.map_some,List.getD_cons_zero,List.getD_cons_succ,List.set_cons_zero,List.set_cons_succ,List.map_cons,List.map_nil,List.length_cons,List.length_nil,List.replicate_succ,List.replicate_zero,List.cons_append,List.nil_append,Nat.reduceAdd,Nat.reduceSub,if_true,gZ,mE,Nat.zero_add,and_self,decide_true,lg,Int.reduceNeg,h,hx,m0,m1,decide_true,and_self]
 ·have hy0:0<=(y*39373+12345+31*(z+1)) % 2147483647:=Int.emod_nonneg _ (by decide)
  have hy1:(y*39373+12345+31*(z+1)) % 2147483647 < 2147483647:=Int.emod_lt_of_pos _ (by decide)
  have k1:PySem.IntMulOk y 39373:=nl (by decide)
  have k2:PySem.IntMulOk 31 (z+1):=nu (by decide)
  have k3:∀ q,PySem.IntMulOk ((y*39373+12345+31*(z+1)) % 2147483647) q:=λq=>nu (by lia)
  refine⟨(y*39373+12345+31*(z+1)) % 2147483647*((y*39373+12345+31*(z+1)) % 2147483647 % 40009+3) % 2147483629 / 64 % m,st.set n (.l [.int x,.int ((y*39373+12345+31*(z+1)) % 2147483647),.int (z+1)]),Int.emod_nonneg _ (by lia),Int.emod_lt_of_pos _ m0,⟨⟨_,rfl⟩,_,_,_,h0,lq hn⟩,?_⟩
  simp only [aB,fN,iV,iC,iOp,aG,aM,av,aT,gT,d3,aX,bc,bX,dA,dD,cB,lsD,dIx,aP,fV,iF,jv,dGt,Option.bind_some,Option.map_some,List.getD_cons_zero,List.getD_cons_succ,List.set_cons_zero,List.set_cons_succ,List.map_cons,List.map_nil,List.length_cons,List.length_nil,List.replicate_succ,List.replicate_zero,List.cons_append,List.nil_append,Nat.reduceAdd,Nat.reduceSub,if_true,if_false,Bool.false_eq_true,gZ,oZ,Aa,mE,AI,AL,Nat.zero_add,and_self,decide_false,lg,Int.reduceNeg,h,hx,m0,m1,decide_false,and_self,lq hn,List.set_set,k1,k2,k3,show (0:Int) < 2147483647 by decide,show (0:Int) < 40009 by decide,show (0:Int) < 2147483629 by decide,show (0:Int) < 64 by decide,show (64:Int) < 1073741824 by decide]
theorem vG {st:Sto}{ns:List Int}{k:Nat}:∃ x y:Int,0<=x/\eJ [.d (.scr ns),.d (.int k)] st=some (.h st.length,st++[.l [.int x,.int y,.int 0]]):=by
 have p60':oF 10 60:=p60
 have p18':oF 10 18:=p18
 have k1:∀ q,PySem.IntMulOk 7919 q:=λq=>nu (by decide)
 have k2:∀ q,PySem.IntMulOk q 48271:=λq=>nl (by decide)
 have k3:∀ (q:Int) (b:Bool),PySem.IntMulOk q (if b=true then 1 else 0):=λq b=>nl ⟨zp b,zd b⟩
 have hf:=oi
 by_cases hk:(k:Int) < ((ns.map D.int).length:Nat)
 ·have hk':k < ns.length:=by rw [List.length_map] at hk;lia
  have e:atI (ns.map D.int) (k:Int)=some (.int ns[k]):=iT (by rw [List.getElem?_map,List.getElem?_eq_getElem hk'];rfl)
  refine⟨(if ns[k] < 0 then -ns[k] else ns[k]) % (10 ^ Int.toNat 60*10 ^ Int.toNat 60*10 ^ Int.toNat 60*10 ^ Int.toNat 60)*(if decide (10 ^ Int.toNat 18<=(if ns[k] < 0 then -ns[k] else ns[k]))=true then 1 else 0),(ns[k] % 2147483629+7919*(k:Int)+11)*48271 % 2147483647,Int.mul_nonneg (Int.emod_nonneg _ (Int.ne_of_gt oi)) (xn _),?_⟩
  ·simp only [eJ,fQ,iV,iC,iOp,aG,ai,ac,iCB,bv,hX,aM,av,aT,aX,bc,bX,dA,d2,dD,cB,lsD,dIx,aP,fV,jv,ow,dLt,dGe,du,uW,ud,Option.bind_some,Option.map_some,List.getD_cons_zero,List.getD_cons_succ,List.set_cons_zero,List.set_cons_succ,List.map_cons,List.map_nil,List.length_cons,List.length_nil,List.replicate_succ,List.replicate_zero,List.cons_append,List.nil_append,Nat.reduceAdd,Nat.reduceSub,if_true,Nat.zero_add,decide_true,lg,Int.reduceNeg,hk,e,decide_true,p60',p18',k1,k2,k3,zV,zT,zZ,hf,show (0:Int) < 2147483647 by decide,show (0:Int) < 2147483629 by decide,show (3:Nat)<=1000 by decide]
 ·refine⟨(if (0:Int) < 0 then -0 else 0) % (10 ^ Int.toNat 60*10 ^ Int.toNat 60*10 ^ Int.toNat 60*10 ^ Int.toNat 60)*(if decide (10 ^ Int.toNat 18<=(if (0:Int) < 0 then -0 else (0:Int)))=true then 1 else 0),(0 % 2147483629+7919*(k:Int)+11)*48271 % 2147483647,Int.mul_nonneg (Int.emod_nonneg _ (Int.ne_of_gt oi)) (xn _),?_⟩
  ·simp only [eJ,fQ,iV,iC,iOp,aG,ai,ac,iCB,bv,hX,aM,av,aT,aX,bc,bX,dA,d2,dD,cB,lsD,dIx,aP,fV,jv,ow,dLt,dGe,du,uW,ud,Option.bind_some,Option.map_some,List.getD_cons_zero,List.getD_cons_succ,List.set_cons_zero,List.set_cons_succ,List.map_cons,List.map_nil,List.length_cons,List.length_nil,List.replicate_succ,List.replicate_zero,List.cons_append,List.nil_append,Nat.reduceAdd,Nat.reduceSub,if_true,if_false,Bool.false_eq_true,Nat.zero_add,decide_false,lg,Int.reduceLT,Int.reduceNeg,hk,decide_false,p60',p18',k1,k2,k3,zV,zT,zZ,hf,show (0:Int) < 2147483647 by decide,show (0:Int) < 2147483629 by decide,show (3:Nat)<=1000 by decide]
theorem on {st:Sto}{n:Nat}{ds:List D} (h:cC st n) (h0:ds≠[]) (h1:ds.length < 1000000):∃ d st',d ∈ ds/\Stp n st st'/\bP [.h n,.d (.lst ds)] st=some (.d d,st'):=by
 have hp:0 < ds.length:=List.length_pos_iff.mpr h0
 obtain⟨r,s1,r0,r1,t1,e1⟩:=cH h (m:=(ds.length:Int)) (by lia) (by lia)
 obtain⟨j,rfl⟩:=Int.eq_ofNat_of_zero_le r0
 have hj:j < ds.length:=by lia
 have e2:atI ds (j:Int)=some ds[j]:=iT (List.getElem?_eq_getElem hj)
 refine⟨ds[j],s1,List.getElem_mem hj,t1,?_⟩
 simp only [bP,gD,iV,iOp,ai,ac,iCB,ar,aX,bX,cB,dIx,du,Option.bind_some,Option.map_some,List.getD_cons_zero,List.getD_cons_succ,List.map_cons,List.map_nil,List.length_cons,List.length_nil,List.replicate_zero,List.cons_append,List.nil_append,Nat.reduceAdd,Nat.reduceSub,if_true,Nat.zero_add,lg,e1,e2]
theorem lv:(("switch" : Str)==("least" : Str))=false:=by decide +kernel
theorem fX:(("not" : Str)==("switch" : Str))=false:=by decide +kernel
theorem pp:(("not" : Str)==("least" : Str))=false:=by decide +kernel
theorem jH:(("all" : Str)==("switch" : Str))=false:=by decide +kernel
theorem nh:(("all" : Str)==("not" : Str))=false:=by decide +kernel
theorem kD:(("all" : Str)==("least" : Str))=false:=by decide +kernel
theorem jU:(("any" : Str)==("switch" : Str))=false:=by decide +kernel
theorem mQ:(("any" : Str)==("not" : Str))=false:=by decide +kernel
theorem kN:(("any" : Str)==("least" : Str))=false:=by decide +kernel
theorem jp:(("odd" : Str)==("switch" : Str))=false:=by decide +kernel
theorem mZ:(("odd" : Str)==("not" : Str))=false:=by decide +kernel
theorem kM:(("odd" : Str)==("least" : Str))=false:=by decide +kernel
theorem lu:(("least" : Str)==("switch" : Str))=false:=by decide +kernel
theorem pr:(("least" : Str)==("not" : Str))=false:=by decide +kernel
theorem me {e:Ef}{z:Int}{m:Nat}{env:Ev}{st s:Sto} (he:e env st=some (.d (.int z),s)) (h0:0<=z) (h1:z<=1000) (hm:z.toNat=m):dB (ac e ai) env st=some (gO 0 m,s):=by
 have hb:-(2 ^ 62)<=z/\z < 2 ^ 62:=⟨Int.le_trans (by decide) h0,Int.lt_of_le_of_lt h1 (by decide)⟩
 have h2:=aq (b:=ai) he rfl
 simp only [dB,h2,Option.bind_some,hb,and_self,if_true,hm]
theorem mM {f:Ef}{env:Ev}{st s:Sto}{ds:List D} (h:f env st=some (.d (.lst ds),s)):cf f env st=some (ds,s):=by
 simp only [cf,h,Option.bind_some]
theorem mI {f:Ef}{env:Ev}{st s:Sto}{ds:List D} (h:f env st=some (.d (.tup ds),s)):cf f env st=some (ds,s):=by
 simp only [cf,h,Option.bind_some]
theorem yA {c:Tf}{a b:Ef}{env:Ev}{st s:Sto}{r:Option (W×Sto)} (h:c env st=some (true,s)) (ha:a env s=r):qC c a b env st=r:=by
 simp only [qC,h,Option.bind_some,if_true,ha]
theorem yD {c:Tf}{a b:Ef}{env:Ev}{st s:Sto}{r:Option (W×Sto)} (h:c env st=some (false,s)) (hb:b env s=r):qC c a b env st=r:=by
 simp only [qC,h,Option.bind_some,Bool.false_eq_true,if_false,hb]
theorem zl (s:Sto) (ns:List Int):v8 s [.d (.lst (ns.map D.int))]=some (.int ns.sum):=by
 show (ky (ns.map D.int)).map (λns=>D.int ns.sum)=_
 rw [lE];rfl
theorem ni (s:Sto) (a b:Int):dEq s (.d (.int a)) (.d (.int b))=some (.bl (a==b)):=by
 show ((eqK (.fl (.int a)) (.fl (.int b))).map λk=>D.bl k)=_
 rfl
theorem xm (s:Sto) (a b:Str):dEq s (.d (.str a)) (.d (.str b))=some (.bl (a==b)):=by
 show ((eqK (.fl (.str a)) (.fl (.str b))).map λk=>D.bl k)=_
 rfl
theorem qt (s:Sto) {a b:List D} (h:a.length+b.length<=1000000):aP s (.d (.lst a)) (.d (.lst b))=some (.lst (a++b)):=if_pos h
theorem sJ (s:Sto) {a b:List D} (h:a.length+b.length<=1000000):aP s (.d (.tup a)) (.d (.tup b))=some (.tup (a++b)):=if_pos h
theorem eT {xa xb:Rf}{a:Sf}{env:Ev}{st s:Sto} (h:xa env st=some s):eV xa a xb env st=some s:=by simp only [eV,h]
theorem aO {xa xb:Rf}{a:Sf}{env e:Ev}{st s:Sto}{r:Option Sto} (h:xa env st=none) (ha:a env st=some (.nx e s)) (hb:xb e s=r):eV xa a xb env st=r:=by simp only [eV,h,ha,Option.bind_some,hb]
theorem jr {xa xb:Rf}{a:Sf}{env:Ev}{st s:Sto}{w:W} (h:xa env st=none) (ha:a env st=some (.rt w s)):eV xa a xb env st=none:=by simp only [eV,h,ha,Option.bind_some]
theorem kz {c:Tf}{xa xb:Rf}{env:Ev}{st s:Sto}{r:Option Sto} (h:c env st=some (true,s)) (ha:xa env s=r):xIf c xa xb env st=r:=by simp only [xIf,h,Option.bind_some,if_true,ha]
theorem d4 {c:Tf}{xa xb:Rf}{env:Ev}{st s:Sto}{r:Option Sto} (h:c env st=some (false,s)) (hb:xb env s=r):xIf c xa xb env st=r:=by simp only [xIf,h,Option.bind_some,Bool.false_eq_true,if_false,hb]
theorem fB {m:Rn}{a:Af}{env:Ev}{st s:Sto}{ws:List W}{r:Option Sto} (h:a env st=some (ws,s)) (hm:m ws s=r):iA m a env st=r:=by simp only [iA,h,Option.bind_some,hm]
theorem eY {a b:Sf}{env:Ev}{st:Sto} (h:a env st=none):av a b env st=none:=by simp only [av,h,Option.bind_none]
theorem dj {a b:Sf}{env:Ev}{st s:Sto}{w:W} (h:a env st=some (.rt w s)):av a b env st=some (.rt w s):=by simp only [av,h,Option.bind_some]
theorem aA {a b:Sf}{env e:Ev}{st s:Sto}{r:Option Fl} (h:a env st=some (.nx e s)) (hb:b e s=r):av a b env st=r:=by simp only [av,h,Option.bind_some,hb]
theorem dS {c:Tf}{a b:Sf}{env:Ev}{st s:Sto}{r:Option Fl} (h:c env st=some (true,s)) (ha:a env s=r):bc c a b env st=r:=by simp only [bc,h,Option.bind_some,if_true,ha]
theorem ba {c:Tf}{a b:Sf}{env:Ev}{st s:Sto}{r:Option Fl} (h:c env st=some (false,s)) (hb:b env s=r):bc c a b env st=r:=by simp only [bc,h,Option.bind_some,Bool.false_eq_true,if_false,hb]
theorem xU {gb:Sf}{xb:Rf}{w:D}{env:Ev}{st:Sto}{r:Fl} (h:gb env st=some r):qr gb xb w env st=some r:=by simp only [qr,h]
theorem xZ {gb:Sf}{xb:Rf}{w:D}{env:Ev}{st s:Sto} (h:gb env st=none) (hx:xb env st=some s):qr gb xb w env st=some (.rt (.d w) s):=by simp only [qr,h,hx,Option.map_some]
end Own
end
section
set_option maxHeartbeats 1000000
namespace Own
open PySem L2
theorem ix0 (s:Sto) (a:D) (l:List D):dIx s (.d (.tup (a::l))) (.d (.int 0))=some a:=by simp only [dIx,cB,Option.bind_some,gZ]
theorem ix1 (s:Sto) (a b:D) (l:List D):dIx s (.d (.tup (a::b::l))) (.d (.int 1))=some b:=by simp only [dIx,cB,Option.bind_some,oZ]
theorem so (s:Sto) (a b:D):dIx s (.d (.tup [a,b])) (.d (.int (-1)))=some b:=by simp only [dIx,cB,Option.bind_some];exact pb [a] b
theorem Ab (s:Sto) (a b c:D):dIx s (.d (.tup [a,b,c])) (.d (.int (-1)))=some c:=by simp only [dIx,cB,Option.bind_some];exact pb [a,b] c
theorem n5:∀ r:Ru,1<=dep r
 | .sw _=>by rw [dep];lia
 | .nt _=>by rw [dep];lia
 | .gr _ _ _=>by rw [dep];lia
theorem rJ (n:Nat):inD (.int (n:Int)) [.int 2,.int 3]=(decide (n=2) || decide (n=3)):=by
 unfold inD
 simp only [List.any_cons,List.any_nil,eqD,Bool.or_false]
 congr 1
 ·rw [Bool.eq_iff_iff];simp;lia
 ·rw [Bool.eq_iff_iff];simp;lia
theorem ne2 (n:Nat):((n:Int)==2)=decide (n=2):=by rw [Bool.eq_iff_iff];simp;lia
theorem ne3 (n:Nat):((n:Int)==3)=decide (n=3):=by rw [Bool.eq_iff_iff];simp;lia
theorem zX:inD (.str "all") [.str "all",.str "any",.str "odd"]=true:=by decide +kernel
theorem zo:inD (.str "any") [.str "all",.str "any",.str "odd"]=true:=by decide +kernel
theorem y0:inD (.str "odd") [.str "all",.str "any",.str "odd"]=true:=by decide +kernel
theorem mV {st:Sto}{i lo hi:Int} (h0:lo<=i) (h1:i<=hi):fM [.d (.int i),.d (.int lo),.d (.int hi)] st=some (.d (.bl true),st):=by
 simp only [fM,gG,jf,h8,iV,iC,nq,qQ,eO,ai,ac,iCB,ar,aX,bX,dD,blW,dLe,gP,gK,pP,nP,Option.bind_some,Option.map_some,List.getD_cons_zero,List.getD_cons_succ,List.map_cons,List.map_nil,List.length_cons,List.length_nil,List.replicate_zero,List.cons_append,List.nil_append,Nat.reduceAdd,Nat.reduceSub,if_true,Bool.not_false,Nat.zero_add,decide_true,lg,h0,h1]
theorem zN {st:Sto}{ds:List D}:cF [.d (.tup ds)] st=some (.d (.bl (decide (ds.length<=6))),st):=by
 have e:decide ((ds.length:Int)<=6)=decide (ds.length<=6):=by rw [Bool.eq_iff_iff];simp;lia
 simp only [cF,dC,iV,iC,iOp,eO,ai,ac,iCB,aX,bX,blW,cB,dLe,du,gP,gK,cb,Option.bind_some,Option.map_some,List.getD_cons_zero,List.map_cons,List.map_nil,List.length_cons,List.length_nil,List.replicate_zero,List.cons_append,List.nil_append,Nat.reduceSub,if_true,Nat.zero_add,lg,e]
mutual
noncomputable def wid:Ru->Bool
 | .sw _=>true
 | .nt r=>wid r
 | .gr _ _ rs=>decide (rs.length<=6) && fk rs
noncomputable def fk:List Ru->Bool
 | []=>true
 | r::rs=>wid r && fk rs
end
mutual
noncomputable def gi:Ru->Prop
 | .sw k=>0<=k/\k < 6
 | .nt r=>gi r
 | .gr _ k rs=>0<=k/\k<=9/\gis rs
noncomputable def gis:List Ru->Prop
 | []=>True
 | r::rs=>gi r/\gis rs
end
mutual
theorem lm:∀ r:Ru,gi r->wid r=true->dP 6 r
 | .sw k,h,_=>by rw [gi] at h;rw [dP];exact h
 | .nt r,h,w=>by rw [gi] at h;rw [wid] at w;rw [dP];exact lm r h w
 | .gr g k rs,h,w=>by
  rw [gi] at h;rw [wid,Bool.and_eq_true] at w;rw [dP]
  exact⟨h.1,h.2.1,of_decide_eq_true w.1,pk rs h.2.2 w.2⟩
theorem pk:∀ rs:List Ru,gis rs->fk rs=true->db 6 rs
 | [],_,_=>by rw [db];trivial
 | r::rs,h,w=>by
  rw [gis] at h;rw [fk,Bool.and_eq_true] at w;rw [db]
  exact⟨lm r h.1 w.1,pk rs h.2 w.2⟩
end
theorem rC:∀ {rs:List Ru},gis rs->∀ r ∈ rs,gi r
 | [],_,r,h=>by cases h
 | x::rs,hg,r,h=>by
  rw [gis] at hg
  rcases List.mem_cons.mp h with rfl | h
  ·exact hg.1
  ·exact rC (rs:=rs) hg.2 r h
noncomputable def oY:Ru->Bool
 | .gr _ _ rs=>decide (rs.length<=6)
 | _=>true
theorem vF {st:Sto}:∀ (r:Ru),gi r->bZ [.d (toD r)] st=some (.d (.bl (oY r)),st)
 | .sw k,hg=>by
  rw [gi] at hg
  rw [toD]
  have hw:=mV (st:=st) (i:=k) (lo:=0) (hi:=5) hg.1 (by lia)
  simp only [bZ,dn,dm,iV,iC,iOp,aG,eO,da,ci,fu,ai,ac,iCB,ar,aE,aM,av,aT,aX,bc,bX,dA,d2,dD,blW,cB,dIx,dIn,cA,dEq,dNe,cM,eqK,eqD,du,gP,gK,dE,cb,fK,di,Option.bind_some,Option.map_some,List.getD_cons_zero,List.getD_cons_succ,List.set_cons_zero,List.set_cons_succ,List.map_cons,List.map_nil,List.length_cons,List.length_nil,List.replicate_succ,List.replicate_zero,List.cons_append,List.nil_append,Nat.reduceAdd,Nat.reduceSub,if_true,if_false,Bool.false_eq_true,Bool.not_true,gZ,oZ,Nat.zero_add,List.all_cons,List.all_nil,Bool.and_self,Bool.or_false,and_self,decide_true,decide_false,lg,Nat.reduceLeDiff,rJ,ne2,ne3,lv,beq_self_eq_true,hw,show (2:Nat)<=1000 by decide,Nat.reduceEqDiff,oY]
 | .nt r,hg=>by
  rw [toD]
  generalize toD r=x
  simp only [bZ,dn,dm,iV,iC,iOp,aG,eO,da,ci,fu,ai,ac,iCB,ar,aE,aM,av,aT,aX,bc,bX,dA,d2,dD,blW,cB,dIx,dIn,cA,dEq,dNe,cM,eqK,eqD,du,gP,gK,dE,cb,fK,di,Option.bind_some,Option.map_some,List.getD_cons_zero,List.getD_cons_succ,List.set_cons_zero,List.set_cons_succ,List.map_cons,List.map_nil,List.length_cons,List.length_nil,List.replicate_succ,List.replicate_zero,List.cons_append,List.nil_append,Nat.reduceAdd,Nat.reduceSub,if_true,if_false,Bool.false_eq_true,Bool.not_true,gZ,oZ,Nat.zero_add,List.all_cons,List.all_nil,Bool.and_self,Bool.or_false,and_self,decide_true,decide_false,lg,Nat.reduceLeDiff,rJ,ne2,ne3,fX,pp,beq_self_eq_true,show (2:Nat)<=1000 by decide,Nat.reduceEqDiff,oY]
 | .gr g k rs,hg=>by
  rw [gi] at hg
  have hr:=zN (st:=st) (ds:=aI rs)
  rw [dq,List.length_map,<-dq] at hr
  show _=some (W.d (.bl (decide (rs.length<=6))),st)
  generalize decide (rs.length<=6)=B at hr ⊢
  have hw:=mV (st:=st) (i:=k) (lo:=0) (hi:=9) hg.1 hg.2.1
  rw [toD]
  generalize aI rs=ds at hr ⊢
  cases g with
  | all=>simp only [grD,bZ,dn,dm,iV,iC,iOp,aG,eO,da,ci,fu,ai,ac,iCB,ar,aE,aM,av,aT,aX,bc,bX,dA,d2,dD,blW,cB,dIx,dIn,cA,dEq,dNe,cM,eqK,eqD,du,gP,gK,dE,cb,fK,di,Option.bind_some,Option.map_some,List.getD_cons_zero,List.getD_cons_succ,List.set_cons_zero,List.set_cons_succ,List.map_cons,List.map_nil,List.length_cons,List.length_nil,List.replicate_succ,List.replicate_zero,List.cons_append,List.nil_append,Nat.reduceAdd,Nat.reduceSub,if_true,if_false,Bool.false_eq_true,Bool.not_true,gZ,oZ,Nat.zero_add,List.all_cons,List.all_nil,Bool.and_self,Bool.or_false,and_self,decide_true,decide_false,lg,rJ,ne2,ne3,jH,nh,kD,zX,hr,show (2:Nat)<=1000 by decide,show (3:Nat)<=1000 by decide,Nat.reduceEqDiff]
  | any=>simp only [grD,bZ,dn,dm,iV,iC,iOp,aG,eO,da,ci,fu,ai,ac,iCB,ar,aE,aM,av,aT,aX,bc,bX,dA,d2,dD,blW,cB,dIx,dIn,cA,dEq,dNe,cM,eqK,eqD,du,gP,gK,dE,cb,fK,di,Option.bind_some,Option.map_some,List.getD_cons_zero,List.getD_cons_succ,List.set_cons_zero,List.set_cons_succ,List.map_cons,List.map_nil,List.length_cons,List.length_nil,List.replicate_succ,List.replicate_zero,List.cons_append,List.nil_append,Nat.reduceAdd,Nat.reduceSub,if_true,if_false,Bool.false_eq_true,Bool.not_true,gZ,oZ,Nat.zero_add,List.all_cons,List.all_nil,Bool.and_self,Bool.or_false,and_self,decide_true,decide_false,lg,rJ,ne2,ne3,jU,mQ,kN,zo,hr,show (2:Nat)<=1000 by decide,show (3:Nat)<=1000 by decide,Nat.reduceEqDiff]
  | odd=>simp only [grD,bZ,dn,dm,iV,iC,iOp,aG,eO,da,ci,fu,ai,ac,iCB,ar,aE,aM,av,aT,aX,bc,bX,dA,d2,dD,blW,cB,dIx,dIn,cA,dEq,dNe,cM,eqK,eqD,du,gP,gK,dE,cb,fK,di,Option.bind_some,Option.map_some,List.getD_cons_zero,List.getD_cons_succ,List.set_cons_zero,List.set_cons_succ,List.map_cons,List.map_nil,List.length_cons,List.length_nil,List.replicate_succ,List.replicate_zero,List.cons_append,List.nil_append,Nat.reduceAdd,Nat.reduceSub,if_true,if_false,Bool.false_eq_true,Bool.not_true,gZ,oZ,Nat.zero_add,List.all_cons,List.all_nil,Bool.and_self,Bool.or_false,and_self,decide_true,decide_false,lg,rJ,ne2,ne3,jp,mZ,kM,y0,hr,show (2:Nat)<=1000 by decide,show (3:Nat)<=1000 by decide,Nat.reduceEqDiff]
  | least=>simp only [grD,bZ,dn,dm,iV,iC,iOp,aG,eO,da,ci,fu,ai,ac,iCB,ar,aE,aM,av,aT,aX,bc,bX,dA,d2,dD,blW,cB,dIx,dIn,cA,dEq,dNe,cM,eqK,eqD,du,gP,gK,dE,cb,fK,di,Option.bind_some,Option.map_some,List.getD_cons_zero,List.getD_cons_succ,List.set_cons_zero,List.set_cons_succ,List.map_cons,List.map_nil,List.length_cons,List.length_nil,List.replicate_succ,List.replicate_zero,List.cons_append,List.nil_append,Nat.reduceAdd,Nat.reduceSub,if_true,if_false,Bool.false_eq_true,Bool.not_true,gZ,oZ,Aa,Nat.zero_add,List.all_cons,List.all_nil,Bool.and_self,Bool.or_true,and_self,decide_true,decide_false,lg,rJ,ne3,hr,hw,beq_self_eq_true,show (2:Nat)<=1000 by decide,show (3:Nat)<=1000 by decide,Nat.reduceEqDiff]
theorem sZ {st:Sto}{k:Int}:bU [.d (.tup [.str "switch",.int k])] st=some (.d (.tup []),st):=by
 simp only [bU,dk,iV,iC,iOp,aG,iUn,ai,ac,aE,aM,av,aX,bc,bX,d2,dD,dEq,cM,eqK,eqD,iu,Option.bind_some,Option.map_some,List.getD_cons_zero,List.map_cons,List.map_nil,List.length_cons,List.length_nil,List.replicate_zero,List.cons_append,List.nil_append,Nat.reduceSub,if_true,Nat.zero_add,lg,Int.reduceNeg,ix0,beq_self_eq_true,show (0:Nat)<=1000 by decide]
theorem uL {st:Sto}{x:D}:bU [.d (.tup [.str "not",x])] st=some (.d (.tup [x]),st):=by
 simp only [bU,dk,iV,iC,iOp,aG,iUn,ai,ac,aE,aM,av,aX,bc,bX,d2,dD,dEq,cM,eqK,eqD,iu,Option.bind_some,Option.map_some,List.getD_cons_zero,List.map_cons,List.map_nil,List.length_cons,List.length_nil,List.replicate_zero,List.cons_append,List.nil_append,Nat.reduceSub,if_true,if_false,Bool.false_eq_true,Nat.zero_add,lg,Nat.zero_le,Int.reduceNeg,ix0,ix1,fX,beq_self_eq_true,show (1:Nat)<=1000 by decide]
theorem tF {st:Sto}{g:Gw}{k:Int}{ds:List D}:bU [.d (grD g k ds)] st=some (.d (.tup ds),st):=by
 cases g with
 | all=>simp only [grD,bU,dk,iV,iC,iOp,aG,iUn,ai,ac,aE,aM,av,aX,bc,bX,d2,dD,dEq,cM,eqK,eqD,iu,Option.bind_some,Option.map_some,List.getD_cons_zero,List.map_cons,List.map_nil,List.length_cons,List.length_nil,List.replicate_zero,List.cons_append,List.nil_append,Nat.reduceSub,if_true,if_false,Bool.false_eq_true,Nat.zero_add,lg,Nat.zero_le,Int.reduceNeg,ix0,so,jH,nh]
 | any=>simp only [grD,bU,dk,iV,iC,iOp,aG,iUn,ai,ac,aE,aM,av,aX,bc,bX,d2,dD,dEq,cM,eqK,eqD,iu,Option.bind_some,Option.map_some,List.getD_cons_zero,List.map_cons,List.map_nil,List.length_cons,List.length_nil,List.replicate_zero,List.cons_append,List.nil_append,Nat.reduceSub,if_true,if_false,Bool.false_eq_true,Nat.zero_add,lg,Nat.zero_le,Int.reduceNeg,ix0,so,jU,mQ]
 | odd=>simp only [grD,bU,dk,iV,iC,iOp,aG,iUn,ai,ac,aE,aM,av,aX,bc,bX,d2,dD,dEq,cM,eqK,eqD,iu,Option.bind_some,Option.map_some,List.getD_cons_zero,List.map_cons,List.map_nil,List.length_cons,List.length_nil,List.replicate_zero,List.cons_append,List.nil_append,Nat.reduceSub,if_true,if_false,Bool.false_eq_true,Nat.zero_add,lg,Nat.zero_le,Int.reduceNeg,ix0,so,jp,mZ]
 | least=>simp only [grD,bU,dk,iV,iC,iOp,aG,iUn,ai,ac,aE,aM,av,aX,bc,bX,d2,dD,dEq,cM,eqK,eqD,iu,Option.bind_some,Option.map_some,List.getD_cons_zero,List.map_cons,List.map_nil,List.length_cons,List.length_nil,List.replicate_zero,List.cons_append,List.nil_append,Nat.reduceSub,if_true,if_false,Bool.false_eq_true,Nat.zero_add,lg,Nat.zero_le,Int.reduceNeg,ix0,Ab,lu,pr]
noncomputable def cR (r:Ru):D:=if wid r=true then .int (cnt r) else .non
theorem wb (s:Sto) (i:Int):jk s (.d (.int i)) (.d .non)=some (.bl false):=rfl
theorem jz (s:Sto):jk s (.d .non) (.d .non)=some (.bl true):=rfl
theorem o0 {st:Sto}{self:Fn}{x:Option W}{n:Nat}:∀ (rs:List Ru) (c:Int) (o3 o4:Option W),(∀ r ∈ rs,self [.d (toD r),.d (.int n)] st=some (.d (cR r),st))->
  (fk rs=true/\∃ o3' o4',fS (.nm 3) (cD self) (aI rs) [x,some (.d (.int ((n:Int)+1))),some (.d (.int c)),o3,o4] st=some (.nx [x,some (.d (.int ((n:Int)+1))),some (.d (.int (c+cq rs))),o3',o4'] st))\/
  (fk rs=false/\fS (.nm 3) (cD self) (aI rs) [x,some (.d (.int ((n:Int)+1))),some (.d (.int c)),o3,o4] st=some (.rt (.d .non) st))
 | [],c,o3,o4,_=>.inl ⟨by rw [fk],o3,o4,by rw [aI,cq,Int.add_zero];rfl⟩
 | r::rs,c,o3,o4,h=>by
  have hd:=h r List.mem_cons_self
  have en:(n:Int)+1 - 1=(n:Int):=by lia
  have hcall:∀ y,ar self (ac (iV 3) (ac (iOp cS (iV 1) (iC (.int 1))) ai)) [x,some (.d (.int ((n:Int)+1))),some (.d (.int c)),some (.d (toD r)),y] st=some (.d (cR r),st):=λy=>by
   refine aR (aq rfl (aq (aF rfl rfl (show cS st _ _=_ from rfl)) rfl)) ?_
   rw [en];exact hd
  cases hw:wid r with
  | false=>
   refine .inr ⟨by rw [fk,hw];rfl,?_⟩
   have ec:cR r=.non:=by unfold cR;rw [hw];rfl
   rw [ec] at hcall
   have hb:cD self [x,some (.d (.int ((n:Int)+1))),some (.d (.int c)),some (.d (toD r)),o4] st=some (.rt (.d .non) st):=
    aA (bH (hcall o4)) (dj (dS (bg rfl rfl (jz st)) rfl))
   rw [aI]
   unfold fS
   show (cD self [x,some (.d (.int ((n:Int)+1))),some (.d (.int c)),some (.d (toD r)),o4] st).bind _=_
   rw [hb];rfl
  | true=>
   have ec:cR r=.int (cnt r):=by unfold cR;rw [hw];rfl
   rw [ec] at hcall
   have hb:cD self [x,some (.d (.int ((n:Int)+1))),some (.d (.int c)),some (.d (toD r)),o4] st=some (.nx [x,some (.d (.int ((n:Int)+1))),some (.d (.int (c+cnt r))),some (.d (toD r)),some (.d (.int (cnt r)))] st):=
    aA (bH (hcall o4)) (aA (ba (bg rfl rfl (wb st _)) rfl) (bH (aF rfl rfl rfl)))
   have hf:fS (.nm 3) (cD self) (aI (r::rs)) [x,some (.d (.int ((n:Int)+1))),some (.d (.int c)),o3,o4] st=fS (.nm 3) (cD self) (aI rs) [x,some (.d (.int ((n:Int)+1))),some (.d (.int (c+cnt r))),some (.d (toD r)),some (.d (.int (cnt r)))] st:=by
    rw [aI]
    conv=>lhs;unfold fS
    show (cD self [x,some (.d (.int ((n:Int)+1))),some (.d (.int c)),some (.d (toD r)),o4] st).bind _=_
    rw [hb];rfl
   rcases o0 (x:=x) (n:=n) rs (c+cnt r) (some (.d (toD r))) (some (.d (.int (cnt r)))) λq hq=>h q (List.mem_cons_of_mem _ hq) with⟨h1,p3,p4,e⟩ | ⟨h1,e⟩
   ·refine .inl ⟨by rw [fk,hw,h1];rfl,p3,p4,?_⟩
    rw [hf,e,cq,Int.add_assoc]
   ·exact .inr ⟨by rw [fk,hw,h1];rfl,by rw [hf,e]⟩
theorem n8 {st:Sto}{n:Nat}{r:Ru}{rs:List Ru} (hf:bZ [.d (toD r)] st=some (.d (.bl (oY r)),st)) (hp:bU [.d (toD r)] st=some (.d (.tup (aI rs)),st)) (hw:wid r=(oY r && fk rs)) (hc:cnt r=1+cq rs)
  (ih:∀ q ∈ rs,bS (n+1) [.d (toD q),.d (.int n)] st=some (.d (cR q),st)):bS (n+1+1) [.d (toD r),.d (.int ((n+1:Nat):Int))] st=some (.d (cR r),st):=by
 have ec:((n+1:Nat):Int)=(n:Int)+1:=by push_cast;rfl
 have e0:(((n:Int)+1)==0)=false:=beq_eq_false_iff_ne.mpr (by lia)
 rw [ec]
 have t0:ci (aG dEq (iV 1) (iC (.int 0))) (da (fu fK (ar bZ (ac (iV 0) ai)))) [some (.d (toD r)),some (.d (.int ((n:Int)+1))),none,none,none] st=some (!oY r,st):=by
  have h1:aG dEq (iV 1) (iC (.int 0)) [some (.d (toD r)),some (.d (.int ((n:Int)+1))),none,none,none] st=some (false,st):=bg rfl rfl (by rw [ni,e0])
  have h2:ar bZ (ac (iV 0) ai) [some (.d (toD r)),some (.d (.int ((n:Int)+1))),none,none,none] st=some (.d (.bl (oY r)),st):=aR rfl hf
  simp only [ci,h1,da,fu,h2,Option.bind_some,fK,Option.map_some,Bool.false_eq_true,if_false]
 cases ht:oY r with
 | false=>
  rw [ht] at t0 hw
  have er:cR r=.non:=by unfold cR;rw [hw];rfl
  rw [er]
  exact cJ (n:=5) (k:=2) (b:=fD (bS (n+1))) rfl (dj (dS t0 rfl))
 | true=>
  rw [ht] at t0 hw
  have e1:∀ a b c,cf (ar bU (ac (iV 0) ai)) [some (.d (toD r)),a,b,c,none] st=some (aI rs,st):=λa b c=>mI (aR rfl hp)
  rcases o0 (st:=st) (self:=bS (n+1)) (x:=some (.d (toD r))) (n:=n) rs 1 none none ih with⟨h1,p3,p4,e⟩ | ⟨h1,e⟩
  ·have er:cR r=.int (1+cq rs):=by unfold cR;rw [hw,h1,hc];rfl
   rw [er]
   exact cJ (n:=5) (k:=2) (b:=fD (bS (n+1))) rfl (aA (ba t0 rfl) (aA (bH rfl) (aA (gF (e1 _ _ _) e) (bL rfl))))
  ·have er:cR r=.non:=by unfold cR;rw [hw,h1];rfl
   rw [er]
   exact cJ (n:=5) (k:=2) (b:=fD (bS (n+1))) rfl (aA (ba t0 rfl) (aA (bH rfl) (dj (gF (e1 _ _ _) e))))
theorem qB {st:Sto}:∀ (n:Nat) (r:Ru),dep r<=n->gi r->bS (n+1) [.d (toD r),.d (.int n)] st=some (.d (cR r),st)
 | 0,r,h,_=>by have:=n5 r;lia
 | n+1,r,hd,hg=>by
  have hf:=vF (st:=st) r hg
  cases r with
  | sw k=>
   refine n8 (rs:=[]) hf ?_ rfl (by rw [cnt,cq];rfl) λq hq=>nomatch hq
   rw [toD,aI];exact sZ
  | nt q=>
   rw [gi] at hg
   rw [dep] at hd
   refine n8 (rs:=[q]) hf ?_ (by rw [wid,fk,fk];show _=(true && (_ && true));simp) (by rw [cnt,cq,cq];lia) λp hp=>by rw [List.mem_singleton.mp hp];exact qB n q (by lia) hg
   rw [toD,aI,aI];exact uL
  | gr g k rs=>
   rw [gi] at hg
   rw [dep] at hd
   refine n8 (rs:=rs) hf ?_ (by rw [wid];rfl) (by rw [cnt]) λp hp=>qB n p (jF (by lia) p hp) (rC hg.2.2 p hp)
   rw [toD];exact tF
theorem uC {st:Sto}{r:Ru} (hd:dep r<=6) (hg:gi r):fq [.d (toD r)] st=some (.d (.bl (wid r && decide (cnt r<=40))),st):=by
 have e:bS 7 [.d (toD r),.d (.int 6)] st=some (.d (cR r),st):=qB 6 r hd hg
 refine cJ (n:=2) (k:=1) (b:=iP) rfl (aA (bH (aR rfl e)) (bL ?_))
 unfold cR
 cases wid r with
 | false=>rfl
 | true=>
  show eO (iOp rj (iV 1) (iC .non)) (iOp dLe (iV 1) (iC (.int 40))) [some (.d (toD r)),some (.d (.int (cnt r)))] st=_
  simp only [iV,iC,iOp,eO,blW,dLe,rj,qM,Option.bind_some,Option.map_some,List.getD_cons_zero,List.getD_cons_succ,if_true,Bool.not_false,Bool.true_and]
theorem uk {te:Ef}{l:Ev}{st:Sto} (F:Ru->D):∀ {rs:List Ru},(∀ r ∈ rs,te (some (.d (toD r))::l) st=some (.d (F r),st))->lcI (.nm 0) fj te (none::l) (aI rs) st=some (rs.map F,st)
 | [],_=>by rw [aI];rfl
 | r::rs,h=>by
  have ih:=uk (te:=te) (l:=l) (st:=st) F (rs:=rs) λx hx=>h x (List.mem_cons_of_mem _ hx)
  have h1:=h r List.mem_cons_self
  rw [aI,List.map_cons]
  unfold lcI
  rw [show dA (.nm 0) (.d (toD r)) (none::l)=some (some (.d (toD r))::l) from rfl,Option.bind_some,show fj (some (.d (toD r))::l) st=some (true,st) from rfl,Option.bind_some,if_pos rfl,h1,Option.bind_some,ih];rfl
end Own
end
section
set_option maxHeartbeats 1000000
namespace Own
open PySem L2
noncomputable def hdC (c:Nat):Option (Gw×Int):=if c=38 then some (.all,0) else if c=124 then some (.any,0) else if c=94 then some (.odd,0) else if 48<=c/\c<=57 then some (.least,((c - 48:Nat):Int)) else none
abbrev Ps:=List Nat->Option (Ru×Nat)
noncomputable def pL (self:Ps):Nat->List Nat->Option (List Ru×Nat)
 | 0,_=>none
 | m+1,T=>match self T with
  | none=>none
  | some x=>match T.drop x.2 with
   | []=>none
   | c::u=>if c=32 then (pL self m u).map λy=>(x.1::y.1,x.2+1+y.2) else if c=41 then some ([x.1],x.2+1) else none
noncomputable def pB (self:Ps) (m:Nat) (T:List Nat):Option (List Ru×Nat):=
 if T.take 2=[40,41] then some ([],2) else if T.take 1=[40] then (pL self m (T.drop 1)).map λy=>(y.1,y.2+1) else none
noncomputable def pR (m:Nat):Nat->Ps
 | 0,_=>none
 | _+1,[]=>none
 | d+1,c::t=>if 97<=c/\c<=102 then some (.sw ((c - 97:Nat):Int),1) else if c=33 then (pR m d t).map λx=>(.nt x.1,x.2+1) else match hdC c with
  | none=>none
  | some g=>(pB (pR m d) m t).map λy=>(.gr g.1 g.2 y.1,y.2+1)
theorem sT (m d:Nat):pR m d []=none:=by cases d<;>rfl
theorem xA {c:Nat}{g:Gw×Int} (h:hdC c=some g):0<=g.2/\g.2<=9:=by
 unfold hdC at h
 split at h
 ·cases h;decide
 ·split at h
  ·cases h;decide
  ·split at h
   ·cases h;decide
   ·split at h
    ·cases h;show (0:Int)<=((c - 48:Nat):Int)/\((c - 48:Nat):Int)<=9;lia
    ·cases h
noncomputable def Fct (d:Nat) (T:List Nat) (x:Ru×Nat):Prop:=dep x.1<=d/\gi x.1/\1<=x.2/\x.2<=T.length
noncomputable def Ae (d:Nat) (T:List Nat) (y:List Ru×Nat):Prop:=d7 y.1<=d/\gis y.1/\y.2<=T.length
theorem fJ {T:List Nat}{n c:Nat}{u:List Nat} (h:T.drop n=c::u):n+1+u.length=T.length:=by
 have e:(T.drop n).length=u.length+1:=by rw [h];rfl
 rw [List.length_drop] at e
 lia
theorem pZ {self:Ps}{d:Nat} (hs:∀ T x,self T=some x->Fct d T x):∀ (m:Nat) (T:List Nat) (y:List Ru×Nat),pL self m T=some y->Ae d T y/\y.1≠[]
 | 0,T,y,h=>by cases h
 | m+1,T,y,h=>by
  unfold pL at h
  cases hx:self T with
  | none=>rw [hx] at h;cases h
  | some x=>
   rw [hx] at h
   dsimp only at h
   obtain⟨f1,f2,f3,f4⟩:=hs T x hx
   cases hd:T.drop x.2 with
   | nil=>rw [hd] at h;cases h
   | cons c u=>
    rw [hd] at h
    dsimp only at h
    have hl:=fJ hd
    by_cases h1:c=32
    ·rw [if_pos h1] at h
     obtain⟨y',hy,rfl⟩:=Option.map_eq_some_iff.mp h
     obtain⟨⟨g1,g2,g3⟩,_⟩:=pZ hs m u y' hy
     refine⟨⟨?_,?_,?_⟩,by simp⟩
     ·show d7 (x.1::y'.1)<=d;rw [d7];lia
     ·show gis (x.1::y'.1);rw [gis];exact⟨f2,g2⟩
     ·show x.2+1+y'.2<=T.length;lia
    ·rw [if_neg h1] at h
     by_cases h2:c=41
     ·rw [if_pos h2] at h
      cases h
      refine⟨⟨?_,?_,?_⟩,by simp⟩
      ·show d7 [x.1]<=d;rw [d7,d7];lia
      ·show gis [x.1];rw [gis,gis];exact⟨f2,trivial⟩
      ·show x.2+1<=T.length;lia
     ·rw [if_neg h2] at h;cases h
theorem xD {self:Ps}{d:Nat} (hs:∀ T x,self T=some x->Fct d T x) {m:Nat}{T:List Nat}{y:List Ru×Nat} (h:pB self m T=some y):Ae d T y:=by
 unfold pB at h
 by_cases h1:T.take 2=[40,41]
 ·rw [if_pos h1] at h
  cases h
  have:(T.take 2).length=2:=by rw [h1];rfl
  rw [List.length_take] at this
  exact⟨by show d7 []<=d;rw [d7];lia,by show gis [];rw [gis];trivial,by show 2<=T.length;lia⟩
 ·rw [if_neg h1] at h
  by_cases h2:T.take 1=[40]
  ·rw [if_pos h2] at h
   obtain⟨y',hy,rfl⟩:=Option.map_eq_some_iff.mp h
   obtain⟨⟨g1,g2,g3⟩,_⟩:=pZ hs m _ y' hy
   have:(T.take 1).length=1:=by rw [h2];rfl
   rw [List.length_take] at this
   rw [List.length_drop] at g3
   exact⟨g1,g2,by show y'.2+1<=T.length;lia⟩
  ·rw [if_neg h2] at h;cases h
theorem iz (m:Nat):∀ (d:Nat) (T:List Nat) (x:Ru×Nat),pR m d T=some x->Fct d T x
 | 0,T,x,h=>by cases h
 | d+1,[],x,h=>by cases h
 | d+1,c::t,x,h=>by
  unfold pR at h
  by_cases h1:97<=c/\c<=102
  ·rw [if_pos h1] at h
   cases h
   refine⟨?_,?_,Nat.le_refl _,by show 1<=(c::t).length;rw [List.length_cons];lia⟩
   ·show dep (.sw _)<=d+1;rw [dep];lia
   ·show gi (.sw ((c - 97:Nat):Int));rw [gi];lia
  ·rw [if_neg h1] at h
   by_cases h2:c=33
   ·rw [if_pos h2] at h
    obtain⟨x',hx,rfl⟩:=Option.map_eq_some_iff.mp h
    obtain⟨f1,f2,f3,f4⟩:=iz m d t x' hx
    refine⟨?_,?_,?_,?_⟩
    ·show dep (.nt x'.1)<=d+1;rw [dep];lia
    ·show gi (.nt x'.1);rw [gi];exact f2
    ·show 1<=x'.2+1;lia
    ·show x'.2+1<=(c::t).length;rw [List.length_cons];lia
   ·rw [if_neg h2] at h
    cases hg:hdC c with
    | none=>rw [hg] at h;cases h
    | some g=>
     rw [hg] at h
     obtain⟨y,hy,rfl⟩:=Option.map_eq_some_iff.mp h
     obtain⟨g1,g2,g3⟩:=xD (iz m d) hy
     have:=xA hg
     refine⟨?_,?_,?_,?_⟩
     ·show dep (.gr g.1 g.2 y.1)<=d+1;rw [dep];lia
     ·show gi (.gr g.1 g.2 y.1);rw [gi];exact⟨this.1,this.2,g2⟩
     ·show 1<=y.2+1;lia
     ·show y.2+1<=(c::t).length;rw [List.length_cons];lia
noncomputable def ku (x:Ru×Nat):Option (Ru×Nat):=if wid x.1=true then some x else none
noncomputable def gW (k:Nat) (y:List Ru×Nat):Option (List Ru×Nat):=if (decide (y.1.length<=k) && fk y.1)=true then some y else none
theorem uN {sx sM:Ps}{d:Nat} (h0:sM []=none) (hs:∀ T x,sM T=some x->Fct d T x):∀ (M:Nat) (k:Nat) (T:List Nat),(∀ U,U.length<=T.length->sx U=(sM U).bind ku)->T.length<=M->pL sx k T=(pL sM M T).bind (gW k)
 | 0,k,T,hx,hl=>by
  have:T=[]:=List.length_eq_zero_iff.mp (by lia)
  subst this
  cases k with
  | zero=>rfl
  | succ k=>
   show pL sx (k+1) []=_
   unfold pL
   rw [hx [] (Nat.le_refl _),h0];rfl
 | M+1,0,T,hx,hl=>by
  show none=_
  cases hy:pL sM (M+1) T with
  | none=>rfl
  | some y=>
   obtain⟨_,hne⟩:=pZ hs (M+1) T y hy
   show none=gW 0 y
   unfold gW
   have:0 < y.1.length:=List.length_pos_iff.mpr hne
   rw [decide_eq_false (by lia)];rfl
 | M+1,k+1,T,hx,hl=>by
  unfold pL
  rw [hx T (Nat.le_refl _)]
  cases hm:sM T with
  | none=>rfl
  | some x=>
   obtain⟨f1,f2,f3,f4⟩:=hs T x hm
   show (match ku x with | none=>none | some x=>_)=_
   unfold ku
   cases hw:wid x.1 with
   | false=>
    show none=_
    dsimp only
    cases hd:T.drop x.2 with
    | nil=>rfl
    | cons c u=>
     dsimp only
     by_cases h1:c=32
     ·rw [if_pos h1]
      cases pL sM M u with
      | none=>rfl
      | some y=>
       show none=gW (k+1) (x.1::y.1,_)
       unfold gW
       show none=if (_ && fk (x.1::y.1))=true then _ else _
       rw [fk,hw];simp
     ·rw [if_neg h1]
      by_cases h2:c=41
      ·rw [if_pos h2]
       show none=gW (k+1) ([x.1],_)
       unfold gW
       show none=if (_ && fk [x.1])=true then _ else _
       rw [fk,hw];simp
      ·rw [if_neg h2];rfl
   | true=>
    dsimp only
    rw [if_pos rfl]
    dsimp only
    cases hd:T.drop x.2 with
    | nil=>rfl
    | cons c u=>
     have hl2:=fJ hd
     dsimp only
     by_cases h1:c=32
     ·rw [if_pos h1,if_pos h1,uN h0 hs M k u (λU hU=>hx U (by lia)) (by lia)]
      cases pL sM M u with
      | none=>rfl
      | some y=>
       show (gW k y).map _=gW (k+1) (x.1::y.1,x.2+1+y.2)
       unfold gW
       show _=if (decide ((x.1::y.1).length<=k+1) && fk (x.1::y.1))=true then _ else _
       rw [fk,hw,List.length_cons,Bool.true_and,show decide (y.1.length+1<=k+1)=decide (y.1.length<=k) by rw [Bool.eq_iff_iff];simp]
       cases (decide (y.1.length<=k) && fk y.1)<;>rfl
     ·rw [if_neg h1,if_neg h1]
      by_cases h2:c=41
      ·rw [if_pos h2]
       show _=gW (k+1) ([x.1],x.2+1)
       unfold gW
       show _=if (decide ([x.1].length<=k+1) && fk [x.1])=true then _ else _
       rw [fk,fk,hw];simp
      ·rw [if_neg h2];rfl
theorem qq (M:Nat):∀ (d:Nat) (T:List Nat),T.length<=M->pR 6 d T=(pR M d T).bind ku
 | 0,T,_=>rfl
 | d+1,[],_=>rfl
 | d+1,c::t,hl=>by
  rw [List.length_cons] at hl
  unfold pR
  by_cases h1:97<=c/\c<=102
  ·rw [if_pos h1,if_pos h1];show _=ku _;unfold ku;show _=if wid (.sw _)=true then _ else _;rw [wid];rfl
  ·rw [if_neg h1,if_neg h1]
   by_cases h2:c=33
   ·rw [if_pos h2,if_pos h2,qq M d t (by lia)]
    cases pR M d t with
    | none=>rfl
    | some x=>
     show (ku x).map _=ku (.nt x.1,x.2+1)
     unfold ku
     show _=if wid (.nt x.1)=true then _ else _
     rw [wid]
     cases wid x.1<;>rfl
   ·rw [if_neg h2,if_neg h2]
    cases hdC c with
    | none=>rfl
    | some g=>
     dsimp only
     have e:pB (pR 6 d) 6 t=(pB (pR M d) M t).bind (gW 6):=by
      unfold pB
      by_cases h3:t.take 2=[40,41]
      ·rw [if_pos h3,if_pos h3];show _=gW 6 ([],2);unfold gW;show _=if (_ && fk [])=true then _ else _;rw [fk];rfl
      ·rw [if_neg h3,if_neg h3]
       by_cases h4:t.take 1=[40]
       ·rw [if_pos h4,if_pos h4,uN (sT M d) (iz M d) M 6 (t.drop 1) (λU hU=>qq M d U (by rw [List.length_drop] at hU;lia)) (by rw [List.length_drop];lia)]
        cases pL (pR M d) M (t.drop 1) with
        | none=>rfl
        | some y=>
         show (gW 6 y).map _=gW 6 (y.1,y.2+1)
         unfold gW
         dsimp only
         cases (decide (y.1.length<=6) && fk y.1)<;>rfl
       ·rw [if_neg h4,if_neg h4];rfl
     rw [e]
     cases pB (pR M d) M t with
     | none=>rfl
     | some y=>
      show (gW 6 y).map _=ku (.gr g.1 g.2 y.1,y.2+1)
      unfold ku gW
      show _=if wid (.gr g.1 g.2 y.1)=true then _ else _
      rw [wid]
      cases (decide (y.1.length<=6) && fk y.1)<;>rfl
end Own
end
section
set_option maxHeartbeats 1000000
namespace Own
open PySem L2
theorem qh {T:List Nat}{p k:Nat}:jX (S T) (some (p:Int)) (some (((p+k:Nat):Int)))=S ((T.drop p).take k):=by
 unfold jX
 rw [gY,qx]
 have h1:HT.sIx T.length 0 (some (p:Int))=min p T.length:=by unfold HT.sIx;split<;>lia
 have h2:HT.sIx T.length T.length (some ((p+k:Nat):Int))=min (p+k) T.length:=by unfold HT.sIx;split<;>lia
 rw [h1,h2]
 show S _=S _
 congr 1
 by_cases hp:p<=T.length
 ·rw [Nat.min_eq_left hp]
  by_cases hk:p+k<=T.length
  ·rw [Nat.min_eq_left hk,Nat.add_sub_cancel_left]
  ·rw [Nat.min_eq_right (by lia),List.take_of_length_le (by rw [List.length_drop];lia),List.take_of_length_le (by rw [List.length_drop];lia)]
 ·have e1:min p T.length=T.length:=by lia
  have e2:min (p+k) T.length=T.length:=by lia
  rw [e1,e2,List.drop_length,List.drop_eq_nil_of_le (by lia)];simp
theorem qsl {T:List Nat}{p k:Nat}{c:List Nat}{env:Ev}{st:Sto}{f lo hi:Ef} (hT:T.length<=1000) (hf:f env st=some (.d (.str (S T)),st)) (hlo:lo env st=some (.d (.int (p:Int)),st)) (hhi:hi env st=some (.d (.int ((p:Int)+(k:Int))),st)) (hc:(T.drop p).take k=c) :
  cQ f (iPs lo) (iPs hi) env st=some (.d (.str (S c)),st):=by
 have hz:(S T).length<=1000000:=by rw [gY];lia
 have e:((p:Int)+(k:Int))=((p+k:Nat):Int):=by push_cast;rfl
 rw [e] at hhi
 simp only [cQ,iPs,hf,hlo,hhi,Option.bind_some,Option.map_some,xL,hz,if_true,qh,hc]
theorem yc:∀ c,c < 128->inD (.str (S [c])) (sj "abcdef")=decide (97<=c/\c<=102):=by decide +kernel
theorem xQ:∀ c,c < 128->inD (.str (S [c])) (sj "0123456789")=decide (48<=c/\c<=57):=by decide +kernel
theorem pK:∀ k,k < 6->Txt.find "abcdef" (S [97+k])=(k:Int):=by decide +kernel
theorem uK:∀ k,k < 10->Txt.find "0123456789" (S [48+k])=(k:Int):=by decide +kernel
theorem qin {g:List D}{w:Str}{c:Nat}{b:Bool}{f:Ef}{env:Ev}{st:Sto} (hw:dO st [.d (.str w)]=some g) (hg:g.all di=true) (hf:f env st=some (.d (.str (S [c])),st)) (h:inD (.str (S [c])) g=b):aG dIn f (aJ (iCL dO (ac (iC (.str w)) ai))) env st=some (b,st):=by
 have e:aJ (iCL dO (ac (iC (.str w)) ai)) env st=some (.d (.lst g),st):=dv (by simp only [iCL,ac,iC,ai,Option.bind_some,Option.map_some,hw])
 refine bg hf e ?_
 simp only [dIn,cB,di,hg,Option.bind_some,and_self,if_true,h]
theorem rg (s:Sto):dO s [.d (.str "abcdef")]=some (sj "abcdef"):=rfl
theorem wm (s:Sto):dO s [.d (.str "0123456789")]=some (sj "0123456789"):=rfl
theorem tj {w:Str}{c:Nat}{i:Int}{f:Ef}{env:Ev}{st:Sto} (hf:f env st=some (.d (.str (S [c])),st)) (h:Txt.find w (S [c])=i):iTm iN (iC (.str w)) (ac f ai) env st=some (.d (.int i),st):=by
 simp only [iTm,iC,ac,ai,hf,Option.bind_some,Option.map_some,iN,h]
theorem AC {kvs:List (Str×D)}{f:Ef}{env:Ev}{st:Sto}{z:Str}{b:Bool} (hf:f env st=some (.d (.str z),st)) (h:(atS z kvs).isSome=b):lQ false kvs f env st=some (b,st):=by
 simp only [lQ,hf,Option.bind_some,h,Bool.false_bne]
theorem gU {a:Af}{env:Ev}{st s:Sto}{ws:List W}{ds:List D} (ha:a env st=some (ws,s)) (h:d2 ws=some ds) (hl:ds.length<=1000):aE a env st=some (.d (.tup ds),s):=by
 simp only [aE,ha,Option.bind_some,h,hl,if_true]
noncomputable def fm (g:Gw) (k:Int):List D:=match g with | .least=>[.str "least",.int k] | g=>[.str g.wd]
theorem sX (g:Gw) (k:Int) (ds:List D):D.tup (fm g k++[.tup ds])=grD g k ds:=by cases g<;>rfl
theorem Ay {o a:Ef}{env:Ev}{st s1 s2:Sto}{n:Nat}{d:D}{ds0 ds:List D} (ho:o env st=some (.h n,s1)) (ha:a env s1=some (.d d,s2)) (h0:lg s1 n=some ds0) (hg:lg s2 n=some ds) (hz:ds.length < 1000000):iB (iq d9 o (ac a ai)) env st=some (.nx env (s2.set n (.l (ds++[d])))):=by
 have hc:=aq (b:=ai) ha rfl
 simp only [iB,iq,ho,hc,h0,hg,d9,hz,if_true,Option.bind_some,Option.map_some]
theorem vb (st:Sto) (a b:C):(st++[a]).set st.length b=st++[b]:=by
 rw [List.set_append];simp
theorem yX {kvs:List (Str×D)}{f:Ef}{env:Ev}{st s:Sto}{z:Str}{d:D} (h:f env st=some (.d (.str z),s)) (ha:atS z kvs=some d):sB kvs f env st=some (.d d,s):=by
 simp only [sB,h,Option.bind_some,ha,Option.map_some]
theorem eqS (s:Sto) (a b:List Nat):dEq s (.d (.str (S a))) (.d (.str (S b)))=some (.bl (decide (a=b))):=by
 rw [xm,re]
theorem neS (s:Sto) (a b:List Nat):dNe s (.d (.str (S a))) (.d (.str (S b)))=some (.bl (!decide (a=b))):=by
 show some (D.bl (!(S a==S b)))=_
 rw [re]
theorem ut:∀ c,c < 128->(atS (S [c]) [("&",(D.str "all")),("|",(.str "any")),("^",(.str "odd"))]).isSome=decide (c=38\/c=124\/c=94):=by decide +kernel
theorem vo {c:Nat}{st:Sto} (hc:c < 128):(∃ g,hdC c=some g/\dy [.d (.str (S [c]))] st=some (.d (.tup (fm g.1 g.2)),st)/\fE [.d (.str (S [c]))] st=none)\/(hdC c=none/\dy [.d (.str (S [c]))] st=none/\fE [.d (.str (S [c]))] st=some st):=by
 have run:∀ r,iX [some (.d (.str (S [c])))] st=r->dy [.d (.str (S [c]))] st=r.bind λr=>match r with | .nx _ s=>some (.d .non,s) | .rt w s=>some (w,s) | _=>none:=λr h=>by rw [<-h];rfl
 have runx:∀ r,ic [some (.d (.str (S [c])))] st=r->fE [.d (.str (S [c]))] st=r.map λs=>s.take st.length:=λr h=>by rw [<-h];rfl
 have w:=ut c hc
 have w1:lQ false [("&",(D.str "all")),("|",(.str "any")),("^",(.str "odd"))] (iV 0) [some (.d (.str (S [c])))] st=some (decide (c=38\/c=124\/c=94),st):=AC rfl w
 by_cases h1:c=38\/c=124\/c=94
 ·rw [decide_eq_true h1] at w1
  have key:∀ g,hdC c=some g->atS (S [c]) [("&",(D.str "all")),("|",(.str "any")),("^",(.str "odd"))]=some (.str g.1.wd)->fm g.1 g.2=[.str g.1.wd]->(∃ g,hdC c=some g/\dy [.d (.str (S [c]))] st=some (.d (.tup (fm g.1 g.2)),st)/\fE [.d (.str (S [c]))] st=none):=λg hg ha hh=>
   ⟨g,hg,by rw [hh];exact run _ (dj (dS w1 (bL (gU (aq (yX rfl ha) rfl) rfl (by show 1<=1000;decide))))),runx _ (jr rfl (dS w1 (bL (gU (aq (yX rfl ha) rfl) rfl (by show 1<=1000;decide)))))⟩
  left
  rcases h1 with rfl | rfl | rfl
  ·exact key (.all,0) rfl rfl rfl
  ·exact key (.any,0) rfl rfl rfl
  ·exact key (.odd,0) rfl rfl rfl
 ·rw [decide_eq_false h1] at w1
  have n1:¬ c=38:=λz=>h1 (.inl z)
  have n2:¬ c=124:=λz=>h1 (.inr (.inl z))
  have n3:¬ c=94:=λz=>h1 (.inr (.inr z))
  have hin:=xQ c hc
  have w2:aG dIn (iV 0) (aJ (iCL dO (ac (iC (.str "0123456789")) ai))) [some (.d (.str (S [c])))] st=some (decide (48<=c/\c<=57),st):=qin (wm st) (by decide) rfl hin
  by_cases h2:48<=c/\c<=57
  ·rw [decide_eq_true h2] at w2
   have hf:PySem.Txt.find "0123456789" (S [c])=((c - 48:Nat):Int):=by
    have:=uK (c - 48) (by lia)
    rwa [show 48+(c - 48)=c by lia] at this
   have hg:hdC c=some (.least,((c - 48:Nat):Int)):=by unfold hdC;rw [if_neg n1,if_neg n2,if_neg n3,if_pos h2]
   have r1:aX (aE (ac (iC (.str "least")) (ac (iTm iN (iC (.str "0123456789")) (ac (iV 0) ai)) ai))) [some (.d (.str (S [c])))] st=some (.rt (.d (.tup [.str "least",.int ((c - 48:Nat):Int)])) st):=bL (gU (aq rfl (aq (tj rfl hf) rfl)) rfl (by show 2<=1000;decide))
   exact .inl ⟨_,hg,run _ (aA (ba w1 rfl) (dj (dS w2 r1))),runx _ (aO rfl (ba w1 rfl) (jr rfl (dS w2 r1)))⟩
  ·rw [decide_eq_false h2] at w2
   have hg:hdC c=none:=by unfold hdC;rw [if_neg n1,if_neg n2,if_neg n3,if_neg h2]
   refine .inr ⟨hg,run none (aA (ba w1 rfl) (aA (ba w2 rfl) rfl)),?_⟩
   rw [runx (some st) (aO rfl (ba w1 rfl) (aO rfl (ba w2 rfl) rfl))]
   show some (st.take st.length)=_
   rw [List.take_length]
theorem qG {st:Sto}:dy [.d (.str (S []))] st=none/\fE [.d (.str (S []))] st=some st:=by
 refine⟨rfl,?_⟩
 show some (st.take st.length)=_
 rw [List.take_length]
theorem zt {c:Tf}{b:Sf}{m:Nat}{env:Ev}{st s:Sto} (h:c env st=some (false,s)):eu c b (m+1) env st=some (.nx env s):=by
 simp only [eu,h,Option.bind_some,Bool.false_eq_true,if_false]
theorem sK {c:Tf}{b:Sf}{m:Nat}{env e:Ev}{st s s2:Sto}{r:Option Fl} (h:c env st=some (true,s)) (hb:b env s=some (.nx e s2)) (hr:eu c b m e s2=r):eu c b (m+1) env st=r:=by
 simp only [eu,h,Option.bind_some,if_true,hb,hr]
theorem qJ {c:Tf}{b:Sf}{m:Nat}{env:Ev}{st s:Sto} (h:c env st=some (true,s)) (hb:b env s=none):eu c b (m+1) env st=none:=by
 simp only [eu,h,Option.bind_some,if_true,hb,Option.bind_none]
theorem Ai {c:Tf}{b:Sf}{x:Rf}{m:Nat}{env:Ev}{st s:Sto} (h:c env st=some (false,s)):eI c b x (m+1) env st=none:=by
 simp only [eI,h,Option.bind_some,Bool.false_eq_true,if_false]
theorem uI {c:Tf}{b:Sf}{x:Rf}{m:Nat}{env e:Ev}{st s s2:Sto}{r:Option Sto} (h:c env st=some (true,s)) (hx:x env s=none) (hb:b env s=some (.nx e s2)) (hr:eI c b x m e s2=r):eI c b x (m+1) env st=r:=by
 simp only [eI,h,Option.bind_some,if_true,hx,hb,hr]
theorem qT {c:Tf}{b:Sf}{x:Rf}{m:Nat}{env:Ev}{st s s2:Sto} (h:c env st=some (true,s)) (hx:x env s=some s2):eI c b x (m+1) env st=some s2:=by
 simp only [eI,h,Option.bind_some,if_true,hx]
theorem xT (s:Sto) (p:Nat):aP s (.d (.int (p:Int))) (.d (.int 1))=some (.int ((p+1:Nat):Int)):=rfl
theorem An (s:Sto) (p:Nat):aP s (.d (.int (p:Int))) (.d (.int 2))=some (.int ((p+2:Nat):Int)):=rfl
noncomputable def qw (self:Fn) (selfx:Rn) (d:Nat) (P:Ps):Prop:=∀ (T:List Nat) (p:Nat) (st:Sto),(∀ c ∈ T,c < 128)->T.length<=900->
 (∃ x,P (T.drop p)=some x/\self [.d (.str (S T)),.d (.int (p:Int)),.d (.int (d:Int))] st=some (.d (.tup [toD x.1,.int ((p+x.2:Nat):Int)]),st)/\selfx [.d (.str (S T)),.d (.int (p:Int)),.d (.int (d:Int))] st=none)\/
 (P (T.drop p)=none/\self [.d (.str (S T)),.d (.int (p:Int)),.d (.int (d:Int))] st=none/\selfx [.d (.str (S T)),.d (.int (p:Int)),.d (.int (d:Int))] st=some st)
theorem sk (s:Sto) (l:List Nat):cA s (.d (.str (S l))) (.d (.tup [.str " ",.str ")"]))=some (.bl (!(decide (l=[32]) || decide (l=[41])))):=by
 have e:inD (.str (S l)) [.str " ",.str ")"]=(decide (l=[32]) || decide (l=[41])):=by
  show ((S [32]==S l) || ((S [41]==S l) || false))=_
  rw [re,re,Bool.or_false,decide_eq_decide.mpr (eq_comm (a:=[32]) (b:=l)),decide_eq_decide.mpr (eq_comm (a:=[41]) (b:=l))]
 simp only [cA,cB,di,List.all_cons,List.all_nil,Bool.and_self,Option.bind_some,and_self,if_true,e]
theorem nc {s:Sto}{l:List Nat}{env:Ev}{f:Ef} (hf:f env s=some (.d (.str (S l)),s)):aG cA f (aE (ac (iC (.str " ")) (ac (iC (.str ")")) ai))) env s=some (!(decide (l=[32]) || decide (l=[41])),s):=
 bg hf (gU (ds:=[.str " ",.str ")"]) rfl rfl (by show 2<=1000;decide)) (sk s l)
section
variable {self:Fn}{selfx:Rn}{d:Nat}{P:Ps}{T:List Nat}{st:Sto}
abbrev Env (T:List Nat) (d:Nat) (st:Sto) (p:Nat) (a:List Nat) (o:Option W):Ev:=[some (.d (.str (S T))),some (.d (.int (p:Int))),some (.d (.int (d:Int))),some (.d (.str (S a))),some (.h st.length),o]
theorem nK (st:Sto) (ds:List D):lg (st++[.l ds]) st.length=some ds:=by unfold lg;simp
theorem tL (hs:qw self selfx d P) (ha:∀ c ∈ T,c < 128) (hT:T.length<=900) {p:Nat}{a:List Nat}{ds:List D}{o:Option W} (hl:ds.length < 1000000) :
  (P (T.drop (p+1))=none/\bM self (Env T d st p a o) (st++[.l ds])=none/\bT self selfx (Env T d st p a o) (st++[.l ds])=some (st++[.l ds]))\/
  ∃ x o',P (T.drop (p+1))=some x/\let l:=(T.drop (p+1+x.2)).take 1;let E':=Env T d st (p+1+x.2) l o';let s':=st++[.l (ds++[toD x.1])];
   ((decide (l=[32]) || decide (l=[41]))=true->bM self (Env T d st p a o) (st++[.l ds])=some (.nx E' s')/\bT self selfx (Env T d st p a o) (st++[.l ds])=none)/\
   ((decide (l=[32]) || decide (l=[41]))=false->bM self (Env T d st p a o) (st++[.l ds])=none/\bT self selfx (Env T d st p a o) (st++[.l ds])=some s'):=by
 have args:ac (iV 0) (ac (iOp aP (iV 1) (iC (.int 1))) (ac (iV 2) ai)) (Env T d st p a o) (st++[.l ds])=some ([.d (.str (S T)),.d (.int ((p+1:Nat):Int)),.d (.int (d:Int))],st++[.l ds]):=aq rfl (aq (aF rfl rfl (xT _ p)) (aq rfl rfl))
 rcases hs T (p+1) (st++[.l ds]) ha hT with⟨x,hx,e1,e2⟩ | ⟨hx,e1,e2⟩
 ·right
  have call:aT (.nm 5) (ar self (ac (iV 0) (ac (iOp aP (iV 1) (iC (.int 1))) (ac (iV 2) ai)))) (Env T d st p a o) (st++[.l ds])=some (.nx (Env T d st p a (some (.d (.tup [toD x.1,.int ((p+1+x.2:Nat):Int)])))) (st++[.l ds])):=bH (aR args e1)
  have callx:iA selfx (ac (iV 0) (ac (iOp aP (iV 1) (iC (.int 1))) (ac (iV 2) ai))) (Env T d st p a o) (st++[.l ds])=none:=fB args e2
  refine⟨x,some (.d (.tup [toD x.1,.int ((p+1+x.2:Nat):Int)])),hx,?_⟩
  generalize toD x.1=R at *
  generalize p+1+x.2=q at *
  intro l E' s'
  have app:=Ay (o:=iV 4) (a:=iOp dIx (iV 5) (iC (.int 0))) (env:=Env T d st p a (some (.d (.tup [R,.int (q:Int)])))) (st:=st++[.l ds]) (n:=st.length) (d:=R) rfl (aF rfl rfl (ix0 _ _ _)) (nK st ds) (nK st ds) hl
  rw [vb] at app
  have s1:aT (.nm 1) (iOp dIx (iV 5) (iC (.int 1))) (Env T d st p a (some (.d (.tup [R,.int (q:Int)])))) s'=some (.nx (Env T d st q a (some (.d (.tup [R,.int (q:Int)])))) s'):=bH (aF rfl rfl (ix1 _ _ _ _))
  have s2:aT (.nm 3) (cQ (iV 0) (iPs (iV 1)) (iPs (iOp aP (iV 1) (iC (.int 1))))) (Env T d st q a (some (.d (.tup [R,.int (q:Int)])))) s'=some (.nx E' s'):=bH (qsl (k:=1) (by lia) rfl rfl rfl rfl)
  have t:aG cA (iV 3) (aE (ac (iC (.str " ")) (ac (iC (.str ")")) ai))) E' s'=some (!(decide (l=[32]) || decide (l=[41])),s'):=nc rfl
  have pre:∀ r,bc (aG cA (iV 3) (aE (ac (iC (.str " ")) (ac (iC (.str ")")) ai)))) jy aM E' s'=r->bM self (Env T d st p a o) (st++[.l ds])=r:=λr h=>aA call (aA app (aA s1 (aA s2 h)))
  have prex:∀ r,xIf (aG cA (iV 3) (aE (ac (iC (.str " ")) (ac (iC (.str ")")) ai)))) (gN (ac (iC (.str "behind a rule in brackets stands neither a blank nor a bracket")) ai)) xNo E' s'=r->bT self selfx (Env T d st p a o) (st++[.l ds])=r:=λr h=>aO callx call (aO rfl app (aO rfl s1 (aO rfl s2 h)))
  refine⟨λh=>?_,λh=>?_⟩
  ·rw [h] at t
   exact⟨pre _ (ba t rfl),prex _ (d4 t rfl)⟩
  ·rw [h] at t
   exact⟨pre _ (dS t rfl),prex _ (kz t rfl)⟩
 ·left
  have call:aT (.nm 5) (ar self (ac (iV 0) (ac (iOp aP (iV 1) (iC (.int 1))) (ac (iV 2) ai)))) (Env T d st p a o) (st++[.l ds])=none:=by
   simp only [aT,ar,args,Option.bind_some,e1,Option.bind_none]
  exact⟨hx,eY call,eT (fB args e2)⟩
theorem no {p:Nat}{a:List Nat}{o:Option W}{s:Sto}:bI self (Env T d st p a o) s=some (!decide (a=[41]),s):=bg rfl rfl (neS s a [41])
theorem um (hP:P []=none) (hs:qw self selfx d P) (hf:∀ U x,P U=some x->1<=x.2) (ha:∀ c ∈ T,c < 128) (hT:T.length<=900):∀ (M m p:Nat) (a:List Nat) (ds:List D) (o:Option W),(T.drop (p+1)).length<=M->M+2<=m->a≠[41]->ds.length+M < 1000000->
  (∃ y o',pL P M (T.drop (p+1))=some y/\eu (bI self) (bM self) m (Env T d st p a o) (st++[.l ds])=some (.nx (Env T d st (p+y.2) [41] o') (st++[.l (ds++aI y.1)]))/\eI (bI self) (bM self) (bT self selfx) m (Env T d st p a o) (st++[.l ds])=none)\/
  (pL P M (T.drop (p+1))=none/\eu (bI self) (bM self) m (Env T d st p a o) (st++[.l ds])=none/\∃ s,eI (bI self) (bM self) (bT self selfx) m (Env T d st p a o) (st++[.l ds])=some s/\s.take st.length=st)
 | 0,m,p,a,ds,o,hl,hm,hne,hd=>by
  obtain⟨m,rfl⟩:∃ k,m=k+1:=⟨m - 1,by lia⟩
  have e0:T.drop (p+1)=[]:=List.length_eq_zero_iff.mp (by lia)
  have c1:bI self (Env T d st p a o) (st++[.l ds])=some (true,st++[.l ds]):=by rw [no,decide_eq_false hne];rfl
  right
  rcases tL (st:=st) hs ha hT (p:=p) (a:=a) (ds:=ds) (o:=o) (by lia) with⟨h1,h2,h3⟩ | ⟨x,o',h1,_⟩
  ·exact⟨rfl,qJ c1 h2,_,qT c1 h3,List.take_left⟩
  ·rw [e0,hP] at h1;cases h1
 | M+1,m,p,a,ds,o,hl,hm,hne,hd=>by
  obtain⟨m,rfl⟩:∃ k,m=k+1:=⟨m - 1,by lia⟩
  have c1:bI self (Env T d st p a o) (st++[.l ds])=some (true,st++[.l ds]):=by rw [no,decide_eq_false hne];rfl
  rcases tL (st:=st) hs ha hT (p:=p) (a:=a) (ds:=ds) (o:=o) (by lia) with⟨h1,h2,h3⟩ | ⟨x,o',h1,h4⟩
  ·exact .inr ⟨by unfold pL;rw [h1],qJ c1 h2,_,qT c1 h3,List.take_left⟩
  ·have hx1:=hf _ x h1
   have hdd:(T.drop (p+1)).drop x.2=T.drop (p+1+x.2):=List.drop_drop ..
   dsimp only at h4
   cases hc:T.drop (p+1+x.2) with
   | nil=>
    rw [hc] at h4
    obtain⟨q1,q2⟩:=h4.2 rfl
    exact .inr ⟨by unfold pL;rw [h1];dsimp only;rw [hdd,hc],qJ c1 q1,_,qT c1 q2,List.take_left⟩
   | cons c u=>
    rw [hc] at h4
    have hul:=fJ (hdd.trans hc)
    have hu:T.drop (p+1+x.2+1)=u:=by rw [<-List.drop_drop,hc];rfl
    have t1:(c::u).take 1=[c]:=rfl
    rw [t1] at h4
    by_cases e1:c=32
    ·subst e1
     obtain⟨q1,q2⟩:=h4.1 rfl
     have ih:=um hP hs hf ha hT M m (p+1+x.2) [32] (ds++[toD x.1]) o' (by rw [hu];lia) (by lia) (by decide) (by rw [List.length_append,List.length_singleton];lia)
     rw [hu] at ih
     rcases ih with⟨y,o2,i1,i2,i3⟩ | ⟨i1,i2,s,i3,i4⟩
     ·refine .inl ⟨(x.1::y.1,x.2+1+y.2),o2,by unfold pL;rw [h1];dsimp only;rw [hdd,hc];dsimp only;rw [if_pos rfl,i1];rfl,?_,uI c1 q2 q1 i3⟩
      refine sK c1 q1 ?_
      rw [i2]
      show _=some (Fl.nx (Env T d st (p+(x.2+1+y.2)) [41] o2) (st++[.l (ds++aI (x.1::y.1))]))
      rw [aI,List.append_assoc,List.singleton_append,show p+1+x.2+y.2=p+(x.2+1+y.2) by lia]
     ·exact .inr ⟨by unfold pL;rw [h1];dsimp only;rw [hdd,hc];dsimp only;rw [if_pos rfl,i1];rfl,sK c1 q1 i2,s,uI c1 q2 q1 i3,i4⟩
    ·by_cases e2:c=41
     ·subst e2
      obtain⟨q1,q2⟩:=h4.1 rfl
      obtain⟨m,rfl⟩:∃ k,m=k+1:=⟨m - 1,by lia⟩
      have c2:bI self (Env T d st (p+1+x.2) [41] o') (st++[.l (ds++[toD x.1])])=some (false,st++[.l (ds++[toD x.1])]):=by rw [no,decide_eq_true rfl];rfl
      refine .inl ⟨([x.1],x.2+1),o',by unfold pL;rw [h1];dsimp only;rw [hdd,hc];dsimp only;rw [if_neg (by decide),if_pos rfl],?_,uI c1 q2 q1 (Ai c2)⟩
      refine sK c1 q1 ?_
      rw [zt c2]
      show _=some (Fl.nx (Env T d st (p+(x.2+1)) [41] o') (st++[.l (ds++aI [x.1])]))
      rw [aI,aI,show p+1+x.2=p+(x.2+1) by lia]
     ·have hb:(decide ([c]=[32]) || decide ([c]=[41]))=false:=by simp [e1,e2]
      obtain⟨q1,q2⟩:=h4.2 hb
      exact .inr ⟨by unfold pL;rw [h1];dsimp only;rw [hdd,hc];dsimp only;rw [if_neg e1,if_neg e2],qJ c1 q1,_,qT c1 q2,List.take_left⟩
theorem wx (hP:P []=none) (hs:qw self selfx d P) (hf:∀ U x,P U=some x->1<=x.2) (ha:∀ c ∈ T,c < 128) (hT:T.length<=900) (p:Nat) (st:Sto) :
  (∃ y,pB P 900 (T.drop p)=some y/\cg self [.d (.str (S T)),.d (.int (p:Int)),.d (.int (d:Int))] st=some (.d (.tup [.tup (aI y.1),.int ((p+y.2:Nat):Int)]),st)/\eR self selfx [.d (.str (S T)),.d (.int (p:Int)),.d (.int (d:Int))] st=none)\/
  (pB P 900 (T.drop p)=none/\cg self [.d (.str (S T)),.d (.int (p:Int)),.d (.int (d:Int))] st=none/\eR self selfx [.d (.str (S T)),.d (.int (p:Int)),.d (.int (d:Int))] st=some st):=by
 have fin:∀ x s,dl self [some (.d (.str (S T))),some (.d (.int (p:Int))),some (.d (.int (d:Int))),none,none,none] st=some (.rt (.d x) s)->s.take st.length=st->cg self [.d (.str (S T)),.d (.int (p:Int)),.d (.int (d:Int))] st=some (.d x,st):=λx s h1 h2=>by
  have:=oK (n:=6) (k:=3) (b:=dl self) (ws:=[.d (.str (S T)),.d (.int (p:Int)),.d (.int (d:Int))]) (st:=st) (x:=x) rfl h1
  rw [h2] at this
  exact this
 have finN:dl self [some (.d (.str (S T))),some (.d (.int (p:Int))),some (.d (.int (d:Int))),none,none,none] st=none->cg self [.d (.str (S T)),.d (.int (p:Int)),.d (.int (d:Int))] st=none:=λh=>by
  show (dl self [some (.d (.str (S T))),some (.d (.int (p:Int))),some (.d (.int (d:Int))),none,none,none] st).bind _=none
  rw [h];rfl
 have finX:∀ r:Option Sto,(∀ s,r=some s->s.take st.length=st)->d6 self selfx [some (.d (.str (S T))),some (.d (.int (p:Int))),some (.d (.int (d:Int))),none,none,none] st=r->eR self selfx [.d (.str (S T)),.d (.int (p:Int)),.d (.int (d:Int))] st=r.map λ_=>st:=λr h1 h2=>by
  show (d6 self selfx [some (.d (.str (S T))),some (.d (.int (p:Int))),some (.d (.int (d:Int))),none,none,none] st).map _=_
  rw [h2]
  cases r with
  | none=>rfl
  | some s=>show some (s.take st.length)=_;rw [h1 s rfl];rfl
 have t1:aG dEq (cQ (iV 0) (iPs (iV 1)) (iPs (iOp aP (iV 1) (iC (.int 2))))) (iC (.str "()")) [some (.d (.str (S T))),some (.d (.int (p:Int))),some (.d (.int (d:Int))),none,none,none] st=some (decide ((T.drop p).take 2=[40,41]),st):=
  bg (qsl (k:=2) (by lia) rfl rfl rfl rfl) rfl (eqS st _ [40,41])
 by_cases h1:(T.drop p).take 2=[40,41]
 ·rw [decide_eq_true h1] at t1
  have r1:aX (aE (ac (aE ai) (ac (iOp aP (iV 1) (iC (.int 2))) ai))) [some (.d (.str (S T))),some (.d (.int (p:Int))),some (.d (.int (d:Int))),none,none,none] st=some (.rt (.d (.tup [.tup [],.int ((p+2:Nat):Int)])) st):=bL (gU (aq (gU rfl rfl (by decide)) (aq (aF rfl rfl (An _ p)) rfl)) rfl (by show 2<=1000;decide))
  refine .inl ⟨([],2),by unfold pB;rw [if_pos h1],?_,finX none (λs z=>nomatch z) (jr rfl (dS t1 r1))⟩
  show _=some (W.d (.tup [.tup (aI []),_]),st)
  rw [aI]
  exact fin _ st (dj (dS t1 r1)) List.take_length
 ·rw [decide_eq_false h1] at t1
  have s3:aT (.nm 3) (cQ (iV 0) (iPs (iV 1)) (iPs (iOp aP (iV 1) (iC (.int 1))))) [some (.d (.str (S T))),some (.d (.int (p:Int))),some (.d (.int (d:Int))),none,none,none] st=some (.nx [some (.d (.str (S T))),some (.d (.int (p:Int))),some (.d (.int (d:Int))),some (.d (.str (S ((T.drop p).take 1)))),none,none] st):=bH (qsl (k:=1) (by lia) rfl rfl rfl rfl)
  have t2:aG dNe (iV 3) (iC (.str "(")) [some (.d (.str (S T))),some (.d (.int (p:Int))),some (.d (.int (d:Int))),some (.d (.str (S ((T.drop p).take 1)))),none,none] st=some (!decide ((T.drop p).take 1=[40]),st):=bg rfl rfl (neS st _ [40])
  by_cases h2:(T.drop p).take 1=[40]
  ·rw [decide_eq_true h2,h2] at t2
   rw [h2] at s3
   have n4:aT (.nm 4) (hX (bv ai)) [some (.d (.str (S T))),some (.d (.int (p:Int))),some (.d (.int (d:Int))),some (.d (.str (S [40]))),none,none] st=some (.nx (Env T d st p [40] none) (st++[.l []])):=rfl
   have e1:(T.drop p).drop 1=T.drop (p+1):=List.drop_drop ..
   have hB:pB P 900 (T.drop p)=(pL P 900 (T.drop (p+1))).map λy=>(y.1,y.2+1):=by unfold pB;rw [if_neg h1,if_pos h2,e1]
   rw [hB]
   rcases um (st:=st) hP hs hf ha hT 900 1000 p [40] [] none (by rw [List.length_drop];lia) (by decide) (by decide) (by decide) with⟨y,o',i1,i2,i3⟩ | ⟨i1,i2,s,i3,i4⟩
   ·rw [List.nil_append] at i2
    refine .inl ⟨(y.1,y.2+1),by rw [i1];rfl,fin _ (st++[.l (aI y.1)]) (aA (ba t1 rfl) (aA s3 (aA (ba t2 rfl) (aA n4 (aA (show kf 1000 _ _ _ _=_ from i2) (bL (gU (aq (fG (ws:=[.h st.length]) rfl ?_) (aq (aF rfl rfl (xT _ (p+y.2))) rfl)) rfl (by show 2<=1000;decide)))))))) List.take_left,finX none (λs z=>nomatch z) (aO rfl (ba t1 rfl) (aO rfl s3 (aO (d4 t2 rfl) (ba t2 rfl) (aO rfl n4 (aO (show nZ 1000 _ _ _ _ _=_ from i3) (show kf 1000 _ _ _ _=_ from i2) rfl)))))⟩
    show (lg (st++[.l (aI y.1)]) st.length).map D.tup=_
    rw [nK];rfl
   ·refine .inr ⟨by rw [i1];rfl,finN (aA (ba t1 rfl) (aA s3 (aA (ba t2 rfl) (aA n4 (eY (show kf 1000 _ _ _ _=_ from i2)))))),?_⟩
    exact finX (some s) (λs' z=>by cases z;exact i4) (aO rfl (ba t1 rfl) (aO rfl s3 (aO (d4 t2 rfl) (ba t2 rfl) (aO rfl n4 (eT (show nZ 1000 _ _ _ _ _=_ from i3))))))
  ·rw [decide_eq_false h2] at t2
   refine .inr ⟨by unfold pB;rw [if_neg h1,if_neg h2],finN (aA (ba t1 rfl) (aA s3 (eY (dS t2 rfl)))),?_⟩
   exact finX (some st) (λs' z=>by cases z;exact List.take_length) (aO rfl (ba t1 rfl) (aO rfl s3 (eT (kz t2 rfl))))
end
end Own
end
section
set_option maxHeartbeats 1000000
namespace Own
open PySem L2
theorem qO {n k:Nat}{b:Sf}{ws:List W}{st:Sto} (hl:ws.length=k) (h:b (ws.map some++List.replicate (n - k) none) st=none):bX n k b ws st=none:=by
 simp only [bX,hl,if_true,h,Option.bind_none]
theorem vU:inD (.str (S [])) (sj "abcdef")=false:=by decide +kernel
theorem zh {g:List D}{w:Str}{l:List Nat}{b:Bool}{f:Ef}{env:Ev}{st:Sto} (hw:dO st [.d (.str w)]=some g) (hg:g.all di=true) (hf:f env st=some (.d (.str (S l)),st)) (h:inD (.str (S l)) g=b):aG dIn f (aJ (iCL dO (ac (iC (.str w)) ai))) env st=some (b,st):=by
 have e:aJ (iCL dO (ac (iC (.str w)) ai)) env st=some (.d (.lst g),st):=dv (by simp only [iCL,ac,iC,ai,Option.bind_some,Option.map_some,hw])
 refine bg hf e ?_
 simp only [dIn,cB,di,hg,Option.bind_some,and_self,if_true,h]
section
variable {n d:Nat}
theorem wH:qw (aH (n+1)) (bC (n+1)) 0 (pR 900 0):=by
 intro T p st ha hT
 refine .inr ⟨rfl,?_,?_⟩
 ·exact qO (n:=6) (k:=3) (b:=cI (aH n)) rfl (eY (dS (s:=st) (bg rfl rfl (by rw [ni];rfl)) rfl))
 ·show (cE (aH n) (bC n) [some (.d (.str (S T))),some (.d (.int (p:Int))),some (.d (.int ((0:Nat):Int))),none,none,none] st).map _=_
  rw [show cE (aH n) (bC n) [some (.d (.str (S T))),some (.d (.int (p:Int))),some (.d (.int ((0:Nat):Int))),none,none,none] st=some st from eT (kz (s:=st) (bg rfl rfl (by rw [ni];rfl)) rfl)]
  show some (st.take st.length)=_
  rw [List.take_length]
theorem wk (hs:qw (aH n) (bC n) d (pR 900 d)):qw (aH (n+1)) (bC (n+1)) (d+1) (pR 900 (d+1)):=by
 intro T p st ha hT
 generalize hE:[some (W.d (.str (S T))),some (.d (.int (p:Int))),some (.d (.int ((d+1:Nat):Int))),none,none,none]=E0
 have fin:∀ x s,cI (aH n) E0 st=some (.rt (.d x) s)->aH (n+1) [.d (.str (S T)),.d (.int (p:Int)),.d (.int ((d+1:Nat):Int))] st=some (.d x,s):=λx s h=>by
  subst hE
  exact cJ (n:=6) (k:=3) (b:=cI (aH n)) rfl h
 have finN:cI (aH n) E0 st=none->aH (n+1) [.d (.str (S T)),.d (.int (p:Int)),.d (.int ((d+1:Nat):Int))] st=none:=λh=>by
  subst hE
  exact qO (n:=6) (k:=3) (b:=cI (aH n)) rfl h
 have finX:∀ r:Option Sto,(∀ s,r=some s->s=st)->cE (aH n) (bC n) E0 st=r->bC (n+1) [.d (.str (S T)),.d (.int (p:Int)),.d (.int ((d+1:Nat):Int))] st=r:=λr h1 h2=>by
  subst hE
  show (cE (aH n) (bC n) _ st).map _=_
  refine (congrArg (λz=>Option.map _ z) h2).trans ?_
  cases r with
  | none=>rfl
  | some s=>cases h1 s rfl;show some (st.take st.length)=_;rw [List.take_length]
 have t0:aG dEq (iV 2) (iC (.int 0)) E0 st=some (false,st):=by
  subst hE
  refine bg rfl rfl ?_
  rw [ni,beq_eq_false_iff_ne.mpr (by lia)]
 generalize hl:(T.drop p).take 1=l
 have s3:aT (.nm 3) (cQ (iV 0) (iPs (iV 1)) (iPs (iOp aP (iV 1) (iC (.int 1))))) E0 st=some (.nx [some (.d (.str (S T))),some (.d (.int (p:Int))),some (.d (.int ((d+1:Nat):Int))),some (.d (.str (S l))),none,none] st):=by
  subst hE
  exact bH (qsl (k:=1) (by lia) rfl rfl rfl hl)
 clear hE
 generalize hE:[some (W.d (.str (S T))),some (.d (.int (p:Int))),some (.d (.int ((d+1:Nat):Int))),some (.d (.str (S l))),none,none]=E1 at s3
 have v3:iV 3 E1 st=some (.d (.str (S l)),st):=by subst hE;rfl
 have tb:aG dEq (iV 3) (iC (.str "!")) E1 st=some (decide (l=[33]),st):=bg v3 rfl (eqS st l [33])
 have ea:((d+1:Nat):Int) - 1=(d:Int):=by lia
 have args:ac (iV 0) (ac (iOp aP (iV 1) (iC (.int 1))) (ac (iOp cS (iV 2) (iC (.int 1))) ai)) E1 st=some ([.d (.str (S T)),.d (.int ((p+1:Nat):Int)),.d (.int (d:Int))],st):=by
  subst hE
  have:ac (iV 0) (ac (iOp aP (iV 1) (iC (.int 1))) (ac (iOp cS (iV 2) (iC (.int 1))) ai)) [some (W.d (.str (S T))),some (.d (.int (p:Int))),some (.d (.int ((d+1:Nat):Int))),some (.d (.str (S l))),none,none] st=some ([.d (.str (S T)),.d (.int ((p+1:Nat):Int)),.d (.int (((d+1:Nat):Int) - 1))],st):=rfl
  rw [ea] at this
  exact this
 cases hU:T.drop p with
 | nil=>
  have el:l=[]:=by rw [<-hl,hU];rfl
  subst el
  have tl:aG dIn (iV 3) (aJ (iCL dO (ac (iC (.str "abcdef")) ai))) E1 st=some (false,st):=zh (rg st) (by decide) v3 vU
  have hc:ac (iV 3) ai E1 st=some ([.d (.str (S []))],st):=aq v3 rfl
  refine .inr ⟨rfl,finN (aA (ba t0 rfl) (aA s3 (aA (ba tl rfl) (aA (ba tb rfl) (eY ?_))))),?_⟩
  ·simp only [aT,ar,hc,Option.bind_some,qG.1,Option.bind_none]
  ·exact finX (some st) (λs z=>by cases z;rfl) (aO (d4 t0 rfl) (ba t0 rfl) (aO rfl s3 (aO rfl (ba tl rfl) (aO (d4 tb rfl) (ba tb rfl) (eT (fB hc qG.2))))))
 | cons c t=>
  have hcm:c < 128:=ha c (List.mem_of_mem_drop (by rw [hU];exact List.mem_cons_self))
  have ht:T.drop (p+1)=t:=by rw [<-List.drop_drop,hU];rfl
  have el:l=[c]:=by rw [<-hl,hU];rfl
  subst el
  have tl:aG dIn (iV 3) (aJ (iCL dO (ac (iC (.str "abcdef")) ai))) E1 st=some (decide (97<=c/\c<=102),st):=zh (rg st) (by decide) v3 (yc c hcm)
  have v1:iOp aP (iV 1) (iC (.int 1)) E1 st=some (.d (.int ((p+1:Nat):Int)),st):=by subst hE;exact aF rfl rfl (xT st p)
  by_cases h1:97<=c/\c<=102
  ·rw [decide_eq_true h1] at tl
   have hf:PySem.Txt.find "abcdef" (S [c])=((c - 97:Nat):Int):=by
    have:=pK (c - 97) (by lia)
    rwa [show 97+(c - 97)=c by lia] at this
   have r1:aX (aE (ac (aE (ac (iC (.str "switch")) (ac (iTm iN (iC (.str "abcdef")) (ac (iV 3) ai)) ai))) (ac (iOp aP (iV 1) (iC (.int 1))) ai))) E1 st=some (.rt (.d (.tup [.tup [.str "switch",.int ((c - 97:Nat):Int)],.int ((p+1:Nat):Int)])) st):=
    bL (gU (aq (gU (aq rfl (aq (tj v3 hf) rfl)) rfl (by show 2<=1000;decide)) (aq v1 rfl)) rfl (by show 2<=1000;decide))
   refine .inl ⟨(.sw ((c - 97:Nat):Int),1),by unfold pR;rw [if_pos h1],?_,finX none (λs z=>nomatch z) (aO (d4 t0 rfl) (ba t0 rfl) (aO rfl s3 (jr rfl (dS tl r1))))⟩
   show _=some (W.d (.tup [toD (.sw _),_]),st)
   rw [toD]
   exact fin _ st (aA (ba t0 rfl) (aA s3 (dj (dS tl r1))))
  ·rw [decide_eq_false h1] at tl
   by_cases h2:c=33
   ·rw [decide_eq_true (by rw [h2])] at tb
    have hR:pR 900 (d+1) (c::t)=(pR 900 d t).map λx=>(.nt x.1,x.2+1):=by conv=>lhs;unfold pR;rw [if_neg h1,if_pos h2]
    rw [hR]
    have hh:=hs T (p+1) st ha hT
    rw [ht] at hh
    rcases hh with⟨x,hx,e1,e2⟩ | ⟨hx,e1,e2⟩
    ·have c4:aT (.nm 4) (ar (aH n) (ac (iV 0) (ac (iOp aP (iV 1) (iC (.int 1))) (ac (iOp cS (iV 2) (iC (.int 1))) ai)))) E1 st=some (.nx (E1.set 4 (some (.d (.tup [toD x.1,.int ((p+1+x.2:Nat):Int)])))) st):=bH (aR args e1)
     have v4:iV 4 (E1.set 4 (some (.d (.tup [toD x.1,.int ((p+1+x.2:Nat):Int)])))) st=some (.d (.tup [toD x.1,.int ((p+1+x.2:Nat):Int)]),st):=by subst hE;rfl
     have r1:aX (aE (ac (aE (ac (iC (.str "not")) (ac (iOp dIx (iV 4) (iC (.int 0))) ai))) (ac (iOp dIx (iV 4) (iC (.int 1))) ai))) (E1.set 4 (some (.d (.tup [toD x.1,.int ((p+1+x.2:Nat):Int)])))) st=some (.rt (.d (.tup [.tup [.str "not",toD x.1],.int ((p+1+x.2:Nat):Int)])) st):=
      bL (gU (aq (gU (aq rfl (aq (aF v4 rfl (ix0 _ _ _)) rfl)) rfl (by show 2<=1000;decide)) (aq (aF v4 rfl (ix1 _ _ _ _)) rfl)) rfl (by show 2<=1000;decide))
     refine .inl ⟨(.nt x.1,x.2+1),by rw [hx];rfl,?_,finX none (λs z=>nomatch z) (aO (d4 t0 rfl) (ba t0 rfl) (aO rfl s3 (aO rfl (ba tl rfl) (jr (kz tb (aO (fB args e2) c4 rfl)) (dS tb (aA c4 r1))))))⟩
     show _=some (W.d (.tup [toD (.nt x.1),.int ((p+(x.2+1):Nat):Int)]),st)
     rw [toD,show p+(x.2+1)=p+1+x.2 by lia]
     exact fin _ st (aA (ba t0 rfl) (aA s3 (aA (ba tl rfl) (dj (dS tb (aA c4 r1))))))
    ·have c4:aT (.nm 4) (ar (aH n) (ac (iV 0) (ac (iOp aP (iV 1) (iC (.int 1))) (ac (iOp cS (iV 2) (iC (.int 1))) ai)))) E1 st=none:=by
      simp only [aT,ar,args,Option.bind_some,e1,Option.bind_none]
     exact .inr ⟨by rw [hx];rfl,finN (aA (ba t0 rfl) (aA s3 (aA (ba tl rfl) (eY (dS tb (eY c4)))))),finX (some st) (λs z=>by cases z;rfl) (aO (d4 t0 rfl) (ba t0 rfl) (aO rfl s3 (aO rfl (ba tl rfl) (eT (kz tb (eT (fB args e2)))))))⟩
   ·rw [decide_eq_false (by intro z;exact h2 (List.cons.inj z).1)] at tb
    have hR:pR 900 (d+1) (c::t)=match hdC c with | none=>none | some g=>(pB (pR 900 d) 900 t).map λy=>(.gr g.1 g.2 y.1,y.2+1):=by
     conv=>lhs;unfold pR;rw [if_neg h1,if_neg h2]
     all_goals (cases hdC c<;>rfl)
    rw [hR]
    have hc:ac (iV 3) ai E1 st=some ([.d (.str (S [c]))],st):=aq v3 rfl
    rcases vo (st:=st) hcm with⟨g,hg,eh,ehx⟩ | ⟨hg,eh,ehx⟩
    ·rw [hg]
     dsimp only
     have c5:aT (.nm 5) (ar dy (ac (iV 3) ai)) E1 st=some (.nx (E1.set 5 (some (.d (.tup (fm g.1 g.2))))) st):=bH (aR hc eh)
     have args2:ac (iV 0) (ac (iOp aP (iV 1) (iC (.int 1))) (ac (iOp cS (iV 2) (iC (.int 1))) ai)) (E1.set 5 (some (.d (.tup (fm g.1 g.2))))) st=some ([.d (.str (S T)),.d (.int ((p+1:Nat):Int)),.d (.int (d:Int))],st):=by
      subst hE
      exact args
     have hrx:=wx (sT 900 d) hs (λU x hx=>(iz 900 d U x hx).2.2.1) ha hT (p+1) st
     rw [ht] at hrx
     rcases hrx with⟨y,hy,e1,e2⟩ | ⟨hy,e1,e2⟩
     ·have c4:aT (.nm 4) (ar (cg (aH n)) (ac (iV 0) (ac (iOp aP (iV 1) (iC (.int 1))) (ac (iOp cS (iV 2) (iC (.int 1))) ai)))) (E1.set 5 (some (.d (.tup (fm g.1 g.2))))) st=some (.nx ((E1.set 5 (some (.d (.tup (fm g.1 g.2))))).set 4 (some (.d (.tup [.tup (aI y.1),.int ((p+1+y.2:Nat):Int)])))) st):=bH (aR args2 e1)
      have v4:iV 4 ((E1.set 5 (some (.d (.tup (fm g.1 g.2))))).set 4 (some (.d (.tup [.tup (aI y.1),.int ((p+1+y.2:Nat):Int)])))) st=some (.d (.tup [.tup (aI y.1),.int ((p+1+y.2:Nat):Int)]),st):=by subst hE;rfl
      have v5:iV 5 ((E1.set 5 (some (.d (.tup (fm g.1 g.2))))).set 4 (some (.d (.tup [.tup (aI y.1),.int ((p+1+y.2:Nat):Int)])))) st=some (.d (.tup (fm g.1 g.2)),st):=by subst hE;rfl
      have hadd:aP st (.d (.tup (fm g.1 g.2))) (.d (.tup [.tup (aI y.1)]))=some (.tup (fm g.1 g.2++[.tup (aI y.1)])):=by
       refine sJ st ?_
       have:(fm g.1 g.2).length<=2:=by cases g.1<;>simp [fm]
       simp;lia
      have r1:aX (aE (ac (iOp aP (iV 5) (aE (ac (iOp dIx (iV 4) (iC (.int 0))) ai))) (ac (iOp dIx (iV 4) (iC (.int 1))) ai))) ((E1.set 5 (some (.d (.tup (fm g.1 g.2))))).set 4 (some (.d (.tup [.tup (aI y.1),.int ((p+1+y.2:Nat):Int)])))) st=some (.rt (.d (.tup [.tup (fm g.1 g.2++[.tup (aI y.1)]),.int ((p+1+y.2:Nat):Int)])) st):=
       bL (gU (aq (aF v5 (gU (aq (aF v4 rfl (ix0 _ _ _)) rfl) rfl (by show 1<=1000;decide)) hadd) (aq (aF v4 rfl (ix1 _ _ _ _)) rfl)) rfl (by show 2<=1000;decide))
      refine .inl ⟨(.gr g.1 g.2 y.1,y.2+1),by rw [hy];rfl,?_,finX none (λs z=>nomatch z) (aO (d4 t0 rfl) (ba t0 rfl) (aO rfl s3 (aO rfl (ba tl rfl) (aO (d4 tb rfl) (ba tb rfl) (aO (fB hc ehx) c5 (aO (fB args2 e2) c4 rfl))))))⟩
      show _=some (W.d (.tup [toD (.gr g.1 g.2 y.1),.int ((p+(y.2+1):Nat):Int)]),st)
      rw [toD,show p+(y.2+1)=p+1+y.2 by lia,<-sX]
      exact fin _ st (aA (ba t0 rfl) (aA s3 (aA (ba tl rfl) (aA (ba tb rfl) (aA c5 (aA c4 r1))))))
     ·have c4:aT (.nm 4) (ar (cg (aH n)) (ac (iV 0) (ac (iOp aP (iV 1) (iC (.int 1))) (ac (iOp cS (iV 2) (iC (.int 1))) ai)))) (E1.set 5 (some (.d (.tup (fm g.1 g.2))))) st=none:=by
       simp only [aT,ar,args2,Option.bind_some,e1,Option.bind_none]
      exact .inr ⟨by rw [hy];rfl,finN (aA (ba t0 rfl) (aA s3 (aA (ba tl rfl) (aA (ba tb rfl) (aA c5 (eY c4)))))),finX (some st) (λs z=>by cases z;rfl) (aO (d4 t0 rfl) (ba t0 rfl) (aO rfl s3 (aO rfl (ba tl rfl) (aO (d4 tb rfl) (ba tb rfl) (aO (fB hc ehx) c5 (eT (fB args2 e2)))))))⟩
    ·rw [hg]
     have c5:aT (.nm 5) (ar dy (ac (iV 3) ai)) E1 st=none:=by
      simp only [aT,ar,hc,Option.bind_some,eh,Option.bind_none]
     exact .inr ⟨rfl,finN (aA (ba t0 rfl) (aA s3 (aA (ba tl rfl) (aA (ba tb rfl) (eY c5))))),finX (some st) (λs z=>by cases z;rfl) (aO (d4 t0 rfl) (ba t0 rfl) (aO rfl s3 (aO rfl (ba tl rfl) (aO (d4 tb rfl) (ba tb rfl) (eT (fB hc ehx))))))⟩
end
theorem qP:∀ d n,qw (aH (n+d+1)) (bC (n+d+1)) d (pR 900 d)
 | 0,n=>wH
 | d+1,n=>wk (qP d n)
noncomputable def okB (l:List Nat) (x:Ru×Nat):Bool:=decide (x.2=l.length) && (wid x.1 && decide (cnt x.1<=40))
noncomputable def gR (l:List Nat):D:=match pR 900 6 l with
 | some x=>if okB l x=true then .lst [toD x.1] else .str "no text"
 | none=>.str "no text"
theorem zx {s:Sto}{x:Str}{e:Ev}:da (fu fK (iCB gP (ac (iV 0) (ac (iC (.ty "str")) ai)))) (some (.d (.str x))::e) s=some (false,s):=by
 simp only [iV,iC,da,fu,ai,ac,iCB,cB,gP,gK,dE,fK,Option.bind_some,Option.map_some,List.getD_cons_zero,Bool.not_true,lg]
theorem wV {l:List Nat}{st:Sto} (ha:∀ c ∈ l,c < 128) (hz:l.length<=900) :
  (∃ x,pR 900 6 l=some x/\okB l x=true/\de [.d (.str (S l))] st=some (.d (toD x.1),st))\/
  (gR l=.str "no text"/\de [.d (.str (S l))] st=none/\gx [.d (.str (S l))] st=some st):=by
 have hrule:=qP 6 0 l 0 st ha hz
 rw [List.drop_zero] at hrule
 have args:ac (iV 0) (ac (iC (.int 0)) (ac (iC (.int 6)) ai)) [some (.d (.str (S l))),none] st=some ([.d (.str (S l)),.d (.int ((0:Nat):Int)),.d (.int ((6:Nat):Int))],st):=rfl
 have t0:=zx (s:=st) (x:=S l) (e:=[none])
 have fin:∀ r,gB [some (.d (.str (S l))),none] st=r->de [.d (.str (S l))] st=r.bind λr=>match r with | .nx _ s=>some (.d .non,s) | .rt w s=>some (w,s) | _=>none:=λr h=>by rw [<-h];rfl
 have finX:eW [some (.d (.str (S l))),none] st=some st->gx [.d (.str (S l))] st=some st:=λh=>by
  show (eW [some (.d (.str (S l))),none] st).map _=_
  rw [h]
  show some (st.take st.length)=_
  rw [List.take_length]
 rcases hrule with⟨x,hx,e1,e2⟩ | ⟨hx,e1,e2⟩
 ·rw [Nat.zero_add x.2] at e1
  obtain⟨f1,f2,f3,f4⟩:=iz 900 6 l x hx
  have er:=uC (st:=st) f1 f2
  have e3:du st [.d (.str (S l))]=some (.int ((l.length:Nat):Int)):=by
   show (if (S l).length<=1000000 then some (D.int ((S l).length:Int)) else none)=_
   rw [gY,if_pos (by lia)]
  have c1:aT (.nm 1) (ar (aH 7) (ac (iV 0) (ac (iC (.int 0)) (ac (iC (.int 6)) ai)))) [some (.d (.str (S l))),none] st=some (.nx [some (.d (.str (S l))),some (.d (.tup [toD x.1,.int ((x.2:Nat):Int)]))] st):=bH (aR args e1)
  have t1:ci (aG dNe (iOp dIx (iV 1) (iC (.int 1))) (iCB du (ac (iV 0) ai))) (da (fu fK (ar fq (ac (iOp dIx (iV 1) (iC (.int 0))) ai)))) [some (.d (.str (S l))),some (.d (.tup [toD x.1,.int ((x.2:Nat):Int)]))] st=some (!okB l x,st):=by
   have h1:aG dNe (iOp dIx (iV 1) (iC (.int 1))) (iCB du (ac (iV 0) ai)) [some (.d (.str (S l))),some (.d (.tup [toD x.1,.int ((x.2:Nat):Int)]))] st=some (!decide (x.2=l.length),st):=by
    refine bg (aF rfl rfl (ix1 _ _ _ _)) (fG (aq rfl rfl) e3) ?_
    show some (D.bl (!(((x.2:Nat):Int)==((l.length:Nat):Int))))=_
    rw [show (((x.2:Nat):Int)==((l.length:Nat):Int))=decide (x.2=l.length) by rw [Bool.eq_iff_iff];simp;lia]
   have h2:ar fq (ac (iOp dIx (iV 1) (iC (.int 0))) ai) [some (.d (.str (S l))),some (.d (.tup [toD x.1,.int ((x.2:Nat):Int)]))] st=some (.d (.bl (wid x.1 && decide (cnt x.1<=40))),st):=aR (aq (aF rfl rfl (ix0 _ _ _)) rfl) er
   unfold okB
   simp only [ci,h1,da,fu,h2,Option.bind_some,fK,Option.map_some]
   cases decide (x.2=l.length)<;>simp
  cases hb:okB l x with
  | true=>
   rw [hb] at t1
   exact .inl ⟨x,hx,hb,fin _ (aA (ba t0 rfl) (aA c1 (aA (ba t1 rfl) (bL (aF rfl rfl (ix0 _ _ _))))))⟩
  | false=>
   rw [hb] at t1
   refine .inr ⟨by unfold gR;rw [hx];show (if okB l x=true then _ else _)=_;rw [hb];rfl,fin none (aA (ba t0 rfl) (aA c1 (eY (dS t1 rfl)))),finX (aO (d4 t0 rfl) (ba t0 rfl) (aO (fB args e2) c1 (eT (kz t1 rfl))))⟩
 ·have c1:aT (.nm 1) (ar (aH 7) (ac (iV 0) (ac (iC (.int 0)) (ac (iC (.int 6)) ai)))) [some (.d (.str (S l))),none] st=none:=by
   have e1':aH 7 [.d (.str (S l)),.d (.int ((0:Nat):Int)),.d (.int ((6:Nat):Int))] st=none:=e1
   simp only [aT,ar,args,Option.bind_some,e1',Option.bind_none]
  exact .inr ⟨by unfold gR;rw [hx],fin none (aA (ba t0 rfl) (eY c1)),finX (aO (d4 t0 rfl) (ba t0 rfl) (eT (fB args e2)))⟩
theorem wM {l:List Nat}{st:Sto} (ha:∀ c ∈ l,c < 128) (hz:l.length<=900):eL [.d (.str (S l))] st=some (.d (gR l),st):=by
 have hb:fP [some (.d (.str (S l))),none] st=some (.rt (.d (gR l)) st):=by
  rcases wV (st:=st) ha hz with⟨x,hx,hb,e⟩ | ⟨ht,e,ex⟩
  ·have h1:ar de (ac (iV 0) ai) [some (.d (.str (S l))),none] st=some (.d (toD x.1),st):=aR rfl e
   have et:gR l=.lst [toD x.1]:=by unfold gR;rw [hx];show (if okB l x=true then _ else _)=_;rw [hb];rfl
   rw [et]
   generalize toD x.1=R at *
   refine xU ?_
   simp only [aX,aJ,bv,ac,h1];rfl
  ·rw [ht]
   refine xZ ?_ (fB (ws:=[.d (.str (S l))]) rfl ex)
   have h1:ar de (ac (iV 0) ai) [some (.d (.str (S l))),none] st=none:=by
    show de [.d (.str (S l))] st=none
    exact e
   simp only [aX,aJ,bv,ac,h1];rfl
 exact cJ (n:=2) (k:=1) (b:=fP) rfl hb
end Own
end
section
set_option maxHeartbeats 1000000
namespace Own
open PySem L2
theorem wA:∀ c,c < 128->PySem.Txt.contains "abcdef" (S [c])=decide (97<=c/\c<=102):=by decide +kernel
theorem xS:∀ c,c < 128->PySem.Txt.contains "&|^0123456789" (S [c])=(hdC c).isSome:=by decide +kernel
theorem wq (s:Sto) {c:Nat}{t:List Nat} (h:t.length < 1000000):dIx s (.d (.str (S (c::t)))) (.d (.int 0))=some (.str (S [c])):=by
 show (if (S (c::t)).length<=1000000 then (atI (c::t) 0).map λc=>D.str ⟨#[c]⟩ else none)=_
 rw [gY,if_pos (by rw [List.length_cons];lia),gZ];rfl
theorem jK {T:List Nat}{k:Nat}:jX (S T) (some (k:Int)) none=S (T.drop k):=by
 unfold jX
 rw [gY,qx]
 have h1:HT.sIx T.length 0 (some (k:Int))=min k T.length:=by unfold HT.sIx;split<;>lia
 have h2:HT.sIx T.length T.length none=T.length:=rfl
 rw [h1,h2]
 show S _=S _
 congr 1
 by_cases hp:k<=T.length
 ·rw [Nat.min_eq_left hp,List.take_of_length_le (by rw [List.length_drop];lia)]
 ·have e1:min k T.length=T.length:=by lia
  rw [e1,List.drop_length,List.drop_eq_nil_of_le (by lia)];simp
theorem u5 {T:List Nat}:jX (S T) none (some 1)=S (T.take 1):=by
 have:=qh (T:=T) (p:=0) (k:=1)
 rw [List.drop_zero] at this
 rw [<-this]
 unfold jX
 have e:HT.sIx (S T).length 0 none=HT.sIx (S T).length 0 (some ((0:Nat):Int)):=by unfold HT.sIx;simp
 rw [e];rfl
theorem qu {T:List Nat}{e:Ef}{lo hi:Pf}{env:Ev}{st s:Sto}{a b:Option Int}{l:List Nat} (hl:T.length<=1000000) (he:e env st=some (.d (.str (S T)),s)) (h1:lo env s=some (a,s)) (h2:hi env s=some (b,s)) (hc:jX (S T) a b=S l):cQ e lo hi env st=some (.d (.str (S l)),s):=by
 simp only [cQ,he,h1,h2,Option.bind_some]
 rw [if_pos (by rw [gY];exact hl),hc]
theorem rL:∀ c,c < 128->(48<=c/\c<=57)->pN (S [c])=none:=by decide +kernel
theorem wO:∀ c,c < 128->(48<=c/\c<=57)->intText? (S [c])=some (((c - 48:Nat):Int)):=by decide +kernel
theorem rf {c:Nat}{g:Gw×Int}{ds:List D}{st:Sto} (hc:c < 128) (h:hdC c=some g):eM [.d (.str (S [c])),.d (.tup ds)] st=some (.d (grD g.1 g.2 ds),st):=by
 have key:pH (S [c]) (.tup ds)=some (grD g.1 g.2 ds)->eM [.d (.str (S [c])),.d (.tup ds)] st=some (.d (grD g.1 g.2 ds),st):=λh=>by
  refine cJ (n:=3) (k:=2) (b:=rE) rfl ?_
  show (pH (S [c]) (.tup ds)).map (λd=>Fl.rt (.d d) st)=_
  rw [h];rfl
 refine key ?_
 unfold hdC at h
 split at h
 ·rename_i e;subst e;cases h;rfl
 ·split at h
  ·rename_i e;subst e;cases h;rfl
  ·split at h
   ·rename_i e;subst e;cases h;rfl
   ·split at h
    ·rename_i e
     cases h
     unfold pH
     rw [rL c hc e]
     show (if (S [c]).length<=640 then (intText? (S [c])).map _ else none)=_
     rw [gY,if_pos (by show 1<=640;decide),wO c hc e];rfl
    ·cases h
noncomputable def si (o:Option (Ru×Nat)) (T:List Nat):D:=match o with
 | some x=>.tup [toD x.1,.str (S (T.drop x.2))]
 | none=>.non
noncomputable def Beg (self:Fn) (d:Nat):Prop:=∀ (T:List Nat) (st:Sto),(∀ c ∈ T,c < 128)->T.length<=900->self [.d (.str (S T)),.d (.int (d:Int))] st=some (.d (si (pR 6 d T) T),st)
theorem ou (s:Sto) (l:List D):jk s (.d (.tup l)) (.d .non)=some (.bl false):=rfl
section
variable {self:Fn}{d:Nat}{st:Sto}
theorem oX (hs:Beg self d) {T:List Nat}{c:Nat}{t:List Nat}{g:Gw×Int} (hT:T=c::t) (ht:t.length < 1000000) (hc:c < 128) (hg:hdC c=some g):∀ (ks:List D) (U:List Nat) (rs:List Ru) (o2 o5:Option W),(∀ c ∈ U,c < 128)->U.length<=900->rs.length+ks.length<=100->
  (∃ y,pL (pR 6 d) ks.length U=some y/\fS (.nm 5) (bw self) ks [some (.d (.str (S T))),some (.d (.int ((d+1:Nat):Int))),o2,some (.d (.tup (aI rs))),some (.d (.str (S U))),o5] st=some (.rt (.d (.tup [grD g.1 g.2 (aI (rs++y.1)),.str (S (U.drop y.2))])) st))\/
  (pL (pR 6 d) ks.length U=none/\(fS (.nm 5) (bw self) ks [some (.d (.str (S T))),some (.d (.int ((d+1:Nat):Int))),o2,some (.d (.tup (aI rs))),some (.d (.str (S U))),o5] st=some (.rt (.d .non) st)\/∃ e,fS (.nm 5) (bw self) ks [some (.d (.str (S T))),some (.d (.int ((d+1:Nat):Int))),o2,some (.d (.tup (aI rs))),some (.d (.str (S U))),o5] st=some (.nx e st)))
 | [],U,rs,o2,o5,hU,hl,hk=>.inr ⟨rfl,.inr ⟨_,rfl⟩⟩
 | k::ks,U,rs,o2,o5,hU,hl,hk=>by
  rw [List.length_cons] at hk
  have ea:((d+1:Nat):Int) - 1=(d:Int):=by lia
  have hset:dA (.nm 5) (.d k) [some (.d (.str (S T))),some (.d (.int ((d+1:Nat):Int))),o2,some (.d (.tup (aI rs))),some (.d (.str (S U))),o5]=some [some (.d (.str (S T))),some (.d (.int ((d+1:Nat):Int))),o2,some (.d (.tup (aI rs))),some (.d (.str (S U))),some (.d k)]:=rfl
  have eF:∀ r,bw self [some (.d (.str (S T))),some (.d (.int ((d+1:Nat):Int))),o2,some (.d (.tup (aI rs))),some (.d (.str (S U))),some (.d k)] st=some (.rt r st)->fS (.nm 5) (bw self) (k::ks) [some (.d (.str (S T))),some (.d (.int ((d+1:Nat):Int))),o2,some (.d (.tup (aI rs))),some (.d (.str (S U))),o5] st=some (.rt r st):=λr h=>by
   simp only [fS,hset,Option.bind_some,h]
  have eN:∀ e,bw self [some (.d (.str (S T))),some (.d (.int ((d+1:Nat):Int))),o2,some (.d (.tup (aI rs))),some (.d (.str (S U))),some (.d k)] st=some (.nx e st)->fS (.nm 5) (bw self) (k::ks) [some (.d (.str (S T))),some (.d (.int ((d+1:Nat):Int))),o2,some (.d (.tup (aI rs))),some (.d (.str (S U))),o5] st=fS (.nm 5) (bw self) ks e st:=λe h=>by
   simp only [fS,hset,Option.bind_some,h]
  have call:aT (.nm 2) (ar self (ac (iV 4) (ac (iOp cS (iV 1) (iC (.int 1))) ai))) [some (.d (.str (S T))),some (.d (.int ((d+1:Nat):Int))),o2,some (.d (.tup (aI rs))),some (.d (.str (S U))),some (.d k)] st=some (.nx [some (.d (.str (S T))),some (.d (.int ((d+1:Nat):Int))),some (.d (si (pR 6 d U) U)),some (.d (.tup (aI rs))),some (.d (.str (S U))),some (.d k)] st):=by
   have args:ac (iV 4) (ac (iOp cS (iV 1) (iC (.int 1))) ai) [some (.d (.str (S T))),some (.d (.int ((d+1:Nat):Int))),o2,some (.d (.tup (aI rs))),some (.d (.str (S U))),some (.d k)] st=some ([.d (.str (S U)),.d (.int (((d+1:Nat):Int) - 1))],st):=rfl
   rw [ea] at args
   exact bH (aR args (hs U st hU hl))
  rw [List.length_cons]
  cases hx:pR 6 d U with
  | none=>
   rw [hx] at call
   refine .inr ⟨by unfold pL;rw [hx],.inl (eF _ (aA call (dj (dS (s:=st) ?_ rfl))))⟩
   have h1:aG jk (iV 2) (iC .non) [some (.d (.str (S T))),some (.d (.int ((d+1:Nat):Int))),some (.d (si none U)),some (.d (.tup (aI rs))),some (.d (.str (S U))),some (.d k)] st=some (true,st):=bg rfl rfl (jz st)
   simp only [ci,h1,Option.bind_some,if_true]
  | some x=>
   rw [hx] at call
   have call':aT (.nm 2) (ar self (ac (iV 4) (ac (iOp cS (iV 1) (iC (.int 1))) ai))) [some (.d (.str (S T))),some (.d (.int ((d+1:Nat):Int))),o2,some (.d (.tup (aI rs))),some (.d (.str (S U))),some (.d k)] st=some (.nx [some (.d (.str (S T))),some (.d (.int ((d+1:Nat):Int))),some (.d (.tup [toD x.1,.str (S (U.drop x.2))])),some (.d (.tup (aI rs))),some (.d (.str (S U))),some (.d k)] st):=call
   obtain⟨f1,f2,f3,f4⟩:=iz 6 d U x hx
   generalize hUd:U.drop x.2=V at *
   have hV:V.length<=900:=by rw [<-hUd,List.length_drop];lia
   have hVa:∀ c ∈ V,c < 128:=λc hc=>hU c (by rw [<-hUd] at hc;exact List.mem_of_mem_drop hc)
   generalize hE:[some (W.d (.str (S T))),some (.d (.int ((d+1:Nat):Int))),some (.d (.tup [toD x.1,.str (S V)])),some (.d (.tup (aI rs))),some (.d (.str (S U))),some (.d k)]=E at *
   have vix:iOp dIx (iV 2) (iC (.int 1)) E st=some (.d (.str (S V)),st):=by subst hE;exact aF rfl rfl (ix1 _ _ _ _)
   have t1:ci (aG jk (iV 2) (iC .non)) (aG cA (cQ (iOp dIx (iV 2) (iC (.int 1))) iPn (iPs (iC (.int 1)))) (aE (ac (iC (.str " ")) (ac (iC (.str ")")) ai)))) E st=some (!(decide (V.take 1=[32]) || decide (V.take 1=[41])),st):=by
    have h1:aG jk (iV 2) (iC .non) E st=some (false,st):=by subst hE;exact bg rfl rfl (ou st _)
    have h2:=nc (l:=V.take 1) (qu (lo:=iPn) (hi:=iPs (iC (.int 1))) (by lia) vix rfl rfl u5)
    simp only [ci,h1,h2,Option.bind_some,Bool.false_eq_true,if_false]
   cases V with
   | nil=>
    refine .inr ⟨by unfold pL;rw [hx];dsimp only;rw [hUd],.inl (eF _ (aA call' (dj (dS t1 rfl))))⟩
   | cons e u=>
    have he:e < 128:=hVa e List.mem_cons_self
    have hul:=fJ hUd
    have par:lK 3 4 (ac (iOp aP (iV 3) (aE (ac (iOp dIx (iV 2) (iC (.int 0))) ai))) (ac (cQ (iOp dIx (iV 2) (iC (.int 1))) (iPs (iC (.int 1))) iPn) ai)) E st=some (.nx [some (.d (.str (S T))),some (.d (.int ((d+1:Nat):Int))),some (.d (.tup [toD x.1,.str (S (e::u))])),some (.d (.tup (aI (rs++[x.1])))),some (.d (.str (S u))),some (.d k)] st):=by
     have a1:iOp aP (iV 3) (aE (ac (iOp dIx (iV 2) (iC (.int 0))) ai)) E st=some (.d (.tup (aI (rs++[x.1]))),st):=by
      rw [show aI (rs++[x.1])=aI rs++[toD x.1] by rw [dq,dq,List.map_append];rfl]
      subst hE
      exact aF rfl (gU (aq (aF rfl rfl (ix0 _ _ _)) rfl) rfl (by show 1<=1000;decide)) (sJ st (by rw [dq,List.length_map];simp;lia))
     have a2:cQ (iOp dIx (iV 2) (iC (.int 1))) (iPs (iC (.int 1))) iPn E st=some (.d (.str (S u)),st):=qu (by lia) vix rfl rfl (jK (T:=e::u) (k:=1))
     have:=aq a1 (aq a2 (show ai E st=_ from rfl))
     simp only [lK,this,Option.bind_some]
     subst hE;rfl
    have te:aG dEq (iOp dIx (iOp dIx (iV 2) (iC (.int 1))) (iC (.int 0))) (iC (.str ")")) [some (.d (.str (S T))),some (.d (.int ((d+1:Nat):Int))),some (.d (.tup [toD x.1,.str (S (e::u))])),some (.d (.tup (aI (rs++[x.1])))),some (.d (.str (S u))),some (.d k)] st=some (decide ([e]=[41]),st):=
     bg (aF (aF rfl rfl (ix1 _ _ _ _)) rfl (wq st (by lia))) rfl (eqS st [e] [41])
    by_cases e1:e=32
    ·subst e1
     have hb:bw self [some (.d (.str (S T))),some (.d (.int ((d+1:Nat):Int))),o2,some (.d (.tup (aI rs))),some (.d (.str (S U))),some (.d k)] st=some (.nx [some (.d (.str (S T))),some (.d (.int ((d+1:Nat):Int))),some (.d (.tup [toD x.1,.str (S (32::u))])),some (.d (.tup (aI (rs++[x.1])))),some (.d (.str (S u))),some (.d k)] st):=
      aA call' (aA (ba t1 rfl) (aA par (ba te rfl)))
     have hp:pL (pR 6 d) (ks.length+1) U=(pL (pR 6 d) ks.length u).map λy=>(x.1::y.1,x.2+1+y.2):=by conv=>lhs;unfold pL;rw [hx];dsimp only;rw [hUd];dsimp only;rw [if_pos rfl]
     have hdr:∀ n,U.drop (x.2+1+n)=u.drop n:=λn=>by rw [<-List.drop_drop,<-List.drop_drop,hUd];rfl
     rw [hp,eN _ hb]
     rcases oX hs hT ht hc hg ks u (rs++[x.1]) (some (.d (.tup [toD x.1,.str (S (32::u))]))) (some (.d k)) (λc hc=>hVa c (List.mem_cons_of_mem _ hc)) (by lia) (by rw [List.length_append,List.length_singleton];lia) with⟨y,h1,h2⟩ | ⟨h1,h2⟩
     ·refine .inl ⟨_,by rw [h1];rfl,?_⟩
      rw [h2]
      show _=some (Fl.rt (.d (.tup [grD g.1 g.2 (aI (rs++(x.1::y.1))),.str (S (U.drop (x.2+1+y.2)))])) st)
      rw [hdr,List.append_assoc,List.singleton_append]
     ·exact .inr ⟨by rw [h1];rfl,h2⟩
    ·by_cases e2:e=41
     ·subst e2
      have mk:=rf (st:=st) (ds:=aI (rs++[x.1])) hc hg
      have r1:aX (aE (ac (ar eM (ac (iOp dIx (iV 0) (iC (.int 0))) (ac (iV 3) ai))) (ac (iV 4) ai))) [some (.d (.str (S T))),some (.d (.int ((d+1:Nat):Int))),some (.d (.tup [toD x.1,.str (S (41::u))])),some (.d (.tup (aI (rs++[x.1])))),some (.d (.str (S u))),some (.d k)] st=some (.rt (.d (.tup [grD g.1 g.2 (aI (rs++[x.1])),.str (S u)])) st):=by
       subst hT
       exact bL (gU (aq (aR (aq (aF rfl rfl (wq st ht)) (aq rfl rfl)) mk) (aq rfl rfl)) rfl (by show 2<=1000;decide))
      refine .inl ⟨([x.1],x.2+1),by unfold pL;rw [hx];dsimp only;rw [hUd];dsimp only;rw [if_neg (by decide),if_pos rfl],?_⟩
      show _=some (Fl.rt (.d (.tup [grD g.1 g.2 (aI (rs++[x.1])),.str (S (U.drop (x.2+1)))])) st)
      rw [show U.drop (x.2+1)=u by rw [<-List.drop_drop,hUd];rfl]
      exact eF _ (aA call' (aA (ba t1 rfl) (aA par (dS te r1))))
     ·have hbb:(!(decide ((e::u).take 1=[32]) || decide ((e::u).take 1=[41])))=true:=by
       show (!(decide ([e]=[32]) || decide ([e]=[41])))=true
       simp [e1,e2]
      rw [hbb] at t1
      exact .inr ⟨by unfold pL;rw [hx];dsimp only;rw [hUd];dsimp only;rw [if_neg e1,if_neg e2],.inl (eF _ (aA call' (dj (dS t1 rfl))))⟩
end
theorem z9 {n:Nat}:Beg (bd (n+1)) 0:=by
 intro T st ha hl
 refine cJ (n:=6) (k:=2) (b:=cO (bd n)) rfl (dj (dS (s:=st) ?_ rfl))
 have h1:aG dEq (iV 1) (iC (.int 0)) [some (.d (.str (S T))),some (.d (.int ((0:Nat):Int))),none,none,none,none] st=some (true,st):=bg rfl rfl (by rw [ni];rfl)
 show ci (aG dEq (iV 1) (iC (.int 0))) _ [some (.d (.str (S T))),some (.d (.int ((0:Nat):Int))),none,none,none,none] st=_
 simp only [ci,h1,Option.bind_some,if_true]
theorem zB {n d:Nat} (hs:Beg (bd n) d):Beg (bd (n+1)) (d+1):=by
 intro T st ha hl
 have ea:((d+1:Nat):Int) - 1=(d:Int):=by lia
 generalize hE:[some (W.d (.str (S T))),some (.d (.int ((d+1:Nat):Int))),none,none,none,none]=E
 have fin:∀ x,cO (bd n) E st=some (.rt (.d x) st)->bd (n+1) [.d (.str (S T)),.d (.int ((d+1:Nat):Int))] st=some (.d x,st):=λx h=>by
  subst hE
  exact cJ (n:=6) (k:=2) (b:=cO (bd n)) rfl h
 refine fin _ ?_
 have h1:aG dEq (iV 1) (iC (.int 0)) E st=some (false,st):=by
  subst hE
  refine bg rfl rfl ?_
  rw [ni,beq_eq_false_iff_ne.mpr (by lia)]
 have v0:iV 0 E st=some (.d (.str (S T)),st):=by subst hE;rfl
 have h2:aG dEq (iV 0) (iC (.str "")) E st=some (decide (T=[]),st):=bg v0 rfl (eqS st T [])
 have t0:ci (aG dEq (iV 1) (iC (.int 0))) (aG dEq (iV 0) (iC (.str ""))) E st=some (decide (T=[]),st):=by
  simp only [ci,h1,h2,Option.bind_some,Bool.false_eq_true,if_false]
 cases T with
 | nil=>exact dj (dS t0 rfl)
 | cons c t=>
  have hc:c < 128:=ha c List.mem_cons_self
  rw [List.length_cons] at hl
  have t0:ci (aG dEq (iV 1) (iC (.int 0))) (aG dEq (iV 0) (iC (.str ""))) E st=some (false,st):=t0
  have i0:iOp dIx (iV 0) (iC (.int 0)) E st=some (.d (.str (S [c])),st):=aF v0 rfl (wq st (by lia))
  have s1:cQ (iV 0) (iPs (iC (.int 1))) iPn E st=some (.d (.str (S t)),st):=qu (by rw [List.length_cons];lia) v0 rfl rfl (jK (T:=c::t) (k:=1))
  have tl:aG vY (iOp dIx (iV 0) (iC (.int 0))) (iC (.str "abcdef")) E st=some (decide (97<=c/\c<=102),st):=bg i0 rfl (by show some (D.bl (PySem.Txt.contains "abcdef" (S [c])))=_;rw [wA c hc])
  have tb:aG dEq (iOp dIx (iV 0) (iC (.int 0))) (iC (.str "!")) E st=some (decide ([c]=[33]),st):=bg i0 rfl (eqS st [c] [33])
  by_cases e1:97<=c/\c<=102
  ·rw [decide_eq_true e1] at tl
   have hf:PySem.Txt.find "abcdef" (S [c])=((c - 97:Nat):Int):=by
    have:=pK (c - 97) (by lia)
    rwa [show 97+(c - 97)=c by lia] at this
   have hR:pR 6 (d+1) (c::t)=some (.sw ((c - 97:Nat):Int),1):=by unfold pR;rw [if_pos e1]
   rw [hR]
   show _=some (Fl.rt (.d (.tup [toD (.sw ((c - 97:Nat):Int)),.str (S t)])) st)
   rw [toD]
   exact aA (ba t0 rfl) (dj (dS tl (bL (gU (aq (gU (aq rfl (aq (tj i0 hf) rfl)) rfl (by show 2<=1000;decide)) (aq s1 rfl)) rfl (by show 2<=1000;decide)))))
  ·rw [decide_eq_false e1] at tl
   by_cases e2:c=33
   ·rw [decide_eq_true (by rw [e2])] at tb
    have hR:pR 6 (d+1) (c::t)=(pR 6 d t).map λx=>(.nt x.1,x.2+1):=by conv=>lhs;unfold pR;rw [if_neg e1,if_pos e2]
    rw [hR]
    have args:ac (cQ (iV 0) (iPs (iC (.int 1))) iPn) (ac (iOp cS (iV 1) (iC (.int 1))) ai) E st=some ([.d (.str (S t)),.d (.int (d:Int))],st):=by
     refine aq s1 (aq (x:=.d (.int (d:Int))) ?_ rfl)
     rw [<-ea]
     subst hE;rfl
    have call:=bH (i:=2) (aR args (hs t st (λc hc=>ha c (List.mem_cons_of_mem _ hc)) (by lia)))
    cases hx:pR 6 d t with
    | none=>
     rw [hx] at call
     refine aA (ba t0 rfl) (aA (ba tl rfl) (dj (dS tb (aA call (bL (yA (s:=st) (bg (x:=.d .non) ?_ rfl (jz st)) rfl))))))
     subst hE;rfl
    | some x=>
     rw [hx] at call
     have v2:iV 2 (E.set 2 (some (.d (si (some x) t)))) st=some (.d (.tup [toD x.1,.str (S (t.drop x.2))]),st):=by subst hE;rfl
     refine aA (ba t0 rfl) (aA (ba tl rfl) (dj (dS tb (aA call (bL (yD (s:=st) (bg v2 rfl (ou st _)) ?_))))))
     show _=some (W.d (.tup [toD (.nt x.1),.str (S ((c::t).drop (x.2+1)))]),st)
     rw [toD]
     exact gU (aq (gU (aq rfl (aq (aF v2 rfl (ix0 _ _ _)) rfl)) rfl (by show 2<=1000;decide)) (aq (aF v2 rfl (ix1 _ _ _ _)) rfl)) rfl (by show 2<=1000;decide)
   ·rw [decide_eq_false (by intro z;exact e2 (List.cons.inj z).1)] at tb
    have hR:pR 6 (d+1) (c::t)=match hdC c with | none=>none | some g=>(pB (pR 6 d) 6 t).map λy=>(.gr g.1 g.2 y.1,y.2+1):=by
     conv=>lhs;unfold pR;rw [if_neg e1,if_neg e2]
     all_goals (cases hdC c<;>rfl)
    rw [hR]
    have n1:aG jQ (iOp dIx (iV 0) (iC (.int 0))) (iC (.str "&|^0123456789")) E st=some (!(hdC c).isSome,st):=bg i0 rfl (by show some (D.bl (!PySem.Txt.contains "&|^0123456789" (S [c])))=_;rw [xS c hc])
    have n2:aG dNe (cQ (iV 0) (iPs (iC (.int 1))) (iPs (iC (.int 2)))) (iC (.str "(")) E st=some (!decide (t.take 1=[40]),st):=bg (qu (l:=t.take 1) (by rw [List.length_cons];lia) v0 rfl rfl (qh (T:=c::t) (p:=1) (k:=1))) rfl (neS st (t.take 1) [40])
    have n3:ci (aG jQ (iOp dIx (iV 0) (iC (.int 0))) (iC (.str "&|^0123456789"))) (aG dNe (cQ (iV 0) (iPs (iC (.int 1))) (iPs (iC (.int 2)))) (iC (.str "("))) E st=some (!((hdC c).isSome && decide (t.take 1=[40])),st):=by
     simp only [ci,n1,n2,Option.bind_some]
     cases (hdC c).isSome<;>simp
    cases hg:hdC c with
    | none=>
     rw [hg] at n3
     exact aA (ba t0 rfl) (aA (ba tl rfl) (aA (ba tb rfl) (dj (dS n3 rfl))))
    | some g=>
     rw [hg] at n3
     dsimp only
     by_cases e3:t.take 1=[40]
     ·rw [decide_eq_true e3] at n3
      obtain⟨u,rfl⟩:∃ u,t=40::u:=by
       cases t with
       | nil=>cases e3
       | cons a u=>exact⟨u,by rw [(List.cons.inj e3).1]⟩
      rw [List.length_cons] at hl
      have hua:∀ c ∈ u,c < 128:=λc hc=>ha c (List.mem_cons_of_mem _ (List.mem_cons_of_mem _ hc))
      have hcut2:jX (S (c::40::u)) (some 2) none=S u:=jK (T:=c::40::u) (k:=2)
      have a2:cQ (iV 0) (iPs (iC (.int 2))) iPn E st=some (.d (.str (S u)),st):=qu (by rw [List.length_cons,List.length_cons];lia) v0 rfl rfl hcut2
      have par:lK 3 4 (ac (aE ai) (ac (cQ (iV 0) (iPs (iC (.int 2))) iPn) ai)) E st=some (.nx [some (.d (.str (S (c::40::u)))),some (.d (.int ((d+1:Nat):Int))),none,some (.d (.tup (aI []))),some (.d (.str (S u))),none] st):=by
       have:=aq (a:=aE ai) (env:=E) (st:=st) (x:=.d (.tup [])) rfl (aq a2 (show ai E st=_ from rfl))
       simp only [lK,this,Option.bind_some]
       subst hE;rw [aI];rfl
      have tr:aG dEq (cQ (iV 4) iPn (iPs (iC (.int 1)))) (iC (.str ")")) [some (.d (.str (S (c::40::u)))),some (.d (.int ((d+1:Nat):Int))),none,some (.d (.tup (aI []))),some (.d (.str (S u))),none] st=some (decide (u.take 1=[41]),st):=
       bg (qu (lo:=iPn) (hi:=iPs (iC (.int 1))) (by lia) rfl rfl rfl u5) rfl (eqS st (u.take 1) [41])
      by_cases e4:u.take 1=[41]
      ·obtain⟨v,rfl⟩:∃ v,u=41::v:=by
        cases u with
        | nil=>cases e4
        | cons a v=>exact⟨v,by rw [(List.cons.inj e4).1]⟩
       rw [decide_eq_true e4] at tr
       have hB:pB (pR 6 d) 6 (40::41::v)=some ([],2):=rfl
       rw [hB]
       show _=some (Fl.rt (.d (.tup [toD (.gr g.1 g.2 []),.str (S v)])) st)
       have mk:=rf (st:=st) (ds:=[]) hc hg
       rw [toD,aI]
       refine aA (ba t0 rfl) (aA (ba tl rfl) (aA (ba tb rfl) (aA (ba n3 rfl) (aA par (dj (dS tr (bL (gU (aq (aR (aq (aF rfl rfl (wq st (by rw [List.length_cons];lia))) (aq rfl rfl)) mk) (aq (qu (by lia) rfl rfl rfl (jK (T:=41::v) (k:=1))) rfl)) rfl (by show 2<=1000;decide)))))))))
      ·rw [decide_eq_false e4] at tr
       have hB:pB (pR 6 d) 6 (40::u)=(pL (pR 6 d) 6 u).map λy=>(y.1,y.2+1):=by
        unfold pB
        rw [if_neg (by intro z;cases u with | nil=>cases z | cons a v=>exact e4 (List.cons.inj z).2),if_pos e3];rfl
       rw [hB]
       have hr6:dB (ac (iC (.int 6)) ai) [some (.d (.str (S (c::40::u)))),some (.d (.int ((d+1:Nat):Int))),none,some (.d (.tup (aI []))),some (.d (.str (S u))),none] st=some (gO 0 6,st):=me (z:=6) (m:=6) rfl (by decide) (by decide) rfl
       have hr6l:(gO 0 6).length=6:=by rw [gu]
       rcases oX (st:=st) (T:=c::40::u) (t:=40::u) hs rfl (by rw [List.length_cons];lia) hc hg (gO 0 6) u [] none none hua (by lia) (by rw [hr6l];decide) with⟨y,h1,h2⟩ | ⟨h1,h2 | ⟨e,h2⟩⟩
       ·rw [hr6l] at h1
        rw [h1]
        show _=some (Fl.rt (.d (.tup [toD (.gr g.1 g.2 y.1),.str (S (u.drop y.2))])) st)
        rw [toD]
        exact aA (ba t0 rfl) (aA (ba tl rfl) (aA (ba tb rfl) (aA (ba n3 rfl) (aA par (aA (ba tr rfl) (dj (gF hr6 h2)))))))
       ·rw [hr6l] at h1
        rw [h1]
        exact aA (ba t0 rfl) (aA (ba tl rfl) (aA (ba tb rfl) (aA (ba n3 rfl) (aA par (aA (ba tr rfl) (dj (gF hr6 h2)))))))
       ·rw [hr6l] at h1
        rw [h1]
        exact aA (ba t0 rfl) (aA (ba tl rfl) (aA (ba tb rfl) (aA (ba n3 rfl) (aA par (aA (ba tr rfl) (aA (gF hr6 h2) rfl))))))
     ·rw [decide_eq_false e3,Bool.and_false] at n3
      have hB:pB (pR 6 d) 6 t=none:=by
       unfold pB
       rw [if_neg (by intro z;apply e3;cases t with | nil=>cases z | cons a v=>show [a]=[40];rw [(List.cons.inj z).1]),if_neg e3]
      rw [hB]
      exact aA (ba t0 rfl) (aA (ba tl rfl) (aA (ba tb rfl) (dj (dS n3 rfl))))
theorem yO:∀ d n,Beg (bd (n+d+1)) d
 | 0,n=>z9
 | d+1,n=>zB (yO d n)
theorem hdT {s:Sto}{x w:Str}{l:List D}{e:Ev}{b:Bool} (h:(x==w)=b):aG dEq (iOp dIx (iV 0) (iC (.int 0))) (iC (.str w)) (some (.d (.tup (.str x::l)))::e) s=some (b,s):=
 bg (aF rfl rfl (ix0 s _ l)) rfl (by rw [xm,h])
theorem uj (g:Gw) (k:Int) (ds:List D):∃ l,grD g k ds=.tup (.str g.wd::l):=by cases g<;>exact⟨_,rfl⟩
theorem o9 (s:Sto) (g:Gw) (k:Int) (ds:List D):dIx s (.d (grD g k ds)) (.d (.int (-1)))=some (.tup ds):=by
 cases g
 ·exact so s _ _
 ·exact so s _ _
 ·exact so s _ _
 ·exact Ab s _ _ _
theorem xg (g:Gw):(g.wd==("switch" : Str))=false:=by cases g<;>decide +kernel
theorem xl (g:Gw):(g.wd==("not" : Str))=false:=by cases g<;>decide +kernel
theorem oW:∀ rs:List Ru,(rs.map cnt).sum=cq rs
 | []=>by rw [cq];rfl
 | r::rs=>by rw [cq,List.map_cons,List.sum_cons,oW rs]
theorem nY {st:Sto}:∀ (n:Nat) (r:Ru),dep r<=n->dP 6 r->bK n [.d (toD r)] st=some (.d (.int (cnt r)),st)
 | 0,r,h,_=>by have:=n5 r;lia
 | n+1,r,hd,hg=>by
  refine cJ (n:=1) (k:=1) (b:=fR (bK n)) rfl ?_
  cases r with
  | sw k=>rw [toD,cnt];exact dj (dS (hdT (beq_self_eq_true _)) rfl)
  | nt q=>
   rw [dP] at hg
   rw [dep] at hd
   have e:=nY (st:=st) n q (by lia) hg
   rw [toD,cnt]
   generalize toD q=Q at e ⊢
   exact aA (ba (hdT fX) rfl) (dj (dS (hdT (beq_self_eq_true _)) (bL (aF rfl (aR (aq (aF rfl rfl (ix1 _ _ _ _)) rfl) e) rfl))))
  | gr g k rs=>
   rw [dP] at hg
   rw [dep] at hd
   have hmap:lcI (.nm 0) fj (gJ (bK n)) [none] (aI rs) st=some (rs.map λr=>D.int (cnt r),st):=uk (λr=>D.int (cnt r)) λq hq=>
    aR (ws:=[.d (toD q)]) rfl (nY n q (jF (by lia:d7 rs<=n) q hq) (kc hg.2.2.2 q hq))
   have htl:(aI rs).length<=1000000:=by rw [dq,List.length_map];have:=hg.2.2.1;lia
   obtain⟨l,hl⟩:=uj g k (aI rs)
   have hlast:=o9 st g k (aI rs)
   rw [toD,cnt]
   have e1:cf (iOp dIx (iV 0) (iUn iu (iC (.int 1)))) [some (.d (grD g k (aI rs)))] st=some (aI rs,st):=mI (aF rfl rfl hlast)
   have e2:iCB v8 (ac (aJ (iLc 1 [] (cf (iOp dIx (iV 0) (iUn iu (iC (.int 1))))) (.nm 0) fj (gJ (bK n)))) ai) [some (.d (grD g k (aI rs)))] st=some (.d (.int (cq rs)),st):=by
    refine fG (aq (dv (ka e1 htl hmap)) rfl) ?_
    have:=zl st (rs.map cnt)
    rw [List.map_map,oW] at this
    exact this
   rw [hl] at e2 ⊢
   exact aA (ba (hdT (xg g)) rfl) (aA (ba (hdT (xl g)) rfl) (bL (aF rfl e2 rfl)))
theorem yo {l:List Nat}{st:Sto} (ha:∀ c ∈ l,c < 128) (hz:l.length<=900):gg [.d (.str (S l))] st=some (.d (gR l),st):=by
 have hb:=yO 6 0 l st ha hz
 rw [qq 900 6 l hz] at hb
 refine cJ (n:=2) (k:=1) (b:=h9) rfl ?_
 have call:=bH (i:=1) (aR (a:=ac (iV 0) (ac (iC (.int 6)) ai)) (env:=[some (.d (.str (S l))),none]) (ws:=[.d (.str (S l)),.d (.int ((6:Nat):Int))]) rfl hb)
 unfold gR
 cases hx:pR 900 6 l with
 | none=>
  rw [hx] at call
  refine aA call (dj (dS (s:=st) ?_ rfl))
  have h1:aG jk (iV 1) (iC .non) ([some (.d (.str (S l))),none].set 1 (some (.d (si (Option.bind none ku) l)))) st=some (true,st):=bg (x:=.d .non) rfl rfl (jz st)
  simp only [ci,h1,Option.bind_some,if_true]
 | some x=>
  obtain⟨f1,f2,f3,f4⟩:=iz 900 6 l x hx
  rw [hx] at call
  have hbi:Option.bind (some x) ku=if wid x.1=true then some x else none:=rfl
  rw [hbi] at call
  show _=some (Fl.rt (.d (if okB l x=true then .lst [toD x.1] else .str "no text")) st)
  unfold okB
  cases hw:wid x.1 with
  | false=>
   rw [hw] at call
   rw [Bool.false_and,Bool.and_false]
   refine aA call (dj (dS (s:=st) ?_ rfl))
   have h1:aG jk (iV 1) (iC .non) ([some (.d (.str (S l))),none].set 1 (some (.d (si (if false=true then some x else none) l)))) st=some (true,st):=bg (x:=.d .non) rfl rfl (jz st)
   simp only [ci,h1,Option.bind_some,if_true]
  | true=>
   rw [hw] at call
   have hgd:=lm x.1 f2 hw
   have em:=nY (st:=st) 7 x.1 (by lia) hgd
   have call':aT (.nm 1) (ar (bd 7) (ac (iV 0) (ac (iC (.int 6)) ai))) [some (.d (.str (S l))),none] st=some (.nx [some (.d (.str (S l))),some (.d (.tup [toD x.1,.str (S (l.drop x.2))]))] st):=call
   have ed:decide (l.drop x.2=[])=decide (x.2=l.length):=by
    rw [Bool.eq_iff_iff];simp [List.drop_eq_nil_iff];lia
   have t1:ci (aG jk (iV 1) (iC .non)) (ci (aG dNe (iOp dIx (iV 1) (iC (.int 1))) (iC (.str ""))) (aG dGt (ar (bK 7) (ac (iOp dIx (iV 1) (iC (.int 0))) ai)) (iC (.int 40)))) [some (.d (.str (S l))),some (.d (.tup [toD x.1,.str (S (l.drop x.2))]))] st=some (!(decide (x.2=l.length) && (true && decide (cnt x.1<=40))),st):=by
    have h1:aG jk (iV 1) (iC .non) [some (.d (.str (S l))),some (.d (.tup [toD x.1,.str (S (l.drop x.2))]))] st=some (false,st):=bg rfl rfl (ou st _)
    have h2:aG dNe (iOp dIx (iV 1) (iC (.int 1))) (iC (.str "")) [some (.d (.str (S l))),some (.d (.tup [toD x.1,.str (S (l.drop x.2))]))] st=some (!decide (x.2=l.length),st):=by
     rw [<-ed]
     exact bg (aF rfl rfl (ix1 _ _ _ _)) rfl (neS st (l.drop x.2) [])
    have h3:aG dGt (ar (bK 7) (ac (iOp dIx (iV 1) (iC (.int 0))) ai)) (iC (.int 40)) [some (.d (.str (S l))),some (.d (.tup [toD x.1,.str (S (l.drop x.2))]))] st=some (!decide (cnt x.1<=40),st):=by
     refine bg (aR (aq (aF rfl rfl (ix0 _ _ _)) rfl) em) rfl ?_
     show some (D.bl (decide (cnt x.1 > 40)))=_
     rw [show decide (cnt x.1 > 40)=!decide (cnt x.1<=40) by rw [Bool.eq_iff_iff];simp]
    simp only [ci,h1,h2,h3,Option.bind_some,Bool.false_eq_true,if_false]
    cases decide (x.2=l.length)<;>simp
   cases hb2:(decide (x.2=l.length) && (true && decide (cnt x.1<=40))) with
   | true=>
    rw [hb2] at t1
    refine aA call' (aA (ba t1 rfl) (bL ?_))
    rw [if_pos rfl]
    refine dv ?_
    have:=aq (a:=iOp dIx (iV 1) (iC (.int 0))) (b:=ai) (env:=[some (.d (.str (S l))),some (.d (.tup [toD x.1,.str (S (l.drop x.2))]))]) (st:=st) (aF rfl rfl (ix0 _ _ _)) rfl
    simp only [bv,this,Option.bind_some];rfl
   | false=>
    rw [hb2] at t1
    exact aA call' (dj (dS t1 rfl))
end Own
end
section
set_option maxHeartbeats 1000000
namespace Own
open PySem L2
noncomputable def Stq (n l:Nat) (c:Int) (st st':Sto):Prop:=st'.length=st.length/\cC st' n/\st'[l]?=some (.l [.int c])/\∀ m,m≠n->m≠l->st'[m]?=st[m]?
theorem Stq.trans {n l:Nat}{c c':Int}{a b d:Sto} (h:Stq n l c a b) (h':Stq n l c' b d):Stq n l c' a d:=⟨h'.1.trans h.1,h'.2.1,h'.2.2.1,λm h1 h2=>(h'.2.2.2 m h1 h2).trans (h.2.2.2 m h1 h2)⟩
theorem _root_.L2.Stp.stq {n l:Nat}{c:Int}{a b:Sto} (h:Stp n a b) (hl:a[l]?=some (.l [.int c])) (hn:n≠l):Stq n l c a b:=⟨h.len,h.hand,by rw [h.get (Ne.symm hn)];exact hl,λm h1 _=>h.get h1⟩
theorem wK {a s:Sto}{u:C} (hl:s.length=a.length+1) (h:s[a.length]?=some u):s=s.take a.length++[u]:=by
 have h1:s.drop a.length=[u]:=by
  rw [List.drop_eq_getElem_cons (by lia)]
  have e:s[a.length]'(by lia)=u:=by
   rw [List.getElem?_eq_getElem (by lia)] at h
   exact Option.some.inj h
  rw [e,List.drop_eq_nil_of_le (by lia)]
 rw [<-h1,List.take_append_drop]
noncomputable def nM (f:Nat):Prop:=∀ {st:Sto}{n l:Nat}{deep most c:Int},n≠l->cC st n->st[l]?=some (.l [.int c])->1<=c->1<=deep->deep<=f->0 < most->most<=6->
 ∃ r st' c',dP most r/\dep r<=deep.toNat/\0<=c'/\cnt r=c - c'/\Stq n l c' st st'/\bb f [.h n,.h l,.d (.int deep),.d (.int most)] st=some (.d (toD r),st')
theorem su {f:Nat} (ih:nM f) {n l:Nat}{deep most c0:Int}{s2:Sto}{e4:Option W} (hnl:n≠l) (hd0:2<=deep) (hd:deep - 1<=f) (m0:0 < most) (m1:most<=6) (hh:cC s2 n) (hl:s2[l]?=some (.l [.int c0])) (hc0:0<=c0) {cn:Nat}{o6 o7:Option W} (hc:cn<=100) {b0:Sto} (q0:Stq n l c0 s2 b0) :
  ∃ env' s',fS (.nm 6) (dz (bb f)) (gO 0 cn) [some (.h n),some (.h l),some (.d (.int deep)),some (.d (.int most)),e4,some (.h s2.length),o6,o7] (b0++[.l []])=some (.nx env' s')/\
   ∃ b rs c o6',env'=[some (.h n),some (.h l),some (.d (.int deep)),some (.d (.int most)),e4,some (.h s2.length),o6',o7]/\s'=b++[.l (aI rs)]/\Stq n l c s2 b/\db most rs/\d7 rs<=(deep - 1).toNat/\rs.length<=cn/\0<=c/\cq rs=c0 - c:=by
 have hn2:n < s2.length:=hh.lt
 have hl2:l < s2.length:=(List.getElem?_eq_some_iff.mp hl).1
 have key:=iJ (g:=.nm 6) (body:=dz (bb f)) (ds:=gO 0 cn)
  (λi env s=>∃ b rs c o6',env=[some (.h n),some (.h l),some (.d (.int deep)),some (.d (.int most)),e4,some (.h s2.length),o6',o7]/\s=b++[.l (aI rs)]/\Stq n l c s2 b/\db most rs/\d7 rs<=(deep - 1).toNat/\rs.length<=i/\0<=c/\cq rs=c0 - c)
  (env:=[some (.h n),some (.h l),some (.d (.int deep)),some (.d (.int most)),e4,some (.h s2.length),o6,o7]) (st:=b0++[.l []]) ⟨b0,[],c0,o6,rfl,by rw [aI],q0,by rw [db];trivial,by rw [d7];lia,Nat.le_refl _,hc0,by rw [cq];lia⟩ (λi d env s hdi ⟨b,rs,c,o6',e,es,q,hg,hdp,hx,hcc,hcn⟩=>by
   subst e es
   have hi:i < cn:=(wX hdi).2
   have hlb:b.length=s2.length:=q.1
   have hcl:(b++[.l (aI rs)])[l]?=some (.l [.int c]):=by rw [List.getElem?_append_left (by lia)];exact q.2.2.1
   by_cases h0:0 < c
   ·obtain⟨r,s3,c3,gr,dr,c30,c31,q3,e3⟩:=ih hnl (q.2.1.app [.l (aI rs)]) hcl (by lia) (deep:=deep - 1) (by lia) hd m0 m1
    have hlen3:s3.length=b.length+1:=by rw [q3.1,List.length_append];rfl
    have g3:s3[b.length]?=some (.l (aI rs)):=by
     rw [q3.2.2.2 b.length (by lia) (by lia),List.getElem?_append_right (Nat.le_refl _)];simp
    have es3:=wK hlen3 g3
    have q3':Stq n l c3 b (s3.take b.length):=by
     refine⟨by rw [List.length_take];lia,?_,?_,λm h1 h2=>?_⟩
     ·obtain⟨x,y,z,x0,e⟩:=q3.2.1
      exact⟨x,y,z,x0,by rw [List.getElem?_take_of_lt (by lia)];exact e⟩
     ·rw [List.getElem?_take_of_lt (by lia)];exact q3.2.2.1
     ·by_cases hm:m < b.length
      ·rw [List.getElem?_take_of_lt hm,q3.2.2.2 m h1 h2,List.getElem?_append_left hm]
      ·rw [List.getElem?_eq_none (by rw [List.length_take];lia),List.getElem?_eq_none (by lia)]
    have etd:aI (rs++[r])=aI rs++[toD r]:=by rw [dq,dq,List.map_append];rfl
    refine⟨_,[some (.h n),some (.h l),some (.d (.int deep)),some (.d (.int most)),e4,some (.h s2.length),some (.d d),o7],s3.take b.length++[.l (aI (rs++[r]))],rfl,.inl ?_,s3.take b.length,rs++[r],c3,_,rfl,rfl,q.trans q3',mH hg gr,pI hdp dr,?_,c30,?_⟩
    ·have hset:s3.set s2.length (.l (aI rs++[toD r]))=s3.take b.length++[.l (aI rs++[toD r])]:=by
      conv=>lhs;rw [es3]
      rw [<-hlb,List.set_append_right _ _ (by rw [List.length_take];lia),List.length_take,Nat.min_eq_left (by lia),Nat.sub_self]
      rfl
     have g3':s3[s2.length]?=some (.l (aI rs)):=by rw [<-hlb];exact g3
     have g0:(b++[C.l (aI rs)])[s2.length]?=some (.l (aI rs)):=by rw [<-hlb,List.getElem?_append_right (Nat.le_refl _)];simp
     have hxl:(aI rs).length < 1000000:=by rw [dq,List.length_map];lia
     rw [etd]
     generalize aI rs=TD at hcl e3 g3' g0 hxl hset ⊢
     generalize toD r=td at e3 hset ⊢
     simp only [dz,iV,iC,iOp,aG,ai,ac,ar,aM,iB,bc,iq,dD,cB,dIx,cS,dGt,d9,Option.bind_some,Option.map_some,List.getD_cons_zero,List.getD_cons_succ,List.set_cons_zero,List.set_cons_succ,if_true,gZ,decide_true,lg,hcl,h0,e3,g3',g0,hxl,hset]
    ·rw [List.length_append];simp;lia
    ·rw [oD];lia
   ·refine⟨_,[some (.h n),some (.h l),some (.d (.int deep)),some (.d (.int most)),e4,some (.h s2.length),some (.d d),o7],b++[.l (aI rs)],rfl,.inl ?_,b,rs,c,_,rfl,rfl,q,hg,hdp,by lia,hcc,hcn⟩
    generalize aI rs=TD at hcl ⊢
    simp only [dz,iV,iC,iOp,aG,ai,ac,ar,aM,iB,bc,iq,dD,cB,dIx,cS,dGt,d9,Option.bind_some,Option.map_some,List.getD_cons_zero,List.getD_cons_succ,List.set_cons_zero,List.set_cons_succ,if_false,Bool.false_eq_true,gZ,decide_false,lg,hcl,h0])
 rw [gu] at key
 exact key
set_option maxHeartbeats 4000000 in
theorem sq {f:Nat}{n l:Nat}{deep most way r4 m cn c:Int}{st b3 b4 b5:Sto}{rs:List Ru}{g:Gw}{o6:Option W} (hd0:2<=deep)
  (e3:aB [.h n,.d (.int 4)] (st++[.l []])=some (.d (.int r4),b3++[.l []])) (hm:atI [D.int 4,.int 4,.int 4,.int 7] r4=some (.int m)) (e4:aB [.h n,.d (.int m)] (b3++[.l []])=some (.d (.int cn),b4++[.l []])) (hcn:-(2 ^ 62)<=cn/\cn < 2 ^ 62)
  (e5:fS (.nm 6) (dz (bb f)) (gO 0 cn.toNat) [some (.h n),some (.h l),some (.d (.int deep)),some (.d (.int most)),some (.d (.int way)),some (.h st.length),none,none] (b4++[.l []])=some (.nx [some (.h n),some (.h l),some (.d (.int deep)),some (.d (.int most)),some (.d (.int way)),some (.h st.length),o6,none] (b5++[.l (aI rs)])))
  (hw:atI [D.str "all",.str "any",.str "odd",.str "least",.str "all",.str "any"] (way - 2)=some (.str g.wd)) (q5:Stq n l c st b5) (hnl:n≠l) (hg:db most rs) (hdp:d7 rs<=(deep - 1).toNat) (hrl:rs.length<=6) :
  ∃ r b8,dP most r/\dep r<=deep.toNat/\cnt r=1+cq rs/\Stq n l c b5 b8/\cN (bb f) [some (.h n),some (.h l),some (.d (.int deep)),some (.d (.int most)),some (.d (.int way)),none,none,none] st=some (.rt (.d (toD r)) (b8++[.l (aI rs)])):=by
 have hxl:(aI rs).length=rs.length:=by rw [dq,List.length_map]
 have g5:∀ b:Sto,b.length=st.length->(b++[.l (aI rs)])[st.length]?=some (.l (aI rs)):=λb hb=>by rw [<-hb,List.getElem?_append_right (Nat.le_refl _)];simp
 have hgd:∀ k,0<=k->k<=9->dP most (.gr g k rs):=λk k0 k1=>by rw [dP];exact⟨k0,k1,hrl,hg⟩
 have hdd:∀ k,dep (.gr g k rs)<=deep.toNat:=λk=>by rw [dep];lia
 have hcc:∀ k,cnt (.gr g k rs)=1+cq rs:=λk=>by rw [cnt]
 have g55:=g5 b5 q5.1
 cases g with
 | all=>
  refine⟨.gr .all 0 rs,b5,hgd 0 (by decide) (by decide),hdd 0,hcc 0,⟨rfl,q5.2.1,q5.2.2.1,λ_ _ _=>rfl⟩,?_⟩
  rw [toD]
  generalize aI rs=TD at e5 g55 ⊢
  unfold Gw.wd at hw
  simp only [grD,cN,d5,iV,iC,iOp,aG,ai,ac,iCB,ar,aE,bv,aJ,hX,aM,av,aT,aX,bc,jt,dB,dA,d2,dD,cB,lsD,dIx,aP,cS,iF,dEq,cM,eqK,eqD,du,oI,Option.bind_some,Option.map_some,List.getD_cons_zero,List.getD_cons_succ,List.set_cons_zero,List.set_cons_succ,List.length_cons,List.length_nil,Nat.reduceAdd,if_true,if_false,Bool.false_eq_true,Nat.zero_add,and_self,lg,Nat.zero_le,Nat.reduceLeDiff,kD,e3,hm,e4,hcn,e5,hw,g55,Nat.reduceLeDiff]
 | any=>
  refine⟨.gr .any 0 rs,b5,hgd 0 (by decide) (by decide),hdd 0,hcc 0,⟨rfl,q5.2.1,q5.2.2.1,λ_ _ _=>rfl⟩,?_⟩
  rw [toD]
  generalize aI rs=TD at e5 g55 ⊢
  unfold Gw.wd at hw
  simp only [grD,cN,d5,iV,iC,iOp,aG,ai,ac,iCB,ar,aE,bv,aJ,hX,aM,av,aT,aX,bc,jt,dB,dA,d2,dD,cB,lsD,dIx,aP,cS,iF,dEq,cM,eqK,eqD,du,oI,Option.bind_some,Option.map_some,List.getD_cons_zero,List.getD_cons_succ,List.set_cons_zero,List.set_cons_succ,List.length_cons,List.length_nil,Nat.reduceAdd,if_true,if_false,Bool.false_eq_true,Nat.zero_add,and_self,lg,Nat.zero_le,Nat.reduceLeDiff,kN,e3,hm,e4,hcn,e5,hw,g55,Nat.reduceLeDiff]
 | odd=>
  refine⟨.gr .odd 0 rs,b5,hgd 0 (by decide) (by decide),hdd 0,hcc 0,⟨rfl,q5.2.1,q5.2.2.1,λ_ _ _=>rfl⟩,?_⟩
  rw [toD]
  generalize aI rs=TD at e5 g55 ⊢
  unfold Gw.wd at hw
  simp only [grD,cN,d5,iV,iC,iOp,aG,ai,ac,iCB,ar,aE,bv,aJ,hX,aM,av,aT,aX,bc,jt,dB,dA,d2,dD,cB,lsD,dIx,aP,cS,iF,dEq,cM,eqK,eqD,du,oI,Option.bind_some,Option.map_some,List.getD_cons_zero,List.getD_cons_succ,List.set_cons_zero,List.set_cons_succ,List.length_cons,List.length_nil,Nat.reduceAdd,if_true,if_false,Bool.false_eq_true,Nat.zero_add,and_self,lg,Nat.zero_le,Nat.reduceLeDiff,kM,e3,hm,e4,hcn,e5,hw,g55,Nat.reduceLeDiff]
 | least=>
  obtain⟨r6,s6,d0,d1,t6,e6⟩:=cH (q5.2.1.app [.l (aI rs)]) (m:=4) (by decide) (by decide)
  obtain⟨b6,rfl,u6⟩:=t6.unapp q5.2.1.lt
  have hk:∃ k:Int,atI [D.int (((aI rs).length:Int)+2),.int 10] (r6 / 3)=some (.int k)/\0 < k/\k<=10:=by
   have:r6 / 3=0\/r6 / 3=1:=by lia
   rcases this with h | h
   ·rw [h];exact⟨_,rfl,by lia,by lia⟩
   ·rw [h];exact⟨_,rfl,by decide,by decide⟩
  obtain⟨k,hk,k0,k1⟩:=hk
  obtain⟨r8,s8,g0,g1,t8,e8⟩:=cH (u6.hand.app [.l (aI rs)]) (m:=k) k0 (by lia)
  obtain⟨b8,rfl,u8⟩:=t8.unapp u6.hand.lt
  have q6:=u6.stq q5.2.2.1 hnl
  have q8:=q6.trans (u8.stq q6.2.2.1 hnl)
  refine⟨.gr .least r8 rs,b8,hgd r8 g0 (by lia),hdd r8,hcc r8,q8,?_⟩
  have h3:(0:Int) < 3/\(3:Int) < 1073741824:=by decide
  have g58:=g5 b8 (by rw [q8.1,q5.1])
  rw [toD]
  generalize aI rs=TD at e5 g55 g58 e6 e8 hk ⊢
  unfold Gw.wd at hw
  simp only [grD,cN,d5,iV,iC,iOp,aG,ai,ac,iCB,ar,aE,bv,aJ,hX,aM,av,aT,aX,bc,jt,dB,dA,d2,dD,cB,lsD,dIx,aP,cS,iF,dEq,cM,eqK,eqD,du,oI,Option.bind_some,Option.map_some,List.getD_cons_zero,List.getD_cons_succ,List.set_cons_zero,List.set_cons_succ,List.length_cons,List.length_nil,Nat.reduceAdd,if_true,Nat.zero_add,and_self,lg,Nat.zero_le,Nat.reduceLeDiff,e3,hm,e4,hcn,e5,hw,g55,e6,h3,hk,e8,g58,beq_self_eq_true,Nat.reduceLeDiff]
set_option maxHeartbeats 4000000 in
theorem rV (f:Nat) (ih:nM f):nM (f+1):=by
 intro st n l deep most c hnl hh hc hc1 hd1 hd m0 m1
 have hll:l < st.length:=(List.getElem?_eq_some_iff.mp hc).1
 have h1:cC (st.set l (.l [.int (c - 1)])) n:=by
  obtain⟨x,y,z,x0,e⟩:=hh
  exact⟨x,y,z,x0,by rw [List.getElem?_set_ne (Ne.symm hnl)];exact e⟩
 have hl1:(st.set l (.l [.int (c - 1)]))[l]?=some (.l [.int (c - 1)]):=lq hll
 have q1:Stq n l (c - 1) st (st.set l (.l [.int (c - 1)])):=⟨List.length_set,h1,hl1,λm _ h2=>List.getElem?_set_ne (Ne.symm h2)⟩
 obtain⟨way,s2,w0,w1,t2,e2⟩:=cH h1 (m:=8) (by decide) (by decide)
 have q2:=q1.trans (t2.stq hl1 hnl)
 have hl2:s2[l]?=some (.l [.int (c - 1)]):=q2.2.2.1
 have hm0:(most==0)=false:=beq_eq_false_iff_ne.mpr (by lia)
 have take2:s2.take st.length=s2:=by rw [<-q2.1,List.take_length]
 -- a leaf
 have leaf:(decide (deep < 2)=true\/(decide (deep < 2)=false/\decide (c - 1 < 1)=true)\/(decide (deep < 2)=false/\decide (c - 1 < 1)=false/\(way==0)=true))->
   ∃ r st' c',dP most r/\dep r<=deep.toNat/\0<=c'/\cnt r=c - c'/\Stq n l c' st st'/\bb (f+1) [.h n,.h l,.d (.int deep),.d (.int most)] st=some (.d (toD r),st'):=by
  intro hcond
  cases h3:(way==3) with
  | true=>
   obtain⟨r,s3,r0,r1,t3,e3⟩:=cH t2.hand (m:=10) (by decide) (by decide)
   obtain⟨d,s4,hd4,t4,e4⟩:=on (ds:=[.tup [.str "all",.tup []],.tup [.str "any",.tup []],.tup [.str "odd",.tup []],.tup [.str "least",.int r,.tup []]]) t3.hand (by simp) (by simp)
   have q4:=(q2.trans (t3.stq q2.2.2.1 hnl)).trans (t4.stq (t3.stq q2.2.2.1 hnl).2.2.1 hnl)
   have take4:s4.take st.length=s4:=by rw [<-q4.1,List.take_length]
   have hr:∃ g:Gw,∃ k:Int,0<=k/\k<=9/\d=toD (.gr g k []):=by
    simp only [List.mem_cons,List.not_mem_nil,or_false] at hd4
    rcases hd4 with rfl | rfl | rfl | rfl
    ·exact⟨.all,0,by decide,by decide,by rw [toD,aI];rfl⟩
    ·exact⟨.any,0,by decide,by decide,by rw [toD,aI];rfl⟩
    ·exact⟨.odd,0,by decide,by decide,by rw [toD,aI];rfl⟩
    ·exact⟨.least,r,r0,by lia,by rw [toD,aI];rfl⟩
   obtain⟨g,k,k0,k1,rfl⟩:=hr
   refine⟨.gr g k [],s4,c - 1,by rw [dP,db];exact⟨k0,k1,by simp,trivial⟩,by rw [dep,d7];lia,by lia,by rw [cnt,cq];lia,q4,?_⟩
   generalize toD (.gr g k [])=d at e4 ⊢
   show gw 8 4 (bq (bb f)) _ _=_
   rcases hcond with a1 | ⟨a1,a2⟩ | ⟨a1,a2,a3⟩
   ·simp only [bq,iV,iC,iOp,aG,ci,ai,ac,ar,aE,bv,aJ,aM,av,aT,gT,d3,aX,bc,gw,j9,dA,d2,dD,cB,dIx,cS,dLt,dEq,cM,eqK,eqD,Option.bind_some,Option.map_some,List.getD_cons_zero,List.getD_cons_succ,List.set_cons_zero,List.set_cons_succ,List.map_cons,List.map_nil,List.length_cons,List.length_nil,List.replicate_succ,List.replicate_zero,List.cons_append,List.nil_append,Nat.reduceAdd,Nat.reduceSub,if_true,if_false,Bool.false_eq_true,gZ,mE,Nat.zero_add,lg,Nat.zero_le,Nat.reduceLeDiff,hc,e2,hl2,h3,hm0,a1,e3,e4,take4,Nat.reduceLeDiff]
   ·simp only [bq,iV,iC,iOp,aG,ci,ai,ac,ar,aE,bv,aJ,aM,av,aT,gT,d3,aX,bc,gw,j9,dA,d2,dD,cB,dIx,cS,dLt,dEq,cM,eqK,eqD,Option.bind_some,Option.map_some,List.getD_cons_zero,List.getD_cons_succ,List.set_cons_zero,List.set_cons_succ,List.map_cons,List.map_nil,List.length_cons,List.length_nil,List.replicate_succ,List.replicate_zero,List.cons_append,List.nil_append,Nat.reduceAdd,Nat.reduceSub,if_true,if_false,Bool.false_eq_true,gZ,mE,Nat.zero_add,lg,Nat.zero_le,Nat.reduceLeDiff,hc,e2,hl2,h3,hm0,a1,a2,e3,e4,take4,Nat.reduceLeDiff]
   ·simp only [bq,iV,iC,iOp,aG,ci,ai,ac,ar,aE,bv,aJ,aM,av,aT,gT,d3,aX,bc,gw,j9,dA,d2,dD,cB,dIx,cS,dLt,dEq,cM,eqK,eqD,Option.bind_some,Option.map_some,List.getD_cons_zero,List.getD_cons_succ,List.set_cons_zero,List.set_cons_succ,List.map_cons,List.map_nil,List.length_cons,List.length_nil,List.replicate_succ,List.replicate_zero,List.cons_append,List.nil_append,Nat.reduceAdd,Nat.reduceSub,if_true,if_false,Bool.false_eq_true,gZ,mE,Nat.zero_add,lg,Nat.zero_le,Nat.reduceLeDiff,hc,e2,hl2,h3,hm0,a1,a2,a3,e3,e4,take4,Nat.reduceLeDiff]
  | false=>
   obtain⟨r,s3,r0,r1,t3,e3⟩:=cH t2.hand (m:=most) m0 (by lia)
   have q3:=q2.trans (t3.stq q2.2.2.1 hnl)
   have take3:s3.take st.length=s3:=by rw [<-q3.1,List.take_length]
   refine⟨.sw r,s3,c - 1,by rw [dP];exact⟨r0,r1⟩,by rw [dep];lia,by lia,by rw [cnt];lia,q3,?_⟩
   rw [toD]
   show gw 8 4 (bq (bb f)) _ _=_
   rcases hcond with a1 | ⟨a1,a2⟩ | ⟨a1,a2,a3⟩
   ·simp only [bq,iV,iC,iOp,aG,ci,ai,ac,ar,aE,bv,aJ,aM,av,aT,gT,d3,aX,bc,gw,j9,dA,d2,dD,cB,dIx,cS,dLt,dEq,cM,eqK,eqD,Option.bind_some,Option.map_some,List.getD_cons_zero,List.getD_cons_succ,List.set_cons_zero,List.set_cons_succ,List.map_cons,List.map_nil,List.length_cons,List.length_nil,List.replicate_succ,List.replicate_zero,List.cons_append,List.nil_append,Nat.reduceAdd,Nat.reduceSub,if_true,if_false,Bool.false_eq_true,gZ,mE,Nat.zero_add,lg,Nat.zero_le,Nat.reduceLeDiff,hc,e2,hl2,h3,hm0,a1,e3,take3,Nat.reduceLeDiff]
   ·simp only [bq,iV,iC,iOp,aG,ci,ai,ac,ar,aE,bv,aJ,aM,av,aT,gT,d3,aX,bc,gw,j9,dA,d2,dD,cB,dIx,cS,dLt,dEq,cM,eqK,eqD,Option.bind_some,Option.map_some,List.getD_cons_zero,List.getD_cons_succ,List.set_cons_zero,List.set_cons_succ,List.map_cons,List.map_nil,List.length_cons,List.length_nil,List.replicate_succ,List.replicate_zero,List.cons_append,List.nil_append,Nat.reduceAdd,Nat.reduceSub,if_true,if_false,Bool.false_eq_true,gZ,mE,Nat.zero_add,lg,Nat.zero_le,Nat.reduceLeDiff,hc,e2,hl2,h3,hm0,a1,a2,e3,take3,Nat.reduceLeDiff]
   ·simp only [bq,iV,iC,iOp,aG,ci,ai,ac,ar,aE,bv,aJ,aM,av,aT,gT,d3,aX,bc,gw,j9,dA,d2,dD,cB,dIx,cS,dLt,dEq,cM,eqK,eqD,Option.bind_some,Option.map_some,List.getD_cons_zero,List.getD_cons_succ,List.set_cons_zero,List.set_cons_succ,List.map_cons,List.map_nil,List.length_cons,List.length_nil,List.replicate_succ,List.replicate_zero,List.cons_append,List.nil_append,Nat.reduceAdd,Nat.reduceSub,if_true,if_false,Bool.false_eq_true,gZ,mE,Nat.zero_add,lg,Nat.zero_le,Nat.reduceLeDiff,hc,e2,hl2,h3,hm0,a1,a2,a3,e3,take3,Nat.reduceLeDiff]
 cases a1:decide (deep < 2) with
 | true=>exact leaf (.inl a1)
 | false=>
  cases a2:decide (c - 1 < 1) with
  | true=>exact leaf (.inr (.inl ⟨a1,a2⟩))
  | false=>
   cases a3:(way==0) with
   | true=>exact leaf (.inr (.inr ⟨a1,a2,a3⟩))
   | false=>
    have hd2:¬ deep < 2:=of_decide_eq_false a1
    have hc2:¬ c - 1 < 1:=of_decide_eq_false a2
    have hw0:way≠0:=by intro z;rw [z] at a3;cases a3
    cases a4:(way==1) with
    | true=>
     obtain⟨r,s3,c3,gr,dr,c30,c31,q3,e3⟩:=ih hnl q2.2.1 q2.2.2.1 (by lia) (deep:=deep - 1) (by lia) (by lia) m0 m1
     have q3':=q2.trans q3
     have take3:s3.take st.length=s3:=by rw [<-q3'.1,List.take_length]
     refine⟨.nt r,s3,c3,by rw [dP];exact gr,by rw [dep];lia,c30,by rw [cnt];lia,q3',?_⟩
     rw [toD]
     generalize toD r=x at e3 ⊢
     show gw 8 4 (bq (bb f)) _ _=_
     simp only [bq,iV,iC,iOp,aG,ci,ai,ac,ar,aE,bv,aJ,aM,av,aT,gT,d3,aX,bc,gw,j9,dA,d2,dD,cB,dIx,cS,dLt,dEq,cM,eqK,eqD,Option.bind_some,Option.map_some,List.getD_cons_zero,List.getD_cons_succ,List.set_cons_zero,List.set_cons_succ,List.map_cons,List.map_nil,List.length_cons,List.length_nil,List.replicate_succ,List.replicate_zero,List.cons_append,List.nil_append,Nat.reduceAdd,Nat.reduceSub,if_true,if_false,Bool.false_eq_true,gZ,mE,Nat.zero_add,lg,Nat.zero_le,Nat.reduceLeDiff,hc,e2,hl2,hm0,a1,a2,a3,a4,e3,take3,Nat.reduceLeDiff]
    | false=>
     have hw1:way≠1:=by intro z;rw [z] at a4;cases a4
     obtain⟨r4,s3,r0,r1,t3,e3⟩:=cH (t2.hand.app [.l []]) (m:=4) (by decide) (by decide)
     obtain⟨b3,rfl,u3⟩:=t3.unapp t2.hand.lt
     have hm4:∃ m:Int,atI [D.int 4,.int 4,.int 4,.int 7] r4=some (.int m)/\0 < m/\m<=7:=by
      have:r4=0\/r4=1\/r4=2\/r4=3:=by lia
      rcases this with rfl | rfl | rfl | rfl<;>exact⟨_,rfl,by decide,by decide⟩
     obtain⟨m,hm,mm0,mm1⟩:=hm4
     obtain⟨cn,s4,c0,c1,t4,e4⟩:=cH (u3.hand.app [.l []]) (m:=m) mm0 (by lia)
     obtain⟨b4,rfl,u4⟩:=t4.unapp u3.hand.lt
     have q4:=(u3.stq q2.2.2.1 hnl).trans (u4.stq (u3.stq q2.2.2.1 hnl).2.2.1 hnl)
     obtain⟨env',s5,e5,b5,rs,c5,o6,rfl,rfl,q5,hg5,hdp5,hl5,c50,c51⟩:=su ih hnl (deep:=deep) (by lia) (by lia) m0 m1 t2.hand q2.2.2.1 (by lia) (cn:=cn.toNat) (o6:=none) (o7:=none) (e4:=some (.d (.int way))) (by lia) q4
     have hs2:s2.length=st.length:=q2.1
     have hcn:-(2 ^ 62)<=cn/\cn < 2 ^ 62:=by lia
     have hmw:∃ g:Gw,atI [D.str "all",.str "any",.str "odd",.str "least",.str "all",.str "any"] (way - 2)=some (.str g.wd):=by
      have:way - 2=0\/way - 2=1\/way - 2=2\/way - 2=3\/way - 2=4\/way - 2=5:=by lia
      rcases this with h | h | h | h | h | h
      ·rw [h];exact⟨.all,rfl⟩
      ·rw [h];exact⟨.any,rfl⟩
      ·rw [h];exact⟨.odd,rfl⟩
      ·rw [h];exact⟨.least,rfl⟩
      ·rw [h];exact⟨.all,rfl⟩
      ·rw [h];exact⟨.any,rfl⟩
     obtain⟨g,hw⟩:=hmw
     have pre:bb (f+1) [.h n,.h l,.d (.int deep),.d (.int most)] st=gw 8 4 (λ_ _=>cN (bb f) [some (.h n),some (.h l),some (.d (.int deep)),some (.d (.int most)),some (.d (.int way)),none,none,none] s2) [.h n,.h l,.d (.int deep),.d (.int most)] st:=by
      show gw 8 4 (bq (bb f)) _ _=_
      simp only [bq,iV,iC,iOp,aG,ci,ai,ac,ar,aE,bv,aJ,aM,av,aT,gT,d3,aX,bc,gw,j9,dA,d2,dD,cB,dIx,cS,dLt,dEq,cM,eqK,eqD,Option.bind_some,Option.map_some,List.getD_cons_zero,List.getD_cons_succ,List.set_cons_zero,List.set_cons_succ,List.map_cons,List.map_nil,List.length_cons,List.length_nil,List.replicate_succ,List.replicate_zero,List.cons_append,List.nil_append,Nat.reduceAdd,Nat.reduceSub,if_true,if_false,Bool.false_eq_true,gZ,mE,Nat.zero_add,lg,Nat.zero_le,Nat.reduceLeDiff,hc,e2,hl2,hm0,a1,a2,a3,a4]
     obtain⟨r,b8,gr,dr,cr,q8,e9⟩:=sq (f:=f) (st:=s2) (deep:=deep) (most:=most) (way:=way) (by lia) e3 hm e4 hcn e5 hw q5 hnl hg5 hdp5 (by lia)
     have take8:(b8++[C.l (aI rs)]).take st.length=b8:=by rw [<-hs2,<-(q5.trans q8).1];simp
     refine⟨r,b8,c5,gr,dr,c50,by rw [cr];lia,q2.trans (q5.trans q8),?_⟩
     rw [pre]
     simp only [gw,e9,j9,List.length_cons,List.length_nil,Nat.reduceAdd,ite_true,Option.bind_some,take8]
theorem rule_at:∀ f:Nat,nM f
 | 0=>by
  intro _ _ _ _ h1 h2 _ _
  exact absurd (Int.le_trans h1 h2) (by decide)
 | f+1=>rV f (rule_at f)
end Own
end
section
set_option maxHeartbeats 1000000
namespace Own
open PySem L2
noncomputable def mkC (g:Gw) (k:Int):Nat:=match g with | .all=>38 | .any=>124 | .odd=>94 | .least=>48+k.toNat
mutual
noncomputable def tx:Ru->List Nat
 | .sw k=>[97+k.toNat]
 | .nt r=>33::tx r
 | .gr g k rs=>mkC g k::40::(txs rs++[41])
noncomputable def txs:List Ru->List Nat
 | []=>[]
 | r::rs=>tx r++tl rs
noncomputable def tl:List Ru->List Nat
 | []=>[]
 | r::rs=>32::(tx r++tl rs)
end
theorem vO:∀ rs:List Ru,Txt.join " " (rs.map λr=>S (tx r))=S (txs rs):=by
 intro rs
 show Builtin.Str.glued " " _=_
 rw [PySem.StrLaws.glued_eq_join]
 induction rs with
 | nil=>rw [txs];rfl
 | cons r rs ih=>
  cases rs with
  | nil=>rw [txs,tl,List.append_nil];rfl
  | cons q rs=>
   rw [txs] at ih
   rw [txs,tl,List.map_cons,List.map_cons]
   show S (tx r)++S [32]++Str.join " " (S (tx q)::rs.map λr=>S (tx r))=_
   rw [List.map_cons] at ih
   rw [ih,pj,pj,List.append_assoc];rfl
mutual
theorem kg:∀ r:Ru,((tx r).length:Int)+1<=4*cnt r
 | .sw k=>by rw [tx,cnt,List.length_singleton];decide
 | .nt r=>by
  have:=kg r
  rw [tx,cnt,List.length_cons];lia
 | .gr g k rs=>by
  have:=qN rs
  rw [tx,cnt,List.length_cons,List.length_cons,List.length_append];simp;lia
theorem qN:∀ rs:List Ru,((txs rs).length:Int)<=4*cq rs
 | []=>by rw [txs,cq];decide
 | r::rs=>by
  have:=kg r
  have:=uJ rs
  rw [txs,cq,List.length_append];lia
theorem uJ:∀ rs:List Ru,((tl rs).length:Int)<=4*cq rs
 | []=>by rw [tl,cq];decide
 | r::rs=>by
  have:=kg r
  have:=uJ rs
  rw [tl,cq,List.length_cons,List.length_append];lia
end
mutual
theorem lc:∀ r:Ru,1<=cnt r
 | .sw _=>by rw [cnt];decide
 | .nt r=>by have:=lc r;rw [cnt];lia
 | .gr _ _ rs=>by have:=nF rs;rw [cnt];lia
theorem nF:∀ rs:List Ru,0<=cq rs
 | []=>by rw [cq];decide
 | r::rs=>by have:=lc r;have:=nF rs;rw [cq];lia
end
theorem vP {g:Gw}{k:Int} (h:k<=9):mkC g k < 128/\mkC g k≠41/\mkC g k≠33/\¬ (97<=mkC g k/\mkC g k<=102):=by
 cases g<;>simp only [mkC]<;>lia
mutual
theorem nU:∀ r:Ru,dP 6 r->∀ c ∈ tx r,c < 128
 | .sw k,h,c,hc=>by
  rw [dP] at h
  rw [tx] at hc
  have:=List.mem_singleton.mp hc
  lia
 | .nt r,h,c,hc=>by
  rw [dP] at h
  rw [tx] at hc
  rcases List.mem_cons.mp hc with rfl | hc
  ·decide
  ·exact nU r h c hc
 | .gr g k rs,h,c,hc=>by
  rw [dP] at h
  rw [tx] at hc
  rcases List.mem_cons.mp hc with rfl | hc
  ·exact (vP h.2.1).1
  rcases List.mem_cons.mp hc with rfl | hc
  ·decide
  rcases List.mem_append.mp hc with hc | hc
  ·exact wD rs h.2.2.2 c hc
  ·have:=List.mem_singleton.mp hc;lia
theorem wD:∀ rs:List Ru,db 6 rs->∀ c ∈ txs rs,c < 128
 | [],_,c,hc=>by rw [txs] at hc;cases hc
 | r::rs,h,c,hc=>by
  rw [db] at h
  rw [txs] at hc
  rcases List.mem_append.mp hc with hc | hc
  ·exact nU r h.1 c hc
  ·exact uZ rs h.2 c hc
theorem uZ:∀ rs:List Ru,db 6 rs->∀ c ∈ tl rs,c < 128
 | [],_,c,hc=>by rw [tl] at hc;cases hc
 | r::rs,h,c,hc=>by
  rw [db] at h
  rw [tl] at hc
  rcases List.mem_cons.mp hc with rfl | hc
  ·decide
  rcases List.mem_append.mp hc with hc | hc
  ·exact nU r h.1 c hc
  ·exact uZ rs h.2 c hc
end
mutual
theorem tP:∀ r:Ru,dP 6 r->rpD (toD r)=true/\(wtD (toD r):Int)+2<=3000*cnt r/\dpD (toD r)<=2*dep r
 | .sw k,h=>by
  rw [dP] at h
  have hl:k.natAbs.log2 < 1920:=by
   have:k.natAbs.log2<=k.natAbs:=Nat.log2_le_self _
   lia
  rw [toD,cnt,dep]
  have hz:(reprText ("switch" : Str)).length<=20:=by decide +kernel
  simp only [rpD,jj,wtD,kW,dpD,kP,decide_eq_true hl,Bool.and_true]
  refine⟨trivial,?_,by decide⟩
  lia
 | .nt r,h=>by
  rw [dP] at h
  obtain⟨h1,h2,h3⟩:=tP r h
  have hz:(reprText ("not" : Str)).length<=20:=by decide +kernel
  rw [toD,cnt,dep]
  simp only [rpD,jj,wtD,kW,dpD,kP,h1,Bool.and_true]
  refine⟨trivial,?_,?_⟩<;>lia
 | .gr g k rs,h=>by
  rw [dP] at h
  obtain⟨h1,h2,h3⟩:=qA rs h.2.2.2
  have hl:k.natAbs.log2 < 1920:=by
   have:k.natAbs.log2<=k.natAbs:=Nat.log2_le_self _
   lia
  rw [toD,cnt,dep]
  have z1:(reprText ("all" : Str)).length<=20:=by decide +kernel
  have z2:(reprText ("any" : Str)).length<=20:=by decide +kernel
  have z3:(reprText ("odd" : Str)).length<=20:=by decide +kernel
  have z4:(reprText ("least" : Str)).length<=20:=by decide +kernel
  cases g<;>(simp only [grD,rpD,jj,wtD,kW,dpD,kP,h1,decide_eq_true hl,Bool.and_true];refine⟨trivial,?_,?_⟩<;>lia)
theorem qA:∀ rs:List Ru,db 6 rs->jj (aI rs)=true/\(kW (aI rs):Int)<=3000*cq rs/\kP (aI rs)<=2*d7 rs
 | [],_=>by rw [aI,cq,d7];exact⟨rfl,by decide,by decide⟩
 | r::rs,h=>by
  rw [db] at h
  obtain⟨h1,h2,h3⟩:=tP r h.1
  obtain⟨g1,g2,g3⟩:=qA rs h.2
  have:=lc r
  rw [aI,cq,d7]
  simp only [jj,kW,kP,h1,g1,Bool.and_true]
  refine⟨trivial,?_,?_⟩<;>lia
end
theorem qf {s:Sto}{a b:List Nat} (h:a.length+b.length<=1000000):aP s (.d (.str (S a))) (.d (.str (S b)))=some (.str (S (a++b))):=by
 show (if (S a).length+(S b).length<=1000000 then some (D.str (S a++S b)) else none)=_
 rw [gY,gY,if_pos h,pj]
theorem xv {s:Sto}{k:Int} (h0:0<=k) (h1:k < 6):dIx s (.d (.str "abcdef")) (.d (.int k))=some (.str (S [97+k.toNat])):=by
 have:k=0\/k=1\/k=2\/k=3\/k=4\/k=5:=by lia
 rcases this with rfl | rfl | rfl | rfl | rfl | rfl<;>rfl
noncomputable def yR (self:Fn) (mk:Ef) (te:Ef):Sf:=(av (bc (aG dEq (iOp dIx (iV 0) (iC (.int 0))) (iC (.str "switch"))) (aX (iOp dIx (iC (.str "abcdef")) (iOp dIx (iV 0) (iC (.int 1))))) aM) (av (bc (aG dEq (iOp dIx (iV 0) (iC (.int 0))) (iC (.str "not"))) (aX (iOp aP (iC (.str "!")) (ar self (ac (iOp dIx (iV 0) (iC (.int 1))) ai)))) aM) (av (aT (.nm 1) mk) (aX (iOp aP (iOp aP (iOp aP (iV 1) (iC (.str "("))) (hG (iC (.str " ")) (ac (aJ (iLc 1 [] (cf (iOp dIx (iV 0) (iUn iu (iC (.int 1))))) (.nm 0) fj te)) ai))) (iC (.str ")")))))))
theorem qL:∀ rs:List Ru,jd (rs.map λr=>D.str (S (tx r)))=some (rs.map λr=>S (tx r))
 | []=>rfl
 | r::rs=>by rw [List.map_cons,jd,qL rs];rfl
theorem tQ:∀ rs:List Ru,((((rs.map λr=>S (tx r)).map (·.length)).sum:Nat):Int)<=4*cq rs
 | []=>by rw [cq];decide
 | r::rs=>by
  have h1:=kg r
  have h2:=tQ rs
  rw [cq,List.map_cons,List.map_cons,List.sum_cons,gY]
  push_cast
  lia
theorem oO:∀ {rs:List Ru}{r:Ru},r ∈ rs->cnt r<=cq rs
 | x::rs,r,h=>by
  have h1:=lc x
  have h2:=nF rs
  rw [cq]
  rcases List.mem_cons.mp h with rfl | h
  ·lia
  ·have:=oO h;lia
theorem sS {self:Fn}{mk te:Ef}{n:Nat}{st:Sto} (hs:∀ q,dep q<=n->dP 6 q->cnt q<=100->self [.d (toD q)] st=some (.d (.str (S (tx q))),st))
  (hte:te=ar self (ac (iV 0) ai)) (hmk:∀ g k rs,dP 6 (.gr g k rs)->d7 rs<=n->cq rs<=100->mk [some (.d (toD (.gr g k rs))),none] st=some (.d (.str (S [mkC g k])),st)) :
  ∀ r:Ru,dep r<=n+1->dP 6 r->cnt r<=100->yR self mk te [some (.d (toD r)),none] st=some (.rt (.d (.str (S (tx r)))) st)
 | .sw k,hd,hg,hc=>by
  rw [dP] at hg
  rw [toD,tx]
  exact qZ (xj (hdT (beq_self_eq_true _)) (bL (aF rfl (aF rfl rfl (ix1 st _ _ _)) (xv hg.1 hg.2))))
 | .nt r,hd,hg,hc=>by
  rw [dP] at hg
  rw [dep] at hd
  rw [cnt] at hc
  have e:=hs r (by lia) hg (by lia)
  have hl:=kg r
  rw [toD,tx]
  refine lh (ug (hdT fX) rfl) (qZ (xj (hdT (beq_self_eq_true _)) (bL (aF rfl (aR (aq (aF rfl rfl (ix1 st _ _ _)) rfl) e) ?_))))
  exact qf (a:=[33]) (by simp;lia)
 | .gr g k rs,hd,hg,hc=>by
  have hm:=hmk g k rs hg (by rw [dep] at hd;lia) (by rw [cnt] at hc;lia)
  rw [dP] at hg
  rw [dep] at hd
  rw [cnt] at hc
  have hlen:=qN rs
  have hsum:=tQ rs
  have hmap:lcI (.nm 0) fj te [none] (aI rs) st=some (rs.map λr=>D.str (S (tx r)),st):=uk (λr=>D.str (S (tx r))) λq hq=>by
   rw [hte]
   exact aR rfl (hs q (jF (by lia:d7 rs<=n) q hq) (kc hg.2.2.2 q hq) (by have:=oO hq;lia))
  have hok:JoinOk (" " : Str) (rs.map λr=>S (tx r))=true:=by
   refine PyProof.Rows.joinOk_of_weight ?_ (by decide)
   rw [List.length_map]
   lia
  obtain⟨l,hl⟩:=uj g k (aI rs)
  have hlast:=o9 st g k (aI rs)
  have htl:(aI rs).length<=1000000:=by rw [dq,List.length_map];lia
  rw [toD] at hm ⊢
  rw [tx]
  generalize aI rs=TD at *
  have e1:cf (iOp dIx (iV 0) (iUn iu (iC (.int 1)))) [some (.d (grD g k TD)),some (.d (.str (S [mkC g k])))] st=some (TD,st):=by
   have:iOp dIx (iV 0) (iUn iu (iC (.int 1))) [some (.d (grD g k TD)),some (.d (.str (S [mkC g k])))] st=some (.d (.tup TD),st):=aF rfl rfl hlast
   simp only [cf,this,Option.bind_some]
  have e2:aJ (iLc 1 [] (cf (iOp dIx (iV 0) (iUn iu (iC (.int 1))))) (.nm 0) fj te) [some (.d (grD g k TD)),some (.d (.str (S [mkC g k])))] st=some (.d (.lst (rs.map λr=>D.str (S (tx r)))),st):=dv (ka e1 htl hmap)
  have e3:hG (iC (.str " ")) (ac (aJ (iLc 1 [] (cf (iOp dIx (iV 0) (iUn iu (iC (.int 1))))) (.nm 0) fj te)) ai) [some (.d (grD g k TD)),some (.d (.str (S [mkC g k])))] st=some (.d (.str (S (txs rs))),st):=by
   have h1:iC (.str " ") [some (.d (grD g k TD)),some (.d (.str (S [mkC g k])))] st=some (.d (.str " "),st):=rfl
   have h2:ac (aJ (iLc 1 [] (cf (iOp dIx (iV 0) (iUn iu (iC (.int 1))))) (.nm 0) fj te)) ai [some (.d (grD g k TD)),some (.d (.str (S [mkC g k])))] st=some ([.d (.lst (rs.map λr=>D.str (S (tx r))))],st):=aq e2 rfl
   simp only [hG,h1,h2,Option.bind_some,qL,hok,if_true,vO]
  rw [hl] at hm e3 ⊢
  refine lh (ug (hdT (xg g)) rfl) (lh (ug (hdT (xl g)) rfl) (lh (bH hm) (bL (aF (aF (aF rfl rfl (qf (b:=[40]) (by simp))) e3 (qf ?_)) rfl ?_))))
  ·simp;lia
  ·have:=qf (s:=st) (a:=[mkC g k]++[40]++txs rs) (b:=[41]) (by simp;lia)
   rw [show [mkC g k]++[40]++txs rs++[41]=mkC g k::40::(txs rs++[41]) by simp] at this
   exact this
theorem yS {k:Int} (h0:0<=k) (h1:k<=9) (s:Sto):kH s [.d (.int k)]=some (.str (S [48+k.toNat])):=by
 have hl:k.natAbs.log2 < 1920:=by
  have:k.natAbs.log2<=k.natAbs:=Nat.log2_le_self _
  lia
 show (if k.natAbs.log2 < 1920 then some (D.str (toString k)) else none)=_
 rw [if_pos hl]
 have:k=0\/k=1\/k=2\/k=3\/k=4\/k=5\/k=6\/k=7\/k=8\/k=9:=by lia
 rcases this with rfl | rfl | rfl | rfl | rfl | rfl | rfl | rfl | rfl | rfl<;>rfl
theorem oj {kvs:List (Str×Str)}{a b:Ef}{env:Ev}{st s1 s2:Sto}{z v:Str}{y:W} (ha:a env st=some (.d (.str z),s1)) (hb:b env s1=some (y,s2)) (h:atT z kvs=some v):lR kvs a b env st=some (.d (.str v),s2):=by
 simp only [lR,ha,hb,Option.bind_some,h]
theorem vt {kvs:List (Str×Str)}{a b:Ef}{env:Ev}{st s1 s2:Sto}{z:Str}{y:W} (ha:a env st=some (.d (.str z),s1)) (hb:b env s1=some (y,s2)) (h:atT z kvs=none):lR kvs a b env st=some (y,s2):=by
 simp only [lR,ha,hb,Option.bind_some,h]
theorem AG {s:Sto}{rs:List Ru} (hg:db 6 rs) (hd:d7 rs<=9) (hc:cq rs<=100):∃ x,kH s [.d (.tup (aI rs))]=some x:=by
 obtain⟨h1,h2,h3⟩:=qA rs hg
 refine⟨.str (toP (.tup (aI rs))).shown,?_⟩
 show gp s [.d (.tup (aI rs))]=_
 have c:rpD (.tup (aI rs))=true/\wtD (.tup (aI rs))<=16000000/\dpD (.tup (aI rs))<=50:=by
  rw [rpD,wtD,dpD]
  exact⟨h1,by lia,by lia⟩
 simp only [gp]
 rw [if_pos c]
theorem lL {st:Sto}:∀ (n:Nat) (r:Ru),n<=9->dep r<=n->dP 6 r->cnt r<=100->bo n [.d (toD r)] st=some (.d (.str (S (tx r))),st)
 | 0,r,_,h,_,_=>by have:=n5 r;lia
 | n+1,r,hn,hd,hg,hc=>by
  refine cJ (n:=2) (k:=1) (b:=dG (bo n)) rfl ?_
  refine sS (self:=bo n) (te:=gX (bo n)) (λq h1 h2 h3=>lL n q (by lia) h1 h2 h3) rfl (λg k rs hg h4 h5=>?_) r hd hg hc
  rw [dP] at hg
  rw [toD]
  obtain⟨x,hx⟩:=AG (s:=st) hg.2.2.2 (by lia) h5
  generalize aI rs=TD at hx ⊢
  cases g with
  | all=>exact oj (a:=iOp dIx (iV 0) (iC (.int 0))) (b:=iCB kH (ac (iOp dIx (iV 0) (iC (.int 1))) ai)) (aF rfl rfl (ix0 st _ _)) (fG (aq (aF rfl rfl (ix1 st _ _ _)) rfl) hx) rfl
  | any=>exact oj (a:=iOp dIx (iV 0) (iC (.int 0))) (b:=iCB kH (ac (iOp dIx (iV 0) (iC (.int 1))) ai)) (aF rfl rfl (ix0 st _ _)) (fG (aq (aF rfl rfl (ix1 st _ _ _)) rfl) hx) rfl
  | odd=>exact oj (a:=iOp dIx (iV 0) (iC (.int 0))) (b:=iCB kH (ac (iOp dIx (iV 0) (iC (.int 1))) ai)) (aF rfl rfl (ix0 st _ _)) (fG (aq (aF rfl rfl (ix1 st _ _ _)) rfl) hx) rfl
  | least=>exact vt (a:=iOp dIx (iV 0) (iC (.int 0))) (b:=iCB kH (ac (iOp dIx (iV 0) (iC (.int 1))) ai)) (aF rfl rfl (ix0 st _ _)) (fG (aq (aF rfl rfl (ix1 st _ _ _)) rfl) (yS hg.1 hg.2.1 st)) rfl
end Own
end
section
set_option maxHeartbeats 1000000
namespace Own
open PySem L2
theorem eqs (st:Sto) (r:Str):dEq st (.d (.str r)) (.d (.str r))=some (.bl true):=by
 show ((eqK (.fl (.str r)) (.fl (.str r))).map λk=>D.bl k)=_
 show some (D.bl (r==r))=_
 rw [beq_self_eq_true]
noncomputable def SG:Str:=" !\"#$&'()*+,-./0123456789:;<=>?@ABCDEFGHIJKLMNOPQRSTUVWXYZ[\\]^_`abcdefghijklmnopqrstuvwxyz{|}~\n"
theorem pV:SG.cps.toList.length=95/\SG.length=95:=by decide +kernel
theorem yv:∀ c ∈ SG.cps.toList,c < 128:=by decide +kernel
theorem zW {r:Int} (r0:0<=r) (r1:r < 95) (st:Sto):∃ c,c < 128/\dIx st (.d (.str SG)) (.d (.int r))=some (.str (S [c])):=by
 obtain⟨j,rfl⟩:=Int.eq_ofNat_of_zero_le r0
 have hj:j < SG.cps.toList.length:=by rw [pV.1];lia
 refine⟨SG.cps.toList[j],yv _ (List.getElem_mem hj),?_⟩
 show (if SG.length<=1000000 then (atI SG.cps.toList (j:Int)).map λc=>D.str ⟨#[c]⟩ else none)=_
 rw [if_pos (by rw [pV.2];decide),iT (List.getElem?_eq_getElem hj)];rfl
theorem v7 (st:Sto):du st [.d (.str SG)]=some (.int 95):=by
 show (if SG.length<=1000000 then some (D.int (SG.length:Nat)) else none)=_
 rw [pV.2];rfl
noncomputable def Asc (l:List Nat) (n:Nat):Prop:=(∀ c ∈ l,c < 128)/\l.length<=n
theorem Asc.app {a b:List Nat}{m n:Nat} (ha:Asc a m) (hb:Asc b n):Asc (a++b) (m+n):=
 ⟨λc hc=>(List.mem_append.mp hc).elim (ha.1 c) (hb.1 c),by rw [List.length_append];have:=ha.2;have:=hb.2;lia⟩
theorem Asc.cut {l:List Nat}{n:Nat} (h:Asc l n) (lo hi:Option Int):∃ k,jX (S l) lo hi=S k/\Asc k n:=
 ⟨_,rfl,λc hc=>h.1 c (List.mem_of_mem_drop (List.mem_of_mem_take hc)),by
  rw [List.length_take,List.length_drop]
  have:=h.2
  rw [qx];lia⟩
theorem zS {l:List Nat}{e:Ef}{lo hi:Pf}{env:Ev}{st s1 s2 s3:Sto}{a b:Option Int} (hl:l.length<=1000000) (he:e env st=some (.d (.str (S l)),s1)) (h1:lo env s1=some (a,s2)) (h2:hi env s2=some (b,s3)):cQ e lo hi env st=some (.d (.str (jX (S l) a b)),s3):=by
 simp only [cQ,he,h1,h2,Option.bind_some]
 rw [if_pos (by rw [gY];exact hl)]
noncomputable def Ah (near:List D):Prop:=near≠[]/\near.length < 1000/\∀ d ∈ near,∃ k,d=.str (S k)/\Asc k 4
theorem vC {st:Sto}{h:Nat}{l:List Nat}{near:List D} (hh:cC st h) (ha:Asc l 120) (hn:Ah near):∃ l' st',Asc l' 900/\Stp h st st'/\fF [.h h,.d (.str (S l)),.d (.lst near)] st=some (.d (.str (S l')),st'):=by
 obtain⟨t,s1,t0,t1,q1,e1⟩:=cH hh (m:=2) (by decide) (by decide)
 have hrng:dB (ac (iOp aP (iC (.int 1)) (ar aB (ac (iV 0) (ac (iC (.int 2)) ai)))) ai) [some (.h h),some (.d (.str (S l))),some (.d (.lst near)),some (.d (.str SG)),none,none,none,none] st=some (gO 0 (1+t).toNat,s1):=
  me (z:=1+t) (aF rfl (aR rfl e1) rfl) (by lia) (by lia) rfl
 obtain⟨env',st',hF,l',x4,x5,x6,x7,rfl,hb',q'⟩:=iJ (g:=.nm 4) (body:=gj) (ds:=gO 0 (1+t).toNat)
  (λi env s=>∃ l' x4 x5 x6 x7,env=[some (.h h),some (.d (.str (S l'))),some (.d (.lst near)),some (.d (.str SG)),x4,x5,x6,x7]/\Asc l' (2 ^ i*124 - 4)/\Stp h st s)
  (env:=[some (.h h),some (.d (.str (S l))),some (.d (.lst near)),some (.d (.str SG)),none,none,none,none]) (st:=s1) ⟨l,_,_,_,_,rfl,ha,q1⟩ (by
  rintro i d env s hd ⟨l',x4,x5,x6,x7,rfl,hb,q⟩
  have hi2:i < 2:=by
   rw [jM] at hd
   split at hd
   ·rename_i z;lia
   ·cases hd
  have hpow:2 ^ i*124<=248:=by
   have:i=0\/i=1:=by lia
   rcases this with rfl | rfl<;>decide
  have hlen':=hb.2
  have hz:l'.length<=244:=by lia
  have hdl:du s [.d (.str (S l'))]=some (.int (l'.length:Nat)):=by
   show (if (S l').length<=1000000 then some (D.int ((S l').length:Nat)) else none)=_
   rw [gY,if_pos (by lia)]
  generalize hw4:some (W.d d)=w4
  obtain⟨p,s2,p0,p1,t2,e2⟩:=cH q.hand (m:=((l'.length:Nat):Int)+1) (by lia) (by lia)
  obtain⟨u,s3,u0,u1,t3,e3⟩:=cH t2.hand (m:=3) (by decide) (by decide)
  obtain⟨r,s4,r0,r1,t4,e4⟩:=cH t3.hand (m:=95) (by decide) (by decide)
  obtain⟨c,c1,hc⟩:=zW r0 r1 s4
  obtain⟨y,s5,hy,t5,e5⟩:=on (ds:=near) t4.hand hn.1 (by have:=hn.2.1;lia)
  obtain⟨yk,rfl,ay⟩:=hn.2.2 y hy
  obtain⟨v,s6,v0,v1,t6,e6⟩:=cH t5.hand (m:=2) (by decide) (by decide)
  have hpick:∃ k,atI [D.str (S yk),.str (S [c])] v=some (.str (S k))/\Asc k 4:=by
   have:v=0\/v=1:=by lia
   rcases this with rfl | rfl
   ·exact⟨yk,rfl,ay⟩
   ·exact⟨[c],rfl,λz hz=>by rw [List.mem_singleton.mp hz];exact c1,by simp⟩
  obtain⟨k,hk,ak⟩:=hpick
  obtain⟨a,ea,aa⟩:=hb.cut none (some p)
  obtain⟨b,eb,ab⟩:=hb.cut (some (p+u)) none
  have la:=aa.2
  have lb:=ab.2
  have lk:=ak.2
  refine⟨[some (.h h),some (.d (.str (S l'))),some (.d (.lst near)),some (.d (.str SG)),w4,x5,x6,x7],[some (.h h),some (.d (.str (S (a++k++b)))),some (.d (.lst near)),some (.d (.str SG)),w4,some (.d (.int p)),some (.d (.int u)),some (.d (.str (S [c])))],s6,by rw [<-hw4];rfl,.inl ?_,a++k++b,_,_,_,_,rfl,⟨((aa.app ak).app ab).1,?_⟩,((((q.trans t2).trans t3).trans t4).trans t5).trans t6⟩
  ·have g1:lK 5 6 (ac (ar aB (ac (iV 0) (ac (iOp aP (iCB du (ac (iV 1) ai)) (iC (.int 1))) ai))) (ac (ar aB (ac (iV 0) (ac (iC (.int 3)) ai))) ai)) [some (.h h),some (.d (.str (S l'))),some (.d (.lst near)),some (.d (.str SG)),w4,x5,x6,x7] s=some (.nx [some (.h h),some (.d (.str (S l'))),some (.d (.lst near)),some (.d (.str SG)),w4,some (.d (.int p)),some (.d (.int u)),x7] s3):=by
    have a1:ac (ar aB (ac (iV 0) (ac (iOp aP (iCB du (ac (iV 1) ai)) (iC (.int 1))) ai))) (ac (ar aB (ac (iV 0) (ac (iC (.int 3)) ai))) ai) [some (.h h),some (.d (.str (S l'))),some (.d (.lst near)),some (.d (.str SG)),w4,x5,x6,x7] s=some ([.d (.int p),.d (.int u)],s3):=
     aq (aR (aq rfl (aq (aF (fG (ws:=[.d (.str (S l'))]) rfl hdl) rfl rfl) rfl)) e2) (aq (aR rfl e3) rfl)
    simp only [lK,a1,Option.bind_some];rfl
   have g2:aT (.nm 7) (iOp dIx (iV 3) (ar aB (ac (iV 0) (ac (iCB du (ac (iV 3) ai)) ai)))) [some (.h h),some (.d (.str (S l'))),some (.d (.lst near)),some (.d (.str SG)),w4,some (.d (.int p)),some (.d (.int u)),x7] s3=some (.nx [some (.h h),some (.d (.str (S l'))),some (.d (.lst near)),some (.d (.str SG)),w4,some (.d (.int p)),some (.d (.int u)),some (.d (.str (S [c])))] s4):=
    bH (aF rfl (aR (aq rfl (aq (fG (ws:=[.d (.str SG)]) rfl (v7 s3)) rfl)) e4) hc)
   have lst:aJ (bv (ac (ar bP (ac (iV 0) (ac (iV 2) ai))) (ac (iV 7) ai))) [some (.h h),some (.d (.str (S l'))),some (.d (.lst near)),some (.d (.str SG)),w4,some (.d (.int p)),some (.d (.int u)),some (.d (.str (S [c])))] s4=some (.d (.lst [.str (S yk),.str (S [c])]),s5):=by
    have a1:=aq (a:=ar bP (ac (iV 0) (ac (iV 2) ai))) (b:=ac (iV 7) ai) (env:=[some (.h h),some (.d (.str (S l'))),some (.d (.lst near)),some (.d (.str SG)),w4,some (.d (.int p)),some (.d (.int u)),some (.d (.str (S [c])))]) (aR (st:=s4) (ws:=[.h h,.d (.lst near)]) rfl e5) (aq (x:=.d (.str (S [c]))) rfl rfl)
    simp only [aJ,bv,a1,Option.bind_some];rfl
   have g3:=aF (g:=dIx) (a:=aJ (bv (ac (ar bP (ac (iV 0) (ac (iV 2) ai))) (ac (iV 7) ai)))) (b:=ar aB (ac (iV 0) (ac (iC (.int 2)) ai))) lst (aR (ws:=[.h h,.d (.int 2)]) rfl e6) hk
   have sa:=zS (l:=l') (e:=iV 1) (lo:=iPn) (hi:=iPs (iV 5)) (env:=[some (.h h),some (.d (.str (S l'))),some (.d (.lst near)),some (.d (.str SG)),w4,some (.d (.int p)),some (.d (.int u)),some (.d (.str (S [c])))]) (st:=s4) (a:=none) (b:=some p) (by lia) rfl rfl rfl
   have sb:=zS (l:=l') (e:=iV 1) (lo:=iPs (iOp aP (iV 5) (iV 6))) (hi:=iPn) (env:=[some (.h h),some (.d (.str (S l'))),some (.d (.lst near)),some (.d (.str SG)),w4,some (.d (.int p)),some (.d (.int u)),some (.d (.str (S [c])))]) (st:=s6) (a:=some (p+u)) (b:=none) (by lia) rfl rfl rfl
   rw [ea] at sa
   rw [eb] at sb
   exact aA g1 (aA g2 (bH (aF (aF sa g3 (qf (s:=s6) (by lia))) sb (qf (s:=s6) (by rw [List.length_append];lia)))))
  ·rw [List.length_append,List.length_append,Nat.pow_succ]
   have h70:124<=2 ^ i*124:=by have:1<=2 ^ i:=Nat.one_le_two_pow;lia
   lia)
 rw [gu] at hb'
 have hlen:=hb'.2
 refine⟨l',st',⟨hb'.1,?_⟩,q',?_⟩
 ·have:(1+t).toNat=1\/(1+t).toNat=2:=by lia
  rcases this with z | z<;>rw [z] at hlen<;>lia
 ·exact cJ (n:=8) (k:=3) (b:=dU) rfl (aA (show aT (.nm 3) _ _ st=_ from rfl) (aA (gF hrng hF) rfl))
theorem km:∀ f:List D,jh (f.map λ_=>D.bl true)=some (f.map λ_=>true)
 | []=>rfl
 | d::f=>by rw [List.map_cons,jh,km f];rfl
theorem lF:∀ f:List D,(f.map λ_=>true).all id=true
 | []=>rfl
 | d::f=>by rw [List.map_cons,List.all_cons,lF f];rfl
noncomputable def IsT (d:D) (n:Nat):Prop:=∃ l,d=.str (S l)/\Asc l n
theorem IsT.up {d:D}{m n:Nat} (h:IsT d m) (hm:m<=n):IsT d n:=by obtain⟨l,e,a,b⟩:=h;exact⟨l,e,a,Nat.le_trans b hm⟩
theorem IsT.add {a b:D}{m n:Nat} (s:Sto) (ha:IsT a m) (hb:IsT b n) (h:m+n<=1000000):∃ x,aP s (.d a) (.d b)=some x/\IsT x (m+n):=by
 obtain⟨l,rfl,al⟩:=ha
 obtain⟨k,rfl,ak⟩:=hb
 have:=al.2;have:=ak.2
 exact⟨_,qf (by lia),_,rfl,al.app ak⟩
noncomputable def okS (n:Nat) (d:D):Bool:=match d with
 | .str z=>z.cps.toList.all (λc=>decide (c < 128)) && decide (z.cps.toList.length<=n)
 | _=>false
theorem IsT.of {n:Nat}{d:D} (h:okS n d=true):IsT d n:=by
 cases d with
 | str z=>
  have h:(z.cps.toList.all (λc=>decide (c < 128)) && decide (z.cps.toList.length<=n))=true:=h
  rw [Bool.and_eq_true,List.all_eq_true] at h
  refine⟨z.cps.toList,?_,λc hc=>of_decide_eq_true (h.1 c hc),of_decide_eq_true h.2⟩
  show D.str z=.str ⟨z.cps.toList.toArray⟩
  rw [Array.toArray_toList]
 | _=>cases h
noncomputable def fA (ds:List D) (n:Nat):Prop:=∀ d ∈ ds,IsT d n
theorem fA.of {n:Nat}{ds:List D} (h:ds.all (okS n)=true):fA ds n:=λd hd=>IsT.of (List.all_eq_true.mp h d hd)
theorem fA.up {ds:List D}{m n:Nat} (h:fA ds m) (hm:m<=n):fA ds n:=λd hd=>(h d hd).up hm
theorem fA.app {a b:List D}{n:Nat} (ha:fA a n) (hb:fA b n):fA (a++b) n:=λd hd=>(List.mem_append.mp hd).elim (ha d) (hb d)
theorem fA.one {d:D}{n:Nat} (h:IsT d n):fA [d] n:=λx hx=>by rw [List.mem_singleton.mp hx];exact h
noncomputable def jn:List (List Nat)->List Nat
 | []=>[]
 | [a]=>a
 | a::b::r=>a++(32::jn (b::r))
theorem vT:∀ ls:List (List Nat),PySem.Txt.join " " (ls.map S)=S (jn ls):=by
 intro ls
 show PySem.Builtin.Str.glued " " _=_
 rw [PySem.StrLaws.glued_eq_join]
 induction ls with
 | nil=>rfl
 | cons a ls ih=>
  cases ls with
  | nil=>rfl
  | cons b ls=>
   rw [List.map_cons,List.map_cons]
   show S a++S [32]++Str.join " " (S b::ls.map S)=_
   rw [List.map_cons] at ih
   rw [ih,pj,pj,List.append_assoc];rfl
theorem vc {n:Nat}:∀ {ls:List (List Nat)},(∀ l ∈ ls,Asc l n)->Asc (jn ls) (ls.length*(n+1))
 | [],_=>⟨λc hc=>(nomatch hc),Nat.zero_le _⟩
 | [a],h=>by
  have:=h a List.mem_cons_self
  exact⟨this.1,by have:=this.2;show a.length<=1*(n+1);lia⟩
 | a::b::r,h=>by
  have h1:=h a List.mem_cons_self
  have h2:=vc (ls:=b::r) λl hl=>h l (List.mem_cons_of_mem _ hl)
  refine⟨λc hc=>?_,?_⟩
  ·rcases List.mem_append.mp (show c ∈ a++(32::jn (b::r)) from hc) with hc | hc
   ·exact h1.1 c hc
   ·rcases List.mem_cons.mp hc with rfl | hc
    ·decide
    ·exact h2.1 c hc
  ·show (a++(32::jn (b::r))).length<=(r.length+1+1)*(n+1)
   have e2:(jn (b::r)).length<=(r.length+1)*(n+1):=h2.2
   have e1:=h1.2
   rw [List.length_append,List.length_cons,Nat.succ_mul]
   lia
theorem fA.lists {n:Nat}:∀ {ds:List D},fA ds n->∃ ls:List (List Nat),ds=ls.map (λl=>D.str (S l))/\ls.length=ds.length/\∀ l ∈ ls,Asc l n
 | [],_=>⟨[],rfl,rfl,λl hl=>nomatch hl⟩
 | d::ds,h=>by
  obtain⟨l,rfl,al⟩:=h d List.mem_cons_self
  obtain⟨ls,rfl,hl,hs⟩:=fA.lists (ds:=ds) λx hx=>h x (List.mem_cons_of_mem _ hx)
  exact⟨l::ls,rfl,by rw [List.length_cons,List.length_cons,hl],λx hx=>(List.mem_cons.mp hx).elim (λz=>z ▸ al) (hs x)⟩
theorem vd:∀ ls:List (List Nat),jd (ls.map λl=>D.str (S l))=some (ls.map S)
 | []=>rfl
 | l::ls=>by rw [List.map_cons,jd,vd ls];rfl
theorem rq {n:Nat}:∀ {ls:List (List Nat)},(∀ l ∈ ls,Asc l n)->((ls.map S).map (·.length)).sum<=ls.length*n
 | [],_=>Nat.zero_le _
 | l::ls,h=>by
  have h1:=(h l List.mem_cons_self).2
  have h2:=rq (ls:=ls) λx hx=>h x (List.mem_cons_of_mem _ hx)
  rw [List.map_cons,List.map_cons,List.sum_cons,gY,List.length_cons,Nat.succ_mul]
  lia
theorem ua {f:Ef}{env:Ev}{st s:Sto}{ds:List D}{n:Nat} (hf:f env st=some (.d (.lst ds),s)) (h:fA ds n) (hb:ds.length*(n+1)<=100000):∃ x,hG (iC (.str " ")) (ac f ai) env st=some (.d x,s)/\IsT x (ds.length*(n+1)):=by
 obtain⟨ls,rfl,hl,ha⟩:=h.lists
 have hok:PySem.JoinOk (" " : Str) (ls.map S)=true:=by
  refine PyProof.Rows.joinOk_of_weight ?_ (by decide)
  have:=rq ha
  rw [List.length_map]
  have e:ls.length*(n+1)=ls.length*n+ls.length:=Nat.mul_succ _ _
  rw [<-hl] at hb
  lia
 refine⟨.str (S (jn ls)),?_,_,rfl,by rw [<-hl];exact vc ha⟩
 have h2:=aq (b:=ai) hf rfl
 simp only [hG,iC,h2,Option.bind_some,vd,hok,if_true,vT]
end Own
end
section
set_option maxHeartbeats 1000000
namespace Own
open PySem L2
theorem rY {l:List Nat}{st:Sto}:∃ r,iI st [.d (gR l)]=some (.str r):=by
 have hno:∃ r,iI st [.d (.str "no text")]=some (.str r):=by
  refine⟨PySem.reprText "no text",?_⟩
  show (if (PySem.reprText "no text").length<=sizeLine then some (D.str (PySem.reprText "no text")) else none)=_
  rw [if_pos (by decide +kernel)]
 unfold gR
 cases hx:pR 900 6 l with
 | none=>exact hno
 | some x=>
  dsimp only
  cases hb:okB l x with
  | false=>exact hno
  | true=>
   obtain⟨f1,f2,f3,f4⟩:=iz 900 6 l x hx
   unfold okB at hb
   simp only [Bool.and_eq_true,decide_eq_true_eq] at hb
   obtain⟨h1,h2,h3⟩:=tP x.1 (lm x.1 f2 hb.2.1)
   have hc3:=hb.2.2
   rw [if_pos rfl]
   have hc:rpD (.lst [toD x.1])=true/\wtD (.lst [toD x.1])<=16000000/\dpD (.lst [toD x.1])<=50:=by
    simp only [rpD,jj,wtD,kW,dpD,kP,h1,Bool.and_true]
    exact⟨trivial,by lia,by lia⟩
   refine⟨(toP (.lst [toD x.1])).shown,?_⟩
   show gp st [.d (.lst [toD x.1])]=_
   simp only [gp]
   rw [if_pos hc]
theorem yq {d:D}{st:Sto} (h:IsT d 900):jJ [some (.d d)] st=some (.d (.bl true),st):=by
 obtain⟨l,rfl,ha,hl⟩:=h
 obtain⟨r,hr⟩:=rY (l:=l) (st:=st)
 have h1:ar eL (ac (iV 0) ai) [some (.d (.str (S l)))] st=some (.d (gR l),st):=aR (ws:=[.d (.str (S l))]) rfl (wM ha hl)
 have h2:ar gg (ac (iV 0) ai) [some (.d (.str (S l)))] st=some (.d (gR l),st):=aR (ws:=[.d (.str (S l))]) rfl (yo ha hl)
 exact aF (fG (aq h1 rfl) hr) (fG (aq h2 rfl) hr) (eqs st r)
theorem sY {st:Sto}{ds:List D}{f:Ef}{env:Ev} (hf:f env st=some (.d (.lst ds),st)) (ht:fA ds 900) (hz:ds.length<=1000000) (he:kZ 1 [] env=[none]):da (fu fK (iCB rT (ac (aJ (iLc 1 [] (cf f) (.nm 0) fj jJ)) ai))) env st=some (false,st):=by
 have k:lcI (.nm 0) fj jJ [none] ds st=some (ds.map λ_=>D.bl true,st):=rn (λ_=>D.bl true) λd hd=>⟨_,rfl,yq (ht d hd)⟩
 have hd:iCB rT (ac (aJ (iLc 1 [] (cf f) (.nm 0) fj jJ)) ai) env st=some (.d (.bl true),st):=by
  refine fG (aq (dv (ka (mM hf) hz (by rw [he];exact k))) rfl) ?_
  show (jh (ds.map λ_=>D.bl true)).map (λns=>D.bl (ns.all id))=_
  rw [km,Option.map_some,lF]
 simp only [da,fu,hd,Option.bind_some];rfl
noncomputable def cW:List D:=[.str "",.str " ",.str "(",.str ")",.str "!",.str "&",.str "|",.str "^",.str "0",.str "12",.str "a",.str "f",.str "g",.str "&()",.str " a",.str "()",.str "!!",.str ") "]
theorem wQ:Ah cW:=⟨by simp [cW],by decide,λd hd=>IsT.of (n:=4) (List.all_eq_true.mp (show cW.all (okS 4)=true by decide +kernel) d hd)⟩
theorem sL {st:Sto}{h:Nat}{l:List Nat} (hh:cC st h) (ha:Asc l 120):∃ ys st',fA ys 900/\ys.length=4/\Stp h st st'/\lcI (.nm 0) fj le [none,some (.h h),some (.d (.str (S l))),some (.d (.lst cW))] (gO 0 4) st=some (ys,st'):=by
 obtain⟨ys,s2,hL,hl,ht,t2⟩:=ln (g:=.nm 0) (tt:=fj) (te:=le) (env:=[none,some (.h h),some (.d (.str (S l))),some (.d (.lst cW))]) (ds:=gO 0 4) (λi ys s=>ys.length=i/\fA ys 900/\Stp h st s) (st:=st) (ys0:=[]) ⟨rfl,λd hd=>(nomatch hd),.refl hh⟩ (by
  rintro i d ys s hd ⟨hl,ht,t⟩
  obtain⟨l',s',hl',t',e'⟩:=vC t.hand ha wQ
  exact⟨_,rfl,.inl ⟨s,.str (S l'),s',rfl,aR (ws:=[.h h,.d (.str (S l)),.d (.lst cW)]) rfl e',by rw [List.length_append,hl];rfl,ht.app (.one ⟨l',rfl,hl'⟩),t.trans t'⟩⟩)
 rw [List.nil_append] at hl ht
 exact⟨ys,s2,ht,hl,t2,hL⟩
theorem wU {st:Sto}{hd:Nat}{a b c x6 x7:Option W}{t:D} (hh:cC st hd) (ht:IsT t 120):∃ y6 st',cC st' hd/\nO [a,some (.d (.lst cW)),b,some (.h hd),c,some (.d t),x6,x7] st=some (.nx [a,some (.d (.lst cW)),b,some (.h hd),c,some (.d t),y6,x7] st'):=by
 obtain⟨l,rfl,al⟩:=ht
 obtain⟨ys,s1,hys,ly,t1,e1⟩:=sL hh al
 have h1:aJ (iLc 1 [3,5,1] (dB (ac (iC (.int 4)) ai)) (.nm 0) fj le) [a,some (.d (.lst cW)),b,some (.h hd),c,some (.d (.str (S l))),x6,x7] st=some (.d (.lst ys),s1):=dv (ka (me (z:=4) (m:=4) rfl (by decide) (by decide) rfl) (by rw [gu];decide) e1)
 have h2:aJ (bv (ac (iV 5) ai)) [a,some (.d (.lst cW)),b,some (.h hd),c,some (.d (.str (S l))),x6,x7] st=some (.d (.lst [.str (S l)]),st):=rfl
 have h3:=bH (i:=6) (aF (g:=aP) h2 h1 (qt s1 (by rw [ly];show 1+4<=1000000;decide)))
 refine⟨some (.d (.lst ([.str (S l)]++ys))),s1,t1.hand,aA h3 (ba (sY (f:=iV 6) (ds:=[.str (S l)]++ys) rfl (fA.app (.one (IsT.up ⟨l,rfl,al⟩ (by decide))) hys) (by rw [List.length_append,ly];show 1+4<=1000000;decide) rfl) rfl)⟩
theorem ya {st:Sto}{k:Int} (h0:0<=k) (h1:k < 9):∃ z,kG st (.d (.str "!")) (.d (.int k))=some z/\IsT z 8:=by
 have:k=0\/k=1\/k=2\/k=3\/k=4\/k=5\/k=6\/k=7\/k=8:=by lia
 rcases this with rfl | rfl | rfl | rfl | rfl | rfl | rfl | rfl | rfl<;>exact⟨_,rfl,IsT.of (by decide +kernel)⟩
theorem qF {st:Sto}{x:D}{k:Int} (h0:0<=k) (h1:k<=7):fV st (.d (.lst [x])) (.d (.int k))=some (.lst (List.replicate k.toNat x)):=by
 show (if [x].length<=1000/\-1000<=k/\k < 1000 then some (D.lst (List.replicate k.toNat [x]).flatten) else none)=_
 rw [if_pos ⟨by simp,by lia,by lia⟩]
 congr 2
 generalize k.toNat=m
 induction m with
 | zero=>rfl
 | succ m ih=>rw [List.replicate_succ,List.replicate_succ,List.flatten_cons,ih];rfl
theorem fA.rep {x:D}{n:Nat} (h:IsT x n) (m:Nat):fA (List.replicate m x) n:=λd hd=>by rw [(List.mem_replicate.mp hd).2];exact h
theorem rX {st:Sto}{n:Nat}{o:Option W} (hh:cC st n):∃ x st',IsT x 15/\Stp n st st'/\fI [o,some (.h n)] st=some (.d x,st'):=by
 obtain⟨r,s1,r0,r1,t1,e1⟩:=cH hh (m:=4) (by decide) (by decide)
 obtain⟨z,hz,az⟩:∃ z,atI [D.str "|",.str "^",.str "&",.str "3"] r=some z/\IsT z 1:=by
  have:r=0\/r=1\/r=2\/r=3:=by lia
  rcases this with rfl | rfl | rfl | rfl<;>exact⟨_,rfl,IsT.of (by decide +kernel)⟩
 obtain⟨z2,h2,a2⟩:=IsT.add s1 az (IsT.of (n:=1) (d:=.str "(") (by decide +kernel)) (by decide)
 have m6:iOp fV (aJ (bv (ac (iC (.str "a")) ai))) (iC (.int 6)) [o,some (.h n)] s1=some (.d (.lst (List.replicate 6 (.str "a"))),s1):=aF rfl rfl (qF (by decide) (by decide))
 obtain⟨z3,h3,a3⟩:=ua (n:=1) m6 (fA.rep (IsT.of (by decide +kernel)) 6) (by decide)
 rw [List.length_replicate] at a3
 obtain⟨z4,h4,a4⟩:=IsT.add s1 a2 a3 (by decide)
 obtain⟨z5,h5,a5⟩:=IsT.add s1 a4 (IsT.of (n:=1) (d:=.str ")") (by decide +kernel)) (by decide)
 refine⟨z5,s1,a5.up (by decide),t1,?_⟩
 exact aF (aF (aF (aF (x:=.d (.lst [D.str "|",.str "^",.str "&",.str "3"])) rfl (aR (ws:=[.h n,.d (.int 4)]) rfl e1) hz) rfl h2) h3 h4) rfl h5
theorem vN {st:Sto}{n:Nat} (hh:cC st n):∃ x st',IsT x 120/\Stp n st st'/\fO [.h n] st=some (.d x,st'):=by
 obtain⟨ys,s2,hL,hl,ht,t2⟩:=ln (g:=.nm 0) (tt:=fj) (te:=fI) (env:=[none,some (.h n)]) (ds:=gO 0 5) (λi ys s=>ys.length=i/\fA ys 17/\Stp n st s) (st:=st) (ys0:=[]) ⟨rfl,λd hd=>(nomatch hd),.refl hh⟩ (by
  rintro i d ys s hd ⟨hl,ht,t⟩
  obtain⟨x,s',ax,t',e'⟩:=rX (o:=some (.d d)) t.hand
  exact⟨_,rfl,.inl ⟨s,x,s',rfl,e',by rw [List.length_append,hl];rfl,ht.app (.one (ax.up (by decide))),t.trans t'⟩⟩)
 rw [List.nil_append] at hl ht
 rw [gu] at hl
 have s1:aT (.nm 1) (aJ (iLc 1 [0] (dB (ac (iC (.int 5)) ai)) (.nm 0) fj fI)) [some (.h n),none] st=some (.nx [some (.h n),some (.d (.lst ys))] s2):=bH (dv (ka (me (z:=5) (m:=5) rfl (by decide) (by decide) rfl) (by rw [gu];decide) hL))
 obtain⟨r,s3,r0,r1,t3,e3⟩:=cH t2.hand (m:=8) (by decide) (by decide)
 have mr:iOp fV (aJ (bv (ac (iC (.str "f")) ai))) (ar aB (ac (iV 0) (ac (iC (.int 8)) ai))) [some (.h n),some (.d (.lst ys))] s2=some (.d (.lst (List.replicate r.toNat (.str "f"))),s3):=aF rfl (aR (ws:=[.h n,.d (.int 8)]) rfl e3) (qF r0 (by lia))
 obtain⟨z1,h1,a1⟩:=ua (n:=1) mr (fA.rep (IsT.of (by decide +kernel)) _) (by rw [List.length_replicate];lia)
 rw [List.length_replicate] at a1
 have a1:IsT z1 14:=a1.up (by lia)
 obtain⟨z2,h2,a2⟩:=IsT.add s3 (IsT.of (n:=2) (d:=.str "|(") (by decide +kernel)) a1 (by decide)
 obtain⟨z3,h3,a3⟩:=IsT.add s3 a2 (IsT.of (n:=1) (d:=.str ")") (by decide +kernel)) (by decide)
 have l1:aJ (bv (ac (iOp aP (iOp aP (iC (.str "|(")) (hG (iC (.str " ")) (ac (iOp fV (aJ (bv (ac (iC (.str "f")) ai))) (ar aB (ac (iV 0) (ac (iC (.int 8)) ai)))) ai))) (iC (.str ")"))) ai)) [some (.h n),some (.d (.lst ys))] s2=some (.d (.lst [z3]),s3):=by
  refine dv ?_
  have:=aq (b:=ai) (aF (aF (a:=iC (.str "|(")) (x:=.d (.str "|(")) rfl h1 h2) (b:=iC (.str ")")) rfl h3) rfl
  simp only [bv,this,Option.bind_some];rfl
 have l2:iOp aP (iV 1) (aJ (bv (ac (iOp aP (iOp aP (iC (.str "|(")) (hG (iC (.str " ")) (ac (iOp fV (aJ (bv (ac (iC (.str "f")) ai))) (ar aB (ac (iV 0) (ac (iC (.int 8)) ai)))) ai))) (iC (.str ")"))) ai))) [some (.h n),some (.d (.lst ys))] s2=some (.d (.lst (ys++[z3])),s3):=aF rfl l1 (qt s3 (by rw [hl];show 5+1<=1000000;decide))
 obtain⟨z4,h4,a4⟩:=ua (n:=17) l2 (ht.app (.one a3)) (by rw [List.length_append,hl];show (5+1)*(17+1)<=100000;decide)
 have a4:IsT z4 108:=a4.up (by rw [List.length_append,hl];show (5+1)*(17+1)<=108;decide)
 obtain⟨z5,h5,a5⟩:=IsT.add s3 (IsT.of (n:=2) (d:=.str "&(") (by decide +kernel)) a4 (by decide)
 obtain⟨z6,h6,a6⟩:=IsT.add s3 a5 (IsT.of (n:=1) (d:=.str ")") (by decide +kernel)) (by decide)
 exact⟨z6,s3,a6.up (by decide),t2.trans t3,cJ (n:=2) (k:=1) (b:=gz) rfl (aA s1 (bL (aF (aF (x:=.d (.str "&(")) rfl h4 h5) rfl h6)))⟩
theorem vi {st:Sto}{ns:List Int}{k:Nat}{a3 a4 a5 a6 a7:Option W}:∃ b3 b4 b5 b6 st',oq [some (.d (.scr ns)),some (.d (.lst cW)),some (.d (.int k)),a3,a4,a5,a6,a7] st=some (.nx [some (.d (.scr ns)),some (.d (.lst cW)),some (.d (.int k)),b3,b4,b5,b6,a7] st'):=by
 obtain⟨x,y,x0,e1⟩:=vG (st:=st) (ns:=ns) (k:=k)
 have hh:cC (st++[.l [.int x,.int y,.int 0]]) st.length:=⟨x,y,0,x0,by rw [List.getElem?_append_right (Nat.le_refl _),Nat.sub_self];rfl⟩
 have hd0:∃ hd,hd=st.length:=⟨_,rfl⟩
 obtain⟨hd,ehd⟩:=hd0
 rw [<-ehd] at hh e1
 generalize st++[C.l [D.int x,.int y,.int 0]]=s1 at e1 hh
 have hlt:=hh.lt
 obtain⟨dp,s3,d0,d1,t3,e3⟩:=cH (hh.app [.l [.int 14]]) (m:=7) (by decide) (by decide)
 obtain⟨b3,rfl,t3'⟩:=Stp.unapp hlt t3
 have hl3:b3.length=s1.length:=t3'.len
 have hat:(b3++[C.l [D.int 14]])[s1.length]?=some (.l [.int 14]):=by rw [<-hl3,List.getElem?_append_right (Nat.le_refl _),Nat.sub_self];rfl
 obtain⟨r,s4,c',g1,g2,g3,g4,q,e4⟩:=Own.rule_at 7 (st:=b3++[.l [.int 14]]) (n:=hd) (l:=s1.length) (deep:=1+dp) (most:=6) (c:=14) (by lia) (t3'.hand.app _) hat (by decide) (by lia) (by lia) (by decide) (by decide)
 have e5:=lL (st:=s4) 7 r (by decide) (by lia) g1 (by lia)
 have htx:IsT (.str (S (tx r))) 120:=⟨tx r,rfl,nU r g1,by have:=kg r;lia⟩
 obtain⟨wz,s5,aw,t5,e6⟩:=vN q.2.1
 obtain⟨mk,s6,k0,k1,t6,e7⟩:=cH t5.hand (m:=9) (by decide) (by decide)
 obtain⟨bz,hbz,abz⟩:=ya (st:=s6) k0 k1
 obtain⟨pz,s7,hp,t7,e8⟩:=on (ds:=[.str "a",.str "&()",.str "9()",.str "|(f)"]) t6.hand (by simp) (by decide)
 have apz:IsT pz 4:=IsT.of (List.all_eq_true.mp (show [D.str "a",.str "&()",.str "9()",.str "|(f)"].all (okS 4)=true by decide +kernel) pz hp)
 have hbz':kG s7 (.d (.str "!")) (.d (.int mk))=some bz:=by
  rw [<-hbz];rfl
 obtain⟨cz,hcz,acz⟩:=IsT.add s7 abz apz (by decide)
 generalize hE:some (W.d (.scr ns))=wN at *
 have q1:aT (.nm 3) (ar eJ (ac (iV 0) (ac (iV 2) ai))) [wN,some (.d (.lst cW)),some (.d (.int k)),a3,a4,a5,a6,a7] st=some (.nx [wN,some (.d (.lst cW)),some (.d (.int k)),some (.h hd),a4,a5,a6,a7] s1):=by
  subst hE
  exact bH (aR rfl e1)
 generalize toD r=R at *
 generalize S (tx r)=tz at *
 have p0:hX (bv (ac (iC (.int 14)) ai)) [wN,some (.d (.lst cW)),some (.d (.int k)),some (.h hd),a4,a5,a6,a7] s1=some (.h s1.length,s1++[.l [.int 14]]):=rfl
 have p1:ar (bb 7) (ac (iV 3) (ac (hX (bv (ac (iC (.int 14)) ai))) (ac (iOp aP (iC (.int 1)) (ar aB (ac (iV 3) (ac (iC (.int 7)) ai)))) (ac (iC (.int 6)) ai)))) [wN,some (.d (.lst cW)),some (.d (.int k)),some (.h hd),a4,a5,a6,a7] s1=some (.d R,s4):=
  aR (aq rfl (aq p0 (aq (aF rfl (aR (ws:=[.h hd,.d (.int 7)]) rfl e3) rfl) (aq rfl rfl)))) e4
 have p2:aJ (bv (ac (ar (bo 7) (ac (ar (bb 7) (ac (iV 3) (ac (hX (bv (ac (iC (.int 14)) ai))) (ac (iOp aP (iC (.int 1)) (ar aB (ac (iV 3) (ac (iC (.int 7)) ai)))) (ac (iC (.int 6)) ai))))) ai)) (ac (ar fO (ac (iV 3) ai)) ai))) [wN,some (.d (.lst cW)),some (.d (.int k)),some (.h hd),a4,a5,a6,a7] s1=some (.d (.lst [.str tz,wz]),s5):=by
  refine dv ?_
  have:=aq (aR (aq (b:=ai) p1 rfl) e5) (aq (a:=ar fO (ac (iV 3) ai)) (b:=ai) (aR (ws:=[.h hd]) rfl e6) rfl)
  simp only [bv,this,Option.bind_some];rfl
 have q2:=bH (i:=4) p2
 have p3:iOp aP (iV 4) (aJ (bv (ac (iOp aP (iOp kG (iC (.str "!")) (ar aB (ac (iV 3) (ac (iC (.int 9)) ai)))) (ar bP (ac (iV 3) (ac (aJ (bv (ac (iC (.str "a")) (ac (iC (.str "&()")) (ac (iC (.str "9()")) (ac (iC (.str "|(f)")) ai)))))) ai)))) ai))) [wN,some (.d (.lst cW)),some (.d (.int k)),some (.h hd),some (.d (.lst [.str tz,wz])),a5,a6,a7] s5=some (.d (.lst ([.str tz,wz]++[cz])),s7):=by
  have l1:aJ (bv (ac (iOp aP (iOp kG (iC (.str "!")) (ar aB (ac (iV 3) (ac (iC (.int 9)) ai)))) (ar bP (ac (iV 3) (ac (aJ (bv (ac (iC (.str "a")) (ac (iC (.str "&()")) (ac (iC (.str "9()")) (ac (iC (.str "|(f)")) ai)))))) ai)))) ai)) [wN,some (.d (.lst cW)),some (.d (.int k)),some (.h hd),some (.d (.lst [.str tz,wz])),a5,a6,a7] s5=some (.d (.lst [cz]),s7):=by
   refine dv ?_
   have:=aq (b:=ai) (env:=[wN,some (.d (.lst cW)),some (.d (.int k)),some (.h hd),some (.d (.lst [.str tz,wz])),a5,a6,a7]) (st:=s5) (aF (a:=iOp kG (iC (.str "!")) (ar aB (ac (iV 3) (ac (iC (.int 9)) ai)))) (b:=ar bP (ac (iV 3) (ac (aJ (bv (ac (iC (.str "a")) (ac (iC (.str "&()")) (ac (iC (.str "9()")) (ac (iC (.str "|(f)")) ai)))))) ai))) (aF rfl (aR (ws:=[.h hd,.d (.int 9)]) rfl e7) hbz) (aR (ws:=[.h hd,.d (.lst [.str "a",.str "&()",.str "9()",.str "|(f)"])]) rfl e8) hcz) rfl
   simp only [bv,this,Option.bind_some];rfl
  exact aF rfl l1 (qt s7 (by show 2+1<=1000000;decide))
 have tall:fA ([.str tz,wz]++[cz]) 120:=by
  intro d hdm
  simp only [List.cons_append,List.nil_append,List.mem_cons,List.not_mem_nil,or_false] at hdm
  rcases hdm with rfl | rfl | rfl
  ·exact htx
  ·exact aw
  ·exact acz.up (by decide)
 obtain⟨env',s8,hF,y5,y6,rfl,_⟩:=iJ (g:=.nm 5) (body:=nO) (ds:=[.str tz,wz]++[cz]) (λ_ env s=>∃ x5 x6,env=[wN,some (.d (.lst cW)),some (.d (.int k)),some (.h hd),some (.d (.lst [.str tz,wz])),x5,x6,a7]/\cC s hd)
  (env:=[wN,some (.d (.lst cW)),some (.d (.int k)),some (.h hd),some (.d (.lst [.str tz,wz])),a5,a6,a7]) (st:=s7) ⟨_,_,rfl,t7.hand⟩ (by
  rintro j d env s hdj ⟨x5,x6,rfl,hs⟩
  obtain⟨z6,s',h',e'⟩:=wU (a:=wN) (b:=some (.d (.int k))) (c:=some (.d (.lst [.str tz,wz]))) (x6:=x6) (x7:=a7) hs (tall d (List.mem_of_getElem? hdj))
  exact⟨_,_,_,rfl,.inl e',_,_,rfl,h'⟩)
 exact⟨_,_,_,_,s8,aA q1 (aA q2 (gF (mM p3) hF))⟩
noncomputable def iS:List D:=[.non,.int 0,.bl true,.tup [.str "switch",.int 0],.lst [.str "a"],.dct,.tup [],.tup [.str "a"],.int 5]
theorem uM {st:Sto}:∀ d ∈ iS,oh [some (.d d)] st=some (.d (.bl true),st):=by
 intro d hd
 have tk:∀ {x:Option (W×Sto)},x=some (.d (.bl true),st.take st.length)->x=some (.d (.bl true),st):=λ{x} h=>by rw [h,List.take_length]
 simp only [iS,List.mem_cons,List.not_mem_nil,or_false] at hd
 rcases hd with rfl | rfl | rfl | rfl | rfl | rfl | rfl | rfl | rfl
 ·exact tk rfl
 ·exact tk rfl
 ·exact tk rfl
 ·exact tk rfl
 ·exact tk rfl
 ·exact tk rfl
 ·exact tk rfl
 ·exact tk rfl
 ·exact tk rfl
noncomputable def eA:List D:=[.str "",.str "a",.str "f",.str "g",.str "A",.str "!",.str "!!!!!a",.str "!!!!!!a",.str "&",.str "&(",.str "&()",.str "&( )",.str "&(a)",.str "&(a b)",.str "&(a  b)"]
noncomputable def eB:List D:=[.str "&(a b c d e f)",.str "&(a b c d e f a)",.str "10(a)",.str "9(a)",.str "0()",.str "-1(a)",.str "(a)",.str "a b",.str "a\n",.str " a"]
noncomputable def eC:List D:=[.str "&(a, b)",.str "&(a,b)",.str "&(a-b)",.str "a "]
noncomputable def eD:List D:=[.str "&(a b))",.str "&((a b)",.str "&(a b",.str "&a",.str "!(a)",.str "2",.str "2()",.str "ab",.str "&[a b]",.str "&(!a)",.str "!&(a)",.str "&(a )"]
theorem tO:fA (eA++eB++eC++eD) 900:=(fA.of (n:=100) (by decide +kernel)).up (by decide)
theorem wE {st:Sto}{a b c e x4 x5 x6 x7:Option W}:∃ env' s',av (aT (.nm 7) (aJ (bv (ac (iC (.str "")) (ac (iC (.str "a")) (ac (iC (.str "f")) (ac (iC (.str "g")) (ac (iC (.str "A")) (ac (iC (.str "!")) (ac (iC (.str "!!!!!a")) (ac (iC (.str "!!!!!!a")) (ac (iC (.str "&")) (ac (iC (.str "&(")) (ac (iC (.str "&()")) (ac (iC (.str "&( )")) (ac (iC (.str "&(a)")) (ac (iC (.str "&(a b)")) (ac (iC (.str "&(a  b)")) ai)))))))))))))))))) (av (aT (.nm 7) (iOp aP (iV 7) (aJ (bv (ac (iC (.str "&(a b c d e f)")) (ac (iC (.str "&(a b c d e f a)")) (ac (iC (.str "10(a)")) (ac (iC (.str "9(a)")) (ac (iC (.str "0()")) (ac (iC (.str "-1(a)")) (ac (iC (.str "(a)")) (ac (iC (.str "a b")) (ac (iC (.str "a\n")) (ac (iC (.str " a")) ai)))))))))))))) qS) [a,b,c,e,x4,x5,x6,x7] st=some (.rt (.d (.bl true)) st)/\env'=x7/\s'=st:=by
 refine⟨x7,st,?_,rfl,rfl⟩
 have k:lcI (.nm 0) fj oh [none] iS st=some (iS.map λ_=>D.bl true,st):=rn (λ_=>D.bl true) λd hd=>⟨_,rfl,uM d hd⟩
 have ha:=sY (st:=st) (f:=iV 7) (env:=[a,b,c,e,x4,x5,x6,some (.d (.lst (eA++eB++eC++eD)))]) rfl tO (by decide) rfl
 refine aA (e:=[a,b,c,e,x4,x5,x6,some (.d (.lst eA))]) (s:=st) rfl (aA (e:=[a,b,c,e,x4,x5,x6,some (.d (.lst (eA++eB)))]) (s:=st) rfl ?_)
 refine aA (e:=[a,b,c,e,x4,x5,x6,some (.d (.lst (eA++eB++eC)))]) (s:=st) rfl (aA (e:=[a,b,c,e,x4,x5,x6,some (.d (.lst (eA++eB++eC++eD)))]) (s:=st) rfl (aA (ba ha rfl) (bL (fG (aq (dv (ka (ds:=iS) (s:=st) rfl (by decide) k)) rfl) ?_))))
 show (jh (iS.map λ_=>D.bl true)).map (λns=>D.bl (ns.all id))=_
 rw [km,Option.map_some,lF]
theorem u7 (ns:List Int) (hl:ns.length<=63):∃ st,oB [.d (.scr ns)] []=some (.d (.bl true),st):=by
 have hz:∃ z:Int,0<=z/\z<=1000/\∀ st,iOp aP (iC (.int 1)) (iCB yJ (ac (iC (.int 6)) (ac (iCB du (ac (iV 0) ai)) ai))) [some (.d (.scr ns)),some (.d (.lst cW)),none,none,none,none,none,none] st=some (.d (.int z),st):=
  ⟨_,(by show (0:Int)<=1+(if (((ns.map D.int).length:Nat):Int) < 6 then (((ns.map D.int).length:Nat):Int) else 6);rw [List.length_map];split<;>lia),(by show 1+(if (((ns.map D.int).length:Nat):Int) < 6 then (((ns.map D.int).length:Nat):Int) else 6)<=1000;rw [List.length_map];split<;>lia),λ_=>rfl⟩
 obtain⟨z,z0,z1,hz⟩:=hz
 obtain⟨env',st',hF,y2,y3,y4,y5,y6,y7,rfl⟩:=iJ (g:=.nm 2) (body:=oq) (ds:=gO 0 z.toNat) (λ_ env _=>∃ x2 x3 x4 x5 x6 x7,env=[some (.d (.scr ns)),some (.d (.lst cW)),x2,x3,x4,x5,x6,x7]) (env:=[some (.d (.scr ns)),some (.d (.lst cW)),none,none,none,none,none,none]) (st:=[]) ⟨_,_,_,_,_,_,rfl⟩ (by
  rintro i d env st hd ⟨x2,x3,x4,x5,x6,x7,rfl⟩
  rw [jM] at hd
  split at hd
  case isFalse=>cases hd
  cases hd
  have hi0:(0:Int)+(i:Int)=(i:Int):=by lia
  rw [hi0]
  obtain⟨b3,b4,b5,b6,s',e⟩:=vi (st:=st) (ns:=ns) (k:=i) (a3:=x3) (a4:=x4) (a5:=x5) (a6:=x6) (a7:=x7)
  exact⟨_,_,_,rfl,.inl e,_,_,_,_,_,_,rfl⟩)
 obtain⟨_,_,hlast,_,_⟩:=wE (st:=st') (a:=some (.d (.scr ns))) (b:=some (.d (.lst cW))) (c:=y2) (e:=y3) (x4:=y4) (x5:=y5) (x6:=y6) (x7:=y7)
 exact⟨_,oK (n:=8) (k:=1) (b:=qY) rfl (aA (e:=[some (.d (.scr ns)),some (.d (.lst cW)),none,none,none,none,none,none]) (s:=[]) rfl (aA (gF (me (hz []) z0 z1 rfl) hF) hlast))⟩
end Own
end
namespace Own
open PySem L2
theorem kA {us:List Value} (h:us.length=1):∃ a0,us=[a0]:=match us,h with | [a0],_=>⟨a0,rfl⟩
theorem rP {us:List Value} (h:us.length=2):∃ a0 a1,us=[a0,a1]:=match us,h with | [a0,a1],_=>⟨a0,a1,rfl⟩
theorem vK {us:List Value} (h:us.length=3):∃ a0 a1 a2,us=[a0,a1,a2]:=match us,h with | [a0,a1,a2],_=>⟨a0,a1,a2,rfl⟩
theorem Ao {us:List Value} (h:us.length=4):∃ a0 a1 a2 a3,us=[a0,a1,a2,a3]:=match us,h with | [a0,a1,a2,a3],_=>⟨a0,a1,a2,a3,rfl⟩
theorem txt_mk {P:Program}{w:World}{K:PySem.W.Frag}{h:Heap}{mg:Str->Option Value} (X:K.In h) (G:h.Ns mainGlobals mg)
  {f0:Addr}{od0 an0:Option Addr}{sl0:Array (Option Value)}{oc0 kV0 dc0 pm0 cd0 ct0:Value}
  (a0:PySem.W.nsIn K mainGlobals "is_whole" = some (some (.ref f0))) (l0:K.lookup f0=some ⟨oc0,od0,.func (PySem.W.fnOf "is_whole" "is_whole" (bu eE) (aZ eE) (ao eE) .none kV0 dc0 pm0 an0 cd0 ct0),sl0⟩) (c0:PySem.W.codeIn K cd0 "is_whole" = true) (k0:PySem.W.keepIn K (.ref f0)=true)
  {f1:Addr}{od1 an1:Option Addr}{sl1:Array (Option Value)}{oc1 kV1 dc1 pm1 cd1 ct1:Value}
  (a1:PySem.W.nsIn K mainGlobals "is_within" = some (some (.ref f1))) (l1:K.lookup f1=some ⟨oc1,od1,.func (PySem.W.fnOf "is_within" "is_within" (bu dH) (aZ dH) (ao dH) .none kV1 dc1 pm1 an1 cd1 ct1),sl1⟩) (c1:PySem.W.codeIn K cd1 "is_within" = true) (k1:PySem.W.keepIn K (.ref f1)=true)
  {f2:Addr}{od2 an2:Option Addr}{sl2:Array (Option Value)}{oc2 kV2 dc2 pm2 cd2 ct2:Value}
  (a2:PySem.W.nsIn K mainGlobals "is_row_of_parts" = some (some (.ref f2))) (l2:K.lookup f2=some ⟨oc2,od2,.func (PySem.W.fnOf "is_row_of_parts" "is_row_of_parts" (bu bO) (aZ bO) (ao bO) .none kV2 dc2 pm2 an2 cd2 ct2),sl2⟩) (c2:PySem.W.codeIn K cd2 "is_row_of_parts" = true) (k2:PySem.W.keepIn K (.ref f2)=true)
  {f3:Addr}{od3 an3:Option Addr}{sl3:Array (Option Value)}{oc3 kV3 dc3 pm3 cd3 ct3:Value}
  (a3:PySem.W.nsIn K mainGlobals "has_form" = some (some (.ref f3))) (l3:K.lookup f3=some ⟨oc3,od3,.func (PySem.W.fnOf "has_form" "has_form" (bu eg) (aZ eg) (ao eg) .none kV3 dc3 pm3 an3 cd3 ct3),sl3⟩) (c3:PySem.W.codeIn K cd3 "has_form" = true) (k3:PySem.W.keepIn K (.ref f3)=true)
  {f4:Addr}{od4 an4:Option Addr}{sl4:Array (Option Value)}{oc4 kV4 dc4 pm4 cd4 ct4:Value}
  (a4:PySem.W.nsIn K mainGlobals "parts_of" = some (some (.ref f4))) (l4:K.lookup f4=some ⟨oc4,od4,.func (PySem.W.fnOf "parts_of" "parts_of" (bu eG) (aZ eG) (ao eG) .none kV4 dc4 pm4 an4 cd4 ct4),sl4⟩) (c4:PySem.W.codeIn K cd4 "parts_of" = true) (k4:PySem.W.keepIn K (.ref f4)=true)
  {f5:Addr}{od5 an5:Option Addr}{sl5:Array (Option Value)}{oc5 kV5 dc5 pm5 cd5 ct5:Value}
  (a5:PySem.W.nsIn K mainGlobals "counted" = some (some (.ref f5))) (l5:K.lookup f5=some ⟨oc5,od5,.func (PySem.W.fnOf "counted" "counted" (bu dZ) (aZ dZ) (ao dZ) .none kV5 dc5 pm5 an5 cd5 ct5),sl5⟩) (c5:PySem.W.codeIn K cd5 "counted" = true) (k5:PySem.W.keepIn K (.ref f5)=true)
  {f6:Addr}{od6 an6:Option Addr}{sl6:Array (Option Value)}{oc6 kV6 dc6 pm6 cd6 ct6:Value}
  (a6:PySem.W.nsIn K mainGlobals "is_rule" = some (some (.ref f6))) (l6:K.lookup f6=some ⟨oc6,od6,.func (PySem.W.fnOf "is_rule" "is_rule" (bu fH) (aZ fH) (ao fH) .none kV6 dc6 pm6 an6 cd6 ct6),sl6⟩) (c6:PySem.W.codeIn K cd6 "is_rule" = true) (k6:PySem.W.keepIn K (.ref f6)=true)
  {f7:Addr}{od7 an7:Option Addr}{sl7:Array (Option Value)}{oc7 kV7 dc7 pm7 cd7 ct7:Value}
  (a7:PySem.W.nsIn K mainGlobals "head_by" = some (some (.ref f7))) (l7:K.lookup f7=some ⟨oc7,od7,.func (PySem.W.fnOf "head_by" "head_by" (bu eK) (aZ eK) (ao eK) .none kV7 dc7 pm7 an7 cd7 ct7),sl7⟩) (c7:PySem.W.codeIn K cd7 "head_by" = true) (k7:PySem.W.keepIn K (.ref f7)=true)
  {f8:Addr}{od8 an8:Option Addr}{sl8:Array (Option Value)}{oc8 kV8 dc8 pm8 cd8 ct8:Value}
  (a8:PySem.W.nsIn K mainGlobals "rules_from" = some (some (.ref f8))) (l8:K.lookup f8=some ⟨oc8,od8,.func (PySem.W.fnOf "rules_from" "rules_from" (bu cG) (aZ cG) (ao cG) .none kV8 dc8 pm8 an8 cd8 ct8),sl8⟩) (c8:PySem.W.codeIn K cd8 "rules_from" = true) (k8:PySem.W.keepIn K (.ref f8)=true)
  {f9:Addr}{od9 an9:Option Addr}{sl9:Array (Option Value)}{oc9 kV9 dc9 pm9 cd9 ct9:Value}
  (a9:PySem.W.nsIn K mainGlobals "rule_from" = some (some (.ref f9))) (l9:K.lookup f9=some ⟨oc9,od9,.func (PySem.W.fnOf "rule_from" "rule_from" (bu dh) (aZ dh) (ao dh) .none kV9 dc9 pm9 an9 cd9 ct9),sl9⟩) (c9:PySem.W.codeIn K cd9 "rule_from" = true) (k9:PySem.W.keepIn K (.ref f9)=true)
  {f10:Addr}{od10 an10:Option Addr}{sl10:Array (Option Value)}{oc10 kV10 dc10 pm10 cd10 ct10:Value}
  (a10:PySem.W.nsIn K mainGlobals "read_rule" = some (some (.ref f10))) (l10:K.lookup f10=some ⟨oc10,od10,.func (PySem.W.fnOf "read_rule" "read_rule" (bu dc) (aZ dc) (ao dc) .none kV10 dc10 pm10 an10 cd10 ct10),sl10⟩) (c10:PySem.W.codeIn K cd10 "read_rule" = true) (k10:PySem.W.keepIn K (.ref f10)=true)
  {f11:Addr}{od11 an11:Option Addr}{sl11:Array (Option Value)}{oc11 kV11 dc11 pm11 cd11 ct11:Value}
  (a11:PySem.W.nsIn K mainGlobals "_law_hand" = some (some (.ref f11))) (l11:K.lookup f11=some ⟨oc11,od11,.func (PySem.W.fnOf "_law_hand" "_law_hand" (bu dF) (aZ dF) (ao dF) .none kV11 dc11 pm11 an11 cd11 ct11),sl11⟩) (c11:PySem.W.codeIn K cd11 "_law_hand" = true) (k11:PySem.W.keepIn K (.ref f11)=true)
  {f12:Addr}{od12 an12:Option Addr}{sl12:Array (Option Value)}{oc12 kV12 dc12 pm12 cd12 ct12:Value}
  (a12:PySem.W.nsIn K mainGlobals "_law_take" = some (some (.ref f12))) (l12:K.lookup f12=some ⟨oc12,od12,.func (PySem.W.fnOf "_law_take" "_law_take" (bu dL) (aZ dL) (ao dL) .none kV12 dc12 pm12 an12 cd12 ct12),sl12⟩) (c12:PySem.W.codeIn K cd12 "_law_take" = true) (k12:PySem.W.keepIn K (.ref f12)=true)
  {f13:Addr}{od13 an13:Option Addr}{sl13:Array (Option Value)}{oc13 kV13 dc13 pm13 cd13 ct13:Value}
  (a13:PySem.W.nsIn K mainGlobals "_law_pick" = some (some (.ref f13))) (l13:K.lookup f13=some ⟨oc13,od13,.func (PySem.W.fnOf "_law_pick" "_law_pick" (bu dQ) (aZ dQ) (ao dQ) .none kV13 dc13 pm13 an13 cd13 ct13),sl13⟩) (c13:PySem.W.codeIn K cd13 "_law_pick" = true) (k13:PySem.W.keepIn K (.ref f13)=true)
  {f14:Addr}{od14 an14:Option Addr}{sl14:Array (Option Value)}{oc14 kV14 dc14 pm14 cd14 ct14:Value}
  (a14:PySem.W.nsIn K mainGlobals "_law_rule" = some (some (.ref f14))) (l14:K.lookup f14=some ⟨oc14,od14,.func (PySem.W.fnOf "_law_rule" "_law_rule" (bu cL) (aZ cL) (ao cL) .none kV14 dc14 pm14 an14 cd14 ct14),sl14⟩) (c14:PySem.W.codeIn K cd14 "_law_rule" = true) (k14:PySem.W.keepIn K (.ref f14)=true)
  {f15:Addr}{od15 an15:Option Addr}{sl15:Array (Option Value)}{oc15 kV15 dc15 pm15 cd15 ct15:Value}
  (a15:PySem.W.nsIn K mainGlobals "_law_written" = some (some (.ref f15))) (l15:K.lookup f15=some ⟨oc15,od15,.func (PySem.W.fnOf "_law_written" "_law_written" (bu bF) (aZ bF) (ao bF) .none kV15 dc15 pm15 an15 cd15 ct15),sl15⟩) (c15:PySem.W.codeIn K cd15 "_law_written" = true) (k15:PySem.W.keepIn K (.ref f15)=true)
  {f16:Addr}{od16 an16:Option Addr}{sl16:Array (Option Value)}{oc16 kV16 dc16 pm16 cd16 ct16:Value}
  (a16:PySem.W.nsIn K mainGlobals "_law_text_bent" = some (some (.ref f16))) (l16:K.lookup f16=some ⟨oc16,od16,.func (PySem.W.fnOf "_law_text_bent" "_law_text_bent" (bu bV) (aZ bV) (ao bV) .none kV16 dc16 pm16 an16 cd16 ct16),sl16⟩) (c16:PySem.W.codeIn K cd16 "_law_text_bent" = true) (k16:PySem.W.keepIn K (.ref f16)=true)
  {f17:Addr}{od17 an17:Option Addr}{sl17:Array (Option Value)}{oc17 kV17 dc17 pm17 cd17 ct17:Value}
  (a17:PySem.W.nsIn K mainGlobals "_law_told" = some (some (.ref f17))) (l17:K.lookup f17=some ⟨oc17,od17,.func (PySem.W.fnOf "_law_told" "_law_told" (bu dM) (aZ dM) (ao dM) .none kV17 dc17 pm17 an17 cd17 ct17),sl17⟩) (c17:PySem.W.codeIn K cd17 "_law_told" = true) (k17:PySem.W.keepIn K (.ref f17)=true)
  {f18:Addr}{od18 an18:Option Addr}{sl18:Array (Option Value)}{oc18 kV18 dc18 pm18 cd18 ct18:Value}
  (a18:PySem.W.nsIn K mainGlobals "_law_made" = some (some (.ref f18))) (l18:K.lookup f18=some ⟨oc18,od18,.func (PySem.W.fnOf "_law_made" "_law_made" (bu dR) (aZ dR) (ao dR) .none kV18 dc18 pm18 an18 cd18 ct18),sl18⟩) (c18:PySem.W.codeIn K cd18 "_law_made" = true) (k18:PySem.W.keepIn K (.ref f18)=true)
  {f19:Addr}{od19 an19:Option Addr}{sl19:Array (Option Value)}{oc19 kV19 dc19 pm19 cd19 ct19:Value}
  (a19:PySem.W.nsIn K mainGlobals "_law_begins" = some (some (.ref f19))) (l19:K.lookup f19=some ⟨oc19,od19,.func (PySem.W.fnOf "_law_begins" "_law_begins" (bu bW) (aZ bW) (ao bW) .none kV19 dc19 pm19 an19 cd19 ct19),sl19⟩) (c19:PySem.W.codeIn K cd19 "_law_begins" = true) (k19:PySem.W.keepIn K (.ref f19)=true)
  {f20:Addr}{od20 an20:Option Addr}{sl20:Array (Option Value)}{oc20 kV20 dc20 pm20 cd20 ct20:Value}
  (a20:PySem.W.nsIn K mainGlobals "_law_many" = some (some (.ref f20))) (l20:K.lookup f20=some ⟨oc20,od20,.func (PySem.W.fnOf "_law_many" "_law_many" (bu cj) (aZ cj) (ao cj) .none kV20 dc20 pm20 an20 cd20 ct20),sl20⟩) (c20:PySem.W.codeIn K cd20 "_law_many" = true) (k20:PySem.W.keepIn K (.ref f20)=true)
  {f21:Addr}{od21 an21:Option Addr}{sl21:Array (Option Value)}{oc21 kV21 dc21 pm21 cd21 ct21:Value}
  (a21:PySem.W.nsIn K mainGlobals "_law_due" = some (some (.ref f21))) (l21:K.lookup f21=some ⟨oc21,od21,.func (PySem.W.fnOf "_law_due" "_law_due" (bu eH) (aZ eH) (ao eH) .none kV21 dc21 pm21 an21 cd21 ct21),sl21⟩) (c21:PySem.W.codeIn K cd21 "_law_due" = true) (k21:PySem.W.keepIn K (.ref f21)=true)
  {f22:Addr}{od22 an22:Option Addr}{sl22:Array (Option Value)}{oc22 kV22 dc22 pm22 cd22 ct22:Value}
  (a22:PySem.W.nsIn K mainGlobals "_law_wide" = some (some (.ref f22))) (l22:K.lookup f22=some ⟨oc22,od22,.func (PySem.W.fnOf "_law_wide" "_law_wide" (bu df) (aZ df) (ao df) .none kV22 dc22 pm22 an22 cd22 ct22),sl22⟩) (c22:PySem.W.codeIn K cd22 "_law_wide" = true) (k22:PySem.W.keepIn K (.ref f22)=true)
  {f23:Addr}{od23 an23:Option Addr}{sl23:Array (Option Value)}{oc23 kV23 dc23 pm23 cd23 ct23:Value}
  (a23:PySem.W.nsIn K mainGlobals "law" = some (some (.ref f23))) (l23:K.lookup f23=some ⟨oc23,od23,.func (PySem.W.fnOf "law" "law" (bu iy) (aZ iy) (ao iy) .none kV23 dc23 pm23 an23 cd23 ct23),sl23⟩) (c23:PySem.W.codeIn K cd23 "law" = true) (k23:PySem.W.keepIn K (.ref f23)=true)
  (z_ValueError:PySem.W.nsIn K mainGlobals "ValueError" = some none)
  (z_abs:PySem.W.nsIn K mainGlobals "abs" = some none)
  (z_all:PySem.W.nsIn K mainGlobals "all" = some none)
  (z_bool:PySem.W.nsIn K mainGlobals "bool" = some none)
  (z_int:PySem.W.nsIn K mainGlobals "int" = some none)
  (z_isinstance:PySem.W.nsIn K mainGlobals "isinstance" = some none)
  (z_len:PySem.W.nsIn K mainGlobals "len" = some none)
  (z_list:PySem.W.nsIn K mainGlobals "list" = some none)
  (z_min:PySem.W.nsIn K mainGlobals "min" = some none)
  (z_range:PySem.W.nsIn K mainGlobals "range" = some none)
  (z_repr:PySem.W.nsIn K mainGlobals "repr" = some none)
  (z_str:PySem.W.nsIn K mainGlobals "str" = some none)
  (z_sum:PySem.W.nsIn K mainGlobals "sum" = some none)
  (z_tuple:PySem.W.nsIn K mainGlobals "tuple" = some none)
  {ga_FIGURES:Tok} (ga_FIGURES_:PySem.W.nsIn K mainGlobals "FIGURES" = some (some (.str "0123456789" ga_FIGURES)))
  {ga_GREATEST_LEAST:Tok} (ga_GREATEST_LEAST_:PySem.W.nsIn K mainGlobals "GREATEST_LEAST" = some (some (.int 9 ga_GREATEST_LEAST)))
  {ga_LAST_SWITCH:Tok} (ga_LAST_SWITCH_:PySem.W.nsIn K mainGlobals "LAST_SWITCH" = some (some (.int 5 ga_LAST_SWITCH)))
  {ga_LETTERS:Tok} (ga_LETTERS_:PySem.W.nsIn K mainGlobals "LETTERS" = some (some (.str "abcdef" ga_LETTERS)))
  {ga_MOST_DEEP:Tok} (ga_MOST_DEEP_:PySem.W.nsIn K mainGlobals "MOST_DEEP" = some (some (.int 6 ga_MOST_DEEP)))
  {ga_MOST_PARTS:Tok} (ga_MOST_PARTS_:PySem.W.nsIn K mainGlobals "MOST_PARTS" = some (some (.int 6 ga_MOST_PARTS)))
  {ga_MOST_RULES:Tok} (ga_MOST_RULES_:PySem.W.nsIn K mainGlobals "MOST_RULES" = some (some (.int 40 ga_MOST_RULES)))
  {ga_WORDS:Addr}{ob_WORDS:Obj} (ga_WORDS_:PySem.W.nsIn K mainGlobals "WORDS" = some (some (.ref ga_WORDS))) (gl_WORDS:K.lookup ga_WORDS=some ob_WORDS) (gq_WORDS:(ga_WORDS==sysModules)=false/\∃ vs,Obj.IsDictOf (bN P w) ob_WORDS vs/\KPs [("&",(.str "all")),("|",(.str "any")),("^",(.str "odd"))] vs)
  {ca_SignError:Addr} (cm_SignError:PySem.W.nsIn K mainGlobals "SignError" = some (some (.ref ca_SignError)))
  {ca_NoText:Addr} (cm_NoText:PySem.W.nsIn K mainGlobals "NoText" = some (some (.ref ca_NoText)))
  {ca_NoLine:Addr} (cm_NoLine:PySem.W.nsIn K mainGlobals "NoLine" = some (some (.ref ca_NoLine)))
  {ca_OnNought:Addr} (cm_OnNought:PySem.W.nsIn K mainGlobals "OnNought" = some (some (.ref ca_OnNought)))
  (ck:PySem.W.excIn K ca_NoText xy "ValueError.__new__" = true)
  (cx:lN K ca_NoText=true)
  (ch:vp K ca_NoText ca_SignError=true)
  (cT:PySem.W.kitAny K (.ref ca_NoText) [.ref ca_NoLine,.ref ca_OnNought]=some false)
  (cV:PySem.W.kitOne K (.ref ca_NoText) (.type "ValueError")=some true)
  : ∃ t,Txt P w K mg t/\t.f23=f23:=by
 have F0:=ce (st:=eE) l0 c0 k0
 have F1:=ce (st:=dH) l1 c1 k1
 have F2:=ce (st:=bO) l2 c2 k2
 have F3:=ce (st:=eg) l3 c3 k3
 have F4:=ce (st:=eG) l4 c4 k4
 have F5:=ce (st:=dZ) l5 c5 k5
 have F6:=ce (st:=fH) l6 c6 k6
 have F7:=ce (st:=eK) l7 c7 k7
 have F8:=ce (st:=cG) l8 c8 k8
 have F9:=ce (st:=dh) l9 c9 k9
 have F10:=ce (st:=dc) l10 c10 k10
 have F11:=ce (st:=dF) l11 c11 k11
 have F12:=ce (st:=dL) l12 c12 k12
 have F13:=ce (st:=dQ) l13 c13 k13
 have F14:=ce (st:=cL) l14 c14 k14
 have F15:=ce (st:=bF) l15 c15 k15
 have F16:=ce (st:=bV) l16 c16 k16
 have F17:=ce (st:=dM) l17 c17 k17
 have F18:=ce (st:=dR) l18 c18 k18
 have F19:=ce (st:=bW) l19 c19 k19
 have F20:=ce (st:=cj) l20 c20 k20
 have F21:=ce (st:=eH) l21 c21 k21
 have F22:=ce (st:=df) l22 c22 k22
 have F23:=ce (st:=iy) l23 c23 k23
 refine⟨⟨f0,_,f1,_,f2,_,f3,_,f4,_,f5,_,f6,_,f7,_,f8,_,f9,_,f10,_,f11,_,f12,_,f13,_,f14,_,f15,_,f16,_,f17,_,f18,_,f19,_,f20,_,f21,_,f22,_,f23,_,ga_FIGURES,ga_GREATEST_LEAST,ga_LAST_SWITCH,ga_LETTERS,ga_MOST_DEEP,ga_MOST_PARTS,ga_MOST_RULES,ga_WORDS,ca_SignError,ca_NoText,ca_NoLine,ca_OnNought⟩,⟨PySem.W.mg_of X G cm_SignError,PySem.W.mg_of X G cm_NoText,PySem.W.mg_of X G cm_NoLine,PySem.W.mg_of X G cm_OnNought,ck,cx,ch,cT,cV,F0,PySem.W.mg_of X G a0,F0.binds λ_ _ _ _ _ _ us hl=>(by obtain⟨_,rfl⟩:=kA hl;rfl),F1,PySem.W.mg_of X G a1,F1.binds λ_ _ _ _ _ _ us hl=>(by obtain⟨_,_,_,rfl⟩:=vK hl;rfl),F2,PySem.W.mg_of X G a2,F2.binds λ_ _ _ _ _ _ us hl=>(by obtain⟨_,rfl⟩:=kA hl;rfl),F3,PySem.W.mg_of X G a3,F3.binds λ_ _ _ _ _ _ us hl=>(by obtain⟨_,rfl⟩:=kA hl;rfl),F4,PySem.W.mg_of X G a4,F4.binds λ_ _ _ _ _ _ us hl=>(by obtain⟨_,rfl⟩:=kA hl;rfl),F5,PySem.W.mg_of X G a5,F5.binds λ_ _ _ _ _ _ us hl=>(by obtain⟨_,_,rfl⟩:=rP hl;rfl),F6,PySem.W.mg_of X G a6,F6.binds λ_ _ _ _ _ _ us hl=>(by obtain⟨_,rfl⟩:=kA hl;rfl),F7,PySem.W.mg_of X G a7,F7.binds λ_ _ _ _ _ _ us hl=>(by obtain⟨_,rfl⟩:=kA hl;rfl),F8,PySem.W.mg_of X G a8,F8.binds λ_ _ _ _ _ _ us hl=>(by obtain⟨_,_,_,rfl⟩:=vK hl;rfl),F9,PySem.W.mg_of X G a9,F9.binds λ_ _ _ _ _ _ us hl=>(by obtain⟨_,_,_,rfl⟩:=vK hl;rfl),F10,PySem.W.mg_of X G a10,F10.binds λ_ _ _ _ _ _ us hl=>(by obtain⟨_,rfl⟩:=kA hl;rfl),F11,PySem.W.mg_of X G a11,F11.binds λ_ _ _ _ _ _ us hl=>(by obtain⟨_,_,rfl⟩:=rP hl;rfl),F12,PySem.W.mg_of X G a12,F12.binds λ_ _ _ _ _ _ us hl=>(by obtain⟨_,_,rfl⟩:=rP hl;rfl),F13,PySem.W.mg_of X G a13,F13.binds λ_ _ _ _ _ _ us hl=>(by obtain⟨_,_,rfl⟩:=rP hl;rfl),F14,PySem.W.mg_of X G a14,F14.binds λ_ _ _ _ _ _ us hl=>(by obtain⟨_,_,_,_,rfl⟩:=Ao hl;rfl),F15,PySem.W.mg_of X G a15,F15.binds λ_ _ _ _ _ _ us hl=>(by obtain⟨_,rfl⟩:=kA hl;rfl),F16,PySem.W.mg_of X G a16,F16.binds λ_ _ _ _ _ _ us hl=>(by obtain⟨_,_,_,rfl⟩:=vK hl;rfl),F17,PySem.W.mg_of X G a17,F17.binds λ_ _ _ _ _ _ us hl=>(by obtain⟨_,rfl⟩:=kA hl;rfl),F18,PySem.W.mg_of X G a18,F18.binds λ_ _ _ _ _ _ us hl=>(by obtain⟨_,_,rfl⟩:=rP hl;rfl),F19,PySem.W.mg_of X G a19,F19.binds λ_ _ _ _ _ _ us hl=>(by obtain⟨_,_,rfl⟩:=rP hl;rfl),F20,PySem.W.mg_of X G a20,F20.binds λ_ _ _ _ _ _ us hl=>(by obtain⟨_,rfl⟩:=kA hl;rfl),F21,PySem.W.mg_of X G a21,F21.binds λ_ _ _ _ _ _ us hl=>(by obtain⟨_,rfl⟩:=kA hl;rfl),F22,PySem.W.mg_of X G a22,F22.binds λ_ _ _ _ _ _ us hl=>(by obtain⟨_,rfl⟩:=kA hl;rfl),F23,PySem.W.mg_of X G a23,F23.binds λ_ _ _ _ _ _ us hl=>(by obtain⟨_,rfl⟩:=kA hl;rfl),PySem.W.mg_none_of X G z_ValueError,PySem.W.mg_none_of X G z_abs,PySem.W.mg_none_of X G z_all,PySem.W.mg_none_of X G z_bool,PySem.W.mg_none_of X G z_int,PySem.W.mg_none_of X G z_isinstance,PySem.W.mg_none_of X G z_len,PySem.W.mg_none_of X G z_list,PySem.W.mg_none_of X G z_min,PySem.W.mg_none_of X G z_range,PySem.W.mg_none_of X G z_repr,PySem.W.mg_none_of X G z_str,PySem.W.mg_none_of X G z_sum,PySem.W.mg_none_of X G z_tuple,PySem.W.mg_of X G ga_FIGURES_,λ_ _=>rfl,PySem.W.mg_of X G ga_GREATEST_LEAST_,λ_ _=>rfl,PySem.W.mg_of X G ga_LAST_SWITCH_,λ_ _=>rfl,PySem.W.mg_of X G ga_LETTERS_,λ_ _=>rfl,PySem.W.mg_of X G ga_MOST_DEEP_,λ_ _=>rfl,PySem.W.mg_of X G ga_MOST_PARTS_,λ_ _=>rfl,PySem.W.mg_of X G ga_MOST_RULES_,λ_ _=>rfl,PySem.W.mg_of X G ga_WORDS_,let ⟨a,vs,b,c⟩:=gq_WORDS;⟨a,_,vs,gl_WORDS,b,c⟩⟩,rfl⟩
theorem txt_ex {P:Program}{w:World}{K:PySem.W.Frag}{mg:Str->Option Value}{f:Addr} (h:∃ t,Txt P w K mg t/\t.f23=f):∃ t,Txt P w K mg t:=let ⟨t,a,_⟩:=h;⟨t,a⟩
theorem walk {l:PySem.W.OpenLaw}{q:Program}{loose:List Str}{XP:(Str->Option Value)->Heap->Prop}{YP:World->Heap->Prop}{d:DefRec}{K:Params->PySem.W.Frag} (hn:l.most=some 63) (hdf:d.params.defaults=[])
  (hY:∀ (w:World) (h:Heap),YP w h->(K w.params).In h)
  (F:∀ (w:World) (mg:Str->Option Value) (fa:Addr) (h:Heap),(K w.params).In h->h.Ns mainGlobals mg->mg d.name=some (.ref fa)->
    ∃ fd:FuncData,(∀ (s:Shared) (u:Value),BindsTo s fd ⟨[u],[]⟩ [("_law_script",u)])/\∀ base:Heap,(K w.params).In base->base.Ns mainGlobals mg->bD l.prog w (K w.params) mg base CX0 18 fa fd ["_law_script"] (spI (K w.params) oB)) :
  PySem.W.WalkO q loose XP YP l.row.toRowW d [] (λf vs=>PySem.call f vs):=
 L2.walk_of (n:=63) (k:=18) (x:="_law_script") (CX:=λ_=>CX0) (sp:=λw=>spI (K w.params) oB) hn (by decide) hdf ⟨rfl,by decide,by decide,rfl⟩ hY F (λ_ _ a ns hl hO hS=>vJ hO hS (u7 ns hl)) λ_ _ _ _ _ z=>z
theorem law_mk {l:PySem.W.OpenLaw}{w:World}{K:PySem.W.Frag}{h:Heap}{mg:Str->Option Value}{fa:Addr} (hfa:mg "law" = some (.ref fa)) (T0:∃ t,Txt l.prog w K mg t) :
  ∃ fd:FuncData,(∀ (s:Shared) (v:Value),BindsTo s fd ⟨[v],[]⟩ [("_law_script",v)])/\∀ base:Heap,K.In base->base.Ns mainGlobals mg->bD l.prog w K mg base CX0 18 fa fd ["_law_script"] (spI K oB):=by
 obtain⟨t,T⟩:=T0
 have e:=hfa.symm.trans T.m23
 cases e
 refine⟨t.g23,λs v=>?_,λbase _ _=>xu T⟩
 obtain⟨oc,od,kV,doc,pm,an,cdv,ct,osl,e,_⟩:=T.F23.ex
 rw [e]
 exact .of_eq rfl
end Own
theorem PySem.W.Fast.tw6780052638320181499:True:=trivial
theorem PySem.W.Fast.tw13915335700970392034:True:=trivial
theorem PySem.W.Fast.tw6795799693810304647:True:=trivial
theorem PySem.W.Fast.tw12929810342608543875:True:=trivial
theorem PySem.W.Fast.tw9767801694519351788:True:=trivial
theorem PySem.W.Fast.tw9543743051456092001:True:=trivial
theorem PySem.W.Fast.tw4592109599084359116:True:=trivial
theorem PySem.W.Fast.tw5205023050991368242:True:=trivial
theorem PySem.W.Fast.tw8168651376222355847:True:=trivial
theorem PySem.W.Fast.tw13867667099161156352:True:=trivial
theorem PySem.W.Fast.tw8514867777957682240:True:=trivial
theorem PySem.W.Fast.tw15841066126556678095:True:=trivial
theorem PySem.W.Fast.tw5532199862382046716:True:=trivial
theorem PySem.W.Fast.tw9672655032660172924:True:=trivial
theorem PySem.W.Fast.tw9006022406835805260:True:=trivial
theorem PySem.W.Fast.tw12206310449883939978:True:=trivial
theorem PySem.W.Fast.tw9604678955599320872:True:=trivial
theorem PySem.W.Fast.tw6433653804409448193:True:=trivial
theorem PySem.W.Fast.tw14483919897185271039:True:=trivial
theorem PySem.W.Fast.tw3039286451606832320:True:=trivial
theorem PySem.W.Fast.tw3318361096674703375:True:=trivial
theorem PySem.W.Fast.tw7926794039709431769:True:=trivial
theorem PySem.W.Fast.tw6480489221625583452:True:=trivial
theorem PySem.W.Fast.tw8532474439548323911:True:=trivial
theorem PySem.W.Fast.tw15955607638618454849:True:=trivial
theorem PySem.W.Fast.tw5222663774562894055:True:=trivial
theorem PySem.W.Fast.tw9039134719886373888:True:=trivial
theorem PySem.W.Fast.tw1931742039087503178:True:=trivial
theorem PySem.W.Fast.tw976238664452317962:True:=trivial
theorem PySem.W.Fast.tw91343406961062408:True:=trivial
theorem PySem.W.Fast.tw6644769011006744167:True:=trivial
theorem PySem.W.Fast.tw5022374198028371946:True:=trivial
theorem PySem.W.Fast.tw10794016283810195713:True:=trivial
theorem PySem.W.Fast.tw10026865629550891041:True:=trivial
theorem PySem.W.Fast.tw13505090719428887122:True:=trivial
theorem PySem.W.Fast.tw7132280199226771547:True:=trivial
theorem PySem.W.Fast.tw8499028124652193147:True:=trivial
theorem PySem.W.Fast.tw16997319300995907676:True:=trivial
theorem PySem.W.Fast.tw7358930325969956757:True:=trivial
theorem PySem.W.Fast.tw17669539580604712951:True:=trivial
theorem PySem.W.Fast.tw198546335323856182:True:=trivial
theorem PySem.W.Fast.tw13774005633046240482:True:=trivial
theorem PySem.W.Fast.tw5298421599317969051:True:=trivial
theorem PySem.W.Fast.tw15655152930259383565:True:=trivial
theorem PySem.W.Fast.tw9348768663417797013:True:=trivial
theorem PySem.W.Fast.tw17973571947587639654:True:=trivial
theorem PySem.W.Fast.tw11629729662658783190:True:=trivial
theorem PySem.W.Fast.tw7041316725421098475:True:=trivial
theorem PySem.W.Fast.tw13058040576152310113:True:=trivial
theorem PySem.W.Fast.tw2177319056544211112:True:=trivial
theorem PySem.W.Fast.tw6412292091620376794:True:=trivial
theorem PySem.W.Fast.tw416727202201832259:True:=trivial
open PySem PySem.W PyProof.Rows
set_option maxRecDepth 100000 in
set_option maxHeartbeats 0 in
theorem PySem.Challenge.cw_signpoly_k78_texts_of_no_rules_holds : PySem.Challenge.rw_signpoly_k78_texts_of_no_rules.Holds := by
 w_on;o_law;k_head;(case hw=>w_witness2)
 k_fill
 refine Own.walk (l:=PySem.Challenge.rw_signpoly_k78_texts_of_no_rules) rfl rfl (λw h Y=>PySem.W.kIn_of Y) ?F
 case F=>
  intro w mg fa h KX G hmg
  refine Own.law_mk (h:=h) hmg ?T
  case T=>
   refine' Own.txt_ex (Own.txt_mk KX G ?a0 ?l0 ?c0 ?k0 ?a1 ?l1 ?c1 ?k1 ?a2 ?l2 ?c2 ?k2 ?a3 ?l3 ?c3 ?k3 ?a4 ?l4 ?c4 ?k4 ?a5 ?l5 ?c5 ?k5 ?a6 ?l6 ?c6 ?k6 ?a7 ?l7 ?c7 ?k7 ?a8 ?l8 ?c8 ?k8 ?a9 ?l9 ?c9 ?k9 ?a10 ?l10 ?c10 ?k10 ?a11 ?l11 ?c11 ?k11 ?a12 ?l12 ?c12 ?k12 ?a13 ?l13 ?c13 ?k13 ?a14 ?l14 ?c14 ?k14 ?a15 ?l15 ?c15 ?k15 ?a16 ?l16 ?c16 ?k16 ?a17 ?l17 ?c17 ?k17 ?a18 ?l18 ?c18 ?k18 ?a19 ?l19 ?c19 ?k19 ?a20 ?l20 ?c20 ?k20 ?a21 ?l21 ?c21 ?k21 ?a22 ?l22 ?c22 ?k22 ?a23 ?l23 ?c23 ?k23 ?z_ValueError ?z_abs ?z_all ?z_bool ?z_int ?z_isinstance ?z_len ?z_list ?z_min ?z_range ?z_repr ?z_str ?z_sum ?z_tuple ?ga_FIGURES_ ?ga_GREATEST_LEAST_ ?ga_LAST_SWITCH_ ?ga_LETTERS_ ?ga_MOST_DEEP_ ?ga_MOST_PARTS_ ?ga_MOST_RULES_ ?ga_WORDS_ ?gl_WORDS ?gq_WORDS ?cm_SignError ?cm_NoText ?cm_NoLine ?cm_OnNought ?ck ?cx ?ch ?cT ?cV)
   case a0=>k_is
   case l0=>k_is
   case c0=>k_is
   case k0=>k_is
   case a1=>k_is
   case l1=>k_is
   case c1=>k_is
   case k1=>k_is
   case a2=>k_is
   case l2=>k_is
   case c2=>k_is
   case k2=>k_is
   case a3=>k_is
   case l3=>k_is
   case c3=>k_is
   case k3=>k_is
   case a4=>k_is
   case l4=>k_is
   case c4=>k_is
   case k4=>k_is
   case a5=>k_is
   case l5=>k_is
   case c5=>k_is
   case k5=>k_is
   case a6=>k_is
   case l6=>k_is
   case c6=>k_is
   case k6=>k_is
   case a7=>k_is
   case l7=>k_is
   case c7=>k_is
   case k7=>k_is
   case a8=>k_is
   case l8=>k_is
   case c8=>k_is
   case k8=>k_is
   case a9=>k_is
   case l9=>k_is
   case c9=>k_is
   case k9=>k_is
   case a10=>k_is
   case l10=>k_is
   case c10=>k_is
   case k10=>k_is
   case a11=>k_is
   case l11=>k_is
   case c11=>k_is
   case k11=>k_is
   case a12=>k_is
   case l12=>k_is
   case c12=>k_is
   case k12=>k_is
   case a13=>k_is
   case l13=>k_is
   case c13=>k_is
   case k13=>k_is
   case a14=>k_is
   case l14=>k_is
   case c14=>k_is
   case k14=>k_is
   case a15=>k_is
   case l15=>k_is
   case c15=>k_is
   case k15=>k_is
   case a16=>k_is
   case l16=>k_is
   case c16=>k_is
   case k16=>k_is
   case a17=>k_is
   case l17=>k_is
   case c17=>k_is
   case k17=>k_is
   case a18=>k_is
   case l18=>k_is
   case c18=>k_is
   case k18=>k_is
   case a19=>k_is
   case l19=>k_is
   case c19=>k_is
   case k19=>k_is
   case a20=>k_is
   case l20=>k_is
   case c20=>k_is
   case k20=>k_is
   case a21=>k_is
   case l21=>k_is
   case c21=>k_is
   case k21=>k_is
   case a22=>k_is
   case l22=>k_is
   case c22=>k_is
   case k22=>k_is
   case a23=>k_is
   case l23=>k_is
   case c23=>k_is
   case k23=>k_is
   case z_ValueError=>k_is
   case z_abs=>k_is
   case z_all=>k_is
   case z_bool=>k_is
   case z_int=>k_is
   case z_isinstance=>k_is
   case z_len=>k_is
   case z_list=>k_is
   case z_min=>k_is
   case z_range=>k_is
   case z_repr=>k_is
   case z_str=>k_is
   case z_sum=>k_is
   case z_tuple=>k_is
   case ga_FIGURES_=>k_is
   case ga_GREATEST_LEAST_=>k_is
   case ga_LAST_SWITCH_=>k_is
   case ga_LETTERS_=>k_is
   case ga_MOST_DEEP_=>k_is
   case ga_MOST_PARTS_=>k_is
   case ga_MOST_RULES_=>k_is
   case ga_WORDS_=>k_is
   case gl_WORDS=>k_is
   case gq_WORDS=>exact⟨rfl,L2.kdc_mk (.cons rfl ⟨_,rfl⟩ (.cons rfl ⟨_,rfl⟩ (.cons rfl ⟨_,rfl⟩ .nil))) (by decide)⟩
   case cm_SignError=>k_is
   case cm_NoText=>k_is
   case cm_NoLine=>k_is
   case cm_OnNought=>k_is
   case ck=>kernel_rfl
   case cx=>kernel_rfl
   case ch=>kernel_rfl
   case cT=>kernel_rfl
   case cV=>kernel_rfl
