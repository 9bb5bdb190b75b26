import PyProof.Rows.All
import Wide.All
import OpenK.AllK
import Wide.FinOn
import Lean
import PyProof.EqAt
import PyProof.EqKinds
import PyProof.TupleCall
import PyProof.ListRange
import PyProof.NeKinds
import KE.KUnpack
import KE.KSortTup
import PyProof.ZipIter
import PyProof.Rows.CallKwBuiltin
import KE.KDictLaws
import KE.KDictList
import PySem.Challenge.RW_signpoly_k75_functions_written
set_option Elab.async false
set_option linter.all false
set_option maxRecDepth 100000
set_option genSizeOf false
noncomputable section
namespace L2
open PySem PySem.Spec PyProof.Rows
abbrev Key:=Sum Int Str
noncomputable def ip:Key->Value->Bool
 | .inl k,v=>Value.isInt k v
 | .inr x,v=>Value.isStrOf x v
noncomputable def oP (w:World):Key->Int
 | .inl k=>hashInt k
 | .inr x=>hashStr w x
theorem aI:∀ {k:Key}{v:Value},ip k v=true->(∃ i t,k=Sum.inl i/\v=Value.int i t)\/(∃ x t,k=Sum.inr x/\v=Value.str x t)
 | .inl i,v,h=>by
  obtain⟨t,e⟩:=Value.isInt_shape (k:=i) (v:=v) h
  exact .inl ⟨i,t,rfl,e⟩
 | .inr x,v,h=>by
  obtain⟨t,e⟩:=Value.isStrOf_shape (x:=x) (v:=v) h
  exact .inr ⟨x,t,rfl,e⟩
theorem iL (x:Str) (t:Tok):ip (.inr x) (.str x t)=true:=by simp [ip,Value.isStrOf]
theorem mE (a b:Int):decide ((Sum.inl a:Key)=Sum.inl b)=(a==b):=by
 by_cases e:a=b
 ·subst e;simp
 ·have h:¬ (Sum.inl a:Key)=Sum.inl b:=λq=>e (Sum.inl.inj q)
  rw [decide_eq_false h]
  exact (beq_eq_false_iff_ne.mpr e).symm
theorem mW (a b:Str):decide ((Sum.inr a:Key)=Sum.inr b)=decide (a=b):=by
 by_cases e:a=b
 ·subst e;simp
 ·have h:¬ (Sum.inr a:Key)=Sum.inr b:=λq=>e (Sum.inr.inj q)
  rw [decide_eq_false h,decide_eq_false e]
theorem lT (a:Int) (b:Str):decide ((Sum.inl a:Key)=Sum.inr b)=false:=decide_eq_false (λq=>nomatch q)
theorem mh (a:Str) (b:Int):decide ((Sum.inr a:Key)=Sum.inl b)=false:=decide_eq_false (λq=>nomatch q)
noncomputable def bp (prog:Program) (w:World):PySem.KeyKind prog w Key where
 is:=ip
 hash:=oP w
 inj:=λv a b ha hb=>by
  rcases aI ha with⟨i,t,rfl,rfl⟩ | ⟨x,t,rfl,rfl⟩
  ·rcases aI hb with⟨j,u,rfl,e⟩ | ⟨y,u,rfl,e⟩
   ·injection e with e1 _;rw [e1]
   ·exact nomatch e
  ·rcases aI hb with⟨j,u,rfl,e⟩ | ⟨y,u,rfl,e⟩
   ·exact nomatch e
   ·injection e with e1 _;rw [e1]
 byValue:=λk v h=>by
  rcases aI h with⟨i,t,rfl,rfl⟩ | ⟨x,t,rfl,rfl⟩<;>rfl
 pyHash:=λhv h=>by
  rcases aI hv with⟨i,t,rfl,rfl⟩ | ⟨x,t,rfl,rfl⟩
  ·exact wpAny_pyHash_int h
  ·exact wpAny_pyHash_str h
 eqBool:=λhu hv h=>by
  rcases aI hu with⟨i,t,rfl,rfl⟩ | ⟨x,t,rfl,rfl⟩
  ·rcases aI hv with⟨j,u,rfl,rfl⟩ | ⟨y,u,rfl,rfl⟩
   ·rw [mE] at h;exact wpAny_eqBool_int h
   ·rw [lT] at h;exact SeqAt.EqAt.int_str i t y u _ _ _ _ h
  ·rcases aI hv with⟨j,u,rfl,rfl⟩ | ⟨y,u,rfl,rfl⟩
   ·rw [mh] at h;exact SeqAt.EqAt.str_int x t j u _ _ _ _ h
   ·rw [mW] at h;exact wpAny_eqBool_str h
 «strs»:=λk x t v h=>by
  rcases aI h with⟨i,u,rfl,e⟩ | ⟨y,u,rfl,e⟩
  ·exact nomatch e
  ·injection e with e1 _
   subst e1
   cases v<;>rfl
theorem bV (prog:Program) (w:World) (x:Str) (t:Tok):(bp prog w).is (.inr x) (.str x t)=true:=iL x t
end L2
namespace L2
open PySem PySem.Spec PyProof.Rows
inductive V where
 | non | bl (b:Bool) | int (i:Int) | str (x:Str) | byt (b:Array UInt8) | flt (b:UInt64) | ref (a:Addr) | ty (n:String)
 deriving DecidableEq
noncomputable def al:V->Value->Prop
 | .non,u=>u=Value.none
 | .bl b,u=>u=Value.bool b
 | .int i,u=>∃ t,u=Value.int i t
 | .str x,u=>∃ t,u=Value.str x t
 | .byt b,u=>∃ t,u=Value.bytes b t
 | .flt b,u=>∃ t,u=Value.float b t
 | .ref a,u=>u=Value.ref a
 | .ty n,u=>u=Value.type n
abbrev ak:List V->List Value->Prop:=Paired al
theorem ak.length {xs:List V}{us:List Value} (r:ak xs us):xs.length=us.length:=Paired.length r
theorem ak.get:∀ {xs:List V}{us:List Value}{i:Nat}{x:V},ak xs us->xs[i]?=some x->∃ u,us[i]?=some u/\al x u
 | _,_,_,_,.nil,e=>by simp at e
 | _,_,0,_,.cons r _,e=>by simp at e;subst e;exact⟨_,rfl,r⟩
 | _,_,i+1,x,.cons _ t,e=>by
  obtain⟨u,h1,h2⟩:=ak.get (i:=i) (x:=x) t (by simpa using e)
  exact⟨u,by simpa using h1,h2⟩
theorem ak.set {x:V}{u:Value} (r:al x u):∀ {xs:List V}{us:List Value} (i:Nat),ak xs us->ak (xs.set i x) (us.set i u)
 | _,_,_,.nil=>.nil
 | _,_,0,.cons _ t=>.cons r t
 | _,_,i+1,.cons q t=>.cons q (ak.set r i t)
theorem ak.append:∀ {xs ys:List V}{us ws:List Value},ak xs us->ak ys ws->ak (xs++ys) (us++ws)
 | _,_,_,_,.nil,s=>s
 | _,_,_,_,.cons r t,s=>.cons r (ak.append t s)
noncomputable def mq:Option V->Option Value->Prop
 | some v,some u=>al v u
 | none,none=>True
 | _,_=>False
noncomputable def KV {κ:Type}:List (κ×V)->List (κ×Value)->Prop:=Paired λ(p:κ×V) (q:κ×Value)=>p.1=q.1/\al p.2 q.2
noncomputable def kV:Key->V
 | .inl i=>.int i
 | .inr x=>.str x
inductive HO where
 | lst (xs:List V)
 | tup (xs:List V)
 | dK (kvs:List (Key×V)) | dT (kvs:List (List Key×V))
 | set (S:Int->Bool) (n:Nat)
 | ins (C dx:Addr) (fs:List (Str×V))
 | own (x:Addr)
 | xd (fs:List (Str×V))
 | met (f x:Addr)
 | rng (lo hi:Int)
 | frz (o:Obj) (u:HO)
 | tbl (ps:Array Value)
 | ext (φ:Heap->Prop)
abbrev Hp:=Addr->Option HO
noncomputable def upd (H:Hp) (a:Addr) (o:HO):Hp:=λb=>if b=a then some o else H b
theorem aN {H:Hp}{a:Addr}{o:HO}:upd H a o a=some o:=by unfold upd;rw [if_pos rfl]
theorem ax {H:Hp}{a b:Addr}{o:HO} (h:b≠a):upd H a o b=H b:=by unfold upd;rw [if_neg h]
theorem aD {H:Hp}{a b:Addr}{o:HO} (h:H a=some o) (h':H b=none):a≠b:=by
 intro e;subst e;rw [h] at h';cases h'
noncomputable def cH (h:Heap) (a:Addr) (its:Array Value):Prop:=∃ o:Obj,h.get? a=some o/\o.cls=.type "tuple"/\(∃ n,o.data=.seq its n)/\o.dict=none
theorem cH.tup {h:Heap}{a:Addr}{its:Array Value} (x:cH h a its):IsTup h a its:=let ⟨o,e,c,n,_⟩:=x;⟨o,e,c,n⟩
theorem cH.new (h:Heap) (its:Array Value):cH (h.push { cls:=.type "tuple",data:=.seq its }) h.objs.size its:=⟨_,Heap.get?_push_size _ rfl,rfl,⟨_,rfl⟩,rfl⟩
section
variable (P:Program) (w:World)
noncomputable def bi (H:Hp) (h:Heap) (a:Addr):HO->Prop
 | .lst xs=>xs.length<=sizeLine/\∃ (its:List Value) (n:Nat),ak xs its/\h.get? a=some { cls:=.type "list",data:=.seq its.toArray n }
 | .tup xs=>xs.length<=sizeLine/\∃ its:List Value,ak xs its/\cH h a its.toArray
 | .dK kvs=>kvs.length<=sizeLine/\(a==sysModules)=false/\∃ vs,KV kvs vs/\h.DictOf (bp P w) a vs
 | .dT kvs=>kvs.length<=sizeLine/\(a==sysModules)=false/\∃ xs:List (List Key×Addr×Value),
   Paired (λ(p:List Key×V) (q:List Key×Addr×Value)=>p.1=q.1/\H q.2.1=some (.tup (p.1.map kV))/\al p.2 q.2.2) kvs xs/\
   ∃ o es ep,h.get? a=some o/\o.ExactDict/\o.data=.dict es ep/\es.toList=xs.map (entryOfKey (tupleKind (bp P w)))/\(xs.map (·.1)).Nodup
 | .set S n=>h.SetOf (intKind P w) a S n
 | .ins C dx fs=>H dx=some (.own a)/\fs.length<=1000/\dx≠a/\h.get? a=some (PySem.W.instObj C dx)/\
   ∃ mA,h.Ns1 dx mA/\(∀ f,mq (fs.lookup f) (mA f))/\PySem.Within mA (fs.map (·.1))
 | .own _=>∃ o,h.get? a=some o
 | .xd fs=>∃ mA,h.Ns1 a mA/\∀ f,mq (fs.lookup f) (mA f)
 | .rng lo hi=>∃ t u v,h.get? a=some { cls:=.type "range",data:=.fields #[.int lo t,.int hi u,.int 1 v] }
 | .frz o u=>h.get? a=some o/\bi H h a u
 | .tbl ps=>h.get? a=some { cls:=.none,data:=.fields ps }
 | .met f x=>h.get? a=some (PySem.W.methodObj (.ref f) (.ref x))
 | .ext φ=>φ h/\(∃ o,h.get? a=some o)/\∀ h1 h2:Heap,φ h1->(∀ o,h1.get? a=some o->h2.get? a=some o)->φ h2
noncomputable def HOk (H:Hp) (h:Heap):Prop:=∀ a o,H a=some o->bi P w H h a o
end
section
variable {P:Program}{w:World}{H H':Hp}{h h':Heap}{a:Addr}{o:HO}
theorem bi.lt (x:bi P w H h a o):a < h.objs.size:=by
 cases o with
 | lst xs=>obtain⟨_,_,_,_,e⟩:=x;exact Heap.lt_size e
 | tup xs=>obtain⟨_,_,_,p⟩:=x;exact p.tup.lt
 | dK kvs=>obtain⟨_,_,_,_,o,_,_,e,_⟩:=x;exact Heap.lt_size e
 | dT kvs=>obtain⟨_,_,_,_,o,_,_,e,_⟩:=x;exact Heap.lt_size e
 | set S n=>obtain⟨o,_,_,_,e,_⟩:=x;exact Heap.lt_size e
 | ins C dx fs=>obtain⟨_,_,_,e,_⟩:=x;exact Heap.lt_size e
 | own y=>obtain⟨_,e⟩:=x;exact Heap.lt_size e
 | xd fs=>obtain⟨_,⟨_,_,_,e,_⟩,_⟩:=x;exact Heap.lt_size e
 | rng lo hi=>obtain⟨_,_,_,e⟩:=x;exact Heap.lt_size e
 | frz ob u=>obtain⟨e,_⟩:=x;exact Heap.lt_size e
 | tbl ps=>exact Heap.lt_size (show h.get? a=some _ from x)
 | met f y=>exact Heap.lt_size (show h.get? a=some _ from x)
 | ext φ=>obtain⟨_,⟨_,e⟩,_⟩:=x;exact Heap.lt_size e
theorem Paired.mapP {α β:Type}{F G:α->β->Prop}:∀ {l₁:List α}{l₂:List β},Paired F l₁ l₂->(∀ a b,F a b->G a b)->Paired G l₁ l₂
 | _,_,.nil,_=>.nil
 | _,_,.cons r t,f=>.cons (f _ _ r) (Paired.mapP t f)
theorem bi.stay (x:bi P w H h a o) (k:∀ b u,(b=a\/H b=some (.own a))->h.get? b=some u->h'.get? b=some u)
  (ho:∀ b,H b=some (.own a)->H' b=some (.own a)) (ht:∀ b xs,H b=some (.tup xs)->H' b=some (.tup xs)):bi P w H' h' a o:=by
 induction o with
 | lst xs=>obtain⟨z,its,n,r,e⟩:=x;exact⟨z,its,n,r,k _ _ (.inl rfl) e⟩
 | tup xs=>obtain⟨z,its,r,ob,e,c⟩:=x;exact⟨z,its,r,ob,k _ _ (.inl rfl) e,c⟩
 | dK kvs=>obtain⟨z,y,vs,r,ob,es,ep,e,c⟩:=x;exact⟨z,y,vs,r,ob,es,ep,k _ _ (.inl rfl) e,c⟩
 | dT kvs=>
  obtain⟨z,y,xs,r,ob,es,ep,e,c⟩:=x
  exact⟨z,y,xs,Paired.mapP r λp q z=>⟨z.1,ht _ _ z.2.1,z.2.2⟩,ob,es,ep,k _ _ (.inl rfl) e,c⟩
 | set S n=>obtain⟨ob,es,ep,t,e,c⟩:=x;exact⟨ob,es,ep,t,k _ _ (.inl rfl) e,c⟩
 | ins C dx fs=>
  obtain⟨d,z,ne,e,mA,⟨od,es,ep,e2,c⟩,r⟩:=x
  exact⟨ho _ d,z,ne,k _ _ (.inl rfl) e,mA,⟨od,es,ep,k _ _ (.inr d) e2,c⟩,r⟩
 | own y=>obtain⟨ob,e⟩:=x;exact⟨ob,k _ _ (.inl rfl) e⟩
 | xd fs=>obtain⟨mA,⟨od,es,ep,e,c⟩,r⟩:=x;exact⟨mA,⟨od,es,ep,k _ _ (.inl rfl) e,c⟩,r⟩
 | rng lo hi=>obtain⟨t,u,v,e⟩:=x;exact⟨t,u,v,k _ _ (.inl rfl) e⟩
 | frz ob u ih=>obtain⟨e,q⟩:=x;exact⟨k _ _ (.inl rfl) e,ih q⟩
 | tbl ps=>
  have e:h.get? a=some { cls:=.none,data:=.fields ps }:=x
  show h'.get? a=some { cls:=.none,data:=.fields ps }
  exact k a _ (.inl rfl) e
 | met f y=>
  have e:h.get? a=some (PySem.W.methodObj (.ref f) (.ref y)):=x
  show h'.get? a=some (PySem.W.methodObj (.ref f) (.ref y))
  exact k a _ (.inl rfl) e
 | ext φ=>obtain⟨p,⟨o,e⟩,st⟩:=x;exact⟨st _ _ p λo q=>k _ _ (.inl rfl) q,⟨o,k _ _ (.inl rfl) e⟩,st⟩
theorem HOk.lt (x:HOk P w H h) (e:H a=some o):a < h.objs.size:=(x a o e).lt
theorem HOk.fresh (x:HOk P w H h) (e:h.objs.size<=a):H a=none:=by
 cases q:H a with
 | none=>rfl
 | some u=>exact absurd (Nat.lt_of_lt_of_le (x.lt q) e) (Nat.lt_irrefl _)
theorem HOk.kept (x:HOk P w H h) (k:∀ b u,h.get? b=some u->h'.get? b=some u):HOk P w H h':=λa o e=>
 (x a o e).stay (λb u _ q=>k b u q) (λ_ q=>q) λ_ _ q=>q
theorem HOk.laid (x:HOk P w H h) (k:∀ b u,h.get? b=some u->h'.get? b=some u) (hp:h.objs.size<=a) (new:bi P w (upd H a o) h' a o):HOk P w (upd H a o) h':=λb u e=>by
 have hn:=x.fresh hp
 by_cases hb:b=a
 ·subst hb;rw [aN] at e;cases e;exact new
 ·rw [ax hb] at e
  exact (x b u e).stay (λc v _ q=>k c v q) (λc q=>by rw [ax (aD q hn)];exact q) λc xs q=>by rw [ax (aD q hn)];exact q
end
noncomputable def Rd (H:Hp) (a:Addr) (u:HO):Prop:=H a=some u\/∃ o,H a=some (.frz o u)
theorem Rd.of {H:Hp}{a:Addr}{u:HO} (h:H a=some u):Rd H a u:=.inl h
theorem Rd.ok {P:Program}{w:World}{H:Hp}{h:Heap}{a:Addr}{u:HO} (r:Rd H a u) (x:HOk P w H h):bi P w H h a u:=by
 rcases r with r | ⟨o,r⟩
 ·exact x a u r
 ·obtain⟨_,q⟩:=x a _ r
  exact q
noncomputable def Mut:Option HO->Prop
 | some (.lst _)=>True
 | some (.dK _)=>True
 | some (.dT _)=>True
 | some (.set _ _)=>True
 | some (.ins _ _ _)=>True
 | some (.ext _)=>True
 | _=>False
section
variable {P:Program}{w:World}{H:Hp}{h h':Heap}{x e:Addr}{o':HO}
theorem HOk.write (ok:HOk P w H h) (mu:Mut (H x)) (he:e=x\/H e=some (.own x)) (k:∀ b u,b≠e->h.get? b=some u->h'.get? b=some u) (heo:∃ u,h'.get? e=some u)
  (new:bi P w (upd H x o') h' x o'):HOk P w (upd H x o') h':=λb u q=>by
 have nown:∀ c y,H c=some (.own y)->c≠x:=λc y r z=>by subst z;rw [r] at mu;exact mu
 have ntup:∀ c xs,H c=some (.tup xs)->c≠x:=λc xs r z=>by subst z;rw [r] at mu;exact mu
 by_cases hb:b=x
 ·subst hb;rw [aN] at q;cases q;exact new
 ·rw [ax hb] at q
  by_cases hbe:b=e
  ·have q':H b=some (.own x):=by
    rcases he with z | z
    ·exact absurd (hbe.trans z) hb
    ·rw [hbe];exact z
   rw [q] at q';cases q'
   obtain⟨v,hv⟩:=heo
   exact⟨v,by rw [hbe];exact hv⟩
  ·refine (ok b u q).stay (λc v hc r=>k c v ?_ r) (λc r=>by rw [ax (nown c b r)];exact r) λc xs r=>by rw [ax (ntup c xs r)];exact r
   rcases hc with rfl | hc
   ·exact hbe
   ·rintro rfl
    rcases he with z | z
    ·exact nown c b hc z
    ·rw [hc] at z;cases z;exact hb rfl
end
structure Un (fs ex:List Addr) (H H':Hp) (h h':Heap):Prop where
 keep:∀ b o,h.get? b=some o->H b=none->b ∉ fs->b ∉ ex->h'.get? b=some o
 slot:∀ b o,h.get? b=some o->H b=none->b ∈ fs->b ∉ ex->∃ sl,h'.get? b=some { o with slots:=sl }
 free:∀ b o,h.get? b=some o->H b=none->b ∉ ex->H' b=none
 there:∀ b o,h.get? b=some o->b ∉ ex->∃ o',h'.get? b=some o'
 tups:∀ b xs,H b=some (.tup xs)->H' b=some (.tup xs)
 frzs:∀ b o u,H b=some (.frz o u)->H' b=some (.frz o u)
 tbls:∀ b ps,H b=some (.tbl ps)->∃ more,H' b=some (.tbl (ps++more))
section
variable {fs fs' ex ex':List Addr}{H H1 H2:Hp}{h h1 h2 h':Heap}{a x e:Addr}{o:HO}
theorem Un.any (u:Un fs ex H H1 h h1) {b:Addr}{ob:Obj} (q:h.get? b=some ob) (n:H b=none) (hx:b ∉ ex):∃ sl,h1.get? b=some { ob with slots:=sl }:=by
 by_cases hb:b ∈ fs
 ·exact u.slot b ob q n hb hx
 ·exact⟨ob.slots,u.keep b ob q n hb hx⟩
theorem Un.kept (k:∀ b u,h.get? b=some u->h'.get? b=some u):Un fs ex H H h h':=
 ⟨λb ob q _ _ _=>k b ob q,λb ob q _ _ _=>⟨ob.slots,k b ob q⟩,λ_ _ _ n _=>n,λb ob q _=>⟨ob,k b ob q⟩,λ_ _ q=>q,λ_ _ _ q=>q,λ_ ps q=>⟨#[],by rw [q];simp⟩⟩
theorem Un.refl:Un fs ex H H h h:=Un.kept λ_ _ q=>q
theorem Un.laid (k:∀ b u,h.get? b=some u->h'.get? b=some u) (hp:h.objs.size<=a) (hn:H a=none):Un fs ex H (upd H a o) h h' where
 keep:=λb u q _ _ _=>k b u q
 slot:=λb u q _ _ _=>⟨u.slots,k b u q⟩
 free:=λb u q n _=>by rw [ax (Nat.ne_of_lt (Nat.lt_of_lt_of_le (Heap.lt_size q) hp))];exact n
 there:=λb u q _=>⟨u,k b u q⟩
 tups:=λb xs q=>by rw [ax (aD q hn)];exact q
 frzs:=λb u xs q=>by rw [ax (aD q hn)];exact q
 tbls:=λb ps q=>⟨#[],by rw [ax (aD q hn),q];simp⟩
theorem Un.write (mu:Mut (H x)) (he:e=x\/H e=some (.own x)) (k:∀ b u,b≠e->h.get? b=some u->h'.get? b=some u) (heo:∃ u,h'.get? e=some u):Un fs ex H (upd H x o) h h':=by
 have hx:∀ b,H b=none->b≠x:=λb n z=>by subst z;rw [n] at mu;exact mu
 have hb:∀ b,H b=none->b≠e:=λb n z=>by
  subst z
  rcases he with r | r
  ·exact hx b n r
  ·rw [n] at r;cases r
 have hm:∀ b u,H b=some u->¬ Mut (some u)->b≠x:=λb u q nm z=>by subst z;rw [q] at mu;exact nm mu
 refine⟨λb u q n _ _=>k b u (hb b n) q,λb u q n _ _=>⟨u.slots,k b u (hb b n) q⟩,λb u q n _=>by rw [ax (hx b n)];exact n,λb u q _=>?_,
  λb xs q=>by rw [ax (hm b _ q λz=>z)];exact q,λb u xs q=>by rw [ax (hm b _ q λz=>z)];exact q,λb ps q=>⟨#[],by rw [ax (hm b _ q λz=>z),q];simp⟩⟩
 by_cases hbe:b=e
 ·subst hbe;exact heo
 ·exact⟨u,k b u hbe q⟩
end
noncomputable def trk (h:Heap) (H:Hp):List Addr:=(List.range h.objs.size).filter λa=>(H a).isSome
noncomputable def fE (h:Heap) (H:Hp):Heap:=PySem.W.hideAll h (trk h H)
theorem iN (h:Heap) (H:Hp):(fE h H).objs.size=h.objs.size:=PySem.W.hideAll_size _ _
theorem jT {h:Heap}{H:Hp}{b:Addr}{o:Obj} (e:h.get? b=some o) (n:H b=none):(fE h H).get? b=some o:=
 PySem.W.hideAll_get _ e λhm=>by
  have q:(H b).isSome=true:=(List.mem_filter.mp hm).2
  rw [n] at q;simp at q
theorem kF {h:Heap}{H:Hp}{b:Addr}{o:Obj} (e:(fE h H).get? b=some o):h.get? b=some o/\H b=none:=by
 have e':h.get? b=some o:=PySem.W.of_hideAll (trk h H) e
 refine⟨e',?_⟩
 cases q:H b with
 | none=>rfl
 | some x=>
  have hm:b ∈ trk h H:=List.mem_filter.mpr ⟨List.mem_range.mpr (Heap.lt_size e'),by simp [q]⟩
  have z:(fE h H).get? b=none:=PySem.W.hideAll_none (trk h H) hm
  rw [z] at e;cases e
end L2
namespace L2
open PySem PySem.Spec PyProof.Rows
structure Mod (K:PySem.W.Frag) (mg:Str->Option Value) (base:Heap):Prop where
 kin:K.In base
 glob:base.Ns mainGlobals mg
 blt:∃ mb,base.Ns builtinsNs mb/\∀ x:Str,x≠"__name__"->mb x=bootBuiltins x
 nolimit:base.NoLimit
structure Cx where
 prog:Program
 w:World
 K:PySem.W.Frag
 mg:Str->Option Value
 base:Heap
 A:Around
 N:List Str
 s₀:Shared
 H₀:Hp
 env:Env
 outer:List Env
 stack:List Env
 ex:List Addr
 fn:Str->Bool
 calm:Bool
 pn:List (Addr×Obj)
 xe:Value->Shared->Prop
noncomputable def frs (l:List Env):List Addr:=l.filterMap (·.frame)
abbrev Cx.fs (X:Cx):List Addr:=frs X.outer
noncomputable def Vis (sc:Scope) (x:Str):Prop:=sc.names.lookup x=some .local\/sc.names.lookup x=some .cell\/sc.names.lookup x=some .free
noncomputable def Loc (sc:Scope) (x:Str):Prop:=sc.names.lookup x=some .local\/sc.names.lookup x=some .cell
noncomputable def oD (env:Env) (h:Heap) (m:Str->Option Value) (x:Str) (u:Value):Prop:=
 (env.kindOf x=some .local/\m x=some u)\/((env.kindOf x=some .cell\/env.kindOf x=some .free)/\∃ c,env.cells.lookup x=some c/\h.IsCell c (some u))
structure Cx.Ok (X:Cx):Prop where
 mod:Mod X.K X.mg X.base
 kind:X.env.scope.kind=.function
 glob:X.env.globals=mainGlobals
 blt:X.env.builtins=builtinsNs
 above:X.s₀.heap.objs.size<=X.env.locals
 inj:∀ x y c,X.env.cells.lookup x=some c->X.env.cells.lookup y=some c->x=y
 has:∀ x,(X.env.kindOf x=some .cell\/X.env.kindOf x=some .free)->∃ c,X.env.cells.lookup x=some c
 cab:∀ x c,X.fn x=true->X.env.cells.lookup x=some c->X.s₀.heap.objs.size<=c
 hd:X.calm=true->X.A.handled=none
 frames:X.A.frames=some X.stack
 stk:X.stack=X.outer\/(X.stack=X.env::X.outer/\X.env.frame=some X.env.locals)
 exf:∀ b ∈ X.ex,b≠X.env.locals/\∀ x c,X.env.cells.lookup x=some c->c≠b
 bs:∀ b o,X.base.get? b=some o->X.s₀.heap.get? b=some o/\X.H₀ b=none
 bsz:X.base.objs.size<=X.s₀.heap.objs.size
 noex:∀ b o,X.base.get? b=some o->b ∉ X.ex
 exfs:∀ b ∈ X.ex,b ∉ X.fs
 funs:X.s₀.heap.FunFrames X.base X.outer
 frf:∀ b ∈ X.fs,X.H₀ b=none
structure Inv (X:Cx) (pins:List (Addr×Obj)) (σ:List (Option V)) (H:Hp) (s:Shared):Prop where
 ok:X.Ok
 os:s.os=X.s₀.os
 bare:AllBare s.gens
 base:Un X.fs X.ex X.H₀ H X.s₀.heap s.heap
 loc:∃ m,s.heap.Ns X.env.locals m/\∀ (i:Nat) (x:Str) (v:V),X.N[i]?=some x->σ[i]?=some (some v)->Vis X.env.scope x->∃ u,al v u/\oD X.env s.heap m x u
 cell:∀ x c,X.env.cells.lookup x=some c->∃ v,s.heap.IsCell c v
 free:H X.env.locals=none
 freeC:∀ x c,X.env.cells.lookup x=some c->H c=none
 pin:∀ p ∈ X.pn++pins,s.heap.get? p.1=some p.2/\H p.1=none/\p.1≠X.env.locals/\p.1 ∉ X.fs/\∀ v,p.2.data≠.cell v
 hok:HOk X.prog X.w H s.heap
 len:σ.length=X.N.length
section
variable {X:Cx}{pins:List (Addr×Obj)}{σ:List (Option V)}{H H':Hp}{s:Shared}{h':Heap}
theorem Cx.Ok.nofr (ok:X.Ok) {b:Addr}{o:Obj} (e:X.base.get? b=some o):b ∉ X.fs:=λhb=>by
 have:=(ok.funs.mem hb).1
 rw [e] at this;cases this
theorem Inv.bs (I:Inv X pins σ H s):∀ b o,X.base.get? b=some o->s.heap.get? b=some o/\H b=none:=λb o e=>
 ⟨I.base.keep b o (I.ok.bs b o e).1 (I.ok.bs b o e).2 (I.ok.nofr e) (I.ok.noex b o e),I.base.free b o (I.ok.bs b o e).1 (I.ok.bs b o e).2 (I.ok.noex b o e)⟩
theorem Inv.bk (I:Inv X pins σ H s):∀ b o,X.base.get? b=some o->s.heap.get? b=some o:=λb o e=>(I.bs b o e).1
theorem Inv.mod (I:Inv X pins σ H s):Mod X.K X.mg X.base:=I.ok.mod
theorem Inv.kIn (I:Inv X pins σ H s):X.K.In s.heap:=I.ok.mod.kin.keeps I.bk
theorem Inv.lt (I:Inv X pins σ H s):X.env.locals < s.heap.objs.size:=let ⟨_,hn,_⟩:=I.loc;hn.lt
theorem Inv.sz (I:Inv X pins σ H s):X.s₀.heap.objs.size<=s.heap.objs.size:=Nat.le_trans I.ok.above (Nat.le_of_lt I.lt)
theorem Inv.nofs (I:Inv X pins σ H s) {a:Addr} (h:s.heap.objs.size<=a):a ∉ X.fs:=λhb=>by
 obtain⟨_,o,ho,_⟩:=I.ok.funs.mem hb
 exact absurd (Nat.lt_of_lt_of_le (Heap.lt_size ho) (Nat.le_trans I.sz h)) (Nat.lt_irrefl _)
theorem Inv.cne (I:Inv X pins σ H s):∀ x c,X.env.cells.lookup x=some c->c≠X.env.locals:=λx c e z=>by
 obtain⟨v,o,ho,hd⟩:=I.cell x c e
 obtain⟨m,⟨o',es,ep,ho',hd',_⟩,_⟩:=I.loc
 rw [z,ho'] at ho;cases ho;rw [hd'] at hd;cases hd
theorem Inv.funs (I:Inv X pins σ H s):s.heap.FunFrames X.base X.outer:=by
 have all:∀ (l:List Env),(∀ b ∈ frs l,b ∈ X.fs)->X.s₀.heap.FunFrames X.base l->s.heap.FunFrames X.base l:=by
  intro l
  induction l with
  | nil=>intro _ _;trivial
  | cons env r ih=>
   intro hs hl
   obtain⟨hk,⟨L,o,hf,hn,ho,hd⟩,hr⟩:=hl
   have hL:L ∈ X.fs:=hs L (by unfold frs;rw [List.filterMap_cons,hf];exact List.mem_cons_self)
   obtain⟨sl,e⟩:=I.base.slot L o ho (I.ok.frf L hL) hL λz=>I.ok.exfs L z hL
   exact⟨hk,⟨L,_,hf,hn,e,hd⟩,ih (λb hb=>hs b (by unfold frs;rw [List.filterMap_cons,hf];exact List.mem_cons_of_mem _ hb)) hr⟩
 exact all X.outer (λ_ hb=>hb) I.ok.funs
theorem Inv.stack (I:Inv X pins σ H s):s.heap.FunFrames X.base X.stack:=by
 rcases I.ok.stk with e | ⟨e,hf⟩
 ·rw [e];exact I.funs
 ·rw [e]
  obtain⟨m,hn,_⟩:=I.loc
  refine .cons (by rw [I.ok.kind];decide) hf hn ?_ I.funs
  exact Heap.get?_none_of_le (Nat.le_trans I.ok.bsz I.ok.above)
theorem Inv.stkSub (I:Inv X pins σ H s):∀ b ∈ frs X.stack,b ∈ X.env.locals::X.fs:=λb hb=>by
 rcases I.ok.stk with e | ⟨e,hf⟩
 ·rw [e] at hb;exact List.mem_cons_of_mem _ hb
 ·rw [e] at hb
  unfold frs at hb
  rw [List.filterMap_cons,hf] at hb
  exact hb
theorem Inv.stkFree (I:Inv X pins σ H s):∀ b ∈ frs X.stack,H b=none:=λb hb=>by
 rcases List.mem_cons.mp (I.stkSub b hb) with e | hb
 ·rw [e];exact I.free
 ·obtain⟨_,o,ho,_⟩:=I.ok.funs.mem hb
  exact I.base.free b o ho (I.ok.frf b hb) λz=>I.ok.exfs b z hb
theorem Inv.step {g':Array GenState}{t':Nat}{d':Drawn}{ch:List Addr} (I:Inv X pins σ H s)
  (hch:∀ b ∈ ch,(b ∈ X.ex\/X.s₀.heap.objs.size<=b)/\b≠X.env.locals/\(∀ x c,X.env.cells.lookup x=some c->c≠b)/\∀ p ∈ X.pn++pins,p.1≠b)
  (keep:∀ b o,b≠X.env.locals->b ∉ X.fs->b ∉ ch->s.heap.get? b=some o->H b=none->h'.get? b=some o)
  (slot:∀ b o,b≠X.env.locals->b ∈ X.fs->b ∉ ch->s.heap.get? b=some o->H b=none->∃ sl,h'.get? b=some { o with slots:=sl }) (free:∀ b o,b ∉ ch->s.heap.get? b=some o->H b=none->H' b=none)
  (there:∀ b o,b ∉ ch->s.heap.get? b=some o->∃ o',h'.get? b=some o')
  (tups:∀ b xs,H b=some (.tup xs)->H' b=some (.tup xs)) (frzs:∀ b o u,H b=some (.frz o u)->H' b=some (.frz o u)) (tbls:∀ b ps,H b=some (.tbl ps)->∃ more,H' b=some (.tbl (ps++more)))
  (ns:∀ m,s.heap.Ns X.env.locals m->h'.Ns X.env.locals m) (hok:HOk X.prog X.w H' h') (hg:AllBare g') :
  Inv X pins σ H' { s with heap:=h',gens:=g',drawn:=d',toks:=t' }:=by
 have neL:∀ b o,X.s₀.heap.get? b=some o->b≠X.env.locals:=λb o e=>Nat.ne_of_lt (Nat.lt_of_lt_of_le (Heap.lt_size e) I.ok.above)
 have neC:∀ b o,X.s₀.heap.get? b=some o->b ∉ X.ex->b ∉ ch:=λb o e hx hb=>by
  rcases (hch b hb).1 with z | z
  ·exact hx z
  ·exact absurd (Nat.lt_of_lt_of_le (Heap.lt_size e) z) (Nat.lt_irrefl _)
 have cellK:∀ x c,X.env.cells.lookup x=some c->∀ v,s.heap.IsCell c v->h'.IsCell c v:=λx c e v ⟨o,ho,hd⟩=>by
  have nch:c ∉ ch:=λz=>(hch c z).2.2.1 x c e rfl
  by_cases hc:c ∈ X.fs
  ·obtain⟨sl,q⟩:=slot c o (I.cne x c e) hc nch ho (I.freeC x c e)
   exact⟨_,q,hd⟩
  ·exact⟨o,keep c o (I.cne x c e) hc nch ho (I.freeC x c e),hd⟩
 refine⟨I.ok,I.os,hg,⟨λb o e n hb hx=>?_,λb o e n hb hx=>?_,λb o e n hx=>?_,λb o e hx=>?_,λb xs e=>tups b xs (I.base.tups b xs e),λb o xs e=>frzs b o xs (I.base.frzs b o xs e),λb ps e=>?_⟩,?_,λx c e=>?_,?_,λx c e=>?_,λp hp=>?_,hok,I.len⟩
 ·exact keep b o (neL b o e) hb (neC b o e hx) (I.base.keep b o e n hb hx) (I.base.free b o e n hx)
 ·obtain⟨sl,e1⟩:=I.base.slot b o e n hb hx
  obtain⟨sl',e2⟩:=slot b _ (neL b o e) hb (neC b o e hx) e1 (I.base.free b o e n hx)
  exact⟨sl',e2⟩
 ·obtain⟨o',e1⟩:=I.base.there b o e hx
  exact free b o' (neC b o e hx) e1 (I.base.free b o e n hx)
 ·obtain⟨o',e1⟩:=I.base.there b o e hx
  exact there b o' (neC b o e hx) e1
 ·obtain⟨m1,e1⟩:=I.base.tbls b ps e
  obtain⟨m2,e2⟩:=tbls b _ e1
  exact⟨m1++m2,by rw [e2,Array.append_assoc]⟩
 ·obtain⟨m,hn,hl⟩:=I.loc
  refine⟨m,ns m hn,λi x v e1 e2 e3=>?_⟩
  obtain⟨u,r,l⟩:=hl i x v e1 e2 e3
  refine⟨u,r,?_⟩
  rcases l with l | ⟨k,c,e,z⟩
  ·exact .inl l
  ·exact .inr ⟨k,c,e,cellK x c e _ z⟩
 ·obtain⟨v,z⟩:=I.cell x c e
  exact⟨v,cellK x c e v z⟩
 ·obtain⟨m,⟨o,_,_,ho,_⟩,_⟩:=I.loc
  exact free _ o (λz=>(hch _ z).2.1 rfl) ho I.free
 ·obtain⟨v,o,ho,hd⟩:=I.cell x c e
  exact free c o (λz=>(hch c z).2.2.1 x c e rfl) ho (I.freeC x c e)
 ·obtain⟨e,n,ne,nf,d⟩:=I.pin p hp
  have nch:p.1 ∉ ch:=λz=>(hch p.1 z).2.2.2 p hp rfl
  exact⟨keep p.1 p.2 ne nf nch e n,free p.1 p.2 nch e n,ne,nf,d⟩
theorem Inv.un {t':Nat} (I:Inv X pins σ H s) (u:Un X.fs [] H H' s.heap h') (hok:HOk X.prog X.w H' h'):Inv X pins σ H' { s with heap:=h',toks:=t' }:=by
 obtain⟨m,⟨o,es,ep,ho,r⟩,_⟩:=id I.loc
 obtain⟨sl,hL⟩:=u.any ho I.free (by simp)
 exact I.step (g':=s.gens) (d':=s.drawn) (ch:=[]) (λ_ z=>nomatch z) (λb o _ hb _ e n=>u.keep b o e n hb (by simp)) (λb o _ hb _ e n=>u.slot b o e n hb (by simp)) (λb o _ e n=>u.free b o e n (by simp)) (λb o _ e=>u.there b o e (by simp)) u.tups u.frzs u.tbls (λm' hm=>by
  obtain⟨o',es',ep',ho',r'⟩:=hm
  rw [ho] at ho';cases ho'
  exact⟨_,es',ep',hL,r'⟩) hok I.bare
theorem Inv.call {g':Array GenState}{t':Nat}{d':Drawn}{ch:List Addr} (I:Inv X pins σ H s) (u:Un (frs X.stack) ch H H' s.heap h') (hok:HOk X.prog X.w H' h') (hg:AllBare g')
  (hch:∀ b ∈ ch,(b ∈ X.ex\/X.s₀.heap.objs.size<=b)/\b≠X.env.locals/\(∀ x c,X.env.cells.lookup x=some c->c≠b)/\∀ p ∈ X.pn++pins,p.1≠b) :
  Inv X pins σ H' { s with heap:=h',gens:=g',drawn:=d',toks:=t' }:=by
 obtain⟨m,⟨o,es,ep,ho,r⟩,_⟩:=id I.loc
 obtain⟨sl,hL⟩:=u.any ho I.free λz=>(hch _ z).2.1 rfl
 exact I.step (ch:=ch) hch (λb o hL hb hc e n=>u.keep b o e n (λz=>(List.mem_cons.mp (I.stkSub b z)).elim hL hb) hc) (λb o _ _ hc e n=>u.any e n hc) (λb o hc e n=>u.free b o e n hc) (λb o hc e=>u.there b o e hc) u.tups u.frzs u.tbls (λm' hm=>by
  obtain⟨o',es',ep',ho',r'⟩:=hm
  rw [ho] at ho';cases ho'
  exact⟨_,es',ep',hL,r'⟩) hok hg
theorem Inv.turned {t':Nat}{it:Addr} (I:Inv X pins σ H s) (k:∀ b o,b≠it->s.heap.get? b=some o->h'.get? b=some o) (hn:H it=none) (hL:it≠X.env.locals)
  (h1:it ∈ X.ex\/X.s₀.heap.objs.size<=it) (h2:∀ x c,X.env.cells.lookup x=some c->c≠it) (h3:∀ p ∈ X.pn++pins,p.1≠it):Inv X pins σ H { s with heap:=h',toks:=t' }:=by
 have nit:∀ b u,H b=some u->b≠it:=λb u e z=>by rw [z,hn] at e;cases e
 refine I.step (g':=s.gens) (d':=s.drawn) (ch:=[it]) (λb hb=>?_) (λb o _ _ hc e _=>k b o (λz=>hc (by simp [z])) e) (λb o _ _ hc e _=>⟨o.slots,k b o (λz=>hc (by simp [z])) e⟩) (λ_ _ _ _ n=>n)
  (λb o hc e=>⟨o,k b o (λz=>hc (by simp [z])) e⟩) (λ_ _ e=>e) (λ_ _ _ e=>e) (λb ps e=>⟨#[],by rw [e];simp⟩) (λm hm=>?_) (λb u e=>?_) I.bare
 ·have e:b=it:=by simpa using hb
  subst e
  exact⟨h1,hL,h2,h3⟩
 ·obtain⟨o,es,ep,ho,r⟩:=hm
  exact⟨o,es,ep,k _ o (Ne.symm hL) ho,r⟩
 ·refine (I.hok b u e).stay (λc v hc q=>k c v ?_ q) (λ_ q=>q) λ_ _ q=>q
  rcases hc with z | z
  ·rw [z];exact nit b u e
  ·exact nit c _ z
theorem Inv.tok (I:Inv X pins σ H s) (t:Nat):Inv X pins σ H { s with toks:=t }:=I.un (h':=s.heap) (t':=t) Un.refl I.hok
theorem Inv.kept {t':Nat} (I:Inv X pins σ H s) (k:∀ b u,s.heap.get? b=some u->h'.get? b=some u):Inv X pins σ H { s with heap:=h',toks:=t' }:=I.un (Un.kept k) (I.hok.kept k)
theorem Inv.laid {a:Addr}{o:HO}{t':Nat} (I:Inv X pins σ H s) (k:∀ b u,s.heap.get? b=some u->h'.get? b=some u) (hp:s.heap.objs.size<=a) (new:bi X.prog X.w (upd H a o) h' a o) :
  Inv X pins σ (upd H a o) { s with heap:=h',toks:=t' }:=I.un (Un.laid k hp (I.hok.fresh hp)) (I.hok.laid k hp new)
theorem Inv.write {x e:Addr}{o:HO}{t':Nat} (I:Inv X pins σ H s) (mu:Mut (H x)) (he:e=x\/H e=some (.own x)) (k:∀ b u,b≠e->s.heap.get? b=some u->h'.get? b=some u) (heo:∃ u,h'.get? e=some u)
  (new:bi X.prog X.w (upd H x o) h' x o):Inv X pins σ (upd H x o) { s with heap:=h',toks:=t' }:=I.un (Un.write mu he k heo) (I.hok.write mu he k heo new)
theorem Inv.weak {σ':List (Option V)} (I:Inv X pins σ H s) (hl:σ'.length=σ.length) (w:∀ (i:Nat) v,σ'[i]?=some (some v)->σ[i]?=some (some v)):Inv X pins σ' H s:=
 ⟨I.ok,I.os,I.bare,I.base,let ⟨m,hn,hl'⟩:=I.loc;⟨m,hn,λi x v e1 e2 e3=>hl' i x v e1 (w i v e2) e3⟩,I.cell,I.free,I.freeC,I.pin,I.hok,hl.trans I.len⟩
theorem Inv.pins_of {pins':List (Addr×Obj)} (I:Inv X pins σ H s) (h:∀ p ∈ pins',s.heap.get? p.1=some p.2/\H p.1=none/\p.1≠X.env.locals/\p.1 ∉ X.fs/\∀ v,p.2.data≠.cell v):Inv X pins' σ H s:=
 ⟨I.ok,I.os,I.bare,I.base,I.loc,I.cell,I.free,I.freeC,λp hp=>(List.mem_append.mp hp).elim (λz=>I.pin p (List.mem_append_left _ z)) (h p),I.hok,I.len⟩
theorem gL {N:List Str} (hN:N.Nodup) {i j:Nat}{x:Str} (a:N[i]?=some x) (b:N[j]?=some x):i=j:=by
 obtain⟨h1,e1⟩:=List.getElem?_eq_some_iff.mp a
 obtain⟨h2,e2⟩:=List.getElem?_eq_some_iff.mp b
 exact (List.getElem_inj hN).mp (e1.trans e2.symm)
theorem iM {M:Model}{A:Around}{E:Value->Shared->Prop}{i:Nat}{x:Str}{v:V}{u:Value}{Q:Unit->Shared->Prop} (I:Inv X pins σ H s) (hN:X.N.Nodup) (hi:X.N[i]?=some x) (hx:Loc X.env.scope x) (r:al v u)
  (h:∀ s',Inv X pins (σ.set i (some v)) H s'->(∃ a,Heap.SameBut a s.heap s'.heap/\(a=X.env.locals\/X.env.cells.lookup x=some a))->Q () s') (hf:X.fn x=true\/X.env.scope.names.lookup x=some .local:=by first | exact .inl rfl | exact .inr rfl | assumption):wpAny M A (storeName X.env x u) Q E s:=by
 obtain⟨m,hn,hl⟩:=id I.loc
 have hcls:(X.env.scope.kind==.class || (X.env.scope.kind==.module && X.env.locals != X.env.globals))=false:=by rw [I.ok.kind];rfl
 have hiσ:i < σ.length:=by rw [I.len];exact (List.getElem?_eq_some_iff.mp hi).1
 have cne:=I.cne
 have tracked:∀ {a:Addr}{h':Heap},(∃ o,s.heap.get? a=some o/\H a=none)->Heap.SameBut a s.heap h'->HOk X.prog X.w H h':=λ{a h'} ha hs b ob e=>by
  obtain⟨_,_,hfree⟩:=ha
  refine (I.hok b ob e).stay (λc w' hc q=>(hs.2 c ?_).trans q) (λ_ q=>q) λ_ _ q=>q
  rintro rfl
  rcases hc with rfl | hc
  ·rw [hfree] at e;cases e
  ·rw [hfree] at hc;cases hc
 rcases hx with hk | hk
 ·refine wpAny_storeName_local hk hn (λh' hn' hs=>?_) hcls
  obtain⟨oL,_,_,hoL,_⟩:=id hn
  refine h _ ⟨I.ok,I.os,I.bare,⟨λb o e n hb hx=>?_,λb o e n hb hx=>?_,I.base.free,λb o e hx=>?_,I.base.tups,I.base.frzs,I.base.tbls⟩,⟨_,hn',λj y v' e1 e2 e3=>?_⟩,λy c e=>?_,I.free,I.freeC,λp hp=>?_,tracked ⟨oL,hoL,I.free⟩ hs,by simpa using I.len⟩ ⟨_,hs,.inl rfl⟩
  ·exact (hs.2 b (Nat.ne_of_lt (Nat.lt_of_lt_of_le (Heap.lt_size e) I.ok.above))).trans (I.base.keep b o e n hb hx)
  ·obtain⟨sl,e1⟩:=I.base.slot b o e n hb hx
   exact⟨sl,(hs.2 b (Nat.ne_of_lt (Nat.lt_of_lt_of_le (Heap.lt_size e) I.ok.above))).trans e1⟩
  ·obtain⟨o',e1⟩:=I.base.there b o e hx
   exact⟨o',(hs.2 b (Nat.ne_of_lt (Nat.lt_of_lt_of_le (Heap.lt_size e) I.ok.above))).trans e1⟩
  ·by_cases hj:j=i
   ·subst hj
    rw [hi] at e1;cases e1
    rw [List.getElem?_set_self hiσ] at e2
    cases e2
    exact⟨u,r,.inl ⟨hk,by simp⟩⟩
   ·rw [List.getElem?_set_ne (Ne.symm hj)] at e2
    obtain⟨u',r',q⟩:=hl j y v' e1 e2 e3
    refine⟨u',r',?_⟩
    rcases q with⟨k,e⟩ | ⟨k,c,e,z⟩
    ·refine .inl ⟨k,?_⟩
     have:y≠x:=λe=>hj (gL hN e1 (e ▸ hi))
     simp [this,e]
    ·exact .inr ⟨k,c,e,z.sameBut hs (cne y c e)⟩
  ·obtain⟨w',z⟩:=I.cell y c e
   exact⟨w',z.sameBut hs (cne y c e)⟩
  ·obtain⟨e,n,ne,nf,d⟩:=I.pin p hp
   exact⟨(hs.2 p.1 ne).trans e,n,ne,nf,d⟩
 ·have hfn:X.fn x=true:=by
   rcases hf with z | z
   ·exact z
   ·rw [z] at hk;cases hk
  obtain⟨c,hc⟩:=I.ok.has x (.inl hk)
  obtain⟨w',z⟩:=I.cell x c hc
  refine wpAny_storeName_cell I.ok.kind hk hc z (λh' hc' hs=>?_)
  obtain⟨oc,hoc,hocd⟩:=id z
  refine h { s with heap:=h' } ⟨I.ok,I.os,I.bare,⟨λb o e n hb hx=>?_,λb o e n hb hx=>?_,I.base.free,λb o e hx=>?_,I.base.tups,I.base.frzs,I.base.tbls⟩,⟨m,hn.sameBut hs (Ne.symm (cne x c hc)),λj y v' e1 e2 e3=>?_⟩,λy c' e=>?_,I.free,I.freeC,λp hp=>?_,tracked ⟨oc,hoc,I.freeC x c hc⟩ hs,by simpa using I.len⟩ ⟨c,hs,.inr hc⟩
  ·exact (hs.2 b (Nat.ne_of_lt (Nat.lt_of_lt_of_le (Heap.lt_size e) (I.ok.cab x c hfn hc)))).trans (I.base.keep b o e n hb hx)
  ·obtain⟨sl,e1⟩:=I.base.slot b o e n hb hx
   exact⟨sl,(hs.2 b (Nat.ne_of_lt (Nat.lt_of_lt_of_le (Heap.lt_size e) (I.ok.cab x c hfn hc)))).trans e1⟩
  ·obtain⟨o',e1⟩:=I.base.there b o e hx
   exact⟨o',(hs.2 b (Nat.ne_of_lt (Nat.lt_of_lt_of_le (Heap.lt_size e) (I.ok.cab x c hfn hc)))).trans e1⟩
  ·by_cases hj:j=i
   ·subst hj
    rw [hi] at e1;cases e1
    rw [List.getElem?_set_self hiσ] at e2
    cases e2
    exact⟨u,r,.inr ⟨.inl hk,c,hc,hc'⟩⟩
   ·rw [List.getElem?_set_ne (Ne.symm hj)] at e2
    obtain⟨u',r',q⟩:=hl j y v' e1 e2 e3
    refine⟨u',r',?_⟩
    rcases q with q | ⟨k,c',e,z'⟩
    ·exact .inl q
    ·refine .inr ⟨k,c',e,z'.sameBut hs ?_⟩
     rintro rfl
     exact hj (gL hN e1 (I.ok.inj _ _ _ e hc ▸ hi))
  ·by_cases hcc:c'=c
   ·subst hcc;exact⟨_,hc'⟩
   ·obtain⟨w2,z2⟩:=I.cell y c' e
    exact⟨w2,z2.sameBut hs hcc⟩
  ·obtain⟨e,n,ne,nf,d⟩:=I.pin p hp
   refine⟨(hs.2 p.1 ?_).trans e,n,ne,nf,d⟩
   intro q
   rw [q,hoc] at e
   have q':oc=p.2:=Option.some.inj e
   exact d w' (by rw [<-q'];exact hocd)
theorem gr {M:Model}{A:Around}{E:Value->Shared->Prop}{i:Nat}{x:Str}{v:V}{u:Value}{Q:Unit->Shared->Prop} (I:Inv X pins σ H s) (hN:X.N.Nodup) (hi:X.N[i]?=some x) (hx:Loc X.env.scope x) (r:al v u)
  (h:∀ s',Inv X pins (σ.set i (some v)) H s'->Q () s') (hf:X.fn x=true\/X.env.scope.names.lookup x=some .local:=by first | exact .inl rfl | exact .inr rfl | assumption):wpAny M A (storeName X.env x u) Q E s:=
 iM I hN hi hx r (λs' I' _=>h s' I') hf
theorem Inv.call' {s':Shared}{ch:List Addr} (I:Inv X pins σ H s) (ho:s'.os=s.os) (u:Un (frs X.stack) ch H H' s.heap s'.heap) (hok:HOk X.prog X.w H' s'.heap) (hg:AllBare s'.gens)
  (hch:∀ b ∈ ch,(b ∈ X.ex\/X.s₀.heap.objs.size<=b)/\b≠X.env.locals/\(∀ x c,X.env.cells.lookup x=some c->c≠b)/\∀ p ∈ X.pn++pins,p.1≠b):Inv X pins σ H' s':=by
 obtain⟨h',g',d',t',o'⟩:=s'
 have e:o'=s.os:=ho
 subst e
 exact I.call (g':=g') (t':=t') (d':=d') u hok hg hch
end
abbrev XK:=Value->Option Addr->Hp->Prop
abbrev St:=List (Option V)
abbrev VK:=V->Hp->Prop
abbrev TE:=St->Hp->VK->Prop
abbrev TT:=St->Hp->(Bool->Hp->Prop)->Prop
abbrev TA:=St->Hp->(List V->Hp->Prop)->Prop
structure hC where
 nx:St->Hp->Prop
 rt:VK
 bk:St->Hp->Prop:=λ_ _=>False
 ct:St->Hp->Prop:=λ_ _=>False
abbrev TS:=hC->St->Hp->Prop
noncomputable def EP (X:Cx) (pins:List (Addr×Obj)) (σ:St) (Q:VK) (u:Value) (s':Shared):Prop:=∃ v H',Inv X pins σ H' s'/\al v u/\Q v H'
noncomputable def TP (X:Cx) (pins:List (Addr×Obj)) (σ:St) (Q:Bool->Hp->Prop) (b:Bool) (s':Shared):Prop:=∃ H',Inv X pins σ H' s'/\Q b H'
noncomputable def AP (X:Cx) (pins:List (Addr×Obj)) (σ:St) (Q:List V->Hp->Prop) (us:List Value) (s':Shared):Prop:=∃ vs H',Inv X pins σ H' s'/\ak vs us/\Q vs H'
noncomputable def SP (X:Cx) (pins:List (Addr×Obj)) (D:hC) (f:Flow) (s':Shared):Prop:=
 match f with
 | .next=>∃ σ' H',Inv X pins σ' H' s'/\D.nx σ' H'
 | .brk=>∃ σ' H',Inv X pins σ' H' s'/\D.bk σ' H'
 | .cont=>∃ σ' H',Inv X pins σ' H' s'/\D.ct σ' H'
 | .ret u=>∃ v σ' H',Inv X pins σ' H' s'/\al v u/\D.rt v H'
noncomputable def PE (X:Cx) (e:Expr) (t:TE):Prop:=
 ∀ (pins:List (Addr×Obj)) (s:Shared) (σ:St) (H:Hp) (Q:VK),Inv X pins σ H s->t σ H Q->wpAny (model X.prog X.w) X.A (eval e X.env) (EP X pins σ Q) X.xe s
noncomputable def PT (X:Cx) (e:Expr) (t:TT):Prop:=
 ∀ (pins:List (Addr×Obj)) (s:Shared) (σ:St) (H:Hp) (Q:Bool->Hp->Prop),Inv X pins σ H s->t σ H Q->wpAny (model X.prog X.w) X.A (isTrue e X.env (eval e X.env)) (TP X pins σ Q) X.xe s
noncomputable def PW (X:Cx) (e:Expr) (t:TT):Prop:=
 ∀ (whole:Sem Value) (pins:List (Addr×Obj)) (s:Shared) (σ:St) (H:Hp) (Q:Bool->Hp->Prop),Inv X pins σ H s->t σ H Q->wpAny (model X.prog X.w) X.A (isTrue e X.env whole) (TP X pins σ Q) X.xe s
theorem PW.pt {X:Cx}{e:Expr}{t:TT} (h:PW X e t):PT X e t:=h _
noncomputable def PA (X:Cx) (es:List Expr) (t:TA):Prop:=
 ∀ (pos:Pos) (pins:List (Addr×Obj)) (s:Shared) (σ:St) (H:Hp) (Q:List V->Hp->Prop),Inv X pins σ H s->t σ H Q->wpAny (model X.prog X.w) X.A (spliced (backTo pos (starEach es X.env))) (AP X pins σ Q) X.xe s
noncomputable def PS (X:Cx) (st:Stmt) (t:TS):Prop:=
 ∀ (pins:List (Addr×Obj)) (s:Shared) (σ:St) (H:Hp) (D:hC),Inv X pins σ H s->t D σ H->wpAny (model X.prog X.w) X.A (exec st X.env) (SP X pins D) X.xe s
noncomputable def PSs (X:Cx) (st:List Stmt) (t:TS):Prop:=
 ∀ (pins:List (Addr×Obj)) (s:Shared) (σ:St) (H:Hp) (D:hC),Inv X pins σ H s->t D σ H->wpAny (model X.prog X.w) X.A (execs st X.env) (SP X pins D) X.xe s
theorem thn {α:Type}{t:Sem α}{Q Q':α->Shared->Prop}{M:Model}{A:Around}{E:Value->Shared->Prop}{s:Shared} (h:wpAny M A t Q E s) (hQ:∀ a s,Q a s->Q' a s):wpAny M A t Q' E s:=wpAny_mono h hQ λ_ _ x=>x
end L2
namespace L2
open PySem PySem.Spec PyProof.Rows
section
variable {X:Cx}
noncomputable def lN (i:Nat):TE:=λσ H Q=>∃ v,σ[i]?=some (some v)/\Q v H
noncomputable def tC (v:V):TE:=λ_ H Q=>Q v H
theorem md {i:Nat}{x:Str}{pos:Pos} (hN:X.N[i]?=some x) (hv:Vis X.env.scope x) (hd:(x==("__debug__" : Str))=false:=by decide) (hcd:(x==("__classdict__" : Str))=false:=by decide):PE X (.Name x pos) (lN i):=by
 intro pins s σ H Q I h
 obtain⟨v,e,h⟩:=h
 obtain⟨m,hn,hl⟩:=I.loc
 obtain⟨u,r,l⟩:=hl i x v hN e hv
 have fin:EP X pins σ Q u s:=⟨v,H,I,r,h⟩
 rcases l with⟨hk,hm⟩ | ⟨hk,c,hc,hcell⟩
 ·exact wpAny_Name (wpAny_loadName_local I.ok.kind hk hn hm fin) hd
 ·rcases hk with hk | hk
  ·exact wpAny_Name (wpAny_loadName_cell I.ok.kind hk hc hcell fin) hd
  ·exact wpAny_Name (wpAny_loadName_free I.ok.kind hk hc hcell fin hcd) hd
theorem lE {i j pos}:PE X (.Constant (.int i) j pos) (tC (.int i)):=λ_ _ _ H _ I h=>wpAny_Constant_int ⟨.int i,H,I.tok _,⟨_,rfl⟩,h⟩
theorem ni {b j pos}:PE X (.Constant (.bool b) j pos) (tC (.bl b)):=λ_ _ _ H _ I h=>Constant_bool ⟨.bl b,H,I,rfl,h⟩
theorem lx {j pos}:PE X (.Constant .none j pos) (tC .non):=λ_ _ _ H _ I h=>Constant_none ⟨.non,H,I,rfl,h⟩
theorem lX {x j pos}:PE X (.Constant (.str x) j pos) (tC (.str x)):=λ_ _ _ H _ I h=>Calls.Constant_str ⟨.str x,H,I.tok _,⟨_,rfl⟩,h⟩
noncomputable def Gl (X:Cx) (x:Str):Prop:=X.env.kindOf x=some .globalImplicit
theorem ig {E:Value->Shared->Prop}{pins:List (Addr×Obj)}{s:Shared}{σ:St}{H:Hp}{x:Str}{u:Value}{pos:Pos}{Q:Value->Shared->Prop} (I:Inv X pins σ H s) (hg:Gl X x) (hm:X.mg x=some u) (h:Q u s)
  (hd:(x==("__debug__" : Str))=false:=by decide):wpAny (model X.prog X.w) X.A (eval (.Name x pos) X.env) Q E s:=
 Calls.Name_function_global I.ok.kind hg (Calls.loadGlobal_global (by rw [I.ok.glob];exact I.mod.glob.keeps I.bk) hm h) hd
theorem gc {E:Value->Shared->Prop}{pins:List (Addr×Obj)}{s:Shared}{σ:St}{H:Hp}{x:Str}{u:Value}{pos:Pos}{Q:Value->Shared->Prop} (I:Inv X pins σ H s) (hg:Gl X x) (hm:X.mg x=none) (hv:bootBuiltins x=some u) (h:Q u s)
  (hn:x≠"__name__":=by decide) (hd:(x==("__debug__" : Str))=false:=by decide):wpAny (model X.prog X.w) X.A (eval (.Name x pos) X.env) Q E s:=by
 obtain⟨mb,h1,h2⟩:=I.mod.blt
 exact Calls.Name_function_global I.ok.kind hg (Calls.loadGlobal_builtin (by rw [I.ok.glob];exact I.mod.glob.keeps I.bk) hm (by rw [I.ok.blt];exact h1.keeps I.bk) ((h2 x hn).trans hv) h) hd
theorem fq {x:Str}{v:V}{u:Value}{pos:Pos} (hg:Gl X x) (hm:X.mg x=some u) (r:al v u) (hd:(x==("__debug__" : Str))=false:=by decide):PE X (.Name x pos) (tC v):=
 λ_ _ _ H _ I h=>ig I hg hm ⟨v,H,I,r,h⟩ hd
theorem kg {x:Str}{v:V}{u:Value}{pos:Pos} (hg:Gl X x) (hm:X.mg x=none) (hv:bootBuiltins x=some u) (r:al v u) (hn:x≠"__name__":=by decide) (hd:(x==("__debug__" : Str))=false:=by decide):PE X (.Name x pos) (tC v):=
 λ_ _ _ H _ I h=>gc I hg hm hv ⟨v,H,I,r,h⟩ hn hd
variable {a b:Expr}{ta tb:TE}{pos:Pos}
variable {tA tB':TT}{rest:List Expr}
noncomputable def tOr (t u:TT):TT:=λσ H Q=>t σ H λc H1=>if c=true then Q true H1 else u σ H1 Q
noncomputable def oI (t:TT):TT:=λσ H Q=>t σ H λc H1=>Q (!c) H1
theorem lM (ha:PT X a tA):PW X (.BoolOp .Or [a] pos) tA:=by
 intro wh pins s σ H Q I h
 refine isTrue_or (thn (ha pins s σ H Q I h) λc s1 e=>?_)
 cases c with
 | false=>exact isTrue_or_nil e
 | true=>exact e
theorem lp (ha:PT X a tA) (hb:PW X (.BoolOp .Or (b::rest) pos) tB'):PW X (.BoolOp .Or (a::b::rest) pos) (tOr tA tB'):=by
 intro wh pins s σ H Q I h
 refine isTrue_or (thn (ha pins s σ H _ I h) λc s1 ⟨H1,I1,q1⟩=>?_)
 cases c with
 | true=>exact⟨H1,I1,q1⟩
 | false=>exact hb wh pins s1 σ H1 Q I1 q1
theorem lC (ha:PT X a tA):PT X (.UnaryOp .Not a pos) (oI tA):=by
 intro pins s σ H Q I h
 exact isTrue_not (ha pins s σ H (λc H1=>Q (!c) H1) I h)
noncomputable def nA (ta tb:TE):TE:=λσ H Q=>ta σ H λx H1=>∃ c,x=.bl c/\if c=true then tb σ H1 Q else Q (.bl false) H1
noncomputable def oy (ta tb:TE):TE:=λσ H Q=>ta σ H λx H1=>∃ c,x=.bl c/\if c=true then Q (.bl true) H1 else tb σ H1 Q
noncomputable def nD (ta:TE):TE:=λσ H Q=>ta σ H λx H1=>∃ c,x=.bl c/\Q (.bl (!c)) H1
theorem ly {op}{t:TE} (h:PE X a t):PE X (.BoolOp op [a] pos) t:=λpins s σ H Q I hw=>BoolOp_one (h pins s σ H Q I hw)
theorem jd (ha:PE X a ta) (hb:PE X (.BoolOp .And (b::rest) pos) tb):PE X (.BoolOp .And (a::b::rest) pos) (nA ta tb):=by
 intro pins s σ H Q I h
 refine BoolOp_and (thn (ha pins s σ H _ I h) λv s1 ⟨x,H1,I1,r1,q1⟩=>?_)
 obtain⟨c,rfl,q1⟩:=q1
 cases r1
 refine wpAny_truthy_bool ?_
 cases c with
 | true=>exact hb pins s1 σ H1 Q I1 q1
 | false=>exact⟨.bl false,H1,I1,rfl,q1⟩
theorem lq (ha:PE X a ta) (hb:PE X (.BoolOp .Or (b::rest) pos) tb):PE X (.BoolOp .Or (a::b::rest) pos) (oy ta tb):=by
 intro pins s σ H Q I h
 refine BoolOp_or (thn (ha pins s σ H _ I h) λv s1 ⟨x,H1,I1,r1,q1⟩=>?_)
 obtain⟨c,rfl,q1⟩:=q1
 cases r1
 refine wpAny_truthy_bool ?_
 cases c with
 | false=>exact hb pins s1 σ H1 Q I1 q1
 | true=>exact⟨.bl true,H1,I1,rfl,q1⟩
theorem lG (ha:PE X a ta):PE X (.UnaryOp .Not a pos) (nD ta):=by
 intro pins s σ H Q I h
 refine UnaryOp_ (thn (ha pins s σ H _ I h) λv s1 ⟨x,H1,I1,r1,q1⟩=>?_)
 obtain⟨c,rfl,q1⟩:=q1
 cases r1
 exact not_of (wpAny_truthy_bool ⟨.bl (!c),H1,I1,rfl,q1⟩)
noncomputable def tIf (t:TT) (ta tb:TE):TE:=λσ H Q=>t σ H λc H1=>if c=true then ta σ H1 Q else tb σ H1 Q
theorem gJ {c:Expr} (hc:PT X c tA) (ha:PE X a ta) (hb:PE X b tb):PE X (.IfExp c a b pos) (tIf tA ta tb):=by
 intro pins s σ H Q I h
 refine wpAny_IfExp (thn (hc pins s σ H _ I h) λd s1 ⟨H1,I1,q1⟩=>?_)
 cases d with
 | true=>exact ha pins s1 σ H1 Q I1 q1
 | false=>exact hb pins s1 σ H1 Q I1 q1
end
end L2
namespace L2
open PySem PySem.Spec PyProof.Rows
noncomputable def SqL (K:PySem.W.Frag) (H:Hp) (a:Addr) (xs:List V):Prop:=
 Rd H a (.lst xs)\/
  ∃ (o:Obj) (its:Array Value) (n:Nat),K.lookup a=some o/\o.cls=.type "list"/\o.dict=none/\o.data=.seq its n/\its.size<=sizeLine/\ak xs its.toList
noncomputable def SqT (K:PySem.W.Frag) (H:Hp) (a:Addr) (xs:List V):Prop:=
 H a=some (.tup xs)\/
  ∃ (o:Obj) (its:Array Value) (n:Nat),K.lookup a=some o/\o.cls=.type "tuple"/\o.data=.seq its n/\its.size<=sizeLine/\ak xs its.toList/\o.dict=none
noncomputable def jq:Value->Option V
 | .none=>some .non
 | .bool b=>some (.bl b)
 | .int i _=>some (.int i)
 | .str x _=>some (.str x)
 | .bytes b _=>some (.byt b)
 | .float b _=>some (.flt b)
 | .ref a=>some (.ref a)
 | .type n=>some (.ty n)
 | _=>none
theorem al.abs {x:V}{u:Value} (r:al x u):jq u=some x:=by
 cases x with
 | non=>cases r;rfl
 | bl _=>cases r;rfl
 | int _=>obtain⟨t,rfl⟩:=r;rfl
 | str _=>obtain⟨t,rfl⟩:=r;rfl
 | byt _=>obtain⟨t,rfl⟩:=r;rfl
 | flt _=>obtain⟨t,rfl⟩:=r;rfl
 | ref _=>cases r;rfl
 | ty _=>cases r;rfl
theorem al.inj {x y:V}{u:Value} (r:al x u) (q:al y u):x=y:=Option.some.inj (r.abs.symm.trans q.abs)
theorem ak.inj:∀ {xs ys:List V}{us:List Value},ak xs us->ak ys us->xs=ys
 | _,_,_,.nil,.nil=>rfl
 | _,_,_,.cons r t,.cons r' t'=>by rw [r.inj r',ak.inj t t']
section
variable {X:Cx}{pins:List (Addr×Obj)}{σ:St}{H:Hp}{s:Shared}{a:Addr}{xs ys:List V}
theorem SqL.of {K:PySem.W.Frag} (h:H a=some (.lst xs)):SqL K H a xs:=.inl (.inl h)
theorem SqT.of {K:PySem.W.Frag} (h:H a=some (.tup xs)):SqT K H a xs:=.inl h
theorem Inv.list (I:Inv X pins σ H s) (h:SqL X.K H a xs):∃ its:List Value,ak xs its/\PlainL s.heap a its.toArray/\xs.length<=sizeLine:=by
 rcases h with h | ⟨o,its,n,hk,hc,hd,hs,hz,r⟩
 ·obtain⟨z,its,n,r,e⟩:=h.ok I.hok
  exact⟨its,r,⟨_,n,e,rfl,rfl,rfl⟩,z⟩
 ·refine⟨its.toList,r,⟨o,n,I.kIn a o hk,hc,hd,by simpa using hs⟩,?_⟩
  have e:=r.length
  simp only [Array.length_toList] at e
  lia
theorem Inv.tuple (I:Inv X pins σ H s) (h:SqT X.K H a xs):∃ its:List Value,ak xs its/\IsTup s.heap a its.toArray/\xs.length<=sizeLine:=by
 rcases h with h | ⟨o,its,n,hk,hc,hs,hz,r,_⟩
 ·obtain⟨z,its,r,p⟩:=(Rd.of h).ok I.hok
  exact⟨its,r,p.tup,z⟩
 ·refine⟨its.toList,r,⟨o,I.kIn a o hk,hc,n,by simpa using hs⟩,?_⟩
  have e:=r.length
  simp only [Array.length_toList] at e
  lia
theorem Inv.tuple1 (I:Inv X pins σ H s) (h:SqT X.K H a xs):∃ o:Obj,s.heap.get? a=some o/\o.cls=.type "tuple"/\o.dict=none:=by
 rcases h with h | ⟨o,its,n,hk,hc,hs,hz,r,hd⟩
 ·obtain⟨z,its,r,o,e,c,_,hd⟩:=(Rd.of h).ok I.hok
  exact⟨o,e,c,hd⟩
 ·exact⟨o,I.kIn a o hk,hc,hd⟩
theorem Inv.list_inj (I:Inv X pins σ H s) (h:SqL X.K H a xs) (h':SqL X.K H a ys):xs=ys:=by
 obtain⟨its,r,⟨o,n,e,_,_,d⟩,_⟩:=I.list h
 obtain⟨its',r',⟨o',n',e',_,_,d'⟩,_⟩:=I.list h'
 rw [e] at e';cases e'
 rw [d] at d'
 injection d' with d1 _
 have:its=its':=by simpa using congrArg Array.toList d1
 subst this
 exact r.inj r'
theorem Inv.tuple_inj (I:Inv X pins σ H s) (h:SqT X.K H a xs) (h':SqT X.K H a ys):xs=ys:=by
 obtain⟨its,r,⟨o,e,_,n,d⟩,_⟩:=I.tuple h
 obtain⟨its',r',⟨o',e',_,n',d'⟩,_⟩:=I.tuple h'
 rw [e] at e';cases e'
 rw [d] at d'
 injection d' with d1 _
 have:its=its':=by simpa using congrArg Array.toList d1
 subst this
 exact r.inj r'
end
abbrev Cx.wish (X:Cx) (E:Value->Shared->Prop):Cx:={ X with xe:=E }
abbrev Cx.nox (X:Cx):Cx:=X.wish λ_ _=>False
theorem Cx.Ok.wish {X:Cx} (ok:X.Ok) (E:Value->Shared->Prop):(X.wish E).Ok:=
 ⟨ok.mod,ok.kind,ok.glob,ok.blt,ok.above,ok.inj,ok.has,ok.cab,ok.hd,ok.frames,ok.stk,ok.exf,ok.bs,ok.bsz,ok.noex,ok.exfs,ok.funs,ok.frf⟩
theorem Cx.Ok.unwish {X:Cx}{E:Value->Shared->Prop} (ok:(X.wish E).Ok):X.Ok:=
 ⟨ok.mod,ok.kind,ok.glob,ok.blt,ok.above,ok.inj,ok.has,ok.cab,ok.hd,ok.frames,ok.stk,ok.exf,ok.bs,ok.bsz,ok.noex,ok.exfs,ok.funs,ok.frf⟩
section
variable {X:Cx}{pins:List (Addr×Obj)}{σ:St}{H:Hp}{s:Shared}{E:Value->Shared->Prop}
theorem Inv.wish (I:Inv X pins σ H s) (E:Value->Shared->Prop):Inv (X.wish E) pins σ H s:=⟨I.ok.wish E,I.os,I.bare,I.base,I.loc,I.cell,I.free,I.freeC,I.pin,I.hok,I.len⟩
theorem Inv.unwish (I:Inv (X.wish E) pins σ H s):Inv X pins σ H s:=⟨I.ok.unwish,I.os,I.bare,I.base,I.loc,I.cell,I.free,I.freeC,I.pin,I.hok,I.len⟩
theorem SP.unwish {D:hC}{f:Flow}{s':Shared} (h:SP (X.wish E) pins D f s'):SP X pins D f s':=by
 cases f with
 | next=>obtain⟨σ',H',I,q⟩:=h;exact⟨σ',H',I.unwish,q⟩
 | brk=>obtain⟨σ',H',I,q⟩:=h;exact⟨σ',H',I.unwish,q⟩
 | cont=>obtain⟨σ',H',I,q⟩:=h;exact⟨σ',H',I.unwish,q⟩
 | ret u=>obtain⟨v,σ',H',I,r,q⟩:=h;exact⟨v,σ',H',I.unwish,r,q⟩
theorem PSs.nox {st:List Stmt}{t:TS} (h:PSs X.nox st t):PSs X st t:=λpins s σ H D I hw=>
 wpAny_mono (h pins s σ H D (I.wish _) hw) (λ_ _ q=>q.unwish) λ_ _ z=>False.elim z
end
section
variable {X:Cx}{st:Stmt}{rest:List Stmt}{t u:TS}{e:Expr}{te:TE}{pos:Pos}
noncomputable def n5:TS:=λD σ H=>D.nx σ H
noncomputable def oQ (t u:TS):TS:=λD σ H=>t { D with nx:=u D } σ H
theorem kX:PSs X [] n5:=λ_ _ σ H _ I h=>wpAny_execs_nil ⟨σ,H,I,h⟩
theorem dl (h1:PS X st t) (h2:PSs X rest u):PSs X (st::rest) (oQ t u):=by
 intro pins s σ H D I h
 refine wpAny_execs_cons (thn (h1 pins s σ H { D with nx:=u D } I h) λf s1 q=>?_)
 cases f with
 | next=>
  obtain⟨σ',H',I',q⟩:=q
  exact h2 pins s1 σ' H' D I' q
 | ret v=>exact q
 | brk=>exact q
 | cont=>exact q
theorem kq (h1:PS X st t):PSs X [st] t:=by
 intro pins s σ H D I h
 refine wpAny_execs_cons (thn (h1 pins s σ H D I h) λf s1 q=>?_)
 cases f with
 | next=>exact wpAny_execs_nil q
 | ret v=>exact q
 | brk=>exact q
 | cont=>exact q
noncomputable def on (te:TE):TS:=λD σ H=>te σ H D.rt
theorem lQ (he:PE X e te):PS X (.Return (some e) pos) (on te):=by
 intro pins s σ H D I h
 exact wpAny_Return_some (thn (he pins s σ H _ I h) λv s1 ⟨x,H1,I1,r1,q1⟩=>⟨x,σ,H1,I1,r1,q1⟩)
noncomputable def oE (c:TT) (t u:TS):TS:=λD σ H=>c σ H λb H1=>if b=true then t D σ H1 else u D σ H1
theorem lm {c:Expr}{a b:List Stmt}{tc:TT} (hc:PT X c tc) (ha:PSs X a t) (hb:PSs X b u):PS X (.If c a b pos) (oE tc t u):=by
 intro pins s σ H D I h
 refine wpAny_If (thn (hc pins s σ H _ I h) λd s1 ⟨H1,I1,q1⟩=>?_)
 cases d with
 | true=>exact ha pins s1 σ H1 D I1 q1
 | false=>exact hb pins s1 σ H1 D I1 q1
noncomputable def lF:TS:=λ_ _ _=>False
theorem cf {sts:List Stmt}:PSs X sts lF:=λ_ _ _ _ _ _ h=>h.elim
end
abbrev TG:=V->St->Hp->(St->Hp->Prop)->Prop
noncomputable def PG (X:Cx) (target:Expr) (t:TG):Prop:=
 ∀ (pins:List (Addr×Obj)) (s:Shared) (σ:St) (H:Hp) (v:V) (u:Value) (Q:St->Hp->Prop),Inv X pins σ H s->al v u->t v σ H Q->
  wpAny (model X.prog X.w) X.A (assign target X.env u) (λ_ s'=>∃ σ' H',Inv X pins σ' H' s'/\Q σ' H') X.xe s
abbrev lU:=V->V->V->Hp->(Hp->Prop)->Prop
noncomputable def nI (X:Cx) (t:lU):Prop:=
 ∀ (pins:List (Addr×Obj)) (s:Shared) (σ:St) (H:Hp) (o i v:V) (ov iv u:Value) (Q:Hp->Prop),Inv X pins σ H s->al o ov->al i iv->al v u->t o i v H Q->
  wpAny (model X.prog X.w) X.A (setItem ov iv u) (λ_ s'=>∃ H',Inv X pins σ H' s'/\Q H') X.xe s
section
variable {X:Cx}{pos:Pos}
noncomputable def i8 (i:Nat):TG:=λv σ H Q=>Q (σ.set i (some v)) H
theorem cw {i:Nat}{x:Str} (hN:X.N.Nodup) (hi:X.N[i]?=some x) (hx:Loc X.env.scope x) (hf:X.fn x=true\/X.env.scope.names.lookup x=some .local:=by first | exact .inl rfl | exact .inr rfl | assumption):PG X (.Name x pos) (i8 i):=by
 intro pins s σ H v u Q I r h
 exact wpAny_assign_Name (gr I hN hi hx r (λs' I'=>⟨_,H,I',h⟩) hf)
noncomputable def oU (to ti:TE) (t:lU):TG:=λv σ H Q=>to σ H λo H1=>ti σ H1 λi H2=>t o i v H2 λH3=>Q σ H3
theorem lP {o i:Expr}{to ti:TE}{t:lU} (ho:PE X o to) (hi:PE X i ti) (hs:nI X t)
  (ha:∀ v,assign (.Subscript o i pos) X.env v=(do
    let ov <-holding [v] (eval o X.env)
    let iv <-holding [v,ov] (eval i X.env)
    standAt pos
    holding [v,ov,iv] (setItem ov iv v)
    release [v,ov,iv] []):=by intro _;rfl):PG X (.Subscript o i pos) (oU to ti t):=by
 intro pins s σ H v u Q I r h
 rw [ha]
 refine wpAny_bind (wpAny_holding (thn (ho pins s σ H _ I h) λov s1 ⟨x,H1,I1,r1,q1⟩=>?_))
 refine wpAny_bind (wpAny_holding (thn (hi pins s1 σ H1 _ I1 q1) λiv s2 ⟨y,H2,I2,r2,q2⟩=>?_))
 refine wpAny_bind (wpAny_standAt (wpAny_bind (wpAny_holding (thn (hs pins s2 σ H2 x y v ov iv u _ I2 r1 r2 r q2) λ_ s3 ⟨H3,I3,q3⟩=>?_))))
 exact wpAny_release ⟨σ,H3,I3,q3⟩
noncomputable def nY (te:TE) (g:TG):TS:=λD σ H=>te σ H λx H1=>g x σ H1 D.nx
theorem lO {tg e:Expr}{te:TE}{g:TG} (he:PE X e te) (hg:PG X tg g) (hs:swapsWithSole [tg] e pos.line X.env=pure false:=by rfl) (hw:swappedStores [tg] e X.env=pure none:=by rfl)
  (h1:(assignEach [tg] X.env).map (·.2)=[assign tg X.env]:=by rfl):PS X (.Assign [tg] e pos) (nY te g):=by
 intro pins s σ H D I h
 refine wpAny_Assign_stores (thn (he pins s σ H _ I h) λv s1 ⟨x,H1,I1,r1,q1⟩=>?_) hs hw
 rw [h1]
 exact thn (hg pins s1 σ H1 x v _ I1 r1 q1) λ_ s2 q=>q
theorem nc {i:Nat}{x:Str}{e:Expr}{te:TE}{pos':Pos} (hN:X.N.Nodup) (hi:X.N[i]?=some x) (hx:Loc X.env.scope x) (he:PE X e te) (hs:swapsWith e (some (.Name x pos')) pos.line X.env=pure false:=by rfl) (hf:X.fn x=true\/X.env.scope.names.lookup x=some .local:=by first | exact .inl rfl | exact .inr rfl | assumption) :
  PS X (.Assign [.Name x pos'] e pos) (nY te (i8 i)):=by
 intro pins s σ H D I h
 refine wpAny_Assign_Name (thn (he pins s σ H _ I h) λv s1 ⟨y,H1,I1,r1,q1⟩=>?_) hs
 exact gr I1 hN hi hx r1 (λs2 I2=>⟨_,H1,I2,q1⟩) hf
end
section
variable {X:Cx}{pos:Pos}
end
structure It where
 go:Nat->Hp->Prop
 yld:Nat->Hp->V->Hp->Prop
 stop:Nat->Hp->Prop
noncomputable def gz (X:Cx) (pins:List (Addr×Obj)) (H:Hp) (b:Addr):Prop:=
 H b=none/\b≠X.env.locals/\b ∉ X.fs/\(b ∈ X.ex\/X.s₀.heap.objs.size<=b)/\(∀ x c,X.env.cells.lookup x=some c->c≠b)/\∀ p ∈ X.pn++pins,p.1≠b
theorem Inv.fpOk {X:Cx}{pins:List (Addr×Obj)}{σ:St}{H H':Hp}{s:Shared}{b:Addr} (I:Inv X pins σ H s) (hb:s.heap.objs.size<=b) (hn:H' b=none):gz X pins H' b:=by
 refine⟨hn,Nat.ne_of_gt (Nat.lt_of_lt_of_le I.lt hb),I.nofs hb,.inr (Nat.le_trans I.sz hb),λx c e z=>?_,λp hp z=>?_⟩
 ·obtain⟨v,q⟩:=I.cell x c e
  exact absurd (Nat.lt_of_lt_of_le q.lt (by rw [z];exact hb)) (Nat.lt_irrefl _)
 ·exact absurd (Nat.lt_of_lt_of_le (Heap.lt_size (I.pin p hp).1) (by rw [z];exact hb)) (Nat.lt_irrefl _)
structure jk (P:Program) (w:World) (K:PySem.W.Frag) (tg:Expr) (J:It) (fp:List Addr) (it:Addr) (tn:Nat->Heap->Prop):Prop where
 mem:it ∈ fp
 obj:∀ i h,tn i h->∀ b ∈ fp,∃ o,h.get? b=some o/\∀ v,o.data≠.cell v
 keep:∀ i h h',tn i h->(∀ b ∈ fp,∀ o,h.get? b=some o->h'.get? b=some o)->tn i h'
 item:∀ (X:Cx),X.prog=P->X.w=w->X.K=K->X.calm=true->∀ (i:Nat) (pins:List (Addr×Obj)) (s:Shared) (σ:St) (H:Hp) (E:Value->Shared->Prop),Inv X pins σ H s->(∀ b ∈ fp,gz X pins H b)->tn i s.heap->J.go i H->
  wpAny (model P w) X.A (pyNext (.ref it)) (λr s1=>∃ u,r=some u/\
   wpAny (model P w) X.A (letOwnedTupleGo tg (.ref it) u) (λ_ s2=>∃ x H',Inv X pins σ H' s2/\al x u/\J.yld i H x H'/\tn (i+1) s2.heap/\∀ b ∈ fp,H' b=none) E s1) E s
 done:∀ (X:Cx),X.prog=P->X.w=w->X.K=K->X.calm=true->∀ (i:Nat) (pins:List (Addr×Obj)) (s:Shared) (σ:St) (H:Hp) (E:Value->Shared->Prop),Inv X pins σ H s->(∀ b ∈ fp,gz X pins H b)->tn i s.heap->J.stop i H->
  wpAny (model P w) X.A (pyNext (.ref it)) (λr s1=>r=none/\Inv X pins σ H s1) E s
 self:∀ (A:Around) (i:Nat) (s:Shared) (Q:Value->Shared->Prop) (E:Value->Shared->Prop),tn i s.heap->Q (.ref it) s->wpAny (model P w) A (pyIter (.ref it)) Q E s
abbrev TI:=St->Hp->(It->Hp->Prop)->Prop
noncomputable def PIE (X:Cx) (pins:List (Addr×Obj)) (σ:St) (tg:Expr) (R:It->Hp->Prop) (itv:Value) (s2:Shared):Prop:=
 ∃ (it:Addr) (fp:List Addr) (tn:Nat->Heap->Prop) (J:It) (H':Hp),itv=.ref it/\Inv X pins σ H' s2/\jk X.prog X.w X.K tg J fp it tn/\tn 0 s2.heap/\(∀ b ∈ fp,gz X pins H' b)/\R J H'
noncomputable def PI (X:Cx) (tg iter:Expr) (wi:TI):Prop:=
 ∀ (pins:List (Addr×Obj)) (s:Shared) (σ:St) (H:Hp) (R:It->Hp->Prop),Inv X pins σ H s->wi σ H R->
  wpAny (model X.prog X.w) X.A (eval iter X.env) (λv s1=>wpAny (model X.prog X.w) X.A (pyIter v) (PIE X pins σ tg R) X.xe s1) X.xe s
theorem iq {M:Model}{A:Around}{E:Value->Shared->Prop}{s:Shared}{tg:Expr}{it:Addr}{u:Value}{o:Obj}{n:String}{vs:Array Value}{Q:Unit->Shared->Prop} (ho:s.heap.get? it=some o) (hc:o.cls=.type n) (hd:o.data=.fields vs)
  (hn:["enumerate","zip","dict_itemiterator","dict_reverseitemiterator","odict_iterator","itertools.zip_longest","itertools.pairwise"].contains n=false) (hQ:Q () s):wpAny M A (letOwnedTupleGo tg (.ref it) u) Q E s:=by
 unfold letOwnedTupleGo
 cases tg<;>first
  | exact wpAny_pure hQ
  | (cases u<;>first
      | exact wpAny_pure hQ
      | (refine wpAny_bind (wpAny_load ho ?_)
         rw [hc,hd]
         show wpAny M A (if (["enumerate","zip","dict_itemiterator","dict_reverseitemiterator","odict_iterator","itertools.zip_longest","itertools.pairwise"].contains n && vs[0]?==some (rawInt _))=true then _ else _) Q E s
         rw [if_neg (by intro h;rw [hn,Bool.false_and] at h;cases h)]
         exact wpAny_pure hQ))
noncomputable def Itl (K:PySem.W.Frag) (a:Addr):It:=
 ⟨λi H=>∃ xs x,SqL K H a xs/\xs[i]?=some x,λi H x H'=>H'=H/\∀ xs,SqL K H a xs->xs[i]?=some x,λi H=>∃ xs,SqL K H a xs/\xs.length<=i⟩
noncomputable def Itt (K:PySem.W.Frag) (a:Addr):It:=
 ⟨λi H=>∃ xs x,SqT K H a xs/\xs[i]?=some x,λi H x H'=>H'=H/\∀ xs,SqT K H a xs->xs[i]?=some x,λi H=>∃ xs,SqT K H a xs/\xs.length<=i⟩
noncomputable def Itr (lo:Int) (n:Nat):It:=⟨λi _=>i < n,λi H x H'=>H'=H/\x=.int (lo+i),λi _=>n<=i⟩
theorem i0 {P:Program}{w:World}{K:PySem.W.Frag}{tg:Expr} (a it:Addr):jk P w K tg (Itl K a) [it] it (λi h=>h.IsListIter it a i) where
 mem:=by simp
 obj:=λi h st b hb=>by
  have e:b=it:=by simpa using hb
  subst e
  obtain⟨o,e,c,d⟩:=st
  exact⟨o,e,λv z=>by rw [d] at z;cases z⟩
 keep:=λi h h' st k=>st.at λo e=>k it (by simp) o e
 item:=by
  intro X hP hw hK hc i pins s σ H E I hf st hg
  subst hP hw hK
  obtain⟨xs,x,hq,hx⟩:=hg
  obtain⟨its,rv,p,hz⟩:=I.list hq
  obtain⟨u,hu,ru⟩:=rv.get hx
  obtain⟨f0,f1,f2,f3,f4,f5⟩:=hf it (by simp)
  refine wpAny_pyNext_list_item st p.isList (x:=u) (by simpa using hu) λh' st' sb=>?_
  have I1:Inv X pins σ H { s with heap:=h' }:=I.turned (t':=s.toks) (λb o hb e=>(sb.2 b hb).trans e) f0 f1 f3 f4 f5
  obtain⟨o,e,c,d⟩:=id st'
  exact⟨u,rfl,iq (s:={ s with heap:=h' }) e c d (by decide) ⟨x,H,I1,ru,⟨rfl,λys hy=>by rw [I.list_inj hy hq];exact hx⟩,st',λb hb=>(hf b hb).1⟩⟩
 done:=by
  intro X hP hw hK hc i pins s σ H E I hf st hg
  subst hP hw hK
  obtain⟨xs,hq,hx⟩:=hg
  obtain⟨its,rv,p,hz⟩:=I.list hq
  obtain⟨f0,f1,f2,f3,f4,f5⟩:=hf it (by simp)
  have hl:=rv.length
  exact wpAny_pyNext_list_end (I.ok.hd hc) st p.isList (by simp;lia) λh' eb=>⟨rfl,I.turned (t':=s.toks) (λb o hb e=>eb b o hb e) f0 f1 f3 f4 f5⟩
 self:=λ_ _ _ _ _ st h=>wpAny_pyIter_listiter st h
theorem gQ {P:Program}{w:World}{K:PySem.W.Frag}{tg:Expr} (a it:Addr):jk P w K tg (Itt K a) [it] it (λi h=>h.IsTupleIter it a i) where
 mem:=by simp
 obj:=λi h st b hb=>by
  have e:b=it:=by simpa using hb
  subst e
  obtain⟨o,e,c,d⟩:=st
  exact⟨o,e,λv z=>by rw [d] at z;cases z⟩
 keep:=λi h h' st k=>st.at λo e=>k it (by simp) o e
 item:=by
  intro X hP hw hK hc i pins s σ H E I hf st hg
  subst hP hw hK
  obtain⟨xs,x,hq,hx⟩:=hg
  obtain⟨its,rv,p,hz⟩:=I.tuple hq
  obtain⟨u,hu,ru⟩:=rv.get hx
  obtain⟨f0,f1,f2,f3,f4,f5⟩:=hf it (by simp)
  refine wpAny_pyNext_tuple_item st (show s.heap.IsTuple a its.toArray from p) (x:=u) (by simpa using hu) λh' st' sb=>?_
  have I1:Inv X pins σ H { s with heap:=h' }:=I.turned (t':=s.toks) (λb o hb e=>(sb.2 b hb).trans e) f0 f1 f3 f4 f5
  obtain⟨o,e,c,d⟩:=id st'
  exact⟨u,rfl,iq (s:={ s with heap:=h' }) e c d (by decide) ⟨x,H,I1,ru,⟨rfl,λys hy=>by rw [I.tuple_inj hy hq];exact hx⟩,st',λb hb=>(hf b hb).1⟩⟩
 done:=by
  intro X hP hw hK hc i pins s σ H E I hf st hg
  subst hP hw hK
  obtain⟨xs,hq,hx⟩:=hg
  obtain⟨its,rv,p,hz⟩:=I.tuple hq
  obtain⟨f0,f1,f2,f3,f4,f5⟩:=hf it (by simp)
  have hl:=rv.length
  exact wpAny_pyNext_tuple_end (I.ok.hd hc) st (show s.heap.IsTuple a its.toArray from p) (by simp;lia) λh' eb=>⟨rfl,I.turned (t':=s.toks) (λb o hb e=>eb b o hb e) f0 f1 f3 f4 f5⟩
 self:=λ_ _ _ _ _ st h=>wpAny_pyIter_tupleiter st h
theorem hU {P:Program}{w:World}{K:PySem.W.Frag}{tg:Expr} (it:Addr) (lo:Int) (n:Nat):jk P w K tg (Itr lo n) [it] it (λi h=>IsRangeIter h it (lo+(i:Nat)*1) ((n:Int) - (i:Nat)) 1) where
 mem:=by simp
 obj:=λi h st b hb=>by
  have e:b=it:=by simpa using hb
  subst e
  exact⟨_,st,λv z=>by
   have z':Data.fields _=Data.cell v:=z
   cases z'⟩
 keep:=λi h h' st k=>k it (by simp) _ st
 item:=by
  intro X hP hw hK hc i pins s σ H E I hf st hg
  subst hP hw hK
  obtain⟨f0,f1,f2,f3,f4,f5⟩:=hf it (by simp)
  have W:=Walks.range (prog:=X.prog) (w:=X.w) (I.ok.hd hc) it lo 1 n
  refine W.item i s _ _ hg st λv h' tk hv st' kk=>?_
  obtain⟨t,rfl⟩:=hv
  have I1:Inv X pins σ H { s with heap:=h',toks:=tk }:=I.turned (λb o hb e=>kk b o (by simpa using hb) e) f0 f1 f3 f4 f5
  refine⟨_,rfl,iq (s:={ s with heap:=h',toks:=tk }) (n:="range_iterator") st' rfl rfl (by decide) ⟨.int (lo+i),H,I1,⟨t,?_⟩,⟨rfl,rfl⟩,st',λb hb=>(hf b hb).1⟩⟩
  rw [Int.mul_one]
 done:=by
  intro X hP hw hK hc i pins s σ H E I hf st hg
  subst hP hw hK
  obtain⟨f0,f1,f2,f3,f4,f5⟩:=hf it (by simp)
  exact wpAny_pyNext_range_end (I.ok.hd hc) st (by have:n<=i:=hg;lia) λh' eb=>⟨rfl,I.turned (t':=s.toks) (λb o hb e=>eb b o hb e) f0 f1 f3 f4 f5⟩
 self:=λ_ _ _ _ _ st h=>wpAny_pyIter_rangeiter st h
end L2
namespace L2
open PySem PySem.Spec PyProof.Rows
section
variable {X:Cx}{tg:Expr}
noncomputable def nz (K:PySem.W.Frag) (tl:TE):TI:=λσ H R=>tl σ H λx H1=>∃ a,x=.ref a/\(∃ xs,SqL K H1 a xs)/\R (Itl K a) H1
noncomputable def oO (K:PySem.W.Frag) (tl:TE):TI:=λσ H R=>tl σ H λx H1=>∃ a,x=.ref a/\(∃ xs,SqT K H1 a xs)/\R (Itt K a) H1
theorem kn {l:Expr}{tl:TE} (hl:PE X l tl):PI X tg l (nz X.K tl):=by
 intro pins s σ H R I h
 refine thn (hl pins s σ H _ I h) λv s1 ⟨x,H1,I1,r1,q1⟩=>?_
 obtain⟨a,e,⟨xs,hq⟩,q⟩:=q1
 subst e
 cases r1
 obtain⟨its,rv,p,hz⟩:=I1.list hq
 refine wpAny_pyIter_list p.isList ?_
 refine⟨s1.heap.objs.size,[s1.heap.objs.size],_,_,H1,rfl,I1.kept (t':=s1.toks) λb o e=>Heap.get?_push_of_some _ e,i0 a _,⟨_,Heap.get?_push_size _ rfl,rfl,rfl⟩,λb hb=>?_,q⟩
 have e:b=s1.heap.objs.size:=by simpa using hb
 subst e
 exact I1.fpOk (Nat.le_refl _) (I1.hok.fresh (Nat.le_refl _))
theorem mm {l:Expr}{tl:TE} (hl:PE X l tl):PI X tg l (oO X.K tl):=by
 intro pins s σ H R I h
 refine thn (hl pins s σ H _ I h) λv s1 ⟨x,H1,I1,r1,q1⟩=>?_
 obtain⟨a,e,⟨xs,hq⟩,q⟩:=q1
 subst e
 cases r1
 obtain⟨its,rv,p,hz⟩:=I1.tuple hq
 refine wpAny_pyIter_tuple (show s1.heap.IsTuple a its.toArray from p) ?_
 refine⟨s1.heap.objs.size,[s1.heap.objs.size],_,_,H1,rfl,I1.kept (t':=s1.toks) λb o e=>Heap.get?_push_of_some _ e,gQ a _,⟨_,Heap.get?_push_size _ rfl,rfl,rfl⟩,λb hb=>?_,q⟩
 have e:b=s1.heap.objs.size:=by simpa using hb
 subst e
 exact I1.fpOk (Nat.le_refl _) (I1.hok.fresh (Nat.le_refl _))
theorem jI {pins:List (Addr×Obj)}{σ:St}{H:Hp}{s:Shared}{R:It->Hp->Prop}{E:Value->Shared->Prop}{lo hi:Int}{t u v:Tok}{tk:Nat} (I:Inv X pins σ H s) (h1:-(2 ^ 62)<=lo) (h2:lo < 2 ^ 62) (h3:-(2 ^ 62)<=hi) (h4:hi < 2 ^ 62)
  (q:R (Itr lo (hi - lo).toNat) H):wpAny (model X.prog X.w) X.A (pyIter (.ref s.heap.objs.size)) (PIE X pins σ tg R) E { s with heap:=s.heap.push { cls:=.type "range",data:=.fields #[.int lo t,.int hi u,.int 1 v] },toks:=tk }:=by
 refine wpAny_pyIter_range (IsRange.new ..) (small_one h1 h2 h3 h4) ?_
 have I1:Inv X pins σ H { s with heap:=s.heap.push { cls:=.type "range",data:=.fields #[.int lo t,.int hi u,.int 1 v] },toks:=tk }:=I.kept λb o e=>Heap.get?_push_of_some _ e
 refine⟨(s.heap.push { cls:=.type "range",data:=.fields #[.int lo t,.int hi u,.int 1 v] }).objs.size,[(s.heap.push { cls:=.type "range",data:=.fields #[.int lo t,.int hi u,.int 1 v] }).objs.size],_,_,H,rfl,
  I1.kept (t':=tk) λb o e=>Heap.get?_push_of_some _ e,hU _ lo (hi - lo).toNat,?_,λb hb=>?_,q⟩
 ·have e1:lo+((0:Nat):Int)*1=lo:=by simp
  have e2:(((hi - lo).toNat:Nat):Int) - ((0:Nat):Int)=Builtin.Range.rangeSize lo hi 1:=by rw [rangeSize_one];split<;>lia
  show IsRangeIter _ _ (lo+((0:Nat):Int)*1) ((((hi - lo).toNat:Nat):Int) - ((0:Nat):Int)) 1
  rw [e1,e2]
  exact Heap.get?_push_size _ rfl
 ·have e:b=(s.heap.push { cls:=.type "range",data:=.fields #[.int lo t,.int hi u,.int 1 v] }).objs.size:=by simpa using hb
  subst e
  exact I1.fpOk (Nat.le_refl _) (I1.hok.fresh (Nat.le_refl _))
noncomputable def nl (ta:TA):TI:=λσ H R=>ta σ H λvs H1=>∃ j:Int,vs=[.int j]/\-(2 ^ 62)<=j/\j < 2 ^ 62/\R (Itr 0 j.toNat) H1
theorem iO {a:Expr}{ta:TA}{p pos:Pos} (hg:Gl X "range") (hm:X.mg "range" = none) (ha:PA X [a] ta) (hs:starEach [a] X.env=[(false,eval a X.env)]:=by rfl):PI X tg (.Call (.Name "range" p) [a] [] pos) (nl ta):=by
 intro pins s σ H R I h
 refine Call_ (gc I hg hm boot_range (PyProof.Rows.callWith_type1 (thn (ha pos pins s σ H _ I h) λus s1 ⟨vs,H1,I1,r1,q1⟩=>?_) hs rfl))
 obtain⟨j,e,q1,q2,q⟩:=q1
 subst e
 cases r1 with
 | cons r rr=>
  cases rr
  obtain⟨t,rfl⟩:=r
  exact call_range_1 (jI I1 (by lia) (by lia) q1 q2 (by simpa using q))
noncomputable def oA (wi:TI) (g:TG) (tb:TS):TS:=λD σ H=>wi σ H λJ H1=>∃ W:Nat->Nat->St->Hp->Prop,(∃ m,W 0 m σ H1)/\∀ i m σ H,W i m σ H->
 (J.stop i H/\D.nx σ H)\/(J.go i H/\∃ N:St->Hp->Prop,(∀ σ' H',N σ' H'->∃ m',m' < m/\W (i+1) m' σ' H')/\∀ x H',J.yld i H x H'->g x σ H' λσ2 H2=>tb { D with nx:=N,ct:=N,bk:=D.nx } σ2 H2)
noncomputable def em (fp:List Addr) (h:Heap):List (Addr×Obj):=fp.filterMap λb=>(h.get? b).map λo=>(b,o)
theorem cz {fp:List Addr}{h:Heap}{b:Addr}{o:Obj} (hb:b ∈ fp) (e:h.get? b=some o):(b,o) ∈ em fp h:=List.mem_filterMap.mpr ⟨b,hb,by rw [e];rfl⟩
theorem iH {fp:List Addr}{h:Heap}{p:Addr×Obj} (hp:p ∈ em fp h):p.1 ∈ fp/\h.get? p.1=some p.2:=by
 obtain⟨b,hb,e⟩:=List.mem_filterMap.mp hp
 cases q:h.get? b with
 | none=>rw [q] at e;cases e
 | some o=>
  rw [q] at e
  have e':(b,o)=p:=Option.some.inj e
  subst e'
  exact⟨hb,q⟩
theorem Inv.pinned {pins:List (Addr×Obj)}{σ:St}{H:Hp}{s:Shared}{fp:List Addr} (I:Inv X pins σ H s) (hf:∀ b ∈ fp,gz X pins H b) (ho:∀ b ∈ fp,∃ o,s.heap.get? b=some o/\∀ v,o.data≠.cell v):Inv X (pins++em fp s.heap) σ H s:=
 I.pins_of λp hp=>(List.mem_append.mp hp).elim (λz=>I.pin p (List.mem_append_right _ z)) λz=>by
  obtain⟨hb,e⟩:=iH z
  obtain⟨f0,f1,f2,_⟩:=hf p.1 hb
  obtain⟨o,e',d⟩:=ho p.1 hb
  rw [e] at e';cases e'
  exact⟨e,f0,f1,f2,d⟩
theorem Inv.unpinned {pins pl:List (Addr×Obj)}{σ:St}{H:Hp}{s:Shared} (I:Inv X (pins++pl) σ H s):Inv X pins σ H s:=I.pins_of λp hp=>I.pin p (List.mem_append_right _ (List.mem_append_left _ hp))
theorem ma {iter:Expr}{body:List Stmt}{wi:TI}{g:TG}{tb:TS}{pos:Pos} (hp:PassesOwn (model X.prog X.w) X.A X.env X.xe) (hc:X.calm=true) (hi:PI X tg iter wi) (hg:PG X tg g) (hb:PSs X body tb)
  (hs:∀ x,foldedSetIterable iter X.env x=pure x:=by intro _;rfl):PS X (.For tg iter body [] pos) (oA wi g tb):=by
 intro pins s σ H D I h
 refine wpAny_For (thn (hi pins s σ H _ I h) λv s1 h1=>thn h1 λitv s2 h2=>?_) hs
 obtain⟨it,fp,tn,J,H2,e,I2,T,st2,f2,W,⟨m0,w0⟩,turn⟩:=h2
 subst e
 -- what stays true of the iterator's objects through the loop
 have stat:∀ {H':Hp},(∀ b ∈ fp,H' b=none)->∀ b ∈ fp,gz X pins H' b:=λhn b hb=>⟨hn b hb,(f2 b hb).2⟩
 refine codeAny_forLoop_any (λn s'=>∃ i σ' H',Inv X pins σ' H' s'/\tn i s'.heap/\(∀ b ∈ fp,H' b=none)/\W i n σ' H') ?_ m0 ⟨0,σ,H2,I2,st2,λb hb=>(f2 b hb).1,w0⟩
 rintro n s3 ⟨i,σ3,H3,I3,st3,fr3,w3⟩
 rcases turn i n σ3 H3 w3 with⟨stop,qn⟩ | ⟨go,N,hN,step⟩
 ·refine wpAny_passesOwn hp (thn (T.done X rfl rfl rfl hc i pins s3 σ3 H3 X.xe I3 (stat fr3) st3 stop) λr s4 ⟨hr,I4⟩=>?_)
  subst hr
  exact wpAny_execs_nil ⟨σ3,H3,I4,qn⟩
 ·refine wpAny_passesOwn hp (thn (T.item X rfl rfl rfl hc i pins s3 σ3 H3 X.xe I3 (stat fr3) st3 go) λr s4 ⟨u,hr,h4⟩=>?_)
  subst hr
  refine wpAny_passesOwn hp (thn h4 λ_ s5 ⟨x,H5,I5,r5,y5,st5,fr5⟩=>?_)
  have I5':=I5.pinned (stat fr5) (T.obj _ _ st5)
  refine wpAny_passesOwn hp (thn (hg _ s5 σ3 H5 x u _ I5' r5 (step x H5 y5)) λ_ s6 ⟨σ6,H6,I6,q6⟩=>?_)
  refine wpAny_passesOwn hp (thn (hb _ s6 σ6 H6 _ I6 q6) λf s7 q7=>?_)
  have again:∀ {σ7:St}{H7:Hp},Inv X (pins++em fp s5.heap) σ7 H7 s7->N σ7 H7->∃ m,m < n/\∃ i σ' H',Inv X pins σ' H' s7/\tn i s7.heap/\(∀ b ∈ fp,H' b=none)/\W i m σ' H':=λ{σ7 H7} I7 n7=>by
   obtain⟨m',hm,w7⟩:=hN σ7 H7 n7
   refine⟨m',hm,i+1,σ7,H7,I7.unpinned,T.keep _ _ _ st5 λb hb o e=>(I7.pin (b,o) (List.mem_append_right _ (List.mem_append_right _ (cz hb e)))).1,λb hb=>?_,w7⟩
   obtain⟨o,e,d⟩:=T.obj _ _ st5 b hb
   exact (I7.pin (b,o) (List.mem_append_right _ (List.mem_append_right _ (cz hb e)))).2.1
  cases f with
  | next=>obtain⟨σ7,H7,I7,n7⟩:=q7;exact again I7 n7
  | cont=>obtain⟨σ7,H7,I7,n7⟩:=q7;exact again I7 n7
  | brk=>obtain⟨σ7,H7,I7,q7⟩:=q7;exact⟨σ7,H7,I7.unpinned,q7⟩
  | ret v=>obtain⟨x7,σ7,H7,I7,r7,q7⟩:=q7;exact⟨x7,σ7,H7,I7.unpinned,r7,q7⟩
end
end L2
namespace L2
open PySem PySem.Spec PyProof.Rows
abbrev R2:=V->V->Hp->VK->Prop
noncomputable def OpR (X:Cx) (f:Value->Value->Sem Value) (r:R2):Prop:=
 ∀ (pins:List (Addr×Obj)) (s:Shared) (σ:St) (H:Hp) (x y:V) (v u:Value) (Q:VK),Inv X pins σ H s->al x v->al y u->r x y H Q->
  wpAny (model X.prog X.w) X.A (f v u) (EP X pins σ Q) X.xe s
noncomputable def aO (X:Cx) (f:Value) (r:List V->Hp->VK->Prop):Prop:=
 ∀ (pins:List (Addr×Obj)) (s:Shared) (σ:St) (H:Hp) (xs:List V) (us:List Value) (Q:VK),Inv X pins σ H s->ak xs us->r xs H Q->
  wpAny (model X.prog X.w) X.A (call f us) (EP X pins σ Q) X.xe s
noncomputable def ox (X:Cx) (r:V->Hp->(Bool->Hp->Prop)->Prop):Prop:=
 ∀ (pins:List (Addr×Obj)) (s:Shared) (σ:St) (H:Hp) (x:V) (v:Value) (Q:Bool->Hp->Prop),Inv X pins σ H s->al x v->r x H Q->
  wpAny (model X.prog X.w) X.A (truthy v) (TP X pins σ Q) X.xe s
noncomputable def tOp (r:R2) (ta tb:TE):TE:=λσ H Q=>ta σ H λx H1=>tb σ H1 λy H2=>r x y H2 Q
noncomputable def rI (C:Int->Int->Prop) (g:Int->Int->V):R2:=λx y H Q=>∃ i j,x=.int i/\y=.int j/\C i j/\Q (g i j) H
noncomputable def rI0 (g:Int->Int->V):R2:=λx y H Q=>∃ i j,x=.int i/\y=.int j/\Q (g i j) H
section
variable {X:Cx}{a b c:Expr}{ta tb tc:TE}{pos:Pos}
theorem lI (ha:PE X a ta) (hb:PE X b tb) {pins:List (Addr×Obj)}{s:Shared}{σ:St}{H:Hp}{R:V->V->Hp->Prop} (I:Inv X pins σ H s)
  (h:ta σ H λx H1=>tb σ H1 λy H2=>R x y H2) {Q:Value->Shared->Prop}{f:Value->Value->Sem Value}
  (hf:∀ v u s2 x y H2,Inv X pins σ H2 s2->al x v->al y u->R x y H2->wpAny (model X.prog X.w) X.A (f v u) Q X.xe s2) :
  wpAny (model X.prog X.w) X.A (eval a X.env) (λv s₁=>wpAny (model X.prog X.w) X.A (eval b X.env) (λu s₂=>wpAny (model X.prog X.w) X.A (f v u) Q X.xe s₂) X.xe s₁) X.xe s:=by
 refine thn (ha pins s σ H _ I h) λv s1 ⟨x,H1,I1,r1,q1⟩=>?_
 refine thn (hb pins s1 σ H1 _ I1 q1) λu s2 ⟨y,H2,I2,r2,q2⟩=>?_
 exact hf v u s2 x y H2 I2 r1 r2 q2
theorem nW {op:Operator}{r:R2} (ho:OpR X (binaryOp op) r) (ha:PE X a ta) (hb:PE X b tb):PE X (.BinOp a op b pos) (tOp r ta tb):=by
 intro pins s σ H Q I h
 exact wpAny_BinOp (lI ha hb I h λv u s2 x y H2 I2 rx ry q=>ho pins s2 σ H2 x y v u Q I2 rx ry q)
theorem opI {f:Value->Value->Sem Value}{C:Int->Int->Prop}{g:Int->Int->Int}
  (rule:∀ (i j:Int) (t u:Tok) (s:Shared) (Q:Value->Shared->Prop) (E:Value->Shared->Prop),C i j->Q (.int (g i j) s.toks) { s with toks:=s.toks+1 }->wpAny (model X.prog X.w) X.A (f (.int i t) (.int j u)) Q E s) :
  OpR X f (rI C λi j=>.int (g i j)):=by
 intro pins s σ H x y v u Q I rx ry h
 obtain⟨i,j,rfl,rfl,hc,q⟩:=h
 obtain⟨t,rfl⟩:=rx
 obtain⟨t',rfl⟩:=ry
 exact rule i j t t' s _ _ hc ⟨.int (g i j),H,I.tok _,⟨_,rfl⟩,q⟩
theorem oB {f:Value->Value->Sem Value}{g:Int->Int->Int}
  (rule:∀ (i j:Int) (t u:Tok) (s:Shared) (Q:Value->Shared->Prop) (E:Value->Shared->Prop),Q (.int (g i j) s.toks) { s with toks:=s.toks+1 }->wpAny (model X.prog X.w) X.A (f (.int i t) (.int j u)) Q E s) :
  OpR X f (rI0 λi j=>.int (g i j)):=by
 intro pins s σ H x y v u Q I rx ry h
 obtain⟨i,j,rfl,rfl,q⟩:=h
 obtain⟨t,rfl⟩:=rx
 obtain⟨t',rfl⟩:=ry
 exact rule i j t t' s _ _ ⟨.int (g i j),H,I.tok _,⟨_,rfl⟩,q⟩
theorem ke {f:Value->Value->Sem Value}{g:Int->Int->Bool}
  (rule:∀ (i j:Int) (t u:Tok) (s:Shared) (Q:Value->Shared->Prop) (E:Value->Shared->Prop),Q (.bool (g i j)) s->wpAny (model X.prog X.w) X.A (f (.int i t) (.int j u)) Q E s) :
  OpR X f (rI0 λi j=>.bl (g i j)):=by
 intro pins s σ H x y v u Q I rx ry h
 obtain⟨i,j,rfl,rfl,q⟩:=h
 obtain⟨t,rfl⟩:=rx
 obtain⟨t',rfl⟩:=ry
 exact rule i j t t' s _ _ ⟨.bl (g i j),H,I,rfl,q⟩
noncomputable def oK (i j:Int):Prop:=0 < j/\j < 1073741824
noncomputable def eL (i j:Int):Prop:=0<=j/\j<=1000000/\i.natAbs < 2 ^ 64
noncomputable def kf (i j:Int):Prop:=(-(2 ^ 64) < i/\i < 2 ^ 64)\/(-(2 ^ 64) < j/\j < 2 ^ 64)
theorem kf.ok {i j:Int} (h:kf i j):IntMulOk i j:=by
 rcases h with⟨h1,h2⟩ | ⟨h1,h2⟩
 ·exact .of_left (intBits_le_64 h1 h2)
 ·exact .of_right (intBits_le_64 h1 h2)
theorem mK:OpR X (binaryOp .Add) (rI0 λi j=>.int (i+j)):=oB λ_ _ _ _ _ _ _ q=>add_int q
theorem kR:OpR X (binaryOp .FloorDiv) (rI oK λi j=>.int (i / j)):=opI λi j _ _ _ _ _ hc q=>by
 have h1:(0:Int) < j:=hc.1
 have h2:j < 1073741824:=hc.2
 exact floordiv_int (by lia) (by rw [Int.fdiv_eq_ediv_of_nonneg i (by lia)];exact q) (.inl (PyProof.noPylong_small (by lia)))
theorem lK:OpR X (binaryOp .Mod) (rI (λ_ j=>0 < j) λi j=>.int (i % j)):=opI λi j _ _ _ _ _ hc q=>by
 have h1:(0:Int) < j:=hc
 exact mod_int' (by lia) (by rw [Int.fmod_eq_emod_of_nonneg i (by lia)];exact q)
theorem mD:OpR X (binaryOp .Pow) (rI eL λi j=>.int (i ^ j.toNat)):=opI λ_ _ _ _ _ _ _ hc q=>pow_int_small hc.1 hc.2.1 hc.2.2 q
theorem mw:OpR X (binaryOp .LShift) (rI eL λi j=>.int (i*2 ^ j.toNat)):=opI λ_ _ _ _ _ _ _ hc q=>lshift_int_small hc.1 hc.2.1 hc.2.2 q
end
section
variable {X:Cx}{a b c:Expr}{ta tb tc:TE}{pos:Pos}
theorem mN {pins:List (Addr×Obj)}{σ:St}{H:Hp}{s:Shared}{Q:VK}{k k':Bool} (I:Inv X pins σ H s) (q:Q (.bl k) H) (e:k=k'):EP X pins σ Q (.bool k') s:=by
 subst e
 exact⟨.bl k,H,I,rfl,q⟩
theorem n3:OpR X (compareOp .Lt) (rI0 λi j=>.bl (decide (i < j))):=ke λ_ _ _ _ _ _ _ q=>lt_int q
theorem oe:OpR X (compareOp .LtE) (rI0 λi j=>.bl (decide (i<=j))):=ke λ_ _ _ _ _ _ _ q=>le_int q
theorem nB:OpR X (compareOp .Gt) (rI0 λi j=>.bl (decide (j < i))):=ke λ_ _ _ _ _ _ _ q=>gt_int q
theorem nk:OpR X (compareOp .GtE) (rI0 λi j=>.bl (decide (j<=i))):=ke λ_ _ _ _ _ _ _ q=>ge_int q
theorem lv:OpR X (compareOp .Is) (λx y H Q=>y=.non/\Q (.bl (decide (x=.non))) H):=by
 intro pins s σ H x y v u Q I rx ry h
 obtain⟨rfl,q⟩:=h
 cases ry
 refine is_none_gen (mN I q ?_)
 cases x<;>first
  | (cases rx;rfl)
  | (obtain⟨t,rfl⟩:=rx;rfl)
theorem dI (b:Expr) {op:CmpOp} (h:op≠.In:=by decide) (h2:op≠.NotIn:=by decide):behindInMarks op b=false:=by
 have e1:(op==CmpOp.In)=false:=by cases op<;>first | rfl | exact absurd rfl h
 have e2:(op==CmpOp.NotIn)=false:=by cases op<;>first | rfl | exact absurd rfl h2
 cases b<;>simp [behindInMarks,e1,e2]
theorem kC {op:CmpOp}{r:R2} (ho:OpR X (compareOp op) r) (ha:PE X a ta) (hb:PE X b tb) (hm:behindInMarks op b=false):PE X (.Compare a [op] [b] pos) (tOp r ta tb):=by
 intro pins s σ H Q I h
 exact wpAny_Compare1 (lI ha hb I h λv u s2 x y H2 I2 rx ry q=>ho pins s2 σ H2 x y v u Q I2 rx ry q) hm
noncomputable def oj (t:TE):TT:=λσ H Q=>t σ H λx H'=>∃ k,x=.bl k/\Q k H'
theorem fX {op:CmpOp}{r:R2} (ho:OpR X (compareOp op) r) (ha:PE X a ta) (hb:PE X b tb) (hm:behindInMarks op b=false):PT X (.Compare a [op] [b] pos) (oj (tOp r ta tb)):=by
 intro pins s σ H Q I h
 refine wpAny_isTrue_Compare1 (thn (ha pins s σ H _ I h) λv s1 ⟨x,H1,I1,r1,q1⟩=>thn (hb pins s1 σ H1 _ I1 q1) λu s2 ⟨y,H2,I2,r2,q2⟩=>
  thn (ho pins s2 σ H2 x y v u _ I2 r1 r2 q2) λc s3 ⟨z,H3,I3,r3,k,e,q3⟩=>?_) hm
 subst e
 cases r3
 exact wpAny_truthy_bool ⟨H3,I3,q3⟩
noncomputable def mr (r r':R2) (ta tb tc:TE):TE:=λσ H Q=>ta σ H λx H1=>tb σ H1 λy H2=>r x y H2 λz H3=>∃ k,z=.bl k/\
 (if k=true then tc σ H3 λw' H4=>r' y w' H4 Q else Q (.bl false) H3)
theorem gK {op op':CmpOp}{r r':R2} (ho:OpR X (compareOp op) r) (ho':OpR X (compareOp op') r') (ha:PE X a ta) (hb:PE X b tb) (hc:PE X c tc)
  (hm:lastMarks [op,op'] [b,c]=false:=by with_unfolding_all rfl):PE X (.Compare a [op,op'] [b,c] pos) (mr r r' ta tb tc):=by
 intro pins s σ H Q I h
 refine Compare_chain (thn (ha pins s σ H _ I h) λv s1 ⟨x,H1,I1,r1,q1⟩=>chain_link (thn (hb pins s1 σ H1 _ I1 q1) λu s2 ⟨y,H2,I2,r2,q2⟩=>
  thn (ho pins s2 σ H2 x y v u _ I2 r1 r2 q2) λd s3 ⟨z,H3,I3,r3,k,e,q3⟩=>?_)) hm
 subst e
 cases r3
 refine wpAny_truthy_bool ?_
 cases k with
 | false=>exact ite_ff ⟨.bl false,H3,I3,rfl,q3⟩
 | true=>exact ite_tt (chain_last (thn (hc pins s3 σ H3 _ I3 q3) λw' s4 ⟨z',H4,I4,r4,q4⟩=>ho' pins s4 σ H4 y z' u w' Q I4 r2 r4 q4))
noncomputable def ky (K:PySem.W.Frag) (x:V) (H:Hp) (k:Bool):Prop:=
 match x with
 | .non=>k=false
 | .bl b=>k=b
 | .int i=>k=(i != 0)
 | .str y=>y.length<=sizeLine/\k=((y.length:Int) != 0)
 | .byt y=>y.size<=sizeLine/\k=((y.size:Int) != 0)
 | .ref p=>(∃ xs,SqL K H p xs/\k=!xs.isEmpty)\/(∃ xs,SqT K H p xs/\k=!xs.isEmpty)\/∃ kvs,H p=some (.dK kvs)/\k=!kvs.isEmpty
 | _=>False
theorem hZ {κ:Type}{kvs:List (κ×V)}{vs:List (κ×Value)} (r:KV kvs vs):(!vs.isEmpty)=!kvs.isEmpty:=by
 cases r<;>rfl
theorem et {xs:List V}{its:List Value} (r:ak xs its):(!its.toArray.isEmpty)=!xs.isEmpty:=by
 cases r<;>simp
theorem de:(sizeLine:Nat) < 2 ^ 63:=by rw [sizeLine_eq];decide
theorem me:ox X (λx H Q=>∃ k,ky X.K x H k/\Q k H):=by
 intro pins s σ H x v Q I rx h
 obtain⟨k,e,q⟩:=h
 have hl:=de
 have hs:sizeLine=16777216:=sizeLine_eq
 cases x with
 | non=>
  cases rx
  have e':k=false:=e
  subst e'
  exact truthy_none ⟨H,I,q⟩
 | bl b=>
  cases rx
  have e':k=b:=e
  subst e'
  exact wpAny_truthy_bool ⟨H,I,q⟩
 | int i=>
  obtain⟨t,rfl⟩:=rx
  have e':k=(i != 0):=e
  subst e'
  exact PySem.P.truthy_int ⟨H,I,q⟩
 | str y=>
  obtain⟨t,rfl⟩:=rx
  obtain⟨hy,e'⟩:y.length<=sizeLine/\k=((y.length:Int) != 0):=e
  subst e'
  exact PySem.P.truthy_str (by lia) ⟨H,I.tok _,q⟩
 | byt y=>
  obtain⟨t,rfl⟩:=rx
  obtain⟨hy,e'⟩:y.size<=sizeLine/\k=((y.size:Int) != 0):=e
  subst e'
  exact PySem.W.truthy_bytes (by lia) ⟨H,I.tok _,q⟩
 | ref p=>
  cases rx
  have e':(∃ xs,SqL X.K H p xs/\k=!xs.isEmpty)\/(∃ xs,SqT X.K H p xs/\k=!xs.isEmpty)\/∃ kvs,H p=some (.dK kvs)/\k=!kvs.isEmpty:=e
  rcases e' with⟨xs,hx,e'⟩ | ⟨xs,hx,e'⟩ | ⟨kvs,hx,e'⟩
  ·subst e'
   obtain⟨its,r,pl,hz⟩:=I.list hx
   have hlen:=r.length
   exact wpAny_truthy_list pl.isList (by simp only [List.size_toArray];lia) ⟨H,I.tok _,by rw [et r];exact q⟩
  ·subst e'
   obtain⟨its,r,pl,hz⟩:=I.tuple hx
   have hlen:=r.length
   exact truthy_tuple pl (by simp only [List.size_toArray];lia) ⟨H,I.tok _,by rw [et r];exact q⟩
  ·subst e'
   obtain⟨hz,hS,vs,r,m⟩:kvs.length<=sizeLine/\(p==sysModules)=false/\∃ vs,KV kvs vs/\s.heap.DictOf (bp X.prog X.w) p vs:=I.hok p _ hx
   have hlen:kvs.length=vs.length:=Paired.length r
   exact wpAny_truthy_dict hS m (by lia) ⟨H,I.tok _,by rw [hZ r];exact q⟩
 | _=>exact (show False from e).elim
theorem jn (ha:PE X a ta) (he:∀ whole,isTrue a X.env whole=(do let v <-whole;standAt a.pos;holding [v] (truthy v))) :
  PT X a (λσ H Q=>ta σ H λx H'=>∃ k,ky X.K x H' k/\Q k H'):=by
 intro pins s σ H Q I h
 exact isTrue_plain (thn (ha pins s σ H _ I h) λv s1 ⟨x,H1,I1,r1,q1⟩=>me pins s1 σ H1 x v Q I1 r1 q1) (he _)
theorem hX:OpR X (binaryOp .Add) (λx y H Q=>∃ i j,x=.str i/\y=.str j/\i.length+j.length<=sizeLine/\Q (.str (i++j)) H):=by
 intro pins s σ H x y v u Q I rx ry h
 obtain⟨i,j,rfl,rfl,hz,q⟩:=h
 obtain⟨t,rfl⟩:=rx
 obtain⟨t',rfl⟩:=ry
 exact add_str (λt' tk=>⟨.str (i++j),H,I.tok _,⟨_,rfl⟩,q⟩) hz
theorem dO {x:V}{us:List Value} (r:ak [x] us):∃ u,us=[u]/\al x u:=by
 cases r with
 | cons r1 r2=>cases r2;exact⟨_,rfl,r1⟩
theorem n8 {x y:V}{us:List Value} (r:ak [x,y] us):∃ u w',us=[u,w']/\al x u/\al y w':=by
 cases r with
 | cons r1 r2=>
  cases r2 with
  | cons r3 r4=>cases r4;exact⟨_,_,rfl,r1,r3⟩
theorem ju:aO X (.builtin "abs") (λxs H Q=>∃ i,xs=[.int i]/\Q (.int (if i < 0 then -i else i)) H):=by
 intro pins s σ H xs us Q I r h
 obtain⟨i,rfl,q⟩:=h
 obtain⟨u,rfl,t,rfl⟩:=dO r
 exact call_abs_int λu tk=>⟨.int (if i < 0 then -i else i),H,I.tok _,⟨_,rfl⟩,q⟩
theorem iK (hc:X.calm=true):aO X (.builtin "min") (λxs H Q=>∃ i j,xs=[.int i,.int j]/\Q (.int (if j < i then j else i)) H):=by
 intro pins s σ H xs us Q I r h
 obtain⟨i,j,rfl,q⟩:=h
 obtain⟨u,w',rfl,⟨t,rfl⟩,⟨t',rfl⟩⟩:=n8 r
 refine min_two_ints (I.ok.hd hc) λh' tk k=>⟨_,H,I.kept k,?_,q⟩
 by_cases hj:j < i
 ·rw [if_pos hj,if_pos hj];exact⟨_,rfl⟩
 ·rw [if_neg hj,if_neg hj];exact⟨_,rfl⟩
theorem eO:aO X (.type "int") (λxs H Q=>(∃ i,xs=[.int i]/\Q (.int i) H)\/∃ k,xs=[.bl k]/\Q (.int (if k then 1 else 0)) H):=by
 intro pins s σ H xs us Q I r h
 rcases h with⟨i,rfl,q⟩ | ⟨k,rfl,q⟩
 ·obtain⟨u,rfl,t,rfl⟩:=dO r
  exact call_int_int ⟨.int i,H,I,⟨_,rfl⟩,q⟩
 ·obtain⟨u,rfl,r1⟩:=dO r
  cases r1
  exact call_int_bool ⟨.int (if k then 1 else 0),H,I.tok _,⟨_,rfl⟩,q⟩
theorem gh:aO X (.type "str") (λxs H Q=>∃ i,xs=[.int i]/\i.natAbs.log2 < 1920/\Q (.str (toString i)) H):=by
 intro pins s σ H xs us Q I r h
 obtain⟨i,rfl,hz,q⟩:=h
 obtain⟨u,rfl,t,rfl⟩:=dO r
 exact PySem.P.str_of_int hz ⟨.str _,H,I.tok _,⟨_,rfl⟩,q⟩
end
end L2
namespace L2
open PySem PySem.Spec PyProof.Rows
structure mz (h:Heap) (x dx C:Addr) (mA:Str->Option Value):Prop where
 obj:h.get? x=some (PySem.W.instObj C dx)
 ns:h.Ns1 dx mA
 ne:dx≠x
theorem iQ {h:Heap}{dx:Addr}{mA:Str->Option Value} (n:h.Ns1 dx mA):∃ od,h.get? dx=some od/\∀ name,PySem.W.lookIn name od=some (mA name):=by
 obtain⟨o,es,ep,ho,hd,hk,_,hm⟩:=n
 refine⟨o,ho,λname=>?_⟩
 have e:=hm name
 unfold nsFind findBy at e
 rw [<-Array.find?_toList] at e
 unfold PySem.W.lookIn
 rw [hd]
 dsimp only
 split
 ·rename_i y q
  rw [q] at e
  exact congrArg some e
 ·rename_i q
  rw [q] at e
  have a:es.toList.any (·.refKey)=false:=by
   rw [List.any_eq_false]
   intro y hy
   obtain⟨z,t,hkey⟩:=hk y (Array.mem_toList_iff.mp hy)
   simp [DictEntry.refKey,hkey]
  have a':¬ es.toList.any (·.refKey)=true:=by rw [a];exact Bool.false_ne_true
  rw [if_neg a']
  exact congrArg some e
theorem mz.look {h:Heap}{x dx C:Addr}{mA:Str->Option Value} (I:mz h x dx C mA):∃ od,PySem.W.InstAt h x (PySem.W.instObj C dx) C (some od)/\∀ name,PySem.W.lookIn name od=some (mA name):=
 let ⟨od,ho,hl⟩:=iQ I.ns
 ⟨od,⟨I.obj,rfl,rfl,ho⟩,hl⟩
section
variable {prog:Program}{w:World}{A:Around}{E:Value->Shared->Prop}{s:Shared}{K:PySem.W.Frag}{x dx C f:Addr}{mA:Str->Option Value}{name:Str}{v:Value}
end
section
variable {P:Program}{w:World}{H H':Hp}{h h':Heap}{a C dx:Addr}{fs fs':List (Str×V)}
theorem ku (hok:HOk P w H h) (e:H a=some (.ins C dx fs)):∃ mA,mz h a dx C mA/\(∀ f,mq (fs.lookup f) (mA f))/\PySem.Within mA (fs.map (·.1))/\fs.length<=1000/\H dx=some (.own a):=by
 obtain⟨d,z,ne,ob,mA,n,r,q⟩:=(show bi P w H h a (.ins C dx fs) from hok a _ e)
 exact⟨mA,⟨ob,n,ne⟩,r,q,z,d⟩
end
structure Cls (K:PySem.W.Frag) (C:Addr):Prop where
 pg:PySem.W.plainGet K C Str.empty=true
 hd:PySem.W.hasDictIn K C=true
 po:PySem.W.plainOver K C=true
 sa:PySem.W.findIn K (.ref C) "__setattr__" = some (some (.builtin "object.__setattr__"))
theorem Cls.get {K:PySem.W.Frag}{C:Addr} (c:Cls K C) (f:Str):PySem.W.plainGet K C f=true:=c.pg
section
variable {X:Cx}{pins:List (Addr×Obj)}{σ:St}{H:Hp}{s:Shared}{a C dx:Addr}{fs:List (Str×V)}{f:Str}{v:V}{A:Around}{E:Value->Shared->Prop}
end
section
variable {X:Cx}{o e value:Expr}{f:Str}{pos pos' tpos:Pos}{ta tv:TE}
end
section
variable {X:Cx}{pins:List (Addr×Obj)}{σ:St}{H:Hp}{s:Shared}{A:Around}{E:Value->Shared->Prop}{Q:Value->Shared->Prop}{c:Value}{b:Bool}
inductive dY (K:PySem.W.Frag) (H:Hp):V->Value->Prop where
 | non:dY K H .non (.type "NoneType")
 | bl (x:Bool):dY K H (.bl x) (.type "bool")
 | int (i:Int):dY K H (.int i) (.type "int")
 | str (x:Str):dY K H (.str x) (.type "str")
 | flt (x:UInt64):dY K H (.flt x) (.type "float")
 | lst {a:Addr}{xs:List V} (e:H a=some (.lst xs)):dY K H (.ref a) (.type "list")
 | frz {a:Addr}{o:Obj}{xs:List V} (e:H a=some (.frz o (.lst xs))):dY K H (.ref a) (.type "list")
 | tup {a:Addr}{xs:List V} (e:H a=some (.tup xs)):dY K H (.ref a) (.type "tuple")
 | dK {a:Addr}{kvs:List (Key×V)} (e:H a=some (.dK kvs)):dY K H (.ref a) (.type "dict")
 | dT {a:Addr}{kvs:List (List Key×V)} (e:H a=some (.dT kvs)):dY K H (.ref a) (.type "dict")
 | ins {a C dx:Addr}{fs:List (Str×V)} (e:H a=some (.ins C dx fs)) (cl:Cls K C) (ha:PySem.W.findIn K (.ref C) "__class__" = some (some (.builtin "object.__class__")))
   (hn:PySem.W.specialIn K (.builtin "object.__class__") "__get__" = some (some (.builtin "getset_descriptor.__get__"))) (htk:PySem.W.takesIn K (.builtin "object.__class__")=some true)
   (hm:PySem.W.mroIn K C (.type "object")=some true):dY K H (.ref a) (.ref C)
theorem aY {x:V}{u t:Value} (I:Inv X pins σ H s) (rx:al x u) (ty:dY X.K H x t) (e:PySem.W.kitOne X.K t c=some b) (h:∀ tk,Q (.bool b) { s with toks:=tk }) :
  wpAny (model X.prog X.w) A (call (.builtin "isinstance") [u,c]) Q E s:=by
 cases ty with
 | non=>cases (show u=Value.none from rx);exact PySem.W.kia_one PySem.W.kitx_none I.kIn True.intro e (λz=>nomatch z) h
 | bl y=>cases (show u=Value.bool y from rx);exact PySem.W.kia_one PySem.W.kitx_bool I.kIn True.intro e (λz=>nomatch z) h
 | int i=>obtain⟨t,q⟩:=(show ∃ t,u=Value.int i t from rx);cases q;exact PySem.W.kia_one PySem.W.kitx_int I.kIn True.intro e (λz=>nomatch z) h
 | str y=>obtain⟨t,q⟩:=(show ∃ t,u=Value.str y t from rx);cases q;exact PySem.W.kia_one PySem.W.kitx_str I.kIn True.intro e (λz=>nomatch z) h
 | flt y=>obtain⟨t,q⟩:=(show ∃ t,u=Value.float y t from rx);cases q;exact PySem.W.kia_one PySem.W.kitx_float I.kIn True.intro e (λz=>nomatch z) h
 | @lst a xs ea=>
  cases (show u=Value.ref a from rx)
  obtain⟨_,_,n,_,h1⟩:=(show bi X.prog X.w H s.heap a (.lst xs) from I.hok a _ ea)
  exact PySem.W.kia_one PySem.W.kitx_list I.kIn ⟨_,h1,rfl⟩ e (λz=>nomatch z) h
 | @frz a ob xs ea=>
  cases (show u=Value.ref a from rx)
  obtain⟨_,_,_,n,_,h1⟩:=(show bi X.prog X.w H s.heap a (.frz ob (.lst xs)) from I.hok a _ ea)
  exact PySem.W.kia_one PySem.W.kitx_list I.kIn ⟨_,h1,rfl⟩ e (λz=>nomatch z) h
 | @tup a xs ea=>
  cases (show u=Value.ref a from rx)
  obtain⟨_,_,_,p⟩:=(show bi X.prog X.w H s.heap a (.tup xs) from I.hok a _ ea)
  obtain⟨o,h1,h2,_⟩:=p
  exact PySem.W.kia_one PySem.W.kitx_tuple I.kIn ⟨o,h1,h2⟩ e (λz=>nomatch z) h
 | @dK a kvs ea=>
  cases (show u=Value.ref a from rx)
  obtain⟨_,_,vs,_,p⟩:=(show bi X.prog X.w H s.heap a (.dK kvs) from I.hok a _ ea)
  obtain⟨o,es,ep,h1,h2,_⟩:=p
  exact PySem.W.kia_one PySem.W.kitx_dict I.kIn ⟨o,h1,h2.1⟩ e (λz=>nomatch z) h
 | @dT a kvs ea=>
  cases (show u=Value.ref a from rx)
  obtain⟨_,_,xs,_,o,es,ep,h1,h2,_⟩:=(show bi X.prog X.w H s.heap a (.dT kvs) from I.hok a _ ea)
  exact PySem.W.kia_one PySem.W.kitx_dict I.kIn ⟨o,h1,h2.1⟩ e (λz=>nomatch z) h
 | @ins a C dx fs ea cl ha hn htk hm=>
  cases (show u=Value.ref a from rx)
  obtain⟨mA,O,_⟩:=ku I.hok ea
  obtain⟨od,J,_⟩:=O.look
  exact PySem.W.kia_one (PySem.W.kitx_own (cl.get _) cl.hd ha hn htk hm) I.kIn J e (λz=>nomatch z) h
end
end L2
namespace L2
open PySem PySem.Spec PyProof.Rows
structure bj (k:Nat) (A:Around):Prop where
 hd:A.handled=none
 dp:A.depth+3*k+5 < recursionLimit
 un:A.units+16*k+200 < cLine
 gd:A.guards=some []
theorem bj.mono {j k:Nat}{A:Around} (r:bj k A) (h:j<=k):bj j A:=⟨r.hd,by have:=r.dp;lia,by have:=r.un;lia,r.gd⟩
theorem bj.deeper {k:Nat}{A:Around} (r:bj (k+1) A) (env:Env):bj k (A.deeper env):=
 ⟨r.hd,by have:=r.dp;show A.depth+1+3*k+5 < _;lia,by have:=r.un;show A.units+3+16*k+200 < _;lia,r.gd⟩
theorem bj.depth {k:Nat}{A:Around} (r:bj k A):A.depth < recursionLimit:=by have:=r.dp;lia
theorem bj.units {k:Nat}{A:Around} (r:bj k A):A.units+64 < cLine:=by have:=r.un;lia
theorem bj.units0 {k:Nat}{A:Around} (r:bj k A):A.units < cLine:=by have:=r.un;lia
noncomputable def om:TA:=λ_ H Q=>Q [] H
noncomputable def nj (ta:TE) (tr:TA):TA:=λσ H Q=>ta σ H λx H1=>tr σ H1 λxs H2=>Q (x::xs) H2
section
variable {X:Cx}{e:Expr}{es:List Expr}{te:TE}{t:TA}{pos:Pos}
theorem lA:PA X [] om:=λ_ _ _ _ H Q I h=>Calls.spliced_nil ⟨[],H,I,.nil,h⟩
theorem ki (ha:PE X e te) (hr:PA X es t) (hs:starEach (e::es) X.env=(false,eval e X.env)::starEach es X.env:=by rfl):PA X (e::es) (nj te t):=by
 intro pos pins s σ H Q I h
 rw [hs]
 show wpAny _ _ (spliced ((false,eval e X.env)::backTo pos (starEach es X.env))) _ _ s
 refine Calls.spliced_cons (thn (ha pins s σ H _ I h) λu s1 ⟨x,H1,I1,r1,q1⟩=>?_)
 exact thn (hr pos pins s1 σ H1 _ I1 q1) λus s2 ⟨xs,H2,I2,r2,q2⟩=>⟨x::xs,H2,I2,.cons r1 r2,q2⟩
noncomputable def oJ (t:TA):TE:=λσ H Q=>t σ H λxs H1=>xs.length<=sizeLine/\∀ p,H1 p=none->Q (.ref p) (upd H1 p (.tup xs))
noncomputable def oC (t:TA):TE:=λσ H Q=>t σ H λxs H1=>xs.length<=sizeLine/\∀ p,H1 p=none->Q (.ref p) (upd H1 p (.lst xs))
theorem mI {x1} (h:PA X es t):PE X (.Tuple es x1 pos) (oJ t):=by
 intro pins s σ H Q I hq
 refine wpAny_Tuple_spliced (thn (h pos pins s σ H _ I hq) λus s1 ⟨xs,H1,I1,r,z,q⟩=>⟨by rw [<-r.length];exact z,?_⟩)
 have hf:H1 s1.heap.objs.size=none:=I1.hok.fresh (Nat.le_refl _)
 refine⟨.ref s1.heap.objs.size,upd H1 s1.heap.objs.size (.tup xs),I1.laid (t':=s1.toks) (λb u e=>Heap.get?_push_of_some _ e) (Nat.le_refl _) ?_,rfl,q _ hf⟩
 exact⟨z,us,r,cH.new _ _⟩
theorem lB (h:PA X es t):PE X (.List es pos) (oC t):=by
 intro pins s σ H Q I hq
 refine wpAny_List_spliced (thn (h pos pins s σ H _ I hq) λus s1 ⟨xs,H1,I1,r,z,q⟩=>⟨by rw [<-r.length];exact z,?_⟩)
 have hf:H1 s1.heap.objs.size=none:=I1.hok.fresh (Nat.le_refl _)
 refine⟨.ref s1.heap.objs.size,upd H1 s1.heap.objs.size (.lst xs),I1.laid (t':=s1.toks) (λb u e=>Heap.get?_push_of_some _ e) (Nat.le_refl _) ?_,rfl,q _ hf⟩
 exact⟨z,us,0,r,Heap.get?_push_size _ rfl⟩
end
abbrev Sp:=List V->Hp->VK->XK->Prop
abbrev CXT:=List Env->Hp->Shared->XK->Value->Shared->Prop
structure kc (P:Program) (w:World) (K:PySem.W.Frag) (mg:Str->Option Value) (base:Heap) (A:Around) (outer:List Env) (s:Shared) (H:Hp):Prop where
 frames:A.frames=some outer
 mod:Mod K mg base
 bs:∀ b o,base.get? b=some o->s.heap.get? b=some o/\H b=none
 bsz:base.objs.size<=s.heap.objs.size
 funs:s.heap.FunFrames base outer
 frf:∀ b ∈ frs outer,H b=none
 hok:HOk P w H s.heap
 bare:AllBare s.gens
noncomputable def CE (outer:List Env) (P:Program) (w:World) (H:Hp) (s:Shared) (Q:VK) (u:Value) (s':Shared):Prop:=
 ∃ v H',s'.os=s.os/\AllBare s'.gens/\Un (frs outer) [] H H' s.heap s'.heap/\HOk P w H' s'.heap/\al v u/\Q v H'
noncomputable def CR (CX:CXT) (outer:List Env) (P:Program) (w:World) (H:Hp) (s:Shared) (Q:VK) (E:XK) (r:Result) (s':Shared):Prop:=
 match r with
 | .ok (.ret u)=>CE outer P w H s Q u s'
 | .ok _=>False
 | .error e=>CX outer H s E e s'
structure bD (P:Program) (w:World) (K:PySem.W.Frag) (mg:Str->Option Value) (base:Heap) (CX:CXT) (k:Nat) (f:Addr) (fd:FuncData) (ps:List Str) (sp:Sp):Prop where
 len:∀ vs H Q E,sp vs H Q E->vs.length=ps.length
 run:∀ (A:Around) (outer:List Env) (s:Shared) (H:Hp) (args:Args) (us:List Value) (vs:List V) (Q:VK) (E:XK),bj k A->kc P w K mg base A outer s H->BindsTo s fd args (ps.zip us)->ak vs us->sp vs H Q E->
  codeAny (model P w) A (.call (.ref f) args) (CR CX outer P w H s Q E) s
theorem bD.mono {P:Program}{w:World}{K:PySem.W.Frag}{mg:Str->Option Value}{base:Heap}{CX:CXT}{j k:Nat}{f:Addr}{fd:FuncData}{ps:List Str}{sp:Sp} (F:bD P w K mg base CX j f fd ps sp) (h:j<=k) :
  bD P w K mg base CX k f fd ps sp:=⟨F.len,λA outer s H args us vs Q E hr=>F.run A outer s H args us vs Q E (hr.mono h)⟩
section
variable {X:Cx}{pins:List (Addr×Obj)}{σ:St}{H:Hp}{s s':Shared}
theorem Inv.env0 (I:Inv X pins σ H s):kc X.prog X.w X.K X.mg X.base X.A X.stack s H:=
 ⟨I.ok.frames,I.ok.mod,I.bs,Nat.le_trans I.ok.bsz I.sz,I.stack,I.stkFree,I.hok,I.bare⟩
theorem Inv.after {Q:VK}{u:Value} (I:Inv X pins σ H s) (h:CE X.stack X.prog X.w H s Q u s'):EP X pins σ Q u s':=by
 obtain⟨v,H',os,bare,un,hok,r,q⟩:=h
 obtain⟨hh,g,d,t,os'⟩:=s'
 obtain rfl:os'=s.os:=os
 exact⟨v,H',I.call (h':=hh) (g':=g) (d':=d) (t':=t) (ch:=[]) un hok bare (λb z=>absurd z (by simp)),r,q⟩
end
noncomputable def nP (sp:Sp) (dvs:List V) (E:XK) (t:TA):TE:=λσ H Q=>t σ H λvs H1=>sp (vs++dvs) H1 Q E
noncomputable def bq (K:PySem.W.Frag) (fd:FuncData) (ps:List Str) (ds:List Value):Prop:=
 ∀ (s:Shared) (us:List Value),K.In s.heap->(us++ds).length=ps.length->BindsTo s fd ⟨us,[]⟩ (ps.zip (us++ds))
theorem bq.all {K:PySem.W.Frag}{fd:FuncData}{ps:List Str} (h:∀ us:List Value,us.length=ps.length->bindArgs fd ⟨us,[]⟩=pure (ps.zip us)):bq K fd ps []:=λs us _ hl=>by
 rw [List.append_nil] at hl ⊢
 exact .of_eq (h us hl)
noncomputable def gS (CX:CXT) (X:Cx) (E:XK):Prop:=∀ (pins:List (Addr×Obj)) (σ:St) (H:Hp) (s:Shared) (e:Value) (s':Shared),Inv X pins σ H s->CX X.stack H s E e s'->X.xe e s'
section
variable {X:Cx}{CX:CXT}{k:Nat}{f C:Addr}{fd:FuncData}{ps:List Str}{sp:Sp}{dvs:List V}{ds:List Value}{E:XK}{x m:Str}{p pos apos:Pos}{e o:Expr}{es:List Expr}{ta:TE}{t:TA}
theorem mv {pins:List (Addr×Obj)}{σ:St}{H:Hp}{s:Shared}{Q:VK}{us:List Value}{vs:List V} (F:bD X.prog X.w X.K X.mg X.base CX k f fd ps sp) (hr:bj k X.A) (hb:bq X.K fd ps ds) (hd:ak dvs ds) (hx:gS CX X E)
  (I:Inv X pins σ H s) (r:ak vs us) (h:sp (vs++dvs) H Q E):wpAny (model X.prog X.w) X.A (call (.ref f) us) (EP X pins σ Q) X.xe s:=by
 have r2:ak (vs++dvs) (us++ds):=r.append hd
 have hl:(us++ds).length=ps.length:=by rw [<-r2.length];exact F.len _ _ _ _ h
 refine wpAny_call (codeAny_mono (F.run X.A X.stack s H ⟨us,[]⟩ (us++ds) (vs++dvs) Q E hr I.env0 (hb s us I.kIn hl) r2 h) λr s' hq=>?_)
 cases r with
 | error e=>exact hx pins σ H s e s' I hq
 | ok fl=>
  cases fl with
  | ret u=>exact I.after hq
  | next=>exact False.elim hq
  | brk=>exact False.elim hq
  | cont=>exact False.elim hq
theorem kl (F:bD X.prog X.w X.K X.mg X.base CX k f fd ps sp) (hr:bj k X.A) (hg:Gl X x) (hm:X.mg x=some (.ref f)) (hk:PySem.W.keepIn X.K (.ref f)=true) (hb:bq X.K fd ps ds) (hd:ak dvs ds) (hx:gS CX X E)
  (ha:PA X (e::es) t) (hdb:(x==("__debug__" : Str))=false:=by decide) (he:starEach (e::es) X.env=(false,eval e X.env)::starEach es X.env:=by rfl) (hpl:(backTo pos (starEach es X.env)).any (·.1)=false:=by rfl) :
  PE X (.Call (.Name x p) (e::es) [] pos) (nP sp dvs E t):=by
 intro pins s σ H Q I h
 refine wpAny_Call_Name_kw (ig I hg hm ?_ hdb)
 refine PySem.W.callWith_K (h₀:=X.base) I.ok.mod.kin hk (thn (ha pos pins s σ H _ I h) λus s1 ⟨vs,H1,I1,r,q⟩=>⟨I1.kIn,?_⟩) he hpl
 exact mv F hr hb hd hx I1 r q
end
section
variable {X:Cx}{CX:CXT}{k:Nat}{f C:Addr}{fd:FuncData}{ps ks:List Str}{sp:Sp}{E:XK}{x m:Str}{p pos apos kpos:Pos}{e o:Expr}{es:List Expr}{kws:List Keyword}{te ta:TE}{t tk:TA}{nm:Option Str}
variable {g:List Value->List Value->List Value}{gV:List V->List V->List V}
end
structure aH (N P:List Str) (sc:Scope):Prop where
 kind:sc.kind=.function
 co:sc.isCoroutine=false
 gen:sc.isGenerator=false
 nd:N.Nodup
 pre:N.take P.length=P
 par:∀ x ∈ P,sc.names.lookup x=some .local\/sc.names.lookup x=some .cell
 nofree:∀ y ∈ sc.names,y.2≠.free
theorem eZ {kindOf:Str->Option NameKind}{x:Str}:∀ {binds:List (Str×Value)}{m:Str->Option Value},(∀ v,(x,v) ∉ binds)->bindL kindOf binds m x=m x
 | [],_,_=>rfl
 | (n,v)::r,m,h=>by
  unfold bindL
  rw [eZ λw hw=>h w (List.mem_cons_of_mem _ hw)]
  split
  ·have:x≠n:=by rintro rfl;exact h v List.mem_cons_self
   simp [this]
  ·rfl
theorem eU {kindOf:Str->Option NameKind}{x:Str}:∀ {binds:List (Str×Value)}{m:Str->Option Value},(∀ v,(x,v) ∉ binds)->bindC kindOf binds m x=m x
 | [],_,_=>rfl
 | (n,v)::r,m,h=>by
  unfold bindC
  rw [eU λw hw=>h w (List.mem_cons_of_mem _ hw)]
  split
  ·rfl
  ·have:x≠n:=by rintro rfl;exact h v List.mem_cons_self
   simp [this]
theorem e7 {kindOf:Str->Option NameKind}{x:Str}{v:Value}:∀ {P:List Str}{vs:List Value}{i:Nat}{m:Str->Option Value},P.Nodup->P[i]?=some x->vs[i]?=some v->kindOf x=some .local->
  bindL kindOf (P.zip vs) m x=some v
 | [],_,_,_,_,h,_,_=>by simp at h
 | _::_,[],_,_,_,_,h,_=>by simp at h
 | p::P,w::vs,0,m,nd,h1,h2,hk=>by
  simp at h1 h2;subst h1;subst h2
  show bindL kindOf ((p,w)::P.zip vs) m p=_
  unfold bindL
  rw [eZ λv hv=>(List.nodup_cons.mp nd).1 (List.of_mem_zip hv).1,if_pos hk]
  simp
 | p::P,w::vs,i+1,m,nd,h1,h2,hk=>by
  show bindL kindOf ((p,w)::P.zip vs) m x=_
  unfold bindL
  exact e7 (i:=i) (List.nodup_cons.mp nd).2 (by simpa using h1) (by simpa using h2) hk
theorem eQ {kindOf:Str->Option NameKind}{x:Str}{v:Value}:∀ {P:List Str}{vs:List Value}{i:Nat}{m:Str->Option Value},P.Nodup->P[i]?=some x->vs[i]?=some v->kindOf x≠some .local->
  bindC kindOf (P.zip vs) m x=some v
 | [],_,_,_,_,h,_,_=>by simp at h
 | _::_,[],_,_,_,_,h,_=>by simp at h
 | p::P,w::vs,0,m,nd,h1,h2,hk=>by
  simp at h1 h2;subst h1;subst h2
  show bindC kindOf ((p,w)::P.zip vs) m p=_
  unfold bindC
  rw [eU λv hv=>(List.nodup_cons.mp nd).1 (List.of_mem_zip hv).1,if_neg hk]
  simp
 | p::P,w::vs,i+1,m,nd,h1,h2,hk=>by
  show bindC kindOf ((p,w)::P.zip vs) m x=_
  unfold bindC
  exact eQ (i:=i) (List.nodup_cons.mp nd).2 (by simpa using h1) (by simpa using h2) hk
noncomputable def cO (N:List Str) (vs:List V):St:=vs.map some++List.replicate (N.length - vs.length) none
noncomputable def gf (CX:CXT) (P:Program) (w:World) (K:PySem.W.Frag) (mg:Str->Option Value) (base:Heap) (N:List Str) (qual:Str) (scope:Scope) (f:Addr) (cd:Value) (A:Around) (outer:List Env) (s:Shared) (H:Hp) (E:XK):Cx where
 prog:=P
 w:=w
 K:=K
 mg:=mg
 base:=base
 A:=A.deeper (envOfC qual scope s.heap.objs.size f cd)
 N:=N
 s₀:=s
 H₀:=H
 env:=envOfC qual scope s.heap.objs.size f cd
 outer:=outer
 stack:=envOfC qual scope s.heap.objs.size f cd::outer
 ex:=[]
 calm:=true
 fn:=λ_=>true
 pn:=[]
 xe:=λe s'=>wpAny (model P w) (A.deeper (envOfC qual scope s.heap.objs.size f cd)) (leaving (envOfC qual scope s.heap.objs.size f cd) e) (λ_ s''=>CX outer H s E e s'') (λe' s''=>CX outer H s E e' s'') s'
theorem gl {sc:Scope}{n:Nat}{x:Str} (h:sc.names.lookup x=some .cell):∃ c,(cellsFrom n sc.names []).lookup x=some c:=by
 have q:=PySem.W.cellsFrom_some sc.names n [] (.inl h)
 exact Option.isSome_iff_exists.mp q
theorem iP {CX:CXT}{P:Program}{w:World}{K:PySem.W.Frag}{mg:Str->Option Value}{base:Heap}{N ps:List Str}{qual:Str}{scope:Scope}{f:Addr}{cd:Value}{A:Around}{outer:List Env}{s s1:Shared}{H:Hp}{E:XK}{us:List Value}{vs:List V}
  (S:aH N ps scope) (hd:A.handled=none) (e0:kc P w K mg base A outer s H) (hl:vs.length=ps.length) (r:ak vs us)
  (x:InCallC s s.heap.objs.size (bindL (envOfC qual scope s.heap.objs.size f cd).kindOf (ps.zip us) λ_=>none) (cellsFrom (s.heap.objs.size+1) scope.names []) (bindC (envOfC qual scope s.heap.objs.size f cd).kindOf (ps.zip us) λ_=>none) s1) :
  Inv (gf CX P w K mg base N qual scope f cd A outer s H E) [] (cO N vs) H s1:=by
 have hpl:ps.length<=N.length:=by have:=congrArg List.length S.pre;rw [List.length_take] at this;lia
 obtain⟨h1,tk,rfl,hk⟩:=x.done
 have noA:∀ b:Addr,b ∉ (gf CX P w K mg base N qual scope f cd A outer s H E).ex:=λb z=>absurd (show b ∈ ([]:List Addr) from z) (by simp)
 refine⟨⟨e0.mod,S.kind,rfl,rfl,Nat.le_refl _,λy z c h1 h2=>?_,λy hy=>?_,λy c _ h=>?_,λ_=>hd,Around.frames_deeper e0.frames,.inr ⟨rfl,rfl⟩,λb z=>absurd z (noA b),e0.bs,e0.bsz,λb _ _=>noA b,λb z=>absurd z (noA b),e0.funs,e0.frf⟩,
  rfl,e0.bare,Un.kept hk,⟨_,x.toInCall.ns,λi y v h1 h2 h3=>?_⟩,λy c h=>⟨_,x.cell y c h⟩,e0.hok.fresh (Nat.le_refl _),λy c h=>?_,λp hp=>absurd (show p ∈ ([]:List (Addr×Obj)) from hp) (by simp),e0.hok.kept hk,?_⟩
 ·exact name_of_addr x.apart (PySem.mem_of_lookup h1) (PySem.mem_of_lookup h2)
 ·have hy:scope.names.lookup y=some .cell\/scope.names.lookup y=some .free:=hy
  rcases hy with hy | hy
  ·exact gl hy
  ·exact absurd rfl (S.nofree _ (PySem.mem_of_lookup hy))
 ·exact Nat.le_of_lt (x.above y c (PySem.mem_of_lookup h))
 ·have hi:i < vs.length:=by
   unfold cO at h2
   by_cases hi:i < vs.length
   ·exact hi
   ·rw [List.getElem?_append_right (by simpa using hi)] at h2
    rw [List.getElem?_replicate] at h2
    split at h2<;>cases h2
  have ha:vs[i]?=some v:=by
   unfold cO at h2
   rw [List.getElem?_append_left (by simpa using hi),List.getElem?_map] at h2
   cases e:vs[i]? with
   | none=>rw [e] at h2;cases h2
   | some a=>rw [e] at h2;cases h2;rfl
  obtain⟨u,hu,rv⟩:=r.get ha
  have hp:ps[i]?=some y:=by
   rw [<-S.pre,List.getElem?_take_of_lt (by lia)];exact h1
  have ndP:ps.Nodup:=by rw [<-S.pre];exact S.nd.sublist (List.take_sublist _ _)
  refine⟨u,rv,?_⟩
  rcases S.par y (List.mem_of_getElem? hp) with k | k
  ·exact .inl ⟨k,e7 ndP hp hu k⟩
  ·obtain⟨c,e⟩:=gl (n:=s.heap.objs.size+1) k
   refine .inr ⟨.inl k,c,e,?_⟩
   have q:=x.cell y c e
   rw [eQ ndP hp hu (by show scope.names.lookup y≠_;rw [k];decide)] at q
   exact q
 ·exact e0.hok.fresh (Nat.le_of_lt (x.above y c (PySem.mem_of_lookup h)))
 ·unfold cO
  show _=N.length
  rw [List.length_append,List.length_map,List.length_replicate]
  lia
theorem oh {CX:CXT}{P:Program}{w:World}{K:PySem.W.Frag}{mg:Str->Option Value}{base:Heap}{k:Nat}{f:Addr}{name qual:Str}{params:Arguments}{body:List Stmt}{scope:Scope}{dV kV doc pm cdv ct oc:Value}{an od:Option Addr}
  {osl:Array (Option Value)}{N ps:List Str}{sp:Sp} (lk:K.lookup f=some ⟨oc,od,.func (PySem.W.fnOf name qual params body scope dV kV doc pm an cdv ct),osl⟩) (hcd:PySem.W.codeIn K cdv qual=true) (S:aH N ps scope)
  (len:∀ vs H Q E,sp vs H Q E->vs.length=ps.length)
  (hbody:∀ (A:Around) (outer:List Env) (s:Shared) (H:Hp) (vs:List V) (Q:VK) (E:XK),bj k (A.deeper (envOfC qual scope s.heap.objs.size f cdv))->sp vs H Q E->
    ∃ t,PSs (gf CX P w K mg base N qual scope f cdv A outer s H E) body t/\t { nx:=λ_ H'=>Q .non H',rt:=Q } (cO N vs) H) :
  bD P w K mg base CX (k+1) f (PySem.W.fnOf name qual params body scope dV kV doc pm an cdv ct) ps sp:=by
 refine⟨len,λA outer s H args us vs Q E hr e0 hb r hsp=>?_⟩
 have hl:=len _ _ _ _ hsp
 have KX:K.In s.heap:=e0.mod.kin.keeps λb o e=>(e0.bs b o e).1
 have lim:s.heap.NoLimit:=e0.mod.nolimit.keeps λb o e=>(e0.bs b o e).1
 have hkind:∀ y ∈ ps.zip us,scope.names.lookup y.1=some .local\/(scope.names.lookup y.1=some .cell/\((cellsFrom (s.heap.objs.size+1) scope.names []).lookup y.1).isSome=true):=λ⟨n,v⟩ hy=>by
  rcases S.par n (List.of_mem_zip hy).1 with q | q
  ·exact .inl q
  ·exact .inr ⟨q,PySem.W.cellsFrom_some _ _ _ (.inl q)⟩
 refine codeAny_call_function hr.depth (KX _ _ lk) rfl S.co S.gen rfl (PySem.W.codeRec_of KX hcd) (hb _ _ _ _ ?_)
 refine wpAny_newFunctionEnv_cells S.kind hkind λenv he s1 x=>?_
 subst he
 refine⟨lim.keeps x.toInCall.keep,codeAny_func ?_⟩
 obtain⟨t,ht,hq⟩:=hbody A outer s H vs Q E (hr.deeper _) hsp
 have I:Inv (gf CX P w K mg base N qual scope f cdv A outer s H E) [] (cO N vs) H s1:=iP S hr.hd e0 hl r x
 refine wpAny_mono (ht [] s1 (cO N vs) H _ I hq) (λfl s' hs=>?_) λe s' hs=>hs
 have fin:∀ {σ':St}{H':Hp}{v:V}{u:Value},Inv (gf CX P w K mg base N qual scope f cdv A outer s H E) [] σ' H' s'->al v u->Q v H'->CE outer P w H s Q u s':=
  λ{σ' H' v u} J rv q=>⟨v,H',J.os,J.bare,J.base,J.hok,rv,q⟩
 cases fl with
 | ret u=>
  obtain⟨v,σ',H',J,rv,q⟩:=hs
  exact fin J rv q
 | next=>
  obtain⟨σ',H',J,q⟩:=hs
  exact fin (v:=V.non) (u:=Value.none) J rfl q
 | brk=>
  obtain⟨_,_,_,q⟩:=hs
  exact False.elim q
 | cont=>
  obtain⟨_,_,_,q⟩:=hs
  exact False.elim q
end L2
namespace L2
open PySem PySem.Spec PyProof.Rows
section
variable {X:Cx}{x:Str}{p pos:Pos}{e:Expr}{es:List Expr}{t:TA}{id T:String}{r:List V->Hp->VK->Prop}
noncomputable def tCB (r:List V->Hp->VK->Prop) (t:TA):TE:=λσ H Q=>t σ H λvs H1=>r vs H1 Q
theorem jz (hc:aO X (.builtin id) r) (hg:Gl X x) (hm:X.mg x=none) (hv:bootBuiltins x=some (.builtin id)) (ha:PA X (e::es) t) (hn:x≠"__name__":=by decide) (hdb:(x==("__debug__" : Str))=false:=by decide)
  (he:starEach (e::es) X.env=(false,eval e X.env)::starEach es X.env:=by rfl) (hpl:(backTo pos (starEach es X.env)).any (·.1)=false:=by rfl):PE X (.Call (.Name x p) (e::es) [] pos) (tCB r t):=by
 intro pins s σ H Q I h
 refine wpAny_Call_Name_kw (gc I hg hm hv ?_ hn hdb)
 exact PyProof.Rows.callWith_builtin1 (thn (ha pos pins s σ H _ I h) λus s1 ⟨vs,H1,I1,r1,q1⟩=>hc pins s1 σ H1 vs us Q I1 r1 q1) he hpl
theorem iZ (hc:aO X (.type T) r) (hg:Gl X x) (hm:X.mg x=none) (hv:bootBuiltins x=some (.type T)) (ha:PA X (e::es) t) (hn:x≠"__name__":=by decide) (hdb:(x==("__debug__" : Str))=false:=by decide)
  (he:starEach (e::es) X.env=(false,eval e X.env)::starEach es X.env:=by rfl) (hpl:(backTo pos (starEach es X.env)).any (·.1)=false:=by rfl):PE X (.Call (.Name x p) (e::es) [] pos) (tCB r t):=by
 intro pins s σ H Q I h
 refine wpAny_Call_Name_kw (gc I hg hm hv ?_ hn hdb)
 exact PyProof.Rows.callWith_type1 (thn (ha pos pins s σ H _ I h) λus s1 ⟨vs,H1,I1,r1,q1⟩=>hc pins s1 σ H1 vs us Q I1 r1 q1) he hpl
end
end L2
namespace HT
open PySem PyProof.Rows
section
open PySem.SeqAt
open PySem.AutoSeq1 (wpAny_loadPart')
open PySem.MeetsSeq PySem.MeetsSeq2 PySem.MeetsSeq3
end
section
variable {prog:Program}{w:World}{A:Around}{E:Value->Shared->Prop}{s:Shared}
theorem cat_tup {t b:Addr}{vs ws:List Value}{Q:Value->Shared->Prop} (ht:IsTup s.heap t vs.toArray) (hb:IsTup s.heap b ws.toArray) (hv:vs≠[])
  (h1:ws=[]->Q (.ref t) s) (h2:ws≠[]->Q (.ref s.heap.objs.size) { s with heap:=s.heap.push { cls:=.type "tuple",data:=.seq (vs++ws).toArray } })
  (hsz:vs.length+ws.length<=sizeLine):wpAny (model prog w) A (binaryOp .Add (.ref t) (.ref b)) Q E s:=by
 obtain⟨⟨cls,dd,data,sl⟩,ho,hc,n,hd⟩:=id ht
 obtain⟨⟨cls2,dd2,data2,sl2⟩,ho2,hc2,n2,hd2⟩:=id hb
 simp only at hc hd hc2 hd2
 subst hc hd hc2 hd2
 have e:vs.toArray++ws.toArray=(vs++ws).toArray:=by simp
 by_cases hw:ws=[]
 ·exact concat_meets ⟨_,ho,rfl⟩ ⟨_,ho2,rfl⟩ noFill_tuple_add seq_tuple_add PySem.F.slot_tuple_add PySem.F.entry_tuple_add (PySem.F.args_tuple_add_2 _ _)
   (tuple_addW1 t b vs.toArray ws.toArray n n2 dd dd2 sl sl2 (by simpa using hv) (by simp [hw])) ⟨ho,ho2,h1 hw⟩
 ·refine concat_meets ⟨_,ho,rfl⟩ ⟨_,ho2,rfl⟩ noFill_tuple_add seq_tuple_add PySem.F.slot_tuple_add PySem.F.entry_tuple_add (PySem.F.args_tuple_add_2 _ _)
   (tuple_addW2 t b vs.toArray ws.toArray n n2 dd dd2 sl sl2 (by simpa using hv) (by simpa using hw) (by rw [List.size_toArray,List.size_toArray];exact hsz)) ⟨ho,ho2,?_⟩
  rw [e]
  exact h2 hw
end
end HT
namespace L2
open PySem PySem.Spec PyProof.Rows
section
variable {X:Cx}{e:Expr}{te:TE}{lo hi:Option Expr}{tl th:TO}{pos p2:Pos}
noncomputable def nT (K:PySem.W.Frag):R2:=λx y H Q=>∃ a b xs ys,x=.ref a/\y=.ref b/\SqT K H a xs/\SqT K H b ys/\xs≠[]/\xs.length+ys.length<=sizeLine/\
 (ys=[]->Q (.ref a) H)/\(ys≠[]->∀ p,H p=none->Q (.ref p) (upd H p (.tup (xs++ys))))
theorem ak.nil_iff {xs:List V}{us:List Value} (r:ak xs us):us=[]↔xs=[]:=by
 cases r with
 | nil=>simp
 | cons _ _=>simp
theorem lc:OpR X (binaryOp .Add) (nT X.K):=by
 intro pins s σ H x y v u Q I rx ry h
 obtain⟨a,b,xs,ys,rfl,rfl,ha,hb,hx,hz,q1,q2⟩:=h
 cases rx
 cases ry
 obtain⟨its,r1,p1,_⟩:=I.tuple ha
 obtain⟨its2,r2,p2,_⟩:=I.tuple hb
 refine HT.cat_tup p1 p2 (λz=>hx (r1.nil_iff.mp z)) (λz=>⟨.ref a,H,I,rfl,q1 (r2.nil_iff.mp z)⟩) (λz=>?_) (by rw [<-r1.length,<-r2.length];exact hz)
 refine⟨.ref s.heap.objs.size,_,I.laid (t':=s.toks) (o:=.tup (xs++ys)) (λb ob q=>Heap.get?_push_of_some _ q) (Nat.le_refl _) ?_,rfl,q2 (λw=>z (r2.nil_iff.mpr w)) _ (I.hok.fresh (Nat.le_refl _))⟩
 exact⟨by rw [List.length_append];exact hz,_,r1.append r2,cH.new _ _⟩
end
end L2
namespace L2
open PySem PySem.Spec PyProof.Rows
noncomputable def ixN (n:Nat) (i:Int):Option Nat:=if 0<=i then (if i < n then some i.toNat else none) else if -(n:Int)<=i then some (i+n).toNat else none
noncomputable def atI {α:Type} (xs:List α) (i:Int):Option α:=(ixN xs.length i).bind λj=>xs[j]?
theorem ij {n:Nat}{i:Int}{j:Nat} (h:ixN n i=some j):seqIndex? i n=some j/\j < n/\-(n:Int)<=i/\i < n:=by
 unfold ixN at h
 by_cases h0:0<=i
 ·rw [if_pos h0] at h
  by_cases h1:i < n
  ·rw [if_pos h1] at h
   have e:i.toNat=j:=Option.some.inj h
   exact⟨by rw [seqIndex_of h0 h1,e],by lia,by lia,h1⟩
  ·rw [if_neg h1] at h;cases h
 ·rw [if_neg h0] at h
  by_cases h1:-(n:Int)<=i
  ·rw [if_pos h1] at h
   have e:(i+n).toNat=j:=Option.some.inj h
   exact⟨by rw [seqIndex_neg (by lia) h1,e],by lia,h1,by lia⟩
  ·rw [if_neg h1] at h;cases h
theorem fg {α:Type}{xs:List α}{i:Int}{v:α} (h:atI xs i=some v):∃ j,seqIndex? i xs.length=some j/\xs[j]?=some v/\j < xs.length/\-(xs.length:Int)<=i/\i < xs.length:=by
 unfold atI at h
 cases e:ixN xs.length i with
 | none=>rw [e] at h;cases h
 | some j=>
  rw [e] at h
  obtain⟨h1,h2,h3,h4⟩:=ij e
  exact⟨j,h1,h,h2,h3,h4⟩
theorem dr {α:Type}{xs:List α}{j:Nat}{v:α} (h:xs[j]?=some v):atI xs (j:Int)=some v:=by
 have hj:j < xs.length:=(List.getElem?_eq_some_iff.mp h).1
 have e:ixN xs.length (j:Int)=some j:=by
  unfold ixN
  rw [if_pos (by lia),if_pos (by lia)];simp
 unfold atI;rw [e];exact h
noncomputable def iz (b:Expr):Prop:=∀ o i,subscripted b false o i=operate [o,i] (getItem o i)
noncomputable def IxR (X:Cx) (r:R2):Prop:=
 ∀ (value slice:Expr) (pins:List (Addr×Obj)) (s:Shared) (σ:St) (H:Hp) (x y:V) (v u:Value) (Q:VK),Inv X pins σ H s->al x v->al y u->r x y H Q->
  subscripted slice false v u=operate [v,u] (getItem v u)->wpAny (model X.prog X.w) X.A (subscriptTail value slice v u) (EP X pins σ Q) X.xe s
noncomputable def MtR (X:Cx) (id:String) (r:V->List V->Hp->VK->Prop):Prop:=
 ∀ (pins:List (Addr×Obj)) (s:Shared) (σ:St) (H:Hp) (x:V) (xs:List V) (v:Value) (us:List Value) (Q:VK),Inv X pins σ H s->al x v->ak xs us->r x xs H Q->
  wpAny (model X.prog X.w) X.A (call (.builtin id) (v::us)) (EP X pins σ Q) X.xe s
section
variable {X:Cx}{a b:Expr}{ta tb:TE}{pos:Pos}
theorem IxR.or {r r':R2} (h:IxR X r) (h':IxR X r'):IxR X (λx y H Q=>r x y H Q\/r' x y H Q):=by
 intro value slice pins s σ H x y v u Q I rx ry q hs
 rcases q with q | q
 ·exact h value slice pins s σ H x y v u Q I rx ry q hs
 ·exact h' value slice pins s σ H x y v u Q I rx ry q hs
theorem ol {r:R2} (hr:IxR X r) (ha:PE X a ta) (hb:PE X b tb) (hs:iz b):PE X (.Subscript a b pos) (tOp r ta tb):=by
 intro pins s σ H Q I h
 exact Subscript_ (lI ha hb I h λv u s2 x y H2 I2 rx ry q=>hr a b pins s2 σ H2 x y v u Q I2 rx ry q (hs _ _))
noncomputable def nS (K:PySem.W.Frag):R2:=λx y H Q=>∃ p xs i v,x=.ref p/\y=.int i/\SqL K H p xs/\atI xs i=some v/\Q v H
noncomputable def n4 (K:PySem.W.Frag):R2:=λx y H Q=>∃ p xs i v,x=.ref p/\y=.int i/\SqT K H p xs/\atI xs i=some v/\Q v H
noncomputable def nE:R2:=λx y H Q=>∃ z i c,x=.str z/\y=.int i/\z.length<=sizeLine/\atI z.cps.toList i=some c/\Q (.str ⟨#[c]⟩) H
theorem kU:IxR X (nS X.K):=by
 intro value slice pins s σ H x y v u Q I rx ry h hs
 obtain⟨p,xs,i,z,rfl,rfl,hq,he,q⟩:=h
 cases rx
 obtain⟨t,rfl⟩:=ry
 obtain⟨its,r,pl,hz⟩:=I.list hq
 obtain⟨j,h1,h2,h3,h4,h5⟩:=fg he
 obtain⟨w,ew,rw'⟩:=r.get h2
 have hl:=r.length
 have hn:=de
 have fin:EP X pins σ Q w s:=⟨z,H,I,rw',q⟩
 by_cases h0:0<=i
 ·have hj:i.toNat=j:=by
   rw [seqIndex_of h0 h5] at h1
   exact Option.some.inj h1
  exact item_listR pl.isList h0 (by lia) (by rw [hj];simpa using ew) fin hs
 ·have hj:(i+(its.toArray.size:Int)).toNat=j:=by
   rw [seqIndex_neg (by lia) h4] at h1
   rw [List.size_toArray,<-hl]
   exact Option.some.inj h1
  exact subscriptTail_builtinR (x:=w) pl.isList.typeIs slot_list_getitem.lookup
   (wpAny_getItem_list_neg (Q:=λr s'=>r=w/\EP X pins σ Q r s') pl.isList (by lia) (by rw [List.size_toArray]<;>lia) (by lia) (by rw [hj];simpa using ew) ⟨rfl,fin⟩) hs
theorem mB:IxR X (n4 X.K):=by
 intro value slice pins s σ H x y v u Q I rx ry h hs
 obtain⟨p,xs,i,z,rfl,rfl,hq,he,q⟩:=h
 cases rx
 obtain⟨t,rfl⟩:=ry
 obtain⟨its,r,pl,hz⟩:=I.tuple hq
 obtain⟨j,h1,h2,h3,h4,h5⟩:=fg he
 obtain⟨w,ew,rw'⟩:=r.get h2
 have hl:=r.length
 have hn:=de
 have fin:EP X pins σ Q w s:=⟨z,H,I,rw',q⟩
 exact subscriptTail_builtinR (x:=w) pl.typeIs slot_tuple_getitem.lookup
  (getItem_tuple (j:=j) (Q:=λr s'=>r=w/\EP X pins σ Q r s') pl (by lia) (by lia) (by rw [List.size_toArray,<-hl];exact h1) (by simpa using ew) ⟨rfl,fin⟩) hs
theorem lY:IxR X nE:=by
 intro value slice pins s σ H x y v u Q I rx ry h hs
 obtain⟨z,i,c,rfl,rfl,hz,he,q⟩:=h
 obtain⟨t,rfl⟩:=rx
 obtain⟨t',rfl⟩:=ry
 obtain⟨j,h1,h2,h3,h4,h5⟩:=fg he
 have hl:z.cps.toList.length=z.length:=by simp [Str.length]
 rw [hl] at h1 h4 h5
 have hn:=de
 exact tail_any (typeIs_str s z t) slot_str_getitem.lookup (getItem_str (c:=c) (by
  have e1:decide (i < -(2 ^ 63:Int))=false:=decide_eq_false (by lia)
  have e2:decide (i>=2 ^ 63)=false:=decide_eq_false (by lia)
  rw [e1,e2,Bool.or_false]) (by rw [h1];simpa using h2) ⟨.str ⟨#[c]⟩,H,I.tok _,⟨_,rfl⟩,q⟩) hs
noncomputable def rIx (K:PySem.W.Frag):R2:=λx y H Q=>nS K x y H Q\/n4 K x y H Q\/nE x y H Q
theorem jw:IxR X (rIx X.K):=kU.or (mB.or lY)
theorem gX (its:List Value) (n j:Nat) (u:Value):Obj.mapSeq (·.setIfInBounds j u) { cls:=.type "list",data:=.seq its.toArray n }={ cls:=.type "list",data:=.seq (its.set j u).toArray n }:=by
 simp [Obj.mapSeq]
theorem Inv.lst {pins:List (Addr×Obj)}{σ:St}{H:Hp}{s:Shared}{p:Addr}{xs:List V} (I:Inv X pins σ H s) (h:H p=some (.lst xs)) :
  ∃ (its:List Value) (n:Nat),ak xs its/\s.heap.get? p=some { cls:=.type "list",data:=.seq its.toArray n }/\xs.length<=sizeLine:=by
 obtain⟨z,its,n,r,e⟩:=I.hok p _ h
 exact⟨its,n,r,e,z⟩
theorem Inv.lstUpd {pins:List (Addr×Obj)}{σ:St}{H:Hp}{s:Shared}{p:Addr}{xs ys:List V}{its its':List Value}{n n':Nat}{f:Obj->Obj} (I:Inv X pins σ H s) (h:H p=some (.lst xs))
  (ho:s.heap.get? p=some { cls:=.type "list",data:=.seq its.toArray n }) (hf:f { cls:=.type "list",data:=.seq its.toArray n }={ cls:=.type "list",data:=.seq its'.toArray n' }) (r:ak ys its') (hz:ys.length<=sizeLine) (t:Nat) :
  Inv X pins σ (upd H p (.lst ys)) { s with heap:=s.heap.update p f,toks:=t }:=by
 have e:(s.heap.update p f).get? p=some { cls:=.type "list",data:=.seq its'.toArray n' }:=by
  rw [Heap.get?_update_self f ho (by rw [hf]<;>rfl),hf]
 refine I.write (x:=p) (e:=p) (by rw [h];trivial) (.inl rfl) (λb u hb q=>(Heap.get?_update_other _ _ (Ne.symm hb)).trans q) ⟨_,e⟩ ?_
 exact⟨hz,its',n',r,e⟩
noncomputable def no:V->V->V->Hp->(Hp->Prop)->Prop:=λo i v H Q=>∃ p xs k j,o=.ref p/\i=.int k/\H p=some (.lst xs)/\ixN xs.length k=some j/\Q (upd H p (.lst (xs.set j v)))
theorem jK:nI X no:=by
 intro pins s σ H o i v ov iv u Q I ro ri rv h
 obtain⟨p,xs,k,j,rfl,rfl,hp,hj,q⟩:=h
 cases ro
 obtain⟨t,rfl⟩:=ri
 obtain⟨its,n,r,ho,hz⟩:=I.lst hp
 obtain⟨h1,h2,h3,h4⟩:=ij hj
 have hl:=r.length
 have hn:=de
 have I':Inv X pins σ (upd H p (.lst (xs.set j v))) { s with heap:=s.heap.update p (Obj.mapSeq (·.setIfInBounds j u)) }:=
  I.lstUpd hp ho (gX its n j u) (r.set rv j) (by rw [List.length_set];exact hz) s.toks
 by_cases h0:0<=k
 ·have hk:k.toNat=j:=by
   rw [seqIndex_of h0 h4] at h1
   exact Option.some.inj h1
  exact PySem.W.ki_setAt ho h0 (by lia) (by rw [List.size_toArray,<-hl];exact h4) (by rw [hk];exact⟨_,I',q⟩)
 ·have hk:(k+(its.toArray.size:Int)).toNat=j:=by
   rw [seqIndex_neg (by lia) h3] at h1
   rw [List.size_toArray,<-hl]
   exact Option.some.inj h1
  exact PySem.W.ki_setBack ho (by lia) (by rw [List.size_toArray,<-hl];exact h3) (by lia) (by rw [hk];exact⟨_,I',q⟩)
noncomputable def bR:V->Bool
 | .non=>true
 | .bl _=>true
 | .int _=>true
 | .str _=>true
 | _=>false
noncomputable def eqV:V->V->Bool
 | .non,.non=>true
 | .bl a,.bl b=>a==b
 | .bl a,.int b=>(if a then 1 else 0)==b
 | .int a,.bl b=>a==(if b then 1 else 0)
 | .int a,.int b=>a==b
 | .str a,.str b=>a==b
 | _,_=>false
theorem i4 {A:Around}{s:Shared}{y x:V}{u v:Value} (ry:al y u) (rx:al x v) (fy:bR y=true) (fx:bR x=true):SeqAt.EqAt A s u v (eqV y x):=by
 cases y with
 | non=>
  cases ry
  cases x with
  | non=>cases rx;exact SeqAt.EqAt.same _
  | bl b=>cases rx;exact SeqAt.EqAt.none_bool b
  | int b=>obtain⟨t,rfl⟩:=rx;exact SeqAt.EqAt.none_int b t
  | str b=>obtain⟨t,rfl⟩:=rx;exact SeqAt.EqAt.none_str b t
  | _=>exact absurd (show false=true from fx) Bool.false_ne_true
 | bl a=>
  cases ry
  cases x with
  | non=>cases rx;exact SeqAt.EqAt.bool_none a
  | bl b=>cases rx;exact SeqAt.EqAt.bool_bool a b
  | int b=>obtain⟨t,rfl⟩:=rx;exact SeqAt.EqAt.bool_int a b t
  | str b=>obtain⟨t,rfl⟩:=rx;exact SeqAt.EqAt.bool_str a b t
  | _=>exact absurd (show false=true from fx) Bool.false_ne_true
 | int a=>
  obtain⟨t',rfl⟩:=ry
  cases x with
  | non=>cases rx;exact SeqAt.EqAt.int_none a t'
  | bl b=>cases rx;exact SeqAt.EqAt.int_bool a t' b
  | int b=>obtain⟨t,rfl⟩:=rx;exact SeqAt.EqAt.int_int a t' b t
  | str b=>obtain⟨t,rfl⟩:=rx;exact SeqAt.EqAt.int_str a t' b t
  | _=>exact absurd (show false=true from fx) Bool.false_ne_true
 | str a=>
  obtain⟨t',rfl⟩:=ry
  cases x with
  | non=>cases rx;exact SeqAt.EqAt.str_none a t'
  | bl b=>cases rx;exact SeqAt.EqAt.str_bool a t' b
  | int b=>obtain⟨t,rfl⟩:=rx;exact SeqAt.EqAt.str_int a t' b t
  | str b=>obtain⟨t,rfl⟩:=rx;exact SeqAt.EqAt.str_str a t' b t
  | _=>exact absurd (show false=true from fx) Bool.false_ne_true
 | _=>exact absurd (show false=true from fy) Bool.false_ne_true
noncomputable def eqU (x:V) (u:Value):Bool:=match u with
 | .none=>eqV .non x
 | .bool b=>eqV (.bl b) x
 | .int i _=>eqV (.int i) x
 | .str z _=>eqV (.str z) x
 | _=>false
theorem jH {x y:V}{u:Value} (r:al y u) (f:bR y=true):eqU x u=eqV y x:=by
 cases y with
 | non=>cases r;rfl
 | bl b=>cases r;rfl
 | int i=>obtain⟨t,rfl⟩:=r;rfl
 | str z=>obtain⟨t,rfl⟩:=r;rfl
 | _=>exact absurd (show false=true from f) Bool.false_ne_true
theorem fP {x:V}:∀ {xs:List V}{us:List Value},ak xs us->xs.all bR=true->us.any (eqU x)=xs.any λy=>eqV y x
 | _,_,.nil,_=>rfl
 | y::xs,u::us,.cons r t,f=>by
  rw [List.all_cons,Bool.and_eq_true] at f
  rw [List.any_cons,List.any_cons,jH r f.1,fP t f.2]
theorem eF {A:Around}{s:Shared}{x:V}{v:Value} (rx:al x v) (fx:bR x=true):∀ {xs:List V}{us:List Value},ak xs us->xs.all bR=true->∀ u ∈ us,SeqAt.EqAt A s u v (eqU x u)
 | _,_,.nil,_=>λu hu=>by cases hu
 | y::xs,u::us,.cons r t,f=>λu' hu=>by
  rw [List.all_cons,Bool.and_eq_true] at f
  rcases List.mem_cons.mp hu with rfl | hu
  ·rw [jH r f.1];exact i4 r rx f.1 fx
  ·exact eF rx fx t f.2 u' hu
noncomputable def inV (x:V) (xs:List V):Bool:=xs.any λy=>eqV y x
noncomputable def rIn (K:PySem.W.Frag) (neg:Bool):R2:=λx y H Q=>∃ p xs,y=.ref p/\(SqL K H p xs\/SqT K H p xs)/\bR x=true/\xs.all bR=true/\Q (.bl (if neg then !inV x xs else inV x xs)) H
theorem fM:OpR X (compareOp .NotIn) (rIn X.K true):=by
 intro pins s σ H x y v u Q I rx ry h
 obtain⟨p,xs,rfl,hq,fx,fs,q⟩:=h
 cases ry
 rcases hq with hq | hq
 ·obtain⟨its,r,pl,hz⟩:=I.list hq
  refine SeqAt.notIn_listAt (eqU x) pl.isList (λw hw=>eF rx fx r fs w (by simpa using hw)) ⟨.bl _,H,I,rfl,?_⟩
  rw [show its.toArray.any (eqU x)=its.any (eqU x) by simp,fP r fs]
  exact q
 ·obtain⟨its,r,pl,hz⟩:=I.tuple hq
  refine SeqAt.notIn_tupleAt (eqU x) pl (λw hw=>eF rx fx r fs w (by simpa using hw)) ⟨.bl _,H,I,rfl,?_⟩
  rw [show its.toArray.any (eqU x)=its.any (eqU x) by simp,fP r fs]
  exact q
theorem ge:aO X (.builtin "len") (λxs H Q=>∃ p ys,xs=[.ref p]/\(SqL X.K H p ys\/SqT X.K H p ys)/\Q (.int ys.length) H):=by
 intro pins s σ H xs us Q I r h
 obtain⟨p,ys,rfl,hq,q⟩:=h
 obtain⟨u,rfl,rx⟩:=dO r
 cases rx
 have hn:=de
 rcases hq with hq | hq
 ·obtain⟨its,r',pl,hz⟩:=I.list hq
  have hlen:=r'.length
  exact Calls.call_len_list pl.isList (by simp only [List.size_toArray]<;>lia) ⟨.int ys.length,H,I.tok _,⟨s.toks+1,by rw [List.size_toArray,hlen]⟩,q⟩
 ·obtain⟨its,r',pl,hz⟩:=I.tuple hq
  have hlen:=r'.length
  exact len_tuple pl (by simp only [List.size_toArray]<;>lia) ⟨.int ys.length,H,I.tok _,⟨s.toks+1,by rw [List.size_toArray,hlen]⟩,q⟩
theorem fJ:aO X (.builtin "len") (λxs H Q=>∃ z,xs=[.str z]/\z.length<=sizeLine/\Q (.int z.length) H):=by
 intro pins s σ H xs us Q I r h
 obtain⟨z,rfl,hz,q⟩:=h
 obtain⟨u,rfl,t,rfl⟩:=dO r
 have hn:=de
 exact len_str (by lia) ⟨.int z.length,H,I.tok _,⟨_,rfl⟩,q⟩
theorem aO.or {f:Value}{r r':List V->Hp->VK->Prop} (h:aO X f r) (h':aO X f r'):aO X f (λxs H Q=>r xs H Q\/r' xs H Q):=by
 intro pins s σ H xs us Q I rs q
 rcases q with q | q
 ·exact h pins s σ H xs us Q I rs q
 ·exact h' pins s σ H xs us Q I rs q
theorem eK:aO X (.type "tuple") (λxs H Q=>∃ p ys,xs=[.ref p]/\((SqL X.K H p ys/\∀ l,H l=none->Q (.ref l) (upd H l (.tup ys)))\/(SqT X.K H p ys/\Q (.ref p) H))):=by
 intro pins s σ H xs us Q I r h
 obtain⟨p,ys,rfl,h⟩:=h
 obtain⟨u,rfl,rx⟩:=dO r
 cases rx
 rcases h with⟨hq,q⟩ | ⟨hq,q⟩
 ·obtain⟨its,r',pl,hz⟩:=I.list hq
  have hlen:=r'.length
  refine call_tuple_list pl.isList (λh' kp=>?_) (by simp only [List.size_toArray]<;>lia)
  have I1:Inv X pins σ H { s with heap:=h' }:=I.kept (t':=s.toks) kp
  have I2:Inv X pins σ (upd H h'.objs.size (.tup ys)) { s with heap:=h'.push { cls:=.type "tuple",data:=.seq its.toArray } }:=
   I1.laid (t':=s.toks) (λb o e=>Heap.get?_push_of_some _ e) (Nat.le_refl _) (show bi X.prog X.w _ _ _ (.tup ys) from ⟨hz,its,r',cH.new _ _⟩)
  exact⟨.ref h'.objs.size,_,I2,rfl,q _ (I1.hok.fresh (Nat.le_refl _))⟩
 ·obtain⟨its,r',pl,hz⟩:=I.tuple hq
  exact call_tuple_same pl ⟨.ref p,H,I,rfl,q⟩
noncomputable def tyV (K:PySem.W.Frag) (T:String) (x:V) (H:Hp):Prop:=match x with
 | .str _=>T = "str"
 | .int _=>T = "int"
 | .ref p=>(T = "list"/\∃ xs,SqL K H p xs)\/(T = "tuple"/\((∃ o,K.lookup p=some o/\o.cls=.type "tuple"/\o.dict=none)\/∃ xs,SqT K H p xs))\/
   (T = "dict"/\((∃ kvs,H p=some (.dK kvs))\/∃ kvs,H p=some (.dT kvs)))\/(T = "set"/\∃ S n,H p=some (.set S n))
 | _=>False
theorem lS {pins:List (Addr×Obj)}{σ:St}{H:Hp}{s:Shared}{T:String}{x:V}{v:Value} (I:Inv X pins σ H s) (r:al x v) (ty:tyV X.K T x H) :
  s.TypeIs v T/\∀ a,v=.ref a->∃ ob,s.heap.get? a=some ob/\ob.dict=none:=by
 cases x with
 | str z=>
  obtain⟨t,rfl⟩:=r
  cases (show T = "str" from ty)
  exact⟨typeIs_str s z t,λ_ e=>nomatch e⟩
 | int i=>
  obtain⟨t,rfl⟩:=r
  cases (show T = "int" from ty)
  exact⟨typeIs_int s i t,λ_ e=>nomatch e⟩
 | ref p=>
  cases r
  rcases ty with⟨rfl,xs,hq⟩ | ⟨rfl,ht⟩ | ⟨rfl,hk⟩ | ⟨rfl,S,n,hk⟩
  ·obtain⟨its,_,pl,_⟩:=I.list hq
   refine⟨pl.isList.typeIs,λa e=>?_⟩
   cases e
   obtain⟨o,n,e,c,hd,_⟩:=pl
   exact⟨o,e,hd⟩
  ·have z:∃ o:Obj,s.heap.get? p=some o/\o.cls=.type "tuple"/\o.dict=none:=by
    rcases ht with⟨o,hk,hc,hd⟩ | ⟨xs,hq⟩
    ·exact⟨o,I.kIn p o hk,hc,hd⟩
    ·exact I.tuple1 hq
   obtain⟨o,e1,hc,hd⟩:=z
   refine⟨⟨o,e1,hc⟩,λa e=>?_⟩
   cases e
   exact⟨o,e1,hd⟩
  ·have z:∃ o,s.heap.get? p=some o/\o.ExactDict:=by
    rcases hk with⟨kvs,hk⟩ | ⟨kvs,hk⟩
    ·obtain⟨_,_,_,_,o,_,_,e,ex,_⟩:=I.hok p _ hk
     exact⟨o,e,ex⟩
    ·obtain⟨_,_,_,_,o,_,_,e,ex,_⟩:=I.hok p _ hk
     exact⟨o,e,ex⟩
   obtain⟨o,e,ex⟩:=z
   refine⟨⟨o,e,ex.1⟩,λa e2=>?_⟩
   cases e2
   exact⟨o,e,ex.2.1⟩
  ·obtain⟨o,_,_,_,e,ex,_⟩:=I.hok p _ hk
   refine⟨⟨o,e,ex.1⟩,λa e2=>?_⟩
   cases e2
   exact⟨o,e,ex.2.1⟩
 | _=>exact False.elim ty
noncomputable def tBM (K:PySem.W.Frag) (T:String) (r:V->List V->Hp->VK->Prop) (to:TE) (t:TA):TE:=λσ H Q=>to σ H λx H1=>tyV K T x H1/\t σ H1 λxs H2=>r x xs H2 Q
variable {o e:Expr}{es:List Expr}{to:TE}{t:TA}{name:Str}{apos cpos:Pos}{T id:String}{r:V->List V->Hp->VK->Prop}
theorem nM (pa:PlainAttrs T) (slot:Slot T name id) (hty:typeOf (.builtin id)=pure (.type "method_descriptor")) (hm:MtR X id r) (ho:PE X o to) (ha:PA X (e::es) t)
  (hbase:attributeBase o name X.env (eval o X.env)=eval o X.env:=by rfl)
  (hfew:((backTo cpos (starEach (e::es) X.env)).all (λx=>!x.1) && (backToKw cpos (keywordEach [] X.env)).all (λx=>x.1.isSome)
    && decide ((e::es).length+([]:List Keyword).length+(if ([]:List Keyword).isEmpty then 0 else 1) < 30))=true:=by rfl)
  (hline:(apos.endLine==cpos.line)=true:=by rfl) (hs:starEach (e::es) X.env=(false,eval e X.env)::starEach es X.env:=by rfl) (hplain:(backTo cpos (starEach es X.env)).any (·.1)=false:=by rfl) :
  PE X (.Call (.Attribute o name apos) (e::es) [] cpos) (tBM X.K T r to t):=by
 intro pins s σ H Q I h
 refine wpAny_Call_method_late hbase hfew hline rfl (thn (ho pins s σ H _ I h) λv s1 ⟨x,H1,I1,r1,ty,q1⟩=>?_)
 obtain⟨h1,h2⟩:=lS I1 r1 ty
 refine⟨T,id,pa,slot,hty,h1,h2,?_⟩
 have hA:=ha cpos pins s1 σ H1 _ I1 q1
 rw [hs] at hA ⊢
 refine Calls.callWith_builtin (by show (false || (backTo cpos (starEach es X.env)).any (·.1))=false;rw [hplain]<;>rfl) (Calls.evalArgs_plain ?_)
 exact thn hA λus s2 ⟨vs,H2,I2,r2,q2⟩=>hm pins s2 σ H2 x vs v us Q I2 r1 r2 q2
end
end L2
namespace L2
open PySem PySem.Spec PyProof.Rows
theorem ak.one:∀ {x:V}{us:List Value},ak [x] us->∃ u,us=[u]/\al x u
 | _,_,.cons r .nil=>⟨_,rfl,r⟩
theorem ak.two {x y:V}{us:List Value} (h:ak [x,y] us):∃ u v,us=[u,v]/\al x u/\al y v:=by
 cases h with
 | cons r t=>cases t with
  | cons q t2=>cases t2;exact⟨_,_,rfl,r,q⟩
theorem ak.rep {xs:List V}{us:List Value} (h:ak xs us):∀ k:Nat,ak (List.replicate k xs).flatten (List.replicate k us).flatten
 | 0=>.nil
 | k+1=>by
  rw [List.replicate_succ,List.replicate_succ,List.flatten_cons,List.flatten_cons]
  exact ak.append h (ak.rep h k)
theorem dy (its:List Value):∀ (k:Nat) (acc:List Value),
  List.foldl (λx1 x2=>x1++x2) acc.toArray (List.replicate k its.toArray)=(acc++(List.replicate k its).flatten).toArray
 | 0,acc=>by simp
 | k+1,acc=>by
  have e:acc.toArray++its.toArray=(acc++its).toArray:=by simp
  have e2:(acc++its)++(List.replicate k its).flatten=acc++(List.replicate (k+1) its).flatten:=by
   rw [List.replicate_succ,List.flatten_cons,List.append_assoc]
  rw [<-e2,<-dy its k (acc++its),<-e,List.replicate_succ,List.foldl_cons]
section
variable {X:Cx}{pins:List (Addr×Obj)}{σ:St}{H:Hp}{s:Shared}{l b:Addr}{xs ys zs:List V}
theorem Inv.lnew {its:List Value}{t':Nat} (I:Inv X pins σ H s) (hv:ak ys its) (hz:ys.length<=sizeLine) :
  Inv X pins σ (upd H s.heap.objs.size (.lst ys)) { s with heap:=s.heap.push { cls:=.type "list",data:=.seq its.toArray },toks:=t' }:=
 I.laid (λ_ _ q=>Heap.get?_push_of_some _ q) (Nat.le_refl _) ⟨hz,its,0,hv,Heap.get?_push_size _ rfl⟩
theorem Inv.fresh (I:Inv X pins σ H s):H s.heap.objs.size=none:=I.hok.fresh (Nat.le_refl _)
theorem jM {n:Nat} (h:n<=sizeLine):Builtin.List.listTooLong n=false:=by
 unfold Builtin.List.listTooLong
 exact decide_eq_false (by lia)
end
section
variable {X:Cx}
theorem fT {α:Type} (xs:List α) (k:Nat):(List.replicate k xs).flatten.length=k*xs.length:=by
 induction k with
 | zero=>simp
 | succ k ih=>rw [List.replicate_succ,List.flatten_cons,List.length_append,ih,Nat.succ_mul,Nat.add_comm]
end
section
variable {prog:Program}{w:World}{A:Around}{E:Value->Shared->Prop}{s:Shared}
end
section
variable {X:Cx}
end
end L2
namespace Att
open PySem PySem.W PySem.Calls PyProof.Rows
theorem dX {P:Params}{h:Heap}:∀ (ns:List Int) (vs:List Value),WellAll P h vs (ns.map WData.int)->IntsAre vs ns:=by
 intro ns
 induction ns with
 | nil=>
  intro vs w
  rw [List.map_nil] at w
  cases w
  exact .nil
 | cons n ns ih=>
  intro vs w
  rw [List.map_cons] at w
  cases w with
  | cons a b=>
   cases a
   exact .cons _ _ (ih _ b)
theorem iT {l:OpenLaw}{n:Nat} (hn:l.most=some n) {P:Params}{h:Heap}{args:List WData}{vals:List Value}
  (hpre:l.row.toRowW.claim.pre args=true) (hwl:WellAll P h vals args) :
  ∃ a vs ns,vals=[Value.ref a]/\args=[WData.list (ns.map WData.int)]/\h.get? a=some { cls:=.type "list",data:=.seq vs.toArray }/\IntsAre vs ns/\ns.length<=n:=by
 have hsh:WShape.hasAll [] args [.list .int]=true:=(pre_splitW hpre).1
 have hc:l.pre.holds [] { args:=args }=true:=(pre_splitW hpre).2
 obtain⟨d,r,rfl,h1,h2⟩:=hasAllW_cons hsh
 obtain rfl:=hasAllW_nil h2
 obtain⟨xs,rfl,h3⟩:=hasW_list h1
 obtain⟨ns,rfl⟩:=items_int h3
 have hlen:ns.length<=n:=by
  unfold OpenLaw.pre at hc
  have h4:(WTm.not (.lt (.lit (.int (n:Int))) (.len (.arg 0)))).holds [] { args:=[.list (ns.map .int)] }=true:=by
   have h4:=(holds_andW hc).1
   rw [hn] at h4
   exact h4
  have h5:=condW_of h4 (w_not (w_lt w_lit (w_len_list (w_arg rfl))))
  rw [List.length_map] at h5
  refine Nat.le_of_not_lt λq=>?_
  have q':(n:Int) < ((ns.length:Nat):Int):=by lia
  first
   | (rw [decide_eq_true q'] at h5;exact absurd h5 (by decide))
   | (simp at h5;lia)
 cases hwl with
 | cons w1 w2=>
  cases w2
  cases w1 with
  | list ho hall=>exact⟨_,_,ns,rfl,rfl,ho,dX ns _ hall,hlen⟩
theorem iU (l:OpenLaw) (args:List WData):l.row.toRowW.claim.post args (.bool true) args=true:=
 postW_of (r:=l.row.toRowW) (X:=(true==true))
  (show WShape.has [] (.bool true) .bool=true by first | rfl | decide | simp [WShape.has,WShape.arms,WShape.armsAll])
  (show (WTm.eq .res (.lit (.bool true))).value [] { args:=args,res:=some (.bool true),after:=args }=some (.bool (true==true)) from w_eq_bool (w_res rfl) w_lit) rfl
theorem attach_call {l:OpenLaw}{n:Nat}{q:Program}{loose:List Str}{XP:(Str->Option Value)->Heap->Prop}{YP:World->Heap->Prop}{d:DefRec}
  (hn:l.most=some n) (hdf:d.params.defaults=[])
  (call:∀ (w:World) (s₀ s₁:Shared) (mg mb:Str->Option Value) (fa:Addr) (o:Obj) (pm cd doc:Value) (a:Addr) (vs:List Value) (ns:List Int),
    Ground q loose [] XP w s₀ mg mb s₁.heap->YP w s₁.heap->
    s₁.heap.get? fa=some o->o.data=.func (docDef d.name d.params d.body d.scope pm cd doc)->s₁.heap.CodeRec cd d.name->mg d.name=some (.ref fa)->
    s₁.heap.get? a=some { cls:=.type "list",data:=.seq vs.toArray }->IntsAre vs ns->ns.length<=n->s₁.gens=#[]->
    codeAny (model l.prog w) callerA (.call (.ref fa) ⟨[.ref a],[]⟩) (λr s'=>r=.ok (.ret (.bool true))/\OldK s₁.heap s'.heap/\s'.os=s₁.os/\AllBare s'.gens) s₁) :
  WalkO q loose XP YP l.row.toRowW d [] (λf vs=>PySem.call f vs):=by
 intro w s₀ s₁ mg mb G Y fa o pm cd doc dV kV ho hd hcd hD hmg hg args vals as hpre hlay hrd hwl hlo
 obtain rfl:dV=.none:=Dflts.none hD hdf
 obtain rfl:kV=.none:=Dflts.noKw hD
 obtain⟨a,vs,ns,rfl,rfl,hobj,hints,hlen⟩:=iT hn hpre hwl
 refine enter_call (codeAny_mono (call w s₀ s₁ mg mb fa o pm cd doc a vs ns G Y ho (fd_plain hd) hcd hmg hobj hints hlen hg) λr s' hq=>?_)
 obtain⟨rfl,h2,h3,h4⟩:=hq
 exact⟨.inl ⟨.bool true,.bool true,[],rfl,λ_=>rfl,.bool true,iU l _,λ_=>⟨List.Pairwise.nil,λ_ hm=>(nomatch hm)⟩⟩,h2,h3,h4⟩
section
variable {prog:Program}{w:World}{A:Around}{E:Value->Shared->Prop}{s:Shared}{K:Frag}
end
end Att
namespace L2
open PySem PySem.Spec PyProof.Rows
theorem eW:∀ {vs:List Value}{ns:List Int},IntsAre vs ns->ak (ns.map V.int) vs
 | _,_,.nil=>.nil
 | _,_,.cons n t h=>.cons ⟨t,rfl⟩ (eW h)
noncomputable def j8 (H:Hp):Prop:=∀ b,H b=none\/∃ o xs,H b=some (.frz o (.lst xs))
theorem jN {P:Program}{w:World}{K:PySem.W.Frag}{mg mb:Str->Option Value}{CX:CXT}{k:Nat}{fa a:Addr}{fd:FuncData}{x:Str}{sp:Sp}{s₁:Shared}{vs:List Value}{ns:List Int}
  (KX:K.In s₁.heap) (hns:s₁.heap.Ns mainGlobals mg) (hb:s₁.heap.Ns builtinsNs mb) (hbb:∀ x:Str,x≠"__name__"->mb x=bootBuiltins x) (hlim:s₁.heap.NoLimit) (hg:s₁.gens=#[])
  (ha:s₁.heap.get? a=some { cls:=.type "list",data:=.seq vs.toArray }) (hi:IntsAre vs ns) (hl:ns.length<=sizeLine) (hr:bj k callerA)
  (F:∀ base:Heap,K.In base->base.Ns mainGlobals mg->bD P w K mg base CX k fa fd [x] sp) (hbind:∀ (s:Shared) (u:Value),BindsTo s fd ⟨[u],[]⟩ [(x,u)])
  (hsp:∀ H:Hp,j8 H->SqL K H a (ns.map V.int)->sp [.ref a] H (λv _=>v=.bl true) λ_ _ _=>False)
  (hCX:∀ H e s',CX [] H s₁ (λ_ _ _=>False) e s'->False) :
  codeAny (model P w) callerA (.call (.ref fa) ⟨[.ref a],[]⟩) (λr s'=>r=.ok (.ret (.bool true))/\OldK s₁.heap s'.heap/\s'.os=s₁.os/\AllBare s'.gens) s₁:=by
 have rv:=eW hi
 have lenV:=hi.length
 -- from an abstract heap in which nothing but the script may be tracked
 have core:∀ H:Hp,j8 H->SqL K H a (ns.map V.int)->HOk P w H s₁.heap->(∀ b,H b≠none->b=a)->(H a≠none->K.lookup a=none)->
   codeAny (model P w) callerA (.call (.ref fa) ⟨[.ref a],[]⟩) (λr s'=>r=.ok (.ret (.bool true))/\OldK s₁.heap s'.heap/\s'.os=s₁.os/\AllBare s'.gens) s₁:=by
  intro H hO hS hok hA hK
  have base_of:∀ {b:Addr}{o:Obj},s₁.heap.get? b=some o->H b=none->(fE s₁.heap H).get? b=some o:=λe n=>jT e n
  have noA:∀ {b:Addr}{o:Obj}{es:Array DictEntry}{ep:Nat},s₁.heap.get? b=some o->o.data=.dict es ep->H b=none:=λ{b o es ep} e d=>by
   cases q:H b with
   | none=>rfl
   | some u=>
    have e':b=a:=hA b (by rw [q];simp)
    subst e'
    rw [ha] at e;cases e
    have d':Data.seq vs.toArray _=Data.dict es ep:=d
    cases d'
  have nsK:∀ {b:Addr}{m:Str->Option Value},s₁.heap.Ns b m->(fE s₁.heap H).Ns b m:=λ{b m} ⟨o,es,ep,e,d,r⟩=>⟨o,es,ep,base_of e (noA e d),d,r⟩
  have hKb:K.In (fE s₁.heap H):=λb o e=>base_of (KX b o e) (by
   cases q:H b with
   | none=>rfl
   | some u=>
    have e':b=a:=hA b (by rw [q];simp)
    subst e'
    rw [hK (by rw [q];simp)] at e;cases e)
  have hM:Mod K mg (fE s₁.heap H):=⟨hKb,nsK hns,⟨mb,nsK hb,hbb⟩,let ⟨mc,h1,h2⟩:=hlim;⟨mc,nsK h1,h2⟩⟩
  have e0:kc P w K mg (fE s₁.heap H) callerA [] s₁ H:=⟨rfl,hM,λb o e=>kF e,Nat.le_of_eq (iN _ _),trivial,λb hb=>absurd (show b ∈ ([]:List Addr) from hb) (by simp),hok,.of_eq hg⟩
  refine codeAny_mono ((F _ hKb (nsK hns)).run callerA [] s₁ H ⟨[.ref a],[]⟩ [.ref a] [.ref a] _ _ hr e0 (hbind s₁ (.ref a)) (.cons rfl .nil) (hsp H hO hS)) λr s' h=>?_
  cases r with
  | error e=>exact (hCX H e s' h).elim
  | ok fl=>
   cases fl with
   | next=>exact False.elim h
   | brk=>exact False.elim h
   | cont=>exact False.elim h
   | ret u=>
    obtain⟨v,H',os,bare,un,hok',r',q⟩:=h
    have q':v=.bl true:=q
    subst q'
    obtain rfl:u=Value.bool true:=r'
    refine⟨rfl,OldK.of_keep λb o e=>?_,os,bare⟩
    cases q:H b with
    | none=>exact un.keep b o e q (by intro z;exact absurd (show b ∈ ([]:List Addr) from z) (by simp)) (by simp)
    | some u=>
     rcases hO b with z | ⟨ob,xs,z⟩
     ·rw [q] at z;cases z
     ·have z2:=un.frzs b ob _ z
      obtain⟨e1,_⟩:=hok b _ z
      obtain⟨e2,_⟩:=hok' b _ z2
      rw [e] at e1;cases e1
      exact e2
 cases hk:K.lookup a with
 | some o=>
  -- the script is one of the module's own objects
  have e:=KX a o hk
  rw [ha] at e
  cases e
  refine core (λ_=>none) (λ_=>.inl rfl) (.inr ⟨_,vs.toArray,_,hk,rfl,rfl,rfl,by rw [List.size_toArray,lenV];exact hl,by simpa using rv⟩) (λb u z=>by have z':(none:Option HO)=some u:=z;cases z') (λb z=>absurd rfl z) λz=>absurd rfl z
 | none=>
  refine core (λb=>if b=a then some (.frz { cls:=.type "list",data:=.seq vs.toArray } (.lst (ns.map V.int))) else none) (λb=>?_) (.inl (.inr ⟨{ cls:=.type "list",data:=.seq vs.toArray },if_pos rfl⟩)) (λb u z=>?_) (λb z=>?_) λ_=>hk
  ·by_cases hb:b=a
   ·exact .inr ⟨_,_,if_pos hb⟩
   ·exact .inl (if_neg hb)
  ·by_cases hb:b=a
   ·have z':=(if_pos hb).symm.trans z
    cases z'
    subst hb
    exact⟨ha,by rw [List.length_map];exact hl,vs,_,rv,ha⟩
   ·have z':=(if_neg hb).symm.trans z
    cases z'
  ·by_cases hb:b=a
   ·exact hb
   ·exact absurd (if_neg hb) z
end L2
namespace L2
open PySem PySem.Spec PyProof.Rows
theorem walk_of {l:PySem.W.OpenLaw}{n k:Nat}{q:Program}{loose:List Str}{XP:(Str->Option Value)->Heap->Prop}{YP:World->Heap->Prop}{d:DefRec}{K:Params->PySem.W.Frag}{CX:World->CXT}{sp:World->Sp}{x:Str}
  (hn:l.most=some n) (hn2:n<=sizeLine) (hdf:d.params.defaults=[]) (hr:bj k callerA)
  (hY:∀ (w:World) (h:Heap),YP w h->(K w.params).In h)
  (F:∀ (w:World) (mg:Str->Option Value) (fa:Addr) (h:Heap),(K w.params).In h->h.Ns mainGlobals mg->mg d.name=some (.ref fa)->
    ∃ fd:FuncData,(∀ (s:Shared) (u:Value),BindsTo s fd ⟨[u],[]⟩ [(x,u)])/\
     ∀ base:Heap,(K w.params).In base->base.Ns mainGlobals mg->bD l.prog w (K w.params) mg base (CX w) k fa fd [x] (sp w))
  (hsp:∀ (w:World) (H:Hp) (a:Addr) (ns:List Int),ns.length<=n->j8 H->SqL (K w.params) H a (ns.map V.int)->sp w [.ref a] H (λv _=>v=.bl true) λ_ _ _=>False)
  (hCX:∀ (w:World) (H:Hp) (s:Shared) (e:Value) (s':Shared),CX w [] H s (λ_ _ _=>False) e s'->False) :
  PySem.W.WalkO q loose XP YP l.row.toRowW d [] (λf vs=>PySem.call f vs):=by
 refine Att.attach_call hn hdf λw s₀ s₁ mg mb fa o pm cd doc a vs ns G Y ho hd hcd hmg hobj hints hlen hg=>?_
 have KX:=hY w _ Y
 obtain⟨fd,hb,hF⟩:=F w mg fa _ KX G.T.g hmg
 exact jN KX G.T.g G.T.b G.T.builtins G.T.nolimit hg hobj hints (Nat.le_trans hlen hn2) hr hF hb (λH hO hS=>hsp w H a ns hlen hO hS) λH e s'=>hCX w H s₁ e s'
end L2
namespace L2
open PySem PySem.Spec PyProof.Rows
noncomputable def aM (s:Stmt):Arguments:=match s with
 | .FunctionDef _ a _ _ _ _ _ _ _ _=>a
 | _=>{ posonlyargs:=[],args:=[],vararg:=none,kwonlyargs:=[],kw_defaults:=[],kwarg:=none,defaults:=[] }
noncomputable def av (s:Stmt):List Stmt:=match s with
 | .FunctionDef _ _ b _ _ _ _ _ _ _=>b
 | _=>[]
noncomputable def ac (s:Stmt):Scope:=match s with
 | .FunctionDef _ _ _ _ _ _ sc _ _ _=>sc
 | _=>{ kind:=.function,names:=[],isGenerator:=false,isCoroutine:=false }
abbrev CX0:CXT:=λ_ _ _ _ _ _=>False
abbrev E0:XK:=λ_ _ _=>False
theorem nh {X:Cx}:gS CX0 X E0:=λ_ _ _ _ _ _ _ h=>h.elim
structure Fun (K:PySem.W.Frag) (x qual:Str) (st:Stmt) (f:Addr) (fd:FuncData):Prop where
 ex:∃ (oc:Value) (od:Option Addr) (kV doc pm:Value) (an:Option Addr) (cdv ct:Value) (osl:Array (Option Value)),
  fd=PySem.W.fnOf x qual (aM st) (av st) (ac st) .none kV doc pm an cdv ct/\K.lookup f=some ⟨oc,od,.func fd,osl⟩/\PySem.W.codeIn K cdv qual=true
 kp:PySem.W.keepIn K (.ref f)=true
section
variable {P:Program}{w:World}{K:PySem.W.Frag}{mg:Str->Option Value}{base:Heap}
theorem Fun.ok {x qual:Str}{st:Stmt}{f:Addr}{fd:FuncData}{N ps:List Str}{k:Nat}{sp:Sp} (F:Fun K x qual st f fd) (S:aH N ps (ac st)) (len:∀ vs H Q E,sp vs H Q E->vs.length=ps.length)
  (hbody:∀ (cdv:Value) (A:Around) (outer:List Env) (s:Shared) (H:Hp) (vs:List V) (Q:VK) (E:XK),bj k (A.deeper (envOfC qual (ac st) s.heap.objs.size f cdv))->sp vs H Q E->
    ∃ t,PSs (gf CX0 P w K mg base N qual (ac st) f cdv A outer s H E).nox (av st) t/\t { nx:=λ_ H'=>Q .non H',rt:=Q } (cO N vs) H):bD P w K mg base CX0 (k+1) f fd ps sp:=by
 obtain⟨oc,od,kV,doc,pm,an,cdv,ct,osl,rfl,lk,hcd⟩:=F.ex
 refine oh lk hcd S len λA outer s H vs Q E hr hsp=>?_
 obtain⟨t,h,q⟩:=hbody cdv A outer s H vs Q E hr hsp
 exact⟨t,h.nox,q⟩
theorem Fun.binds {x qual:Str}{st:Stmt}{f:Addr}{fd:FuncData}{ps:List Str} (F:Fun K x qual st f fd)
  (h:∀ (kV doc pm:Value) (an:Option Addr) (cdv ct:Value) (us:List Value),us.length=ps.length->bindArgs (PySem.W.fnOf x qual (aM st) (av st) (ac st) .none kV doc pm an cdv ct) ⟨us,[]⟩=pure (ps.zip us)):bq K fd ps []:=by
 obtain⟨oc,od,kV,doc,pm,an,cdv,ct,osl,rfl,lk,hcd⟩:=F.ex
 exact .all (h kV doc pm an cdv ct)
theorem bG {x qual:Str}{st:Stmt}{f:Addr}{oc:Value}{od an:Option Addr}{osl:Array (Option Value)}{kV doc pm cdv ct:Value} (l:K.lookup f=some ⟨oc,od,.func (PySem.W.fnOf x qual (aM st) (av st) (ac st) .none kV doc pm an cdv ct),osl⟩)
  (c:PySem.W.codeIn K cdv qual=true) (k:PySem.W.keepIn K (.ref f)=true):Fun K x qual st f (PySem.W.fnOf x qual (aM st) (av st) (ac st) .none kV doc pm an cdv ct):=⟨⟨oc,od,kV,doc,pm,an,cdv,ct,osl,rfl,l,c⟩,k⟩
end
theorem iX {n:Nat} (h:n<=1000):n < sizeLine:=Nat.lt_of_le_of_lt h (by decide)
section
variable {X:Cx}
end
theorem j7 {A B:Prop} (h:B):if false=true then A else B:=by
 rw [if_neg Bool.false_ne_true]
 exact h
theorem ka {A B:Prop} (h:A):if true=true then A else B:=by
 rw [if_pos rfl]
 exact h
noncomputable def ay (H H':Hp):Prop:=∀ b o,H b=some o->H' b=some o
theorem ay.refl (H:Hp):ay H H:=λ_ _ h=>h
end L2
namespace L2
open PySem PySem.Spec PyProof.Rows
noncomputable def aL (cells:List (Str×Addr)):List (Str×NameKind)->List (Str×Addr)->List (Str×Addr)
 | [],acc=>acc
 | (n,k)::r,acc=>if k==.free then aL cells r ((n,(cells.lookup n).getD 0)::acc) else aL cells r acc
theorem dc {env:Env} (f:Str×NameKind->List (Str×Addr)->Sem (ForInStep (List (Str×Addr))))
  (hf:∀ n k cs,f (n,k) cs=if k==.free then (do let c <-cellOf env n;pure (.yield ((n,c)::cs))) else pure (.yield cs)) :
  ∀ (names:List (Str×NameKind)) (acc:List (Str×Addr)),(∀ x ∈ names,x.2=.free->∃ c,env.cells.lookup x.1=some c)->
   forIn names acc f=pure (aL env.cells names acc)
 | [],acc,_=>by rw [List.forIn_nil];rfl
 | (n,k)::r,acc,h=>by
  rw [List.forIn_cons,hf]
  unfold aL
  by_cases hk:(k==.free)=true
  ·obtain⟨c,hc⟩:=h (n,k) List.mem_cons_self (beq_iff_eq.mp hk)
   have hc':env.cells.lookup n=some c:=hc
   rw [if_pos hk,if_pos hk]
   have:cellOf env n=pure c:=by unfold cellOf;rw [hc']
   rw [this,hc']
   simp only [pure_bind,Option.getD_some]
   exact dc f hf r _ λx hx=>h x (List.mem_cons_of_mem _ hx)
  ·rw [if_neg hk,if_neg hk]
   simp only [pure_bind]
   exact dc f hf r _ λx hx=>h x (List.mem_cons_of_mem _ hx)
theorem eM {scope:Scope}{env:Env} (h:∀ x ∈ scope.names,x.2=.free->∃ c,env.cells.lookup x.1=some c) :
  closureFor scope env=pure (aL env.cells scope.names []):=by
 simp only [closureFor]
 rw [dc (env:=env) _ (λn k cs=>by cases hk:k==NameKind.free<;>simp [hk]) scope.names [] h]
 simp
theorem bZ {cells:List (Str×Addr)}:∀ (names:List (Str×NameKind)) (acc:List (Str×Addr)) {x:Str}{c:Addr},(aL cells names acc).lookup x=some c->
  acc.lookup x=some c\/((x,NameKind.free) ∈ names/\c=(cells.lookup x).getD 0)
 | [],_,_,_,h=>.inl h
 | (n,k)::r,acc,x,c,h=>by
  unfold aL at h
  by_cases hk:(k==.free)=true
  ·rw [if_pos hk] at h
   rcases bZ r _ h with q | ⟨q1,q2⟩
   ·rw [List.lookup_cons] at q
    cases hx:x==n with
    | true=>
     rw [hx] at q
     have e:=beq_iff_eq.mp hx
     subst e
     exact .inr ⟨by rw [<-beq_iff_eq.mp hk];exact List.mem_cons_self,(Option.some.inj q).symm⟩
    | false=>rw [hx] at q;exact .inl q
   ·exact .inr ⟨List.mem_cons_of_mem _ q1,q2⟩
  ·rw [if_neg hk] at h
   rcases bZ r _ h with q | ⟨q1,q2⟩
   ·exact .inl q
   ·exact .inr ⟨List.mem_cons_of_mem _ q1,q2⟩
theorem bT {cells:List (Str×Addr)}{x:Str}:∀ (names:List (Str×NameKind)) (acc:List (Str×Addr)),((x,NameKind.free) ∈ names\/(acc.lookup x).isSome=true)->((aL cells names acc).lookup x).isSome=true
 | [],_,h=>h.elim (λz=>nomatch z) id
 | (n,k)::r,acc,h=>by
  unfold aL
  by_cases hk:(k==.free)=true
  ·rw [if_pos hk]
   refine bT r _ ?_
   rcases h with h | h
   ·rcases List.mem_cons.mp h with e | h
    ·cases e
     exact .inr (by rw [List.lookup_cons,beq_self_eq_true];rfl)
    ·exact .inl h
   ·refine .inr ?_
    rw [List.lookup_cons]
    cases x==n
    ·exact h
    ·rfl
  ·rw [if_neg hk]
   refine bT r _ ?_
   rcases h with h | h
   ·rcases List.mem_cons.mp h with e | h
    ·cases e;exact absurd rfl hk
    ·exact .inl h
   ·exact .inr h
theorem bu:∀ (names:List (Str×NameKind)) (n:Nat) (acc:List (Str×Addr)) {x:Str}{c:Addr},(cellsFrom n names acc).lookup x=some c->acc.lookup x=some c\/((x,NameKind.cell) ∈ names/\n<=c)
 | [],_,_,_,_,h=>.inl h
 | (m,k)::r,n,acc,x,c,h=>by
  unfold cellsFrom at h
  by_cases hk:(k==.cell)=true
  ·rw [if_pos hk] at h
   rcases bu r _ _ h with q | ⟨q1,q2⟩
   ·rw [List.lookup_cons] at q
    cases hx:x==m with
    | true=>
     rw [hx] at q
     have e:=beq_iff_eq.mp hx
     subst e
     exact .inr ⟨by rw [<-beq_iff_eq.mp hk];exact List.mem_cons_self,by rw [Option.some.inj q];exact Nat.le_refl _⟩
    | false=>rw [hx] at q;exact .inl q
   ·exact .inr ⟨List.mem_cons_of_mem _ q1,Nat.le_of_succ_le q2⟩
  ·rw [if_neg hk] at h
   rcases bu r _ _ h with q | ⟨q1,q2⟩
   ·exact .inl q
   ·exact .inr ⟨List.mem_cons_of_mem _ q1,q2⟩
theorem eJ:∀ (names:List (Str×NameKind)) (n:Nat) (acc:List (Str×Addr)),(∀ p ∈ acc,p.2 < n)->∀ {x y:Str}{c:Addr},(cellsFrom n names acc).lookup x=some c->(cellsFrom n names acc).lookup y=some c->n<=c->x=y:=by
 have key:∀ (names:List (Str×NameKind)) (n:Nat) (acc:List (Str×Addr)) (lo:Nat),lo<=n->(∀ p ∈ acc,p.2 < n)->(∀ p ∈ acc,∀ q ∈ acc,lo<=p.2->p.2=q.2->p.1=q.1)->
   ∀ p ∈ cellsFrom n names acc,∀ q ∈ cellsFrom n names acc,lo<=p.2->p.2=q.2->p.1=q.1:=by
  intro names
  induction names with
  | nil=>intro n acc lo _ _ h;exact h
  | cons z r ih=>
   intro n acc lo hlo hlt h
   obtain⟨m,k⟩:=z
   unfold cellsFrom
   by_cases hk:(k==.cell)=true
   ·rw [if_pos hk]
    refine ih _ _ lo (Nat.le_succ_of_le hlo) (λp hp=>?_) (λp hp q hq l e=>?_)
    ·rcases List.mem_cons.mp hp with e | hp
     ·rw [e];exact Nat.lt_succ_self _
     ·exact Nat.lt_succ_of_lt (hlt p hp)
    ·rcases List.mem_cons.mp hp with e1 | hp<;>rcases List.mem_cons.mp hq with e2 | hq
     ·rw [e1,e2]
     ·rw [e1] at e;exact absurd (hlt q hq) (by rw [<-e];exact Nat.lt_irrefl _)
     ·rw [e2] at e;exact absurd (hlt p hp) (by rw [e];exact Nat.lt_irrefl _)
     ·exact h p hp q hq l e
   ·rw [if_neg hk]
    exact ih _ _ lo hlo hlt h
 intro names n acc hlt x y c hx hy hc
 exact key names n acc n (Nat.le_refl _) hlt (λp hp q hq l _=>absurd (hlt p hp) (Nat.not_lt.mpr l)) _ (PySem.mem_of_lookup hx) _ (PySem.mem_of_lookup hy) hc rfl
theorem bF:∀ (names:List (Str×NameKind)) (h:Heap) (acc:List (Str×Addr)),(∀ p ∈ acc,∃ v,h.IsCell p.2 v)->∀ p ∈ cellsFrom h.objs.size names acc,∃ v,(pushCells h names).IsCell p.2 v
 | [],_,_,h=>h
 | (m,k)::r,h,acc,hc=>by
  unfold cellsFrom pushCells
  by_cases hk:(k==.cell)=true
  ·rw [if_pos hk,if_pos hk]
   have:=bF r (h.push { cls:=.type "cell",data:=.cell none }) ((m,h.objs.size)::acc) (λp hp=>by
    rcases List.mem_cons.mp hp with e | hp
    ·rw [e];exact⟨none,_,Heap.get?_push_size _ rfl,rfl⟩
    ·obtain⟨v,z⟩:=hc p hp
     exact⟨v,z.keeps λb o e=>Heap.get?_push_of_some _ e⟩)
   rwa [Heap.size_push] at this
  ·rw [if_neg hk,if_neg hk]
   exact bF r h acc hc
theorem cv {names:List (Str×NameKind)} (nd:(names.map (·.1)).Nodup):∀ {x:Str}{k:NameKind},(x,k) ∈ names->names.lookup x=some k:=by
 induction names with
 | nil=>intro x k h;cases h
 | cons z r ih=>
  intro x k h
  obtain⟨m,k'⟩:=z
  rw [List.map_cons,List.nodup_cons] at nd
  rw [List.lookup_cons]
  rcases List.mem_cons.mp h with e | h
  ·cases e;rw [beq_self_eq_true]
  ·have:(x==m)=false:=beq_eq_false_iff_ne.mpr λe=>nd.1 (e ▸ List.mem_map.mpr ⟨(x,k),by assumption,rfl⟩)
   rw [this]
   exact ih nd.2 h
theorem bo {env:Env}:∀ {names:List (Str×NameKind)}{x:Str}{k:NameKind},
  (names.map λ(n,k)=>if (k==NameKind.free && env.scope.kind==.function && env.kindOf n==some .cell) then (n,NameKind.cell) else (n,k)).lookup x=some k->
  ∃ k0,names.lookup x=some k0/\(k=k0\/(k0=.free/\k=.cell))
 | [],_,_,h=>by cases h
 | (n,k0)::r,x,k,h=>by
  rw [List.map_cons] at h
  dsimp only at h
  rw [List.lookup_cons]
  by_cases hc:(k0==NameKind.free && env.scope.kind==.function && env.kindOf n==some .cell)=true
  ·rw [if_pos hc,List.lookup_cons] at h
   cases hx:x==n with
   | true=>
    rw [hx] at h
    refine⟨k0,rfl,.inr ⟨?_,(Option.some.inj h).symm⟩⟩
    simp only [Bool.and_eq_true] at hc
    exact beq_iff_eq.mp hc.1.1
   | false=>rw [hx] at h;exact bo h
  ·rw [if_neg hc,List.lookup_cons] at h
   cases hx:x==n with
   | true=>rw [hx] at h;exact⟨k0,rfl,.inl (Option.some.inj h).symm⟩
   | false=>rw [hx] at h;exact bo h
theorem cp {env:Env}:∀ {names:List (Str×NameKind)}{x:Str},names.lookup x=some .free->
  (names.map λ(n,k)=>if (k==NameKind.free && env.scope.kind==.function && env.kindOf n==some .cell) then (n,NameKind.cell) else (n,k)).lookup x=some .free\/
  (names.map λ(n,k)=>if (k==NameKind.free && env.scope.kind==.function && env.kindOf n==some .cell) then (n,NameKind.cell) else (n,k)).lookup x=some .cell
 | [],_,h=>by cases h
 | (n,k0)::r,x,h=>by
  rw [List.map_cons]
  dsimp only
  rw [List.lookup_cons] at h
  by_cases hc:(k0==NameKind.free && env.scope.kind==.function && env.kindOf n==some .cell)=true
  ·rw [if_pos hc,List.lookup_cons]
   cases hx:x==n with
   | true=>exact .inr rfl
   | false=>rw [hx] at h;exact cp h
  ·rw [if_neg hc,List.lookup_cons]
   cases hx:x==n with
   | true=>rw [hx] at h;exact .inl h
   | false=>rw [hx] at h;exact cp h
theorem fh {M:Model}{A:Around}{E:Value->Shared->Prop}{s:Shared}{scope:Scope}{env:Env}{cl:List (Str×Addr)}{Q:Env->Shared->Prop}
  (hQ:Q (newEnv scope s.heap.objs.size env.globals (cellsFrom (s.heap.objs.size+1) scope.names cl) env.qual none .none (some env) builtinsNs)
    { s with heap:=pushCells (s.heap.push { cls:=.type "dict",data:=.dict #[] }) scope.names }) :
  wpAny M A (newFunctionEnv scope env.globals cl [] env.qual none .none (some env)) Q E s:=by
 simp only [newFunctionEnv,Option.isSome_some,if_true]
 refine wpAny_bind (wpAny_alloc ?_)
 refine wpAny_bind (wpAny_layCells _ (λname kind cells=>by cases hkc:kind==NameKind.cell<;>simp [hkc]) _ _ _ _ ?_)
 rw [show ({ s with heap:=s.heap.push { cls:=.type "dict",data:=.dict #[] } }:Shared).heap.objs.size=s.heap.objs.size+1 from Heap.size_push ..]
 refine wpAny_bind ?_
 rw [List.forIn_nil]
 exact wpAny_pure (wpAny_pure hQ)
theorem cD {prog:Program}{w:World}{A:Around}{R:Result->Shared->Prop}{s:Shared}{elt target iter:Expr}{ifs:List Expr}{scope:Scope}{pos:Pos}{it acc:Value}{env:Env} (I:Nat->Shared->Prop)
  (turn:∀ n s,I n s->wpAny (model prog w) A (pyNext it) (λr s₁=>match r with
    | none=>R (.ok .next) s₁
    | some v=>wpAny (model prog w) A (letOwnedTupleGo target it v) (λ_ s₁'=>wpAny (model prog w) A (assign target env v) (λ_ s₂=>
      wpAny (model prog w) A (forIn ifs true λc r=>if r=true then do let ok <-isTrue c env (eval c env);pure (ForInStep.yield ok) else pure (ForInStep.yield r)) (λok s₃=>
       if ok=true then wpAny (model prog w) A (eval elt env) (λx s₄=>
        wpAny (model prog w) A (call (.builtin "list.append") [acc,x]) (λ_ s₅=>∃ m,m < n/\I m s₅) (λ_ _=>False) s₄) (λ_ _=>False) s₃
       else ∃ m,m < n/\I m s₃) (λ_ _=>False) s₂) (λ_ _=>False) s₁') (λ_ _=>False) s₁) (λ_ _=>False) s)
  (n:Nat) (h:I n s) :
  codeAny (model prog w) A (.compLoop (.ListComp elt [⟨target,iter,ifs,0⟩] scope pos) 0 it acc env) R s:=by
 refine codeAny_loop rfl I (λn s hI=>?_) n h
 show wpAny _ A ((compTurn (.ListComp elt [⟨target,iter,ifs,0⟩] scope pos) 0 it acc env).onRaise (λx=>do noteFrame x env;theTreesLotGoes x)) _ _ s
 refine wpAny_noted ?_
 rw [compTurn_list]
 refine wpAny_bind (wpAny_standAt (wpAny_bind (wpAny_mono (turn n s hI) (λr s₁ h₁=>?_) λ_ _ h'=>h'.elim)))
 cases r with
 | none=>exact wpAny_pure h₁
 | some v=>
  refine wpAny_bind (wpAny_mono h₁ (λ_ s₁' h₁'=>?_) λ_ _ h'=>h'.elim)
  refine wpAny_bind (wpAny_mono h₁' (λ_ s₂ h₂=>wpAny_bind (wpAny_mono h₂ (λok s₃ h₃=>?_) λ_ _ h'=>h'.elim)) λ_ _ h'=>h'.elim)
  cases ok with
  | false=>exact wpAny_pure ⟨rfl,h₃⟩
  | true=>
   exact wpAny_bind (wpAny_bind (wpAny_mono h₃ (λx s₄ h₄=>wpAny_bind (wpAny_mono h₄ (λ_ s₅ h₅=>wpAny_pure (wpAny_pure ⟨rfl,h₅⟩)) λ_ _ h'=>h'.elim)) λ_ _ h'=>h'.elim))
noncomputable def lcX (X:Cx) (scope:Scope) (cells:List (Str×Addr)) (Nc:List Str) (s:Shared) (H:Hp) (C:Addr) (fp:List Addr):Cx where
 prog:=X.prog
 w:=X.w
 K:=X.K
 mg:=X.mg
 base:=X.base
 A:=X.A
 N:=Nc
 s₀:=s
 H₀:=H
 env:=compEnvC scope cells C X.env
 outer:=X.stack
 stack:=X.stack
 ex:=fp
 fn:=λx=>scope.names.lookup x==some .cell
 calm:=X.calm
 pn:=[]
 xe:=λ_ _=>False
structure cS (X:Cx) (scope:Scope) (Nc:List Str) (emb:St->St):Prop where
 kind:scope.kind=.function
 nd:(scope.names.map (·.1)).Nodup
 nN:Nc.Nodup
 free:∀ x ∈ scope.names,x.2=.free->X.env.kindOf x.1=some .cell\/X.env.kindOf x.1=some .free
 len:∀ σ:St,σ.length=X.N.length->(emb σ).length=Nc.length
 emb:∀ σ:St,σ.length=X.N.length->∀ (i:Nat) (x:Str) (v:V),Nc[i]?=some x->(emb σ)[i]?=some (some v)->∃ j:Nat,X.N[j]?=some x/\σ[j]?=some (some v)/\scope.names.lookup x=some .free
section
variable {X:Cx}{pins:List (Addr×Obj)}{σ:St}{H:Hp}{s:Shared}{scope:Scope}{Nc:List Str}{emb:St->St}
theorem cS.clos (S:cS X scope Nc emb) (ok:X.Ok):∀ x ∈ scope.names,x.2=.free->∃ c,X.env.cells.lookup x.1=some c:=λx hx h=>ok.has x.1 (S.free x hx h)
theorem jY (S:cS X scope Nc emb) (I:Inv X pins σ H s) {fp:List Addr} (hf:∀ b ∈ fp,gz X pins H b) (hfo:∀ b ∈ fp,∃ o,s.heap.get? b=some o) {lo:Obj} (hlo:∀ v,lo.data≠.cell v) (hfr:lo.isFreed=false) :
  Inv (lcX X scope (cellsFrom (s.heap.objs.size+2) scope.names (aL X.env.cells scope.names [])) Nc s H (s.heap.objs.size+1) fp) [(s.heap.objs.size,lo)] (emb σ) H
   { s with heap:=pushCells ((s.heap.push lo).push { cls:=.type "dict",data:=.dict #[] }) scope.names }:=by
 have hsz2:((s.heap.push lo).push { cls:=.type "dict",data:=.dict #[] }).objs.size=s.heap.objs.size+2:=by rw [Heap.size_push,Heap.size_push]
 have hsz1:(s.heap.push lo).objs.size=s.heap.objs.size+1:=by rw [Heap.size_push]
 have hk:∀ b o,s.heap.get? b=some o->(pushCells ((s.heap.push lo).push { cls:=.type "dict",data:=.dict #[] }) scope.names).get? b=some o:=λb o e=>
  pushCells_keeps _ _ b o (Heap.get?_push_of_some _ (Heap.get?_push_of_some _ e))
 have has:=S.clos I.ok
 have cl_old:∀ {x:Str}{c:Addr},(aL X.env.cells scope.names []).lookup x=some c->X.env.cells.lookup x=some c/\(x,NameKind.free) ∈ scope.names:=λ{x c} h=>by
  rcases bZ _ _ h with q | ⟨q1,q2⟩
  ·cases q
  ·obtain⟨c',hc'⟩:=has _ q1 rfl
   have hc'':X.env.cells.lookup x=some c':=hc'
   rw [hc''] at q2
   exact⟨by rw [hc'',q2];rfl,q1⟩
 have cells_cases:∀ {x:Str}{c:Addr},(cellsFrom (s.heap.objs.size+2) scope.names (aL X.env.cells scope.names [])).lookup x=some c->
   (X.env.cells.lookup x=some c/\(x,NameKind.free) ∈ scope.names)\/((x,NameKind.cell) ∈ scope.names/\s.heap.objs.size+2<=c):=λ{x c} h=>by
  rcases bu _ _ _ h with q | q
  ·exact .inl (cl_old q)
  ·exact .inr q
 have oldlt:∀ {x:Str}{c:Addr},X.env.cells.lookup x=some c->c < s.heap.objs.size:=λ{x c} h=>by
  obtain⟨v,z⟩:=I.cell x c h
  exact z.lt
 have fplt:∀ b ∈ fp,b < s.heap.objs.size:=λb hb=>by obtain⟨o,e⟩:=hfo b hb;exact Heap.lt_size e
 have accmem:∀ p ∈ aL X.env.cells scope.names [],∃ x,X.env.cells.lookup x=some p.2:=by
  have key:∀ (names:List (Str×NameKind)) (acc:List (Str×Addr)),(∀ x ∈ names,x.2=.free->∃ c,X.env.cells.lookup x.1=some c)->(∀ p ∈ acc,∃ x,X.env.cells.lookup x=some p.2)->∀ p ∈ aL X.env.cells names acc,∃ x,X.env.cells.lookup x=some p.2:=by
   intro names
   induction names with
   | nil=>intro acc _ h;exact h
   | cons z r ih=>
    intro acc hn h
    obtain⟨m,k⟩:=z
    unfold aL
    by_cases hk:(k==.free)=true
    ·rw [if_pos hk]
     refine ih _ (λx hx=>hn x (List.mem_cons_of_mem _ hx)) λp hp=>?_
     rcases List.mem_cons.mp hp with e | hp
     ·obtain⟨c,hc⟩:=hn _ List.mem_cons_self (beq_iff_eq.mp hk)
      have hc':X.env.cells.lookup m=some c:=hc
      exact⟨m,by rw [e,hc'];rfl⟩
     ·exact h p hp
    ·rw [if_neg hk]
     exact ih _ (λx hx=>hn x (List.mem_cons_of_mem _ hx)) h
  exact key _ _ has λp hp=>nomatch hp
 refine⟨⟨I.ok.mod,S.kind,I.ok.glob,I.ok.blt,Nat.le_succ _,λx y c h1 h2=>?_,λx hx=>?_,λx c hx h=>?_,I.ok.hd,I.ok.frames,.inl rfl,λb hb=>?_,I.bs,Nat.le_trans I.ok.bsz I.sz,λb o e hb=>?_,λb hb=>?_,I.stack,I.stkFree⟩,
  rfl,I.bare,Un.kept hk,⟨_,(Heap.Ns.new (s.heap.push lo) (.type "dict")).keeps (pushCells_keeps _ _) |> λq=>by rw [hsz1] at q;exact q,λi x v h1 h2 _=>?_⟩,λx c h=>?_,I.hok.fresh (Nat.le_succ _),λx c h=>?_,λp hp=>?_,I.hok.kept hk,S.len σ I.len⟩
 ·-- inj
  have h1':(cellsFrom (s.heap.objs.size+2) scope.names (aL X.env.cells scope.names [])).lookup x=some c:=h1
  have h2':(cellsFrom (s.heap.objs.size+2) scope.names (aL X.env.cells scope.names [])).lookup y=some c:=h2
  rcases cells_cases h1' with⟨q1,_⟩ | ⟨_,q1⟩
  ·rcases cells_cases h2' with⟨q2,_⟩ | ⟨_,q2⟩
   ·exact I.ok.inj x y c q1 q2
   ·exact absurd (Nat.lt_of_lt_of_le (Nat.lt_succ_of_lt (Nat.lt_succ_of_lt (oldlt q1))) q2) (Nat.lt_irrefl _)
  ·refine eJ scope.names _ _ (λp hp=>?_) h1' h2' q1
   obtain⟨z,hz⟩:=accmem p hp
   exact Nat.lt_succ_of_lt (Nat.lt_succ_of_lt (oldlt hz))
 ·-- has
  have hx':(relabel scope X.env).names.lookup x=some .cell\/(relabel scope X.env).names.lookup x=some .free:=hx
  have:∃ k0,scope.names.lookup x=some k0/\(k0=.cell\/k0=.free):=by
   rcases hx' with q | q
   ·obtain⟨k0,h1,h2⟩:=bo q
    exact⟨k0,h1,h2.elim (λe=>.inl e.symm) λe=>.inr e.1⟩
   ·obtain⟨k0,h1,h2⟩:=bo q
    exact⟨k0,h1,h2.elim (λe=>.inr e.symm) λe=>by cases e.2⟩
  obtain⟨k0,h1,h2⟩:=this
  refine Option.isSome_iff_exists.mp (PySem.W.cellsFrom_some scope.names _ _ ?_)
  rcases h2 with rfl | rfl
  ·exact .inl h1
  ·exact .inr (bT _ _ (.inl (PySem.mem_of_lookup h1)))
 ·-- cab
  have hx':scope.names.lookup x=some .cell:=beq_iff_eq.mp hx
  rcases cells_cases h with⟨_,q⟩ | ⟨_,q⟩
  ·have:=cv S.nd q
   rw [hx'] at this;cases this
  ·exact Nat.le_trans (Nat.le_add_right _ 2) q
 ·-- exf
  refine⟨Nat.ne_of_lt (Nat.lt_succ_of_lt (fplt b hb)),λx c h=>?_⟩
  rcases cells_cases h with⟨q,_⟩ | ⟨_,q⟩
  ·exact (hf b hb).2.2.2.2.1 x c q
  ·intro e
   exact absurd (Nat.lt_of_lt_of_le (Nat.lt_succ_of_lt (Nat.lt_succ_of_lt (fplt b hb))) (e ▸ q)) (Nat.lt_irrefl _)
 ·-- noex
  have hb':b ∈ fp:=hb
  rcases (hf b hb').2.2.2.1 with q | q
  ·exact I.ok.noex b o e q
  ·exact absurd (Nat.lt_of_lt_of_le (Heap.lt_size (I.ok.bs b o e).1) q) (Nat.lt_irrefl _)
 ·-- exfs
  intro hb2
  rcases List.mem_cons.mp (I.stkSub b hb2) with q | q
  ·exact (hf b hb).2.1 q
  ·exact (hf b hb).2.2.1 q
 ·-- loc
  obtain⟨j,e1,e2,e3⟩:=S.emb σ I.len i x v h1 h2
  have kx:=S.free (x,.free) (PySem.mem_of_lookup e3) rfl
  have kx':X.env.kindOf x=some .cell\/X.env.kindOf x=some .free:=kx
  obtain⟨m,hn,hl⟩:=I.loc
  obtain⟨u,ru,lk⟩:=hl j x v e1 e2 (.inr kx')
  refine⟨u,ru,.inr ⟨?_,?_⟩⟩
  ·rcases cp (env:=X.env) e3 with q | q
   ·exact .inr q
   ·exact .inl q
  ·rcases lk with⟨z,_⟩ | ⟨_,c,hc,hcell⟩
   ·rcases kx' with q | q<;>(rw [z] at q;cases q)
   ·obtain⟨c',hc'⟩:=Option.isSome_iff_exists.mp (PySem.W.cellsFrom_some scope.names (s.heap.objs.size+2) (aL X.env.cells scope.names []) (x:=x) (.inr (bT _ _ (.inl (PySem.mem_of_lookup e3)))))
    rcases cells_cases hc' with⟨q,_⟩ | ⟨q,_⟩
    ·rw [hc] at q
     cases q
     exact⟨c,hc',hcell.keeps hk⟩
    ·have:=cv S.nd q
     rw [e3] at this;cases this
 ·-- cell
  have h':(cellsFrom (s.heap.objs.size+2) scope.names (aL X.env.cells scope.names [])).lookup x=some c:=h
  have:=bF scope.names ((s.heap.push lo).push { cls:=.type "dict",data:=.dict #[] }) (aL X.env.cells scope.names []) (λp hp=>by
   obtain⟨z,hz⟩:=accmem p hp
   obtain⟨v,q⟩:=I.cell z p.2 hz
   exact⟨v,q.keeps λb o e=>Heap.get?_push_of_some _ (Heap.get?_push_of_some _ e)⟩) (x,c) (by rw [hsz2];exact PySem.mem_of_lookup h')
  exact this
 ·-- freeC
  rcases cells_cases h with⟨q,_⟩ | ⟨_,q⟩
  ·exact I.freeC x c q
  ·exact I.hok.fresh (Nat.le_trans (Nat.le_add_right _ 2) q)
 ·-- pin
  have hp':p=(s.heap.objs.size,lo):=by
   have:p ∈ ([]:List (Addr×Obj))++[(s.heap.objs.size,lo)]:=hp
   simpa using this
  subst hp'
  refine⟨pushCells_keeps _ _ _ _ (Heap.get?_push_of_some _ (Heap.get?_push_size _ hfr)),I.hok.fresh (Nat.le_refl _),Nat.ne_of_lt (Nat.lt_succ_self _),λhb=>?_,hlo⟩
  rcases List.mem_cons.mp (I.stkSub _ hb) with q | q
  ·exact absurd I.lt (by rw [<-q];exact Nat.lt_irrefl _)
  ·exact I.nofs (Nat.le_refl _) q
end
end L2
namespace L2
open PySem PySem.Spec PyProof.Rows
noncomputable def PTs (X:Cx) (ifs:List Expr) (t:TT):Prop:=
 ∀ (pins:List (Addr×Obj)) (s:Shared) (σ:St) (H:Hp) (Q:Bool->Hp->Prop),Inv X pins σ H s->t σ H Q->
  wpAny (model X.prog X.w) X.A (forIn ifs true λc r=>if r=true then do let ok <-isTrue c X.env (eval c X.env);pure (ForInStep.yield ok) else pure (ForInStep.yield r)) (TP X pins σ Q) X.xe s
noncomputable def ot:TT:=λ_ H Q=>Q true H
theorem kD {X:Cx}:PTs X [] ot:=λ_ _ _ H _ I h=>wpAny_tests_nil ⟨H,I,h⟩
noncomputable def Sub (σ σ':St):Prop:=σ.length=σ'.length/\∀ (i:Nat) (v:V),σ[i]?=some (some v)->σ'[i]?=some (some v)
noncomputable def oi (J:It) (σe:St) (g:TG) (tt:TT) (te:TE) (H1:Hp) (Q:VK):Prop:=∃ W:Nat->Nat->List V->Hp->Prop,(∃ m,W 0 m [] H1)/\∀ i m ys H,W i m ys H->
 (J.stop i H/\∀ D,H D=none->Q (.ref D) (upd H D (.lst ys)))\/
 (J.go i H/\ys.length < sizeLine/\∃ N:List V->Hp->Prop,(∀ ys' H',N ys' H'->∃ m',m' < m/\W (i+1) m' ys' H')/\∀ x H',J.yld i H x H'->g x σe H' λσ2 H2=>Sub σe σ2/\tt σ2 H2 λb H3=>if b=true then te σ2 H3 λv H4=>N (ys++[v]) H4 else N ys H3)
noncomputable def tLc (emb:St->St) (wi:TI) (g:TG) (tt:TT) (te:TE):TE:=λσ H Q=>wi σ H λJ H1=>oi J (emb σ) g tt te H1 Q
section
variable {X:Cx}{scope:Scope}{Nc:List Str}{emb:St->St}{elt iter tg:Expr}{ifs:List Expr}{pos:Pos}{wi:TI}{g:TG}{tt:TT}{te:TE}
theorem ny (S:cS X scope Nc emb) (hc:X.calm=true) (hi:PI X tg iter wi)
  (hg:∀ cells s H C fp,PG (lcX X scope cells Nc s H C fp) tg g) (ht:∀ cells s H C fp,PTs (lcX X scope cells Nc s H C fp) ifs tt) (he:∀ cells s H C fp,PE (lcX X scope cells Nc s H C fp) elt te)
  (hs:∀ x,foldedSetIterable iter X.env x=pure x:=by intro _;rfl):PE X (.ListComp elt [⟨tg,iter,ifs,0⟩] scope pos) (tLc emb wi g tt te):=by
 intro pins s σ H Q I h
 rw [eval_ListComp]
 refine wpAny_comprehension_free (use:=none) rfl hs (eM (S.clos I.ok)) S.kind (λx hx hl=>cv S.nd (by rw [<-hl];exact hx)) ?_
 refine thn (hi pins s σ H _ I h) λv s1 h1=>thn h1 λitv s2 h2=>?_
 obtain⟨it,fp,tn,J,H2,e,I2,T,st2,f2,W,⟨m0,w0⟩,turn⟩:=h2
 subst e
 refine wpAny_newObj_type (fh ?_)
 rw [show (s2.heap.push { cls:=.type "list",dict:=none,data:=.seq ([]:List Value).toArray }).objs.size=s2.heap.objs.size+1 from Heap.size_push ..]
 generalize hD:s2.heap.objs.size=D
 generalize hlo:({ cls:=.type "list",dict:=none,data:=.seq ([]:List Value).toArray }:Obj)=lo
 have fplt:∀ b ∈ fp,b < s2.heap.objs.size:=λb hb=>by obtain⟨o,e,_⟩:=T.obj _ _ st2 b hb;exact Heap.lt_size e
 have I3:=jY (lo:=lo) S I2 f2 (λb hb=>by obtain⟨o,e,_⟩:=T.obj _ _ st2 b hb;exact⟨o,e⟩) (by rw [<-hlo];intro v z;cases z) (by rw [<-hlo];rfl)
 rw [hD] at I3
 generalize hcells:cellsFrom (D+2) scope.names (aL X.env.cells scope.names [])=cells at I3
 generalize hX':lcX X scope cells Nc s2 H2 (D+1) fp=X' at I3
 have hfpX:∀ {H':Hp}{ps:List (Addr×Obj)},(∀ b ∈ fp,H' b=none)->(∀ p ∈ ps,p.1=D)->∀ b ∈ fp,gz X' ps H' b:=λ{H' ps} hn hps b hb=>by
  have ok:=I3.ok
  refine⟨hn b hb,?_,?_,.inl (by rw [<-hX'];exact hb),?_,λp hp=>?_⟩
  ·exact (ok.exf b (by rw [<-hX'];exact hb)).1
  ·exact ok.exfs b (by rw [<-hX'];exact hb)
  ·exact (ok.exf b (by rw [<-hX'];exact hb)).2
  ·have hp':p ∈ ([]:List (Addr×Obj))++ps:=by rw [<-hX'] at hp;exact hp
   have e:p.1=D:=hps p (by simpa using hp')
   rw [e,<-hD]
   exact Nat.ne_of_gt (fplt b hb)
 have Dex:D ∈ X'.ex\/X'.s₀.heap.objs.size<=D:=.inr (by rw [<-hX',<-hD];exact Nat.le_refl _)
 have Dloc:D≠X'.env.locals:=by rw [<-hX'];exact Nat.ne_of_lt (Nat.lt_succ_self _)
 have pD:=I3.pin (D,lo) (by rw [<-hX'];exact List.mem_append_right _ List.mem_cons_self)
 have Dfs:D ∉ X'.fs:=pD.2.2.2.1
 have Dcell:∀ x c,X'.env.cells.lookup x=some c->c≠D:=λx c hc' e=>by
  obtain⟨v,o,ho,hd⟩:=I3.cell x c hc'
  rw [e,pD.1] at ho
  cases ho
  exact pD.2.2.2.2 v hd
 -- the loop
 have loop:∀ s3:Shared,s3={ s2 with heap:=pushCells ((s2.heap.push lo).push { cls:=.type "dict",data:=.dict #[] }) scope.names }->
   codeAny (model X.prog X.w) X.A (.compLoop (.ListComp elt [⟨tg,iter,ifs,0⟩] scope pos) 0 (.ref it) (.ref D) (compEnvC scope cells (D+1) X.env))
    (compPost (model X.prog X.w) X.A X.xe none (EP X pins σ Q) (.ref D) (D+1)) s3:=by
  rintro s3 rfl
  refine cD (λn s'=>∃ i ys its k H',Inv X' [(D,{ cls:=.type "list",data:=.seq its.toArray k })] (emb σ) H' s'/\ak ys its/\tn i s'.heap/\(∀ b ∈ fp,H' b=none)/\ys.length<=sizeLine/\W i n ys H') ?_ m0
   ⟨0,[],[],0,H2,?_,.nil,?_,λb hb=>(f2 b hb).1,Nat.zero_le _,w0⟩
  ·rintro n s4 ⟨i,ys,its,k,H4,I4,rv,st4,fr4,hlen,w4⟩
   have hps:∀ p ∈ [(D,({ cls:=.type "list",data:=.seq its.toArray k }:Obj))],p.1=D:=λp hp=>by
    have:=List.mem_singleton.mp hp
    rw [this]
   rcases turn i n ys H4 w4 with⟨stop,qn⟩ | ⟨go,hlt,N,hN,step⟩
   ·-- the end
    have TD:=T.done X' (by rw [<-hX'];rfl) (by rw [<-hX'];rfl) (by rw [<-hX'];rfl) (by rw [<-hX'];exact hc) i _ s4 (emb σ) H4 (λ_ _=>False) I4 (hfpX fr4 hps) st4 stop
    rw [show X'.A=X.A by rw [<-hX'];rfl] at TD
    refine thn TD λr s5 ⟨hr,I5⟩=>?_
    subst hr
    obtain⟨m5,hn5,_⟩:=id I5.loc
    have eC:X'.env.locals=D+1:=by rw [<-hX'];rfl
    rw [eC] at hn5
    refine⟨m5,hn5,λh' hsb=>?_⟩
    have pD5:=I5.pin (D,{ cls:=.type "list",data:=.seq its.toArray k }) (by rw [<-hX'];exact List.mem_append_right _ List.mem_cons_self)
    have neC:∀ b u,H4 b=some u->b≠D+1:=λb u e z=>by
     have:=I5.free
     rw [eC,<-z,e] at this
     cases this
    have hD4:H4 D=none:=pD5.2.1
    have un:=I5.base
    have un':Un (frs X.stack) fp H2 H4 s2.heap s5.heap:=by rw [<-hX'] at un;exact un
    have old_ne:∀ b o,s2.heap.get? b=some o->b≠D/\b≠D+1:=λb o e=>by
     have q:=Heap.lt_size e
     rw [hD] at q
     exact⟨Nat.ne_of_lt q,Nat.ne_of_lt (Nat.lt_succ_of_lt q)⟩
    have h2D:H2 D=none:=by rw [<-hD];exact I2.fresh
    have hok':HOk X.prog X.w H4 h':=λb u e=>by
     have ob:bi X.prog X.w H4 s5.heap b u:=by have:=I5.hok b u e;rw [<-hX'] at this;exact this
     refine ob.stay (λc v hcv q=>(hsb.2 c ?_).trans q) (λ_ q=>q) λ_ _ q=>q
     rcases hcv with z | z
     ·rw [z];exact neC b u e
     ·exact neC c _ z
    have hokD:HOk X.prog X.w (upd H4 D (.lst ys)) h':=λb u e=>by
     by_cases hb:b=D
     ·subst hb
      rw [aN] at e
      cases e
      exact⟨hlen,its,k,rv,(hsb.2 b (Nat.ne_of_lt (Nat.lt_succ_self _))).trans pD5.1⟩
     ·rw [ax hb] at e
      refine (hok' b u e).stay (λ_ _ _ q=>q) (λc q=>?_) λc z q=>?_
      all_goals first
       | (rw [ax (aD q hD4)];exact q)
       | (rw [ax (aD z hD4)];exact z)
    refine⟨.ref D,upd H4 D (.lst ys),?_,rfl,qn D hD4⟩
    refine I2.call' (s':={ s5 with heap:=h' }) (ch:=fp) ?_ ⟨λb o e nb hb hx=>?_,λb o e nb hb hx=>?_,λb o e nb hx=>?_,λb o e hx=>?_,λb xs e=>?_,λb o u e=>?_,λb ps e=>?_⟩ hokD I5.bare (λb hb=>?_)
    ·have:=I5.os
     rw [<-hX'] at this
     exact this
    ·exact (hsb.2 b (old_ne b o e).2).trans (un'.keep b o e nb hb hx)
    ·obtain⟨sl,q⟩:=un'.slot b o e nb hb hx
     exact⟨sl,(hsb.2 b (old_ne b o e).2).trans q⟩
    ·rw [ax (old_ne b o e).1]
     exact un'.free b o e nb hx
    ·obtain⟨o',q⟩:=un'.there b o e hx
     exact⟨o',(hsb.2 b (old_ne b o e).2).trans q⟩
    ·rw [ax (aD e h2D)]
     exact un'.tups b xs e
    ·rw [ax (aD e h2D)]
     exact un'.frzs b o u e
    ·obtain⟨m,q⟩:=un'.tbls b ps e
     exact⟨m,by rw [ax (aD e h2D)];exact q⟩
    ·obtain⟨q0,q1,q2,q3,q4,q5⟩:=f2 b hb
     exact⟨q3,q1,q4,q5⟩
   ·-- a turn
    have hA:X'.A=X.A:=by rw [<-hX'];rfl
    have hP:X'.prog=X.prog:=by rw [<-hX'];rfl
    have hw:X'.w=X.w:=by rw [<-hX'];rfl
    have hE:X'.env=compEnvC scope cells (D+1) X.env:=by rw [<-hX'];rfl
    have hxe:X'.xe=λ_ _=>False:=by rw [<-hX'];rfl
    have TI':=T.item X' hP hw (by rw [<-hX'];rfl) (by rw [<-hX'];exact hc) i _ s4 (emb σ) H4 (λ_ _=>False) I4 (hfpX fr4 hps) st4 go
    rw [hA] at TI'
    refine thn TI' λr s5 ⟨u,hr,h5⟩=>?_
    subst hr
    refine thn h5 λ_ s6 ⟨x,H6,I6,r6,y6,st6,fr6⟩=>?_
    have I6':=I6.pinned (hfpX fr6 hps) (T.obj _ _ st6)
    have G:=hg cells s2 H2 (D+1) fp
    have TT':=ht cells s2 H2 (D+1) fp
    have EE:=he cells s2 H2 (D+1) fp
    rw [hX'] at G TT' EE
    have G':=G _ s6 (emb σ) H6 x u _ I6' r6 (step x H6 y6)
    rw [hA,hP,hw,hE,hxe] at G'
    refine thn G' λ_ s7 ⟨σ7,H7,I7,sb7,q7⟩=>?_
    have T':=TT' _ s7 σ7 H7 _ I7 q7
    rw [hA,hP,hw,hE,hxe] at T'
    refine thn T' λok s8 ⟨H8,I8,q8⟩=>?_
    -- what is pinned
    have pin_fp:∀ {σ9:St}{H9:Hp}{s9:Shared},Inv X' ([(D,({ cls:=.type "list",data:=.seq its.toArray k }:Obj))]++em fp s6.heap) σ9 H9 s9->tn (i+1) s9.heap/\∀ b ∈ fp,H9 b=none:=λ{σ9 H9 s9} I9=>
     ⟨T.keep _ _ _ st6 λb hb o e=>(I9.pin (b,o) (List.mem_append_right _ (List.mem_append_right _ (cz hb e)))).1,λb hb=>by
      obtain⟨o,e,_⟩:=T.obj _ _ st6 b hb
      exact (I9.pin (b,o) (List.mem_append_right _ (List.mem_append_right _ (cz hb e)))).2.1⟩
    cases ok with
    | false=>
     rw [if_neg (by decide)] at q8
     rw [if_neg (by decide)]
     obtain⟨m',hm,w8⟩:=hN _ _ q8
     exact⟨m',hm,i+1,ys,its,k,H8,I8.unpinned.weak sb7.1 sb7.2,rv,(pin_fp I8).1,(pin_fp I8).2,hlen,w8⟩
    | true=>
     rw [if_pos rfl] at q8
     rw [if_pos rfl]
     have E':=EE _ s8 σ7 H8 _ I8 q8
     rw [hA,hP,hw,hE,hxe] at E'
     refine thn E' λy s9 ⟨v9,H9,I9,r9,n9⟩=>?_
     obtain⟨m',hm,w9⟩:=hN _ _ n9
     have pD9:=I9.pin (D,{ cls:=.type "list",data:=.seq its.toArray k }) (List.mem_append_right _ (List.mem_append_left _ List.mem_cons_self))
     have hl:=rv.length
     have I9n:Inv X' [] σ7 H9 s9:=I9.pins_of λp hp=>nomatch hp
     refine call_meets F.slot_list_append ⟨_,pD9.1,rfl⟩ F.entry_list_append (F.args_list_append_2 _ _) (PySem.list_append D its.toArray k y (by rw [List.size_toArray];lia)) ⟨pD9.1,?_⟩
     have up:∃ k':Nat,(s9.heap.update D (Obj.mapSeq λxs=>xs.push y)).get? D=some { cls:=.type "list",data:=.seq (its++[y]).toArray k' }:=by
      have q:=PySem.IsL.update pD9.1 (λxs:Array Value=>xs.push y)
      simp only [List.push_toArray] at q
      exact⟨_,q⟩
     obtain⟨k',up⟩:=up
     have hoth:∀ b o,b≠D->s9.heap.get? b=some o->(s9.heap.update D (Obj.mapSeq λxs=>xs.push y)).get? b=some o:=λb o hb e=>(Heap.get?_update_other s9.heap _ (Ne.symm hb)).trans e
     have I10:=I9n.turned (t':=s9.toks) hoth pD9.2.1 Dloc Dex Dcell (λp hp=>absurd (show p ∈ ([]:List (Addr×Obj)) by rw [<-hX'] at hp;exact hp) (by simp))
     refine⟨m',hm,i+1,ys++[v9],its++[y],k',H9,(I10.weak sb7.1 sb7.2).pins_of (λp hp=>?_),rv.append (.cons r9 .nil),T.keep _ _ _ (pin_fp I9).1 (λb hb o e=>hoth b o (by rw [<-hD];exact Nat.ne_of_lt (fplt b hb)) e),(pin_fp I9).2,?_,w9⟩
     ·have:=List.mem_singleton.mp hp
      subst this
      exact⟨up,pD9.2.1,Dloc,Dfs,λv z=>by cases z⟩
     ·rw [List.length_append,List.length_singleton]
      lia
  ·have q:lo={ cls:=.type "list",data:=.seq ([]:List Value).toArray 0 }:=hlo.symm
   rw [<-q]
   exact I3
  ·exact T.keep _ _ _ st2 λb hb o e=>pushCells_keeps _ _ b o (Heap.get?_push_of_some _ (Heap.get?_push_of_some _ e))
 refine codeAny_compStart_list ?_ ?_
 ·exact loop _ rfl
 ·refine T.self X.A 0 _ _ _ (T.keep _ _ _ st2 λb hb o e=>pushCells_keeps _ _ b o (Heap.get?_push_of_some _ (Heap.get?_push_of_some _ e))) ?_
  exact loop _ rfl
end
end L2
namespace L2
open PySem PySem.Spec PyProof.Rows
open PySem.AutoSeq1 (wpAny_loadPart')
section
variable {prog:Program}{w:World}{A:Around}{E:Value->Shared->Prop}{s:Shared}
end
section
variable {X:Cx}{pins:List (Addr×Obj)}{σ:St}{H:Hp}{s:Shared}{h':Heap}{fp:List Addr}
end
end L2
namespace L2
open PySem PySem.Spec PyProof.Rows
section
variable {X:Cx}
theorem jG:aO X (.builtin "all") (λxs H Q=>X.calm=true/\∃ (a:Addr) (bs:List Bool),xs=[.ref a]/\SqL X.K H a (bs.map V.bl)/\Q (.bl (bs.all id)) H):=by
 intro pins s σ H xs us Q I rv h
 obtain⟨hc,a,bs,rfl,hq,q⟩:=h
 cases rv with
 | cons r rr=>
  cases rr
  cases r
  obtain⟨its,rv,p,hz⟩:=I.list hq
  have hlt:a < s.heap.objs.size:=by obtain⟨_,_,e,_⟩:=p;exact Heap.lt_size e
  have hlen:its.length=bs.length:=by have:=rv.length;simpa using this.symm
  refine call_all_walk (wpAny_pyIter_list p.isList ?_)
  refine⟨s.heap.objs.size,_,_,_,_,_,λi=>(bs[i]?).getD true,rfl,Walks.list (A:=X.A.in1) (I.ok.hd hc) s.heap.objs.size a (Nat.ne_of_lt hlt) its.toArray,⟨⟨_,Heap.get?_push_size _ rfl,rfl,rfl⟩,p.isList.push _⟩,?_,λh' tk hk=>?_⟩
  ·intro i v s' Q' E' hv hQ'
   have hv':its[i]?=some v:=by simpa using hv
   have hi:i < its.length:=(List.getElem?_eq_some_iff.mp hv').1
   obtain⟨b,hb⟩:∃ b,bs[i]?=some b:=⟨bs[i]'(by lia),by simp [show i < bs.length by lia]⟩
   have:(bs.map V.bl)[i]?=some (.bl b):=by rw [List.getElem?_map,hb];rfl
   obtain⟨u,hu,ru⟩:=rv.get this
   rw [hv'] at hu
   cases hu
   cases ru
   have hQ2:Q' ((bs[i]?).getD true) s':=hQ'
   rw [hb] at hQ2
   exact wpAny_truthy_bool hQ2
  ·refine⟨.bl (bs.all id),H,I.kept (t':=tk) (λb o e=>hk b o (λz=>absurd (Heap.lt_size e) (by rw [List.mem_singleton.mp z];exact Nat.lt_irrefl _)) (Heap.get?_push_of_some _ e)),?_,q⟩
   show Value.bool _=Value.bool _
   congr 1
   have:∀ n,n=bs.length->((List.range n).all λi=>(bs[i]?).getD true)=bs.all id:=by
    intro n hn
    rw [Bool.eq_iff_iff,List.all_eq_true,List.all_eq_true]
    constructor
    ·intro h b hb
     obtain⟨i,hi,e⟩:=List.mem_iff_getElem.mp hb
     have:=h i (List.mem_range.mpr (by lia))
     simp [hi,e] at this
     exact this
    ·intro h i hi
     have hi':=List.mem_range.mp hi
     have hlt':i < bs.length:=by lia
     simp [hlt']
     exact h _ (List.getElem_mem _)
   exact this _ (by simpa using hlen)
noncomputable def bI:V->PyData
 | .non=>.none
 | .bl b=>.bool b
 | .int i=>.int i
 | .str x=>.str x
 | _=>.none
noncomputable def dg (ys:List V):Str:=(PyData.tuple (ys.map bI)).shown
noncomputable def bN (y:V):Prop:=y=.non\/∃ i:Int,y=.int i/\0<=i/\i < 1024
theorem hJ:aO X (.builtin "repr") (λxs H Q=>∃ i:Int,xs=[.int i]/\i.natAbs.log2 < 1920/\Q (.str (toString i)) H):=by
 intro pins s σ H xs us Q I rv h
 obtain⟨i,rfl,hi,q⟩:=h
 cases rv with
 | cons r rr=>
  cases rr
  obtain⟨t,rfl⟩:=r
  exact call_repr_gives (typeIs_int s i t) F.slot_int_repr F.entry_int_repr (F.args_int_repr_1 _) (gives_int_repr i t hi) ⟨.str _,H,I.tok _,⟨_,rfl⟩,q⟩ (hx:=int_text_fits hi)
theorem cP {h:Heap}:∀ {ys:List V}{us:List Value},ak ys us->(∀ y ∈ ys,bN y)->ReadsAll h us (ys.map bI) []
 | _,_,.nil,_=>.nil
 | _,_,.cons (a:=y) r rr,hp=>by
  have hr:=cP (h:=h) rr λz hz=>hp z (List.mem_cons_of_mem _ hz)
  rcases hp y List.mem_cons_self with e | ⟨i,e,_⟩
  ·subst e;cases r;exact .cons (as:=[]) (bs:=[]) .none hr
  ·subst e;obtain⟨t,rfl⟩:=r;exact .cons (as:=[]) (bs:=[]) (.int i t) hr
theorem iI {i:Int} (h0:0<=i) (h1:i < 1024):((toString i:String):Str).length<=10:=by
 obtain⟨n,rfl⟩:=Int.eq_ofNat_of_zero_le h0
 have hn:n < 2 ^ 10:=by have:(1024:Int)=((2 ^ 10:Nat):Int):=by decide
                        lia
 have e:(toString (n:Int))=Nat.repr n:=rfl
 have:=nat_repr_length_le (k:=10) (by decide) hn
 rw [e,PySem.ofString_length]
 exact this
theorem dP:∀ {ys:List V},(∀ y ∈ ys,bN y)->piled (PyData.shownAll (ys.map bI))<=12*ys.length
 | [],_=>by simp [PyData.shownAll,piled]
 | y::ys,hp=>by
  have ih:=dP (ys:=ys) λz hz=>hp z (List.mem_cons_of_mem _ hz)
  rw [List.map_cons,PyData.shownAll,piled_cons,List.length_cons]
  have:(bI y).shown.length<=10:=by
   rcases hp y List.mem_cons_self with e | ⟨i,e,h0,h1⟩
   ·subst e;decide
   ·subst e;exact iI h0 h1
  lia
theorem cG:∀ {ys:List V},(∀ y ∈ ys,bN y)->PyData.showableAll (ys.map bI)=true
 | [],_=>rfl
 | y::ys,hp=>by
  have ih:=cG (ys:=ys) λz hz=>hp z (List.mem_cons_of_mem _ hz)
  rw [List.map_cons,PyData.showableAll,ih,Bool.and_true]
  rcases hp y List.mem_cons_self with e | ⟨i,e,h0,h1⟩
  ·subst e;rfl
  ·subst e
   show decide (i.natAbs.log2 < 1920)=true
   refine decide_eq_true ?_
   have hn0:i.natAbs < 1024:=by lia
   have hn:i.natAbs < 2 ^ 1920:=Nat.lt_of_lt_of_le (show i.natAbs < 2 ^ 10 from hn0) (Nat.pow_le_pow_right (by decide) (by decide))
   by_cases hz:i.natAbs=0
   ·rw [hz];decide
   ·exact (Nat.log2_lt hz).mpr hn
theorem dq:∀ {ys:List V},(∀ y ∈ ys,bN y)->PyData.hasDictAll (ys.map bI)=false
 | [],_=>rfl
 | y::ys,hp=>by
  have ih:=dq (ys:=ys) λz hz=>hp z (List.mem_cons_of_mem _ hz)
  rw [List.map_cons,PyData.hasDictAll,ih,Bool.or_false]
  rcases hp y List.mem_cons_self with e | ⟨i,e,_⟩<;>subst e<;>rfl
theorem gM:∀ {ys:List V},(∀ y ∈ ys,bN y)->(PyData.tuple (ys.map bI)).depth<=2:=by
 intro ys hp
 have:∀ {ys:List V},(∀ y ∈ ys,bN y)->PyData.depthAll (ys.map bI)<=1:=by
  intro ys
  induction ys with
  | nil=>intro _;simp [PyData.depthAll]
  | cons y ys ih=>
   intro hp
   have:=ih λz hz=>hp z (List.mem_cons_of_mem _ hz)
   rw [List.map_cons,PyData.depthAll]
   have:(bI y).depth<=1:=by
    rcases hp y List.mem_cons_self with e | ⟨i,e,_⟩<;>subst e<;>simp [bI,PyData.depth]
   lia
 have:=this hp
 simp only [PyData.depth]
 lia
theorem gR (hg:X.A.guards=some []) (hu:X.A.units+64 < cLine):aO X (.builtin "repr") (λxs H Q=>∃ a ys,xs=[.ref a]/\SqT X.K H a ys/\(∀ y ∈ ys,bN y)/\ys.length<=1000/\Q (.str (dg ys)) H):=by
 intro pins s σ H xs us Q I rv h
 obtain⟨a,ys,rfl,hq,hp,hl,q⟩:=h
 cases rv with
 | cons r rr=>
  cases rr
  cases r
  obtain⟨its,rv,p,hz⟩:=I.tuple hq
  obtain⟨o,ho,hc,n,hd⟩:=p
  have rd:Reads s.heap (.ref a) (.tuple (ys.map bI)) []:=.tuple ho hc hd (by simpa using cP rv hp)
  refine repr_of_reads' rd (cG hp) (PyData.noDict_hsm (dq hp)) hg (by have:=gM hp;lia) (λ_ _ e=>e) (λh' u tk hk=>⟨.str _,H,I.kept (t':=tk) hk,⟨u,rfl⟩,q⟩) ?_
  show (tupleText (PyData.shownAll (ys.map bI))).length<=sizeLine
  have hs:=dP hp
  have hz2:(Str.join ", " (PyData.shownAll (ys.map bI))).length<=12*ys.length:=by
   cases e:PyData.shownAll (ys.map bI) with
   | nil=>exact Nat.zero_le _
   | cons x r=>
    have:=join_length_add (PyData.shownAll (ys.map bI)) (by rw [e];simp)
    rw [e] at this
    rw [e] at hs
    lia
  unfold tupleText
  rw [strLen_append,strLen_append]
  have h2:((if (PyData.shownAll (ys.map bI)).length==1 then ",)" else ")" : String):Str).length<=2:=by split<;>decide
  have h1:((("(" : String):Str)).length=1:=rfl
  have hsz:sizeLine=16777216:=rfl
  have h1':(("(" : Str)).length=1:=rfl
  lia
end
end L2
namespace L2
open PySem PySem.Spec PyProof.Rows
noncomputable def cE (k:Nat) (js:List Nat) (σ:St):St:=List.replicate k none++js.map λj=>(σ[j]?).getD none
noncomputable def nv (scope:Scope) (ns:List (Str×NameKind)) (N Nc:List Str) (k:Nat) (js:List Nat):Bool:=
 decide ((scope.names.map (·.1)).Nodup) && decide Nc.Nodup && decide (Nc.length=k+js.length) &&
 (scope.names.all λx=>x.2 != .free || ns.lookup x.1==some .cell || ns.lookup x.1==some .free) &&
 ((List.range js.length).all λi=>match Nc[k+i]?,js[i]? with | some x,some j=>N[j]?==some x && scope.names.lookup x==some .free | _,_=>false)
theorem iF {X:Cx}{scope:Scope} (ns:List (Str×NameKind)) (N Nc:List Str) (k:Nat) (js:List Nat) (hns:X.env.scope.names=ns) (hN:X.N=N) (hk:scope.kind=.function) (h:nv scope ns N Nc k js=true):cS X scope Nc (cE k js):=by
 unfold nv at h
 simp only [Bool.and_eq_true,decide_eq_true_eq] at h
 obtain⟨⟨⟨⟨h1,h2⟩,h3⟩,h4⟩,h5⟩:=h
 refine⟨hk,h1,h2,λx hx hf=>?_,λσ _=>?_,λσ _ i x v e1 e2=>?_⟩
 ·have:=List.all_eq_true.mp h4 x hx
  rw [hf] at this
  simp only [Bool.or_eq_true,beq_iff_eq,bne_self_eq_false,Bool.false_eq_true,false_or] at this
  unfold Env.kindOf
  rw [hns]
  exact this
 ·unfold cE
  rw [List.length_append,List.length_replicate,List.length_map,h3]
 ·unfold cE at e2
  by_cases hi:i < k
  ·rw [List.getElem?_append_left (by simpa using hi),List.getElem?_replicate,if_pos hi] at e2
   cases e2
  ·rw [List.getElem?_append_right (by simpa using hi),List.length_replicate,List.getElem?_map] at e2
   cases ej:js[i - k]? with
   | none=>rw [ej] at e2;cases e2
   | some j=>
    rw [ej] at e2
    have hlt:=(List.getElem?_eq_some_iff.mp ej).1
    have:=List.all_eq_true.mp h5 (i - k) (List.mem_range.mpr hlt)
    rw [show k+(i - k)=i by lia,e1,ej] at this
    simp only [Bool.and_eq_true,beq_iff_eq] at this
    refine⟨j,by rw [hN];exact this.1,?_,this.2⟩
    have e3:(σ[j]?).getD none=some v:=Option.some.inj e2
    cases eq:σ[j]? with
    | none=>rw [eq] at e3;cases e3
    | some o=>rw [eq] at e3;rw [show o=some v from e3]
section
variable {σe tl:St}{tt:TT}{te:TE}{H:Hp}{Q:VK}
end
section
variable {X:Cx}
theorem kO:OpR X (binaryOp .Mult) (rI IntMulOk λi j=>.int (i*j)):=opI λ_ _ _ _ _ _ _ hc q=>mul_int q hc
end
theorem ay.new {H:Hp}{p:Addr} (h:H p=none) (o:HO):ay H (upd H p o):=λb u q=>by rw [ax (aD q h)];exact q
end L2
namespace L2
open PySem PySem.Spec PyProof.Rows
theorem iY {X:Cx} (hg:X.A.guards=some []) (hu:X.A.units+64 < cLine):aO X (.builtin "repr") (λxs H Q=>(∃ i:Int,xs=[.int i]/\i.natAbs.log2 < 1920/\Q (.str (toString i)) H)\/
  (∃ a ys,xs=[.ref a]/\SqT X.K H a ys/\(∀ y ∈ ys,bN y)/\ys.length<=1000/\Q (.str (dg ys)) H)):=aO.or hJ (gR hg hu)
theorem fG {n:Nat} (h:n<=1000):n<=sizeLine:=Nat.le_of_lt (iX h)
end L2
namespace L2
open PySem PySem.Spec PyProof.Rows
theorem nR:IntMulOk (10 ^ Int.toNat 60) (10 ^ Int.toNat 60):=by unfold IntMulOk;decide +kernel
theorem nQ:IntMulOk (10 ^ Int.toNat 60*10 ^ Int.toNat 60) (10 ^ Int.toNat 60):=by unfold IntMulOk;decide +kernel
theorem nn:IntMulOk (10 ^ Int.toNat 60*10 ^ Int.toNat 60*10 ^ Int.toNat 60) (10 ^ Int.toNat 60):=by unfold IntMulOk;decide +kernel
theorem fW:(0:Int) < 10 ^ Int.toNat 60*10 ^ Int.toNat 60*10 ^ Int.toNat 60*10 ^ Int.toNat 60:=by decide +kernel
theorem oa (b:Bool):-(2 ^ 64) < (if b=true then (1:Int) else 0):=by cases b<;>decide
theorem nK (b:Bool):(if b=true then (1:Int) else 0) < 2 ^ 64:=by cases b<;>decide
theorem ll (b:Bool):0<=(if b=true then (1:Int) else 0):=by cases b<;>decide
theorem p60:eL 10 60:=⟨by decide,by decide,by decide⟩
theorem p18:eL 10 18:=⟨by decide,by decide,by decide⟩
end L2
namespace L2
open PySem PySem.Spec PyProof.Rows
open PySem.AutoSeq1 (wpAny_loadPart')
theorem i7 (l:Addr) (items:Array Value) (n:Nat) (dct:Option Addr) (sl:Array (Option Value)) (u:Tok) :
  Meets (Builtin.«tuple.__mul__» ⟨[.ref l,.int 1 u],[]⟩) (λ_ R s=>s.heap.get? l=some { cls:=.type "tuple",dict:=dct,data:=.seq items n,slots:=sl }/\R (.ok (.ret (.ref l))) s):=
 .of_wp λprog w A R s h=>by
  obtain⟨hp,g,d,tk,os⟩:=s;obtain⟨hl,h⟩:=h
  wp_walk using wpAny_loadPart' hl
  exact⟨_,rfl,h⟩
theorem iG (l:Addr) (items:Array Value) (n:Nat) (dct:Option Addr) (sl:Array (Option Value)) (x:Int) (u:Tok) (h2:2<=x) (h3:x < 1000) (he:items.isEmpty=false) (hz:items.size<=1000)
  (hsz:((List.replicate x.toNat items).foldl (λx1 x2=>x1++x2) #[]).size<=sizeLine) :
  Meets (Builtin.«tuple.__mul__» ⟨[.ref l,.int x u],[]⟩) (λ_ R s=>s.heap.get? l=some { cls:=.type "tuple",dict:=dct,data:=.seq items n,slots:=sl }/\
   R (.ok (.ret (.ref s.heap.objs.size))) { s with heap:=s.heap.push { cls:=.type "tuple",data:=.seq ((List.replicate x.toNat items).foldl (λx1 x2=>x1++x2) #[]) } }):=
 .of_wp λprog w A R s h=>by
  obtain⟨hp,g,d,tk,os⟩:=s;obtain⟨hl,h⟩:=h
  have c1:(x < -(2 ^ 63) || x>=2 ^ 63)=false:=by simp;lia
  have c2:(items.isEmpty || x==1)=false:=by rw [he];simp;lia
  have c3:(x<=0 || items.isEmpty)=false:=by rw [he];simp;lia
  have hpr:(items.size:Int)*x<=1000000:=by
   have a1:(items.size:Int)*x<=1000*x:=Int.mul_le_mul_of_nonneg_right (by lia) (by lia)
   lia
  have c4:¬ ((items.size:Int)*x > (2 ^ 63 - 1) / 8):=by lia
  have c5:Builtin.Tuple.tupleTooMany ((items.size:Int)*x)=false:=by
   unfold Builtin.Tuple.tupleTooMany
   exact decide_eq_false (by have:(sizeLine:Nat)=16777216:=rfl
                             lia)
  wp_walk using wpAny_loadPart' hl
  refine wpAny_ite_false (decide_eq_false (by rw [c1];exact Bool.false_ne_true)) ?_
  wp_walk using wpAny_loadPart' hl
  refine wpAny_ite_false (decide_eq_false (by rw [c2];exact Bool.false_ne_true)) ?_
  wp_walk using wpAny_loadPart' hl
  refine wpAny_ite_false (decide_eq_false (by rw [c3];exact Bool.false_ne_true)) ?_
  wp_walk using wpAny_loadPart' hl
  refine wpAny_ite_false (decide_eq_false c4) ?_
  wp_walk using wpAny_loadPart' hl
  exact⟨_,rfl,h⟩
theorem dG:fillsNumberSlot (.type "tuple") "mul" = pure false:=
 PySem.fillsNumberSlot_seq (id:="tuple.__mul__") (r:=some (.builtin "tuple.__rmul__")) F.slot_tuple_mul.lookup (by decide +kernel) F.slot_tuple_rmul.lookup (by decide +kernel)
theorem fv:seqRepeat? (.type "tuple")=pure (some (.builtin "tuple.__mul__")):=by
 unfold seqRepeat?
 rw [PySem.seqSlot_of (T:="tuple") (name:="__mul__") (id:="tuple.__mul__") F.slot_tuple_mul.lookup (by decide +kernel),PySem.seqSlot_of (T:="tuple") (name:="__rmul__") (id:="tuple.__rmul__") F.slot_tuple_rmul.lookup (by decide +kernel)]
 rfl
theorem ec (a:Int) (t:Tok) (l:Addr) (items:Array Value) (n:Nat) (dct:Option Addr) (sl:Array (Option Value)) :
  Meets (Builtin.«int.__rmul__» ⟨[.int a t,.ref l],[]⟩) (λ_ R s=>s.heap.get? l=some { cls:=.type "tuple",dict:=dct,data:=.seq items n,slots:=sl }/\R (.ok (.ret Value.notImplemented)) s):=
 .of_wp λprog w A R s h=>by obtain⟨hp,g,d,tk,os⟩:=s;obtain⟨hl,h⟩:=h;wp_walk using wpAny_loadPart' hl;exact⟨_,rfl,h⟩
section
variable {X:Cx}
noncomputable def nO (K:PySem.W.Frag):R2:=λx y H Q=>∃ l k xs,x=.ref l/\y=.int k/\SqT K H l xs/\xs≠[]/\xs.length<=1000/\1<=k/\k < 1000/\(k=1->Q (.ref l) H)/\
 (k≠1->∀ p,H p=none->Q (.ref p) (upd H p (.tup (List.replicate k.toNat xs).flatten)))
theorem kT:OpR X (binaryOp .Mult) (nO X.K):=by
 intro pins s σ H x y v u Q I rx ry h
 obtain⟨l,k,xs,rfl,rfl,hq,hne,hl1,h1,h2,q1,q2⟩:=h
 cases rx
 obtain⟨t,rfl⟩:=ry
 obtain⟨its,rv,p,hz⟩:=I.tuple hq
 obtain⟨⟨c,dct,dt,sl⟩,e,hc,n,hd⟩:=p
 replace hc:c=.type "tuple":=hc
 replace hd:dt=.seq its.toArray n:=hd
 subst hc hd
 have hlen:=rv.length
 refine wpAny_binaryOp_repeat_ref (T:="tuple") (U:="int") (by decide) ⟨_,e,rfl⟩ (λs'=>typeIs_int s' k t) dG F.fills_int_mul F.slot_int_rmul fv F.slot_int_index.lookup
  (call_meets F.slot_int_rmul (typeIs_int s k t) F.entry_int_rmul (F.args_int_rmul_2 _ _) (ec k t l its.toArray n dct sl) ⟨e,rfl,⟨_,e,rfl⟩,?_⟩)
 by_cases hk:k=1
 ·subst hk
  exact call_meets F.slot_tuple_mul ⟨_,e,rfl⟩ F.entry_tuple_mul (F.args_tuple_mul_2 _ _) (i7 l its.toArray n dct sl t) ⟨e,.ref l,H,I,rfl,q1 rfl⟩
 ·have f0:List.foldl (λx1 x2=>x1++x2) #[] (List.replicate k.toNat its.toArray)=(List.replicate k.toNat its).flatten.toArray:=by
   have:=dy its k.toNat []
   rw [List.nil_append] at this
   exact this
  have hsz:(List.replicate k.toNat xs).flatten.length<=sizeLine:=by
   rw [fT]
   have:k.toNat*xs.length<=1000*1000:=Nat.mul_le_mul (by lia) hl1
   have hs:sizeLine=16777216:=rfl
   lia
  have hsz2:(List.replicate k.toNat its).flatten.length<=sizeLine:=by
   rw [fT] at hsz ⊢
   rw [<-hlen];exact hsz
  refine call_meets F.slot_tuple_mul ⟨_,e,rfl⟩ F.entry_tuple_mul (F.args_tuple_mul_2 _ _) (iG l its.toArray n dct sl k t (by lia) h2 ?_ (by rw [List.size_toArray];lia) (by rw [f0,List.size_toArray];exact hsz2)) ⟨e,?_⟩
  ·cases its with
   | nil=>cases xs with
    | nil=>exact absurd rfl hne
    | cons _ _=>cases hlen
   | cons _ _=>rfl
  ·rw [f0]
   refine⟨.ref _,_,I.laid (t':=s.toks) (o:=.tup (List.replicate k.toNat xs).flatten) (λ_ _ q=>Heap.get?_push_of_some _ q) (Nat.le_refl _) ⟨hsz,(List.replicate k.toNat its).flatten,rv.rep k.toNat,⟨_,Heap.get?_push_size _ rfl,rfl,⟨0,rfl⟩,rfl⟩⟩,rfl,q2 hk _ I.fresh⟩
end
end L2
namespace L2
open PySem PySem.Spec PyProof.Rows
end L2
namespace L2
open PySem PySem.Spec PyProof.Rows
section
variable {X:Cx}{K:PySem.W.Frag}
theorem np (hc:X.calm=true:=by rfl) (hK:X.K=K:=by rfl):aO X (.builtin "all") (λxs H Q=>∃ (a:Addr) (bs:List Bool),xs=[.ref a]/\SqL K H a (bs.map V.bl)/\Q (.bl (bs.all id)) H):=by
 subst hK
 intro pins s σ H xs us Q I rv h
 exact jG pins s σ H xs us Q I rv ⟨hc,h⟩
theorem jr {k:Nat} (hr:bj k X.A) (hK:X.K=K:=by rfl):aO X (.builtin "repr") (λxs H Q=>(∃ i:Int,xs=[.int i]/\i.natAbs.log2 < 1920/\Q (.str (toString i)) H)\/
  (∃ a ys,xs=[.ref a]/\SqT K H a ys/\(∀ y ∈ ys,bN y)/\ys.length<=1000/\Q (.str (dg ys)) H)):=by subst hK;exact iY hr.gd hr.units
end
end L2
namespace L2
open PySem PySem.Spec PyProof.Rows
section
variable {X:Cx}
end
end L2
namespace L2
open PySem PySem.Spec PyProof.Rows
theorem fr {n j:Nat} (h:j < n):ixN n (j:Int)=some j:=by
 unfold ixN
 rw [if_pos (by lia),if_pos (by lia),Int.toNat_natCast]
end L2
namespace L2
open PySem PySem.Spec PyProof.Rows
theorem gp {prog:Program}{w:World}{A:Around}{E:Value->Shared->Prop}{s:Shared}{Q:Int->Shared->Prop} (h:Q 0xFCA86420 { s with toks:=s.toks+1 }) :
  wpAny (model prog w) A (pyHash .none) Q E s:=by
 unfold pyHash
 have hv:[Value.none].any Value.onHeap=false:=rfl
 refine wpAny_bind ?_
 rw [cRoomFor,if_neg (by rw [hv];exact Bool.false_ne_true)];refine wpAny_pure ?_
 refine wpAny_bind (wpAny_specialOf (typeIs_none s) F.slot_NoneType_hash.lookup ?_)
 show wpAny _ _ (if (some (Value.builtin "NoneType.__hash__")==some Value.none)=true then _ else _) Q E s
 rw [if_neg (by rw [beq_builtin_none];exact Bool.false_ne_true)]
 refine wpAny_bind (wpAny_specialOf (typeIs_none s) F.slot_NoneType_hash.lookup ?_)
 show wpAny _ _ (callSpecialIfBoundUnlessNone? .none "__hash__" _ >>= _) Q E s
 refine wpAny_bind (wpAny_callSpecialIfBoundUnlessNone?_slot (typeIs_none s) F.slot_NoneType_hash
  (wpAny_call_entry F.slot_NoneType_hash (typeIs_none s) F.entry_NoneType_hash
    (show wpAny _ _ (do ret (<-mkInt 0xFCA86420)) _ _ s from wpAny_ret_mkInt ?_) (F.args_NoneType_hash_1 _)))
 show wpAny _ _ (if (decide (-(2:Int) ^ 63<=0xFCA86420) && decide ((0xFCA86420:Int) < 2 ^ 63))=true then _ else _) Q E _
 rw [if_pos (by decide)]
 exact wpAny_pure h
noncomputable def oIs:Option Int->Value->Bool
 | none,.none=>true
 | some i,v=>Value.isInt i v
 | _,_=>false
theorem aX {k:Option Int}{v:Value} (h:oIs k v=true):(k=none/\v=.none)\/∃ i t,k=some i/\v=.int i t:=by
 cases k with
 | none=>cases v<;>first | exact .inl ⟨rfl,rfl⟩ | cases h
 | some i=>obtain⟨t,e⟩:=Value.isInt_shape h;exact .inr ⟨i,t,rfl,e⟩
noncomputable def bL (prog:Program) (w:World):PySem.KeyKind prog w (Option Int) where
 is:=oIs
 hash:=λk=>match k with | none=>0xFCA86420 | some i=>hashInt i
 inj:=λv a b ha hb=>by
  rcases aX ha with⟨rfl,rfl⟩ | ⟨i,t,rfl,rfl⟩
  ·rcases aX hb with⟨rfl,e⟩ | ⟨j,u,rfl,e⟩
   ·rfl
   ·cases e
  ·rcases aX hb with⟨rfl,e⟩ | ⟨j,u,rfl,e⟩
   ·cases e
   ·cases e;rfl
 byValue:=λk v h=>by
  rcases aX h with⟨rfl,rfl⟩ | ⟨i,t,rfl,rfl⟩<;>rfl
 pyHash:=λhv h=>by
  rcases aX hv with⟨rfl,rfl⟩ | ⟨i,t,rfl,rfl⟩
  ·exact gp h
  ·exact wpAny_pyHash_int h
 eqBool:=λhu hv h=>by
  rcases aX hu with⟨rfl,rfl⟩ | ⟨i,t,rfl,rfl⟩
  ·rcases aX hv with⟨rfl,rfl⟩ | ⟨j,u,rfl,rfl⟩
   ·exact SeqAt.EqAt.same .none _ _ _ _ h
   ·exact SeqAt.EqAt.none_int j u _ _ _ _ h
  ·rcases aX hv with⟨rfl,rfl⟩ | ⟨j,u,rfl,rfl⟩
   ·exact SeqAt.EqAt.int_none i t _ _ _ _ h
   ·refine wpAny_eqBool_int ?_
    have e:decide (some i=some j)=(i==j):=by rw [Bool.eq_iff_iff];simp
    rw [<-e];exact h
 «strs»:=λk x t v h=>by
  rcases aX h with⟨_,e⟩ | ⟨_,_,_,e⟩<;>cases e
theorem Inv.bigG {X:Cx}{pins:List (Addr×Obj)}{σ:St}{H:Hp}{s:Shared} (I:Inv X pins σ H s):sysModules < s.heap.objs.size:=by
 have h:mainGlobals < s.heap.objs.size:=(I.mod.glob.keeps I.bk).lt
 exact Nat.lt_trans (by decide) h
section
variable {X:Cx}{e:Expr}{ty:TE}{p1 p2 p3 p4 dpos apos cpos:Pos}{j1 j2 j3 j4:Nat}
end
end L2
namespace L2
open PySem PySem.Spec PyProof.Rows
end L2
namespace L2
open PySem PySem.Spec PyProof.Rows
open PySem.AutoSeq1 (wpAny_loadPart')
section
variable {prog:Program}{w:World}{A:Around}{E:Value->Shared->Prop}{s:Shared}
end
section
variable {X:Cx}
end
section
variable {prog:Program}{w:World}{A:Around}{E:Value->Shared->Prop}{s:Shared}
end
section
variable {X:Cx}{e:Expr}{te:TE}{p1 p2 p3 pos:Pos}{j:Nat}
end
end L2
namespace L2
open PySem PySem.Spec PyProof.Rows
end L2
namespace L2
open PySem PySem.Spec PyProof.Rows
theorem ak.at {xs:List V}{us:List Value} (r:ak xs us):∀ (j:Nat) (h:j < us.length) ,∃ h':j < xs.length,al xs[j] us[j]:=by
 induction r with
 | nil=>intro j h;exact absurd h (Nat.not_lt_zero j)
 | cons a t ih=>
  intro j h
  cases j with
  | zero=>exact⟨Nat.zero_lt_succ _,a⟩
  | succ j=>
   obtain⟨h1,r1⟩:=ih j (Nat.lt_of_succ_lt_succ h)
   exact⟨Nat.succ_lt_succ h1,r1⟩
theorem d2 (e:Nat->Bool) (n:Nat):(List.range (n+1)).all e=(e 0 && (List.range n).all λj=>e (j+1)):=by
 rw [List.range_succ_eq_map,List.all_cons,List.all_map];rfl
section
variable {X:Cx}{K:PySem.W.Frag}{pins:List (Addr×Obj)}{σ:St}{H:Hp}{s:Shared}{A:Around}{a b:Addr}{xs ys:List V}
end
end L2
namespace L2
open PySem PySem.Spec PyProof.Rows
section
variable {X:Cx}{pos p1 p2:Pos}{j1 j2:Nat}
end
section
variable {K:PySem.W.Frag}{H:Hp}
end
section
variable {X:Cx}{K:PySem.W.Frag}
end
end L2
namespace HT
open PySem PySem.Spec PyProof.Rows L2
section
variable {prog:Program}{w:World}{A:Around}{E:Value->Shared->Prop}{s:Shared}
end
end HT
namespace L2
open PySem PySem.Spec PyProof.Rows
end L2
namespace L2
open PySem PySem.Spec PyProof.Rows
section
variable {X:Cx}{scope:Scope}{Nc:List Str}{emb:St->St}{elt iter tg:Expr}{ifs:List Expr}{pos:Pos}{wi:TI}{g:TG}{tt:TT}{te:TE}
end
end L2
namespace L2
open PySem PySem.Spec PyProof.Rows
noncomputable def aG:Expr->Bool
 | .Starred _ _=>false
 | _=>true
theorem br {e:Expr}{es:List Expr}{env:Env} (h:aG e=true):starEach (e::es) env=(false,eval e env)::starEach es env:=by
 cases e<;>first | (cases h;done) | rfl
theorem ck {pos:Pos}{env:Env}:∀ {es:List Expr},es.all aG=true->(backTo pos (starEach es env)).any (·.1)=false
 | [],_=>by simp [starEach,backTo]
 | e::es,h=>by
  rw [List.all_cons,Bool.and_eq_true] at h
  rw [br h.1]
  have:=ck (pos:=pos) (env:=env) h.2
  unfold backTo at this ⊢
  rw [List.map_cons,List.any_cons,this]
  rfl
theorem jD {pos:Pos}{env:Env}{es:List Expr} (h:es.all aG=true) (hl:es.length < 30):((backTo pos (starEach es env)).all (λx=>!x.1) && (backToKw pos (keywordEach [] env)).all (λx=>x.1.isSome)
   && decide (es.length+([]:List Keyword).length+(if ([]:List Keyword).isEmpty then 0 else 1) < 30))=true:=by
 have h1:(backTo pos (starEach es env)).all (λx=>!x.1)=true:=by
  have:=ck (pos:=pos) (env:=env) h
  rw [List.all_eq_true]
  intro x hx
  rw [List.any_eq_false] at this
  simpa using this x hx
 have h2:(backToKw pos (keywordEach [] env)).all (λx=>x.1.isSome)=true:=by simp [keywordEach,backToKw]
 rw [h1,h2]
 simpa using hl
theorem jv {e:Expr}{env:Env} (h:aG e=true):starEach [e] env=[(false,eval e env)]:=by rw [br h];rfl
noncomputable def jx:Expr->Bool
 | .UnaryOp .Not _ _=>false
 | .BoolOp _ _ _=>false
 | .IfExp _ _ _ _=>false
 | .Compare _ _ _ _=>false
 | _=>true
theorem i3 {a:Expr}{env:Env} (h:jx a=true):∀ whole,PySem.isTrue a env whole=(do let v <-whole;standAt a.pos;holding [v] (truthy v)):=by
 intro whole
 cases a with
 | UnaryOp op x p=>cases op<;>first | (cases h;done) | rfl
 | BoolOp _ _ _=>cases h
 | IfExp _ _ _ _=>cases h
 | Compare _ _ _ _=>cases h
 | _=>rfl
theorem jy {t:Expr}{ts:List Expr}{env:Env} (h:aG t=true):assignEach (t::ts) env=(false,assign t env)::assignEach ts env:=by
 cases t<;>first | (cases h;done) | rfl
theorem la {t:Expr}{ts:List Expr}{env:Env} (h:aG t=true):(assignEach (t::ts) env).map (·.2)=assign t env::(assignEach ts env).map (·.2):=by rw [jy h];rfl
theorem kS {t:Expr}{env:Env} (h:aG t=true):(assignEach [t] env).map (·.2)=[assign t env]:=by rw [la h];simp [assignEach]
noncomputable def eA:Expr->Bool
 | .Slice _ _ _ _=>false
 | _=>true
theorem kJ {o i:Expr}{pos:Pos}{env:Env} (h:eA i=true) (v:Value):assign (.Subscript o i pos) env v=(do
   let ov <-holding [v] (eval o env)
   let iv <-holding [v,ov] (eval i env)
   standAt pos
   holding [v,ov,iv] (setItem ov iv v)
   release [v,ov,iv] []):=by
 cases i<;>first | (cases h;done) | rfl
theorem gn {i:Expr} (h:eA i=true):iz i:=by
 intro o j
 cases i<;>first | (cases h;done) | rfl
end L2
namespace L2
open PySem PySem.Spec PyProof.Rows
inductive D where
 | non | bl (b:Bool) | int (i:Int) | str (x:Str) | ty (n:String) | dct | scr (ns:List Int) | tup (ds:List D) | lst (ds:List D)
 deriving Inhabited
inductive W where
 | d (x:D) | h (n:Nat)
 deriving Inhabited
inductive C where
 | l (ds:List D) | n (ws:List W) | m (kvs:List (List Int×D)) | k (kvs:List (Int×D))
 deriving Inhabited
abbrev Sto:=List C
noncomputable def lg (st:Sto) (n:Nat):Option (List D):=match st[n]? with
 | some (.l ds)=>some ds
 | _=>none
noncomputable def ow (l:List Int):List Key:=l.map Sum.inl
abbrev Ev:=List (Option W)
noncomputable def KLs (K:PySem.W.Frag) (a:Addr) (xs:List V):Prop:=
 ∃ (o:Obj) (its:Array Value) (n:Nat),K.lookup a=some o/\o.cls=.type "list"/\o.dict=none/\o.data=.seq its n/\its.size<=sizeLine/\ak xs its.toList
section
variable (K:PySem.W.Frag) (H:Hp) (φ:List Addr)
mutual
noncomputable def Rl:D->V->Prop
 | .non,v=>v=.non
 | .bl b,v=>v=.bl b
 | .int i,v=>v=.int i
 | .str x,v=>v=.str x
 | .ty n,v=>v=.ty n
 | .dct,v=>∃ a,v=.ref a/\a ∉ φ/\((∃ d,H a=some (.dK d))\/∃ d,H a=some (.dT d))
 | .scr ns,v=>∃ a,v=.ref a/\((∃ o,H a=some (.frz o (.lst (ns.map V.int))))\/KLs K a (ns.map V.int))
 | .tup ds,v=>∃ a vs,v=.ref a/\H a=some (.tup vs)/\Rls ds vs
 | .lst ds,v=>∃ a vs,v=.ref a/\a ∉ φ/\Rd H a (.lst vs)/\Rls ds vs
noncomputable def Rls:List D->List V->Prop
 | [],vs=>vs=[]
 | d::ds,vs=>∃ v r,vs=v::r/\Rl d v/\Rls ds r
end
noncomputable def Rw:W->V->Prop
 | .d x,v=>Rl K H φ x v
 | .h n,v=>∃ a,φ[n]?=some a/\v=.ref a
noncomputable def Rws:List W->List V->Prop
 | [],vs=>vs=[]
 | d::ds,vs=>∃ v r,vs=v::r/\Rw K H φ d v/\Rws ds r
noncomputable def Rkv:List (List Int×D)->List (List Key×V)->Prop
 | [],vs=>vs=[]
 | (k,d)::ds,vs=>∃ v r,vs=(ow k,v)::r/\Rl K H φ d v/\Rkv ds r
noncomputable def Rkk:List (Int×D)->List (Key×V)->Prop
 | [],vs=>vs=[]
 | (k,d)::ds,vs=>∃ v r,vs=(Sum.inl k,v)::r/\Rl K H φ d v/\Rkk ds r
noncomputable def Rc (k:Nat) (a:Addr):C->Prop
 | .l ds=>∃ vs,H a=some (.lst vs)/\Rls K H φ ds vs
 | .n ws=>∃ vs,H a=some (.lst vs)/\Rws K H φ ws vs/\∀ m,W.h m ∈ ws->m < k
 | .m kvs=>∃ vs,H a=some (.dT vs)/\Rkv K H φ kvs vs
 | .k kvs=>∃ vs,H a=some (.dK vs)/\Rkk K H φ kvs vs
structure Sr (st:Sto):Prop where
 nd:φ.Nodup
 len:φ.length=st.length
 at_:∀ (n:Nat) a c,φ[n]?=some a->st[n]?=some c->Rc K H φ n a c
structure Er (env:Ev) (σ:St):Prop where
 len:env.length=σ.length
 at_:∀ (i:Nat) w,env[i]?=some (some w)->∃ v,σ[i]?=some (some v)/\Rw K H φ w v
end
structure Fw (φ φ':List Addr) (H H':Hp):Prop where
 ext:∃ ψ,φ'=φ++ψ/\∀ a ∈ ψ,H a=none
 keep:∀ b o,b ∉ φ->H b=some o->H' b=some o
 there:∀ b o,H b=some o->∃ o',H' b=some o'
section
variable {K:PySem.W.Frag}{H H1 H2 H':Hp}{φ φ1 φ2 φ':List Addr}{st st':Sto}
theorem Fw.refl (φ:List Addr) (H:Hp):Fw φ φ H H:=⟨⟨[],by simp,by simp⟩,λ_ _ _ h=>h,λ_ o h=>⟨o,h⟩⟩
theorem Fw.trans (a:Fw φ φ1 H H1) (b:Fw φ1 φ2 H1 H2):Fw φ φ2 H H2:=by
 obtain⟨ψ,rfl,e1⟩:=a.ext
 obtain⟨ψ2,rfl,e2⟩:=b.ext
 refine⟨⟨ψ++ψ2,by rw [List.append_assoc],λc hc=>?_⟩,λc o hc h=>?_,λc o h=>?_⟩
 ·rcases List.mem_append.mp hc with z | z
  ·exact e1 c z
  ·cases q:H c with
   | none=>rfl
   | some o=>
    obtain⟨o',q'⟩:=a.there c o q
    rw [e2 c z] at q';cases q'
 ·refine b.keep c o (λz=>?_) (a.keep c o hc h)
  rcases List.mem_append.mp z with z | z
  ·exact hc z
  ·rw [e1 c z] at h;cases h
 ·obtain⟨o',q⟩:=a.there c o h
  exact b.there c o' q
theorem Fw.same (s:ay H H'):Fw φ φ H H':=⟨⟨[],by simp,by simp⟩,λb o _ h=>s b o h,λb o h=>⟨o,s b o h⟩⟩
theorem Fw.new {p:Addr}{o:HO} (hp:H p=none):Fw φ φ H (upd H p o):=.same (ay.new hp o)
theorem Fw.get (f:Fw φ φ' H H') {n:Nat}{a:Addr} (h:φ[n]?=some a):φ'[n]?=some a:=by
 obtain⟨ψ,rfl,_⟩:=f.ext
 rw [List.getElem?_append_left (List.getElem?_eq_some_iff.mp h).1];exact h
theorem Fw.nin (f:Fw φ φ' H H') {a:Addr}{o:HO} (h:a ∉ φ) (q:H a=some o):a ∉ φ':=by
 obtain⟨ψ,rfl,e⟩:=f.ext
 intro z
 rcases List.mem_append.mp z with z | z
 ·exact h z
 ·rw [e a z] at q;cases q
noncomputable def nw:HO->Bool
 | .lst _=>true
 | .dT _=>true
 | .dK _=>true
 | _=>false
theorem Rc.ob {k:Nat}{a:Addr}{c:C} (h:Rc K H φ k a c):∃ o,H a=some o/\nw o=true:=by
 cases c with
 | l ds=>obtain⟨vs,q,_⟩:=h;exact⟨_,q,rfl⟩
 | n ds=>obtain⟨vs,q,_⟩:=h;exact⟨_,q,rfl⟩
 | m ds=>obtain⟨vs,q,_⟩:=h;exact⟨_,q,rfl⟩
 | k ds=>obtain⟨vs,q,_⟩:=h;exact⟨_,q,rfl⟩
theorem Sr.lst (S:Sr K H φ st) {a:Addr} (h:a ∈ φ):∃ o,H a=some o/\nw o=true:=by
 obtain⟨n,hn,e⟩:=List.mem_iff_getElem.mp h
 have hs:n < st.length:=by rw [<-S.len];exact hn
 exact (S.at_ n a st[n] (by rw [List.getElem?_eq_getElem hn,e]) (by rw [List.getElem?_eq_getElem hs])).ob
theorem kH {st:Sto}{n:Nat}{ds:List D} (h:lg st n=some ds):st[n]?=some (.l ds):=by
 unfold lg at h
 split at h
 ·rename_i q;cases h;exact q
 ·cases h
theorem Sr.atl (S:Sr K H φ st) (n:Nat) (a:Addr) (ds:List D) (e1:φ[n]?=some a) (e2:lg st n=some ds):∃ vs,H a=some (.lst vs)/\Rls K H φ ds vs:=S.at_ n a _ e1 (kH e2)
theorem Sr.nin (S:Sr K H φ st) {a:Addr} (h:H a=none):a ∉ φ:=λz=>by
 obtain⟨vs,q,_⟩:=S.lst z
 rw [q] at h;cases h
theorem Rd.nin (S:Sr K H φ st) {a:Addr}{vs:List V} (h:Rd H a (.tup vs)):a ∉ φ:=λz=>by
 obtain⟨ws,q,qm⟩:=S.lst z
 rcases h with h | ⟨o,h⟩<;>(rw [q] at h;cases h;cases qm)
theorem Rd.fw (f:Fw φ φ' H H') {a:Addr}{u:HO} (hn:a ∉ φ) (h:Rd H a u):Rd H' a u:=by
 rcases h with h | ⟨o,h⟩
 ·exact .inl (f.keep _ _ hn h)
 ·exact .inr ⟨o,f.keep _ _ hn h⟩
theorem SqT.fw (S:Sr K H φ st) (f:Fw φ φ' H H') {a:Addr}{vs:List V} (h:SqT K H a vs):SqT K H' a vs:=by
 rcases h with h | h
 ·exact .inl (f.keep _ _ (Rd.nin S (.inl h)) h)
 ·exact .inr h
theorem Rd.some {a:Addr}{u:HO} (h:Rd H a u):∃ o,H a=some o:=by
 rcases h with h | ⟨o,h⟩
 ·exact⟨_,h⟩
 ·exact⟨_,h⟩
mutual
theorem Rl.fw (S:Sr K H φ st) (f:Fw φ φ' H H'):∀ {d:D}{v:V},Rl K H φ d v->Rl K H' φ' d v
 | .non,_,h=>h
 | .bl _,_,h=>h
 | .int _,_,h=>h
 | .str _,_,h=>h
 | .ty _,_,h=>h
 | .dct,_,h=>by
  obtain⟨a,rfl,hn,h⟩:=h
  rcases h with⟨d,h⟩ | ⟨d,h⟩
  ·exact⟨a,rfl,f.nin hn h,.inl ⟨d,f.keep _ _ hn h⟩⟩
  ·exact⟨a,rfl,f.nin hn h,.inr ⟨d,f.keep _ _ hn h⟩⟩
 | .scr ns,_,h=>by
  obtain⟨a,rfl,h⟩:=h
  refine⟨a,rfl,?_⟩
  rcases h with⟨o,h⟩ | h
  ·refine .inl ⟨o,f.keep _ _ (λz=>?_) h⟩
   obtain⟨ws,q,qm⟩:=S.lst z
   rw [q] at h;cases h;cases qm
  ·exact .inr h
 | .tup ds,_,h=>by
  obtain⟨a,vs,rfl,h1,h2⟩:=h
  exact⟨a,vs,rfl,f.keep _ _ (Rd.nin S (.inl h1)) h1,Rls.fw S f h2⟩
 | .lst ds,_,h=>by
  obtain⟨a,vs,rfl,h0,h1,h2⟩:=h
  obtain⟨o,e⟩:=h1.some
  exact⟨a,vs,rfl,f.nin h0 e,h1.fw f h0,Rls.fw S f h2⟩
theorem Rls.fw (S:Sr K H φ st) (f:Fw φ φ' H H'):∀ {ds:List D}{vs:List V},Rls K H φ ds vs->Rls K H' φ' ds vs
 | [],_,h=>h
 | d::ds,_,h=>by
  obtain⟨v,r,rfl,h1,h2⟩:=h
  exact⟨v,r,rfl,Rl.fw S f h1,Rls.fw S f h2⟩
end
theorem Rw.fw (S:Sr K H φ st) (f:Fw φ φ' H H') {w:W}{v:V} (h:Rw K H φ w v):Rw K H' φ' w v:=by
 cases w with
 | d x=>exact Rl.fw S f h
 | h n=>obtain⟨a,e,rfl⟩:=h;exact⟨a,f.get e,rfl⟩
theorem Rws.fw (S:Sr K H φ st) (f:Fw φ φ' H H'):∀ {ws:List W}{vs:List V},Rws K H φ ws vs->Rws K H' φ' ws vs
 | [],_,h=>h
 | d::ds,_,h=>by
  obtain⟨v,r,rfl,h1,h2⟩:=h
  exact⟨v,r,rfl,h1.fw S f,Rws.fw S f h2⟩
theorem Er.fw (S:Sr K H φ st) (f:Fw φ φ' H H') {env:Ev}{σ:St} (h:Er K H φ env σ):Er K H' φ' env σ:=
 ⟨h.len,λi w e=>let ⟨v,e1,r⟩:=h.at_ i w e;⟨v,e1,r.fw S f⟩⟩
theorem Rkv.fw (S:Sr K H φ st) (f:Fw φ φ' H H'):∀ {ds:List (List Int×D)}{vs:List (List Key×V)},Rkv K H φ ds vs->Rkv K H' φ' ds vs
 | [],_,h=>h
 | (k,d)::ds,_,h=>by
  obtain⟨v,r,rfl,h1,h2⟩:=h
  exact⟨v,r,rfl,Rl.fw S f h1,Rkv.fw S f h2⟩
theorem Rkk.fw (S:Sr K H φ st) (f:Fw φ φ' H H'):∀ {ds:List (Int×D)}{vs:List (Key×V)},Rkk K H φ ds vs->Rkk K H' φ' ds vs
 | [],_,h=>h
 | (k,d)::ds,_,h=>by
  obtain⟨v,r,rfl,h1,h2⟩:=h
  exact⟨v,r,rfl,Rl.fw S f h1,Rkk.fw S f h2⟩
theorem Rc.fw (S:Sr K H φ st) (f:Fw φ φ' H H') {k:Nat}{a:Addr}{c:C} (e:∀ o,H a=some o->H' a=some o) (h:Rc K H φ k a c):Rc K H' φ' k a c:=by
 cases c with
 | l ds=>obtain⟨vs,q,r⟩:=h;exact⟨vs,e _ q,r.fw S f⟩
 | n ds=>obtain⟨vs,q,r,b⟩:=h;exact⟨vs,e _ q,r.fw S f,b⟩
 | m ds=>obtain⟨vs,q,r⟩:=h;exact⟨vs,e _ q,r.fw S f⟩
 | k ds=>obtain⟨vs,q,r⟩:=h;exact⟨vs,e _ q,r.fw S f⟩
theorem Sr.same (S:Sr K H φ st) (s:ay H H'):Sr K H' φ st:=
 ⟨S.nd,S.len,λn a c e1 e2=>(S.at_ n a c e1 e2).fw S (Fw.same s) λo h=>s _ _ h⟩
theorem Sr.new (S:Sr K H φ st) {p:Addr}{o:HO} (hp:H p=none):Sr K (upd H p o) φ st:=S.same (ay.new hp o)
theorem Rls.length:∀ {ds:List D}{vs:List V},Rls K H φ ds vs->ds.length=vs.length
 | [],_,h=>by cases h;rfl
 | d::ds,_,h=>by
  obtain⟨v,r,rfl,h1,h2⟩:=h
  rw [List.length_cons,List.length_cons,Rls.length h2]
theorem Rws.length:∀ {ds:List W}{vs:List V},Rws K H φ ds vs->ds.length=vs.length
 | [],_,h=>by cases h;rfl
 | d::ds,_,h=>by
  obtain⟨v,r,rfl,h1,h2⟩:=h
  rw [List.length_cons,List.length_cons,Rws.length h2]
theorem Rls.append:∀ {ds es:List D}{vs us:List V},Rls K H φ ds vs->Rls K H φ es us->Rls K H φ (ds++es) (vs++us)
 | [],_,_,_,h,h'=>by cases h;exact h'
 | d::ds,_,_,_,h,h'=>by
  obtain⟨v,r,rfl,h1,h2⟩:=h
  exact⟨v,r++_,rfl,h1,Rls.append h2 h'⟩
theorem Rls.get:∀ {ds:List D}{vs:List V},Rls K H φ ds vs->∀ {i:Nat}{d:D},ds[i]?=some d->∃ v,vs[i]?=some v/\Rl K H φ d v
 | [],_,h,i,d,e=>by simp at e
 | d::ds,_,h,i,e,q=>by
  obtain⟨v,r,rfl,h1,h2⟩:=h
  cases i with
  | zero=>simp at q;subst q;exact⟨v,rfl,h1⟩
  | succ i=>simpa using Rls.get h2 (i:=i) (d:=e) (by simpa using q)
theorem Rls.set:∀ {ds:List D}{vs:List V} (n:Nat) {d:D}{v:V},Rls K H φ ds vs->Rl K H φ d v->Rls K H φ (ds.set n d) (vs.set n v)
 | [],_,_,_,_,h,_=>by cases h;exact rfl
 | e::ds,_,0,d,v,h,hd=>by
  obtain⟨u,r,rfl,h1,h2⟩:=h
  exact⟨v,r,rfl,hd,h2⟩
 | e::ds,_,n+1,d,v,h,hd=>by
  obtain⟨u,r,rfl,h1,h2⟩:=h
  exact⟨u,_,rfl,h1,Rls.set n h2 hd⟩
theorem Rls.rep {ds:List D}{vs:List V} (h:Rls K H φ ds vs):∀ k:Nat,Rls K H φ (List.replicate k ds).flatten (List.replicate k vs).flatten
 | 0=>rfl
 | k+1=>by rw [List.replicate_succ,List.replicate_succ,List.flatten_cons,List.flatten_cons];exact h.append (Rls.rep h k)
theorem Rls.bools:∀ {ns:List Bool}{vs:List V},Rls K H φ (ns.map D.bl) vs->vs=ns.map V.bl
 | [],_,h=>h
 | n::ns,_,h=>by
  obtain⟨v,r,rfl,h1,h2⟩:=h
  rw [show v=.bl n from h1,Rls.bools h2];rfl
theorem Rls.of_ints:∀ (ns:List Int),Rls K H φ (ns.map D.int) (ns.map V.int)
 | []=>rfl
 | n::ns=>⟨_,_,rfl,rfl,Rls.of_ints ns⟩
theorem Rl.less {ψ:List Addr}:∀ {d:D}{v:V},Rl K H (φ++ψ) d v->Rl K H φ d v:=by
 intro d v
 refine (?_:∀ v,Rl K H (φ++ψ) d v->Rl K H φ d v) v
 refine D.rec (motive_1:=λd=>∀ v,Rl K H (φ++ψ) d v->Rl K H φ d v) (motive_2:=λds=>∀ vs,Rls K H (φ++ψ) ds vs->Rls K H φ ds vs) ?_ ?_ ?_ ?_ ?_ ?_ ?_ ?_ ?_ ?_ ?_ d
 ·exact λv h=>h
 ·exact λb v h=>h
 ·exact λb v h=>h
 ·exact λb v h=>h
 ·exact λb v h=>h
 ·rintro v ⟨a,e,hn,h⟩;exact⟨a,e,λz=>hn (List.mem_append_left _ z),h⟩
 ·exact λns v h=>h
 ·rintro ds ih v ⟨a,vs,rfl,h1,h2⟩;exact⟨a,vs,rfl,h1,ih vs h2⟩
 ·rintro ds ih v ⟨a,vs,rfl,h0,h1,h2⟩;exact⟨a,vs,rfl,λz=>h0 (List.mem_append_left _ z),h1,ih vs h2⟩
 ·exact λvs h=>h
 ·rintro d ds ih1 ih2 vs ⟨v,r,rfl,h1,h2⟩;exact⟨v,r,rfl,ih1 v h1,ih2 r h2⟩
theorem Rls.less {ψ:List Addr}:∀ {ds:List D}{vs:List V},Rls K H (φ++ψ) ds vs->Rls K H φ ds vs
 | [],_,h=>h
 | d::ds,_,h=>by
  obtain⟨v,r,rfl,h1,h2⟩:=h
  exact⟨v,r,rfl,Rl.less h1,Rls.less h2⟩
theorem Rkv.less {ψ:List Addr}:∀ {ds:List (List Int×D)}{vs:List (List Key×V)},Rkv K H (φ++ψ) ds vs->Rkv K H φ ds vs
 | [],_,h=>h
 | (k,d)::ds,_,h=>by
  obtain⟨v,r,rfl,h1,h2⟩:=h
  exact⟨v,r,rfl,Rl.less h1,Rkv.less h2⟩
theorem Rkk.less {ψ:List Addr}:∀ {ds:List (Int×D)}{vs:List (Key×V)},Rkk K H (φ++ψ) ds vs->Rkk K H φ ds vs
 | [],_,h=>h
 | (k,d)::ds,_,h=>by
  obtain⟨v,r,rfl,h1,h2⟩:=h
  exact⟨v,r,rfl,Rl.less h1,Rkk.less h2⟩
theorem Rws.less {ψ:List Addr}:∀ {ds:List W}{vs:List V},(∀ m,W.h m ∈ ds->m < φ.length)->Rws K H (φ++ψ) ds vs->Rws K H φ ds vs
 | [],_,_,h=>h
 | d::ds,_,hm,h=>by
  obtain⟨v,r,rfl,h1,h2⟩:=h
  refine⟨v,r,rfl,?_,Rws.less (λm z=>hm m (List.mem_cons_of_mem _ z)) h2⟩
  cases d with
  | d x=>exact Rl.less h1
  | h m=>
   obtain⟨a,e,rfl⟩:=h1
   rw [List.getElem?_append_left (hm m List.mem_cons_self)] at e
   exact⟨a,e,rfl⟩
theorem Rc.less {ψ:List Addr}{k:Nat}{a:Addr}{c:C} (hk:k < φ.length) (h:Rc K H (φ++ψ) k a c):Rc K H φ k a c:=by
 cases c with
 | l ds=>obtain⟨vs,q,r⟩:=h;exact⟨vs,q,r.less⟩
 | n ds=>obtain⟨vs,q,r,b⟩:=h;exact⟨vs,q,r.less λm z=>Nat.lt_trans (b m z) hk,b⟩
 | m ds=>obtain⟨vs,q,r⟩:=h;exact⟨vs,q,r.less⟩
 | k ds=>obtain⟨vs,q,r⟩:=h;exact⟨vs,q,r.less⟩
theorem Sr.less {ψ:List Addr} (S:Sr K H (φ++ψ) st):Sr K H φ (st.take φ.length):=by
 have hl:=S.len
 rw [List.length_append] at hl
 refine⟨(List.nodup_append.mp S.nd).1,by rw [List.length_take];lia,λn a ds e1 e2=>?_⟩
 have hn:=(List.getElem?_eq_some_iff.mp e1).1
 rw [List.getElem?_take_of_lt hn] at e2
 exact (S.at_ n a ds (by rw [List.getElem?_append_left hn];exact e1) e2).less hn
end
end L2
namespace L2
open PySem PySem.Spec PyProof.Rows
abbrev Ef:=Ev->Sto->Option (W×Sto)
abbrev Af:=Ev->Sto->Option (List W×Sto)
abbrev Tf:=Ev->Sto->Option (Bool×Sto)
abbrev Lf:=Ev->Sto->Option (List D×Sto)
abbrev Fn:=List W->Sto->Option (W×Sto)
section
variable (K:PySem.W.Frag)
noncomputable def tI (env:Ev) (st:Sto) (r:W×Sto):TE:=λσ H Q=>∃ φ,Er K H φ env σ/\Sr K H φ st/\∀ v H' φ',Fw φ φ' H H'->Sr K H' φ' r.2->Rw K H' φ' r.1 v->Q v H'
noncomputable def tIA (env:Ev) (st:Sto) (r:List W×Sto):TA:=λσ H Q=>∃ φ,Er K H φ env σ/\Sr K H φ st/\∀ vs H' φ',Fw φ φ' H H'->Sr K H' φ' r.2->Rws K H' φ' r.1 vs->Q vs H'
noncomputable def tIT (env:Ev) (st:Sto) (r:Bool×Sto):TT:=λσ H Q=>∃ φ,Er K H φ env σ/\Sr K H φ st/\∀ H' φ',Fw φ φ' H H'->Sr K H' φ' r.2->Q r.1 H'
noncomputable def tIL (env:Ev) (st:Sto) (r:List D×Sto):TE:=λσ H Q=>∃ φ,Er K H φ env σ/\Sr K H φ st/\∀ a vs H1 φ',Fw φ φ' H H1->Sr K H1 φ' r.2->H1 a=none->Rls K H1 φ' r.1 vs->Q (.ref a) (upd H1 a (.lst vs))
structure IE (X:Cx) (e:Expr) (f:Ef):Prop where
 run:∀ env st r,f env st=some r->PE X e (tI K env st r)
structure IA (X:Cx) (es:List Expr) (f:Af):Prop where
 run:∀ env st r,f env st=some r->PA X es (tIA K env st r)
structure IT (X:Cx) (e:Expr) (f:Tf):Prop where
 run:∀ env st r,f env st=some r->PT X e (tIT K env st r)
structure ITW (X:Cx) (e:Expr) (f:Tf):Prop where
 run:∀ env st r,f env st=some r->PW X e (tIT K env st r)
structure IL (X:Cx) (e:Expr) (f:Lf):Prop where
 run:∀ env st r,f env st=some r->PE X e (tIL K env st r)
noncomputable def rD (st:Sto) (x y:W) (d:D):R2:=λvx vy H Q=>∃ φ,Sr K H φ st/\Rw K H φ x vx/\Rw K H φ y vy/\∀ v H',ay H H'->Rl K H' φ d v->Q v H'
structure OpD (X:Cx) (f:Value->Value->Sem Value) (g:Sto->W->W->Option D):Prop where
 run:∀ st x y d,g st x y=some d->OpR X f (rD K st x y d)
noncomputable def rCD (st:Sto) (ws:List W) (d:D):List V->Hp->VK->Prop:=λvs H Q=>∃ φ,Sr K H φ st/\Rws K H φ ws vs/\∀ v H',ay H H'->Rl K H' φ d v->Q v H'
structure cn (X:Cx) (f:Value) (g:Sto->List W->Option D):Prop where
 run:∀ st ws d,g st ws=some d->aO X f (rCD K st ws d)
end
noncomputable def iV (i:Nat):Ef
 | env,st=>(env.getD i none).map λw=>(w,st)
noncomputable def iC (d:D):Ef
 | _,st=>some (.d d,st)
noncomputable def iOp (g:Sto->W->W->Option D) (a b:Ef):Ef
 | env,st=>(a env st).bind λx=>(b env x.2).bind λy=>(g y.2 x.1 y.1).map λd=>(.d d,y.2)
noncomputable def hV:D->Option Bool
 | .bl b=>some b
 | _=>none
noncomputable def blW:W->Option Bool
 | .d (.bl b)=>some b
 | _=>none
noncomputable def ft (g:Sto->W->W->Option D) (a b:Ef):Tf
 | env,st=>(a env st).bind λx=>(b env x.2).bind λy=>(g y.2 x.1 y.1).bind λd=>(hV d).map λk=>(k,y.2)
noncomputable def h9 (g g':Sto->W->W->Option D) (a b c:Ef):Ef
 | env,st=>(a env st).bind λx=>(b env x.2).bind λy=>(g y.2 x.1 y.1).bind λd=>(hV d).bind λk=>
 if k=true then (c env y.2).bind λz=>(g' z.2 y.1 z.1).map λd=>(.d d,z.2) else some (.d (.bl false),y.2)
noncomputable def jJ (a:Ef):Ef
 | env,st=>(a env st).bind λx=>(blW x.1).map λk=>(.d (.bl (!k)),x.2)
noncomputable def iA (a b:Ef):Ef
 | env,st=>(a env st).bind λx=>(blW x.1).bind λk=>if k=true then b env x.2 else some (.d (.bl false),x.2)
noncomputable def lW (a b:Ef):Ef
 | env,st=>(a env st).bind λx=>(blW x.1).bind λk=>if k=true then some (.d (.bl true),x.2) else b env x.2
noncomputable def mG (c:Tf) (a b:Ef):Ef
 | env,st=>(c env st).bind λr=>if r.1=true then a env r.2 else b env r.2
noncomputable def bA (c:Tf):Tf
 | env,st=>(c env st).map λr=>(!r.1,r.2)
noncomputable def gy (a b:Tf):Tf
 | env,st=>(a env st).bind λr=>if r.1=true then some (true,r.2) else b env r.2
noncomputable def cJ (g:Sto->W->Option Bool) (a:Ef):Tf
 | env,st=>(a env st).bind λx=>(g x.2 x.1).map λk=>(k,x.2)
noncomputable def ah:Af
 | _,st=>some ([],st)
noncomputable def aa (a:Ef) (r:Af):Af
 | env,st=>(a env st).bind λx=>(r env x.2).map λy=>(x.1::y.1,y.2)
noncomputable def iCB (g:Sto->List W->Option D) (a:Af):Ef
 | env,st=>(a env st).bind λr=>(g r.2 r.1).map λd=>(.d d,r.2)
noncomputable def ao (m:Fn) (a:Af):Ef
 | env,st=>(a env st).bind λr=>m r.1 r.2
noncomputable def gu:List W->Option (List D)
 | []=>some []
 | .d x::ws=>(gu ws).map λr=>x::r
 | .h _::_=>none
noncomputable def e8 (a:Af):Ef
 | env,st=>(a env st).bind λr=>(gu r.1).bind λds=>if ds.length<=1000 then some (.d (.tup ds),r.2) else none
noncomputable def dz (a:Af):Lf
 | env,st=>(a env st).bind λr=>(gu r.1).bind λds=>if ds.length<=1000 then some (ds,r.2) else none
noncomputable def bh (a:Lf):Ef
 | env,st=>(a env st).map λr=>(.d (.lst r.1),r.2)
noncomputable def jO (a:Lf):Ef
 | env,st=>(a env st).map λr=>(.h r.2.length,r.2++[.l r.1])
section
variable {K:PySem.W.Frag}{X:Cx}{e a b c:Expr}{es:List Expr}{pos:Pos}{f fa fb fc:Ef}
theorem PE.imp {t t':TE} (h:PE X e t) (m:∀ σ H Q,t' σ H Q->t σ H Q):PE X e t':=λpins s σ H Q I q=>h pins s σ H Q I (m σ H Q q)
theorem PT.imp {t t':TT} (h:PT X e t) (m:∀ σ H Q,t' σ H Q->t σ H Q):PT X e t':=λpins s σ H Q I q=>h pins s σ H Q I (m σ H Q q)
theorem PW.imp {t t':TT} (h:PW X e t) (m:∀ σ H Q,t' σ H Q->t σ H Q):PW X e t':=λwh pins s σ H Q I q=>h wh pins s σ H Q I (m σ H Q q)
theorem PA.imp {t t':TA} (h:PA X es t) (m:∀ σ H Q,t' σ H Q->t σ H Q):PA X es t':=λpos pins s σ H Q I q=>h pos pins s σ H Q I (m σ H Q q)
theorem OpR.imp {g:Value->Value->Sem Value}{r r':R2} (h:OpR X g r) (m:∀ x y H Q,r' x y H Q->r x y H Q):OpR X g r':=λpins s σ H x y v u Q I rx ry q=>h pins s σ H x y v u Q I rx ry (m _ _ _ _ q)
theorem aO.imp {g:Value}{r r':List V->Hp->VK->Prop} (h:aO X g r) (m:∀ xs H Q,r' xs H Q->r xs H Q):aO X g r':=λpins s σ H xs us Q I rx q=>h pins s σ H xs us Q I rx (m _ _ _ q)
theorem cL:PE X e (λ_ _ _=>False):=λ_ _ _ _ _ _ q=>q.elim
theorem jm:PW X e (λ_ _ _=>False):=λ_ _ _ _ _ _ _ q=>q.elim
theorem mZ {i:Nat}{x:Str}{t:TE} (h:PE X (.Name x pos) (lN i)):IE K X (.Name x pos) (iV i):=by
 refine⟨λenv st r hr=>?_⟩
 unfold iV at hr
 obtain⟨w,hw,rfl⟩:=Option.map_eq_some_iff.mp hr
 refine h.imp ?_
 rintro σ H Q ⟨φ,hE,hS,q⟩
 have hi:env[i]?=some (some w):=by
  rw [List.getD] at hw
  cases q:env[i]? with
  | none=>rw [q] at hw;cases hw
  | some o=>rw [q] at hw;rw [show o=some w from hw]
 obtain⟨v,e1,r⟩:=hE.at_ i w hi
 exact⟨v,e1,q v H φ (Fw.refl φ H) hS r⟩
theorem iv (i:Nat) {x:Str} (hN:X.N[i]?=some x:=by rfl) (hv:Vis X.env.scope x:=by first | exact Or.inl rfl | exact Or.inr (Or.inl rfl) | exact Or.inr (Or.inr rfl)) (hd:(x==("__debug__" : Str))=false:=by decide)
  (hcd:(x==("__classdict__" : Str))=false:=by decide):IE K X (.Name x pos) (iV i):=mZ (t:=lN i) (md hN hv hd hcd)
theorem jL {d:D}{v:V} (h:PE X e (tC v)) (r:∀ H φ,Rl K H φ d v):IE K X e (iC d):=by
 refine⟨λenv st r hr=>?_⟩
 cases hr
 refine h.imp ?_
 rintro σ H Q ⟨φ,hE,hS,q⟩
 exact q v H φ (Fw.refl φ H) hS (r H φ)
theorem ae {i j}:IE K X (.Constant (.int i) j pos) (iC (.int i)):=jL lE λ_ _=>rfl
theorem ic {i j}:IE K X (.Constant (.bool i) j pos) (iC (.bl i)):=jL ni λ_ _=>rfl
theorem fO {j}:IE K X (.Constant .none j pos) (iC .non):=jL lx λ_ _=>rfl
theorem gY {x j}:IE K X (.Constant (.str x) j pos) (iC (.str x)):=jL lX λ_ _=>rfl
theorem fK {env:Ev}{st:Sto}{x y:W×Sto}{d:D}{σ:St}{H:Hp}{Q:VK} (h:tI K env st (.d d,y.2) σ H Q):tOp (rD K y.2 x.1 y.1 d) (tI K env st x) (tI K env x.2 y) σ H Q:=by
 obtain⟨φ,hE,hS,q⟩:=h
 refine⟨φ,hE,hS,λv H1 φ1 f1 s1 w1=>⟨φ1,hE.fw hS f1,s1,λu H2 φ2 f2 s2 w2=>⟨φ2,s2,w1.fw s1 f2,w2,λv3 H3 f3 w3=>?_⟩⟩⟩
 exact q v3 H3 φ2 ((f1.trans f2).trans (Fw.same f3)) (s2.same f3) w3
theorem ar {op:Operator}{g:Sto->W->W->Option D} (ho:OpD K X (binaryOp op) g) (ha:IE K X a fa) (hb:IE K X b fb):IE K X (.BinOp a op b pos) (iOp g fa fb):=by
 refine⟨λenv st r hr=>?_⟩
 simp only [iOp,Option.bind_eq_some_iff,Option.map_eq_some_iff] at hr
 obtain⟨x,hx,y,hy,d,hd,rfl⟩:=hr
 exact (nW (ho.run _ _ _ _ hd) (ha.run _ _ _ hx) (hb.run _ _ _ hy)).imp λσ H Q h=>fK h
theorem h8 {op:CmpOp}{g:Sto->W->W->Option D} (ho:OpD K X (compareOp op) g) (ha:IE K X a fa) (hb:IE K X b fb) (hm:behindInMarks op b=false):IE K X (.Compare a [op] [b] pos) (iOp g fa fb):=by
 refine⟨λenv st r hr=>?_⟩
 simp only [iOp,Option.bind_eq_some_iff,Option.map_eq_some_iff] at hr
 obtain⟨x,hx,y,hy,d,hd,rfl⟩:=hr
 exact (kC (ho.run _ _ _ _ hd) (ha.run _ _ _ hx) (hb.run _ _ _ hy) hm).imp λσ H Q h=>fK h
theorem eT {d:D}{k:Bool} (h:hV d=some k):d=.bl k:=by
 cases d<;>first | (cases h;done) | (injection h with h;subst h;rfl)
theorem d4 {d:W}{k:Bool} (h:blW d=some k):d=.d (.bl k):=by
 cases d with
 | h n=>cases h
 | d x=>cases x<;>first | (cases h;done) | (injection h with h;subst h;rfl)
theorem hR {op:CmpOp}{g:Sto->W->W->Option D} (ho:OpD K X (compareOp op) g) (ha:IE K X a fa) (hb:IE K X b fb) (hm:behindInMarks op b=false):IT K X (.Compare a [op] [b] pos) (ft g fa fb):=by
 refine⟨λenv st r hr=>?_⟩
 simp only [ft,Option.bind_eq_some_iff,Option.map_eq_some_iff] at hr
 obtain⟨x,hx,y,hy,d,hd,k,hk,rfl⟩:=hr
 cases eT hk
 refine (fX (ho.run _ _ _ _ hd) (ha.run _ _ _ hx) (hb.run _ _ _ hy) hm).imp λσ H Q h=>?_
 obtain⟨φ,hE,hS,q⟩:=h
 refine fK ⟨φ,hE,hS,λv H1 φ1 f1 s1 w1=>⟨k,w1,q H1 φ1 f1 s1⟩⟩
theorem jA {op op':CmpOp}{g g':Sto->W->W->Option D} (ho:OpD K X (compareOp op) g) (ho':OpD K X (compareOp op') g') (ha:IE K X a fa) (hb:IE K X b fb) (hc:IE K X c fc)
  (hm:lastMarks [op,op'] [b,c]=false:=by with_unfolding_all rfl):IE K X (.Compare a [op,op'] [b,c] pos) (h9 g g' fa fb fc):=by
 refine⟨λenv st r hr=>?_⟩
 simp only [h9,Option.bind_eq_some_iff] at hr
 obtain⟨x,hx,y,hy,d,hd,k,hk,hr⟩:=hr
 cases eT hk
 cases k with
 | false=>
  rw [if_neg Bool.false_ne_true] at hr
  cases hr
  refine (gK (r':=λ_ _ _ _=>False) (ho.run _ _ _ _ hd) (λ_ _ _ _ _ _ _ _ _ _ _ _ q=>q.elim) (ha.run _ _ _ hx) (hb.run _ _ _ hy) cL hm).imp ?_
  rintro σ H Q ⟨φ,hE,hS,q⟩
  refine⟨φ,hE,hS,λv H1 φ1 f1 s1 w1=>⟨φ1,hE.fw hS f1,s1,λu H2 φ2 f2 s2 w2=>⟨φ2,s2,w1.fw s1 f2,w2,λv3 H3 f3 w3=>⟨false,w3,?_⟩⟩⟩⟩
  rw [if_neg Bool.false_ne_true]
  exact q _ H3 φ2 ((f1.trans f2).trans (Fw.same f3)) (s2.same f3) rfl
 | true=>
  simp only [if_true,Option.bind_eq_some_iff,Option.map_eq_some_iff] at hr
  obtain⟨z,hz,d',hd',rfl⟩:=hr
  refine (gK (ho.run _ _ _ _ hd) (ho'.run _ _ _ _ hd') (ha.run _ _ _ hx) (hb.run _ _ _ hy) (hc.run _ _ _ hz) hm).imp ?_
  rintro σ H Q ⟨φ,hE,hS,q⟩
  refine⟨φ,hE,hS,λv H1 φ1 f1 s1 w1=>⟨φ1,hE.fw hS f1,s1,λu H2 φ2 f2 s2 w2=>⟨φ2,s2,w1.fw s1 f2,w2,λv3 H3 f3 w3=>⟨true,w3,?_⟩⟩⟩⟩
  rw [if_pos rfl]
  have f13:=(f1.trans f2).trans (Fw.same (φ:=φ2) f3)
  refine⟨φ2,hE.fw hS f13,s2.same f3,λu4 H4 φ4 f4 s4 w4=>⟨φ4,s4,(w2.fw s2 (Fw.same f3)).fw (s2.same f3) f4,w4,λv5 H5 f5 w5=>?_⟩⟩
  exact q v5 H5 φ4 (f13.trans (f4.trans (Fw.same f5))) (s4.same f5) w5
theorem mS (ha:IE K X a fa):IE K X (.UnaryOp .Not a pos) (jJ fa):=by
 refine⟨λenv st r hr=>?_⟩
 simp only [jJ,Option.bind_eq_some_iff,Option.map_eq_some_iff] at hr
 obtain⟨x,hx,k,hk,rfl⟩:=hr
 have e:=d4 hk
 refine (lG (ha.run _ _ _ hx)).imp ?_
 rintro σ H Q ⟨φ,hE,hS,q⟩
 exact⟨φ,hE,hS,λv H1 φ1 f1 s1 w1=>⟨k,by rw [e] at w1;exact w1,q _ H1 φ1 f1 s1 rfl⟩⟩
theorem hW {op} (h:IE K X a fa):IE K X (.BoolOp op [a] pos) fa:=⟨λenv st r hr=>ly (h.run env st r hr)⟩
theorem i9 {rest:List Expr} (ha:IE K X a fa) (hb:IE K X (.BoolOp .And (b::rest) pos) fb):IE K X (.BoolOp .And (a::b::rest) pos) (iA fa fb):=by
 refine⟨λenv st r hr=>?_⟩
 simp only [iA,Option.bind_eq_some_iff] at hr
 obtain⟨x,hx,k,hk,hr⟩:=hr
 have e:=d4 hk
 cases k with
 | false=>
  rw [if_neg Bool.false_ne_true] at hr
  cases hr
  refine (jd (ha.run _ _ _ hx) cL).imp ?_
  rintro σ H Q ⟨φ,hE,hS,q⟩
  refine⟨φ,hE,hS,λv H1 φ1 f1 s1 w1=>⟨false,by rw [e] at w1;exact w1,?_⟩⟩
  rw [if_neg Bool.false_ne_true]
  exact q _ H1 φ1 f1 s1 rfl
 | true=>
  rw [if_pos rfl] at hr
  refine (jd (ha.run _ _ _ hx) (hb.run _ _ _ hr)).imp ?_
  rintro σ H Q ⟨φ,hE,hS,q⟩
  refine⟨φ,hE,hS,λv H1 φ1 f1 s1 w1=>⟨true,by rw [e] at w1;exact w1,?_⟩⟩
  rw [if_pos rfl]
  exact⟨φ1,hE.fw hS f1,s1,λu H2 φ2 f2 s2 w2=>q u H2 φ2 (f1.trans f2) s2 w2⟩
theorem nu {rest:List Expr} (ha:IE K X a fa) (hb:IE K X (.BoolOp .Or (b::rest) pos) fb):IE K X (.BoolOp .Or (a::b::rest) pos) (lW fa fb):=by
 refine⟨λenv st r hr=>?_⟩
 simp only [lW,Option.bind_eq_some_iff] at hr
 obtain⟨x,hx,k,hk,hr⟩:=hr
 have e:=d4 hk
 cases k with
 | true=>
  rw [if_pos rfl] at hr
  cases hr
  refine (lq (ha.run _ _ _ hx) cL).imp ?_
  rintro σ H Q ⟨φ,hE,hS,q⟩
  refine⟨φ,hE,hS,λv H1 φ1 f1 s1 w1=>⟨true,by rw [e] at w1;exact w1,?_⟩⟩
  rw [if_pos rfl]
  exact q _ H1 φ1 f1 s1 rfl
 | false=>
  rw [if_neg Bool.false_ne_true] at hr
  refine (lq (ha.run _ _ _ hx) (hb.run _ _ _ hr)).imp ?_
  rintro σ H Q ⟨φ,hE,hS,q⟩
  refine⟨φ,hE,hS,λv H1 φ1 f1 s1 w1=>⟨false,by rw [e] at w1;exact w1,?_⟩⟩
  rw [if_neg Bool.false_ne_true]
  exact⟨φ1,hE.fw hS f1,s1,λu H2 φ2 f2 s2 w2=>q u H2 φ2 (f1.trans f2) s2 w2⟩
variable {ta tb:Tf}
theorem dE (ha:IT K X a ta):IT K X (.UnaryOp .Not a pos) (bA ta):=by
 refine⟨λenv st r hr=>?_⟩
 simp only [bA,Option.map_eq_some_iff] at hr
 obtain⟨x,hx,rfl⟩:=hr
 refine (lC (ha.run _ _ _ hx)).imp ?_
 rintro σ H Q ⟨φ,hE,hS,q⟩
 exact⟨φ,hE,hS,λH1 φ1 f1 s1=>q H1 φ1 f1 s1⟩
theorem je (h:ITW K X a ta):IT K X a ta:=⟨λenv st r hr=>(h.run env st r hr).pt⟩
theorem ix (h:IT K X a ta):ITW K X (.BoolOp .Or [a] pos) ta:=⟨λenv st r hr=>lM (h.run env st r hr)⟩
theorem i6 {rest:List Expr} (ha:IT K X a ta) (hb:ITW K X (.BoolOp .Or (b::rest) pos) tb):ITW K X (.BoolOp .Or (a::b::rest) pos) (gy ta tb):=by
 refine⟨λenv st r hr=>?_⟩
 simp only [gy,Option.bind_eq_some_iff] at hr
 obtain⟨⟨k,s1⟩,hx,hr⟩:=hr
 cases k with
 | true=>
  rw [if_pos rfl] at hr
  cases hr
  refine (lp (ha.run _ _ _ hx) jm).imp ?_
  rintro σ H Q ⟨φ,hE,hS,q⟩
  refine⟨φ,hE,hS,λH1 φ1 f1 s1=>?_⟩
  refine ka ?_
  exact q H1 φ1 f1 s1
 | false=>
  rw [if_neg Bool.false_ne_true] at hr
  refine (lp (ha.run _ _ _ hx) (hb.run _ _ _ hr)).imp ?_
  rintro σ H Q ⟨φ,hE,hS,q⟩
  refine⟨φ,hE,hS,λH1 φ1 f1 s1=>?_⟩
  refine j7 ?_
  exact⟨φ1,hE.fw hS f1,s1,λH2 φ2 f2 s2=>q H2 φ2 (f1.trans f2) s2⟩
theorem nG {tc:Tf} (hc:IT K X c tc) (ha:IE K X a fa) (hb:IE K X b fb):IE K X (.IfExp c a b pos) (mG tc fa fb):=by
 refine⟨λenv st r hr=>?_⟩
 simp only [mG,Option.bind_eq_some_iff] at hr
 obtain⟨⟨k,s1⟩,hx,hr⟩:=hr
 cases k with
 | true=>
  rw [if_pos rfl] at hr
  refine (gJ (hc.run _ _ _ hx) (ha.run _ _ _ hr) cL).imp ?_
  rintro σ H Q ⟨φ,hE,hS,q⟩
  refine⟨φ,hE,hS,λH1 φ1 f1 s1=>?_⟩
  refine ka ?_
  exact⟨φ1,hE.fw hS f1,s1,λu H2 φ2 f2 s2 w2=>q u H2 φ2 (f1.trans f2) s2 w2⟩
 | false=>
  rw [if_neg Bool.false_ne_true] at hr
  refine (gJ (hc.run _ _ _ hx) cL (hb.run _ _ _ hr)).imp ?_
  rintro σ H Q ⟨φ,hE,hS,q⟩
  refine⟨φ,hE,hS,λH1 φ1 f1 s1=>?_⟩
  refine j7 ?_
  exact⟨φ1,hE.fw hS f1,s1,λu H2 φ2 f2 s2 w2=>q u H2 φ2 (f1.trans f2) s2 w2⟩
noncomputable def du (st:Sto):W->Option (List D)
 | .d (.tup ds)=>some ds
 | .d (.lst ds)=>some ds
 | .d (.scr ns)=>some (ns.map D.int)
 | .h n=>lg st n
 | _=>none
theorem gB {st:Sto}{H:Hp}{φ:List Addr}{w:W}{v:V}{ds:List D} (S:Sr K H φ st) (r:Rw K H φ w v) (e:du st w=some ds):∃ a vs,v=.ref a/\(SqL K H a vs\/H a=some (.tup vs))/\Rls K H φ ds vs:=by
 cases w with
 | h n=>
  obtain⟨a,ea,rfl⟩:=r
  obtain⟨vs,q,rl⟩:=S.atl n a ds ea e
  exact⟨a,vs,rfl,.inl (SqL.of q),rl⟩
 | d x=>
  cases x with
  | tup es=>cases e;obtain⟨a,vs,rfl,h1,h2⟩:=r;exact⟨a,vs,rfl,.inr h1,h2⟩
  | lst es=>cases e;obtain⟨a,vs,rfl,h0,h1,h2⟩:=r;exact⟨a,vs,rfl,.inl (.inl h1),h2⟩
  | scr ns=>
   cases e
   obtain⟨a,rfl,h⟩:=r
   refine⟨a,_,rfl,.inl ?_,Rls.of_ints ns⟩
   rcases h with⟨o,h⟩ | h
   ·exact .inl (.inr ⟨o,h⟩)
   ·exact .inr h
  | _=>cases e
theorem fj {st:Sto}{H:Hp}{φ:List Addr}{w:W}{v:V}{ds:List D} (S:Sr K H φ st) (r:Rw K H φ w v) (e:du st w=some ds):∃ a vs,v=.ref a/\(SqL K H a vs\/SqT K H a vs)/\Rls K H φ ds vs:=by
 obtain⟨a,vs,h0,h1,h2⟩:=gB S r e
 exact⟨a,vs,h0,h1.imp id SqT.of,h2⟩
noncomputable def db (st:Sto):W->Option Bool
 | .d .non=>some false
 | .d (.bl b)=>some b
 | .d (.int i)=>some (i != 0)
 | w=>(du st w).map λds=>!ds.isEmpty
theorem kY {st:Sto}{H:Hp}{φ:List Addr}{w:W}{v:V}{k:Bool} (S:Sr K H φ st) (r:Rw K H φ w v) (e:db st w=some k):ky K v H k:=by
 have seq:∀ ds,du st w=some ds->k=!ds.isEmpty->ky K v H k:=λds h hk=>by
  obtain⟨a,vs,rfl,h1,h2⟩:=fj S r h
  have hl:=h2.length
  have e':k=!vs.isEmpty:=by
   rw [hk]
   cases ds<;>cases vs<;>first | rfl | cases hl
  rcases h1 with h1 | h1
  ·exact .inl ⟨vs,h1,e'⟩
  ·exact .inr (.inl ⟨vs,h1,e'⟩)
 cases w with
 | h n=>
  obtain⟨ds,h1,h2⟩:=Option.map_eq_some_iff.mp e
  exact seq ds h1 h2.symm
 | d x=>
  cases x with
  | non=>have r':v=.non:=r;subst r';cases e;exact rfl
  | bl b=>have r':v=.bl b:=r;subst r';cases e;exact rfl
  | int i=>have r':v=.int i:=r;subst r';cases e;exact rfl
  | tup ds=>exact seq ds rfl (Option.some.inj e).symm
  | lst ds=>exact seq ds rfl (Option.some.inj e).symm
  | scr ds=>exact seq _ rfl (Option.some.inj e).symm
  | _=>cases e
theorem dD (ha:IE K X a fa) (he:jx a=true:=by rfl) (hK:X.K=K:=by rfl):IT K X a (cJ db fa):=by
 subst hK
 refine⟨λenv st r hr=>?_⟩
 simp only [cJ,Option.bind_eq_some_iff,Option.map_eq_some_iff] at hr
 obtain⟨x,hx,k,hk,rfl⟩:=hr
 refine (jn (ha.run _ _ _ hx) (i3 he)).imp ?_
 rintro σ H Q ⟨φ,hE,hS,q⟩
 exact⟨φ,hE,hS,λv H1 φ1 f1 s1 w1=>⟨k,kY s1 w1 hk,q H1 φ1 f1 s1⟩⟩
variable {af:Af}
theorem ag:IA K X [] ah:=by
 refine⟨λenv st r hr=>?_⟩
 cases hr
 refine lA.imp ?_
 rintro σ H Q ⟨φ,hE,hS,q⟩
 exact q [] H φ (Fw.refl φ H) hS rfl
theorem ab (ha:IE K X e fa) (hr:IA K X es af) (hs:aG e=true:=by rfl):IA K X (e::es) (aa fa af):=by
 refine⟨λenv st r h=>?_⟩
 simp only [aa,Option.bind_eq_some_iff,Option.map_eq_some_iff] at h
 obtain⟨x,hx,y,hy,rfl⟩:=h
 refine (ki (ha.run _ _ _ hx) (hr.run _ _ _ hy) (br hs)).imp ?_
 rintro σ H Q ⟨φ,hE,hS,q⟩
 refine⟨φ,hE,hS,λv H1 φ1 f1 s1 w1=>⟨φ1,hE.fw hS f1,s1,λu H2 φ2 f2 s2 w2=>?_⟩⟩
 exact q _ H2 φ2 (f1.trans f2) s2 ⟨v,u,rfl,w1.fw s1 f2,w2⟩
theorem bO {x:Str}{id:String}{p:Pos}{g:Sto->List W->Option D} (hc:cn K X (.builtin id) g) (hg:Gl X x) (hm:X.mg x=none) (hv:bootBuiltins x=some (.builtin id)) (ha:IA K X (e::es) af)
  (hn:x≠"__name__":=by decide) (hdb:(x==("__debug__" : Str))=false:=by decide) (hs:aG e=true:=by rfl) (hp:es.all aG=true:=by rfl) :
  IE K X (.Call (.Name x p) (e::es) [] pos) (iCB g af):=by
 refine⟨λenv st r hr=>?_⟩
 simp only [iCB,Option.bind_eq_some_iff,Option.map_eq_some_iff] at hr
 obtain⟨y,hy,d,hd,rfl⟩:=hr
 refine (jz (hc.run _ _ _ hd) hg hm hv (ha.run _ _ _ hy) hn hdb (br hs) (ck hp)).imp ?_
 rintro σ H Q ⟨φ,hE,hS,q⟩
 exact⟨φ,hE,hS,λv H1 φ1 f1 s1 w1=>⟨φ1,s1,w1,λu H2 f2 w2=>q u H2 φ1 (f1.trans (Fw.same f2)) (s1.same f2) w2⟩⟩
theorem iB {x:Str}{T:String}{p:Pos}{g:Sto->List W->Option D} (hc:cn K X (.type T) g) (hg:Gl X x) (hm:X.mg x=none) (hv:bootBuiltins x=some (.type T)) (ha:IA K X (e::es) af)
  (hn:x≠"__name__":=by decide) (hdb:(x==("__debug__" : Str))=false:=by decide) (hs:aG e=true:=by rfl) (hp:es.all aG=true:=by rfl) :
  IE K X (.Call (.Name x p) (e::es) [] pos) (iCB g af):=by
 refine⟨λenv st r hr=>?_⟩
 simp only [iCB,Option.bind_eq_some_iff,Option.map_eq_some_iff] at hr
 obtain⟨y,hy,d,hd,rfl⟩:=hr
 refine (iZ (hc.run _ _ _ hd) hg hm hv (ha.run _ _ _ hy) hn hdb (br hs) (ck hp)).imp ?_
 rintro σ H Q ⟨φ,hE,hS,q⟩
 exact⟨φ,hE,hS,λv H1 φ1 f1 s1 w1=>⟨φ1,s1,w1,λu H2 f2 w2=>q u H2 φ1 (f1.trans (Fw.same f2)) (s1.same f2) w2⟩⟩
theorem ek {H:Hp}{φ:List Addr}:∀ {ws:List W}{vs:List V}{ds:List D},gu ws=some ds->Rws K H φ ws vs->Rls K H φ ds vs
 | [],_,_,e,h=>by cases e;exact h
 | .d x::ws,_,_,e,h=>by
  obtain⟨v,r,rfl,h1,h2⟩:=h
  obtain⟨es,e1,rfl⟩:=Option.map_eq_some_iff.mp e
  exact⟨v,r,rfl,h1,ek e1 h2⟩
 | .h n::ws,_,_,e,h=>by cases e
theorem lV {x1} (h:IA K X es af):IE K X (.Tuple es x1 pos) (e8 af):=by
 refine⟨λenv st r hr=>?_⟩
 simp only [e8,Option.bind_eq_some_iff] at hr
 obtain⟨y,hy,ds,hd,hr⟩:=hr
 split at hr
 ·cases hr
  rename_i hl
  refine (mI (h.run _ _ _ hy)).imp ?_
  rintro σ H Q ⟨φ,hE,hS,q⟩
  refine⟨φ,hE,hS,λvs H1 φ1 f1 s1 w1=>?_⟩
  have w:=ek hd w1
  refine⟨by rw [<-w.length];exact fG hl,λp hp=>?_⟩
  exact q _ _ φ1 (f1.trans (Fw.new hp)) (s1.new hp) ⟨p,vs,rfl,aN,w.fw s1 (Fw.new hp)⟩
 ·cases hr
theorem fR (h:IA K X es af):IL K X (.List es pos) (dz af):=by
 refine⟨λenv st r hr=>?_⟩
 simp only [dz,Option.bind_eq_some_iff] at hr
 obtain⟨y,hy,ds,hd,hr⟩:=hr
 split at hr
 ·cases hr
  rename_i hl
  refine (lB (h.run _ _ _ hy)).imp ?_
  rintro σ H Q ⟨φ,hE,hS,q⟩
  refine⟨φ,hE,hS,λvs H1 φ1 f1 s1 w1=>?_⟩
  have w:=ek hd w1
  exact⟨by rw [<-w.length];exact fG hl,λp hp=>q p vs H1 φ1 f1 s1 hp w⟩
 ·cases hr
theorem cy {lf:Lf} (h:IL K X e lf):IE K X e (bh lf):=by
 refine⟨λenv st r hr=>?_⟩
 simp only [bh,Option.map_eq_some_iff] at hr
 obtain⟨y,hy,rfl⟩:=hr
 refine (h.run _ _ _ hy).imp ?_
 rintro σ H Q ⟨φ,hE,hS,q⟩
 refine⟨φ,hE,hS,λa vs H1 φ1 f1 s1 n1 w1=>?_⟩
 exact q _ _ φ1 (f1.trans (Fw.new n1)) (s1.new n1) ⟨a,vs,rfl,s1.nin n1,.inl aN,w1.fw s1 (Fw.new n1)⟩
theorem Sr.moreC {H:Hp}{φ:List Addr}{st:Sto}{a:Addr}{o:HO}{c:C} (S:Sr K H φ st) (n:H a=none) (w:Rc K (upd H a o) (φ++[a]) φ.length a c):Sr K (upd H a o) (φ++[a]) (st++[c]):=by
 have f:Fw φ (φ++[a]) H (upd H a o):=⟨⟨[a],rfl,λb hb=>by rw [List.mem_singleton.mp hb];exact n⟩,λb o _ h=>ay.new n _ b o h,λb o h=>⟨o,ay.new n _ b o h⟩⟩
 refine⟨?_,by rw [List.length_append,List.length_append,S.len];rfl,λi b es e1 e2=>?_⟩
 ·rw [List.nodup_append]
  refine⟨S.nd,by simp,λx hx y hy e=>?_⟩
  rw [List.mem_singleton.mp hy] at e
  rw [e] at hx
  exact S.nin n hx
 ·by_cases hi:i < φ.length
  ·rw [List.getElem?_append_left hi] at e1
   rw [List.getElem?_append_left (by rw [<-S.len];exact hi)] at e2
   exact (S.at_ i b es e1 e2).fw S f λo h=>ay.new n _ _ _ h
  ·have e:i=φ.length:=by
    have:=(List.getElem?_eq_some_iff.mp e1).1
    rw [List.length_append] at this
    simp at this
    lia
   subst e
   rw [List.getElem?_append_right (Nat.le_refl _)] at e1
   rw [S.len,List.getElem?_append_right (Nat.le_refl _)] at e2
   simp at e1 e2
   subst e1 e2
   exact w
theorem Fw.moreO {H:Hp}{φ:List Addr}{a:Addr}{o:HO} (n:H a=none):Fw φ (φ++[a]) H (upd H a o):=
 ⟨⟨[a],rfl,λb hb=>by rw [List.mem_singleton.mp hb];exact n⟩,λb o _ h=>ay.new n _ b o h,λb o h=>⟨o,ay.new n _ b o h⟩⟩
theorem Fw.more {H:Hp}{φ:List Addr}{a:Addr}{vs:List V} (n:H a=none):Fw φ (φ++[a]) H (upd H a (.lst vs)):=Fw.moreO n
theorem Sr.more {H:Hp}{φ:List Addr}{st:Sto}{a:Addr}{vs:List V}{ds:List D} (S:Sr K H φ st) (n:H a=none) (w:Rls K H φ ds vs):Sr K (upd H a (.lst vs)) (φ++[a]) (st++[.l ds]):=
 S.moreC n ⟨vs,aN,w.fw S (Fw.moreO n)⟩
theorem mH {lf:Lf} (h:IL K X e lf):IE K X e (jO lf):=by
 refine⟨λenv st r hr=>?_⟩
 simp only [jO,Option.map_eq_some_iff] at hr
 obtain⟨y,hy,rfl⟩:=hr
 refine (h.run _ _ _ hy).imp ?_
 rintro σ H Q ⟨φ,hE,hS,q⟩
 refine⟨φ,hE,hS,λa vs H1 φ1 f1 s1 n1 w1=>?_⟩
 exact q _ _ (φ1++[a]) (f1.trans (Fw.more n1)) (s1.more n1 w1) ⟨a,by rw [<-s1.len];simp,rfl⟩
noncomputable def spI (K:PySem.W.Frag) (m:Fn):Sp:=λvs H Q _=>∃ φ st ws r,m ws st=some r/\Rws K H φ ws vs/\Sr K H φ st/\∀ v H' φ',Fw φ φ' H H'->Sr K H' φ' r.2->Rw K H' φ' r.1 v->Q v H'
theorem aE {x:Str}{k j:Nat}{ff:Addr}{fd:FuncData}{ps:List Str}{m:Fn}{p:Pos} (F:bD X.prog X.w X.K X.mg X.base CX0 j ff fd ps (spI K m)) (hjk:j<=k) (hr:bj k X.A) (hg:Gl X x) (hm:X.mg x=some (.ref ff)) (hk:PySem.W.keepIn X.K (.ref ff)=true) (hb:bq X.K fd ps [])
  (ha:IA K X (e::es) af) (hdb:(x==("__debug__" : Str))=false:=by decide) (hs:aG e=true:=by rfl) (hp:es.all aG=true:=by rfl) :
  IE K X (.Call (.Name x p) (e::es) [] pos) (ao m af):=by
 refine⟨λenv st r h=>?_⟩
 simp only [ao,Option.bind_eq_some_iff] at h
 obtain⟨y,hy,h⟩:=h
 refine (kl (F.mono hjk) hr hg hm hk hb .nil nh (ha.run _ _ _ hy) hdb (br hs) (ck hp)).imp ?_
 rintro σ H Q ⟨φ,hE,hS,q⟩
 refine⟨φ,hE,hS,λvs H1 φ1 f1 s1 w1=>?_⟩
 show spI K m (vs++[]) H1 Q E0
 rw [List.append_nil]
 exact⟨φ1,y.2,y.1,r,h,w1,s1,λv H2 φ2 f2 s2 w2=>q v H2 φ2 (f1.trans f2) s2 w2⟩
end
end L2
namespace L2
open PySem PySem.Spec PyProof.Rows
inductive Fl where
 | nx (env:Ev) (st:Sto) | rt (w:W) (st:Sto) | bk (env:Ev) (st:Sto) | ct (env:Ev) (st:Sto)
abbrev Sf:=Ev->Sto->Option Fl
noncomputable def kP (K:PySem.W.Frag) (φ:List Addr) (H:Hp) (D:hC):Fl->Prop
 | .nx e s=>∀ σ' H' φ',Fw φ φ' H H'->Er K H' φ' e σ'->Sr K H' φ' s->D.nx σ' H'
 | .rt w s=>∀ v H' φ',Fw φ φ' H H'->Sr K H' φ' s->Rw K H' φ' w v->D.rt v H'
 | .bk e s=>∀ σ' H' φ',Fw φ φ' H H'->Er K H' φ' e σ'->Sr K H' φ' s->D.bk σ' H'
 | .ct e s=>∀ σ' H' φ',Fw φ φ' H H'->Er K H' φ' e σ'->Sr K H' φ' s->D.ct σ' H'
theorem kP.fw {K:PySem.W.Frag}{φ φ1:List Addr}{H H1:Hp}{D:hC}{r:Fl} (h:kP K φ H D r) (f:Fw φ φ1 H H1):kP K φ1 H1 D r:=by
 cases r with
 | nx e s=>exact λσ' H' φ' f'=>h σ' H' φ' (f.trans f')
 | rt w s=>exact λv H' φ' f'=>h v H' φ' (f.trans f')
 | bk e s=>exact λσ' H' φ' f'=>h σ' H' φ' (f.trans f')
 | ct e s=>exact λσ' H' φ' f'=>h σ' H' φ' (f.trans f')
noncomputable def tS (K:PySem.W.Frag) (env:Ev) (st:Sto) (r:Fl):TS:=λD σ H=>∃ φ,Er K H φ env σ/\Sr K H φ st/\kP K φ H D r
structure IS (K:PySem.W.Frag) (X:Cx) (s:Stmt) (g:Sf):Prop where
 run:∀ env st r,g env st=some r->PS X s (tS K env st r)
structure ISs (K:PySem.W.Frag) (X:Cx) (s:List Stmt) (g:Sf):Prop where
 run:∀ env st r,g env st=some r->PSs X s (tS K env st r)
inductive Tg where
 | nm (i:Nat) | tp (is:List Nat)
noncomputable def mP:Tg->List Nat
 | .nm i=>[i]
 | .tp is=>is
noncomputable def ji:List Nat->List D->Ev->Ev
 | i::is,d::ds,env=>ji is ds (env.set i (some (.d d)))
 | _,_,env=>env
noncomputable def cB:Tg->W->Ev->Option Ev
 | .nm i,w,env=>some (env.set i (some w))
 | .tp is,.d (.tup ds),env=>if is.length=ds.length then some (ji is ds env) else none
 | .tp is,.d (.lst ds),env=>if is.length=ds.length then some (ji is ds env) else none
 | _,_,_=>none
noncomputable def mX (is:List Nat) (σ σ':St):Prop:=σ'.length=σ.length/\∀ j,j ∉ is->σ'[j]?=σ[j]?
noncomputable def tG (K:PySem.W.Frag) (g:Tg):TG:=λv σ H Q=>∃ φ st env w env',Er K H φ env σ/\Sr K H φ st/\Rw K H φ w v/\cB g w env=some env'/\∀ σ',Er K H φ env' σ'->mX (mP g) σ σ'->Q σ' H
noncomputable def ci:Sf
 | env,st=>some (.nx env st)
noncomputable def aF (a b:Sf):Sf
 | env,st=>(a env st).bind λr=>match r with
 | .nx e s=>b e s
 | r=>some r
noncomputable def ce (g:Tg) (f:Ef):Sf
 | env,st=>(f env st).bind λr=>(cB g r.1 env).map λe=>.nx e r.2
noncomputable def gs (st:Sto) (o i v:W):Option Sto:=match o,i,v with
 | .h n,.d (.int k),.d x=>(lg st n).bind λds=>(ixN ds.length k).map λj=>st.set n (.l (ds.set j x))
 | _,_,_=>none
noncomputable def da (o i v:Ef):Sf
 | env,st=>(v env st).bind λrv=>(o env rv.2).bind λro=>(i env ro.2).bind λri=>(gs ri.2 ro.1 ri.1 rv.1).map λs=>.nx env s
noncomputable def bH (f:Ef):Sf
 | env,st=>(f env st).map λr=>.rt r.1 r.2
noncomputable def cX (c:Tf) (a b:Sf):Sf
 | env,st=>(c env st).bind λr=>if r.1=true then a env r.2 else b env r.2
noncomputable def dF (g:Tg) (body:Sf):List D->Ev->Sto->Option Fl
 | [],env,st=>some (.nx env st)
 | d::ds,env,st=>(cB g (.d d) env).bind λe=>(body e st).bind λr=>match r with
  | .nx e s=>dF g body ds e s
  | .ct e s=>dF g body ds e s
  | .bk e s=>some (.nx e s)
  | .rt w s=>some (.rt w s)
noncomputable def gZ (fi:Lf) (g:Tg) (body:Sf):Sf
 | env,st=>(fi env st).bind λr=>dF g body r.1 env r.2
noncomputable def lcI (g:Tg) (tt:Tf) (te:Ef) (env:Ev):List D->Sto->Option (List D×Sto)
 | [],st=>some ([],st)
 | d::ds,st=>(cB g (.d d) env).bind λe=>(tt e st).bind λb=>if b.1=true then (te e b.2).bind λx=>(gu [x.1]).bind λys=>(lcI g tt te env ds x.2).map λr=>(ys++r.1,r.2)
   else lcI g tt te env ds b.2
noncomputable def eI (k:Nat) (js:List Nat) (env:Ev):Ev:=List.replicate k none++js.map λj=>env.getD j none
noncomputable def iLc (k:Nat) (js:List Nat) (fi:Lf) (g:Tg) (tt:Tf) (te:Ef):Lf
 | env,st=>(fi env st).bind λr=>if r.1.length<=1000000 then lcI g tt te (eI k js env) r.1 r.2 else none
noncomputable def cW:Tf
 | _,st=>some (true,st)
noncomputable def bt (f:Ef):Lf
 | env,st=>(f env st).bind λr=>match r.1 with
 | .d (.tup ds)=>some (ds,r.2)
 | .d (.lst ds)=>some (ds,r.2)
 | _=>none
noncomputable def er (lo:Int) (n:Nat):List D:=(List.range n).map λk:Nat=>D.int (lo+k)
noncomputable def dL (a:Af):Lf
 | env,st=>(a env st).bind λr=>match r.1 with
 | [.d (.int j)]=>if -(2 ^ 62)<=j/\j < 2 ^ 62 then some (er 0 j.toNat,r.2) else none
 | _=>none
section
variable {K:PySem.W.Frag}{X:Cx}{pos:Pos}
theorem PS.imp {s:Stmt}{t t':TS} (h:PS X s t) (m:∀ D σ H,t' D σ H->t D σ H):PS X s t':=λpins s σ H D I q=>h pins s σ H D I (m D σ H q)
theorem PSs.imp {s:List Stmt}{t t':TS} (h:PSs X s t) (m:∀ D σ H,t' D σ H->t D σ H):PSs X s t':=λpins s σ H D I q=>h pins s σ H D I (m D σ H q)
theorem Er.set {H:Hp}{φ:List Addr}{env:Ev}{σ:St} (h:Er K H φ env σ) (i:Nat) {w:W}{v:V} (r:Rw K H φ w v):Er K H φ (env.set i (some w)) (σ.set i (some v)):=by
 refine⟨by rw [List.length_set,List.length_set,h.len],λj w' e=>?_⟩
 by_cases hj:i=j
 ·subst hj
  have hi:i < env.length:=by
   have:=(List.getElem?_eq_some_iff.mp e).1
   rwa [List.length_set] at this
  rw [List.getElem?_set_self hi] at e
  cases e
  exact⟨v,by rw [List.getElem?_set_self (by rw [<-h.len];exact hi)],r⟩
 ·rw [List.getElem?_set_ne hj] at e
  obtain⟨v',e1,r1⟩:=h.at_ j w' e
  exact⟨v',by rw [List.getElem?_set_ne hj];exact e1,r1⟩
theorem jX (i:Nat) (σ:St) (v:Option V):mX [i] σ (σ.set i v):=⟨by rw [List.length_set],λj hj=>by rw [List.getElem?_set_ne (by rintro rfl;simp at hj)]⟩
theorem cx {i:Nat}{x:Str} (h:PG X (.Name x pos) (i8 i)):PG X (.Name x pos) (tG K (.nm i)):=by
 intro pins s σ H v u Q I rv q
 obtain⟨φ,st,env,w,env',hE,hS,r,e,q⟩:=q
 cases e
 exact h pins s σ H v u Q I rv (q _ (hE.set i r) (jX i σ _))
variable {s:Stmt}{ss rest:List Stmt}{e a b c:Expr}{ga gb:Sf}{f fa fb fc:Ef}
theorem bS:ISs K X [] ci:=by
 refine⟨λenv st r hr=>?_⟩
 cases hr
 exact kX.imp λD σ H ⟨φ,hE,hS,q⟩=>q σ H φ (Fw.refl φ H) hE hS
theorem am (h:IS K X s ga):ISs K X [s] ga:=⟨λenv st r hr=>kq (h.run env st r hr)⟩
theorem aj (h1:IS K X s ga) (h2:ISs K X rest gb):ISs K X (s::rest) (aF ga gb):=by
 refine⟨λenv st r hr=>?_⟩
 simp only [aF,Option.bind_eq_some_iff] at hr
 obtain⟨r1,e1,hr⟩:=hr
 cases r1 with
 | nx e s1=>
  refine (dl (h1.run _ _ _ e1) (h2.run _ _ _ hr)).imp ?_
  rintro D σ H ⟨φ,hE,hS,q⟩
  exact⟨φ,hE,hS,λσ' H' φ' f' e' s'=>⟨φ',e',s',q.fw f'⟩⟩
 | rt w s1=>
  cases hr
  exact (dl (h1.run _ _ _ e1) cf).imp λD σ H ⟨φ,hE,hS,q⟩=>⟨φ,hE,hS,q⟩
 | bk w s1=>
  cases hr
  exact (dl (h1.run _ _ _ e1) cf).imp λD σ H ⟨φ,hE,hS,q⟩=>⟨φ,hE,hS,q⟩
 | ct w s1=>
  cases hr
  exact (dl (h1.run _ _ _ e1) cf).imp λD σ H ⟨φ,hE,hS,q⟩=>⟨φ,hE,hS,q⟩
theorem bP {i:Nat}{x:Str}{pos':Pos} (hN:X.N.Nodup) (hi:X.N[i]?=some x) (hx:Loc X.env.scope x) (he:IE K X e f) (hs:swapsWith e (some (.Name x pos')) pos.line X.env=pure false:=by rfl) (hf:X.fn x=true\/X.env.scope.names.lookup x=some .local:=by first | exact .inl rfl | exact .inr rfl | assumption) :
  IS K X (.Assign [.Name x pos'] e pos) (ce (.nm i) f):=by
 refine⟨λenv st r hr=>?_⟩
 simp only [ce,cB,Option.bind_eq_some_iff,Option.map_eq_some_iff] at hr
 obtain⟨y,hy,e',ee,rfl⟩:=hr
 cases ee
 refine (nc hN hi hx (he.run _ _ _ hy) hs hf).imp ?_
 rintro D σ H ⟨φ,hE,hS,q⟩
 exact⟨φ,hE,hS,λv H1 φ1 f1 s1 w1=>q _ H1 φ1 f1 ((hE.fw hS f1).set i w1) s1⟩
theorem Sr.putC {H:Hp}{φ:List Addr}{st:Sto}{n:Nat}{a:Addr}{o:HO}{c:C} (S:Sr K H φ st) (hn:φ[n]?=some a) (w:Fw φ φ H (upd H a o)->Rc K (upd H a o) φ n a c) :
  Fw φ φ H (upd H a o)/\Sr K (upd H a o) φ (st.set n c):=by
 have ha:a ∈ φ:=List.mem_of_getElem? hn
 have f:Fw φ φ H (upd H a o):=⟨⟨[],by simp,by simp⟩,λb o hb h=>by rw [ax (λz=>hb (by rw [z];exact ha))];exact h,λb o h=>by
  by_cases z:b=a
  ·subst z;exact⟨_,aN⟩
  ·exact⟨o,by rw [ax z];exact h⟩⟩
 refine⟨f,S.nd,by rw [List.length_set];exact S.len,λm b es e1 e2=>?_⟩
 by_cases hm:n=m
 ·subst hm
  rw [e1] at hn;cases hn
  have hl:n < st.length:=by rw [<-S.len];exact (List.getElem?_eq_some_iff.mp e1).1
  rw [List.getElem?_set_self hl] at e2
  cases e2
  exact w f
 ·rw [List.getElem?_set_ne hm] at e2
  have q:=S.at_ m b es e1 e2
  have hne:b≠a:=by
   rintro rfl
   obtain⟨h1,h1'⟩:=List.getElem?_eq_some_iff.mp hn
   obtain⟨h2,h2'⟩:=List.getElem?_eq_some_iff.mp e1
   exact hm ((List.getElem_inj S.nd).mp (h1'.trans h2'.symm))
  exact q.fw S f λo h=>by rw [ax hne];exact h
theorem Sr.put {H:Hp}{φ:List Addr}{st:Sto}{n:Nat}{a:Addr}{vs:List V}{ds:List D} (S:Sr K H φ st) (hn:φ[n]?=some a) (w:Rls K H φ ds vs) :
  Fw φ φ H (upd H a (.lst vs))/\Sr K (upd H a (.lst vs)) φ (st.set n (.l ds)):=S.putC hn λf=>⟨vs,aN,w.fw S f⟩
theorem gP {st s':Sto}{o i v:W} (h:gs st o i v=some s'):∃ n k x ds j,o=.h n/\i=.d (.int k)/\v=.d x/\lg st n=some ds/\ixN ds.length k=some j/\s'=st.set n (.l (ds.set j x)):=by
 unfold gs at h
 split at h
 ·obtain⟨ds,e1,h⟩:=Option.bind_eq_some_iff.mp h
  obtain⟨j,e2,h⟩:=Option.map_eq_some_iff.mp h
  exact⟨_,_,_,ds,j,rfl,rfl,rfl,e1,e2,h.symm⟩
 ·cases h
theorem el {tpos:Pos} (ho:IE K X a fa) (hi:IE K X b fb) (hv:IE K X e f) (hb:eA b=true:=by rfl) (hs:swapsWithSole [.Subscript a b tpos] e pos.line X.env=pure false:=by rfl) (hw:swappedStores [.Subscript a b tpos] e X.env=pure none:=by rfl) :
  IS K X (.Assign [.Subscript a b tpos] e pos) (da fa fb f):=by
 refine⟨λenv st r hr=>?_⟩
 simp only [da,Option.bind_eq_some_iff,Option.map_eq_some_iff] at hr
 obtain⟨rv,ev,ro,eo,ri,ei,s',es,rfl⟩:=hr
 refine (lO (hv.run _ _ _ ev) (lP (ho.run _ _ _ eo) (hi.run _ _ _ ei) jK (kJ hb)) hs hw (kS rfl)).imp ?_
 rintro D σ H ⟨φ,hE,hS,q⟩
 refine⟨φ,hE,hS,λv H1 φ1 f1 s1 w1=>⟨φ1,hE.fw hS f1,s1,λo H2 φ2 f2 s2 w2=>⟨φ2,(hE.fw hS f1).fw s1 f2,s2,λi H3 φ3 f3 s3 w3=>?_⟩⟩⟩
 have e3:=((hE.fw hS f1).fw s1 f2).fw s2 f3
 have w1':=(w1.fw s1 f2).fw s2 f3
 have w2':=w2.fw s2 f3
 obtain⟨ro1,ro2⟩:=ro
 obtain⟨rv1,rv2⟩:=rv
 obtain⟨ri1,ri2⟩:=ri
 obtain⟨n,k,x,ds,j,rfl,rfl,rfl,eds,ej,rfl⟩:=gP es
 obtain⟨p,ep,rfl⟩:=w2'
 obtain⟨vs,hp,rl⟩:=s3.atl n p ds ep eds
 have w3':i=.int k:=w3
 subst w3'
 obtain⟨f4,s4⟩:=s3.put ep (Rls.set j rl w1')
 refine⟨p,vs,k,j,rfl,rfl,hp,by rw [<-rl.length];exact ej,?_⟩
 exact q _ _ φ3 (((f1.trans f2).trans f3).trans f4) (e3.fw s3 f4) s4
theorem aZ (h:IE K X e f):IS K X (.Return (some e) pos) (bH f):=by
 refine⟨λenv st r hr=>?_⟩
 simp only [bH,Option.map_eq_some_iff] at hr
 obtain⟨y,hy,rfl⟩:=hr
 exact (lQ (h.run _ _ _ hy)).imp λD σ H ⟨φ,hE,hS,q⟩=>⟨φ,hE,hS,q⟩
theorem dQ {tc:Tf}{sa sb:List Stmt} (hc:IT K X c tc) (ha:ISs K X sa ga) (hb:ISs K X sb gb):IS K X (.If c sa sb pos) (cX tc ga gb):=by
 refine⟨λenv st r hr=>?_⟩
 simp only [cX,Option.bind_eq_some_iff] at hr
 obtain⟨⟨k,s1⟩,hx,hr⟩:=hr
 cases k with
 | true=>
  rw [if_pos rfl] at hr
  refine (lm (hc.run _ _ _ hx) (ha.run _ _ _ hr) cf).imp ?_
  rintro D σ H ⟨φ,hE,hS,q⟩
  refine⟨φ,hE,hS,λH1 φ1 f1 s1=>ka ?_⟩
  exact⟨φ1,hE.fw hS f1,s1,q.fw f1⟩
 | false=>
  rw [if_neg Bool.false_ne_true] at hr
  refine (lm (hc.run _ _ _ hx) cf (hb.run _ _ _ hr)).imp ?_
  rintro D σ H ⟨φ,hE,hS,q⟩
  refine⟨φ,hE,hS,λH1 φ1 f1 s1=>j7 ?_⟩
  exact⟨φ1,hE.fw hS f1,s1,q.fw f1⟩
noncomputable def nr (K:PySem.W.Frag) (g:Sf):TS:=λD σ H=>∃ env st r,g env st=some r/\tS K env st r D σ H
noncomputable def lr (K:PySem.W.Frag) (f:Ef):TE:=λσ H Q=>∃ env st r,f env st=some r/\tI K env st r σ H Q
noncomputable def lu (K:PySem.W.Frag) (f:Tf):TT:=λσ H Q=>∃ env st r,f env st=some r/\tIT K env st r σ H Q
theorem ISs.any (h:ISs K X ss ga):PSs X ss (nr K ga):=λpins s σ H D I ⟨env,st,r,e,q⟩=>h.run env st r e pins s σ H D I q
theorem IE.any (h:IE K X e f):PE X e (lr K f):=λpins s σ H D I ⟨env,st,r,e,q⟩=>h.run env st r e pins s σ H D I q
noncomputable def Yl (K:PySem.W.Frag) (φ0:List Addr) (H0:Hp) (J:It) (ds:List D):Prop:=∀ (H:Hp) (φ:List Addr) (st:Sto) (i:Nat),Fw φ0 φ H0 H->Sr K H φ st->
 (∀ d,ds[i]?=some d->J.go i H/\∀ x H',J.yld i H x H'->ay H H'/\Rl K H' φ d x)/\(ds.length=i->J.stop i H)
noncomputable def tII (K:PySem.W.Frag) (env:Ev) (st:Sto) (r:List D×Sto):TI:=λσ H R=>∃ φ,Er K H φ env σ/\Sr K H φ st/\∀ J H' φ',Fw φ φ' H H'->Sr K H' φ' r.2->Yl K φ' H' J r.1->R J H'
structure II (K:PySem.W.Frag) (X:Cx) (tg iter:Expr) (f:Lf):Prop where
 run:∀ env st r,f env st=some r->PI X tg iter (tII K env st r)
theorem PI.imp {tg iter:Expr}{t t':TI} (h:PI X tg iter t) (m:∀ σ H R,t' σ H R->t σ H R):PI X tg iter t':=λpins s σ H R I q=>h pins s σ H R I (m σ H R q)
variable {tg:Expr}
end
end L2
namespace L2
open PySem PySem.Spec PyProof.Rows
section
variable {K:PySem.W.Frag}{X:Cx}{pos:Pos}{tg e a b:Expr}{f:Ef}{af:Af}
theorem fV (h:IE K X e f) (hK:X.K=K:=by rfl):II K X tg e (bt f):=by
 subst hK
 refine⟨λenv st r hr=>?_⟩
 simp only [bt,Option.bind_eq_some_iff] at hr
 obtain⟨⟨w,s1⟩,hy,hr⟩:=hr
 match w,hr with
 | .d (.tup ds),hr=>
  cases hr
  refine (mm (h.run _ _ _ hy)).imp ?_
  rintro σ H R ⟨φ,hE,hS,q⟩
  refine⟨φ,hE,hS,λv H1 φ1 f1 s1 w1=>?_⟩
  obtain⟨a,vs,rfl,hq,hr⟩:=w1
  refine⟨a,rfl,⟨vs,(SqT.of hq)⟩,q _ H1 φ1 f1 s1 λH2 φ2 st2 i f2 s2=>?_⟩
  have hq2:=(SqT.of hq).fw s1 f2
  have hr2:=hr.fw s1 f2
  refine⟨λd hd=>?_,λhi=>⟨vs,hq2,by rw [<-hr2.length];exact Nat.le_of_eq hi⟩⟩
  obtain⟨v,ev,rv⟩:=hr2.get hd
  refine⟨⟨vs,v,hq2,ev⟩,λx H' y=>?_⟩
  obtain⟨rfl,y⟩:=y
  have:=y vs hq2
  rw [ev] at this
  cases this
  exact⟨ay.refl _,rv⟩
 | .d (.lst ds),hr=>
  cases hr
  refine (kn (h.run _ _ _ hy)).imp ?_
  rintro σ H R ⟨φ,hE,hS,q⟩
  refine⟨φ,hE,hS,λv H1 φ1 f1 s1 w1=>?_⟩
  obtain⟨a,vs,rfl,h0,hq,hr⟩:=w1
  refine⟨a,rfl,⟨vs,.inl hq⟩,q _ H1 φ1 f1 s1 λH2 φ2 st2 i f2 s2=>?_⟩
  have hq2:SqL X.K H2 a vs:=.inl (hq.fw f2 h0)
  have hr2:=hr.fw s1 f2
  refine⟨λd hd=>?_,λhi=>⟨vs,hq2,by rw [<-hr2.length];exact Nat.le_of_eq hi⟩⟩
  obtain⟨v,ev,rv⟩:=hr2.get hd
  refine⟨⟨vs,v,hq2,ev⟩,λx H' y=>?_⟩
  obtain⟨rfl,y⟩:=y
  have:=y vs hq2
  rw [ev] at this
  cases this
  exact⟨ay.refl _,rv⟩
theorem gI (lo:Int) (n i:Nat):(er lo n)[i]?=if i < n then some (.int (lo+i)) else none:=by
 unfold er
 rw [List.getElem?_map]
 by_cases h:i < n
 ·rw [List.getElem?_range h,if_pos h];rfl
 ·rw [List.getElem?_eq_none (by simpa using h),if_neg h];rfl
theorem eE (lo:Int) (n:Nat):(er lo n).length=n:=by unfold er;rw [List.length_map,List.length_range]
theorem mo (lo:Int) (n:Nat) {φ:List Addr}{H:Hp}:Yl K φ H (Itr lo n) (er lo n):=by
 intro H2 φ2 st2 i f2 s2
 refine⟨λd hd=>?_,λhi=>by rw [eE] at hi;exact Nat.le_of_eq hi⟩
 rw [gI] at hd
 by_cases h:i < n
 ·rw [if_pos h] at hd
  cases hd
  refine⟨h,λx H' y=>?_⟩
  obtain⟨rfl,rfl⟩:=y
  exact⟨ay.refl _,rfl⟩
 ·rw [if_neg h] at hd;cases hd
theorem iy {p:Pos} (hg:Gl X "range") (hm:X.mg "range" = none) (ha:IA K X [a] af) (hs:aG a=true:=by rfl):II K X tg (.Call (.Name "range" p) [a] [] pos) (dL af):=by
 refine⟨λenv st r hr=>?_⟩
 simp only [dL,Option.bind_eq_some_iff] at hr
 obtain⟨⟨ws,s1⟩,hy,hr⟩:=hr
 match ws,hr with
 | [.d (.int j)],hr=>
  have hr':(if -(2 ^ 62)<=j/\j < 2 ^ 62 then some (er 0 j.toNat,s1) else none)=some r:=hr
  by_cases hj:-(2 ^ 62)<=j/\j < 2 ^ 62
  ·rw [if_pos hj] at hr'
   cases hr'
   refine (iO hg hm (ha.run _ _ _ hy) (jv hs)).imp ?_
   rintro σ H R ⟨φ,hE,hS,q⟩
   refine⟨φ,hE,hS,λvs H1 φ1 f1 s1 w1=>?_⟩
   obtain⟨v,r,rfl,r1,rfl⟩:=w1
   exact⟨j,by rw [show v=.int j from r1],hj.1,hj.2,q _ H1 φ1 f1 s1 (mo 0 _)⟩
  ·rw [if_neg hj] at hr';cases hr'
theorem gU {iter:Expr}{body:List Stmt}{fi:Lf}{g:Tg}{gb:Sf} (hi:II K X tg iter fi) (hg:PG X tg (tG K g)) (hb:ISs K X body gb) (hp:PassesOwn (model X.prog X.w) X.A X.env X.xe) (hc:X.calm=true:=by rfl)
  (hs:∀ x,foldedSetIterable iter X.env x=pure x:=by intro _;rfl):IS K X (.For tg iter body [] pos) (gZ fi g gb):=by
 refine⟨λenv st r hr=>?_⟩
 simp only [gZ,Option.bind_eq_some_iff] at hr
 obtain⟨⟨ds,s1⟩,hy,hr⟩:=hr
 refine (ma hp hc (hi.run _ _ _ hy) hg hb.any hs).imp ?_
 rintro D σ H ⟨φ,hE,hS,q⟩
 refine⟨φ,hE,hS,λJ H1 φ1 f1 S1 yl=>?_⟩
 refine⟨λi m σ H=>m=ds.length - i/\i<=ds.length/\∃ env st φ2,Fw φ1 φ2 H1 H/\Er K H φ2 env σ/\Sr K H φ2 st/\dF g gb (ds.drop i) env st=some r,⟨ds.length,by simp,Nat.zero_le _,env,s1,φ1,Fw.refl _ _,hE.fw hS f1,S1,hr⟩,?_⟩
 rintro i m σ H2 ⟨rfl,hi,env2,st2,φ2,f2,e2,S2,h2⟩
 obtain⟨y1,y2⟩:=yl H2 φ2 st2 i f2 S2
 by_cases hlt:i < ds.length
 ·obtain⟨go,yld⟩:=y1 ds[i] (List.getElem?_eq_getElem hlt)
  rw [List.drop_eq_getElem_cons hlt] at h2
  simp only [dF,Option.bind_eq_some_iff] at h2
  obtain⟨e3,he3,r3,hr3,h3⟩:=h2
  refine .inr ⟨go,λσ' H'=>i+1<=ds.length/\∃ env st φ2,Fw φ1 φ2 H1 H'/\Er K H' φ2 env σ'/\Sr K H' φ2 st/\dF g gb (ds.drop (i+1)) env st=some r,λσ' H' ⟨hn,p'⟩=>⟨ds.length - (i+1),by lia,rfl,hn,p'⟩,λx H' y=>?_⟩
  obtain⟨sm,rx⟩:=yld x H' y
  have S3:=S2.same sm
  have f3:=f2.trans (Fw.same (φ:=φ2) sm)
  refine⟨φ2,st2,env2,.d ds[i],e3,e2.fw S2 (Fw.same sm),S3,rx,he3,λσ' e' _=>?_⟩
  refine⟨e3,st2,r3,hr3,φ2,e',S3,?_⟩
  cases r3 with
  | nx e4 s4=>exact λσ4 H4 φ4 f4 e4' s4'=>⟨hlt,e4,s4,φ4,f3.trans f4,e4',s4',h3⟩
  | ct e4 s4=>exact λσ4 H4 φ4 f4 e4' s4'=>⟨hlt,e4,s4,φ4,f3.trans f4,e4',s4',h3⟩
  | bk e4 s4=>
   cases h3
   exact λσ4 H4 φ4 f4 e4' s4'=>q σ4 H4 φ4 (f1.trans (f3.trans f4)) e4' s4'
  | rt w s4=>
   cases h3
   exact λv H4 φ4 f4 s4' w4=>q v H4 φ4 (f1.trans (f3.trans f4)) s4' w4
 ·have hi':i=ds.length:=by lia
  subst hi'
  rw [List.drop_length] at h2
  cases h2
  exact .inl ⟨y2 rfl,q σ H2 φ2 (f1.trans f2) e2 S2⟩
structure ITs (K:PySem.W.Frag) (X:Cx) (ifs:List Expr) (t:Tf):Prop where
 run:PTs X ifs (lu K t)
theorem dZ:ITs K X [] cW:=by
 refine⟨λpins s σ H Q I ⟨env,st,r,e,φ,hE,hS,q⟩=>?_⟩
 cases e
 exact kD pins s σ H Q I (q H φ (Fw.refl φ H) hS)
theorem Er.emb {H:Hp}{φ:List Addr}{env:Ev}{σ:St} (h:Er K H φ env σ) (k:Nat) (js:List Nat):Er K H φ (eI k js env) (cE k js σ):=by
 refine⟨by unfold eI cE;simp,λi w e=>?_⟩
 unfold eI at e
 unfold cE
 by_cases hi:i < k
 ·rw [List.getElem?_append_left (by simpa using hi),List.getElem?_replicate,if_pos hi] at e
  cases e
 ·rw [List.getElem?_append_right (by simpa using hi),List.length_replicate,List.getElem?_map,Option.map_eq_some_iff] at e
  obtain⟨j,ej,e⟩:=e
  have ej2:env[j]?=some (some w):=by
   rw [List.getD] at e
   cases q:env[j]? with
   | none=>rw [q] at e;cases e
   | some o=>rw [q] at e;rw [show o=some w from e]
  obtain⟨v,ev,rv⟩:=h.at_ j w ej2
  refine⟨v,?_,rv⟩
  rw [List.getElem?_append_right (by simpa using hi),List.length_replicate,List.getElem?_map,ej]
  show some ((σ[j]?).getD none)=_
  rw [ev];rfl
theorem Sub.stay {k:Nat}{js is:List Nat}{σ σ':St} (h:mX is (cE k js σ) σ') (hi:∀ j ∈ is,j < k):Sub (cE k js σ) σ':=by
 refine⟨h.1.symm,λj v e=>?_⟩
 by_cases hj:j ∈ is
 ·have:=hi j hj
  unfold cE at e
  rw [List.getElem?_append_left (by simpa using this),List.getElem?_replicate,if_pos this] at e
  cases e
 ·rw [h.2 j hj];exact e
theorem mi {k:Nat}{js:List Nat}{g:Tg}{tt:Tf}{te:Ef}{env:Ev}{st s1:Sto}{ds:List D}{r:List D×Sto} (hgi:∀ j ∈ mP g,j < k) (hdl:ds.length<=1000000) (hr':lcI g tt te (eI k js env) ds s1=some r) :
  ∀ σ H Q,tIL K env st r σ H Q->tLc (cE k js) (tII K env st (ds,s1)) (tG K g) (lu K tt) (lr K te) σ H Q:=by
 rintro σ H Q ⟨φ,hE,hS,q⟩
 refine⟨φ,hE,hS,λJ H1 φ1 f1 S1 yl=>?_⟩
 have hE1:=(hE.fw hS f1).emb k js
 refine⟨λi m ys H2=>m=ds.length - i/\i<=ds.length/\∃ st φ2 es r2,Fw φ1 φ2 H1 H2/\Sr K H2 φ2 st/\Rls K H2 φ2 es ys/\es.length<=i/\lcI g tt te (eI k js env) (ds.drop i) st=some r2/\r=(es++r2.1,r2.2),⟨ds.length,by simp,Nat.zero_le _,s1,φ1,[],r,Fw.refl _ _,S1,rfl,Nat.le_refl _,hr',rfl⟩,?_⟩
 rintro i m ys H2 ⟨rfl,hi,st2,φ2,es,r2,f2,S2,rl2,hle,h2,rfl⟩
 obtain⟨y1,y2⟩:=yl H2 φ2 st2 i f2 S2
 by_cases hlt:i < ds.length
 ·obtain⟨go,yld⟩:=y1 ds[i] (List.getElem?_eq_getElem hlt)
  rw [List.drop_eq_getElem_cons hlt] at h2
  simp only [lcI,Option.bind_eq_some_iff] at h2
  obtain⟨e3,he3,⟨kb,s3⟩,hb3,h3⟩:=h2
  have hz:ys.length < sizeLine:=by
   rw [<-rl2.length]
   have:sizeLine=16777216:=sizeLine_eq
   lia
  refine .inr ⟨go,hz,λys' H'=>i+1<=ds.length/\∃ st φ2 es' r2',Fw φ1 φ2 H1 H'/\Sr K H' φ2 st/\Rls K H' φ2 es' ys'/\es'.length<=i+1/\lcI g tt te (eI k js env) (ds.drop (i+1)) st=some r2'/\(es++r2.1,r2.2)=(es'++r2'.1,r2'.2),λys' H' ⟨hn,p'⟩=>⟨ds.length - (i+1),by lia,rfl,hn,p'⟩,λx H' y=>?_⟩
  obtain⟨sm,rx⟩:=yld x H' y
  have S3:=S2.same sm
  have f3:=f2.trans (Fw.same (φ:=φ2) sm)
  refine⟨φ2,st2,eI k js env,.d ds[i],e3,hE1.fw S1 f3,S3,rx,he3,λσ' e' stay=>⟨Sub.stay stay hgi,?_⟩⟩
  refine⟨e3,st2,_,hb3,φ2,e',S3,λH4 φ4 f4 S4=>?_⟩
  cases kb with
  | false=>
   rw [if_neg Bool.false_ne_true] at h3
   exact j7 ⟨hlt,s3,φ4,es,r2,f3.trans f4,S4,(rl2.fw S2 (Fw.same sm)).fw S3 f4,by lia,h3,rfl⟩
  | true=>
   simp only [if_true,Option.bind_eq_some_iff,Option.map_eq_some_iff] at h3
   obtain⟨x5,hx5,zs,hzs,r5,hr5,rfl⟩:=h3
   refine ka ⟨e3,s3,x5,hx5,φ4,e'.fw S3 f4,S4,λv H5 φ5 f5 S5 w5=>?_⟩
   obtain⟨x5,s5⟩:=x5
   cases x5 with
   | h n=>cases hzs
   | d z=>
    cases hzs
    refine⟨hlt,s5,φ5,es++[z],r5,(f3.trans f4).trans f5,S5,(((rl2.fw S2 (Fw.same sm)).fw S3 f4).fw S4 f5).append ⟨v,[],rfl,w5,rfl⟩,by rw [List.length_append];simp;lia,hr5,?_⟩
    simp
 ·have hi':i=ds.length:=by lia
  subst hi'
  rw [List.drop_length] at h2
  cases h2
  refine .inl ⟨y2 rfl,λDn hD=>?_⟩
  have:=q Dn ys H2 φ2 (f1.trans f2) S2 hD
  exact this (by simpa using rl2)
theorem im {scope:Scope}{Nc:List Str}{k:Nat}{js:List Nat}{elt iter:Expr}{ifs:List Expr}{fi:Lf}{g:Tg}{tt:Tf}{te:Ef}
  (S:cS X scope Nc (cE k js)) (hc:X.calm=true) (hgi:∀ j ∈ mP g,j < k) (hi:II K X tg iter fi)
  (hg:∀ cells s H C fp,PG (lcX X scope cells Nc s H C fp) tg (tG K g)) (ht:∀ cells s H C fp,ITs K (lcX X scope cells Nc s H C fp) ifs tt) (he:∀ cells s H C fp,IE K (lcX X scope cells Nc s H C fp) elt te)
  (hs:∀ x,foldedSetIterable iter X.env x=pure x:=by intro _;rfl):IL K X (.ListComp elt [⟨tg,iter,ifs,0⟩] scope pos) (iLc k js fi g tt te):=by
 refine⟨λenv st r hr=>?_⟩
 simp only [iLc,Option.bind_eq_some_iff] at hr
 obtain⟨⟨ds,s1⟩,hy,hr⟩:=hr
 have hr':(if ds.length<=1000000 then lcI g tt te (eI k js env) ds s1 else none)=some r:=hr
 by_cases hdn:¬ ds.length<=1000000
 ·rw [if_neg hdn] at hr';cases hr'
 have hdl:ds.length<=1000000:=by lia
 rw [if_pos hdl] at hr'
 refine (ny S hc (hi.run _ _ _ hy) hg (λcells s H C fp=>(ht cells s H C fp).run) (λcells s H C fp=>(he cells s H C fp).any) hs).imp (mi hgi hdl hr')
end
end L2
namespace L2
open PySem PySem.Spec PyProof.Rows
noncomputable def bY (n k:Nat) (b:Sf):Fn
 | ws,st=>if ws.length=k then (b (ws.map some++List.replicate (n - k) none) st).bind λr=>match r with
 | .nx _ s=>some (.d .non,s)
 | .rt w s=>some (w,s)
 | _=>none
 else none
noncomputable def kM (n:Nat) (w:W) (s:Sto):Option (W×Sto):=match w with
 | .d x=>some (.d x,s.take n)
 | .h m=>if m < n then some (.h m,s.take n) else (lg s m).map λds=>(.d (.lst ds),s.take n)
noncomputable def iJ (n k:Nat) (b:Sf):Fn
 | ws,st=>if ws.length=k then (b (ws.map some++List.replicate (n - k) none) st).bind λr=>match r with
 | .nx _ s=>some (.d .non,s.take st.length)
 | .rt w s=>kM st.length w s
 | _=>none
 else none
section
variable {P:Program}{w:World}{K:PySem.W.Frag}{mg:Str->Option Value}{base:Heap}
theorem gj {H:Hp}{φ:List Addr}{N:List Str}{k:Nat}:∀ {ws:List W}{vs:List V},Rws K H φ ws vs->ws.length=k->Er K H φ (ws.map some++List.replicate (N.length - k) none) (cO N vs):=by
 intro ws vs r hk
 have hl:=r.length
 refine⟨by unfold cO;simp;lia,λi x e=>?_⟩
 unfold cO
 by_cases hi:i < ws.length
 ·rw [List.getElem?_append_left (by simpa using hi),List.getElem?_map,Option.map_eq_some_iff] at e
  obtain⟨y,ey,e⟩:=e
  have:∃ v,vs[i]?=some v/\Rw K H φ y v:=by
   clear hk hl hi e
   induction ws generalizing vs i with
   | nil=>simp at ey
   | cons w ws ih=>
    obtain⟨v,r',rfl,r1,r2⟩:=r
    cases i with
    | zero=>simp at ey;subst ey;exact⟨v,rfl,r1⟩
    | succ i=>simpa using ih r2 i (by simpa using ey)
  obtain⟨v,ev,rv⟩:=this
  cases e
  refine⟨v,?_,rv⟩
  rw [List.getElem?_append_left (by rw [List.length_map,<-hl];exact hi),List.getElem?_map,ev];rfl
 ·rw [List.getElem?_append_right (by simpa using hi)] at e
  have:=List.mem_of_getElem? e
  have:=(List.mem_replicate.mp this).2
  cases this
theorem d5 {x qual:Str}{st:Stmt}{f:Addr}{fd:FuncData}{N ps:List Str}{k:Nat}{b:Sf} (F:Fun K x qual st f fd) (S:aH N ps (ac st))
  (hb:∀ (cdv:Value) (A:Around) (outer:List Env) (s:Shared) (H:Hp) (E:XK),bj k (A.deeper (envOfC qual (ac st) s.heap.objs.size f cdv))->ISs K (gf CX0 P w K mg base N qual (ac st) f cdv A outer s H E).nox (av st) b) :
  bD P w K mg base CX0 (k+1) f fd ps (spI K (bY N.length ps.length b)):=by
 refine F.ok S (λvs H Q E h=>?_) λcdv A outer s H vs Q E hr h=>?_
 ·obtain⟨φ,st,ws,r,e,rw,_⟩:=h
  rw [bY] at e
  by_cases hl:ws.length=ps.length
  ·rw [<-rw.length,hl]
  ·rw [if_neg hl] at e;cases e
 ·obtain⟨φ,st',ws,r,e,rw,S',q⟩:=h
  rw [bY] at e
  by_cases hl:ws.length=ps.length
  ·rw [if_pos hl] at e
   obtain⟨fl,e1,e2⟩:=Option.bind_eq_some_iff.mp e
   refine⟨_,(hb cdv A outer s H E hr).run _ _ _ e1,φ,gj rw hl,S',?_⟩
   cases fl with
   | nx e s=>cases e2;exact λσ' H' φ' f' e' s'=>q .non H' φ' f' s' rfl
   | rt w s=>cases e2;exact λv H' φ' f' s' w'=>q v H' φ' f' s' w'
   | bk e s=>cases e2
   | ct e s=>cases e2
  ·rw [if_neg hl] at e;cases e
theorem Fw.less {φ φ':List Addr}{H H':Hp} (f:Fw φ φ' H H'):Fw φ φ H H':=⟨⟨[],by simp,by simp⟩,f.keep,f.there⟩
theorem oS {x qual:Str}{st:Stmt}{f:Addr}{fd:FuncData}{N ps:List Str}{k:Nat}{b:Sf} (F:Fun K x qual st f fd) (S:aH N ps (ac st))
  (hb:∀ (cdv:Value) (A:Around) (outer:List Env) (s:Shared) (H:Hp) (E:XK),bj k (A.deeper (envOfC qual (ac st) s.heap.objs.size f cdv))->ISs K (gf CX0 P w K mg base N qual (ac st) f cdv A outer s H E).nox (av st) b) :
  bD P w K mg base CX0 (k+1) f fd ps (spI K (iJ N.length ps.length b)):=by
 refine F.ok S (λvs H Q E h=>?_) λcdv A outer s H vs Q E hr h=>?_
 ·obtain⟨φ,st,ws,r,e,rw,_⟩:=h
  rw [iJ] at e
  by_cases hl:ws.length=ps.length
  ·rw [<-rw.length,hl]
  ·rw [if_neg hl] at e;cases e
 ·obtain⟨φ,st',ws,r,e,rw,S',q⟩:=h
  rw [iJ] at e
  by_cases hl:ws.length=ps.length
  ·rw [if_pos hl] at e
   obtain⟨fl,e1,e2⟩:=Option.bind_eq_some_iff.mp e
   refine⟨_,(hb cdv A outer s H E hr).run _ _ _ e1,φ,gj rw hl,S',?_⟩
   have less:∀ {H':Hp}{φ':List Addr}{s':Sto},Fw φ φ' H H'->Sr K H' φ' s'->Sr K H' φ (s'.take st'.length):=λ{H' φ' s'} f' S2=>by
    obtain⟨ψ,rfl,_⟩:=f'.ext
    rw [<-S'.len]
    exact S2.less
   cases fl with
   | nx e s=>cases e2;exact λσ' H' φ' f' e' s'=>q .non H' φ f'.less (less f' s') rfl
   | rt w s=>
    intro v H' φ' f' s' w'
    have e3:kM st'.length w s=some r:=e2
    obtain⟨ψ,eψ,_⟩:=f'.ext
    cases w with
    | d x=>
     cases e3
     subst eψ
     exact q v H' φ f'.less (less f' s') (Rl.less w')
    | h m=>
     obtain⟨a,ea,rfl⟩:=w'
     unfold kM at e3
     by_cases hm:m < st'.length
     ·have e4:some (W.h m,s.take st'.length)=some r:=by
       have:=e3
       simp only [hm,if_true] at this
       exact this
      cases e4
      subst eψ
      rw [List.getElem?_append_left (by rw [S'.len];exact hm)] at ea
      exact q _ H' φ f'.less (less f' s') ⟨a,ea,rfl⟩
     ·simp only [hm,if_false] at e3
      obtain⟨ds,eds,rfl⟩:=Option.map_eq_some_iff.mp e3
      obtain⟨vs,hv,rl⟩:=s'.atl m a ds ea eds
      have hn:a ∉ φ:=λz=>by
       obtain⟨i,hi,ei⟩:=List.mem_iff_getElem.mp z
       have h1:φ'[i]?=some a:=by subst eψ;rw [List.getElem?_append_left hi,List.getElem?_eq_getElem hi,ei]
       obtain⟨h2,h2'⟩:=List.getElem?_eq_some_iff.mp h1
       obtain⟨h3,h3'⟩:=List.getElem?_eq_some_iff.mp ea
       have:=(List.getElem_inj s'.nd).mp (h2'.trans h3'.symm)
       rw [S'.len] at hi
       lia
      subst eψ
      exact q _ H' φ f'.less (less f' s') ⟨a,vs,rfl,hn,.inl hv,rl.less⟩
   | bk e s=>cases e2
   | ct e s=>cases e2
  ·rw [if_neg hl] at e;cases e
end
noncomputable def bJ:D->Bool
 | .non=>true
 | .bl _=>true
 | .int _=>true
 | .str _=>true
 | _=>false
noncomputable def vOf:D->V
 | .bl b=>.bl b
 | .int i=>.int i
 | .str x=>.str x
 | _=>.non
mutual
noncomputable def eqD:D->D->Bool
 | .non,.non=>true
 | .bl a,.bl b=>a==b
 | .bl a,.int b=>(if a then 1 else 0)==b
 | .int a,.bl b=>a==(if b then 1 else 0)
 | .int a,.int b=>a==b
 | .str a,.str b=>a==b
 | .tup as,.tup bs=>cY as bs
 | .lst as,.lst bs=>cY as bs
 | _,_=>false
noncomputable def cY:List D->List D->Bool
 | [],[]=>true
 | a::as,b::bs=>eqD a b && cY as bs
 | _,_=>false
end
noncomputable def okD:Nat->D->Bool
 | _,.non=>true
 | _,.bl _=>true
 | _,.int _=>true
 | _,.str _=>true
 | n+1,.tup ds=>ds.all (okD n)
 | n+1,.lst ds=>ds.all (okD n)
 | _,_=>false
noncomputable def lsD (st:Sto):W->Option (List D)
 | .d (.lst ds)=>some ds
 | .h n=>lg st n
 | _=>none
noncomputable def cK (st:Sto) (x y:W):Option D:=match x,y with
 | .d (.int i),.d (.int j)=>some (.int (i+j))
 | .d (.tup a),.d (.tup b)=>if a.length+b.length<=1000000 then some (.tup (a++b)) else none
 | .d (.str a),.d (.str b)=>if a.length+b.length<=1000000 then some (.str (a++b)) else none
 | x,y=>(lsD st x).bind λa=>(lsD st y).bind λb=>if a.length+b.length<=1000000 then some (.lst (a++b)) else none
instance (a b:Int):Decidable (IntMulOk a b):=by unfold IntMulOk;infer_instance
noncomputable def bX (_:Sto):W->W->Option D
 | .d (.int i),.d (.int j)=>if IntMulOk i j then some (.int (i*j)) else none
 | .d (.tup a),.d (.int k)=>if a≠[]/\a.length<=1000/\1<=k/\k < 1000 then some (.tup (List.replicate k.toNat a).flatten) else none
 | .d (.lst a),.d (.int k)=>if a.length<=1000/\-1000<=k/\k < 1000 then some (.lst (List.replicate k.toNat a).flatten) else none
 | _,_=>none
noncomputable def eS (_:Sto):W->W->Option D
 | .d (.int i),.d (.int j)=>if 0 < j/\j < 1073741824 then some (.int (i / j)) else none
 | _,_=>none
noncomputable def dm (_:Sto):W->W->Option D
 | .d (.int i),.d (.int j)=>if 0 < j then some (.int (i % j)) else none
 | _,_=>none
instance (i j:Int):Decidable (eL i j):=by unfold eL;infer_instance
noncomputable def fk (_:Sto):W->W->Option D
 | .d (.int i),.d (.int j)=>if eL i j then some (.int (i ^ j.toNat)) else none
 | _,_=>none
noncomputable def ld (_:Sto):W->W->Option D
 | .d (.int i),.d (.int j)=>if eL i j then some (.int (i*2 ^ j.toNat)) else none
 | _,_=>none
noncomputable def dLt (_:Sto):W->W->Option D
 | .d (.int i),.d (.int j)=>some (.bl (decide (i < j)))
 | _,_=>none
noncomputable def dLe (_:Sto):W->W->Option D
 | .d (.int i),.d (.int j)=>some (.bl (decide (i<=j)))
 | _,_=>none
noncomputable def dGt (_:Sto):W->W->Option D
 | .d (.int i),.d (.int j)=>some (.bl (decide (j < i)))
 | _,_=>none
noncomputable def dGe (_:Sto):W->W->Option D
 | .d (.int i),.d (.int j)=>some (.bl (decide (j<=i)))
 | _,_=>none
noncomputable def ln:D->Bool
 | .non=>true
 | _=>false
noncomputable def lJ (_:Sto):W->W->Option D
 | .d x,.d .non=>some (.bl (ln x))
 | _,_=>none
noncomputable def inD (x:D) (ds:List D):Bool:=ds.any λy=>eqD y x
section
variable {K:PySem.W.Frag}{X:Cx}
theorem cU {H:Hp}{φ:List Addr}{d:D}{v:V} (h:bJ d=true) (r:Rl K H φ d v):v=vOf d/\bR v=true:=by
 cases d with
 | non=>cases (show v=.non from r);exact⟨rfl,rfl⟩
 | bl b=>cases (show v=.bl b from r);exact⟨rfl,rfl⟩
 | int b=>cases (show v=.int b from r);exact⟨rfl,rfl⟩
 | str b=>cases (show v=.str b from r);exact⟨rfl,rfl⟩
 | _=>cases h
theorem fB {a b:D} (ha:bJ a=true) (hb:bJ b=true):eqV (vOf a) (vOf b)=eqD a b:=by
 cases a<;>cases b<;>first | rfl | (cases ha;done) | (cases hb;done) | (simp [eqV,vOf,eqD];done)
theorem gv {H:Hp}{φ:List Addr}:∀ {ds:List D}{vs:List V},ds.all bJ=true->Rls K H φ ds vs->vs=ds.map vOf/\vs.all bR=true
 | [],_,_,h=>by cases h;exact⟨rfl,rfl⟩
 | d::ds,_,h,r=>by
  rw [List.all_cons,Bool.and_eq_true] at h
  obtain⟨v,vr,rfl,r1,r2⟩:=r
  obtain⟨e1,e2⟩:=cU h.1 r1
  obtain⟨e3,e4⟩:=gv h.2 r2
  exact⟨by rw [e1,e3];rfl,by rw [List.all_cons,e2,e4];rfl⟩
theorem ik {x:D} (hx:bJ x=true):∀ {ds:List D},ds.all bJ=true->inV (vOf x) (ds.map vOf)=inD x ds
 | [],_=>rfl
 | d::ds,h=>by
  rw [List.all_cons,Bool.and_eq_true] at h
  have ih:=ik hx h.2
  unfold inV inD at ih ⊢
  rw [List.map_cons,List.any_cons,List.any_cons,ih,fB h.1 hx]
theorem cC {f:Value->Value->Sem Value}{g:Sto->W->W->Option D} (h:∀ st x y d,g st x y=some d->∃ i j,x=.d (.int i)/\y=.d (.int j)/\OpR X f (λvx vy H Q=>vx=.int i/\vy=.int j/\Q (vOf d) H)/\bJ d=true):OpD K X f g:=by
 refine⟨λst x y d hd=>?_⟩
 obtain⟨i,j,rfl,rfl,ho,hf⟩:=h st x y d hd
 refine ho.imp ?_
 rintro vx vy H Q ⟨φ,S,r1,r2,q⟩
 refine⟨r1,r2,q _ H (ay.refl H) ?_⟩
 cases d<;>first | rfl | cases hf
theorem nJ:OpD K X (compareOp .Lt) dLt:=cC λst x y d h=>by
 match x,y,h with
 | .d (.int i),.d (.int j),h=>cases h;exact⟨i,j,rfl,rfl,n3.imp λvx vy H Q ⟨a,b,q⟩=>⟨i,j,a,b,q⟩,rfl⟩
theorem lj:OpD K X (compareOp .LtE) dLe:=cC λst x y d h=>by
 match x,y,h with
 | .d (.int i),.d (.int j),h=>cases h;exact⟨i,j,rfl,rfl,oe.imp λvx vy H Q ⟨a,b,q⟩=>⟨i,j,a,b,q⟩,rfl⟩
theorem nq:OpD K X (compareOp .Gt) dGt:=cC λst x y d h=>by
 match x,y,h with
 | .d (.int i),.d (.int j),h=>cases h;exact⟨i,j,rfl,rfl,nB.imp λvx vy H Q ⟨a,b,q⟩=>⟨i,j,a,b,q⟩,rfl⟩
theorem n6:OpD K X (compareOp .GtE) dGe:=cC λst x y d h=>by
 match x,y,h with
 | .d (.int i),.d (.int j),h=>cases h;exact⟨i,j,rfl,rfl,nk.imp λvx vy H Q ⟨a,b,q⟩=>⟨i,j,a,b,q⟩,rfl⟩
theorem ie:OpD K X (binaryOp .FloorDiv) eS:=cC λst x y d h=>by
 match x,y,h with
 | .d (.int i),.d (.int j),h=>
  simp only [eS] at h
  split at h
  ·rename_i hc
   cases h;exact⟨i,j,rfl,rfl,kR.imp λvx vy H Q ⟨a,b,q⟩=>⟨i,j,a,b,hc,q⟩,rfl⟩
  ·cases h
theorem cQ:OpD K X (binaryOp .Mod) dm:=cC λst x y d h=>by
 match x,y,h with
 | .d (.int i),.d (.int j),h=>
  simp only [dm] at h
  split at h
  ·rename_i hc
   cases h;exact⟨i,j,rfl,rfl,lK.imp λvx vy H Q ⟨a,b,q⟩=>⟨i,j,a,b,hc,q⟩,rfl⟩
  ·cases h
theorem d3:OpD K X (binaryOp .Pow) fk:=cC λst x y d h=>by
 match x,y,h with
 | .d (.int i),.d (.int j),h=>
  simp only [fk] at h
  split at h
  ·rename_i hc
   cases h;exact⟨i,j,rfl,rfl,mD.imp λvx vy H Q ⟨a,b,q⟩=>⟨i,j,a,b,hc,q⟩,rfl⟩
  ·cases h
theorem lD:OpD K X (binaryOp .LShift) ld:=cC λst x y d h=>by
 match x,y,h with
 | .d (.int i),.d (.int j),h=>
  simp only [ld] at h
  split at h
  ·rename_i hc
   cases h;exact⟨i,j,rfl,rfl,mw.imp λvx vy H Q ⟨a,b,q⟩=>⟨i,j,a,b,hc,q⟩,rfl⟩
  ·cases h
theorem mk {H:Hp}{φ:List Addr}{d:D}{v:V} (r:Rl K H φ d v):decide (v=.non)=ln d:=by
 cases d with
 | non=>cases (show v=.non from r);rfl
 | bl b=>cases (show v=.bl b from r);rfl
 | int b=>cases (show v=.int b from r);rfl
 | str b=>cases (show v=.str b from r);rfl
 | ty b=>cases (show v=.ty b from r);rfl
 | dct=>obtain⟨a,rfl,_⟩:=r;rfl
 | scr ns=>obtain⟨a,rfl,_⟩:=r;rfl
 | tup ds=>obtain⟨a,vs,rfl,_⟩:=r;rfl
 | lst ds=>obtain⟨a,vs,rfl,_⟩:=r;rfl
theorem jg:OpD K X (compareOp .Is) lJ:=by
 refine⟨λst x y d h=>?_⟩
 match x,y,h with
 | .d x,.d .non,h=>
  cases h
  refine lv.imp ?_
  rintro vx vy H Q ⟨φ,S,r1,r2,q⟩
  refine⟨r2,q _ H (ay.refl H) ?_⟩
  rw [mk r1];rfl
end
end L2
namespace L2
open PySem PySem.Spec PyProof.Rows
section
variable {K:PySem.W.Frag}{X:Cx}
theorem kG:OpR X (binaryOp .Add) (λx y H Q=>∃ l b xs zs,x=.ref l/\y=.ref b/\Rd H l (.lst xs)/\Rd H b (.lst zs)/\xs.length+zs.length<=sizeLine/\∀ p,H p=none->Q (.ref p) (upd H p (.lst (xs++zs)))):=by
 intro pins s σ H x y v u Q I rx ry h
 obtain⟨l,b,xs,zs,rfl,rfl,hH,hB,hz,q⟩:=h
 cases rx
 cases ry
 obtain⟨z,its,n,r,e⟩:=hH.ok I.hok
 obtain⟨z2,its2,n2,r2,e2⟩:=hB.ok I.hok
 have hl:=r.length
 have hl2:=r2.length
 refine PySem.P.add_list e e2 ?_ (by rw [List.size_toArray,List.size_toArray];lia)
 have ea:its.toArray++its2.toArray=(its++its2).toArray:=by simp
 rw [ea]
 exact⟨.ref _,_,I.lnew (t':=s.toks) (r.append r2) (by rw [List.length_append];lia),rfl,q _ I.fresh⟩
theorem jc:OpR X (binaryOp .Add) (λx y H Q=>∃ a b xs ys,x=.ref a/\y=.ref b/\SqT X.K H a xs/\SqT X.K H b ys/\xs.length+ys.length<=sizeLine/\
  (xs=[]->Q (.ref b) H)/\(ys=[]->Q (.ref a) H)/\∀ p,H p=none->Q (.ref p) (upd H p (.tup (xs++ys)))):=by
 intro pins s σ H x y v u Q I rx ry h
 obtain⟨a,b,xs,ys,rfl,rfl,ha,hb,hz,q0,q1,q2⟩:=h
 by_cases hx:xs=[]
 ·cases rx
  cases ry
  obtain⟨its,r1,p1,_⟩:=I.tuple ha
  obtain⟨its2,r2,p2,_⟩:=I.tuple hb
  obtain⟨⟨cls,dd,data,sl⟩,ho,hc,n,hd⟩:=id p1
  obtain⟨⟨cls2,dd2,data2,sl2⟩,ho2,hc2,n2,hd2⟩:=id p2
  simp only at hc hd hc2 hd2
  subst hc hd hc2 hd2
  exact concat_meets ⟨_,ho,rfl⟩ ⟨_,ho2,rfl⟩ noFill_tuple_add seq_tuple_add PySem.F.slot_tuple_add PySem.F.entry_tuple_add (PySem.F.args_tuple_add_2 _ _)
   (tuple_addW0 a b its.toArray its2.toArray n n2 dd dd2 sl sl2 (by simp [r1.nil_iff.mpr hx])) ⟨ho,ho2,.ref b,H,I,rfl,q0 hx⟩
 ·exact lc pins s σ H _ _ v u Q I rx ry ⟨a,b,xs,ys,rfl,rfl,ha,hb,hx,hz,q1,λ_ p hp=>q2 p hp⟩
theorem jZ {st:Sto}{H:Hp}{φ:List Addr}{w:W}{v:V}{ds:List D} (S:Sr K H φ st) (r:Rw K H φ w v) (e:lsD st w=some ds):∃ a vs,v=.ref a/\Rd H a (.lst vs)/\Rls K H φ ds vs:=by
 cases w with
 | h n=>
  obtain⟨a,ea,rfl⟩:=r
  obtain⟨vs,q,rl⟩:=S.atl n a ds ea e
  exact⟨a,vs,rfl,.inl q,rl⟩
 | d x=>
  cases x with
  | lst es=>cases e;obtain⟨a,vs,rfl,h0,h1,h2⟩:=r;exact⟨a,vs,rfl,h1,h2⟩
  | _=>cases e
theorem mil:(1000000:Nat)<=sizeLine:=by rw [sizeLine_eq];decide
theorem cq (hK:X.K=K:=by rfl):OpD K X (binaryOp .Add) cK:=by
 subst hK
 refine⟨λst x y d h=>?_⟩
 have lists:(lsD st x).bind (λa=>(lsD st y).bind λb=>if a.length+b.length<=1000000 then some (.lst (a++b)) else none)=some d->OpR X (binaryOp .Add) (rD X.K st x y d):=λh=>by
  simp only [Option.bind_eq_some_iff] at h
  obtain⟨as,ha,bs,hb,h⟩:=h
  split at h
  ·rename_i hl
   cases h
   refine kG.imp ?_
   rintro vx vy H Q ⟨φ,S,r1,r2,q⟩
   obtain⟨a,us,rfl,h1,h2⟩:=jZ S r1 ha
   obtain⟨b,vs,rfl,h3,h4⟩:=jZ S r2 hb
   refine⟨a,b,us,vs,rfl,rfl,h1,h3,by rw [<-h2.length,<-h4.length];exact Nat.le_trans hl mil,λp hp=>q _ _ (ay.new hp _) ?_⟩
   exact⟨p,_,rfl,S.nin hp,.inl aN,(h2.append h4).fw S (Fw.new hp)⟩
  ·cases h
 match x,y,h with
 | .d (.int i),.d (.int j),h=>
  cases h
  refine mK.imp ?_
  rintro vx vy H Q ⟨φ,S,r1,r2,q⟩
  exact⟨i,j,r1,r2,q _ H (ay.refl H) rfl⟩
 | .d (.tup as),.d (.tup bs),h=>
  simp only [cK] at h
  split at h
  ·rename_i hl
   cases h
   refine jc.imp ?_
   rintro vx vy H Q ⟨φ,S,⟨a,us,rfl,h1,h2⟩,⟨b,vs,rfl,h3,h4⟩,q⟩
   refine⟨a,b,us,vs,rfl,rfl,(SqT.of h1),(SqT.of h3),by rw [<-h2.length,<-h4.length];exact Nat.le_trans hl mil,λe=>?_,λe=>?_,λp hp=>?_⟩
   ·subst e
    have:as=[]:=by cases as with | nil=>rfl | cons _ _=>cases h2.length
    subst this
    exact q _ H (ay.refl H) ⟨b,vs,rfl,h3,h4⟩
   ·subst e
    have:bs=[]:=by cases bs with | nil=>rfl | cons _ _=>cases h4.length
    subst this
    exact q _ H (ay.refl H) ⟨a,us,rfl,h1,by rw [List.append_nil];exact h2⟩
   ·exact q _ _ (ay.new hp _) ⟨p,_,rfl,aN,(h2.append h4).fw S (Fw.new hp)⟩
  ·cases h
 | .d (.str as),.d (.str bs),h=>
  simp only [cK] at h
  split at h
  ·rename_i hl
   cases h
   refine hX.imp ?_
   rintro vx vy H Q ⟨φ,S,r1,r2,q⟩
   exact⟨as,bs,r1,r2,Nat.le_trans hl mil,q _ H (ay.refl H) rfl⟩
  ·cases h
 | .d (.lst as),y,h=>exact lists (by cases y with | h n=>exact h | d y=>cases y<;>exact h)
 | .h n,y,h=>exact lists (by cases y with | h n=>exact h | d y=>cases y<;>exact h)
theorem kQ:OpR X (binaryOp .Mult) (λx y H Q=>∃ l k xs,x=.ref l/\y=.int k/\Rd H l (.lst xs)/\-(2 ^ 63)<=k/\k < 2 ^ 63/\xs.length*k.toNat<=sizeLine/\
 ∀ p,H p=none->Q (.ref p) (upd H p (.lst (List.replicate k.toNat xs).flatten))):=by
 intro pins s σ H x y v u Q I rx ry h
 obtain⟨l,k,xs,rfl,rfl,hH,h1,h2,hz,q⟩:=h
 cases rx
 obtain⟨t,rfl⟩:=ry
 obtain⟨z,its,n,r,e⟩:=hH.ok I.hok
 have hl:=r.length
 have hlen:its.toArray.size*k.toNat<=sizeLine:=by rw [List.size_toArray,<-hl];exact hz
 have hcap:¬ its.toArray.size*k.toNat > (2 ^ 63 - 1) / 8:=by
  have:(sizeLine:Nat)<=(2 ^ 63 - 1) / 8:=by decide
  lia
 have hfit:¬ (!Builtin.List.listFitsIndex k)=true:=by
  rw [fitsIndex_both h1 h2]
  exact Bool.false_ne_true
 have hlong:¬ Builtin.List.listTooLong (its.toArray.size*k.toNat)=true:=by
  rw [jM hlen]
  exact Bool.false_ne_true
 have hnew:List.foldl (λx1 x2=>x1++x2) #[] (List.replicate (if its.toArray.isEmpty=true then 0 else k.toNat) its.toArray)=(List.replicate k.toNat its).flatten.toArray:=by
  have f0:∀ m:Nat,List.foldl (λx1 x2=>x1++x2) #[] (List.replicate m its.toArray)=(List.replicate m its).flatten.toArray:=λm=>by
   have:=dy its m []
   rw [List.nil_append] at this
   exact this
  rw [f0]
  cases its with
  | nil=>simp
  | cons a r'=>rw [if_neg (by simp)]
 refine wpAny_binaryOp_repeat_ref (T:="list") (U:="int") (by decide) ⟨_,e,rfl⟩ (λs'=>typeIs_int s' k t) noFill_list_mul F.fills_int_mul F.slot_int_rmul repeat_list F.slot_int_index.lookup
  (call_meets F.slot_int_rmul (typeIs_int s k t) F.entry_int_rmul (F.args_int_rmul_2 _ _) (int___rmul___int_list k t l its.toArray n)
    ⟨e,rfl,⟨_,e,rfl⟩,call_meets F.slot_list_mul ⟨_,e,rfl⟩ F.entry_list_mul (F.args_list_mul_2 _ _) (AutoListH.list___mul___list_int_3 l its.toArray n k t hfit hcap hlong) ⟨e,?_⟩⟩)
 rw [hnew]
 exact⟨.ref _,_,I.lnew (t':=s.toks) (r.rep k.toNat) (by rw [fT,Nat.mul_comm];exact hz),rfl,q _ I.fresh⟩
theorem ca (hK:X.K=K:=by rfl):OpD K X (binaryOp .Mult) bX:=by
 subst hK
 refine⟨λst x y d h=>?_⟩
 match x,y,h with
 | .d (.int i),.d (.int j),h=>
  simp only [bX] at h
  split at h
  ·rename_i hl
   cases h
   refine kO.imp ?_
   rintro vx vy H Q ⟨φ,S,r1,r2,q⟩
   exact⟨i,j,r1,r2,hl,q _ H (ay.refl H) rfl⟩
  ·cases h
 | .d (.tup as),.d (.int k),h=>
  simp only [bX] at h
  split at h
  ·rename_i hl
   cases h
   refine kT.imp ?_
   rintro vx vy H Q ⟨φ,S,⟨a,us,rfl,h1,h2⟩,r2,q⟩
   have hne:us≠[]:=by rintro rfl;cases as with | nil=>exact hl.1 rfl | cons _ _=>cases h2.length
   refine⟨a,k,us,rfl,r2,(SqT.of h1),hne,by rw [<-h2.length];exact hl.2.1,hl.2.2.1,hl.2.2.2,λe=>?_,λ_ p hp=>?_⟩
   ·subst e
    exact q _ H (ay.refl H) ⟨a,us,rfl,h1,by simpa using h2⟩
   ·exact q _ _ (ay.new hp _) ⟨p,_,rfl,aN,(h2.rep _).fw S (Fw.new hp)⟩
  ·cases h
 | .d (.lst as),.d (.int k),h=>
  simp only [bX] at h
  split at h
  ·rename_i hl
   cases h
   refine kQ.imp ?_
   rintro vx vy H Q ⟨φ,S,⟨a,us,rfl,h0,h1,h2⟩,r2,q⟩
   refine⟨a,k,us,rfl,r2,h1,by lia,by lia,?_,λp hp=>?_⟩
   ·rw [<-h2.length]
    have:as.length*k.toNat<=1000*1000:=Nat.mul_le_mul hl.1 (by lia)
    exact Nat.le_trans this mil
   ·exact q _ _ (ay.new hp _) ⟨p,_,rfl,S.nin hp,.inl aN,(h2.rep _).fw S (Fw.new hp)⟩
  ·cases h
noncomputable def dIx (st:Sto) (x y:W):Option D:=match x,y with
 | .d (.str z),.d (.int i)=>if z.length<=1000000 then (atI z.cps.toList i).map λc=>.str ⟨#[c]⟩ else none
 | x,.d (.int i)=>(du st x).bind λds=>atI ds i
 | _,_=>none
theorem lH {H:Hp}{φ:List Addr}{ds:List D}{vs:List V}{i:Int}{d:D} (r:Rls K H φ ds vs) (e:atI ds i=some d):∃ v,atI vs i=some v/\Rl K H φ d v:=by
 unfold atI at e ⊢
 rw [<-r.length]
 obtain⟨j,e1,e2⟩:=Option.bind_eq_some_iff.mp e
 obtain⟨v,ev,rv⟩:=r.get e2
 exact⟨v,by rw [e1];exact ev,rv⟩
theorem IxR.imp {r r':R2} (h:IxR X r) (m:∀ x y H Q,r' x y H Q->r x y H Q):IxR X r':=λvalue slice pins s σ H x y v u Q I rx ry q hs=>h value slice pins s σ H x y v u Q I rx ry (m _ _ _ _ q) hs
theorem nF (st:Sto) (x y:W) (d:D) (h:dIx st x y=some d) (hK:X.K=K):IxR X (rD K st x y d):=by
 subst hK
 match y,h with
 | .d (.int i),h=>
  have seq:(du st x).bind (λds=>atI ds i)=some d->IxR X (rD X.K st x (.d (.int i)) d):=λh=>by
   obtain⟨ds,e1,e2⟩:=Option.bind_eq_some_iff.mp h
   refine jw.imp ?_
   rintro vx vy H Q ⟨φ,S,r1,r2,q⟩
   obtain⟨a,vs,rfl,h1,h2⟩:=fj S r1 e1
   obtain⟨v,ev,rv⟩:=lH h2 e2
   rcases h1 with h1 | h1
   ·exact .inl ⟨a,vs,i,v,rfl,r2,h1,ev,q _ H (ay.refl H) rv⟩
   ·exact .inr (.inl ⟨a,vs,i,v,rfl,r2,h1,ev,q _ H (ay.refl H) rv⟩)
  match x,h with
  | .d (.str z),h=>
   simp only [dIx] at h
   split at h
   ·rename_i hl
    obtain⟨c,e1,rfl⟩:=Option.map_eq_some_iff.mp h
    refine jw.imp ?_
    rintro vx vy H Q ⟨φ,S,r1,r2,q⟩
    exact .inr (.inr ⟨z,i,c,r1,r2,Nat.le_trans hl mil,e1,q _ H (ay.refl H) rfl⟩)
   ·cases h
  | .d (.tup z),h=>exact seq h
  | .d (.lst z),h=>exact seq h
  | .d (.scr z),h=>exact seq h
  | .h z,h=>exact seq h
 | .d .non,h=>cases x with | h n=>cases h | d x=>cases x<;>cases h
 | .d (.bl _),h=>cases x with | h n=>cases h | d x=>cases x<;>cases h
 | .d (.str _),h=>cases x with | h n=>cases h | d x=>cases x<;>cases h
 | .d (.ty _),h=>cases x with | h n=>cases h | d x=>cases x<;>cases h
 | .d (.scr _),h=>cases x with | h n=>cases h | d x=>cases x<;>cases h
 | .d .dct,h=>cases x with | h n=>cases h | d x=>cases x<;>cases h
 | .d (.tup _),h=>cases x with | h n=>cases h | d x=>cases x<;>cases h
 | .d (.lst _),h=>cases x with | h n=>cases h | d x=>cases x<;>cases h
 | .h _,h=>cases x with | h n=>cases h | d x=>cases x<;>cases h
variable {e a b:Expr}{pos p2:Pos}{f fa fb:Ef}
theorem cI (ha:IE K X a fa) (hb:IE K X b fb) (hs:eA b=true:=by rfl) (hK:X.K=K:=by rfl):IE K X (.Subscript a b pos) (iOp dIx fa fb):=by
 refine⟨λenv st r hr=>?_⟩
 simp only [iOp,Option.bind_eq_some_iff,Option.map_eq_some_iff] at hr
 obtain⟨x,hx,y,hy,d,hd,rfl⟩:=hr
 exact (ol (nF _ _ _ _ hd hK) (ha.run _ _ _ hx) (hb.run _ _ _ hy) (gn hs)).imp λσ H Q h=>fK h
end
end L2
namespace L2
open PySem PySem.Spec PyProof.Rows
section
variable {K:PySem.W.Frag}{X:Cx}{pins:List (Addr×Obj)}{σ:St}{H:Hp}{s:Shared}{φ:List Addr}{st:Sto}
theorem bQ:∀ (xs ys:List D),((List.range (min xs.length ys.length)).all (λj=>eqD (xs.getD j .non) (ys.getD j .non)) && xs.length==ys.length)=cY xs ys
 | [],[]=>rfl
 | [],y::ys=>by simp [cY]
 | x::xs,[]=>by simp [cY]
 | x::xs,y::ys=>by
  show ((List.range (min (xs.length+1) (ys.length+1))).all (λj=>eqD ((x::xs).getD j .non) ((y::ys).getD j .non)) && (xs.length+1==ys.length+1))=(eqD x y && cY xs ys)
  rw [show min (xs.length+1) (ys.length+1)=min xs.length ys.length+1 by lia,d2,<-bQ xs ys]
  have e:(xs.length+1==ys.length+1)=(xs.length==ys.length):=by rw [Bool.eq_iff_iff];simp
  rw [e,Bool.and_assoc]
  rfl
theorem cZ {xs ys:List D} (h:xs.length=ys.length):(List.range xs.length).all (λj=>eqD (xs.getD j .non) (ys.getD j .non))=cY xs ys:=by
 rw [<-bQ xs ys,<-h,Nat.min_self];simp
theorem gm:∀ {xs ys:List D},xs.length≠ys.length->cY xs ys=false
 | [],[],h=>absurd rfl h
 | [],_::_,_=>rfl
 | _::_,[],_=>rfl
 | x::xs,y::ys,h=>by
  show (eqD x y && cY xs ys)=false
  rw [gm (by intro e;apply h;rw [List.length_cons,List.length_cons,e]),Bool.and_false]
theorem kZ (I:Inv X pins σ H s) {a:Addr}{vs ws:List V} (h:Rd H a (.lst vs)) (h':Rd H a (.lst ws)):vs=ws:=I.list_inj (.inl h) (.inl h')
theorem il (I:Inv X pins σ H s):∀ (n:Nat) {d e:D}{v:V},Rl X.K H φ d v->Rl X.K H φ e v->okD n d=true->okD n e=true->eqD d e=true:=by
 intro n
 induction n with
 | zero=>
  intro d e v r1 r2 o1 o2
  cases d<;>first | (cases o1;done) | skip
  all_goals (cases e<;>first | (cases o2;done) | skip)
  all_goals (first | rfl | (cases r1.symm.trans r2;done) | (cases r1.symm.trans r2;simp [eqD]))
 | succ n ih=>
  have lists:∀ {ds es:List D}{vs:List V},Rls X.K H φ ds vs->Rls X.K H φ es vs->(∀ d ∈ ds,okD n d=true)->(∀ d ∈ es,okD n d=true)->cY ds es=true:=by
   intro ds
   induction ds with
   | nil=>
    intro es vs r1 r2 _ _
    cases r1
    cases es with
    | nil=>rfl
    | cons e es=>obtain⟨_,_,q,_⟩:=r2;cases q
   | cons d ds ihd=>
    intro es vs r1 r2 o1 o2
    obtain⟨v,r,rfl,a1,a2⟩:=r1
    cases es with
    | nil=>cases r2
    | cons e es=>
     obtain⟨v',r',q,b1,b2⟩:=r2
     cases q
     show (eqD d e && cY ds es)=true
     rw [ih a1 b1 (o1 d List.mem_cons_self) (o2 e List.mem_cons_self),ihd a2 b2 (λx hx=>o1 x (List.mem_cons_of_mem _ hx)) (λx hx=>o2 x (List.mem_cons_of_mem _ hx))]
     rfl
  intro d e v r1 r2 o1 o2
  cases d with
  | tup ds=>
   obtain⟨a,vs,rfl,h1,h2⟩:=r1
   cases e with
   | tup es=>
    obtain⟨b,us,q,h3,h4⟩:=r2
    cases q
    rw [I.tuple_inj (SqT.of h3) (SqT.of h1)] at h4
    exact lists h2 h4 (List.all_eq_true.mp o1) (List.all_eq_true.mp o2)
   | lst es=>
    obtain⟨b,us,q,_,h3,h4⟩:=r2
    cases q
    obtain⟨_,_,p1,_⟩:=I.tuple (SqT.of h1)
    obtain⟨_,_,p2,_⟩:=I.list (.inl h3)
    exact absurd rfl (SeqAt.ne_of_list_tuple p2.isList p1)
   | _=>first | (cases o2;done) | (cases r2;done)
  | lst ds=>
   obtain⟨a,vs,rfl,h0,h1,h2⟩:=r1
   cases e with
   | lst es=>
    obtain⟨b,us,q,_,h3,h4⟩:=r2
    cases q
    rw [kZ I h3 h1] at h4
    exact lists h2 h4 (List.all_eq_true.mp o1) (List.all_eq_true.mp o2)
   | tup es=>
    obtain⟨b,us,q,h3,h4⟩:=r2
    cases q
    obtain⟨_,_,p1,_⟩:=I.tuple (SqT.of h3)
    obtain⟨_,_,p2,_⟩:=I.list (.inl h1)
    exact absurd rfl (SeqAt.ne_of_list_tuple p2.isList p1)
   | _=>first | (cases o2;done) | (cases r2;done)
  | non=>cases e<;>first | rfl | (cases o2;done) | (cases r1.symm.trans r2;done) | (cases r1;obtain⟨_,_,q,_⟩:=r2;cases q)
  | bl b=>cases e<;>first | (cases o2;done) | (cases r1.symm.trans r2;simp [eqD];done) | (cases r1.symm.trans r2;done) | (cases r1;obtain⟨_,_,q,_⟩:=r2;cases q)
  | int b=>cases e<;>first | (cases o2;done) | (cases r1.symm.trans r2;simp [eqD];done) | (cases r1.symm.trans r2;done) | (cases r1;obtain⟨_,_,q,_⟩:=r2;cases q)
  | str b=>cases e<;>first | (cases o2;done) | (cases r1.symm.trans r2;simp [eqD];done) | (cases r1.symm.trans r2;done) | (cases r1;obtain⟨_,_,q,_⟩:=r2;cases q)
  | ty b=>cases o1
  | scr b=>cases o1
  | dct=>cases o1
theorem bM {ds:List D}{vs:List V}{us:List Value} (r:Rls K H φ ds vs) (rv:ak vs us):∀ (j:Nat) (h:j < us.length),∃ v,Rl K H φ (ds.getD j .non) v/\al v us[j]/\ds.getD j .non ∈ ds:=by
 intro j h
 obtain⟨h',q⟩:=rv.at j h
 have hd:j < ds.length:=by rw [r.length];exact h'
 have e:ds[j]?=some ds[j]:=List.getElem?_eq_getElem hd
 obtain⟨v,ev,rl⟩:=r.get e
 rw [List.getElem?_eq_getElem h'] at ev
 cases ev
 refine⟨_,?_,q,?_⟩
 ·rw [List.getD,e];exact rl
 ·rw [List.getD,e];exact List.getElem_mem hd
theorem lZ (I:Inv X pins σ H s):∀ (n:Nat) {A:Around}{d e:D}{v u:V}{vv uu:Value},Rl X.K H φ d v->Rl X.K H φ e u->al v vv->al u uu->okD n d=true->okD n e=true->A.units+n < cLine->SeqAt.EqAt A s vv uu (eqD d e):=by
 have flat:∀ {A:Around}{d e:D}{v u:V}{vv uu:Value},bJ d=true->bJ e=true->Rl X.K H φ d v->Rl X.K H φ e u->al v vv->al u uu->SeqAt.EqAt A s vv uu (eqD d e):=by
  intro A d e v u vv uu f1 f2 r1 r2 q1 q2
  obtain⟨e1,g1⟩:=cU f1 r1
  obtain⟨e2,g2⟩:=cU f2 r2
  rw [<-fB f1 f2,<-e1,<-e2]
  exact i4 q1 q2 g1 g2
 intro n
 induction n with
 | zero=>
  intro A d e v u vv uu r1 r2 q1 q2 o1 o2 hu
  refine flat ?_ ?_ r1 r2 q1 q2
  ·cases d<;>first | rfl | cases o1
  ·cases e<;>first | rfl | cases o2
 | succ n ih=>
  intro A d e v u vv uu r1 r2 q1 q2 o1 o2 hu
  have hu0:A.units < cLine:=by lia
  have hu1:A.in1.units+n < cLine:=by show A.units+1+n < cLine;lia
  cases d with
  | tup ds=>
   obtain⟨a,vs,rfl,h1,h2⟩:=r1
   cases q1
   obtain⟨its,rv,p1,_⟩:=I.tuple (SqT.of h1)
   cases e with
   | tup es=>
    obtain⟨b,us,rfl,h3,h4⟩:=id r2
    cases q2
    by_cases hab:a=b
    ·subst hab
     rw [il I (n+1) (d:=.tup ds) ⟨a,vs,rfl,h1,h2⟩ r2 o1 o2]
     exact SeqAt.EqAt.same _
    ·obtain⟨its2,rv2,p2,_⟩:=I.tuple (SqT.of h3)
     have z:=SeqAt.RcAt.tuples (A:=A) (e:=λj=>eqD (ds.getD j .non) (es.getD j .non)) p1 p2 hu0 λj g1 g2=>by
      obtain⟨v1,k1,k2,k3⟩:=bM h2 rv j (by simpa using g1)
      obtain⟨v2,k4,k5,k6⟩:=bM h4 rv2 j (by simpa using g2)
      exact ih k1 k4 (by simpa using k2) (by simpa using k5) (List.all_eq_true.mp o1 _ k3) (List.all_eq_true.mp o2 _ k6) hu1
     have e1:its.toArray.size=ds.length:=by simp [<-rv.length,h2.length]
     have e2:its2.toArray.size=es.length:=by simp [<-rv2.length,h4.length]
     rw [e1,e2,bQ] at z
     exact SeqAt.EqAt.of_refs hab z
   | lst es=>
    obtain⟨b,us,rfl,_,h3,h4⟩:=id r2
    cases q2
    obtain⟨its2,rv2,p2,_⟩:=I.list (.inl h3)
    exact SeqAt.EqAt.tuple_list p1 p2.isList hu0
   | non=>cases r2;cases q2;exact SeqAt.EqAt.tuple_none p1 hu0
   | bl x=>cases r2;cases q2;exact SeqAt.EqAt.tuple_bool x p1 hu0
   | int x=>cases r2;obtain⟨t,rfl⟩:=q2;exact SeqAt.EqAt.tuple_int x t p1 hu0
   | str x=>cases r2;obtain⟨t,rfl⟩:=q2;exact SeqAt.EqAt.tuple_str x t p1 hu0
   | ty _=>cases o2
   | scr _=>cases o2
   | dct=>cases o2
  | lst ds=>
   obtain⟨a,vs,rfl,h0,h1,h2⟩:=r1
   cases q1
   obtain⟨its,rv,p1,_⟩:=I.list (.inl h1)
   cases e with
   | lst es=>
    obtain⟨b,us,rfl,_,h3,h4⟩:=id r2
    cases q2
    by_cases hab:a=b
    ·subst hab
     rw [il I (n+1) (d:=.lst ds) ⟨a,vs,rfl,h0,h1,h2⟩ r2 o1 o2]
     exact SeqAt.EqAt.same _
    ·obtain⟨its2,rv2,p2,_⟩:=I.list (.inl h3)
     have e1:its.toArray.size=ds.length:=by simp [<-rv.length,h2.length]
     have e2:its2.toArray.size=es.length:=by simp [<-rv2.length,h4.length]
     by_cases hl:ds.length=es.length
     ·have z:=SeqAt.RcAt.lists (A:=A) (e:=λj=>eqD (ds.getD j .non) (es.getD j .non)) p1.isList p2.isList (by rw [e1,e2,hl]) hu0 λj g1 g2=>by
       obtain⟨v1,k1,k2,k3⟩:=bM h2 rv j (by simpa using g1)
       obtain⟨v2,k4,k5,k6⟩:=bM h4 rv2 j (by simpa using g2)
       exact ih k1 k4 (by simpa using k2) (by simpa using k5) (List.all_eq_true.mp o1 _ k3) (List.all_eq_true.mp o2 _ k6) hu1
      rw [e1,cZ hl] at z
      exact SeqAt.EqAt.of_refs hab z
     ·have z:=SeqAt.RcAt.lists_lengths (A:=A) p1.isList p2.isList (by rw [e1,e2];simpa using hl) hu0
      show SeqAt.EqAt A s _ _ (cY ds es)
      rw [gm hl]
      exact SeqAt.EqAt.of_refs hab z
   | tup es=>
    obtain⟨b,us,rfl,h3,h4⟩:=id r2
    cases q2
    obtain⟨its2,rv2,p2,_⟩:=I.tuple (SqT.of h3)
    exact SeqAt.EqAt.list_tuple p1.isList p2 hu0
   | non=>cases r2;cases q2;exact SeqAt.EqAt.list_none p1.isList hu0
   | bl x=>cases r2;cases q2;exact SeqAt.EqAt.list_bool x p1.isList hu0
   | int x=>cases r2;obtain⟨t,rfl⟩:=q2;exact SeqAt.EqAt.list_int x t p1.isList hu0
   | str x=>cases r2;obtain⟨t,rfl⟩:=q2;exact SeqAt.EqAt.list_str x t p1.isList hu0
   | ty _=>cases o2
   | scr _=>cases o2
   | dct=>cases o2
  | non=>
   cases r1;cases q1
   cases e with
   | tup es=>obtain⟨b,us,rfl,h3,h4⟩:=r2;cases q2;obtain⟨_,_,p2,_⟩:=I.tuple (SqT.of h3);exact SeqAt.EqAt.none_tuple p2 hu0
   | lst es=>obtain⟨b,us,rfl,_,h3,h4⟩:=r2;cases q2;obtain⟨_,_,p2,_⟩:=I.list (.inl h3);exact SeqAt.EqAt.none_list p2.isList hu0
   | _=>first | (cases o2;done) | exact flat rfl rfl (d:=.non) rfl r2 (v:=.non) rfl q2
  | bl x=>
   cases r1;cases q1
   cases e with
   | tup es=>obtain⟨b,us,rfl,h3,h4⟩:=r2;cases q2;obtain⟨_,_,p2,_⟩:=I.tuple (SqT.of h3);exact SeqAt.EqAt.bool_tuple x p2 hu0
   | lst es=>obtain⟨b,us,rfl,_,h3,h4⟩:=r2;cases q2;obtain⟨_,_,p2,_⟩:=I.list (.inl h3);exact SeqAt.EqAt.bool_list x p2.isList hu0
   | _=>first | (cases o2;done) | exact flat rfl rfl (d:=.bl x) rfl r2 (v:=.bl x) rfl q2
  | int x=>
   cases r1;obtain⟨t1,rfl⟩:=q1
   cases e with
   | tup es=>obtain⟨b,us,rfl,h3,h4⟩:=r2;cases q2;obtain⟨_,_,p2,_⟩:=I.tuple (SqT.of h3);exact SeqAt.EqAt.int_tuple x t1 p2 hu0
   | lst es=>obtain⟨b,us,rfl,_,h3,h4⟩:=r2;cases q2;obtain⟨_,_,p2,_⟩:=I.list (.inl h3);exact SeqAt.EqAt.int_list x t1 p2.isList hu0
   | _=>first | (cases o2;done) | exact flat rfl rfl (d:=.int x) rfl r2 (v:=.int x) ⟨t1,rfl⟩ q2
  | str x=>
   cases r1;obtain⟨t1,rfl⟩:=q1
   cases e with
   | tup es=>obtain⟨b,us,rfl,h3,h4⟩:=r2;cases q2;obtain⟨_,_,p2,_⟩:=I.tuple (SqT.of h3);exact SeqAt.EqAt.str_tuple x t1 p2 hu0
   | lst es=>obtain⟨b,us,rfl,_,h3,h4⟩:=r2;cases q2;obtain⟨_,_,p2,_⟩:=I.list (.inl h3);exact SeqAt.EqAt.str_list x t1 p2.isList hu0
   | _=>first | (cases o2;done) | exact flat rfl rfl (d:=.str x) rfl r2 (v:=.str x) ⟨t1,rfl⟩ q2
  | ty _=>cases o1
  | scr _=>cases o1
  | dct=>cases o1
theorem mJ {A:Around}{y x:V}{u v:Value} (ry:al y u) (rx:al x v) (fy:bR y=true) (fx:bR x=true):SeqAt.RcAt A s u v (eqV y x):=by
 cases y with
 | non=>
  cases ry
  cases x with
  | non=>cases rx;exact SeqAt.RcAt.none_none
  | bl b=>cases rx;exact SeqAt.RcAt.none_bool b
  | int b=>obtain⟨t,rfl⟩:=rx;exact SeqAt.RcAt.none_int b t
  | str b=>obtain⟨t,rfl⟩:=rx;exact SeqAt.RcAt.none_str b t
  | _=>cases fx
 | bl a=>
  cases ry
  cases x with
  | non=>cases rx;exact SeqAt.RcAt.bool_none a
  | bl b=>cases rx;exact SeqAt.RcAt.bool_bool a b
  | int b=>obtain⟨t,rfl⟩:=rx;exact SeqAt.RcAt.bool_int a b t
  | str b=>obtain⟨t,rfl⟩:=rx;exact SeqAt.RcAt.bool_str a b t
  | _=>cases fx
 | int a=>
  obtain⟨t',rfl⟩:=ry
  cases x with
  | non=>cases rx;exact SeqAt.RcAt.int_none a t'
  | bl b=>cases rx;exact SeqAt.RcAt.int_bool a t' b
  | int b=>obtain⟨t,rfl⟩:=rx;exact SeqAt.RcAt.int_int a t' b t
  | str b=>obtain⟨t,rfl⟩:=rx;exact SeqAt.RcAt.int_str a t' b t
  | _=>cases fx
 | str a=>
  obtain⟨t',rfl⟩:=ry
  cases x with
  | non=>cases rx;exact SeqAt.RcAt.str_none a t'
  | bl b=>cases rx;exact SeqAt.RcAt.str_bool a t' b
  | int b=>obtain⟨t,rfl⟩:=rx;exact SeqAt.RcAt.str_int a t' b t
  | str b=>obtain⟨t,rfl⟩:=rx;exact SeqAt.RcAt.str_str a t' b t
  | _=>cases fx
 | _=>cases fy
theorem jo {A:Around}{y x:V}{u v:Value} (ry:al y u) (rx:al x v) (fy:bR y=true) (fx:bR x=true):SeqAt.RcNeAt A s u v (!eqV y x):=by
 cases y with
 | non=>
  cases ry
  cases x with
  | non=>cases rx;exact SeqAt.RcNeAt.none_none
  | bl b=>cases rx;exact SeqAt.RcNeAt.none_bool b
  | int b=>obtain⟨t,rfl⟩:=rx;exact SeqAt.RcNeAt.none_int b t
  | str b=>obtain⟨t,rfl⟩:=rx;exact SeqAt.RcNeAt.none_str b t
  | _=>cases fx
 | bl a=>
  cases ry
  cases x with
  | non=>cases rx;exact SeqAt.RcNeAt.bool_none a
  | bl b=>cases rx;exact SeqAt.RcNeAt.bool_bool a b
  | int b=>obtain⟨t,rfl⟩:=rx;exact SeqAt.RcNeAt.bool_int a b t
  | str b=>obtain⟨t,rfl⟩:=rx;exact SeqAt.RcNeAt.bool_str a b t
  | _=>cases fx
 | int a=>
  obtain⟨t',rfl⟩:=ry
  cases x with
  | non=>cases rx;exact SeqAt.RcNeAt.int_none a t'
  | bl b=>cases rx;exact SeqAt.RcNeAt.int_bool a t' b
  | int b=>obtain⟨t,rfl⟩:=rx;exact SeqAt.RcNeAt.int_int a t' b t
  | str b=>obtain⟨t,rfl⟩:=rx;exact SeqAt.RcNeAt.int_str a t' b t
  | _=>cases fx
 | str a=>
  obtain⟨t',rfl⟩:=ry
  cases x with
  | non=>cases rx;exact SeqAt.RcNeAt.str_none a t'
  | bl b=>cases rx;exact SeqAt.RcNeAt.str_bool a t' b
  | int b=>obtain⟨t,rfl⟩:=rx;exact SeqAt.RcNeAt.str_int a t' b t
  | str b=>obtain⟨t,rfl⟩:=rx;exact SeqAt.RcNeAt.str_str a t' b t
  | _=>cases fx
 | _=>cases fy
inductive Kin where
 | fl (d:D) | tp (ds:List D) | ls (ds:List D)
noncomputable def gw (st:Sto):W->Option Kin
 | .d (.tup ds)=>some (.tp ds)
 | .d (.lst ds)=>some (.ls ds)
 | .h n=>(lg st n).map .ls
 | .d .non=>some (.fl .non)
 | .d (.bl b)=>some (.fl (.bl b))
 | .d (.int i)=>some (.fl (.int i))
 | .d (.str x)=>some (.fl (.str x))
 | _=>none
noncomputable def eqK:Kin->Kin->Option Bool
 | .fl a,.fl b=>some (eqD a b)
 | .tp as,.tp bs=>if (as.isEmpty || bs.isEmpty)=true then some (as.isEmpty && bs.isEmpty) else if as.all (okD 60)=true/\bs.all (okD 60)=true then some (cY as bs) else none
 | .ls as,.ls bs=>if as.length=bs.length then (if as.all (okD 60)=true/\bs.all (okD 60)=true then some (cY as bs) else none) else some false
 | .fl _,.tp _=>some false
 | .tp _,.fl _=>some false
 | .fl _,.ls _=>some false
 | .ls _,.fl _=>some false
 | .tp _,.ls _=>some false
 | .ls _,.tp _=>some false
noncomputable def dEq (st:Sto) (x y:W):Option D:=(gw st x).bind λa=>(gw st y).bind λb=>(eqK a b).map λk=>.bl k
noncomputable def mU (K:PySem.W.Frag) (H:Hp) (φ:List Addr):Kin->V->Prop
 | .fl d,v=>bJ d=true/\Rl K H φ d v
 | .tp ds,v=>∃ a vs,v=.ref a/\SqT K H a vs/\Rls K H φ ds vs
 | .ls ds,v=>∃ a vs,v=.ref a/\Rd H a (.lst vs)/\Rls K H φ ds vs
theorem iw {w:W}{v:V}{k:Kin} (S:Sr K H φ st) (r:Rw K H φ w v) (e:gw st w=some k):mU K H φ k v:=by
 cases w with
 | h n=>
  obtain⟨a,ea,rfl⟩:=r
  obtain⟨ds,e1,rfl⟩:=Option.map_eq_some_iff.mp e
  obtain⟨vs,q,rl⟩:=S.atl n a ds ea e1
  exact⟨a,vs,rfl,.inl q,rl⟩
 | d x=>
  cases x with
  | tup es=>cases e;obtain⟨a,vs,rfl,h1,h2⟩:=r;exact⟨a,vs,rfl,SqT.of h1,h2⟩
  | lst es=>cases e;obtain⟨a,vs,rfl,h0,h1,h2⟩:=r;exact⟨a,vs,rfl,h1,h2⟩
  | non=>cases e;exact⟨rfl,r⟩
  | bl b=>cases e;exact⟨rfl,r⟩
  | int b=>cases e;exact⟨rfl,r⟩
  | str b=>cases e;exact⟨rfl,r⟩
  | _=>cases e
theorem mF {A:Around}{k:Nat} (hr:bj k A):A.in1.units+60 < cLine:=by
 have:=hr.un
 show A.units+1+60 < cLine
 lia
theorem mT {k:Nat} (hr:bj k X.A) (I:Inv X pins σ H s) {a b:Kin}{v u:V}{vv uu:Value}{r:Bool} (ra:mU X.K H φ a v) (rb:mU X.K H φ b u) (qa:al v vv) (qb:al u uu) (e:eqK a b=some r) :
  SeqAt.RcAt X.A s vv uu r/\SeqAt.RcNeAt X.A s vv uu (!r):=by
 have hu0:=hr.units0
 have items:∀ {ds es:List D}{vs us:List V}{its its2:List Value},Rls X.K H φ ds vs->Rls X.K H φ es us->ak vs its->ak us its2->ds.all (okD 60)=true->es.all (okD 60)=true->
   ∀ j (g1:j < its.toArray.size) (g2:j < its2.toArray.size),SeqAt.EqAt X.A.in1 s its.toArray[j] its2.toArray[j] (eqD (ds.getD j .non) (es.getD j .non)):=by
  intro ds es vs us its its2 h2 h4 rv rv2 o1 o2 j g1 g2
  obtain⟨v1,k1,k2,k3⟩:=bM h2 rv j (by simpa using g1)
  obtain⟨v2,k4,k5,k6⟩:=bM h4 rv2 j (by simpa using g2)
  exact lZ I 60 k1 k4 (by simpa using k2) (by simpa using k5) (List.all_eq_true.mp o1 _ k3) (List.all_eq_true.mp o2 _ k6) (mF hr)
 match a,b,e with
 | .fl d,.fl d',e=>
  cases e
  obtain⟨f1,r1⟩:=ra
  obtain⟨f2,r2⟩:=rb
  obtain⟨e1,g1⟩:=cU f1 r1
  obtain⟨e2,g2⟩:=cU f2 r2
  rw [<-fB f1 f2,<-e1,<-e2]
  exact⟨mJ qa qb g1 g2,jo qa qb g1 g2⟩
 | .tp ds,.tp es,e=>
  simp only [eqK] at e
  obtain⟨a,vs,rfl,h1,h2⟩:=ra
  obtain⟨b,us,rfl,h3,h4⟩:=rb
  cases qa;cases qb
  obtain⟨its,rv,p1,_⟩:=I.tuple h1
  obtain⟨its2,rv2,p2,_⟩:=I.tuple h3
  have e1:its.toArray.size=ds.length:=by simp [<-rv.length,h2.length]
  have e2:its2.toArray.size=es.length:=by simp [<-rv2.length,h4.length]
  split at e
  ·rename_i hc
   cases e
   have hv:∀ j (g1:j < its.toArray.size) (g2:j < its2.toArray.size),SeqAt.EqAt X.A.in1 s its.toArray[j] its2.toArray[j] (eqD (ds.getD j .non) (es.getD j .non)):=λj g1 g2=>by
    rw [e1] at g1
    rw [e2] at g2
    rw [Bool.or_eq_true] at hc
    rcases hc with hc | hc
    ·rw [List.isEmpty_iff.mp hc] at g1;exact absurd g1 (Nat.not_lt_zero _)
    ·rw [List.isEmpty_iff.mp hc] at g2;exact absurd g2 (Nat.not_lt_zero _)
   have z:=SeqAt.RcAt.tuples (A:=X.A) p1 p2 hu0 hv
   have z':=SeqAt.RcNeAt.tuples (A:=X.A) p1 p2 hu0 hv
   rw [e1,e2,bQ] at z z'
   have e3:cY ds es=(ds.isEmpty && es.isEmpty):=by
    cases ds with
    | nil=>cases es<;>rfl
    | cons _ _=>cases es with
     | nil=>rfl
     | cons _ _=>cases hc
   rw [e3] at z z'
   exact⟨z,z'⟩
  ·split at e
   ·rename_i hc
    cases e
    have z:=SeqAt.RcAt.tuples (A:=X.A) p1 p2 hu0 (items h2 h4 rv rv2 hc.1 hc.2)
    have z':=SeqAt.RcNeAt.tuples (A:=X.A) p1 p2 hu0 (items h2 h4 rv rv2 hc.1 hc.2)
    rw [e1,e2,bQ] at z z'
    exact⟨z,z'⟩
   ·cases e
 | .ls ds,.ls es,e=>
  simp only [eqK] at e
  obtain⟨a,vs,rfl,h1,h2⟩:=ra
  obtain⟨b,us,rfl,h3,h4⟩:=rb
  cases qa;cases qb
  obtain⟨its,rv,p1,_⟩:=I.list (.inl h1)
  obtain⟨its2,rv2,p2,_⟩:=I.list (.inl h3)
  have e1:its.toArray.size=ds.length:=by simp [<-rv.length,h2.length]
  have e2:its2.toArray.size=es.length:=by simp [<-rv2.length,h4.length]
  split at e
  ·rename_i hl
   split at e
   ·rename_i hc
    cases e
    have z:=SeqAt.RcAt.lists (A:=X.A) p1.isList p2.isList (by rw [e1,e2,hl]) hu0 (items h2 h4 rv rv2 hc.1 hc.2)
    have z':=SeqAt.RcNeAt.lists (A:=X.A) p1.isList p2.isList (by rw [e1,e2,hl]) hu0 (items h2 h4 rv rv2 hc.1 hc.2)
    rw [e1,cZ hl] at z z'
    exact⟨z,z'⟩
   ·cases e
  ·rename_i hl
   cases e
   have z:=SeqAt.RcAt.lists_lengths (A:=X.A) p1.isList p2.isList (by rw [e1,e2];simpa using hl) hu0
   have z':=SeqAt.RcNeAt.lists_lengths (A:=X.A) p1.isList p2.isList (by rw [e1,e2];simpa using hl) hu0
   exact⟨z,z'⟩
 | .fl d,.tp es,e=>
  cases e
  obtain⟨f1,r1⟩:=ra
  obtain⟨b,us,rfl,h3,h4⟩:=rb
  cases qb
  obtain⟨its2,rv2,p2,_⟩:=I.tuple h3
  cases d with
  | non=>cases r1;cases qa;exact⟨SeqAt.RcAt.none_tuple p2 hu0,SeqAt.RcNeAt.none_tuple p2 hu0⟩
  | bl x=>cases r1;cases qa;exact⟨SeqAt.RcAt.bool_tuple x p2 hu0,SeqAt.RcNeAt.bool_tuple x p2 hu0⟩
  | int x=>cases r1;obtain⟨t,rfl⟩:=qa;exact⟨SeqAt.RcAt.int_tuple x t p2 hu0,SeqAt.RcNeAt.int_tuple x t p2 hu0⟩
  | str x=>cases r1;obtain⟨t,rfl⟩:=qa;exact⟨SeqAt.RcAt.str_tuple x t p2 hu0,SeqAt.RcNeAt.str_tuple x t p2 hu0⟩
  | _=>cases f1
 | .tp es,.fl d,e=>
  cases e
  obtain⟨f1,r1⟩:=rb
  obtain⟨b,us,rfl,h3,h4⟩:=ra
  cases qa
  obtain⟨its2,rv2,p2,_⟩:=I.tuple h3
  cases d with
  | non=>cases r1;cases qb;exact⟨SeqAt.RcAt.tuple_none p2 hu0,SeqAt.RcNeAt.tuple_none p2 hu0⟩
  | bl x=>cases r1;cases qb;exact⟨SeqAt.RcAt.tuple_bool x p2 hu0,SeqAt.RcNeAt.tuple_bool x p2 hu0⟩
  | int x=>cases r1;obtain⟨t,rfl⟩:=qb;exact⟨SeqAt.RcAt.tuple_int x t p2 hu0,SeqAt.RcNeAt.tuple_int x t p2 hu0⟩
  | str x=>cases r1;obtain⟨t,rfl⟩:=qb;exact⟨SeqAt.RcAt.tuple_str x t p2 hu0,SeqAt.RcNeAt.tuple_str x t p2 hu0⟩
  | _=>cases f1
 | .fl d,.ls es,e=>
  cases e
  obtain⟨f1,r1⟩:=ra
  obtain⟨b,us,rfl,h3,h4⟩:=rb
  cases qb
  obtain⟨its2,rv2,p2,_⟩:=I.list (.inl h3)
  replace p2:=p2.isList
  cases d with
  | non=>cases r1;cases qa;exact⟨SeqAt.RcAt.none_list p2 hu0,SeqAt.RcNeAt.none_list p2 hu0⟩
  | bl x=>cases r1;cases qa;exact⟨SeqAt.RcAt.bool_list x p2 hu0,SeqAt.RcNeAt.bool_list x p2 hu0⟩
  | int x=>cases r1;obtain⟨t,rfl⟩:=qa;exact⟨SeqAt.RcAt.int_list x t p2 hu0,SeqAt.RcNeAt.int_list x t p2 hu0⟩
  | str x=>cases r1;obtain⟨t,rfl⟩:=qa;exact⟨SeqAt.RcAt.str_list x t p2 hu0,SeqAt.RcNeAt.str_list x t p2 hu0⟩
  | _=>cases f1
 | .ls es,.fl d,e=>
  cases e
  obtain⟨f1,r1⟩:=rb
  obtain⟨b,us,rfl,h3,h4⟩:=ra
  cases qa
  obtain⟨its2,rv2,p2,_⟩:=I.list (.inl h3)
  replace p2:=p2.isList
  cases d with
  | non=>cases r1;cases qb;exact⟨SeqAt.RcAt.list_none p2 hu0,SeqAt.RcNeAt.list_none p2 hu0⟩
  | bl x=>cases r1;cases qb;exact⟨SeqAt.RcAt.list_bool x p2 hu0,SeqAt.RcNeAt.list_bool x p2 hu0⟩
  | int x=>cases r1;obtain⟨t,rfl⟩:=qb;exact⟨SeqAt.RcAt.list_int x t p2 hu0,SeqAt.RcNeAt.list_int x t p2 hu0⟩
  | str x=>cases r1;obtain⟨t,rfl⟩:=qb;exact⟨SeqAt.RcAt.list_str x t p2 hu0,SeqAt.RcNeAt.list_str x t p2 hu0⟩
  | _=>cases f1
 | .tp ds,.ls es,e=>
  cases e
  obtain⟨a,vs,rfl,h1,h2⟩:=ra
  obtain⟨b,us,rfl,h3,h4⟩:=rb
  cases qa;cases qb
  obtain⟨its,rv,p1,_⟩:=I.tuple h1
  obtain⟨its2,rv2,p2,_⟩:=I.list (.inl h3)
  exact⟨SeqAt.RcAt.tuple_list p1 p2.isList hu0,SeqAt.RcNeAt.tuple_list p1 p2.isList hu0⟩
 | .ls ds,.tp es,e=>
  cases e
  obtain⟨a,vs,rfl,h1,h2⟩:=ra
  obtain⟨b,us,rfl,h3,h4⟩:=rb
  cases qa;cases qb
  obtain⟨its,rv,p1,_⟩:=I.list (.inl h1)
  obtain⟨its2,rv2,p2,_⟩:=I.tuple h3
  exact⟨SeqAt.RcAt.list_tuple p1.isList p2 hu0,SeqAt.RcNeAt.list_tuple p1.isList p2 hu0⟩
theorem og {k:Nat} (hr:bj k X.A) (hK:X.K=K:=by rfl):OpD K X (compareOp .Eq) dEq:=by
 subst hK
 refine⟨λst x y d h=>?_⟩
 simp only [dEq,Option.bind_eq_some_iff,Option.map_eq_some_iff] at h
 obtain⟨a,ha,b,hb,r,e,rfl⟩:=h
 intro pins s σ H vx vy v u Q I rx ry q
 obtain⟨φ,S,r1,r2,q⟩:=q
 exact (mT hr I (iw S r1 ha) (iw S r2 hb) rx ry e).1 _ _ _ _ ⟨.bl r,H,I,rfl,q _ H (ay.refl H) rfl⟩
end
end L2
namespace L2
open PySem PySem.Spec PyProof.Rows
section
variable {K:PySem.W.Frag}{X:Cx}
noncomputable def dJ:List D->Option (List Bool)
 | []=>some []
 | .bl i::ds=>(dJ ds).map λr=>i::r
 | _=>none
theorem dU:∀ {ds:List D}{ns:List Bool},dJ ds=some ns->ds=ns.map D.bl
 | [],_,h=>by cases h;rfl
 | .bl i::ds,_,h=>by
  obtain⟨r,e,rfl⟩:=Option.map_eq_some_iff.mp h
  rw [dU e];rfl
 | .non::_,_,h=>by cases h
 | .int _::_,_,h=>by cases h
 | .str _::_,_,h=>by cases h
 | .ty _::_,_,h=>by cases h
 | .dct::_,_,h=>by cases h
 | .scr _::_,_,h=>by cases h
 | .tup _::_,_,h=>by cases h
 | .lst _::_,_,h=>by cases h
noncomputable def cV (st:Sto):List W->Option D
 | [.d (.str x)]=>if x.length<=1000000 then some (.int x.length) else none
 | [w]=>(du st w).map λds=>.int ds.length
 | _=>none
noncomputable def jB (_:Sto):List W->Option D
 | [.d (.int i)]=>some (.int (if i < 0 then -i else i))
 | _=>none
noncomputable def lw (_:Sto):List W->Option D
 | [.d (.int i),.d (.int j)]=>some (.int (if j < i then j else i))
 | _=>none
noncomputable def kt (_:Sto):List W->Option D
 | [.d (.int i)]=>some (.int i)
 | [.d (.bl k)]=>some (.int (if k then 1 else 0))
 | _=>none
noncomputable def mn (_:Sto):List W->Option D
 | [.d (.lst ds)]=>(dJ ds).map λns=>.bl (ns.all id)
 | _=>none
noncomputable def kz (st:Sto):List W->Option D
 | [w]=>(du st w).map λds=>.tup ds
 | _=>none
noncomputable def d8:D->Bool
 | .non=>true
 | .int i=>decide (0<=i) && decide (i < 1024)
 | _=>false
noncomputable def iE (_:Sto):List W->Option D
 | [.d (.int i)]=>if i.natAbs.log2 < 1920 then some (.str (toString i)) else none
 | [.d (.tup ds)]=>if ds.all d8=true/\ds.length<=1000 then some (.str (dg (ds.map vOf))) else none
 | _=>none
noncomputable def mx (st:Sto):W->Option String
 | .d .non=>some "NoneType"
 | .d (.bl _)=>some "bool"
 | .d (.int _)=>some "int"
 | .d (.str _)=>some "str"
 | .d (.tup _)=>some "tuple"
 | .d (.lst _)=>some "list"
 | .d .dct=>some "dict"
 | .h n=>(lg st n).map λ_=>"list"
 | _=>none
noncomputable def mQ (t c:String):Option Bool:=
 if c = "int" then some (t=="int" || t=="bool")
 else if c = "bool"\/c = "str"\/c = "tuple"\/c = "list" then some (t==c)
 else none
noncomputable def fC (st:Sto):List W->Option D
 | [w,.d (.ty c)]=>(mx st w).bind λt=>(mQ t c).map λb=>.bl b
 | _=>none
theorem d6 (hK:X.K=K:=by rfl):cn K X (.builtin "len") cV:=by
 subst hK
 refine⟨λst ws d h=>?_⟩
 have seq:∀ w,(du st w).map (λds=>D.int ds.length)=some d->aO X (.builtin "len") (rCD X.K st [w] d):=λw h=>by
  obtain⟨ds,e,rfl⟩:=Option.map_eq_some_iff.mp h
  refine ge.imp ?_
  rintro vs H Q ⟨φ,S,⟨v,r,rfl,r1,rfl⟩,q⟩
  obtain⟨a,us,rfl,h1,h2⟩:=fj S r1 e
  exact⟨a,us,rfl,h1,q _ H (ay.refl H) (by rw [<-h2.length];rfl)⟩
 cases ws with
 | nil=>cases h
 | cons w tl=>
  cases tl with
  | cons _ _=>
   cases w with
   | h n=>cases h
   | d x=>cases x<;>cases h
  | nil=>
   cases w with
   | h n=>exact seq _ h
   | d x=>
    cases x with
    | str x=>
     simp only [cV] at h
     split at h
     ·rename_i hl
      cases h
      refine fJ.imp ?_
      rintro vs H Q ⟨φ,S,⟨v,r,rfl,r1,rfl⟩,q⟩
      exact⟨x,by rw [show v=.str x from r1],Nat.le_trans hl mil,q _ H (ay.refl H) rfl⟩
     ·cases h
    | tup ds=>exact seq _ h
    | lst ds=>exact seq _ h
    | scr ds=>exact seq _ h
    | _=>cases h
theorem jl:cn K X (.builtin "abs") jB:=by
 refine⟨λst ws d h=>?_⟩
 match ws,h with
 | [.d (.int i)],h=>
  cases h
  refine ju.imp ?_
  rintro vs H Q ⟨φ,S,⟨v,r,rfl,r1,rfl⟩,q⟩
  exact⟨i,by rw [show v=.int i from r1],q _ H (ay.refl H) rfl⟩
theorem mV (hc:X.calm=true:=by rfl):cn K X (.builtin "min") lw:=by
 refine⟨λst ws d h=>?_⟩
 match ws,h with
 | [.d (.int i),.d (.int j)],h=>
  cases h
  refine (iK hc).imp ?_
  rintro vs H Q ⟨φ,S,⟨v,r,rfl,r1,u,r',rfl,r2,rfl⟩,q⟩
  exact⟨i,j,by rw [show v=.int i from r1,show u=.int j from r2],q _ H (ay.refl H) rfl⟩
theorem mO:cn K X (.type "int") kt:=by
 refine⟨λst ws d h=>?_⟩
 match ws,h with
 | [.d (.int i)],h=>
  cases h
  refine eO.imp ?_
  rintro vs H Q ⟨φ,S,⟨v,r,rfl,r1,rfl⟩,q⟩
  exact .inl ⟨i,by rw [show v=.int i from r1],q _ H (ay.refl H) rfl⟩
 | [.d (.bl i)],h=>
  cases h
  refine eO.imp ?_
  rintro vs H Q ⟨φ,S,⟨v,r,rfl,r1,rfl⟩,q⟩
  exact .inr ⟨i,by rw [show v=.bl i from r1],q _ H (ay.refl H) rfl⟩
theorem mf (hc:X.calm=true:=by rfl) (hK:X.K=K:=by rfl):cn K X (.builtin "all") mn:=by
 subst hK
 refine⟨λst ws d h=>?_⟩
 match ws,h with
 | [.d (.lst ds)],h=>
  obtain⟨ns,e,rfl⟩:=Option.map_eq_some_iff.mp h
  cases dU e
  refine (np (K:=X.K) hc rfl).imp ?_
  rintro vs H Q ⟨φ,S,⟨v,r,rfl,⟨a,us,rfl,h0,h1,h2⟩,rfl⟩,q⟩
  cases h2.bools
  exact⟨a,ns,rfl,.inl h1,q _ H (ay.refl H) rfl⟩
theorem j6 (hK:X.K=K:=by rfl):cn K X (.type "tuple") kz:=by
 subst hK
 refine⟨λst ws d h=>?_⟩
 match ws,h with
 | [w],h=>
  obtain⟨ds,e,rfl⟩:=Option.map_eq_some_iff.mp h
  refine eK.imp ?_
  rintro vs H Q ⟨φ,S,⟨v,r,rfl,r1,rfl⟩,q⟩
  obtain⟨a,us,rfl,h1,h2⟩:=gB S r1 e
  refine⟨a,us,rfl,?_⟩
  rcases h1 with h1 | h1
  ·exact .inl ⟨h1,λl hl=>q _ _ (ay.new hl _) ⟨l,us,rfl,aN,h2.fw S (Fw.new hl)⟩⟩
  ·exact .inr ⟨SqT.of h1,q _ H (ay.refl H) ⟨a,us,rfl,h1,h2⟩⟩
theorem gq {H:Hp}{φ:List Addr}:∀ {ds:List D}{vs:List V},ds.all d8=true->Rls K H φ ds vs->vs=ds.map vOf/\∀ y ∈ vs,bN y
 | [],_,_,h=>by cases h;exact⟨rfl,λ_ h=>nomatch h⟩
 | d::ds,_,h,r=>by
  rw [List.all_cons,Bool.and_eq_true] at h
  obtain⟨v,vr,rfl,r1,r2⟩:=r
  obtain⟨e3,e4⟩:=gq h.2 r2
  have hv:v=vOf d/\bN v:=by
   cases d with
   | non=>cases (show v=.non from r1);exact⟨rfl,.inl rfl⟩
   | int i=>
    cases (show v=.int i from r1)
    have:=h.1
    simp [d8] at this
    exact⟨rfl,.inr ⟨i,rfl,this.1,this.2⟩⟩
   | _=>cases h.1
  refine⟨by rw [hv.1,e3];rfl,λy hy=>?_⟩
  rcases List.mem_cons.mp hy with z | z
  ·rw [z];exact hv.2
  ·exact e4 y z
theorem kj {k:Nat} (hr:bj k X.A) (hK:X.K=K:=by rfl):cn K X (.builtin "repr") iE:=by
 subst hK
 refine⟨λst ws d h=>?_⟩
 match ws,h with
 | [.d (.int i)],h=>
  simp only [iE] at h
  split at h
  ·rename_i hl
   cases h
   refine (jr (K:=X.K) hr rfl).imp ?_
   rintro vs H Q ⟨φ,S,⟨v,r,rfl,r1,rfl⟩,q⟩
   exact .inl ⟨i,by rw [show v=.int i from r1],hl,q _ H (ay.refl H) rfl⟩
  ·cases h
 | [.d (.tup ds)],h=>
  simp only [iE] at h
  split at h
  ·rename_i hl
   cases h
   refine (jr (K:=X.K) hr rfl).imp ?_
   rintro vs H Q ⟨φ,S,⟨v,r,rfl,⟨a,us,rfl,h1,h2⟩,rfl⟩,q⟩
   obtain⟨e1,e2⟩:=gq hl.1 h2
   exact .inr ⟨a,us,rfl,(SqT.of h1),e2,by rw [<-h2.length];exact hl.2,q _ H (ay.refl H) (by rw [e1];rfl)⟩
  ·cases h
theorem cb {t c:String}{b:Bool} (ht:t = "NoneType"\/t = "bool"\/t = "int"\/t = "str"\/t = "tuple"\/t = "list"\/t = "dict") (h:mQ t c=some b):PySem.W.kitOne K (.type t) (.type c)=some b:=by
 unfold mQ at h
 split at h
 ·rename_i hc
  subst hc
  rcases ht with rfl | rfl | rfl | rfl | rfl | rfl | rfl<;>(cases h;rfl)
 ·split at h
  ·rename_i _ hc
   rcases hc with rfl | rfl | rfl | rfl<;>rcases ht with rfl | rfl | rfl | rfl | rfl | rfl | rfl<;>(cases h;rfl)
  ·cases h
theorem fF (hK:X.K=K:=by rfl):cn K X (.builtin "isinstance") fC:=by
 subst hK
 refine⟨λst ws d h=>?_⟩
 match ws,h with
 | [w,.d (.ty c)],h=>
  simp only [fC,Option.bind_eq_some_iff,Option.map_eq_some_iff] at h
  obtain⟨t,ht,b,hb,rfl⟩:=h
  intro pins s σ H xs us Q I rv q
  obtain⟨φ,S,⟨v,r,rfl,r1,u,r',rfl,r2,rfl⟩,q⟩:=q
  cases (show u=.ty c from r2)
  obtain⟨vv,uu,rfl,rv1,rv2⟩:=rv.two
  cases rv2
  have fin:∀ tk,EP X pins σ Q (.bool b) { s with toks:=tk }:=λtk=>⟨.bl b,H,I.tok tk,rfl,q _ H (ay.refl H) rfl⟩
  cases w with
  | h n=>
   obtain⟨a,ea,rfl⟩:=r1
   obtain⟨ds,eds,rfl⟩:=Option.map_eq_some_iff.mp ht
   obtain⟨vs,hv,_⟩:=S.atl n a ds ea eds
   exact aY I rv1 (.lst hv) (cb (by simp) hb) fin
  | d x=>
   cases x with
   | non=>cases ht;cases r1;exact aY I rv1 .non (cb (by simp) hb) fin
   | bl x=>cases ht;cases r1;exact aY I rv1 (.bl x) (cb (by simp) hb) fin
   | int x=>cases ht;cases r1;exact aY I rv1 (.int x) (cb (by simp) hb) fin
   | str x=>cases ht;cases r1;exact aY I rv1 (.str x) (cb (by simp) hb) fin
   | lst ds=>
    cases ht
    obtain⟨a,vs,rfl,h0,h1,h2⟩:=r1
    rcases h1 with h1 | ⟨o,h1⟩
    ·exact aY I rv1 (.lst h1) (cb (by simp) hb) fin
    ·exact aY I rv1 (.frz h1) (cb (by simp) hb) fin
   | tup ds=>
    cases ht
    obtain⟨a,vs,rfl,h1,h2⟩:=r1
    cases rv1
    obtain⟨its,_,p,_⟩:=I.tuple (SqT.of h1)
    obtain⟨o,e1,e2,_⟩:=p
    exact PySem.W.kia_one PySem.W.kitx_tuple I.kIn ⟨o,e1,e2⟩ (cb (by simp) hb) (λz=>nomatch z) fin
   | dct=>
    cases ht
    obtain⟨a,rfl,_,h1⟩:=r1
    rcases h1 with⟨d,h1⟩ | ⟨d,h1⟩
    ·exact aY I rv1 (.dK h1) (cb (by simp) hb) fin
    ·exact aY I rv1 (.dT h1) (cb (by simp) hb) fin
   | ty x=>cases ht
   | scr x=>cases ht
variable {e a b:Expr}{es:List Expr}{pos:Pos}{f fa fb:Ef}{af:Af}
theorem ii {x:Str}{c:String} (hg:Gl X x) (hm:X.mg x=none) (hv:bootBuiltins x=some (.type c)) (hn:x≠"__name__":=by decide) (hd:(x==("__debug__" : Str))=false:=by decide):IE K X (.Name x pos) (iC (.ty c)):=
 jL (v:=.ty c) (kg hg hm hv rfl hn hd) λ_ _=>rfl
end
end L2
namespace L2
open PySem PySem.Spec PyProof.Rows
section
variable {K:PySem.W.Frag}{X:Cx}{e a b:Expr}{es:List Expr}{pos:Pos}{f fa fb:Ef}{af:Af}
noncomputable def fz (ds:List D) (o:Obj):Bool:=(o.cls==.type "tuple" && o.dict.isNone) && (ds.all bJ && match o.data with
 | .seq its _=>decide (its.size<=1000) && its.toList.map jq==(ds.map vOf).map some
 | _=>false)
theorem jS {v:Value}{x:V} (h:jq v=some x):al x v:=by
 cases v<;>first | (cases h;exact rfl) | (cases h;exact⟨_,rfl⟩) | cases h
theorem gE:∀ {xs:List V}{us:List Value},us.map jq=xs.map some->ak xs us
 | [],[],_=>.nil
 | [],_::_,h=>nomatch h
 | _::_,[],h=>nomatch h
 | n::ns,u::us,h=>by
  rw [List.map_cons,List.map_cons] at h
  injection h with h1 h2
  exact .cons (jS h1) (gE h2)
theorem dS {H:Hp}{φ:List Addr}:∀ {ds:List D},ds.all bJ=true->Rls K H φ ds (ds.map vOf)
 | [],_=>rfl
 | d::ds,h=>by
  rw [List.all_cons,Bool.and_eq_true] at h
  refine⟨_,_,rfl,?_,dS h.2⟩
  cases d<;>first | exact rfl | cases h.1
theorem kK {H:Hp}{ad:Addr}{ns:List Int}{m:Fn} (hO:j8 H) (hS:SqL K H ad (ns.map V.int)) (h:∃ st,m [.d (.scr ns)] []=some (.d (.bl true),st)):spI K m [.ref ad] H (λv _=>v=.bl true) λ_ _ _=>False:=by
 obtain⟨st,h⟩:=h
 refine⟨[],[],[.d (.scr ns)],_,h,⟨_,[],rfl,⟨ad,rfl,?_⟩,rfl⟩,⟨List.nodup_nil,rfl,λn a ds e=>by simp at e⟩,λv H' φ' _ _ r=>r⟩
 rcases hS with (h | h) | h
 ·rcases hO ad with z | ⟨o,xs,z⟩
  ·rw [h] at z;cases z
  ·rw [h] at z;cases z
 ·exact .inl h
 ·exact .inr h
end
end L2
namespace L2
open PySem
theorem gO {g:Tg}{body:Sf}:∀ {ds:List D} (Pv:Nat->Ev->Sto->Prop) {env:Ev}{st:Sto},Pv 0 env st->
  (∀ i d env st,ds[i]?=some d->Pv i env st->∃ e1 e2 s2,cB g (.d d) env=some e1/\(body e1 st=some (.nx e2 s2)\/body e1 st=some (.ct e2 s2))/\Pv (i+1) e2 s2)->
  ∃ env' st',dF g body ds env st=some (.nx env' st')/\Pv ds.length env' st'
 | [],Pv,env,st,h0,_=>⟨env,st,rfl,h0⟩
 | d::ds,Pv,env,st,h0,hs=>by
  obtain⟨e1,e2,s2,h1,h2,h3⟩:=hs 0 d env st rfl h0
  obtain⟨e',s',h4,h5⟩:=gO (g:=g) (body:=body) (ds:=ds) (λi=>Pv (i+1)) h3 λi d' env' st' hd p=>hs (i+1) d' env' st' (by simpa using hd) p
  refine⟨e',s',?_,h5⟩
  unfold dF
  rw [h1,Option.bind_some]
  rcases h2 with h2 | h2<;>(rw [h2,Option.bind_some];exact h4)
theorem fL {g:Tg}{tt:Tf}{te:Ef}{env:Ev}:∀ {ds:List D} (Pv:Nat->List D->Sto->Prop) {st:Sto}{ys0:List D},Pv 0 ys0 st->
  (∀ i d ys st,ds[i]?=some d->Pv i ys st->∃ e1,cB g (.d d) env=some e1/\((∃ s1 x s2,tt e1 st=some (true,s1)/\te e1 s1=some (.d x,s2)/\Pv (i+1) (ys++[x]) s2)\/∃ s1,tt e1 st=some (false,s1)/\Pv (i+1) ys s1))->
  ∃ ys st',lcI g tt te env ds st=some (ys,st')/\Pv ds.length (ys0++ys) st'
 | [],Pv,st,ys0,h0,_=>⟨[],st,rfl,by rw [List.append_nil];exact h0⟩
 | d::ds,Pv,st,ys0,h0,hs=>by
  obtain⟨e1,h1,h2⟩:=hs 0 d ys0 st rfl h0
  rcases h2 with⟨s1,x,s2,h2,h3,h4⟩ | ⟨s1,h2,h4⟩
  ·obtain⟨ys,s',h5,h6⟩:=fL (g:=g) (tt:=tt) (te:=te) (env:=env) (ds:=ds) (λi=>Pv (i+1)) h4 λi d' ys' st' hd p=>hs (i+1) d' ys' st' (by simpa using hd) p
   refine⟨x::ys,s',?_,by simpa using h6⟩
   unfold lcI
   rw [h1,Option.bind_some,h2,Option.bind_some,if_pos rfl,h3,Option.bind_some,h5]
   rfl
  ·obtain⟨ys,s',h5,h6⟩:=fL (g:=g) (tt:=tt) (te:=te) (env:=env) (ds:=ds) (λi=>Pv (i+1)) h4 λi d' ys' st' hd p=>hs (i+1) d' ys' st' (by simpa using hd) p
   refine⟨ys,s',?_,by simpa using h6⟩
   unfold lcI
   rw [h1,Option.bind_some,h2,Option.bind_some,if_neg Bool.false_ne_true,h5]
theorem gC {g:Tg}{tt:Tf}{te:Ef}{env:Ev}{st:Sto} (p:D->Bool) (F:D->D):∀ {ds:List D},(∀ d ∈ ds,∃ e1,cB g (.d d) env=some e1/\tt e1 st=some (p d,st)/\(p d=true->te e1 st=some (.d (F d),st)))->
  lcI g tt te env ds st=some ((ds.filter p).map F,st)
 | [],_=>rfl
 | d::ds,h=>by
  obtain⟨e1,h1,h2,h3⟩:=h d List.mem_cons_self
  have ih:=gC (g:=g) (tt:=tt) (te:=te) (env:=env) (st:=st) p F (ds:=ds) λx hx=>h x (List.mem_cons_of_mem _ hx)
  unfold lcI
  rw [h1,Option.bind_some,h2,Option.bind_some]
  cases hp:p d with
  | true=>rw [if_pos rfl,h3 hp,Option.bind_some,ih,List.filter_cons,hp];rfl
  | false=>rw [if_neg Bool.false_ne_true,ih,List.filter_cons,hp];rfl
theorem iD {g:Tg}{te:Ef}{env:Ev}{st:Sto} (F:D->D) {ds:List D} (h:∀ d ∈ ds,∃ e1,cB g (.d d) env=some e1/\te e1 st=some (.d (F d),st)):lcI g cW te env ds st=some (ds.map F,st):=by
 have:=gC (g:=g) (tt:=cW) (te:=te) (env:=env) (st:=st) (λ_=>true) F (ds:=ds) λd hd=>by
  obtain⟨e1,h1,h2⟩:=h d hd
  exact⟨e1,h1,rfl,λ_=>h2⟩
 rw [this,List.filter_eq_self.mpr λ_ _=>rfl]
noncomputable def cN (st:Sto) (n:Nat):Prop:=∃ x y z:Int,0<=x/\st[n]?=some (.l [.int x,.int y,.int z])
noncomputable def Stp (n:Nat) (st st':Sto):Prop:=(∃ v,st'=st.set n v)/\cN st' n
theorem cN.lt {st:Sto}{n:Nat} (h:cN st n):n < st.length:=by
 obtain⟨x,y,z,_,e⟩:=h
 exact (List.getElem?_eq_some_iff.mp e).1
theorem Stp.trans {n:Nat}{a b c:Sto} (h:Stp n a b) (h':Stp n b c):Stp n a c:=by
 obtain⟨⟨v,rfl⟩,_⟩:=h
 obtain⟨⟨u,rfl⟩,q⟩:=h'
 exact⟨⟨u,by rw [List.set_set]⟩,q⟩
theorem Stp.hand {n:Nat}{a b:Sto} (h:Stp n a b):cN b n:=h.2
theorem fU {a b:Int} (h:-(2 ^ 64) < a/\a < 2 ^ 64):PySem.IntMulOk a b:=kf.ok (.inl h)
theorem fQ {a b:Int} (h:-(2 ^ 64) < b/\b < 2 ^ 64):PySem.IntMulOk a b:=kf.ok (.inr h)
theorem fH {st:Sto}{n:Nat}{v:C} (h:n < st.length):(st.set n v)[n]?=some v:=List.getElem?_set_self h
theorem nZ {α:Type} (a:α) (l:List α):atI (a::l) 0=some a:=dr (j:=0) rfl
theorem oT {α:Type} (a b:α) (l:List α):atI (a::b::l) 1=some b:=dr (j:=1) rfl
theorem oG {α:Type} (a b c:α) (l:List α):atI (a::b::c::l) 2=some c:=dr (j:=2) rfl
theorem nC (n:Nat):ixN (n+1) 0=some 0:=fr (j:=0) (by lia)
theorem oz (n:Nat):ixN (n+2) 1=some 1:=fr (j:=1) (by lia)
theorem oN (n:Nat):ixN (n+3) 2=some 2:=fr (j:=2) (by lia)
end L2
namespace L2
open PySem
end L2
namespace L2
open PySem PySem.Spec PyProof.Rows
section
variable {prog:Program}{w:World}{A:Around}{E:Value->Shared->Prop}{s:Shared}{κ:SortKind}{O:KeyOrd}{rk:Keyed->O.α}{S:Keyed->Prop}
variable {a0:Array Keyed}{lo:Nat}{p0:Array (Nat×Nat×Nat)}{g0:Nat}{st:SortSt}
end
end L2
namespace L2
open PySem PySem.Spec PyProof.Rows
section
variable {prog:Program}{w:World}{A:Around}{E:Value->Shared->Prop}{s:Shared}{κ:SortKind}{O:KeyOrd}{rk:Keyed->O.α}{S:Keyed->Prop}
variable {a0:Array Keyed}{lo:Nat}{p0:Array (Nat×Nat×Nat)}{g0:Nat}{st:SortSt}
end
end L2
namespace L2
open PySem PySem.Spec PyProof.Rows
section
variable {prog:Program}{w:World}{A:Around}{E:Value->Shared->Prop}{s:Shared}{κ:SortKind}{O:KeyOrd}{rk:Keyed->O.α}{S:Keyed->Prop}
variable {a0:Array Keyed}{lo:Nat}{p0:Array (Nat×Nat×Nat)}{g0:Nat}{st:SortSt}
end
end L2
namespace L2
open PySem PySem.Spec PyProof.Rows
section
variable {O:KeyOrd}{rk:Keyed->O.α}
variable {a b out:Array Keyed}{ia ib:Nat}
variable {na nb:Nat}
end
end L2
namespace L2
open PySem PySem.Spec PyProof.Rows
section
variable {prog:Program}{w:World}{A:Around}{E:Value->Shared->Prop}{s:Shared}{κ:SortKind}{O:KeyOrd}{rk:Keyed->O.α}{S:Keyed->Prop}{st:SortSt}{a b:Array Keyed}
end
end L2
namespace L2
open PySem PySem.Spec PyProof.Rows
section
variable {prog:Program}{w:World}{A:Around}{E:Value->Shared->Prop}{s:Shared}{κ:SortKind}{O:KeyOrd}{rk:Keyed->O.α}{S:Keyed->Prop}{st:SortSt}{a b out:Array Keyed}{na nb:Nat}
end
end L2
namespace L2
open PySem PySem.Spec PyProof.Rows
section
variable {prog:Program}{w:World}{A:Around}{E:Value->Shared->Prop}{s:Shared}{κ:SortKind}{O:KeyOrd}{rk:Keyed->O.α}{S:Keyed->Prop}{st:SortSt}{arr:Array Keyed}{n1 n2:Nat}
end
end L2
namespace L2
open PySem PySem.Spec PyProof.Rows
section
variable {prog:Program}{w:World}{A:Around}{E:Value->Shared->Prop}{s:Shared}{κ:SortKind}{O:KeyOrd}{rk:Keyed->O.α}{S:Keyed->Prop}{st:SortSt}{a0:Array Keyed}
end
end L2
namespace L2
open PySem PySem.Spec PyProof.Rows PySem.SeqAt
open MeetsSeq MeetsSeq2 MeetsSeq3 SeqRoads2
open AutoSeq1 (wpAny_loadPart')
section
variable {A:Around}{s:Shared}{p q:Addr}{us vs:Array Value}{e l:Nat->Bool}
end
end L2
namespace L2
open PySem PySem.Spec PyProof.Rows PySem.SeqAt PySem.W
section
variable {prog:Program}{w:World}{A:Around}{E:Value->Shared->Prop}{s:Shared}{x y:Value}{l m:List Int}
end
end L2
namespace L2
open PySem PySem.Spec PyProof.Rows PySem.SeqAt PySem.W
section
variable {prog:Program}{w:World}{A:Around}{E:Value->Shared->Prop}{s:Shared}{O:KeyOrd}{rk:Keyed->O.α}{S:Keyed->Prop}{vs:List Value}
end
end L2
namespace L2
open PySem PySem.Spec PyProof.Rows PySem.SeqAt PySem.W
section
variable {prog:Program}{w:World}{A:Around}{E:Value->Shared->Prop}{s:Shared}
end
end L2
namespace L2
open PySem PySem.Spec PyProof.Rows PySem.SeqAt PySem.W
section
variable {K:PySem.W.Frag}{X:Cx}{pins:List (Addr×Obj)}{σ:St}{H:Hp}{s:Shared}{φ:List Addr}
end
end L2
namespace L2
open PySem PySem.Spec PyProof.Rows
open PySem.AutoSeq1 (wpAny_loadPart')
section
variable {prog:Program}{w:World}{A:Around}{E:Value->Shared->Prop}{s:Shared}{k k2:Bool}
variable {z TI TO i1 i2 l1 l2:Addr}{n:Nat}{xs ys:Array Value}{a b:Value}
end
end L2
namespace L2
open PySem PySem.Spec PyProof.Rows
open PySem.AutoSeq1 (wpAny_loadPart')
section
variable {prog:Program}{w:World}{A:Around}{E:Value->Shared->Prop}{s:Shared}{k k2:Bool}
end
section
variable {K:PySem.W.Frag}{X:Cx}{a b:Expr}{pos:Pos}{af:Af}
end
end L2
namespace L2
open PySem PySem.Spec PyProof.Rows
section
variable {prog:Program}{w:World}{A:Around}{s:Shared}{I l S:Addr}{items:Array Value}{ns:List Int}{kw:List (Str×Value)}{R:Result->Shared->Prop}
variable {E:Value->Shared->Prop}
end
end L2
namespace L2
open PySem PySem.Spec PyProof.Rows
section
variable {K:PySem.W.Frag}{X:Cx}{e a b:Expr}{es:List Expr}{pos:Pos}{f fa fb:Ef}{af:Af}
end
end L2
namespace L2
open PySem PySem.Spec PyProof.Rows
section
variable {K:PySem.W.Frag}{X:Cx}
end
end L2
namespace L2
open PySem PySem.Spec PyProof.Rows
section
variable {K:PySem.W.Frag}{X:Cx}{pos:Pos}{a b:Expr}{af:Af}
end
end L2
namespace L2
open PySem PySem.Spec PyProof.Rows
section
variable {K:PySem.W.Frag}{X:Cx}{pos:Pos}{e a b c:Expr}{es:List Expr}{f fa fb:Ef}{af:Af}
end
end L2
namespace L2
open PySem PySem.Spec PyProof.Rows
open Classical in
noncomputable def lcH (n:Nat) (all:List D) (g:Tg) (tt:Tf) (te:Ef) (env:Ev):List D->Sto->Option (List D×Sto)
 | [],st=>if lg st n=some all then some ([],st) else none
 | d::ds,st=>if lg st n=some all then ((cB g (.d d) env).bind λe=>(tt e st).bind λb=>if b.1=true then (te e b.2).bind λx=>(gu [x.1]).bind λys=>(lcH n all g tt te env ds x.2).map λr=>(ys++r.1,r.2)
   else lcH n all g tt te env ds b.2) else none
section
variable {K:PySem.W.Frag}{X:Cx}{pos:Pos}{tg:Expr}
end
end L2
namespace L2
open PySem PySem.Spec PyProof.Rows
noncomputable def bC (c:Nat):Str:=⟨#[c]⟩
noncomputable def jh (x:Str):List D:=x.cps.toList.map λc=>D.str (bC c)
noncomputable def asc (x:Str):Bool:=x.cps.all λc=>decide (c < 128)
noncomputable def Its (x:Str):It where
 go i _:=i < x.cps.size
 yld i H v H':=H'=H/\∃ c,x.cps[i]?=some c/\v=.str (bC c)
 stop i _:=x.cps.size<=i
theorem jf {P:Program}{w:World}{K:PySem.W.Frag}{tg:Expr} (x:Str) (t:Tok) (it:Addr):jk P w K tg (Its x) [it] it (λi h=>h.IsStrIter it "str_ascii_iterator" x t i) where
 mem:=by simp
 obj:=λi h st b hb=>by
  have e:b=it:=by simpa using hb
  subst e
  obtain⟨o,e,c,d⟩:=st
  exact⟨o,e,λv z=>by rw [d] at z;cases z⟩
 keep:=λi h h' st k=>by
  obtain⟨o,e,c,d⟩:=st
  exact⟨o,k it (by simp) o e,c,d⟩
 item:=by
  intro X hP hw hK hc i pins s σ H E I hf st hg
  subst hP hw hK
  obtain⟨f0,f1,f2,f3,f4,f5⟩:=hf it (by simp)
  have hx:x.cps[i]?=some x.cps[i]:=Array.getElem?_eq_getElem hg
  refine wpAny_pyNext_ascii_item st hx λh' st' sb=>?_
  have I1:Inv X pins σ H { s with heap:=h',toks:=s.toks+1 }:=I.turned (λb o hb e=>(sb.2 b hb).trans e) f0 f1 f3 f4 f5
  obtain⟨o,e,c,d⟩:=id st'
  exact⟨_,rfl,iq (s:={ s with heap:=h',toks:=s.toks+1 }) e c d (by decide) ⟨.str (bC x.cps[i]),H,I1,⟨_,rfl⟩,⟨rfl,_,hx,rfl⟩,st',λb hb=>(hf b hb).1⟩⟩
 done:=by
  intro X hP hw hK hc i pins s σ H E I hf st hg
  subst hP hw hK
  obtain⟨f0,f1,f2,f3,f4,f5⟩:=hf it (by simp)
  exact wpAny_pyNext_ascii_end (I.ok.hd hc) st (Array.getElem?_eq_none hg) λh' eb=>⟨rfl,I.turned (t':=s.toks) (λb o hb e=>eb b o hb e) f0 f1 f3 f4 f5⟩
 self:=λ_ _ _ _ _ st h=>wpAny_pyIter_striter_ascii st h
section
variable {K:PySem.W.Frag}{X:Cx}{pos:Pos}{tg e:Expr}{f:Ef}
noncomputable def oo (tl:TE):TI:=λσ H R=>tl σ H λv H1=>∃ x,v=.str x/\asc x=true/\R (Its x) H1
theorem mj {l:Expr}{tl:TE} (hl:PE X l tl):PI X tg l (oo tl):=by
 intro pins s σ H R I h
 refine thn (hl pins s σ H _ I h) λv s1 ⟨x,H1,I1,r1,q1⟩=>?_
 obtain⟨x,rfl,ha,q⟩:=q1
 obtain⟨t,rfl⟩:=r1
 refine wpAny_pyIter_ascii ha ?_
 refine⟨s1.heap.objs.size,[s1.heap.objs.size],_,_,H1,rfl,I1.kept (t':=s1.toks) λb o e=>Heap.get?_push_of_some _ e,jf x t _,⟨_,Heap.get?_push_size _ rfl,rfl,rfl⟩,λb hb=>?_,q⟩
 have e:b=s1.heap.objs.size:=by simpa using hb
 subst e
 exact I1.fpOk (Nat.le_refl _) (I1.hok.fresh (Nat.le_refl _))
noncomputable def dw (f:Ef):Lf
 | env,st=>(f env st).bind λr=>match r.1 with
 | .d (.str x)=>if asc x then some (jh x,r.2) else none
 | _=>none
theorem ms (h:IE K X e f):II K X tg e (dw f):=by
 refine⟨λenv st r hr=>?_⟩
 simp only [dw,Option.bind_eq_some_iff] at hr
 obtain⟨⟨w,s1⟩,hy,hr⟩:=hr
 match w,hr with
 | .d (.str x),hr=>
  dsimp only at hr
  by_cases ha:asc x=true
  case neg=>rw [if_neg ha] at hr;cases hr
  rw [if_pos ha] at hr
  cases hr
  refine (mj (h.run _ _ _ hy)).imp ?_
  rintro σ H R ⟨φ,hE,hS,q⟩
  refine⟨φ,hE,hS,λv H1 φ1 f1 s1 w1=>?_⟩
  have w1:v=.str x:=w1
  subst w1
  refine⟨x,rfl,ha,q _ H1 φ1 f1 s1 λH2 φ2 st2 i f2 s2=>?_⟩
  refine⟨λd hd=>?_,λhi=>?_⟩
  ·unfold jh at hd
   rw [List.getElem?_map,Option.map_eq_some_iff] at hd
   obtain⟨c,hc,rfl⟩:=hd
   have hc':x.cps[i]?=some c:=by simpa using hc
   refine⟨(Array.getElem?_eq_some_iff.mp hc').1,λy H' ⟨e,c2,h2,e2⟩=>?_⟩
   subst e
   rw [hc'] at h2
   cases h2
   subst e2
   exact⟨ay.refl _,rfl⟩
  ·unfold jh at hi
   rw [List.length_map,Array.length_toList] at hi
   exact Nat.le_of_eq hi
end
end L2
namespace L2
open PySem PySem.Spec PyProof.Rows
section
variable {K:PySem.W.Frag}{X:Cx}{pos:Pos}{a e:Expr}{fa:Ef}{af:Af}
noncomputable def ed:List D->Option (List Str)
 | []=>some []
 | .str x::ds=>(ed ds).map (x::·)
 | _::_=>none
noncomputable def gt (o:Ef) (a:Af):Ef
 | env,st=>(o env st).bind λx=>(a env x.2).bind λr=>match x.1,r.1 with
 | .d (.str s),[.d (.lst ds)]=>(ed ds).bind λxs=>if JoinOk s xs=true then some (.d (.str (PySem.Txt.join s xs)),r.2) else none
 | _,_=>none
theorem dR:∀ {ds:List D}{xs:List Str}{vs:List V}{φ:List Addr}{H:Hp},ed ds=some xs->Rls K H φ ds vs->vs=xs.map V.str
 | [],xs,vs,φ,H,h,r=>by
  cases h
  exact r
 | d::ds,xs,vs,φ,H,h,r=>by
  obtain⟨v,vr,rfl,r1,r2⟩:=r
  cases d with
  | str x=>
   obtain⟨ys,hy,rfl⟩:=Option.map_eq_some_iff.mp h
   have:=dR hy r2
   subst this
   have r1:v=.str x:=r1
   subst r1
   rfl
  | _=>cases h
theorem eY:∀ {xs:List Str}{its:List Value},ak (xs.map V.str) its->∃ l:List (Str×Tok),its=strValues l/\l.map (·.1)=xs
 | [],its,r=>by
  cases r
  exact⟨[],rfl,rfl⟩
 | x::xs,its,r=>by
  cases r with
  | cons r1 r2=>
   obtain⟨t,rfl⟩:=r1
   obtain⟨l,rfl,rfl⟩:=eY r2
   exact⟨(x,t)::l,rfl,rfl⟩
noncomputable def nX (X:Cx):V->List V->Hp->VK->Prop:=λx xs H Q=>∃ s p ts,x=.str s/\xs=[.ref p]/\SqL X.K H p (ts.map V.str)/\JoinOk s ts=true/\Q (.str (PySem.Txt.join s ts)) H
theorem kr:MtR X "str.join" (nX X):=by
 intro pins s σ H x xs v us Q I rx rv h
 obtain⟨z,p,ts,rfl,rfl,hq,hj,q⟩:=h
 obtain⟨t,rfl⟩:=rx
 obtain⟨u,rfl,ru⟩:=rv.one
 cases ru
 obtain⟨its,r,pl,hz⟩:=I.list hq
 obtain⟨l,rfl,rfl⟩:=eY r
 exact SC.join pl.isList rfl hj λt' k=>⟨.str _,H,I.tok k,⟨_,rfl⟩,q⟩
theorem kL {apos:Pos} (ho:IE K X a fa) (ha:IA K X [e] af) (hbase:attributeBase a "join" X.env (eval a X.env)=eval a X.env:=by rfl)
  (hall:[e].all aG=true:=by rfl) (hline:(apos.endLine==pos.line)=true:=by rfl) (hK:X.K=K:=by rfl) :
  IE K X (.Call (.Attribute a "join" apos) [e] [] pos) (gt fa af):=by
 subst hK
 have hall2:aG e=true:=by rw [List.all_cons,Bool.and_eq_true] at hall;exact hall.1
 refine⟨λenv st r hr'=>?_⟩
 simp only [gt,Option.bind_eq_some_iff] at hr'
 obtain⟨⟨x,s1⟩,hx,⟨ws,s2⟩,hw,hr'⟩:=hr'
 match x,ws,hr' with
 | .d (.str z),[.d (.lst ds)],hr'=>
  simp only [Option.bind_eq_some_iff] at hr'
  obtain⟨ts,hts,hr'⟩:=hr'
  by_cases hj:JoinOk z ts=true
  case neg=>rw [if_neg hj] at hr';cases hr'
  rw [if_pos hj] at hr'
  cases hr'
  refine (nM PySem.F.plainAttrs_str PySem.F.slot_str_join PySem.F.type_str_join kr (ho.run _ _ _ hx) (ha.run _ _ _ hw) hbase (jD hall (by show 1 < 30;decide)) hline (br hall2) (ck rfl)).imp ?_
  rintro σ H Q ⟨φ,hE,hS,q⟩
  refine⟨φ,hE,hS,λv H1 φ1 f1 S1 w1=>?_⟩
  have w1:v=.str z:=w1
  subst w1
  refine⟨rfl,φ1,hE.fw hS f1,S1,λus H2 φ2 f2 S2 w2=>?_⟩
  obtain⟨y,us',rfl,ry,rfl⟩:=w2
  obtain⟨p,vs,rfl,h0,hq,hrl⟩:=ry
  have:=dR hts hrl
  subst this
  exact⟨z,p,ts,rfl,rfl,.inl hq,hj,q _ H2 φ2 (f1.trans f2) S2 rfl⟩
end
end L2
namespace L2
open PySem PySem.Spec PyProof.Rows
section
variable {κ:Type} [DecidableEq κ]
end
section
variable {P:Program}{w:World}{H:Hp}{h:Heap}{a:Addr}
end
section
variable {X:Cx}{pins:List (Addr×Obj)}{σ:St}{H:Hp}{s:Shared}{a:Addr}{y v:V}{u r:Value}{o:Option V}{A:Around}{E:Value->Shared->Prop}
end
section
variable {X:Cx}{pins:List (Addr×Obj)}{σ:St}{H:Hp}{s:Shared}{a:Addr}{kvs:List (Key×V)}{k:Key}{u:Value}{A:Around}{E:Value->Shared->Prop}
end
noncomputable def nV (i:Expr):Prop:=∀ ov iv,subscripted i false ov iv=operate [ov,iv] (getItem ov iv)
theorem lh {prog:Program}{w:World}{A:Around}{E:Value->Shared->Prop}{s:Shared}{env:Env}{value slice:Expr}{pos:Pos}{T id:String}{Q:Value->Shared->Prop}
  (hl:typeLookup (.type T) "__getitem__" = pure (some (.builtin id))) (hs:nV slice)
  (h:wpAny (model prog w) A (eval value env) (λo s₁=>wpAny (model prog w) A (eval slice env) (λi s₂=>s₂.TypeIs o T/\wpAny (model prog w) A (getItem o i) Q E s₂) E s₁) E s) :
  wpAny (model prog w) A (eval (.Subscript value slice pos) env) Q E s:=by
 refine Subscript_ (wpAny_mono h (λo s₁ h₁=>wpAny_mono h₁ (λi s₂ h₂=>?_) λ_ _ x=>x) λ_ _ x=>x)
 obtain⟨hT,h₂⟩:=h₂
 unfold subscriptTail
 refine wpAny_bind ?_
 rw [getitemInPython_of_ne hT.not_modules]
 refine wpAny_bind (wpAny_specialOf hT hl ?_)
 have fin:wpAny (model prog w) A (subscripted slice false o i) (λr s₃=>wpAny (model prog w) A (letTemporaryGo value o r >>= λ_=>pure r) Q E s₃) E s₂:=by
  rw [hs o i]
  exact wpAny_operating (wpAny_mono h₂ (λr s₃ h₃=>wpAny_bind (wpAny_letTemporaryGo (wpAny_pure h₃))) λ_ _ x=>x)
 first
  | exact wpAny_pure (wpAny_bind fin)
  | exact wpAny_bind (wpAny_pure (wpAny_bind fin))
  | exact wpAny_bind fin
section
variable {X:Cx}{o i e value:Expr}{pos pos' tpos:Pos}{td ty tv:TE}
end
section
variable {X:Cx}{pos:Pos}
end
section
variable {X:Cx}{pins:List (Addr×Obj)}{σ:St}{H:Hp}{s:Shared}{a:Addr}{y d:V}{u r:Value}{o:Option V}{A:Around}{E:Value->Shared->Prop}
end
section
variable {X:Cx}{o e f:Expr}{apos cpos:Pos}{td ty tx:TE}
end
section
variable {X:Cx}{pins:List (Addr×Obj)}{σ:St}{H:Hp}{s:Shared}{a:Addr}{kvs:List (Key×V)}{A:Around}{E:Value->Shared->Prop}
end
section
variable {X:Cx}{pins:List (Addr×Obj)}{σ:St}{H:Hp}{s:Shared}{a:Addr}{y:V}{u:Value}{A:Around}{E:Value->Shared->Prop}
end
end L2
namespace L2
open PySem PySem.Spec PyProof.Rows
section
variable {prog:Program}{w:World}{A:Around}{E:Value->Shared->Prop}{s:Shared}{κ:Type} [DecidableEq κ] {knd:KeyKind prog w κ}{a:Addr}{kvs:List (κ×Value)}
end
section
variable {X:Cx}{pins:List (Addr×Obj)}{σ:St}{H:Hp}{s:Shared}{a:Addr}{kvs:List (Key×V)}{k:Key}{u r:Value}{A:Around}{E:Value->Shared->Prop}{z:V}
end
section
variable {K:PySem.W.Frag}{X:Cx}{pos:Pos}{e a b o f:Expr}{fe fa fb fo ff:Ef}
end
noncomputable def hG (st:Sto) (ws:List W):Option D:=match ws with
 | [.d .non]=>some (.str "None")
 | ws=>iE st ws
section
variable {K:PySem.W.Frag}{X:Cx}
theorem h7:aO X (.builtin "repr") (λxs H Q=>xs=[.non]/\Q (.str "None") H):=by
 intro pins s σ H xs us Q I rv h
 obtain⟨rfl,q⟩:=h
 cases rv with
 | cons r rr=>
  cases rr
  cases r
  exact call_repr_gives (typeIs_none s) PySem.F.slot_NoneType_repr PySem.F.entry_NoneType_repr (PySem.F.args_NoneType_repr_1 _) gives_none_repr ⟨.str _,H,I.tok _,⟨_,rfl⟩,q⟩ (hx:=by decide)
theorem jV {k:Nat} (hr:bj k X.A) (hK:X.K=K:=by rfl):cn K X (.builtin "repr") hG:=by
 refine⟨λst ws d h=>?_⟩
 unfold hG at h
 split at h
 ·cases h
  refine h7.imp ?_
  rintro vs H Q ⟨φ,S,⟨v,r,rfl,r1,rfl⟩,q⟩
  exact⟨by rw [show v=.non from r1],q _ H (ay.refl H) rfl⟩
 ·exact (kj hr hK).run st ws d h
end
end L2
namespace L2
open PySem PySem.Spec PyProof.Rows
section
variable {K:PySem.W.Frag}{X:Cx}
noncomputable def mC (_:Sto):List W->Option D
 | [.d (.int i)]=>if i.natAbs.log2 < 1920 then some (.str (toString i)) else none
 | _=>none
theorem lL:cn K X (.type "str") mC:=by
 refine⟨λst ws d h=>?_⟩
 match ws,h with
 | [.d (.int i)],h=>
  dsimp only [mC] at h
  by_cases hl:i.natAbs.log2 < 1920
  case neg=>rw [if_neg hl] at h;cases h
  rw [if_pos hl] at h
  cases h
  refine gh.imp ?_
  rintro vs H Q ⟨φ,S,⟨v,r,rfl,r1,rfl⟩,q⟩
  exact⟨i,by rw [show v=.int i from r1],hl,q _ H (ay.refl H) rfl⟩
noncomputable def dA (st:Sto) (ws:List W):Option D:=match ws with
 | [.d (.str x)]=>if (reprText x).length<=sizeLine then some (.str (reprText x)) else none
 | ws=>hG st ws
theorem gT:aO X (.builtin "repr") (λxs H Q=>∃ x,xs=[.str x]/\(reprText x).length<=sizeLine/\Q (.str (reprText x)) H):=by
 intro pins s σ H xs us Q I rv h
 obtain⟨x,rfl,hz,q⟩:=h
 obtain⟨u,rfl,t,rfl⟩:=dO rv
 exact call_repr_gives (typeIs_str s x t) PySem.F.slot_str_repr PySem.F.entry_str_repr (PySem.F.args_str_repr_1 _) (gives_str_repr x t) ⟨.str _,H,I.tok _,⟨_,rfl⟩,q⟩ rfl hz
theorem gD {k:Nat} (hr:bj k X.A) (hK:X.K=K:=by rfl):cn K X (.builtin "repr") dA:=by
 refine⟨λst ws d h=>?_⟩
 unfold dA at h
 split at h
 ·rename_i x
  by_cases hl:(reprText x).length<=sizeLine
  case neg=>rw [if_neg hl] at h;cases h
  rw [if_pos hl] at h
  cases h
  refine gT.imp ?_
  rintro vs H Q ⟨φ,S,⟨v,r,rfl,r1,rfl⟩,q⟩
  exact⟨x,by rw [show v=.str x from r1],hl,q _ H (ay.refl H) rfl⟩
 ·exact (jV hr hK).run st ws d h
end
end L2
namespace L2
open PySem PySem.Spec PyProof.Rows
noncomputable def atS (x:Str):List (Str×D)->Option D
 | []=>none
 | (k,d)::r=>if k=x then some d else atS x r
noncomputable def iS:D->Option V
 | .non=>some .non
 | .bl b=>some (.bl b)
 | .int i=>some (.int i)
 | .str x=>some (.str x)
 | _=>none
theorem li {K:PySem.W.Frag}{H:Hp}{φ:List Addr}:∀ {d:D}{v:V},iS d=some v->Rl K H φ d v
 | .non,_,h=>by cases h;rfl
 | .bl _,_,h=>by cases h;rfl
 | .int _,_,h=>by cases h;rfl
 | .str _,_,h=>by cases h;rfl
 | .ty _,_,h=>nomatch h
 | .dct,_,h=>nomatch h
 | .scr _,_,h=>nomatch h
 | .tup _,_,h=>nomatch h
 | .lst _,_,h=>nomatch h
inductive KPs:List (Str×D)->List (Key×Value)->Prop
 | nil:KPs [] []
 | cons {x:Str}{d:D}{v:V}{u:Value}{r:List (Str×D)}{vs:List (Key×Value)} (h:iS d=some v) (e:al v u) (t:KPs r vs):KPs ((x,d)::r) ((.inr x,u)::vs)
theorem KPs.some {x:Str}{d:D}:∀ {kvs:List (Str×D)}{vs:List (Key×Value)},KPs kvs vs->atS x kvs=some d->∃ v u,iS d=some v/\al v u/\valueAt vs (.inr x)=some u
 | _,_,.nil,h=>nomatch h
 | (k,d')::r,_,.cons (u:=u) hv e t,h=>by
  unfold atS at h
  by_cases hk:k=x
  ·subst hk
   rw [if_pos rfl] at h
   cases h
   exact⟨_,u,hv,e,by simp [valueAt]⟩
  ·rw [if_neg hk] at h
   obtain⟨v,u,h1,h2,h3⟩:=KPs.some t h
   refine⟨v,u,h1,h2,?_⟩
   rw [<-h3]
   have:¬ (Sum.inr k:Key)=Sum.inr x:=λq=>hk (Sum.inr.inj q)
   simp [valueAt,List.find?_cons,this]
theorem KPs.none {x:Str}:∀ {kvs:List (Str×D)}{vs:List (Key×Value)},KPs kvs vs->atS x kvs=none->valueAt vs (.inr x)=none
 | _,_,.nil,h=>rfl
 | (k,d')::r,_,.cons (u:=u) hv e t,h=>by
  unfold atS at h
  by_cases hk:k=x
  ·rw [if_pos hk] at h
   cases h
  ·rw [if_neg hk] at h
   rw [<-KPs.none t h]
   have:¬ (Sum.inr k:Key)=Sum.inr x:=λq=>hk (Sum.inr.inj q)
   simp [valueAt,List.find?_cons,this]
theorem KPs.isSome {x:Str}{kvs:List (Str×D)}{vs:List (Key×Value)} (h:KPs kvs vs):(valueAt vs (.inr x)).isSome=(atS x kvs).isSome:=by
 cases e:atS x kvs with
 | none=>rw [h.none e];rfl
 | some d=>
  obtain⟨v,u,_,_,h3⟩:=h.some e
  rw [h3];rfl
noncomputable def KDc (K:PySem.W.Frag) (P:Program) (w:World) (p:Addr) (kvs:List (Str×D)):Prop:=(p==sysModules)=false/\∃ o vs,K.lookup p=some o/\Obj.IsDictOf (bp P w) o vs/\KPs kvs vs
section
variable {K:PySem.W.Frag}{X:Cx}{pins:List (Addr×Obj)}{σ:St}{H:Hp}{s:Shared}{p:Addr}{kvs:List (Str×D)}
theorem KDc.at (h:KDc X.K X.prog X.w p kvs) (I:Inv X pins σ H s):∃ vs,s.heap.DictOf (bp X.prog X.w) p vs/\KPs kvs vs:=by
 obtain⟨_,o,vs,hk,⟨es,ep,hd⟩,kp⟩:=h
 exact⟨vs,⟨o,es,ep,I.kIn p o hk,hd⟩,kp⟩
variable {pos p1:Pos}{a:Expr}{fa:Ef}{x:Str}
noncomputable def mt (kvs:List (Str×D)) (f:Ef):Ef
 | env,st=>(f env st).bind λr=>match r.1 with
 | .d (.str x)=>(atS x kvs).map λd=>(.d d,r.2)
 | _=>none
noncomputable def jC (k:Bool) (kvs:List (Str×D)) (f:Ef):Tf
 | env,st=>(f env st).bind λr=>match r.1 with
 | .d (.str x)=>some (k != (atS x kvs).isSome,r.2)
 | _=>none
noncomputable def oR (td ty:TE) (X:Cx) (p:Addr) (kvs:List (Str×D)):TE:=λσ H Q=>td σ H λx H1=>ty σ H1 λy H2=>∃ z d v,x=.ref p/\y=.str z/\KDc X.K X.prog X.w p kvs/\atS z kvs=some d/\iS d=some v/\Q v H2
theorem my {o i:Expr}{td ty:TE} (ho:PE X o td) (hi:PE X i ty) (hs:nV i):PE X (.Subscript o i pos) (oR td ty X p kvs):=by
 intro pins s σ H Q I h
 refine lh PySem.F.slot_dict_getitem.lookup hs (thn (ho pins s σ H _ I h) λu s1 ⟨x,H1,I1,rx,q1⟩=>thn (hi pins s1 σ H1 _ I1 q1) λiv s2 ⟨y,H2,I2,ry,z,d,v,ex,ey,g,hz,hv,q2⟩=>?_)
 subst ex;subst ey
 obtain rfl:u=Value.ref p:=rx
 obtain⟨t,rfl⟩:=ry
 obtain⟨vs,dd,kp⟩:=g.at I2
 obtain⟨v',u',h1,h2,h3⟩:=kp.some hz
 rw [hv] at h1
 cases h1
 exact⟨dd.typeIs,wpAny_getItem_of (bV _ _ z t) dd.mapOf h3 ⟨v,H2,I2.tok _,h2,q2⟩⟩
noncomputable def nH (X:Cx) (p:Addr) (kvs:List (Str×D)) (k:Bool):R2:=λx y H Q=>∃ z,x=.str z/\y=.ref p/\KDc X.K X.prog X.w p kvs/\Q (.bl (k != (atS z kvs).isSome)) H
theorem le:OpR X (compareOp .NotIn) (nH X p kvs true):=by
 intro pins s σ H x y v u Q I rx ry h
 obtain⟨z,rfl,rfl,g,q⟩:=h
 obtain⟨t,rfl⟩:=rx
 cases ry
 obtain⟨vs,dd,kp⟩:=g.at I
 refine wpAny_notIn_of (bV _ _ z t) g.1 dd.mapOf ?_
 refine⟨.bl _,H,I.tok _,?_,q⟩
 show Value.bool _=Value.bool _
 rw [kp.isSome,Bool.true_bne]
theorem mY (hg:Gl X x) (hm:X.mg x=some (.ref p)) (g:KDc X.K X.prog X.w p kvs) (ha:IE K X a fa) (hb:eA a=true:=by rfl) (hd:(x==("__debug__" : Str))=false:=by decide):IE K X (.Subscript (.Name x p1) a pos) (mt kvs fa):=by
 refine⟨λenv st r hr=>?_⟩
 simp only [mt,Option.bind_eq_some_iff] at hr
 obtain⟨⟨w,s1⟩,hx,hr⟩:=hr
 match w,hr with
 | .d (.str z),hr=>
  obtain⟨d,hz,rfl⟩:=Option.map_eq_some_iff.mp hr
  have hv:∃ v,iS d=some v:=by
   obtain⟨_,o,vs,_,_,kp⟩:=g
   obtain⟨v,u,h1,_⟩:=kp.some hz
   exact⟨v,h1⟩
  obtain⟨v,hv⟩:=hv
  refine (my (p:=p) (kvs:=kvs) (fq (v:=.ref p) hg hm rfl hd) (ha.run _ _ _ hx) (gn hb)).imp ?_
  rintro σ H Q ⟨φ,hE,hS,q⟩
  refine⟨φ,hE,hS,λy H1 φ1 f1 S1 w1=>?_⟩
  exact⟨z,d,v,rfl,w1,g,hz,hv,q _ H1 φ1 f1 S1 (li hv)⟩
theorem lz {k:Bool}{op:CmpOp} (ho:OpR X (compareOp op) (nH X p kvs k)) (hg:Gl X x) (hm:X.mg x=some (.ref p)) (g:KDc X.K X.prog X.w p kvs) (ha:IE K X a fa) (hd:(x==("__debug__" : Str))=false:=by decide) (hb:behindInMarks op (.Name x p1)=false:=by rfl) :
  IT K X (.Compare a [op] [.Name x p1] pos) (jC k kvs fa):=by
 refine⟨λenv st r hr=>?_⟩
 simp only [jC,Option.bind_eq_some_iff] at hr
 obtain⟨⟨w,s1⟩,hx,hr⟩:=hr
 match w,hr with
 | .d (.str z),hr=>
  cases hr
  refine (fX ho (ha.run _ _ _ hx) (fq (v:=.ref p) hg hm rfl hd) hb).imp ?_
  rintro σ H Q ⟨φ,hE,hS,q⟩
  refine⟨φ,hE,hS,λy H1 φ1 f1 S1 w1=>?_⟩
  have w1:y=.str z:=w1
  subst w1
  exact⟨z,rfl,rfl,g,_,rfl,q H1 φ1 f1 S1⟩
end
end L2
namespace L2
open PySem PySem.Spec PyProof.Rows
section
variable {X:Cx}{e:Expr}{ty:TE}{p1 p2 p3 p4 p5 dpos apos cpos:Pos}{j1 j2 j3 j4 j5:Nat}
noncomputable def oq (ty:TE):TE:=λσ H Q=>ty σ H λy H1=>(y=.non/\Q (.str "-") H1)\/(y=.int 1/\Q (.str "1") H1)\/(y=.int 0/\Q (.str "0") H1)
theorem mL {D:Expr} (he:PE X e ty) (hD:D=.Dict [some (.Constant (.int 1) j1 p1),some (.Constant (.int 0) j2 p2)] [.Constant (.str "1") j3 p3,.Constant (.str "0") j4 p4] dpos:=by rfl)
  (base:attributeBase D "get" X.env (eval D X.env)=eval D X.env:=by rfl)
  (few:((backTo cpos (starEach [e,.Constant (.str "-") j5 p5] X.env)).all (λx=>!x.1) && (backToKw cpos (keywordEach [] X.env)).all (λx=>x.1.isSome)
    && decide (([e,.Constant (.str "-") j5 p5]:List Expr).length+([]:List Keyword).length+(if ([]:List Keyword).isEmpty then 0 else 1) < 30))=true:=by rfl)
  (line:(apos.endLine==cpos.line)=true:=by rfl) (trees:backTo cpos (starEach [e,.Constant (.str "-") j5 p5] X.env)=[(false,eval e X.env),(false,eval (.Constant (.str "-") j5 p5) X.env)]:=by rfl) :
  PE X (.Call (.Attribute D "get" apos) [e,.Constant (.str "-") j5 p5] [] cpos) (oq ty):=by
 intro pins s σ H Q I h
 refine wpAny_Call_method base few line PySem.F.plainAttrs_dict PySem.F.slot_dict_get PySem.F.type_dict_get ?_
 rw [hD]
 refine wpAny_Dict_walk (knd:=bL X.prog X.w) rfl rfl (by simp) (by simp) ?_
 refine pairTrees_cons_walk (wpAny_Constant_int (Calls.Constant_str ?_))
 refine pairTrees_cons_walk (wpAny_Constant_int (Calls.Constant_str (pairTrees_nil_walk ?_)))
 refine⟨[(some 1,_),(some 0,_)],⟨by simp [bL,oIs,Value.isInt],rfl,by simp [bL,oIs,Value.isInt],rfl,trivial⟩,Heap.DictOf.new s.heap,λh' dd hs=>?_⟩
 have hdn:(s.heap.objs.size==sysModules)=false:=beq_eq_false_iff_ne.mpr (Ne.symm (Nat.ne_of_lt I.bigG))
 have hk:∀ b o,s.heap.get? b=some o->h'.get? b=some o:=λb o q=>(hs.2 b (Nat.ne_of_lt (Heap.lt_size q))).trans (Heap.get?_push_of_some _ q)
 obtain⟨o,es,ep,ho,hc,hd,hr⟩:=id dd
 refine⟨dd.typeIs,λb q=>?_,?_⟩
 ·cases q
  exact⟨o,ho,hc.2.1⟩
 rw [trees]
 generalize hs2:({ s with heap:=h',toks:=_ }:Shared)=s2
 have I2:Inv X pins σ H s2:=by rw [<-hs2];exact I.kept hk
 have h2:s2.heap=h':=by rw [<-hs2]
 have I3:Inv X (pins++[(s.heap.objs.size,o)]) σ H s2:=I2.pins_of λp hp=>by
  rcases List.mem_append.mp hp with z | z
  ·exact I2.pin p (List.mem_append_right _ z)
  ·have:=List.mem_singleton.mp z
   subst this
   exact⟨by rw [h2];exact ho,I.hok.fresh (Nat.le_refl _),Nat.ne_of_gt I.lt,I.nofs (Nat.le_refl _),λv q=>by rw [hd] at q;cases q⟩
 refine Calls.callWith_builtin rfl (Calls.evalArgs_plain (Calls.spliced_cons (thn (he _ s2 σ H _ I3 h) λiv s4 ⟨y,H4,I4,ry,q4⟩=>Calls.spliced_cons (Calls.Constant_str (Calls.spliced_nil ?_)))))
 have pD:=(I4.pin (s.heap.objs.size,o) (List.mem_append_right _ (List.mem_append_right _ List.mem_cons_self))).1
 have dd4:s4.heap.DictOf (bL X.prog X.w) s.heap.objs.size _:=⟨o,es,ep,pD,hc,hd,hr⟩
 have I4':Inv X pins σ H4 s4:=I4.unpinned
 rcases q4 with⟨rfl,q4⟩ | ⟨rfl,q4⟩ | ⟨rfl,q4⟩
 ·cases ry
  exact call_meetsIn PySem.F.slot_dict_get dd4.typeIs PySem.F.entry_dict_get (PySem.F.args_dict_get_3 _ _ _) (meets_dict_get_default (bL X.prog X.w) (k:=none) s.heap.objs.size rfl hdn _) ⟨_,dd4.mapOf,.str "-",H4,I4'.tok _,⟨_,rfl⟩,q4⟩
 ·obtain⟨t,rfl⟩:=ry
  exact call_meetsIn PySem.F.slot_dict_get dd4.typeIs PySem.F.entry_dict_get (PySem.F.args_dict_get_3 _ _ _) (meets_dict_get_default (bL X.prog X.w) (k:=some 1) s.heap.objs.size (by simp [bL,oIs,Value.isInt]) hdn _) ⟨_,dd4.mapOf,.str "1",H4,I4'.tok _,⟨_,rfl⟩,q4⟩
 ·obtain⟨t,rfl⟩:=ry
  exact call_meetsIn PySem.F.slot_dict_get dd4.typeIs PySem.F.entry_dict_get (PySem.F.args_dict_get_3 _ _ _) (meets_dict_get_default (bL X.prog X.w) (k:=some 0) s.heap.objs.size (by simp [bL,oIs,Value.isInt]) hdn _) ⟨_,dd4.mapOf,.str "0",H4,I4'.tok _,⟨_,rfl⟩,q4⟩
end
section
variable {K:PySem.W.Frag}{X:Cx}{e:Expr}{f:Ef}{pos p1:Pos}{x:Str}{p:Addr}{ds:List D}{s:Stmt}
noncomputable def nU:W->Option D
 | .d .non=>some (.str "-")
 | .d (.int i)=>if i=1 then some (.str "1") else if i=0 then some (.str "0") else none
 | _=>none
noncomputable def kW (a:Ef):Ef
 | env,st=>(a env st).bind λx=>(nU x.1).map λd=>(.d d,x.2)
theorem mM {p1 p2 p3 p4 p5 dpos apos cpos:Pos}{j1 j2 j3 j4 j5:Nat}{D':Expr} (he:IE K X e f) (hD:D'=.Dict [some (.Constant (.int 1) j1 p1),some (.Constant (.int 0) j2 p2)] [.Constant (.str "1") j3 p3,.Constant (.str "0") j4 p4] dpos:=by rfl)
  (base:attributeBase D' "get" X.env (eval D' X.env)=eval D' X.env:=by rfl)
  (few:((backTo cpos (starEach [e,.Constant (.str "-") j5 p5] X.env)).all (λx=>!x.1) && (backToKw cpos (keywordEach [] X.env)).all (λx=>x.1.isSome)
    && decide (([e,.Constant (.str "-") j5 p5]:List Expr).length+([]:List Keyword).length+(if ([]:List Keyword).isEmpty then 0 else 1) < 30))=true:=by rfl)
  (line:(apos.endLine==cpos.line)=true:=by rfl) (trees:backTo cpos (starEach [e,.Constant (.str "-") j5 p5] X.env)=[(false,eval e X.env),(false,eval (.Constant (.str "-") j5 p5) X.env)]:=by rfl) :
  IE K X (.Call (.Attribute D' "get" apos) [e,.Constant (.str "-") j5 p5] [] cpos) (kW f):=by
 refine⟨λenv st r hr=>?_⟩
 simp only [kW,Option.bind_eq_some_iff,Option.map_eq_some_iff] at hr
 obtain⟨⟨x,s1⟩,hx,d,hd,rfl⟩:=hr
 refine (mL (he.run _ _ _ hx) hD base few line trees).imp ?_
 rintro σ H Q ⟨φ,hE,hS,q⟩
 refine⟨φ,hE,hS,λv H1 φ1 f1 s1 w1=>?_⟩
 cases x with
 | h n=>cases hd
 | d x=>
  cases x with
  | non=>cases hd;exact .inl ⟨w1,q _ H1 φ1 f1 s1 rfl⟩
  | int i=>
   simp only [nU] at hd
   split at hd
   ·rename_i e1
    subst e1
    cases hd;exact .inr (.inl ⟨w1,q _ H1 φ1 f1 s1 rfl⟩)
   ·split at hd
    ·rename_i e1
     subst e1
     cases hd;exact .inr (.inr ⟨w1,q _ H1 φ1 f1 s1 rfl⟩)
    ·cases hd
  | _=>cases hd
noncomputable def KTp (K:PySem.W.Frag) (p:Addr) (ds:List D):Prop:=ds.all bJ=true/\∀ H,SqT K H p (ds.map vOf)
theorem mR {o:Obj} (l:K.lookup p=some o) (h:fz ds o=true):KTp K p ds:=by
 unfold fz at h
 rw [Bool.and_eq_true,Bool.and_eq_true,Bool.and_eq_true] at h
 obtain⟨⟨h1,h0⟩,h2,h3⟩:=h
 refine⟨h2,λH=>?_⟩
 cases e:o.data with
 | seq its n=>
  rw [e] at h3
  have h3':(decide (its.size<=1000) && its.toList.map jq==(ds.map vOf).map some)=true:=h3
  rw [Bool.and_eq_true] at h3'
  exact .inr ⟨o,its,n,l,eq_of_beq h1,e,fG (of_decide_eq_true h3'.1),gE (eq_of_beq h3'.2),Option.isNone_iff_eq_none.mp h0⟩
 | _=>rw [e] at h3;cases h3
noncomputable def eV (k:Bool) (ds:List D) (f:Ef):Tf
 | env,st=>(f env st).bind λr=>match r.1 with
 | .d x=>if bJ x=true then some (k != inD x ds,r.2) else none
 | _=>none
theorem lR {k:Bool}{op:CmpOp} (ho:OpR X (compareOp op) (rIn X.K k)) (hg:Gl X x) (hm:X.mg x=some (.ref p)) (g:KTp K p ds) (ha:IE K X e f) (hd:(x==("__debug__" : Str))=false:=by decide) (hb:behindInMarks op (.Name x p1)=false:=by rfl) (hK:X.K=K:=by rfl) :
  IT K X (.Compare e [op] [.Name x p1] pos) (eV k ds f):=by
 subst hK
 refine⟨λenv st r hr=>?_⟩
 simp only [eV,Option.bind_eq_some_iff] at hr
 obtain⟨⟨w,s1⟩,hx,hr⟩:=hr
 match w,hr with
 | .d z,hr=>
  dsimp only at hr
  by_cases hz:bJ z=true
  case neg=>rw [if_neg hz] at hr;cases hr
  rw [if_pos hz] at hr
  cases hr
  refine (fX ho (ha.run _ _ _ hx) (fq (v:=.ref p) hg hm rfl hd) hb).imp ?_
  rintro σ H Q ⟨φ,hE,hS,q⟩
  refine⟨φ,hE,hS,λy H1 φ1 f1 S1 w1=>?_⟩
  obtain⟨e1,e2⟩:=cU hz w1
  have e4:(ds.map vOf).all bR=true:=(gv (K:=X.K) (H:=H1) (φ:=φ1) g.1 (dS g.1)).2
  refine⟨p,ds.map vOf,rfl,.inr (g.2 H1),e2,e4,_,rfl,?_⟩
  rw [e1,ik hz g.1]
  have hb2:(if k=true then !inD z ds else inD z ds)=(k != inD z ds):=by cases k<;>cases inD z ds<;>rfl
  rw [hb2]
  exact q H1 φ1 f1 S1
noncomputable def kI:Sf
 | _,_=>none
theorem fD:IS K X s kI:=⟨λenv st r hr=>by cases hr⟩
end
end L2
namespace L2
open PySem PySem.Spec PyProof.Rows
inductive EPs (w:World):List DictEntry->List (Str×D)->List (Key×Value)->Prop
 | nil:EPs w [] [] []
 | cons {x:Str}{t:Tok}{d:D}{v:V}{u:Value}{es:List DictEntry}{kvs:List (Str×D)}{vs:List (Key×Value)} (h:iS d=some v) (r:al v u) (q:EPs w es kvs vs) :
   EPs w (⟨PyData.keyHash w.params x,.str x t,u⟩::es) ((x,d)::kvs) ((.inr x,u)::vs)
theorem EPs.kps {w:World}:∀ {es:List DictEntry}{kvs:List (Str×D)}{vs:List (Key×Value)},EPs w es kvs vs->KPs kvs vs
 | _,_,_,.nil=>.nil
 | _,_,_,.cons h r q=>.cons h r q.kps
theorem EPs.keys {P:Program}{w:World}:∀ {es:List DictEntry}{kvs:List (Str×D)}{vs:List (Key×Value)},EPs w es kvs vs->(∀ e ∈ es,∃ k,(bp P w).is k e.key=true/\e.hash=(bp P w).hash k)/\Pairs (bp P w) es vs/\vs.map (·.1)=kvs.map λkv=>Sum.inr kv.1
 | _,_,_,.nil=>⟨λe he=>(nomatch he),.nil,rfl⟩
 | _,_,_,.cons (x:=x) (t:=t) h r q=>by
  obtain⟨h1,h2,h3⟩:=q.keys (P:=P)
  refine⟨λe he=>?_,.cons (bV P w x t) rfl h2,by rw [List.map_cons,List.map_cons,h3]⟩
  rcases List.mem_cons.mp he with rfl | he
  ·exact⟨.inr x,bV P w x t,rfl⟩
  ·exact h1 e he
theorem kdc_mk {P:Program}{w:World}{es:List DictEntry}{ep:Nat}{kvs:List (Str×D)}{vs:List (Key×Value)} (h:EPs w es kvs vs) (hn:(kvs.map (·.1)).Nodup) :
  ∃ vs,Obj.IsDictOf (bp P w) { cls:=.type "dict",data:=.dict es.toArray ep } vs/\KPs kvs vs:=by
 obtain⟨h1,h2,h3⟩:=h.keys (P:=P)
 refine⟨vs,⟨es.toArray,ep,⟨rfl,rfl,rfl⟩,rfl,λe he=>h1 e (by simpa using he),h2,?_⟩,h.kps⟩
 rw [h3]
 have:(kvs.map λkv=>(Sum.inr kv.1:Key))=(kvs.map (·.1)).map Sum.inr:=by rw [List.map_map];rfl
 rw [this]
 rw [List.nodup_iff_pairwise_ne,List.pairwise_map]
 exact (List.nodup_iff_pairwise_ne.mp hn).imp λh e=>h (Sum.inr.inj e)
end L2
namespace Own
open PySem L2
noncomputable def aK:Ef:=(mG (ft lJ (iV 0) (iC .non)) (iC (.str "-")) (iCB mC (aa (iV 0) ah)))
noncomputable def bc:Sf:=(bH (gt (iC (.str "")) (aa (bh (iLc 1 [] (bt (iV 0)) (.nm 0) cW aK)) ah)))
noncomputable def az:Fn:=bY 1 1 bc
noncomputable def df:Sf:=(bH (iA (iCB fC (aa (iV 0) (aa (iC (.ty "int")) ah))) (jJ (iCB fC (aa (iV 0) (aa (iC (.ty "bool")) ah))))))
noncomputable def ef:Fn:=bY 1 1 df
noncomputable def cF:Sf:=(bH (iA (ao ef (aa (iV 0) ah)) (h9 dLe dLe (iV 1) (iV 0) (iV 2))))
noncomputable def dW:Fn:=bY 3 3 cF
noncomputable def bb:Ef:=(lW (iOp lJ (iV 0) (iC .non)) (ao dW (aa (iV 0) (aa (iC (.int 0)) (aa (iC (.int 1)) ah)))))
noncomputable def bw:Sf:=(aF (cX (gy (bA (cJ db (iCB fC (aa (iV 0) (aa (iC (.ty "tuple")) ah))))) (eV true [(.int 1),(.int 2),(.int 4),(.int 8),(.int 16),(.int 32),(.int 64)] (iCB cV (aa (iV 0) ah)))) (bH (iC (.bl false))) ci) (bH (iCB mn (aa (bh (iLc 1 [] (bt (iV 0)) (.nm 0) cW bb)) ah))))
noncomputable def ba:Fn:=bY 1 1 bw
noncomputable def di:Sf:=(aF (cX (jC true [("1",(.int 1)),("0",(.int 0)),("-",.non)] (iV 0)) kI ci) (bH (mt [("1",(.int 1)),("0",(.int 0)),("-",.non)] (iV 0))))
noncomputable def eg:Fn:=bY 1 1 di
noncomputable def aQ:Ef:=(ao eg (aa (iV 0) ah))
noncomputable def bd:Sf:=(aF (cX (bA (cJ db (iCB fC (aa (iV 0) (aa (iC (.ty "str")) ah))))) kI ci) (aF (ce (.nm 1) (iCB kz (aa (bh (iLc 1 [] (dw (iV 0)) (.nm 0) cW aQ)) ah))) (aF (cX (bA (cJ db (ao ba (aa (iV 1) ah)))) kI ci) (bH (iV 1)))))
noncomputable def aw:Fn:=bY 2 1 bd
noncomputable def bB:Sf:=(aF (ce (.nm 2) (iC (.int 0))) (aF (cX (ft dLt (iV 1) (iCB cV (aa (iV 0) ah))) (ce (.nm 2) (iOp dIx (iV 0) (iV 1))) ci) (aF (ce (.nm 3) (iOp bX (iOp bX (iOp bX (iOp fk (iC (.int 10)) (iC (.int 60))) (iOp fk (iC (.int 10)) (iC (.int 60)))) (iOp fk (iC (.int 10)) (iC (.int 60)))) (iOp fk (iC (.int 10)) (iC (.int 60))))) (aF (ce (.nm 4) (iOp dm (iOp bX (iOp cK (iOp cK (iOp dm (iV 2) (iC (.int 2147483629))) (iOp bX (iC (.int 7919)) (iV 1))) (iC (.int 11))) (iC (.int 48271))) (iC (.int 2147483647)))) (bH (jO (dz (aa (iOp bX (iOp dm (iCB jB (aa (iV 2) ah)) (iV 3)) (iCB kt (aa (iOp dGe (iCB jB (aa (iV 2) ah)) (iOp fk (iC (.int 10)) (iC (.int 18)))) ah))) (aa (iV 4) (aa (iC (.int 0)) ah))))))))))
noncomputable def bx:Fn:=bY 5 2 bB
noncomputable def bz:Sf:=(aF (cX (ft dGt (iOp dIx (iV 0) (iC (.int 0))) (iC (.int 0))) (aF (ce (.nm 2) (iOp dm (iOp dIx (iV 0) (iC (.int 0))) (iV 1))) (aF (da (iV 0) (iC (.int 0)) (iOp eS (iOp dIx (iV 0) (iC (.int 0))) (iV 1))) (bH (iV 2)))) ci) (aF (da (iV 0) (iC (.int 2)) (iOp cK (iOp dIx (iV 0) (iC (.int 2))) (iC (.int 1)))) (aF (da (iV 0) (iC (.int 1)) (iOp dm (iOp cK (iOp cK (iOp bX (iOp dIx (iV 0) (iC (.int 1))) (iC (.int 39373))) (iC (.int 12345))) (iOp bX (iC (.int 31)) (iOp dIx (iV 0) (iC (.int 2))))) (iC (.int 2147483647)))) (bH (iOp dm (iOp eS (iOp dm (iOp bX (iOp dIx (iV 0) (iC (.int 1))) (iOp cK (iOp dm (iOp dIx (iV 0) (iC (.int 1))) (iC (.int 40009))) (iC (.int 3)))) (iC (.int 2147483629))) (iC (.int 64))) (iV 1))))))
noncomputable def aP:Fn:=bY 3 2 bz
noncomputable def bU:Sf:=(bH (iOp dIx (iV 1) (ao aP (aa (iV 0) (aa (iCB cV (aa (iV 1) ah)) ah)))))
noncomputable def aR:Fn:=bY 2 2 bU
noncomputable def cA:Ef:=(iOp dIx (bh (dz (aa (iC (.int 1)) (aa (iC (.int 0)) (aa (iC (.int 1)) (aa (iC (.int 0)) (aa (iC .non) ah))))))) (ao aP (aa (iV 1) (aa (iOp cK (iC (.int 4)) (iV 2)) ah))))
noncomputable def bv:Sf:=(aF (ce (.nm 2) (ao aP (aa (iV 0) (aa (iC (.int 2)) ah)))) (bH (iCB kz (aa (bh (iLc 1 [0,2] (dL (aa (iV 1) ah)) (.nm 0) cW cA)) ah))))
noncomputable def bW:Fn:=bY 3 2 bv
noncomputable def bE:Sf:=(bH (iOp dEq (iCB dA (aa (iV 0) ah)) (iCB dA (aa (iV 1) ah))))
noncomputable def au:Fn:=bY 2 2 bE
noncomputable def fI:Sf:=(ce (.nm 5) (iOp cK (iV 5) (kW (iV 6))))
noncomputable def fm:Sf:=(aF (ce (.nm 5) (iC (.str ""))) (aF (gZ (bt (iV 4)) (.nm 6) fI) (aF (cX (gy (bA (cJ db (ao au (aa (ao az (aa (iV 4) ah)) (aa (iV 5) ah))))) (bA (cJ db (ao au (aa (ao aw (aa (iV 5) ah)) (aa (iV 4) ah)))))) (bH (iC (.bl false))) ci) (cX (bA (cJ db (ao au (aa (ao aw (aa (ao az (aa (iV 4) ah)) ah)) (aa (iV 4) ah))))) (bH (iC (.bl false))) ci))))
noncomputable def ir:Sf:=(aF (ce (.nm 2) (ao bx (aa (iV 0) (aa (iV 1) ah)))) (aF (ce (.nm 3) (ao bW (aa (iV 2) (aa (iOp ld (iC (.int 1)) (ao aP (aa (iV 2) (aa (iC (.int 7)) ah)))) ah)))) (gZ (bt (bh (dz (aa (iV 3) (aa (iOp bX (e8 (aa (ao aR (aa (iV 2) (aa (bh (dz (aa (iC (.int 0)) (aa (iC (.int 1)) (aa (iC .non) ah))))) ah))) ah)) (iCB cV (aa (iV 3) ah))) (aa (iV 3) ah)))))) (.nm 4) fm)))
noncomputable def iu:Sf:=(aF (gZ (dL (aa (iOp cK (iC (.int 1)) (iCB lw (aa (iC (.int 12)) (aa (iCB cV (aa (iV 0) ah)) ah)))) ah)) (.nm 1) ir) (bH (iC (.bl true))))
noncomputable def gx:Fn:=iJ 7 1 iu
end Own
section
set_option maxHeartbeats 2000000
namespace Own
open PySem L2
noncomputable def top (i:Nat):Stmt:=PySem.Challenge.pw_signpoly_k75_functions_written.main.body.getD i (.Pass ⟨0,0,0,0⟩)
abbrev aq:Stmt:=top 1
abbrev bf:Stmt:=top 6
abbrev aS:Stmt:=top 7
abbrev aB:Stmt:=top 10
abbrev bg:Stmt:=top 13
abbrev ap:Stmt:=top 14
abbrev aT:Stmt:=top 16
abbrev aW:Stmt:=top 17
abbrev aV:Stmt:=top 18
abbrev aC:Stmt:=top 19
abbrev aU:Stmt:=top 20
abbrev ez:Stmt:=top 21
theorem dB:aH ["f"] ["f"] (ac aq):=⟨rfl,rfl,rfl,by decide +kernel,rfl,by decide +kernel,by decide +kernel⟩
theorem gA:aH ["thing"] ["thing"] (ac bf):=⟨rfl,rfl,rfl,by decide +kernel,rfl,by decide +kernel,by decide +kernel⟩
theorem fN:aH ["thing","low","high"] ["thing","low","high"] (ac aS):=⟨rfl,rfl,rfl,by decide +kernel,rfl,by decide +kernel,by decide +kernel⟩
theorem eD:aH ["thing"] ["thing"] (ac aB):=⟨rfl,rfl,rfl,by decide +kernel,rfl,by decide +kernel,by decide +kernel⟩
theorem gH:aH ["sign"] ["sign"] (ac bg):=⟨rfl,rfl,rfl,by decide +kernel,rfl,by decide +kernel,by decide +kernel⟩
theorem cg:aH ["thing","f"] ["thing"] (ac ap):=⟨rfl,rfl,rfl,by decide +kernel,rfl,by decide +kernel,by decide +kernel⟩
theorem bm:aH ["_law_script","_law_k","_law_cell","_law_far","_law_seed"] ["_law_script","_law_k"] (ac aT):=⟨rfl,rfl,rfl,by decide +kernel,rfl,by decide +kernel,by decide +kernel⟩
theorem dn:aH ["_law_hand_here","_law_many","_law_digit"] ["_law_hand_here","_law_many"] (ac aW):=⟨rfl,rfl,rfl,by decide +kernel,rfl,by decide +kernel,by decide +kernel⟩
theorem fZ:aH ["_law_hand_here","_law_some"] ["_law_hand_here","_law_some"] (ac aV):=⟨rfl,rfl,rfl,by decide +kernel,rfl,by decide +kernel,by decide +kernel⟩
theorem cM:aH ["_law_hand_here","_law_many","_law_few"] ["_law_hand_here","_law_many"] (ac aC):=⟨rfl,rfl,rfl,by decide +kernel,rfl,by decide +kernel,by decide +kernel⟩
theorem gg:aH ["_law_found","_law_due"] ["_law_found","_law_due"] (ac aU):=⟨rfl,rfl,rfl,by decide +kernel,rfl,by decide +kernel,by decide +kernel⟩
theorem cR:aH ["_law_script","_law_k","_law_hand_here","_law_f","_law_one","_law_text","_law_value"] ["_law_script"] (ac ez):=⟨rfl,rfl,rfl,by decide +kernel,rfl,by decide +kernel,by decide +kernel⟩
set_option genSizeOf false in
set_option genInjectivity false in
structure Adr where
 f0:Addr
 g0:FuncData
 f1:Addr
 g1:FuncData
 f2:Addr
 g2:FuncData
 f3:Addr
 g3:FuncData
 f4:Addr
 g4:FuncData
 f5:Addr
 g5:FuncData
 f6:Addr
 g6:FuncData
 f7:Addr
 g7:FuncData
 f8:Addr
 g8:FuncData
 f9:Addr
 g9:FuncData
 f10:Addr
 g10:FuncData
 f11:Addr
 g11:FuncData
 ga_LENGTHS:Addr
 ga_VALUES:Addr
structure Txt (P:Program) (w:World) (K:PySem.W.Frag) (mg:Str->Option Value) (t:Adr):Prop where
 F0:Fun K "show_function" "show_function" aq t.f0 t.g0
 m0:mg "show_function" = some (.ref t.f0)
 b0:bq K t.g0 ["f"] []
 F1:Fun K "is_whole" "is_whole" bf t.f1 t.g1
 m1:mg "is_whole" = some (.ref t.f1)
 b1:bq K t.g1 ["thing"] []
 F2:Fun K "is_within" "is_within" aS t.f2 t.g2
 m2:mg "is_within" = some (.ref t.f2)
 b2:bq K t.g2 ["thing","low","high"] []
 F3:Fun K "is_function" "is_function" aB t.f3 t.g3
 m3:mg "is_function" = some (.ref t.f3)
 b3:bq K t.g3 ["thing"] []
 F4:Fun K "value_by" "value_by" bg t.f4 t.g4
 m4:mg "value_by" = some (.ref t.f4)
 b4:bq K t.g4 ["sign"] []
 F5:Fun K "read_function" "read_function" ap t.f5 t.g5
 m5:mg "read_function" = some (.ref t.f5)
 b5:bq K t.g5 ["thing"] []
 F6:Fun K "_law_hand" "_law_hand" aT t.f6 t.g6
 m6:mg "_law_hand" = some (.ref t.f6)
 b6:bq K t.g6 ["_law_script","_law_k"] []
 F7:Fun K "_law_take" "_law_take" aW t.f7 t.g7
 m7:mg "_law_take" = some (.ref t.f7)
 b7:bq K t.g7 ["_law_hand_here","_law_many"] []
 F8:Fun K "_law_pick" "_law_pick" aV t.f8 t.g8
 m8:mg "_law_pick" = some (.ref t.f8)
 b8:bq K t.g8 ["_law_hand_here","_law_some"] []
 F9:Fun K "_law_values" "_law_values" aC t.f9 t.g9
 m9:mg "_law_values" = some (.ref t.f9)
 b9:bq K t.g9 ["_law_hand_here","_law_many"] []
 F10:Fun K "_law_same" "_law_same" aU t.f10 t.g10
 m10:mg "_law_same" = some (.ref t.f10)
 b10:bq K t.g10 ["_law_found","_law_due"] []
 F11:Fun K "law" "law" ez t.f11 t.g11
 m11:mg "law" = some (.ref t.f11)
 b11:bq K t.g11 ["_law_script"] []
 z_abs:mg "abs" = none
 z_all:mg "all" = none
 z_bool:mg "bool" = none
 z_int:mg "int" = none
 z_isinstance:mg "isinstance" = none
 z_len:mg "len" = none
 z_min:mg "min" = none
 z_range:mg "range" = none
 z_repr:mg "repr" = none
 z_str:mg "str" = none
 z_tuple:mg "tuple" = none
 g_LENGTHS:mg "LENGTHS" = some (.ref t.ga_LENGTHS)
 gk_LENGTHS:KTp K t.ga_LENGTHS [(.int 1),(.int 2),(.int 4),(.int 8),(.int 16),(.int 32),(.int 64)]
 g_VALUES:mg "VALUES" = some (.ref t.ga_VALUES)
 gk_VALUES:KDc K P w t.ga_VALUES [("1",(.int 1)),("0",(.int 0)),("-",.non)]
abbrev Bdy (P:Program) (w:World) (K:PySem.W.Frag) (mg:Str->Option Value) (base:Heap) (k:Nat) (N:List Str) (x:Str) (sd:Stmt) (f:Addr) (b:Sf):Prop:=∀ (cdv:Value) (A:Around) (outer:List Env) (s:Shared) (H:Hp) (E:XK),bj k (A.deeper (PyProof.Rows.envOfC x (ac sd) s.heap.objs.size f cdv))->ISs K (gf CX0 P w K mg base N x (ac sd) f cdv A outer s H E).nox (av sd) b
section
variable {P:Program}{w:World}{K:PySem.W.Frag}{mg:Str->Option Value}{base:Heap}{t:Adr}
theorem dk (T:Txt P w K mg t):Bdy P w K mg base 0 ["f"] "show_function" aq t.f0 bc:=
 λ_ _ _ _ _ _ hr=>(am (aZ (kL gY (ab (cy (im (iF (ac aq).names ["f"] ["value"] 1 [] rfl rfl rfl (by decide +kernel)) rfl (by decide) (fV (iv 0) rfl) (λ_ _ _ _ _=>(cx (cw (i:=0) (show List.Nodup (α:=Str) ["value"] by decide +kernel) rfl (by first | exact Or.inl rfl | exact Or.inr rfl)))) (λ_ _ _ _ _=>dZ) (λ_ _ _ _ _=>(nG (hR jg (iv 0) fO (dI _)) gY (iB lL rfl T.z_str PyProof.Rows.boot_str (ab (iv 0) ag rfl) (by decide) (by decide) rfl rfl))) (λ_=>rfl))) ag rfl) rfl rfl rfl rfl)))
theorem cj (T:Txt P w K mg t):bD P w K mg base CX0 1 t.f0 t.g0 ["f"] (spI K az):=
 d5 (N:=["f"]) (b:=bc) T.F0 dB (dk T)
theorem eN (T:Txt P w K mg t):Bdy P w K mg base 0 ["thing"] "is_whole" bf t.f1 df:=
 λ_ _ _ _ _ _ hr=>(am (aZ (i9 (bO (fF rfl) rfl T.z_isinstance PyProof.Rows.boot_isinstance (ab (iv 0) (ab (ii rfl T.z_int PyProof.Rows.boot_int (by decide) (by decide)) ag rfl) rfl) (by decide) (by decide) rfl rfl) (hW (mS (bO (fF rfl) rfl T.z_isinstance PyProof.Rows.boot_isinstance (ab (iv 0) (ab (ii rfl T.z_bool PyProof.Rows.boot_bool (by decide) (by decide)) ag rfl) rfl) (by decide) (by decide) rfl rfl))))))
theorem gN (T:Txt P w K mg t):bD P w K mg base CX0 1 t.f1 t.g1 ["thing"] (spI K ef):=
 d5 (N:=["thing"]) (b:=df) T.F1 gA (eN T)
theorem eB (T:Txt P w K mg t):Bdy P w K mg base 1 ["thing","low","high"] "is_within" aS t.f2 cF:=
 λ_ _ _ _ _ _ hr=>(am (aZ (i9 (aE (gN T) (by decide) hr rfl T.m1 T.F1.kp T.b1 (ab (iv 0) ag rfl) (by decide) rfl rfl) (hW (jA lj lj (iv 1) (iv 0) (iv 2) (by with_unfolding_all rfl))))))
theorem gi (T:Txt P w K mg t):bD P w K mg base CX0 2 t.f2 t.g2 ["thing","low","high"] (spI K dW):=
 d5 (N:=["thing","low","high"]) (b:=cF) T.F2 fN (eB T)
theorem dC (T:Txt P w K mg t):Bdy P w K mg base 2 ["thing"] "is_function" aB t.f3 bw:=
 λ_ _ _ _ _ _ hr=>(aj (dQ (je (i6 (dE (dD (bO (fF rfl) rfl T.z_isinstance PyProof.Rows.boot_isinstance (ab (iv 0) (ab (ii rfl T.z_tuple PyProof.Rows.boot_tuple (by decide) (by decide)) ag rfl) rfl) (by decide) (by decide) rfl rfl) rfl rfl)) (ix (lR fM rfl T.g_LENGTHS T.gk_LENGTHS (bO (d6 rfl) rfl T.z_len PySem.boot_len (ab (iv 0) ag rfl) (by decide) (by decide) rfl rfl) (by decide) rfl rfl)))) (am (aZ ic)) bS) (am (aZ (bO (mf rfl rfl) rfl T.z_all PyProof.Rows.boot_all (ab (cy (im (iF (ac aB).names ["thing"] ["value"] 1 [] rfl rfl rfl (by decide +kernel)) rfl (by decide) (fV (iv 0) rfl) (λ_ _ _ _ _=>(cx (cw (i:=0) (show List.Nodup (α:=Str) ["value"] by decide +kernel) rfl (by first | exact Or.inl rfl | exact Or.inr rfl)))) (λ_ _ _ _ _=>dZ) (λ_ _ _ _ _=>(nu (h8 jg (iv 0) fO (dI _)) (hW (aE (gi T) (by decide) hr rfl T.m2 T.F2.kp T.b2 (ab (iv 0) (ab ae (ab ae ag rfl) rfl) rfl) (by decide) rfl rfl)))) (λ_=>rfl))) ag rfl) (by decide) (by decide) rfl rfl))))
theorem d9 (T:Txt P w K mg t):bD P w K mg base CX0 3 t.f3 t.g3 ["thing"] (spI K ba):=
 d5 (N:=["thing"]) (b:=bw) T.F3 eD (dC T)
theorem eH (T:Txt P w K mg t):Bdy P w K mg base 0 ["sign"] "value_by" bg t.f4 di:=
 λ_ _ _ _ _ _ hr=>(aj (dQ (lz le rfl T.g_VALUES T.gk_VALUES (iv 0) (by decide) rfl) (am fD) bS) (am (aZ (mY rfl T.g_VALUES T.gk_VALUES (iv 0) rfl (by decide)))))
theorem gG (T:Txt P w K mg t):bD P w K mg base CX0 1 t.f4 t.g4 ["sign"] (spI K eg):=
 d5 (N:=["sign"]) (b:=di) T.F4 gH (eH T)
theorem dj (T:Txt P w K mg t):Bdy P w K mg base 3 ["thing","f"] "read_function" ap t.f5 bd:=
 λ_ _ _ _ _ _ hr=>(aj (dQ (dE (dD (bO (fF rfl) rfl T.z_isinstance PyProof.Rows.boot_isinstance (ab (iv 0) (ab (ii rfl T.z_str PyProof.Rows.boot_str (by decide) (by decide)) ag rfl) rfl) (by decide) (by decide) rfl rfl) rfl rfl)) (am fD) bS) (aj (bP (i:=1) cg.nd rfl (by first | exact Or.inl rfl | exact Or.inr rfl) (iB (j6 rfl) rfl T.z_tuple PyProof.Rows.boot_tuple (ab (cy (im (iF (ac ap).names ["thing","f"] ["sign"] 1 [] rfl rfl rfl (by decide +kernel)) rfl (by decide) (ms (iv 0)) (λ_ _ _ _ _=>(cx (cw (i:=0) (show List.Nodup (α:=Str) ["sign"] by decide +kernel) rfl (by first | exact Or.inl rfl | exact Or.inr rfl)))) (λ_ _ _ _ _=>dZ) (λ_ _ _ _ _=>(aE (gG T) (by decide) hr rfl T.m4 T.F4.kp T.b4 (ab (iv 0) ag rfl) (by decide) rfl rfl)) (λ_=>rfl))) ag rfl) (by decide) (by decide) rfl rfl) rfl (by first | exact .inl rfl | exact .inr rfl)) (aj (dQ (dE (dD (aE (d9 T) (by decide) hr rfl T.m3 T.F3.kp T.b3 (ab (iv 1) ag rfl) (by decide) rfl rfl) rfl rfl)) (am fD) bS) (am (aZ (iv 1))))))
theorem cc (T:Txt P w K mg t):bD P w K mg base CX0 4 t.f5 t.g5 ["thing"] (spI K aw):=
 d5 (N:=["thing","f"]) (b:=bd) T.F5 cg (dj T)
theorem eu (T:Txt P w K mg t):Bdy P w K mg base 0 ["_law_script","_law_k","_law_cell","_law_far","_law_seed"] "_law_hand" aT t.f6 bB:=
 λ_ _ _ _ _ _ hr=>(aj (bP (i:=2) bm.nd rfl (by first | exact Or.inl rfl | exact Or.inr rfl) ae rfl (by first | exact .inl rfl | exact .inr rfl)) (aj (dQ (hR nJ (iv 1) (bO (d6 rfl) rfl T.z_len PySem.boot_len (ab (iv 0) ag rfl) (by decide) (by decide) rfl rfl) (dI _)) (am (bP (i:=2) bm.nd rfl (by first | exact Or.inl rfl | exact Or.inr rfl) (cI (iv 0) (iv 1) rfl rfl) rfl (by first | exact .inl rfl | exact .inr rfl))) bS) (aj (bP (i:=3) bm.nd rfl (by first | exact Or.inl rfl | exact Or.inr rfl) (ar (ca rfl) (ar (ca rfl) (ar (ca rfl) (ar d3 ae ae) (ar d3 ae ae)) (ar d3 ae ae)) (ar d3 ae ae)) rfl (by first | exact .inl rfl | exact .inr rfl)) (aj (bP (i:=4) bm.nd rfl (by first | exact Or.inl rfl | exact Or.inr rfl) (ar cQ (ar (ca rfl) (ar (cq rfl) (ar (cq rfl) (ar cQ (iv 2) ae) (ar (ca rfl) ae (iv 1))) ae) ae) ae) rfl (by first | exact .inl rfl | exact .inr rfl)) (am (aZ (mH (fR (ab (ar (ca rfl) (ar cQ (bO jl rfl T.z_abs PyProof.Rows.boot_abs (ab (iv 2) ag rfl) (by decide) (by decide) rfl rfl) (iv 3)) (iB mO rfl T.z_int PyProof.Rows.boot_int (ab (h8 n6 (bO jl rfl T.z_abs PyProof.Rows.boot_abs (ab (iv 2) ag rfl) (by decide) (by decide) rfl rfl) (ar d3 ae ae) (dI _)) ag rfl) (by decide) (by decide) rfl rfl)) (ab (iv 4) (ab ae ag rfl) rfl) rfl)))))))))
theorem fS (T:Txt P w K mg t):bD P w K mg base CX0 1 t.f6 t.g6 ["_law_script","_law_k"] (spI K bx):=
 d5 (N:=["_law_script","_law_k","_law_cell","_law_far","_law_seed"]) (b:=bB) T.F6 bm (eu T)
theorem eG (T:Txt P w K mg t):Bdy P w K mg base 0 ["_law_hand_here","_law_many","_law_digit"] "_law_take" aW t.f7 bz:=
 λ_ _ _ _ _ _ hr=>(aj (dQ (hR nq (cI (iv 0) ae rfl rfl) ae (dI _)) (aj (bP (i:=2) dn.nd rfl (by first | exact Or.inl rfl | exact Or.inr rfl) (ar cQ (cI (iv 0) ae rfl rfl) (iv 1)) rfl (by first | exact .inl rfl | exact .inr rfl)) (aj (el (iv 0) ae (ar ie (cI (iv 0) ae rfl rfl) (iv 1)) rfl rfl rfl) (am (aZ (iv 2))))) bS) (aj (el (iv 0) ae (ar (cq rfl) (cI (iv 0) ae rfl rfl) ae) rfl rfl rfl) (aj (el (iv 0) ae (ar cQ (ar (cq rfl) (ar (cq rfl) (ar (ca rfl) (cI (iv 0) ae rfl rfl) ae) ae) (ar (ca rfl) ae (cI (iv 0) ae rfl rfl))) ae) rfl rfl rfl) (am (aZ (ar cQ (ar ie (ar cQ (ar (ca rfl) (cI (iv 0) ae rfl rfl) (ar (cq rfl) (ar cQ (cI (iv 0) ae rfl rfl) ae) ae)) ae) ae) (iv 1)))))))
theorem bK (T:Txt P w K mg t):bD P w K mg base CX0 1 t.f7 t.g7 ["_law_hand_here","_law_many"] (spI K aP):=
 d5 (N:=["_law_hand_here","_law_many","_law_digit"]) (b:=bz) T.F7 dn (eG T)
theorem eh (T:Txt P w K mg t):Bdy P w K mg base 1 ["_law_hand_here","_law_some"] "_law_pick" aV t.f8 bU:=
 λ_ _ _ _ _ _ hr=>(am (aZ (cI (iv 1) (aE (bK T) (by decide) hr rfl T.m7 T.F7.kp T.b7 (ab (iv 0) (ab (bO (d6 rfl) rfl T.z_len PySem.boot_len (ab (iv 1) ag rfl) (by decide) (by decide) rfl rfl) ag rfl) rfl) (by decide) rfl rfl) rfl rfl)))
theorem fA (T:Txt P w K mg t):bD P w K mg base CX0 2 t.f8 t.g8 ["_law_hand_here","_law_some"] (spI K aR):=
 d5 (N:=["_law_hand_here","_law_some"]) (b:=bU) T.F8 fZ (eh T)
theorem dN (T:Txt P w K mg t):Bdy P w K mg base 1 ["_law_hand_here","_law_many","_law_few"] "_law_values" aC t.f9 bv:=
 λ_ _ _ _ _ _ hr=>(aj (bP (i:=2) cM.nd rfl (by first | exact Or.inl rfl | exact Or.inr rfl) (aE (bK T) (by decide) hr rfl T.m7 T.F7.kp T.b7 (ab (iv 0) (ab ae ag rfl) rfl) (by decide) rfl rfl) rfl (by first | exact .inl rfl | exact .inr rfl)) (am (aZ (iB (j6 rfl) rfl T.z_tuple PyProof.Rows.boot_tuple (ab (cy (im (iF (ac aC).names ["_law_hand_here","_law_many","_law_few"] ["_law_k","_law_hand_here","_law_few"] 1 [0,2] rfl rfl rfl (by decide +kernel)) rfl (by decide) (iy rfl T.z_range (ab (iv 1) ag rfl) rfl) (λ_ _ _ _ _=>(cx (cw (i:=0) (show List.Nodup (α:=Str) ["_law_k","_law_hand_here","_law_few"] by decide +kernel) rfl (by first | exact Or.inl rfl | exact Or.inr rfl)))) (λ_ _ _ _ _=>dZ) (λ_ _ _ _ _=>(cI (cy (fR (ab ae (ab ae (ab ae (ab ae (ab fO ag rfl) rfl) rfl) rfl) rfl))) (aE (bK T) (by decide) hr rfl T.m7 T.F7.kp T.b7 (ab (iv 1) (ab (ar (cq rfl) ae (iv 2)) ag rfl) rfl) (by decide) rfl rfl) rfl rfl)) (λ_=>rfl))) ag rfl) (by decide) (by decide) rfl rfl))))
theorem d7 (T:Txt P w K mg t):bD P w K mg base CX0 2 t.f9 t.g9 ["_law_hand_here","_law_many"] (spI K bW):=
 d5 (N:=["_law_hand_here","_law_many","_law_few"]) (b:=bv) T.F9 cM (dN T)
theorem en (T:Txt P w K mg t):Bdy P w K mg base 0 ["_law_found","_law_due"] "_law_same" aU t.f10 bE:=
 λ_ _ _ _ _ _ hr=>(am (aZ (h8 (og hr rfl) (bO (gD hr rfl) rfl T.z_repr PyProof.Rows.boot_repr (ab (iv 0) ag rfl) (by decide) (by decide) rfl rfl) (bO (gD hr rfl) rfl T.z_repr PyProof.Rows.boot_repr (ab (iv 1) ag rfl) (by decide) (by decide) rfl rfl) (dI _))))
theorem cr (T:Txt P w K mg t):bD P w K mg base CX0 1 t.f10 t.g10 ["_law_found","_law_due"] (spI K au):=
 d5 (N:=["_law_found","_law_due"]) (b:=bE) T.F10 gg (en T)
theorem ja (T:Txt P w K mg t):Bdy P w K mg base 4 ["_law_script","_law_k","_law_hand_here","_law_f","_law_one","_law_text","_law_value"] "law" ez t.f11 iu:=
 λ_ _ _ _ _ _ hr=>(aj (gU (iy rfl T.z_range (ab (ar (cq rfl) ae (bO (mV rfl) rfl T.z_min PyProof.Rows.boot_min (ab ae (ab (bO (d6 rfl) rfl T.z_len PySem.boot_len (ab (iv 0) ag rfl) (by decide) (by decide) rfl rfl) ag rfl) rfl) (by decide) (by decide) rfl rfl)) ag rfl) rfl) (cx (cw (i:=1) cR.nd rfl (by first | exact Or.inl rfl | exact Or.inr rfl))) (aj (bP (i:=2) cR.nd rfl (by first | exact Or.inl rfl | exact Or.inr rfl) (aE (fS T) (by decide) hr rfl T.m6 T.F6.kp T.b6 (ab (iv 0) (ab (iv 1) ag rfl) rfl) (by decide) rfl rfl) rfl (by first | exact .inl rfl | exact .inr rfl)) (aj (bP (i:=3) cR.nd rfl (by first | exact Or.inl rfl | exact Or.inr rfl) (aE (d7 T) (by decide) hr rfl T.m9 T.F9.kp T.b9 (ab (iv 2) (ab (ar lD ae (aE (bK T) (by decide) hr rfl T.m7 T.F7.kp T.b7 (ab (iv 2) (ab ae ag rfl) rfl) (by decide) rfl rfl)) ag rfl) rfl) (by decide) rfl rfl) rfl (by first | exact .inl rfl | exact .inr rfl)) (am (gU (fV (cy (fR (ab (iv 3) (ab (ar (ca rfl) (lV (ab (aE (fA T) (by decide) hr rfl T.m8 T.F8.kp T.b8 (ab (iv 2) (ab (cy (fR (ab ae (ab ae (ab fO ag rfl) rfl) rfl))) ag rfl) rfl) (by decide) rfl rfl) ag rfl)) (bO (d6 rfl) rfl T.z_len PySem.boot_len (ab (iv 3) ag rfl) (by decide) (by decide) rfl rfl)) (ab (iv 3) ag rfl) rfl) rfl))) rfl) (cx (cw (i:=4) cR.nd rfl (by first | exact Or.inl rfl | exact Or.inr rfl))) (aj (bP (i:=5) cR.nd rfl (by first | exact Or.inl rfl | exact Or.inr rfl) gY rfl (by first | exact .inl rfl | exact .inr rfl)) (aj (gU (fV (iv 4) rfl) (cx (cw (i:=6) cR.nd rfl (by first | exact Or.inl rfl | exact Or.inr rfl))) (am (bP (i:=5) cR.nd rfl (by first | exact Or.inl rfl | exact Or.inr rfl) (ar (cq rfl) (iv 5) (mM (iv 6) rfl rfl rfl rfl rfl)) rfl (by first | exact .inl rfl | exact .inr rfl))) PassesOwn.never rfl (λ_=>rfl)) (aj (dQ (je (i6 (dE (dD (aE (cr T) (by decide) hr rfl T.m10 T.F10.kp T.b10 (ab (aE (cj T) (by decide) hr rfl T.m0 T.F0.kp T.b0 (ab (iv 4) ag rfl) (by decide) rfl rfl) (ab (iv 5) ag rfl) rfl) (by decide) rfl rfl) rfl rfl)) (ix (dE (dD (aE (cr T) (by decide) hr rfl T.m10 T.F10.kp T.b10 (ab (aE (cc T) (by decide) hr rfl T.m5 T.F5.kp T.b5 (ab (iv 5) ag rfl) (by decide) rfl rfl) (ab (iv 4) ag rfl) rfl) (by decide) rfl rfl) rfl rfl))))) (am (aZ ic)) bS) (am (dQ (dE (dD (aE (cr T) (by decide) hr rfl T.m10 T.F10.kp T.b10 (ab (aE (cc T) (by decide) hr rfl T.m5 T.F5.kp T.b5 (ab (aE (cj T) (by decide) hr rfl T.m0 T.F0.kp T.b0 (ab (iv 4) ag rfl) (by decide) rfl rfl) ag rfl) (by decide) rfl rfl) (ab (iv 4) ag rfl) rfl) (by decide) rfl rfl) rfl rfl)) (am (aZ ic)) bS))))) PassesOwn.never rfl (λ_=>rfl))))) PassesOwn.never rfl (λ_=>rfl)) (am (aZ ic)))
theorem ml (T:Txt P w K mg t):bD P w K mg base CX0 5 t.f11 t.g11 ["_law_script"] (spI K gx):=
 oS (N:=["_law_script","_law_k","_law_hand_here","_law_f","_law_one","_law_text","_law_value"]) (b:=iu) T.F11 cR (ja T)
end
end Own
end
namespace L2
open PySem
end L2
namespace L2
end L2
namespace L2
end L2
namespace L2
open PySem
end L2
namespace L2
open PySem
end L2
namespace L2
open PySem
theorem dM {g:Sto->W->W->Option D}{a b:Ef}{env:Ev}{st s1 s2:Sto}{x y:W}{d:D} (ha:a env st=some (x,s1)) (hb:b env s1=some (y,s2)) (hg:g s2 x y=some d):iOp g a b env st=some (.d d,s2):=by
 simp only [iOp,ha,hb,hg,Option.bind_some,Option.map_some]
theorem bn {a b:Sf}{env e:Ev}{st s:Sto}{r:Fl} (ha:a env st=some (.nx e s)) (hb:b e s=some r):aF a b env st=some r:=by
 simp only [aF,ha,hb,Option.bind_some]
theorem cT {i:Nat}{f:Ef}{env:Ev}{st s:Sto}{w:W} (h:f env st=some (w,s)):ce (.nm i) f env st=some (.nx (env.set i (some w)) s):=by
 simp only [ce,h,Option.bind_some,cB,Option.map_some]
theorem aJ {m:Fn}{a:Af}{env:Ev}{st s:Sto}{ws:List W}{r:W×Sto} (ha:a env st=some (ws,s)) (hm:m ws s=some r):ao m a env st=some r:=by
 simp only [ao,ha,hm,Option.bind_some]
theorem dh {g:Sto->List W->Option D}{a:Af}{env:Ev}{st s:Sto}{ws:List W}{d:D} (ha:a env st=some (ws,s)) (hm:g s ws=some d):iCB g a env st=some (.d d,s):=by
 simp only [iCB,ha,hm,Option.bind_some,Option.map_some]
theorem ai {a:Ef}{b:Af}{env:Ev}{st s1 s2:Sto}{x:W}{y:List W} (ha:a env st=some (x,s1)) (hb:b env s1=some (y,s2)):aa a b env st=some (x::y,s2):=by
 simp only [aa,ha,hb,Option.bind_some,Option.map_some]
theorem fu {fi:Lf}{g:Tg}{b:Sf}{env:Ev}{st s:Sto}{ds:List D}{r:Fl} (h:fi env st=some (ds,s)) (hf:dF g b ds env s=some r):gZ fi g b env st=some r:=by
 simp only [gZ,h,hf,Option.bind_some]
theorem cu {f:Ef}{env:Ev}{st s:Sto}{w:W} (h:f env st=some (w,s)):bH f env st=some (.rt w s):=by
 simp only [bH,h,Option.map_some]
theorem gk {c:Tf}{a b:Sf}{env:Ev}{st s:Sto}{r:Option Fl} (h:c env st=some (false,s)) (hb:b env s=r):cX c a b env st=r:=by
 simp only [cX,h,Option.bind_some,Bool.false_eq_true,if_false,hb]
theorem fY {k:Nat}{js:List Nat}{fi:Lf}{g:Tg}{tt:Tf}{te:Ef}{env:Ev}{st s s2:Sto}{ds ys:List D} (h:fi env st=some (ds,s)) (hl:ds.length<=1000000) (hc:lcI g tt te (eI k js env) ds s=some (ys,s2)):iLc k js fi g tt te env st=some (ys,s2):=by
 simp only [iLc,h,hc,hl,Option.bind_some,if_true]
theorem dv {a:Lf}{env:Ev}{st s:Sto}{ds:List D} (h:a env st=some (ds,s)):bh a env st=some (.d (.lst ds),s):=by
 simp only [bh,h,Option.map_some]
theorem cm {n k:Nat}{b:Sf}{ws:List W}{st s:Sto}{w:W} (hl:ws.length=k) (h:b (ws.map some++List.replicate (n - k) none) st=some (.rt w s)):bY n k b ws st=some (w,s):=by
 simp only [bY,hl,if_true,h,Option.bind_some]
theorem jR {n k:Nat}{b:Sf}{ws:List W}{st s:Sto}{x:D} (hl:ws.length=k) (h:b (ws.map some++List.replicate (n - k) none) st=some (.rt (.d x) s)):iJ n k b ws st=some (.d x,s.take st.length):=by
 simp only [iJ,hl,if_true,h,Option.bind_some,kM]
end L2
section
set_option maxHeartbeats 1000000
namespace Own
open PySem L2
theorem d0 {st:Sto}{n:Nat}{m:Int} (h:cN st n) (m0:0 < m) (m1:m < 1073741824):∃ r st',0<=r/\r < m/\Stp n st st'/\aP [.h n,.d (.int m)] st=some (.d (.int r),st'):=by
 have hn:=h.lt
 obtain⟨x,y,z,h0,h⟩:=h
 by_cases hx:0 < x
 ·refine⟨x % m,st.set n (.l [.int (x / m),.int y,.int z]),Int.emod_nonneg _ (by lia),Int.emod_lt_of_pos _ m0,⟨⟨_,rfl⟩,_,_,_,Int.ediv_nonneg h0 (by lia),fH hn⟩,?_⟩
  simp only [aP,bz,iV,iC,iOp,ft,ci,aF,ce,gs,da,bH,cX,bY,cB,hV,du,lsD,dIx,cK,bX,eS,dm,dGt,Option.bind_some,Option.map_some,List.getD_cons_zero,List.getD_cons_succ,List.set_cons_zero,List.set_cons_succ,List.map_cons,List.map_nil,List.length_cons,List.length_nil,List.replicate_succ,List.replicate_zero,List.cons_append,List.nil_append,Nat.reduceAdd,Nat.reduceSub,if_true,nZ,nC,Nat.zero_add,and_self,decide_true,lg,Int.reduceNeg,h,hx,m0,m1,decide_true,and_self]
 ·have hy0:0<=(y*39373+12345+31*(z+1)) % 2147483647:=Int.emod_nonneg _ (by decide)
  have hy1:(y*39373+12345+31*(z+1)) % 2147483647 < 2147483647:=Int.emod_lt_of_pos _ (by decide)
  have k1:PySem.IntMulOk y 39373:=fQ (by decide)
  have k2:PySem.IntMulOk 31 (z+1):=fU (by decide)
  have k3:∀ q,PySem.IntMulOk ((y*39373+12345+31*(z+1)) % 2147483647) q:=λq=>fU (by lia)
  refine⟨(y*39373+12345+31*(z+1)) % 2147483647*((y*39373+12345+31*(z+1)) % 2147483647 % 40009+3) % 2147483629 / 64 % m,st.set n (.l [.int x,.int ((y*39373+12345+31*(z+1)) % 2147483647),.int (z+1)]),Int.emod_nonneg _ (by lia),Int.emod_lt_of_pos _ m0,⟨⟨_,rfl⟩,_,_,_,h0,fH hn⟩,?_⟩
  simp only [aP,bz,iV,iC,iOp,ft,ci,aF,ce,gs,da,bH,cX,bY,cB,hV,du,lsD,dIx,cK,bX,eS,dm,dGt,Option.bind_some,Option.map_some,List.getD_cons_zero,List.getD_cons_succ,List.set_cons_zero,List.set_cons_succ,List.map_cons,List.map_nil,List.length_cons,List.length_nil,List.replicate_succ,List.replicate_zero,List.cons_append,List.nil_append,Nat.reduceAdd,Nat.reduceSub,if_true,if_false,Bool.false_eq_true,nZ,oT,oG,nC,oz,oN,Nat.zero_add,and_self,decide_false,lg,Int.reduceNeg,h,hx,m0,m1,decide_false,and_self,fH hn,List.set_set,k1,k2,k3,show (0:Int) < 2147483647 by decide,show (0:Int) < 40009 by decide,show (0:Int) < 2147483629 by decide,show (0:Int) < 64 by decide,show (64:Int) < 1073741824 by decide]
theorem kd {st:Sto}{ns:List Int}{k:Nat}:∃ x y:Int,0<=x/\bx [.d (.scr ns),.d (.int k)] st=some (.h st.length,st++[.l [.int x,.int y,.int 0]]):=by
 have p60':eL 10 60:=p60
 have p18':eL 10 18:=p18
 have k1:∀ q,PySem.IntMulOk 7919 q:=λq=>fU (by decide)
 have k2:∀ q,PySem.IntMulOk q 48271:=λq=>fQ (by decide)
 have k3:∀ (q:Int) (b:Bool),PySem.IntMulOk q (if b=true then 1 else 0):=λq b=>fQ ⟨oa b,nK b⟩
 have hf:=fW
 by_cases hk:(k:Int) < ((ns.map D.int).length:Nat)
 ·have hk':k < ns.length:=by rw [List.length_map] at hk;lia
  have e:atI (ns.map D.int) (k:Int)=some (.int ns[k]):=dr (by rw [List.getElem?_map,List.getElem?_eq_getElem hk'];rfl)
  refine⟨(if ns[k] < 0 then -ns[k] else ns[k]) % (10 ^ Int.toNat 60*10 ^ Int.toNat 60*10 ^ Int.toNat 60*10 ^ Int.toNat 60)*(if decide (10 ^ Int.toNat 18<=(if ns[k] < 0 then -ns[k] else ns[k]))=true then 1 else 0),(ns[k] % 2147483629+7919*(k:Int)+11)*48271 % 2147483647,Int.mul_nonneg (Int.emod_nonneg _ (Int.ne_of_gt fW)) (ll _),?_⟩
  ·simp only [bx,bB,iV,iC,iOp,ft,ah,aa,iCB,dz,jO,ci,aF,ce,bH,cX,bY,cB,gu,hV,du,lsD,dIx,cK,bX,dm,fk,dLt,dGe,cV,jB,kt,Option.bind_some,Option.map_some,List.getD_cons_zero,List.getD_cons_succ,List.set_cons_zero,List.set_cons_succ,List.map_cons,List.map_nil,List.length_cons,List.length_nil,List.replicate_succ,List.replicate_zero,List.cons_append,List.nil_append,Nat.reduceAdd,Nat.reduceSub,if_true,Nat.zero_add,decide_true,lg,Int.reduceNeg,hk,e,decide_true,p60',p18',k1,k2,k3,nR,nQ,nn,hf,show (0:Int) < 2147483647 by decide,show (0:Int) < 2147483629 by decide,show (3:Nat)<=1000 by decide]
 ·refine⟨(if (0:Int) < 0 then -0 else 0) % (10 ^ Int.toNat 60*10 ^ Int.toNat 60*10 ^ Int.toNat 60*10 ^ Int.toNat 60)*(if decide (10 ^ Int.toNat 18<=(if (0:Int) < 0 then -0 else (0:Int)))=true then 1 else 0),(0 % 2147483629+7919*(k:Int)+11)*48271 % 2147483647,Int.mul_nonneg (Int.emod_nonneg _ (Int.ne_of_gt fW)) (ll _),?_⟩
  ·simp only [bx,bB,iV,iC,iOp,ft,ah,aa,iCB,dz,jO,ci,aF,ce,bH,cX,bY,cB,gu,hV,du,lsD,dIx,cK,bX,dm,fk,dLt,dGe,cV,jB,kt,Option.bind_some,Option.map_some,List.getD_cons_zero,List.getD_cons_succ,List.set_cons_zero,List.set_cons_succ,List.map_cons,List.map_nil,List.length_cons,List.length_nil,List.replicate_succ,List.replicate_zero,List.cons_append,List.nil_append,Nat.reduceAdd,Nat.reduceSub,if_true,if_false,Bool.false_eq_true,Nat.zero_add,decide_false,lg,Int.reduceLT,Int.reduceNeg,hk,decide_false,p60',p18',k1,k2,k3,nR,nQ,nn,hf,show (0:Int) < 2147483647 by decide,show (0:Int) < 2147483629 by decide,show (3:Nat)<=1000 by decide]
end Own
end
section
set_option maxHeartbeats 1000000
namespace Own
open PySem L2
theorem i5 {e:Ef}{z:Int}{m:Nat}{env:Ev}{st s:Sto} (he:e env st=some (.d (.int z),s)) (h0:0<=z) (h1:z<=1000) (hm:z.toNat=m):dL (aa e ah) env st=some (er 0 m,s):=by
 have hb:-(2 ^ 62)<=z/\z < 2 ^ 62:=⟨Int.le_trans (by decide) h0,Int.lt_of_le_of_lt h1 (by decide)⟩
 have h2:=ai (b:=ah) he rfl
 simp only [dL,h2,Option.bind_some,hb,and_self,if_true,hm]
theorem dH {f:Ef}{env:Ev}{st s:Sto}{ds:List D} (h:f env st=some (.d (.tup ds),s)):bt f env st=some (ds,s):=by
 simp only [bt,h,Option.bind_some]
noncomputable def okV (d:D):Prop:=d=.non\/d=.int 0\/d=.int 1
noncomputable def cod:D->Nat
 | .int 1=>49
 | .int 0=>48
 | _=>45
noncomputable def aA (f:List D):Str:=⟨(f.map cod).toArray⟩
theorem nL {st:Sto}{d:D} (h:okV d):aK [some (.d d)] st=some (.d (.str (bC (cod d))),st):=by
 rcases h with rfl | rfl | rfl<;>rfl
theorem jW (f:List D):ed (f.map λd=>D.str (bC (cod d)))=some (f.map λd=>bC (cod d)):=by
 induction f with
 | nil=>rfl
 | cons d f ih=>rw [List.map_cons,List.map_cons,ed,ih];rfl
theorem e9:∀ (f:List D) (a:Array Nat),List.foldl (λacc (p:Str)=>acc++("" : Str).cps++p.cps) a (f.map λd=>bC (cod d))=a++(f.map cod).toArray
 | [],a=>by simp
 | d::f,a=>by
  rw [List.map_cons,List.foldl_cons,e9 f]
  have:("" : Str).cps=#[]:=rfl
  rw [this]
  simp [bC]
theorem jQ (f:List D):PySem.Txt.join "" (f.map λd=>bC (cod d))=aA f:=by
 unfold PySem.Txt.join PySem.Builtin.Str.glued aA
 cases f with
 | nil=>rfl
 | cons d f=>
  rw [List.map_cons,List.drop_one,List.tail_cons,List.headD_cons,e9]
  simp [bC]
theorem kE {f:List D} (h:f.length<=64):PySem.JoinOk "" (f.map λd=>bC (cod d))=true:=by
 unfold PySem.JoinOk PySem.Builtin.Str.tooLong
 rw [PySem.StrLaws.joinTotal,List.map_map]
 have e:(f.map ((λx:Str=>x.length) ∘ λd=>bC (cod d))).sum=f.length:=by
  clear h
  induction f with
  | nil=>rfl
  | cons d f ih=>rw [List.map_cons,List.sum_cons,ih,List.length_cons];show 1+f.length=_;lia
 have e2:("" : Str).length=0:=rfl
 rw [e,e2]
 have:64<=sizeLine:=by decide
 simp;lia
theorem lb {st:Sto}{f:List D} (hf:∀ d ∈ f,okV d) (hl:f.length<=64):az [.d (.tup f)] st=some (.d (.str (aA f)),st):=by
 have k:lcI (.nm 0) cW aK [none] f st=some (f.map λd=>D.str (bC (cod d)),st):=iD (λd=>D.str (bC (cod d))) λd hd=>⟨_,rfl,nL (hf d hd)⟩
 have hj:gt (iC (.str "")) (aa (bh (iLc 1 [] (bt (iV 0)) (.nm 0) cW aK)) ah) [some (.d (.tup f))] st=some (.d (.str (aA f)),st):=by
  have ha:aa (bh (iLc 1 [] (bt (iV 0)) (.nm 0) cW aK)) ah [some (.d (.tup f))] st=some ([.d (.lst (f.map λd=>D.str (bC (cod d))))],st):=ai (dv (fY (dH rfl) (by lia) k)) rfl
  have hc:iC (.str "") [some (.d (.tup f))] st=some (.d (.str ""),st):=rfl
  simp only [gt,hc,ha,Option.bind_some,jW,kE hl,if_true,jQ]
 exact cm (n:=1) (k:=1) (b:=bc) rfl (cu hj)
end Own
end
section
set_option maxHeartbeats 1000000
namespace Own
open PySem L2
theorem by1 {st:Sto}{d:D} (h:okV d):aQ [some (.d (.str (bC (cod d))))] st=some (.d d,st):=by
 rcases h with rfl | rfl | rfl<;>rfl
theorem kA {f:List D} (h:∀ d ∈ f,okV d):asc (aA f)=true:=by
 unfold asc aA
 rw [List.all_toArray,List.all_eq_true]
 intro c hc
 obtain⟨d,hd,rfl⟩:=List.mem_map.mp hc
 rcases h d hd with rfl | rfl | rfl<;>rfl
theorem ko (f:List D):jh (aA f)=f.map λd=>D.str (bC (cod d)):=by
 unfold jh aA
 rw [List.toList_toArray,List.map_map];rfl
theorem j9 {st:Sto}{f:List D} (h:∀ d ∈ f,okV d):lcI (.nm 0) cW aQ [none] (f.map λd=>D.str (bC (cod d))) st=some (f,st):=by
 induction f with
 | nil=>rfl
 | cons d f ih=>
  have h1:=by1 (st:=st) (h d List.mem_cons_self)
  have h2:=ih λx hx=>h x (List.mem_cons_of_mem _ hx)
  have hs:cB (.nm 0) (.d (.str (bC (cod d)))) [none]=some [some (.d (.str (bC (cod d))))]:=rfl
  have hy:∀ e,cW e st=some (true,st):=λ_=>rfl
  rw [List.map_cons]
  simp only [lcI,hs,hy,h1,h2,Option.bind_some,if_true];rfl
end Own
end
section
set_option maxHeartbeats 1000000
namespace Own
open PySem L2
noncomputable def Lns (n:Nat):Prop:=n=1\/n=2\/n=4\/n=8\/n=16\/n=32\/n=64
theorem ou {st:Sto}{d:D} (h:okV d):bb [some (.d d)] st=some (.d (.bl true),st):=by
 rcases h with rfl | rfl | rfl<;>rfl
theorem eR:∀ f:List D,dJ (f.map λ_=>D.bl true)=some (f.map λ_=>true)
 | []=>rfl
 | d::f=>by rw [List.map_cons,dJ,eR f];rfl
theorem gF:∀ f:List D,(f.map λ_=>true).all id=true
 | []=>rfl
 | d::f=>by rw [List.map_cons,List.all_cons,gF f];rfl
theorem ng {st:Sto}{f:List D} (hf:∀ d ∈ f,okV d) (hl:Lns f.length):ba [.d (.tup f)] st=some (.d (.bl true),st):=by
 have k:lcI (.nm 0) cW bb [none] f st=some (f.map λ_=>D.bl true,st):=iD (λ_=>D.bl true) λd hd=>⟨_,rfl,ou (hf d hd)⟩
 have hz:f.length<=1000000:=by rcases hl with h | h | h | h | h | h | h<;>lia
 have hin:inD (.int (f.length:Nat)) [(.int 1),(.int 2),(.int 4),(.int 8),(.int 16),(.int 32),(.int 64)]=true:=by
  rcases hl with h | h | h | h | h | h | h<;>rw [h]<;>rfl
 have hd:iCB mn (aa (bh (iLc 1 [] (bt (iV 0)) (.nm 0) cW bb)) ah) [some (.d (.tup f))] st=some (.d (.bl true),st):=by
  refine dh (ai (dv (fY (dH rfl) hz k)) rfl) ?_
  show (dJ (f.map λ_=>D.bl true)).map (λns=>D.bl (ns.all id))=_
  rw [eR,Option.map_some,gF]
 have hl2:iCB cV (aa (iV 0) ah) [some (.d (.tup f))] st=some (.d (.int (f.length:Nat)),st):=rfl
 have ht:eV true [(.int 1),(.int 2),(.int 4),(.int 8),(.int 16),(.int 32),(.int 64)] (iCB cV (aa (iV 0) ah)) [some (.d (.tup f))] st=some (false,st):=by
  have e:∀ z:Int,bJ (.int z)=true:=λ_=>rfl
  simp only [eV,hl2,Option.bind_some,e,if_true,hin];rfl
 have h1:bA (cJ db (iCB fC (aa (iV 0) (aa (iC (.ty "tuple")) ah)))) [some (.d (.tup f))] st=some (false,st):=rfl
 have ho:gy (bA (cJ db (iCB fC (aa (iV 0) (aa (iC (.ty "tuple")) ah))))) (eV true [(.int 1),(.int 2),(.int 4),(.int 8),(.int 16),(.int 32),(.int 64)] (iCB cV (aa (iV 0) ah))) [some (.d (.tup f))] st=some (false,st):=by
  simp only [gy,h1,ht,Option.bind_some];rfl
 exact cm (n:=1) (k:=1) (b:=bw) rfl (bn (gk ho rfl) (cu hd))
theorem kB {st:Sto}{f:List D} (hf:∀ d ∈ f,okV d) (hl:Lns f.length):aw [.d (.str (aA f))] st=some (.d (.tup f),st):=by
 have hz:f.length<=1000000:=by rcases hl with h | h | h | h | h | h | h<;>lia
 have hc:dw (iV 0) [some (.d (.str (aA f))),none] st=some (f.map λd=>D.str (bC (cod d)),st):=by
  have hv:iV 0 [some (.d (.str (aA f))),none] st=some (.d (.str (aA f)),st):=rfl
  simp only [dw,hv,Option.bind_some,kA hf,if_true,ko]
 have s1:ce (.nm 1) (iCB kz (aa (bh (iLc 1 [] (dw (iV 0)) (.nm 0) cW aQ)) ah)) [some (.d (.str (aA f))),none] st=some (.nx [some (.d (.str (aA f))),some (.d (.tup f))] st):=cT (dh (ws:=[.d (.lst f)]) (ai (dv (fY hc (by rw [List.length_map];exact hz) (j9 hf))) rfl) rfl)
 have h1:bA (cJ db (iCB fC (aa (iV 0) (aa (iC (.ty "str")) ah)))) [some (.d (.str (aA f))),none] st=some (false,st):=rfl
 have hi:ao ba (aa (iV 1) ah) [some (.d (.str (aA f))),some (.d (.tup f))] st=some (.d (.bl true),st):=aJ (ws:=[.d (.tup f)]) rfl (ng hf hl)
 have h2:bA (cJ db (ao ba (aa (iV 1) ah))) [some (.d (.str (aA f))),some (.d (.tup f))] st=some (false,st):=by
  simp only [bA,cJ,hi,Option.bind_some];rfl
 exact cm (n:=2) (k:=1) (b:=bd) rfl (bn (gk h1 rfl) (bn s1 (bn (gk h2 rfl) (cu rfl))))
end Own
end
section
set_option maxHeartbeats 1000000
namespace Own
open PySem L2
theorem oF {st:Sto}{a b c e g h:Option W}{d:D} (ho:okV d):kW (iV 6) [a,b,c,e,g,h,some (.d d)] st=some (.d (.str (bC (cod d))),st):=by
 rcases ho with rfl | rfl | rfl<;>rfl
theorem kh (f:List D):(aA f).length=f.length:=by
 show ((f.map cod).toArray).size=_
 simp
theorem kN (f:List D) (d:D):aA f++bC (cod d)=aA (f++[d]):=by
 show (⟨(f.map cod).toArray++#[cod d]⟩:Str)=⟨((f++[d]).map cod).toArray⟩
 congr 1
 simp
theorem eP {st:Sto}{a b c e g:Option W}:∀ (f pre:List D) (x:Option W),(∀ d ∈ f,okV d)->pre.length+f.length<=64->
  ∃ y,dF (.nm 6) fI f [a,b,c,e,g,some (.d (.str (aA pre))),x] st=some (.nx [a,b,c,e,g,some (.d (.str (aA (pre++f)))),y] st)
 | [],pre,x,_,_=>⟨x,by rw [List.append_nil];rfl⟩
 | d::f,pre,x,hf,hl=>by
  rw [List.length_cons] at hl
  obtain⟨y,hy⟩:=eP (st:=st) (a:=a) (b:=b) (c:=c) (e:=e) (g:=g) f (pre++[d]) (some (.d d)) (λz hz=>hf z (List.mem_cons_of_mem _ hz)) (by rw [List.length_append];simp;lia)
  refine⟨y,?_⟩
  rw [List.append_assoc,List.singleton_append] at hy
  rw [<-hy]
  have hs:cB (.nm 6) (.d d) [a,b,c,e,g,some (.d (.str (aA pre))),x]=some [a,b,c,e,g,some (.d (.str (aA pre))),some (.d d)]:=rfl
  have hb:fI [a,b,c,e,g,some (.d (.str (aA pre))),some (.d d)] st=some (.nx [a,b,c,e,g,some (.d (.str (aA (pre++[d])))),some (.d d)] st):=by
   refine cT (dM rfl (oF (hf d List.mem_cons_self)) ?_)
   have h1:(aA pre).length+(bC (cod d)).length<=1000000:=by rw [kh];show pre.length+1<=_;lia
   show (if (aA pre).length+(bC (cod d)).length<=1000000 then some (D.str (aA pre++bC (cod d))) else none)=_
   rw [if_pos h1,kN]
  rw [dF,hs,Option.bind_some,hb];rfl
theorem eX {g:Nat->List Nat}:∀ (l:List Nat) (a:Array Nat),(∀ c ∈ l,(g c).length<=10)->(List.foldl (λout c=>out++(g c).toArray) a l).size<=a.size+10*l.length
 | [],a,_=>by simp
 | c::l,a,h=>by
  rw [List.foldl_cons]
  have h1:=eX l (a++(g c).toArray) λx hx=>h x (List.mem_cons_of_mem _ hx)
  have h2:=h c List.mem_cons_self
  have h3:(g c).toArray.size=(g c).length:=List.size_toArray ..
  rw [Array.size_append,h3] at h1
  rw [List.length_cons];lia
theorem jE {f:List D} (hf:∀ d ∈ f,okV d) (hl:f.length<=64):(PySem.reprText (aA f)).length<=sizeLine:=by
 have hq:PySem.reprQuote (aA f)=34\/PySem.reprQuote (aA f)=39:=by
  unfold PySem.reprQuote
  split
  ·exact .inl rfl
  ·exact .inr rfl
 have hc:∀ c ∈ f.map cod,(PySem.Builtin.Str.reprChar (PySem.reprQuote (aA f)) c).length<=10:=by
  intro c hc
  obtain⟨d,hd,rfl⟩:=List.mem_map.mp hc
  rcases hq with q | q<;>rw [q]<;>rcases hf d hd with rfl | rfl | rfl<;>decide
 have h1:=eX (f.map cod) #[PySem.reprQuote (aA f)] hc
 show ((Array.foldl (λout c=>out++(PySem.Builtin.Str.reprChar (PySem.reprQuote (aA f)) c).toArray) #[PySem.reprQuote (aA f)] (f.map cod).toArray).push (PySem.reprQuote (aA f))).size<=sizeLine
 rw [Array.size_push,List.foldl_toArray]
 rw [List.length_map] at h1
 have h2:(#[PySem.reprQuote (aA f)]:Array Nat).size=1:=rfl
 have h3:1000<=sizeLine:=by decide
 rw [h2] at h1
 lia
theorem jU {st:Sto}{f:List D} (hf:∀ d ∈ f,okV d) (hl:f.length<=64):au [.d (.str (aA f)),.d (.str (aA f))] st=some (.d (.bl true),st):=by
 have h:dA st [.d (.str (aA f))]=some (.str (PySem.reprText (aA f))):=by
  show (if (PySem.reprText (aA f)).length<=sizeLine then some (D.str (PySem.reprText (aA f))) else none)=_
  rw [if_pos (jE hf hl)]
 refine cm (n:=2) (k:=2) (b:=bE) rfl (cu (dM (dh (ws:=[.d (.str (aA f))]) rfl h) (dh (ws:=[.d (.str (aA f))]) rfl h) ?_))
 generalize PySem.reprText (aA f)=z
 show dEq st (.d (.str z)) (.d (.str z))=_
 simp [dEq,gw,eqK,eqD]
end Own
end
section
set_option maxHeartbeats 1000000
namespace Own
open PySem L2
theorem jP {st:Sto}{f:List D} (hf:∀ d ∈ f,okV d) (hl:f.length<=64):au [.d (.tup f),.d (.tup f)] st=some (.d (.bl true),st):=by
 have hp:f.all d8=true:=List.all_eq_true.mpr λd hd=>by rcases hf d hd with rfl | rfl | rfl<;>rfl
 have h:dA st [.d (.tup f)]=some (.str (dg (f.map vOf))):=by
  show (if f.all d8=true/\f.length<=1000 then some (D.str (dg (f.map vOf))) else none)=_
  rw [if_pos ⟨hp,by lia⟩]
 refine cm (n:=2) (k:=2) (b:=bE) rfl (cu (dM (dh (ws:=[.d (.tup f)]) rfl h) (dh (ws:=[.d (.tup f)]) rfl h) ?_))
 generalize dg (f.map vOf)=z
 show dEq st (.d (.str z)) (.d (.str z))=_
 simp [dEq,gw,eqK,eqD]
theorem iW {st:Sto}{h:Nat}{N:Int} (hh:cN st h) (n0:0<=N) (n1:N<=64):∃ f st',(∀ d ∈ f,okV d)/\f.length=N.toNat/\Stp h st st'/\bW [.h h,.d (.int N)] st=some (.d (.tup f),st'):=by
 obtain⟨few,s1,f0,f1,t1,e1⟩:=d0 hh (m:=2) (by decide) (by decide)
 obtain⟨ys,s2,hL,hl,hv,t2⟩:=fL (g:=.nm 0) (tt:=cW) (te:=cA) (env:=[none,some (.h h),some (.d (.int few))]) (ds:=er 0 N.toNat) (λi ys s=>ys.length=i/\(∀ d ∈ ys,okV d)/\Stp h st s) (st:=s1) (ys0:=[]) ⟨rfl,λd hd=>(nomatch hd),t1⟩ (by
  rintro i d ys s hd ⟨hl,hv,t⟩
  obtain⟨r,s',r0,r1,t',e'⟩:=d0 t.hand (m:=4+few) (by lia) (by lia)
  have hat:∃ x,atI [D.int 1,.int 0,.int 1,.int 0,.non] r=some x/\okV x:=by
   have:r=0\/r=1\/r=2\/r=3\/r=4:=by lia
   rcases this with rfl | rfl | rfl | rfl | rfl
   ·exact⟨_,rfl,.inr (.inr rfl)⟩
   ·exact⟨_,rfl,.inr (.inl rfl)⟩
   ·exact⟨_,rfl,.inr (.inr rfl)⟩
   ·exact⟨_,rfl,.inr (.inl rfl)⟩
   ·exact⟨_,rfl,.inl rfl⟩
  obtain⟨x,hx,vx⟩:=hat
  refine⟨_,rfl,.inl ⟨s,x,s',rfl,dM (x:=.d (.lst [.int 1,.int 0,.int 1,.int 0,.non])) rfl (aJ (ai rfl (ai rfl rfl)) e') hx,by rw [List.length_append,hl];rfl,λy hy=>?_,t.trans t'⟩⟩
  rcases List.mem_append.mp hy with hy | hy
  ·exact hv y hy
  ·rw [List.mem_singleton.mp hy];exact vx)
 rw [List.nil_append] at hl hv
 rw [eE] at hl
 have hz:(er 0 N.toNat).length<=1000000:=by rw [eE];lia
 exact⟨ys,s2,hv,hl,t2,cm (n:=3) (k:=2) (b:=bv) rfl (bn (cT (aJ rfl e1)) (cu (dh (ai (dv (fY (i5 rfl n0 (by lia) rfl) hz hL)) rfl) rfl)))⟩
theorem jj {n:Nat} (h:Lns n):n<=64:=by rcases h with h | h | h | h | h | h | h<;>lia
theorem gW {st:Sto}{a b c e x5 x6:Option W}{f:List D} (hf:∀ d ∈ f,okV d) (hl:Lns f.length) :
  ∃ y5 y6,fm [a,b,c,e,some (.d (.tup f)),x5,x6] st=some (.nx [a,b,c,e,some (.d (.tup f)),y5,y6] st):=by
 have hl6:=jj hl
 obtain⟨y,hy⟩:=eP (st:=st) (a:=a) (b:=b) (c:=c) (e:=e) (g:=some (.d (.tup f))) f [] x6 hf (by simpa using hl6)
 rw [List.nil_append] at hy
 have h0:aA []=("" : Str):=rfl
 rw [h0] at hy
 have s1:=lb (st:=st) hf hl6
 have s2:=kB (st:=st) hf hl
 have s3:=jU (st:=st) hf hl6
 have s4:=jP (st:=st) hf hl6
 refine⟨some (.d (.str (aA f))),y,?_⟩
 generalize aA f=z at *
 generalize hE:[a,b,c,e,some (W.d (.tup f)),some (.d (.str z)),y]=E at *
 have v4:iV 4 E st=some (.d (.tup f),st):=by rw [<-hE];rfl
 have v5:iV 5 E st=some (.d (.str z),st):=by rw [<-hE];rfl
 have c1:ao au (aa (ao az (aa (iV 4) ah)) (aa (iV 5) ah)) E st=some (.d (.bl true),st):=aJ (ai (aJ (ai v4 rfl) s1) (ai v5 rfl)) s3
 have c2:ao au (aa (ao aw (aa (iV 5) ah)) (aa (iV 4) ah)) E st=some (.d (.bl true),st):=aJ (ai (aJ (ai v5 rfl) s2) (ai v4 rfl)) s4
 have c3:ao au (aa (ao aw (aa (ao az (aa (iV 4) ah)) ah)) (aa (iV 4) ah)) E st=some (.d (.bl true),st):=aJ (ai (aJ (ai (aJ (ai v4 rfl) s1) rfl) s2) (ai v4 rfl)) s4
 have nt:∀ g:Ef,g E st=some (.d (.bl true),st)->bA (cJ db g) E st=some (false,st):=λg hg=>by simp only [bA,cJ,hg,Option.bind_some];rfl
 have ho:gy (bA (cJ db (ao au (aa (ao az (aa (iV 4) ah)) (aa (iV 5) ah))))) (bA (cJ db (ao au (aa (ao aw (aa (iV 5) ah)) (aa (iV 4) ah))))) E st=some (false,st):=by
  simp only [gy,nt _ c1,nt _ c2,Option.bind_some];rfl
 refine bn (cT rfl) (bn (fu (dH rfl) hy) (bn (gk ho rfl) (gk (nt _ c3) rfl)))
end Own
end
section
set_option maxHeartbeats 1000000
namespace Own
open PySem L2
theorem km {st:Sto}{n:Nat}{ds:List D} (h:cN st n) (h0:ds≠[]) (h1:ds.length < 1000000):∃ d st',d ∈ ds/\Stp n st st'/\aR [.h n,.d (.lst ds)] st=some (.d d,st'):=by
 have hp:0 < ds.length:=List.length_pos_iff.mpr h0
 obtain⟨r,s1,r0,r1,t1,e1⟩:=d0 h (m:=(ds.length:Int)) (by lia) (by lia)
 obtain⟨j,rfl⟩:=Int.eq_ofNat_of_zero_le r0
 have hj:j < ds.length:=by lia
 have e2:atI ds (j:Int)=some ds[j]:=dr (List.getElem?_eq_getElem hj)
 refine⟨ds[j],s1,List.getElem_mem hj,t1,?_⟩
 simp only [aR,bU,iV,iOp,ah,aa,iCB,ao,bH,bY,du,dIx,cV,Option.bind_some,Option.map_some,List.getD_cons_zero,List.getD_cons_succ,List.map_cons,List.map_nil,List.length_cons,List.length_nil,List.replicate_zero,List.cons_append,List.nil_append,Nat.reduceAdd,Nat.reduceSub,if_true,Nat.zero_add,lg,e1,e2]
theorem oH {j:Int} (h0:0<=j) (h1:j < 7) (st:Sto):∃ N:Int,0<=N/\N<=64/\Lns N.toNat/\ld st (.d (.int 1)) (.d (.int j))=some (.int N):=by
 have:j=0\/j=1\/j=2\/j=3\/j=4\/j=5\/j=6:=by lia
 unfold Lns
 rcases this with rfl | rfl | rfl | rfl | rfl | rfl | rfl
 ·exact⟨1,by decide,by decide,by decide,rfl⟩
 ·exact⟨2,by decide,by decide,by decide,rfl⟩
 ·exact⟨4,by decide,by decide,by decide,rfl⟩
 ·exact⟨8,by decide,by decide,by decide,rfl⟩
 ·exact⟨16,by decide,by decide,by decide,rfl⟩
 ·exact⟨32,by decide,by decide,by decide,rfl⟩
 ·exact⟨64,by decide,by decide,by decide,rfl⟩
theorem io (d:D):∀ n:Nat,((List.replicate n [d]).flatten).length=n
 | 0=>rfl
 | n+1=>by rw [List.replicate_succ,List.flatten_cons,List.length_append,io d n];simp;lia
theorem jt {d:D} (h:okV d):∀ n:Nat,∀ x ∈ (List.replicate n [d]).flatten,okV x
 | 0,x,hx=>nomatch hx
 | n+1,x,hx=>by
  rw [List.replicate_succ,List.flatten_cons] at hx
  rcases List.mem_append.mp hx with z | z
  ·rw [List.mem_singleton.mp z];exact h
  ·exact jt h n x z
theorem jF {st:Sto}{a b c e x4 x5 x6:Option W}{f g:List D} (hf:∀ d ∈ f,okV d) (lf:Lns f.length) (hg:∀ d ∈ g,okV d) (lg':Lns g.length) :
  ∃ y4 y5 y6,dF (.nm 4) fm [.tup f,.tup g,.tup f] [a,b,c,e,x4,x5,x6] st=some (.nx [a,b,c,e,y4,y5,y6] st):=by
 obtain⟨p5,p6,hp⟩:=gW (st:=st) (a:=a) (b:=b) (c:=c) (e:=e) (x5:=x5) (x6:=x6) hf lf
 obtain⟨q5,q6,hq⟩:=gW (st:=st) (a:=a) (b:=b) (c:=c) (e:=e) (x5:=p5) (x6:=p6) hg lg'
 obtain⟨r5,r6,hr⟩:=gW (st:=st) (a:=a) (b:=b) (c:=c) (e:=e) (x5:=q5) (x6:=q6) hf lf
 have t:∀ (z:List D) (u4 u5 u6:Option W),cB (.nm 4) (.d (.tup z)) [a,b,c,e,u4,u5,u6]=some [a,b,c,e,some (.d (.tup z)),u5,u6]:=λ_ _ _ _=>rfl
 refine⟨some (.d (.tup f)),r5,r6,?_⟩
 simp only [dF,t,hp,hq,hr,Option.bind_some]
theorem jp (ns:List Int) (hl:ns.length<=63):∃ st,gx [.d (.scr ns)] []=some (.d (.bl true),st):=by
 have hz:∃ z:Int,0<=z/\z<=1000/\∀ st,iOp cK (iC (.int 1)) (iCB lw (aa (iC (.int 12)) (aa (iCB cV (aa (iV 0) ah)) ah))) [some (.d (.scr ns)),none,none,none,none,none,none] st=some (.d (.int z),st):=
  ⟨_,(by show (0:Int)<=1+(if (((ns.map D.int).length:Nat):Int) < 12 then (((ns.map D.int).length:Nat):Int) else 12);rw [List.length_map];split<;>lia),(by show 1+(if (((ns.map D.int).length:Nat):Int) < 12 then (((ns.map D.int).length:Nat):Int) else 12)<=1000;rw [List.length_map];split<;>lia),λ_=>rfl⟩
 obtain⟨z,z0,z1,hz⟩:=hz
 obtain⟨env',st',hF,_⟩:=gO (g:=.nm 1) (body:=ir) (ds:=er 0 z.toNat) (λ_ env _=>∃ x1 x2 x3 x4 x5 x6,env=[some (.d (.scr ns)),x1,x2,x3,x4,x5,x6]) (env:=[some (.d (.scr ns)),none,none,none,none,none,none]) (st:=[]) ⟨_,_,_,_,_,_,rfl⟩ (by
  rintro i d env st hd ⟨x1,x2,x3,x4,x5,x6,rfl⟩
  rw [gI] at hd
  split at hd
  case isFalse=>cases hd
  cases hd
  have hi0:(0:Int)+(i:Int)=(i:Int):=by lia
  rw [hi0]
  obtain⟨x,y,hx,e1⟩:=kd (st:=st) (ns:=ns) (k:=i)
  have hh:cN (st++[.l [.int x,.int y,.int 0]]) st.length:=⟨x,y,0,hx,by simp⟩
  obtain⟨j,s2,j0,j1,t2,e2⟩:=d0 hh (m:=7) (by decide) (by decide)
  obtain⟨N,n0,n1,hN,e3⟩:=oH j0 j1 s2
  obtain⟨f,s3,hf,lf,t3,e4⟩:=iW t2.hand n0 n1
  obtain⟨v,s4,hv,t4,e5⟩:=km (ds:=[.int 0,.int 1,.non]) t3.hand (by simp) (by decide)
  rw [<-lf] at hN
  have h64:=jj hN
  have h1:1<=f.length:=by rcases hN with h | h | h | h | h | h | h<;>lia
  have ov:okV v:=by
   simp only [List.mem_cons,List.not_mem_nil,or_false] at hv
   rcases hv with rfl | rfl | rfl
   ·exact .inr (.inl rfl)
   ·exact .inr (.inr rfl)
   ·exact .inl rfl
  have e6:bX s4 (.d (.tup [v])) (.d (.int (f.length:Nat)))=some (.tup (List.replicate f.length [v]).flatten):=by
   show (if [v]≠[]/\[v].length<=1000/\1<=((f.length:Nat):Int)/\((f.length:Nat):Int) < 1000 then some (D.tup (List.replicate ((f.length:Nat):Int).toNat [v]).flatten) else none)=_
   rw [if_pos ⟨by simp,by simp,by lia,by lia⟩,Int.toNat_natCast]
  have hg:=jt ov f.length
  have lg':Lns (List.replicate f.length [v]).flatten.length:=by rw [io];exact hN
  generalize (List.replicate f.length [v]).flatten=g at *
  obtain⟨y4,y5,y6,h3⟩:=jF (st:=s4) (a:=some (.d (.scr ns))) (b:=some (.d (.int (i:Int)))) (c:=some (.h st.length)) (e:=some (.d (.tup f))) (x4:=x4) (x5:=x5) (x6:=x6) hf hN hg lg'
  have hL:bt (bh (dz (aa (iV 3) (aa (iOp bX (e8 (aa (ao aR (aa (iV 2) (aa (bh (dz (aa (iC (.int 0)) (aa (iC (.int 1)) (aa (iC .non) ah))))) ah))) ah)) (iCB cV (aa (iV 3) ah))) (aa (iV 3) ah))))) [some (.d (.scr ns)),some (.d (.int (i:Int))),some (.h st.length),some (.d (.tup f)),x4,x5,x6] s3=some ([.tup f,.tup g,.tup f],s4):=by
   have p:ao aR (aa (iV 2) (aa (bh (dz (aa (iC (.int 0)) (aa (iC (.int 1)) (aa (iC .non) ah))))) ah)) [some (.d (.scr ns)),some (.d (.int (i:Int))),some (.h st.length),some (.d (.tup f)),x4,x5,x6] s3=some (.d v,s4):=aJ rfl e5
   have p2:e8 (aa (ao aR (aa (iV 2) (aa (bh (dz (aa (iC (.int 0)) (aa (iC (.int 1)) (aa (iC .non) ah))))) ah))) ah) [some (.d (.scr ns)),some (.d (.int (i:Int))),some (.h st.length),some (.d (.tup f)),x4,x5,x6] s3=some (.d (.tup [v]),s4):=by
    simp only [e8,aa,p,Option.bind_some];rfl
   have p3:=dM (g:=bX) p2 (show iCB cV (aa (iV 3) ah) [some (.d (.scr ns)),some (.d (.int (i:Int))),some (.h st.length),some (.d (.tup f)),x4,x5,x6] s4=some (.d (.int (f.length:Nat)),s4) from rfl) e6
   have hA:=ai (a:=iV 3) (env:=[some (.d (.scr ns)),some (.d (.int (i:Int))),some (.h st.length),some (.d (.tup f)),x4,x5,x6]) (st:=s3) (x:=.d (.tup f)) (s1:=s3) rfl (ai p3 (ai (a:=iV 3) (x:=.d (.tup f)) (s1:=s4) rfl (show ah _ s4=some ([],s4) from rfl)))
   simp only [bt,bh,dz,hA,Option.bind_some];rfl
  exact⟨_,_,_,rfl,.inl (bn (cT (aJ rfl e1)) (bn (cT (aJ (ai rfl (ai (dM rfl (aJ rfl e2) e3) rfl)) e4)) (fu hL h3))),_,_,_,_,_,_,rfl⟩)
 exact⟨_,jR (n:=7) (k:=1) (b:=iu) rfl (bn (fu (i5 (hz []) z0 z1 rfl) hF) (cu rfl))⟩
end Own
end
namespace Own
open PySem L2
theorem iR {us:List Value} (h:us.length=1):∃ a0,us=[a0]:=match us,h with | [a0],_=>⟨a0,rfl⟩
theorem jb {us:List Value} (h:us.length=2):∃ a0 a1,us=[a0,a1]:=match us,h with | [a0,a1],_=>⟨a0,a1,rfl⟩
theorem oM {us:List Value} (h:us.length=3):∃ a0 a1 a2,us=[a0,a1,a2]:=match us,h with | [a0,a1,a2],_=>⟨a0,a1,a2,rfl⟩
theorem txt_mk {P:Program}{w:World}{K:PySem.W.Frag}{h:Heap}{mg:Str->Option Value} (X:K.In h) (G:h.Ns mainGlobals mg)
  {f0:Addr}{od0 an0:Option Addr}{sl0:Array (Option Value)}{oc0 kV0 dc0 pm0 cd0 ct0:Value}
  (a0:PySem.W.nsIn K mainGlobals "show_function" = some (some (.ref f0))) (l0:K.lookup f0=some ⟨oc0,od0,.func (PySem.W.fnOf "show_function" "show_function" (aM aq) (av aq) (ac aq) .none kV0 dc0 pm0 an0 cd0 ct0),sl0⟩) (c0:PySem.W.codeIn K cd0 "show_function" = true) (k0:PySem.W.keepIn K (.ref f0)=true)
  {f1:Addr}{od1 an1:Option Addr}{sl1:Array (Option Value)}{oc1 kV1 dc1 pm1 cd1 ct1:Value}
  (a1:PySem.W.nsIn K mainGlobals "is_whole" = some (some (.ref f1))) (l1:K.lookup f1=some ⟨oc1,od1,.func (PySem.W.fnOf "is_whole" "is_whole" (aM bf) (av bf) (ac bf) .none kV1 dc1 pm1 an1 cd1 ct1),sl1⟩) (c1:PySem.W.codeIn K cd1 "is_whole" = true) (k1:PySem.W.keepIn K (.ref f1)=true)
  {f2:Addr}{od2 an2:Option Addr}{sl2:Array (Option Value)}{oc2 kV2 dc2 pm2 cd2 ct2:Value}
  (a2:PySem.W.nsIn K mainGlobals "is_within" = some (some (.ref f2))) (l2:K.lookup f2=some ⟨oc2,od2,.func (PySem.W.fnOf "is_within" "is_within" (aM aS) (av aS) (ac aS) .none kV2 dc2 pm2 an2 cd2 ct2),sl2⟩) (c2:PySem.W.codeIn K cd2 "is_within" = true) (k2:PySem.W.keepIn K (.ref f2)=true)
  {f3:Addr}{od3 an3:Option Addr}{sl3:Array (Option Value)}{oc3 kV3 dc3 pm3 cd3 ct3:Value}
  (a3:PySem.W.nsIn K mainGlobals "is_function" = some (some (.ref f3))) (l3:K.lookup f3=some ⟨oc3,od3,.func (PySem.W.fnOf "is_function" "is_function" (aM aB) (av aB) (ac aB) .none kV3 dc3 pm3 an3 cd3 ct3),sl3⟩) (c3:PySem.W.codeIn K cd3 "is_function" = true) (k3:PySem.W.keepIn K (.ref f3)=true)
  {f4:Addr}{od4 an4:Option Addr}{sl4:Array (Option Value)}{oc4 kV4 dc4 pm4 cd4 ct4:Value}
  (a4:PySem.W.nsIn K mainGlobals "value_by" = some (some (.ref f4))) (l4:K.lookup f4=some ⟨oc4,od4,.func (PySem.W.fnOf "value_by" "value_by" (aM bg) (av bg) (ac bg) .none kV4 dc4 pm4 an4 cd4 ct4),sl4⟩) (c4:PySem.W.codeIn K cd4 "value_by" = true) (k4:PySem.W.keepIn K (.ref f4)=true)
  {f5:Addr}{od5 an5:Option Addr}{sl5:Array (Option Value)}{oc5 kV5 dc5 pm5 cd5 ct5:Value}
  (a5:PySem.W.nsIn K mainGlobals "read_function" = some (some (.ref f5))) (l5:K.lookup f5=some ⟨oc5,od5,.func (PySem.W.fnOf "read_function" "read_function" (aM ap) (av ap) (ac ap) .none kV5 dc5 pm5 an5 cd5 ct5),sl5⟩) (c5:PySem.W.codeIn K cd5 "read_function" = true) (k5:PySem.W.keepIn K (.ref f5)=true)
  {f6:Addr}{od6 an6:Option Addr}{sl6:Array (Option Value)}{oc6 kV6 dc6 pm6 cd6 ct6:Value}
  (a6:PySem.W.nsIn K mainGlobals "_law_hand" = some (some (.ref f6))) (l6:K.lookup f6=some ⟨oc6,od6,.func (PySem.W.fnOf "_law_hand" "_law_hand" (aM aT) (av aT) (ac aT) .none kV6 dc6 pm6 an6 cd6 ct6),sl6⟩) (c6:PySem.W.codeIn K cd6 "_law_hand" = true) (k6:PySem.W.keepIn K (.ref f6)=true)
  {f7:Addr}{od7 an7:Option Addr}{sl7:Array (Option Value)}{oc7 kV7 dc7 pm7 cd7 ct7:Value}
  (a7:PySem.W.nsIn K mainGlobals "_law_take" = some (some (.ref f7))) (l7:K.lookup f7=some ⟨oc7,od7,.func (PySem.W.fnOf "_law_take" "_law_take" (aM aW) (av aW) (ac aW) .none kV7 dc7 pm7 an7 cd7 ct7),sl7⟩) (c7:PySem.W.codeIn K cd7 "_law_take" = true) (k7:PySem.W.keepIn K (.ref f7)=true)
  {f8:Addr}{od8 an8:Option Addr}{sl8:Array (Option Value)}{oc8 kV8 dc8 pm8 cd8 ct8:Value}
  (a8:PySem.W.nsIn K mainGlobals "_law_pick" = some (some (.ref f8))) (l8:K.lookup f8=some ⟨oc8,od8,.func (PySem.W.fnOf "_law_pick" "_law_pick" (aM aV) (av aV) (ac aV) .none kV8 dc8 pm8 an8 cd8 ct8),sl8⟩) (c8:PySem.W.codeIn K cd8 "_law_pick" = true) (k8:PySem.W.keepIn K (.ref f8)=true)
  {f9:Addr}{od9 an9:Option Addr}{sl9:Array (Option Value)}{oc9 kV9 dc9 pm9 cd9 ct9:Value}
  (a9:PySem.W.nsIn K mainGlobals "_law_values" = some (some (.ref f9))) (l9:K.lookup f9=some ⟨oc9,od9,.func (PySem.W.fnOf "_law_values" "_law_values" (aM aC) (av aC) (ac aC) .none kV9 dc9 pm9 an9 cd9 ct9),sl9⟩) (c9:PySem.W.codeIn K cd9 "_law_values" = true) (k9:PySem.W.keepIn K (.ref f9)=true)
  {f10:Addr}{od10 an10:Option Addr}{sl10:Array (Option Value)}{oc10 kV10 dc10 pm10 cd10 ct10:Value}
  (a10:PySem.W.nsIn K mainGlobals "_law_same" = some (some (.ref f10))) (l10:K.lookup f10=some ⟨oc10,od10,.func (PySem.W.fnOf "_law_same" "_law_same" (aM aU) (av aU) (ac aU) .none kV10 dc10 pm10 an10 cd10 ct10),sl10⟩) (c10:PySem.W.codeIn K cd10 "_law_same" = true) (k10:PySem.W.keepIn K (.ref f10)=true)
  {f11:Addr}{od11 an11:Option Addr}{sl11:Array (Option Value)}{oc11 kV11 dc11 pm11 cd11 ct11:Value}
  (a11:PySem.W.nsIn K mainGlobals "law" = some (some (.ref f11))) (l11:K.lookup f11=some ⟨oc11,od11,.func (PySem.W.fnOf "law" "law" (aM ez) (av ez) (ac ez) .none kV11 dc11 pm11 an11 cd11 ct11),sl11⟩) (c11:PySem.W.codeIn K cd11 "law" = true) (k11:PySem.W.keepIn K (.ref f11)=true)
  (z_abs:PySem.W.nsIn K mainGlobals "abs" = some none)
  (z_all:PySem.W.nsIn K mainGlobals "all" = some none)
  (z_bool:PySem.W.nsIn K mainGlobals "bool" = some none)
  (z_int:PySem.W.nsIn K mainGlobals "int" = some none)
  (z_isinstance:PySem.W.nsIn K mainGlobals "isinstance" = some none)
  (z_len:PySem.W.nsIn K mainGlobals "len" = some none)
  (z_min:PySem.W.nsIn K mainGlobals "min" = some none)
  (z_range:PySem.W.nsIn K mainGlobals "range" = some none)
  (z_repr:PySem.W.nsIn K mainGlobals "repr" = some none)
  (z_str:PySem.W.nsIn K mainGlobals "str" = some none)
  (z_tuple:PySem.W.nsIn K mainGlobals "tuple" = some none)
  {ga_LENGTHS:Addr}{ob_LENGTHS:Obj} (ga_LENGTHS_:PySem.W.nsIn K mainGlobals "LENGTHS" = some (some (.ref ga_LENGTHS))) (gl_LENGTHS:K.lookup ga_LENGTHS=some ob_LENGTHS) (gq_LENGTHS:fz [(.int 1),(.int 2),(.int 4),(.int 8),(.int 16),(.int 32),(.int 64)] ob_LENGTHS=true)
  {ga_VALUES:Addr}{ob_VALUES:Obj} (ga_VALUES_:PySem.W.nsIn K mainGlobals "VALUES" = some (some (.ref ga_VALUES))) (gl_VALUES:K.lookup ga_VALUES=some ob_VALUES) (gq_VALUES:(ga_VALUES==sysModules)=false/\∃ vs,Obj.IsDictOf (bp P w) ob_VALUES vs/\KPs [("1",(.int 1)),("0",(.int 0)),("-",.non)] vs)
  : ∃ t,Txt P w K mg t/\t.f11=f11:=by
 have F0:=bG (st:=aq) l0 c0 k0
 have F1:=bG (st:=bf) l1 c1 k1
 have F2:=bG (st:=aS) l2 c2 k2
 have F3:=bG (st:=aB) l3 c3 k3
 have F4:=bG (st:=bg) l4 c4 k4
 have F5:=bG (st:=ap) l5 c5 k5
 have F6:=bG (st:=aT) l6 c6 k6
 have F7:=bG (st:=aW) l7 c7 k7
 have F8:=bG (st:=aV) l8 c8 k8
 have F9:=bG (st:=aC) l9 c9 k9
 have F10:=bG (st:=aU) l10 c10 k10
 have F11:=bG (st:=ez) l11 c11 k11
 refine⟨⟨f0,_,f1,_,f2,_,f3,_,f4,_,f5,_,f6,_,f7,_,f8,_,f9,_,f10,_,f11,_,ga_LENGTHS,ga_VALUES⟩,⟨F0,PySem.W.mg_of X G a0,F0.binds λ_ _ _ _ _ _ us hl=>(by obtain⟨_,rfl⟩:=iR hl;rfl),F1,PySem.W.mg_of X G a1,F1.binds λ_ _ _ _ _ _ us hl=>(by obtain⟨_,rfl⟩:=iR hl;rfl),F2,PySem.W.mg_of X G a2,F2.binds λ_ _ _ _ _ _ us hl=>(by obtain⟨_,_,_,rfl⟩:=oM hl;rfl),F3,PySem.W.mg_of X G a3,F3.binds λ_ _ _ _ _ _ us hl=>(by obtain⟨_,rfl⟩:=iR hl;rfl),F4,PySem.W.mg_of X G a4,F4.binds λ_ _ _ _ _ _ us hl=>(by obtain⟨_,rfl⟩:=iR hl;rfl),F5,PySem.W.mg_of X G a5,F5.binds λ_ _ _ _ _ _ us hl=>(by obtain⟨_,rfl⟩:=iR hl;rfl),F6,PySem.W.mg_of X G a6,F6.binds λ_ _ _ _ _ _ us hl=>(by obtain⟨_,_,rfl⟩:=jb hl;rfl),F7,PySem.W.mg_of X G a7,F7.binds λ_ _ _ _ _ _ us hl=>(by obtain⟨_,_,rfl⟩:=jb hl;rfl),F8,PySem.W.mg_of X G a8,F8.binds λ_ _ _ _ _ _ us hl=>(by obtain⟨_,_,rfl⟩:=jb hl;rfl),F9,PySem.W.mg_of X G a9,F9.binds λ_ _ _ _ _ _ us hl=>(by obtain⟨_,_,rfl⟩:=jb hl;rfl),F10,PySem.W.mg_of X G a10,F10.binds λ_ _ _ _ _ _ us hl=>(by obtain⟨_,_,rfl⟩:=jb hl;rfl),F11,PySem.W.mg_of X G a11,F11.binds λ_ _ _ _ _ _ us hl=>(by obtain⟨_,rfl⟩:=iR hl;rfl),PySem.W.mg_none_of X G z_abs,PySem.W.mg_none_of X G z_all,PySem.W.mg_none_of X G z_bool,PySem.W.mg_none_of X G z_int,PySem.W.mg_none_of X G z_isinstance,PySem.W.mg_none_of X G z_len,PySem.W.mg_none_of X G z_min,PySem.W.mg_none_of X G z_range,PySem.W.mg_none_of X G z_repr,PySem.W.mg_none_of X G z_str,PySem.W.mg_none_of X G z_tuple,PySem.W.mg_of X G ga_LENGTHS_,mR gl_LENGTHS gq_LENGTHS,PySem.W.mg_of X G ga_VALUES_,let ⟨a,vs,b,c⟩:=gq_VALUES;⟨a,_,vs,gl_VALUES,b,c⟩⟩,rfl⟩
theorem txt_ex {P:Program}{w:World}{K:PySem.W.Frag}{mg:Str->Option Value}{f:Addr} (h:∃ t,Txt P w K mg t/\t.f11=f):∃ t,Txt P w K mg t:=let ⟨t,a,_⟩:=h;⟨t,a⟩
theorem walk {l:PySem.W.OpenLaw}{q:Program}{loose:List Str}{XP:(Str->Option Value)->Heap->Prop}{YP:World->Heap->Prop}{d:DefRec}{K:Params->PySem.W.Frag} (hn:l.most=some 63) (hdf:d.params.defaults=[])
  (hY:∀ (w:World) (h:Heap),YP w h->(K w.params).In h)
  (F:∀ (w:World) (mg:Str->Option Value) (fa:Addr) (h:Heap),(K w.params).In h->h.Ns mainGlobals mg->mg d.name=some (.ref fa)->
    ∃ fd:FuncData,(∀ (s:Shared) (u:Value),BindsTo s fd ⟨[u],[]⟩ [("_law_script",u)])/\∀ base:Heap,(K w.params).In base->base.Ns mainGlobals mg->bD l.prog w (K w.params) mg base CX0 5 fa fd ["_law_script"] (spI (K w.params) gx)) :
  PySem.W.WalkO q loose XP YP l.row.toRowW d [] (λf vs=>PySem.call f vs):=
 L2.walk_of (n:=63) (k:=5) (x:="_law_script") (CX:=λ_=>CX0) (sp:=λw=>spI (K w.params) gx) hn (by decide) hdf ⟨rfl,by decide,by decide,rfl⟩ hY F (λ_ _ a ns hl hO hS=>kK hO hS (jp ns hl)) λ_ _ _ _ _ z=>z
theorem law_mk {l:PySem.W.OpenLaw}{w:World}{K:PySem.W.Frag}{h:Heap}{mg:Str->Option Value}{fa:Addr} (hfa:mg "law" = some (.ref fa)) (T0:∃ t,Txt l.prog w K mg t) :
  ∃ fd:FuncData,(∀ (s:Shared) (v:Value),BindsTo s fd ⟨[v],[]⟩ [("_law_script",v)])/\∀ base:Heap,K.In base->base.Ns mainGlobals mg->bD l.prog w K mg base CX0 5 fa fd ["_law_script"] (spI K gx):=by
 obtain⟨t,T⟩:=T0
 have e:=hfa.symm.trans T.m11
 cases e
 refine⟨t.g11,λs v=>?_,λbase _ _=>ml T⟩
 obtain⟨oc,od,kV,doc,pm,an,cdv,ct,osl,e,_⟩:=T.F11.ex
 rw [e]
 exact .of_eq rfl
end Own
open PySem PySem.W PyProof.Rows
set_option maxRecDepth 100000 in
set_option maxHeartbeats 0 in
theorem PySem.Challenge.cw_signpoly_k75_functions_written_holds : PySem.Challenge.rw_signpoly_k75_functions_written.Holds := by
 w_on;o_law;k_head;(case hw=>w_witness2)
 k_fill
 refine Own.walk (l:=PySem.Challenge.rw_signpoly_k75_functions_written) rfl rfl (λw h Y=>PySem.W.kIn_of Y) ?F
 case F=>
  intro w mg fa h KX G hmg
  refine Own.law_mk (h:=h) hmg ?T
  case T=>
   refine' Own.txt_ex (Own.txt_mk KX G ?a0 ?l0 ?c0 ?k0 ?a1 ?l1 ?c1 ?k1 ?a2 ?l2 ?c2 ?k2 ?a3 ?l3 ?c3 ?k3 ?a4 ?l4 ?c4 ?k4 ?a5 ?l5 ?c5 ?k5 ?a6 ?l6 ?c6 ?k6 ?a7 ?l7 ?c7 ?k7 ?a8 ?l8 ?c8 ?k8 ?a9 ?l9 ?c9 ?k9 ?a10 ?l10 ?c10 ?k10 ?a11 ?l11 ?c11 ?k11 ?z_abs ?z_all ?z_bool ?z_int ?z_isinstance ?z_len ?z_min ?z_range ?z_repr ?z_str ?z_tuple ?ga_LENGTHS_ ?gl_LENGTHS ?gq_LENGTHS ?ga_VALUES_ ?gl_VALUES ?gq_VALUES)
   case a0=>k_is
   case l0=>k_is
   case c0=>k_is
   case k0=>k_is
   case a1=>k_is
   case l1=>k_is
   case c1=>k_is
   case k1=>k_is
   case a2=>k_is
   case l2=>k_is
   case c2=>k_is
   case k2=>k_is
   case a3=>k_is
   case l3=>k_is
   case c3=>k_is
   case k3=>k_is
   case a4=>k_is
   case l4=>k_is
   case c4=>k_is
   case k4=>k_is
   case a5=>k_is
   case l5=>k_is
   case c5=>k_is
   case k5=>k_is
   case a6=>k_is
   case l6=>k_is
   case c6=>k_is
   case k6=>k_is
   case a7=>k_is
   case l7=>k_is
   case c7=>k_is
   case k7=>k_is
   case a8=>k_is
   case l8=>k_is
   case c8=>k_is
   case k8=>k_is
   case a9=>k_is
   case l9=>k_is
   case c9=>k_is
   case k9=>k_is
   case a10=>k_is
   case l10=>k_is
   case c10=>k_is
   case k10=>k_is
   case a11=>k_is
   case l11=>k_is
   case c11=>k_is
   case k11=>k_is
   case z_abs=>k_is
   case z_all=>k_is
   case z_bool=>k_is
   case z_int=>k_is
   case z_isinstance=>k_is
   case z_len=>k_is
   case z_min=>k_is
   case z_range=>k_is
   case z_repr=>k_is
   case z_str=>k_is
   case z_tuple=>k_is
   case ga_LENGTHS_=>k_is
   case gl_LENGTHS=>k_is
   case gq_LENGTHS=>rfl
   case ga_VALUES_=>k_is
   case gl_VALUES=>k_is
   case gq_VALUES=>exact⟨rfl,L2.kdc_mk (.cons rfl ⟨_,rfl⟩ (.cons rfl ⟨_,rfl⟩ (.cons rfl rfl .nil))) (by decide)⟩
