import PyProof.Rows.All
import Wide.All
import OpenK.AllK
import Wide.FinOn
import Lean
import PyProof.EqAt
import PyProof.EqKinds
import PyProof.TupleCall
import PyProof.ListRange
import PyProof.NeKinds
import KE.KUnpack
import KE.KSortTup
import PyProof.ZipIter
import PyProof.Rows.CallKwBuiltin
import PyProof.SetKind
import PyProof.SetRoads
import KE.KDictList
import PyProof.Rows.SetFrom
import PyProof.WalksMore
import KE.KDictLaws
import PyProof.FactsAll.tuple_0
import PyProof.FactsAll.tuple_2
import PyProof.FactsAll.tuple_3
import PyProof.FactsAll.list_3
import PyProof.Rows.SeqMore
import PyProof.AutoSeq1
import PySem.Challenge.RW_signpoly_k14_sums_and_products
set_option Elab.async false
set_option linter.all false
set_option maxRecDepth 100000
noncomputable section
namespace L2
open PySem PySem.Spec PyProof.Rows
abbrev Key:=Sum Int Str
noncomputable def keyIs:Key->Value->Bool
 | .inl k,v=>Value.isInt k v
 | .inr x,v=>Value.isStrOf x v
noncomputable def keyH (w:World):Key->Int
 | .inl k=>hashInt k
 | .inr x=>hashStr w x
theorem keyIs_shape:∀ {k:Key}{v:Value},keyIs k v=true->(∃ i t,k=Sum.inl i/\v=Value.int i t)∨(∃ x t,k=Sum.inr x/\v=Value.str x t)
 | .inl i,v,h=>by
  obtain⟨t,e⟩:=Value.isInt_shape (k:=i) (v:=v) h
  exact .inl ⟨i,t,rfl,e⟩
 | .inr x,v,h=>by
  obtain⟨t,e⟩:=Value.isStrOf_shape (x:=x) (v:=v) h
  exact .inr ⟨x,t,rfl,e⟩
theorem keyIs_int (i:Int) (t:Tok):keyIs (.inl i) (.int i t)=true:=by simp [keyIs,Value.isInt]
theorem keyIs_str (x:Str) (t:Tok):keyIs (.inr x) (.str x t)=true:=by simp [keyIs,Value.isStrOf]
theorem key_ll (a b:Int):decide ((Sum.inl a:Key)=Sum.inl b)=(a==b):=by
 by_cases e:a=b
 ·subst e;simp
 ·have h:¬ (Sum.inl a:Key)=Sum.inl b:=fun q=>e (Sum.inl.inj q)
  rw [decide_eq_false h]
  exact (beq_eq_false_iff_ne.mpr e).symm
theorem key_rr (a b:Str):decide ((Sum.inr a:Key)=Sum.inr b)=decide (a=b):=by
 by_cases e:a=b
 ·subst e;simp
 ·have h:¬ (Sum.inr a:Key)=Sum.inr b:=fun q=>e (Sum.inr.inj q)
  rw [decide_eq_false h,decide_eq_false e]
theorem key_lr (a:Int) (b:Str):decide ((Sum.inl a:Key)=Sum.inr b)=false:=decide_eq_false (fun q=>nomatch q)
theorem key_rl (a:Str) (b:Int):decide ((Sum.inr a:Key)=Sum.inl b)=false:=decide_eq_false (fun q=>nomatch q)
noncomputable def mixKind (prog:Program) (w:World):PySem.KeyKind prog w Key where
 is:=keyIs
 hash:=keyH w
 inj:=fun v a b ha hb=>by
  rcases keyIs_shape ha with⟨i,t,rfl,rfl⟩ | ⟨x,t,rfl,rfl⟩
  ·rcases keyIs_shape hb with⟨j,u,rfl,e⟩ | ⟨y,u,rfl,e⟩
   ·injection e with e1 _;rw [e1]
   ·exact nomatch e
  ·rcases keyIs_shape hb with⟨j,u,rfl,e⟩ | ⟨y,u,rfl,e⟩
   ·exact nomatch e
   ·injection e with e1 _;rw [e1]
 byValue:=fun k v h=>by
  rcases keyIs_shape h with⟨i,t,rfl,rfl⟩ | ⟨x,t,rfl,rfl⟩<;>rfl
 pyHash:=fun hv h=>by
  rcases keyIs_shape hv with⟨i,t,rfl,rfl⟩ | ⟨x,t,rfl,rfl⟩
  ·exact wpAny_pyHash_int h
  ·exact wpAny_pyHash_str h
 eqBool:=fun hu hv h=>by
  rcases keyIs_shape hu with⟨i,t,rfl,rfl⟩ | ⟨x,t,rfl,rfl⟩
  ·rcases keyIs_shape hv with⟨j,u,rfl,rfl⟩ | ⟨y,u,rfl,rfl⟩
   ·rw [key_ll] at h;exact wpAny_eqBool_int h
   ·rw [key_lr] at h;exact SeqAt.EqAt.int_str i t y u _ _ _ _ h
  ·rcases keyIs_shape hv with⟨j,u,rfl,rfl⟩ | ⟨y,u,rfl,rfl⟩
   ·rw [key_rl] at h;exact SeqAt.EqAt.str_int x t j u _ _ _ _ h
   ·rw [key_rr] at h;exact wpAny_eqBool_str h
 «strs»:=fun k x t v h=>by
  rcases keyIs_shape h with⟨i,u,rfl,e⟩ | ⟨y,u,rfl,e⟩
  ·exact nomatch e
  ·injection e with e1 _
   subst e1
   cases v<;>rfl
theorem mixKind_int (prog:Program) (w:World) (i:Int) (t:Tok):(mixKind prog w).is (.inl i) (.int i t)=true:=keyIs_int i t
theorem mixKind_str (prog:Program) (w:World) (x:Str) (t:Tok):(mixKind prog w).is (.inr x) (.str x t)=true:=keyIs_str x t
end L2
namespace L2
open PySem PySem.Spec PyProof.Rows
inductive V where
 | non | bl (b:Bool) | int (i:Int) | str (x:Str) | byt (b:Array UInt8) | flt (b:UInt64) | ref (a:Addr) | ty (n:String)
 deriving DecidableEq
noncomputable def RelV:V->Value->Prop
 | .non,u=>u=Value.none
 | .bl b,u=>u=Value.bool b
 | .int i,u=>∃ t,u=Value.int i t
 | .str x,u=>∃ t,u=Value.str x t
 | .byt b,u=>∃ t,u=Value.bytes b t
 | .flt b,u=>∃ t,u=Value.float b t
 | .ref a,u=>u=Value.ref a
 | .ty n,u=>u=Value.type n
abbrev Vals:List V->List Value->Prop:=Paired RelV
theorem Vals.length {xs:List V}{us:List Value} (r:Vals xs us):xs.length=us.length:=Paired.length r
theorem Vals.get:∀ {xs:List V}{us:List Value}{i:Nat}{x:V},Vals xs us->xs[i]?=some x->∃ u,us[i]?=some u/\RelV x u
 | _,_,_,_,.nil,e=>by simp at e
 | _,_,0,_,.cons r _,e=>by simp at e;subst e;exact⟨_,rfl,r⟩
 | _,_,i+1,x,.cons _ t,e=>by
  obtain⟨u,h1,h2⟩:=Vals.get (i:=i) (x:=x) t (by simpa using e)
  exact⟨u,by simpa using h1,h2⟩
theorem Vals.set {x:V}{u:Value} (r:RelV x u):∀ {xs:List V}{us:List Value} (i:Nat),Vals xs us->Vals (xs.set i x) (us.set i u)
 | _,_,_,.nil=>.nil
 | _,_,0,.cons _ t=>.cons r t
 | _,_,i+1,.cons q t=>.cons q (Vals.set r i t)
theorem Vals.append:∀ {xs ys:List V}{us ws:List Value},Vals xs us->Vals ys ws->Vals (xs++ys) (us++ws)
 | _,_,_,_,.nil,s=>s
 | _,_,_,_,.cons r t,s=>.cons r (Vals.append t s)
theorem Vals.take:∀ {xs:List V}{us:List Value} (n:Nat),Vals xs us->Vals (xs.take n) (us.take n)
 | _,_,0,_=>.nil
 | _,_,_+1,.nil=>.nil
 | _,_,n+1,.cons r t=>.cons r (Vals.take n t)
theorem Vals.drop:∀ {xs:List V}{us:List Value} (n:Nat),Vals xs us->Vals (xs.drop n) (us.drop n)
 | _,_,0,r=>r
 | _,_,_+1,.nil=>.nil
 | _,_,n+1,.cons _ t=>Vals.drop n t
noncomputable def RelO:Option V->Option Value->Prop
 | some v,some u=>RelV v u
 | none,none=>True
 | _,_=>False
noncomputable def KV {κ:Type}:List (κ×V)->List (κ×Value)->Prop:=Paired fun (p:κ×V) (q:κ×Value)=>p.1=q.1/\RelV p.2 q.2
noncomputable def kV:Key->V
 | .inl i=>.int i
 | .inr x=>.str x
inductive HO where
 | lst (xs:List V)
 | tup (xs:List V)
 | dK (kvs:List (Key×V)) | dT (kvs:List (List Key×V))
 | set (S:Int->Bool) (n:Nat)
 | ins (C dx:Addr) (fs:List (Str×V))
 | own (x:Addr)
 | xd (fs:List (Str×V))
 | met (f x:Addr)
 | rng (lo hi:Int)
 | frz (o:Obj) (u:HO)
 | tbl (ps:Array Value)
 | ext (φ:Heap->Prop)
abbrev Hp:=Addr->Option HO
noncomputable def upd (H:Hp) (a:Addr) (o:HO):Hp:=fun b=>if b=a then some o else H b
theorem upd_same {H:Hp}{a:Addr}{o:HO}:upd H a o a=some o:=by unfold upd;rw [if_pos rfl]
theorem upd_ne {H:Hp}{a b:Addr}{o:HO} (h:b≠a):upd H a o b=H b:=by unfold upd;rw [if_neg h]
theorem ne_of {H:Hp}{a b:Addr}{o u:HO} (h:H a=some o) (h':H b=some u) (d:o≠u):a≠b:=by
 intro e;subst e;rw [h] at h';exact d (Option.some.inj h')
theorem ne_of_none {H:Hp}{a b:Addr}{o:HO} (h:H a=some o) (h':H b=none):a≠b:=by
 intro e;subst e;rw [h] at h';cases h'
noncomputable def IsTup1 (h:Heap) (a:Addr) (its:Array Value):Prop:=∃ o:Obj,h.get? a=some o/\o.cls=.type "tuple"/\(∃ n,o.data=.seq its n)/\o.dict=none
theorem IsTup1.tup {h:Heap}{a:Addr}{its:Array Value} (x:IsTup1 h a its):IsTup h a its:=let ⟨o,e,c,n,_⟩:=x;⟨o,e,c,n⟩
theorem IsTup1.new (h:Heap) (its:Array Value):IsTup1 (h.push { cls:=.type "tuple",data:=.seq its }) h.objs.size its:=⟨_,Heap.get?_push_size _ rfl,rfl,⟨_,rfl⟩,rfl⟩
section
variable (P:Program) (w:World)
noncomputable def ObjOk (H:Hp) (h:Heap) (a:Addr):HO->Prop
 | .lst xs=>xs.length≤sizeLine/\∃ (its:List Value) (n:Nat),Vals xs its/\h.get? a=some { cls:=.type "list",data:=.seq its.toArray n }
 | .tup xs=>xs.length≤sizeLine/\∃ its:List Value,Vals xs its/\IsTup1 h a its.toArray
 | .dK kvs=>kvs.length≤sizeLine/\(a==sysModules)=false/\∃ vs,KV kvs vs/\h.DictOf (mixKind P w) a vs
 | .dT kvs=>kvs.length≤sizeLine/\(a==sysModules)=false/\∃ xs:List (List Key×Addr×Value),
   Paired (fun (p:List Key×V) (q:List Key×Addr×Value)=>p.1=q.1/\H q.2.1=some (.tup (p.1.map kV))/\RelV p.2 q.2.2) kvs xs/\
   ∃ o es ep,h.get? a=some o/\o.ExactDict/\o.data=.dict es ep/\es.toList=xs.map (entryOfKey (tupleKind (mixKind P w)))/\(xs.map (·.1)).Nodup
 | .set S n=>h.SetOf (intKind P w) a S n
 | .ins C dx fs=>H dx=some (.own a)/\fs.length≤1000/\dx≠a/\h.get? a=some (PySem.W.instObj C dx)/\
   ∃ mA,h.Ns1 dx mA/\(∀ f,RelO (fs.lookup f) (mA f))/\PySem.Within mA (fs.map (·.1))
 | .own _=>∃ o,h.get? a=some o
 | .xd fs=>∃ mA,h.Ns1 a mA/\∀ f,RelO (fs.lookup f) (mA f)
 | .rng lo hi=>∃ t u v,h.get? a=some { cls:=.type "range",data:=.fields #[.int lo t,.int hi u,.int 1 v] }
 | .frz o u=>h.get? a=some o/\ObjOk H h a u
 | .tbl ps=>h.get? a=some { cls:=.none,data:=.fields ps }
 | .met f x=>h.get? a=some (PySem.W.methodObj (.ref f) (.ref x))
 | .ext φ=>φ h/\(∃ o,h.get? a=some o)/\∀ h1 h2:Heap,φ h1->(∀ o,h1.get? a=some o->h2.get? a=some o)->φ h2
noncomputable def HOk (H:Hp) (h:Heap):Prop:=∀ a o,H a=some o->ObjOk P w H h a o
end
section
variable {P:Program}{w:World}{H H':Hp}{h h':Heap}{a:Addr}{o:HO}
theorem ObjOk.lt (x:ObjOk P w H h a o):a < h.objs.size:=by
 cases o with
 | lst xs=>obtain⟨_,_,_,_,e⟩:=x;exact Heap.lt_size e
 | tup xs=>obtain⟨_,_,_,p⟩:=x;exact p.tup.lt
 | dK kvs=>obtain⟨_,_,_,_,o,_,_,e,_⟩:=x;exact Heap.lt_size e
 | dT kvs=>obtain⟨_,_,_,_,o,_,_,e,_⟩:=x;exact Heap.lt_size e
 | set S n=>obtain⟨o,_,_,_,e,_⟩:=x;exact Heap.lt_size e
 | ins C dx fs=>obtain⟨_,_,_,e,_⟩:=x;exact Heap.lt_size e
 | own y=>obtain⟨_,e⟩:=x;exact Heap.lt_size e
 | xd fs=>obtain⟨_,⟨_,_,_,e,_⟩,_⟩:=x;exact Heap.lt_size e
 | rng lo hi=>obtain⟨_,_,_,e⟩:=x;exact Heap.lt_size e
 | frz ob u=>obtain⟨e,_⟩:=x;exact Heap.lt_size e
 | tbl ps=>exact Heap.lt_size (show h.get? a=some _ from x)
 | met f y=>exact Heap.lt_size (show h.get? a=some _ from x)
 | ext φ=>obtain⟨_,⟨_,e⟩,_⟩:=x;exact Heap.lt_size e
theorem Paired.mapP {α β:Type}{F G:α->β->Prop}:∀ {l₁:List α}{l₂:List β},Paired F l₁ l₂->(∀ a b,F a b->G a b)->Paired G l₁ l₂
 | _,_,.nil,_=>.nil
 | _,_,.cons r t,f=>.cons (f _ _ r) (Paired.mapP t f)
theorem ObjOk.stay (x:ObjOk P w H h a o) (k:∀ b u,(b=a∨H b=some (.own a))->h.get? b=some u->h'.get? b=some u)
  (ho:∀ b,H b=some (.own a)->H' b=some (.own a)) (ht:∀ b xs,H b=some (.tup xs)->H' b=some (.tup xs)):ObjOk P w H' h' a o:=by
 induction o with
 | lst xs=>obtain⟨z,its,n,r,e⟩:=x;exact⟨z,its,n,r,k _ _ (.inl rfl) e⟩
 | tup xs=>obtain⟨z,its,r,ob,e,c⟩:=x;exact⟨z,its,r,ob,k _ _ (.inl rfl) e,c⟩
 | dK kvs=>obtain⟨z,y,vs,r,ob,es,ep,e,c⟩:=x;exact⟨z,y,vs,r,ob,es,ep,k _ _ (.inl rfl) e,c⟩
 | dT kvs=>
  obtain⟨z,y,xs,r,ob,es,ep,e,c⟩:=x
  exact⟨z,y,xs,Paired.mapP r fun p q z=>⟨z.1,ht _ _ z.2.1,z.2.2⟩,ob,es,ep,k _ _ (.inl rfl) e,c⟩
 | set S n=>obtain⟨ob,es,ep,t,e,c⟩:=x;exact⟨ob,es,ep,t,k _ _ (.inl rfl) e,c⟩
 | ins C dx fs=>
  obtain⟨d,z,ne,e,mA,⟨od,es,ep,e2,c⟩,r⟩:=x
  exact⟨ho _ d,z,ne,k _ _ (.inl rfl) e,mA,⟨od,es,ep,k _ _ (.inr d) e2,c⟩,r⟩
 | own y=>obtain⟨ob,e⟩:=x;exact⟨ob,k _ _ (.inl rfl) e⟩
 | xd fs=>obtain⟨mA,⟨od,es,ep,e,c⟩,r⟩:=x;exact⟨mA,⟨od,es,ep,k _ _ (.inl rfl) e,c⟩,r⟩
 | rng lo hi=>obtain⟨t,u,v,e⟩:=x;exact⟨t,u,v,k _ _ (.inl rfl) e⟩
 | frz ob u ih=>obtain⟨e,q⟩:=x;exact⟨k _ _ (.inl rfl) e,ih q⟩
 | tbl ps=>
  have e:h.get? a=some { cls:=.none,data:=.fields ps }:=x
  show h'.get? a=some { cls:=.none,data:=.fields ps }
  exact k a _ (.inl rfl) e
 | met f y=>
  have e:h.get? a=some (PySem.W.methodObj (.ref f) (.ref y)):=x
  show h'.get? a=some (PySem.W.methodObj (.ref f) (.ref y))
  exact k a _ (.inl rfl) e
 | ext φ=>obtain⟨p,⟨o,e⟩,st⟩:=x;exact⟨st _ _ p fun o q=>k _ _ (.inl rfl) q,⟨o,k _ _ (.inl rfl) e⟩,st⟩
theorem HOk.lt (x:HOk P w H h) (e:H a=some o):a < h.objs.size:=(x a o e).lt
theorem HOk.fresh (x:HOk P w H h) (e:h.objs.size≤a):H a=none:=by
 cases q:H a with
 | none=>rfl
 | some u=>exact absurd (Nat.lt_of_lt_of_le (x.lt q) e) (Nat.lt_irrefl _)
theorem HOk.kept (x:HOk P w H h) (k:∀ b u,h.get? b=some u->h'.get? b=some u):HOk P w H h':=fun a o e=>
 (x a o e).stay (fun b u _ q=>k b u q) (fun _ q=>q) fun _ _ q=>q
theorem HOk.laid (x:HOk P w H h) (k:∀ b u,h.get? b=some u->h'.get? b=some u) (hp:h.objs.size≤a) (new:ObjOk P w (upd H a o) h' a o):HOk P w (upd H a o) h':=fun b u e=>by
 have hn:=x.fresh hp
 by_cases hb:b=a
 ·subst hb;rw [upd_same] at e;cases e;exact new
 ·rw [upd_ne hb] at e
  exact (x b u e).stay (fun c v _ q=>k c v q) (fun c q=>by rw [upd_ne (ne_of_none q hn)];exact q) fun c xs q=>by rw [upd_ne (ne_of_none q hn)];exact q
end
noncomputable def Rd (H:Hp) (a:Addr) (u:HO):Prop:=H a=some u∨∃ o,H a=some (.frz o u)
theorem Rd.of {H:Hp}{a:Addr}{u:HO} (h:H a=some u):Rd H a u:=.inl h
theorem Rd.ok {P:Program}{w:World}{H:Hp}{h:Heap}{a:Addr}{u:HO} (r:Rd H a u) (x:HOk P w H h):ObjOk P w H h a u:=by
 rcases r with r | ⟨o,r⟩
 ·exact x a u r
 ·obtain⟨_,q⟩:=x a _ r
  exact q
noncomputable def Mut:Option HO->Prop
 | some (.lst _)=>True
 | some (.dK _)=>True
 | some (.dT _)=>True
 | some (.set _ _)=>True
 | some (.ins _ _ _)=>True
 | some (.ext _)=>True
 | _=>False
section
variable {P:Program}{w:World}{H:Hp}{h h':Heap}{x e:Addr}{o':HO}
theorem HOk.write (ok:HOk P w H h) (mu:Mut (H x)) (he:e=x∨H e=some (.own x)) (k:∀ b u,b≠e->h.get? b=some u->h'.get? b=some u) (heo:∃ u,h'.get? e=some u)
  (new:ObjOk P w (upd H x o') h' x o'):HOk P w (upd H x o') h':=fun b u q=>by
 have nown:∀ c y,H c=some (.own y)->c≠x:=fun c y r z=>by subst z;rw [r] at mu;exact mu
 have ntup:∀ c xs,H c=some (.tup xs)->c≠x:=fun c xs r z=>by subst z;rw [r] at mu;exact mu
 by_cases hb:b=x
 ·subst hb;rw [upd_same] at q;cases q;exact new
 ·rw [upd_ne hb] at q
  by_cases hbe:b=e
  ·have q':H b=some (.own x):=by
    rcases he with z | z
    ·exact absurd (hbe.trans z) hb
    ·rw [hbe];exact z
   rw [q] at q';cases q'
   obtain⟨v,hv⟩:=heo
   exact⟨v,by rw [hbe];exact hv⟩
  ·refine (ok b u q).stay (fun c v hc r=>k c v ?_ r) (fun c r=>by rw [upd_ne (nown c b r)];exact r) fun c xs r=>by rw [upd_ne (ntup c xs r)];exact r
   rcases hc with rfl | hc
   ·exact hbe
   ·rintro rfl
    rcases he with z | z
    ·exact nown c b hc z
    ·rw [hc] at z;cases z;exact hb rfl
end
structure Un (fs ex:List Addr) (H H':Hp) (h h':Heap):Prop where
 keep:∀ b o,h.get? b=some o->H b=none->b ∉ fs->b ∉ ex->h'.get? b=some o
 slot:∀ b o,h.get? b=some o->H b=none->b ∈ fs->b ∉ ex->∃ sl,h'.get? b=some { o with slots:=sl }
 free:∀ b o,h.get? b=some o->H b=none->b ∉ ex->H' b=none
 there:∀ b o,h.get? b=some o->b ∉ ex->∃ o',h'.get? b=some o'
 tups:∀ b xs,H b=some (.tup xs)->H' b=some (.tup xs)
 frzs:∀ b o u,H b=some (.frz o u)->H' b=some (.frz o u)
 tbls:∀ b ps,H b=some (.tbl ps)->∃ more,H' b=some (.tbl (ps++more))
section
variable {fs fs' ex ex':List Addr}{H H1 H2:Hp}{h h1 h2 h':Heap}{a x e:Addr}{o:HO}
theorem Un.any (u:Un fs ex H H1 h h1) {b:Addr}{ob:Obj} (q:h.get? b=some ob) (n:H b=none) (hx:b ∉ ex):∃ sl,h1.get? b=some { ob with slots:=sl }:=by
 by_cases hb:b ∈ fs
 ·exact u.slot b ob q n hb hx
 ·exact⟨ob.slots,u.keep b ob q n hb hx⟩
theorem Un.kept (k:∀ b u,h.get? b=some u->h'.get? b=some u):Un fs ex H H h h':=
 ⟨fun b ob q _ _ _=>k b ob q,fun b ob q _ _ _=>⟨ob.slots,k b ob q⟩,fun _ _ _ n _=>n,fun b ob q _=>⟨ob,k b ob q⟩,fun _ _ q=>q,fun _ _ _ q=>q,fun _ ps q=>⟨#[],by rw [q];simp⟩⟩
theorem Un.refl:Un fs ex H H h h:=Un.kept fun _ _ q=>q
theorem Un.laid (k:∀ b u,h.get? b=some u->h'.get? b=some u) (hp:h.objs.size≤a) (hn:H a=none):Un fs ex H (upd H a o) h h' where
 keep:=fun b u q _ _ _=>k b u q
 slot:=fun b u q _ _ _=>⟨u.slots,k b u q⟩
 free:=fun b u q n _=>by rw [upd_ne (Nat.ne_of_lt (Nat.lt_of_lt_of_le (Heap.lt_size q) hp))];exact n
 there:=fun b u q _=>⟨u,k b u q⟩
 tups:=fun b xs q=>by rw [upd_ne (ne_of_none q hn)];exact q
 frzs:=fun b u xs q=>by rw [upd_ne (ne_of_none q hn)];exact q
 tbls:=fun b ps q=>⟨#[],by rw [upd_ne (ne_of_none q hn),q];simp⟩
theorem Un.write (mu:Mut (H x)) (he:e=x∨H e=some (.own x)) (k:∀ b u,b≠e->h.get? b=some u->h'.get? b=some u) (heo:∃ u,h'.get? e=some u):Un fs ex H (upd H x o) h h':=by
 have hx:∀ b,H b=none->b≠x:=fun b n z=>by subst z;rw [n] at mu;exact mu
 have hb:∀ b,H b=none->b≠e:=fun b n z=>by
  subst z
  rcases he with r | r
  ·exact hx b n r
  ·rw [n] at r;cases r
 have hm:∀ b u,H b=some u->¬ Mut (some u)->b≠x:=fun b u q nm z=>by subst z;rw [q] at mu;exact nm mu
 refine⟨fun b u q n _ _=>k b u (hb b n) q,fun b u q n _ _=>⟨u.slots,k b u (hb b n) q⟩,fun b u q n _=>by rw [upd_ne (hx b n)];exact n,fun b u q _=>?_,
  fun b xs q=>by rw [upd_ne (hm b _ q fun z=>z)];exact q,fun b u xs q=>by rw [upd_ne (hm b _ q fun z=>z)];exact q,fun b ps q=>⟨#[],by rw [upd_ne (hm b _ q fun z=>z),q];simp⟩⟩
 by_cases hbe:b=e
 ·subst hbe;exact heo
 ·exact⟨u,k b u hbe q⟩
end
noncomputable def trk (h:Heap) (H:Hp):List Addr:=(List.range h.objs.size).filter fun a=>(H a).isSome
noncomputable def hidT (h:Heap) (H:Hp):Heap:=PySem.W.hideAll h (trk h H)
theorem hidT_size (h:Heap) (H:Hp):(hidT h H).objs.size=h.objs.size:=PySem.W.hideAll_size _ _
theorem hidT_get {h:Heap}{H:Hp}{b:Addr}{o:Obj} (e:h.get? b=some o) (n:H b=none):(hidT h H).get? b=some o:=
 PySem.W.hideAll_get _ e fun hm=>by
  have q:(H b).isSome=true:=(List.mem_filter.mp hm).2
  rw [n] at q;simp at q
theorem of_hidT {h:Heap}{H:Hp}{b:Addr}{o:Obj} (e:(hidT h H).get? b=some o):h.get? b=some o/\H b=none:=by
 have e':h.get? b=some o:=PySem.W.of_hideAll (trk h H) e
 refine⟨e',?_⟩
 cases q:H b with
 | none=>rfl
 | some x=>
  have hm:b ∈ trk h H:=List.mem_filter.mpr ⟨List.mem_range.mpr (Heap.lt_size e'),by simp [q]⟩
  have z:(hidT h H).get? b=none:=PySem.W.hideAll_none (trk h H) hm
  rw [z] at e;cases e
end L2
namespace L2
open PySem PySem.Spec PyProof.Rows
structure Mod (K:PySem.W.Frag) (mg:Str->Option Value) (base:Heap):Prop where
 kin:K.In base
 glob:base.Ns mainGlobals mg
 blt:∃ mb,base.Ns builtinsNs mb/\∀ x:Str,x≠"__name__"->mb x=bootBuiltins x
 nolimit:base.NoLimit
structure Cx where
 prog:Program
 w:World
 K:PySem.W.Frag
 mg:Str->Option Value
 base:Heap
 A:Around
 N:List Str
 s₀:Shared
 H₀:Hp
 env:Env
 outer:List Env
 stack:List Env
 ex:List Addr
 fn:Str->Bool
 calm:Bool
 pn:List (Addr×Obj)
 xe:Value->Shared->Prop
noncomputable def frs (l:List Env):List Addr:=l.filterMap (·.frame)
abbrev Cx.fs (X:Cx):List Addr:=frs X.outer
noncomputable def Vis (sc:Scope) (x:Str):Prop:=sc.names.lookup x=some .local∨sc.names.lookup x=some .cell∨sc.names.lookup x=some .free
noncomputable def Loc (sc:Scope) (x:Str):Prop:=sc.names.lookup x=some .local∨sc.names.lookup x=some .cell
noncomputable def Look (env:Env) (h:Heap) (m:Str->Option Value) (x:Str) (u:Value):Prop:=
 (env.kindOf x=some .local/\m x=some u)∨((env.kindOf x=some .cell∨env.kindOf x=some .free)/\∃ c,env.cells.lookup x=some c/\h.IsCell c (some u))
structure Cx.Ok (X:Cx):Prop where
 mod:Mod X.K X.mg X.base
 kind:X.env.scope.kind=.function
 glob:X.env.globals=mainGlobals
 blt:X.env.builtins=builtinsNs
 above:X.s₀.heap.objs.size≤X.env.locals
 inj:∀ x y c,X.env.cells.lookup x=some c->X.env.cells.lookup y=some c->x=y
 has:∀ x,(X.env.kindOf x=some .cell∨X.env.kindOf x=some .free)->∃ c,X.env.cells.lookup x=some c
 cab:∀ x c,X.fn x=true->X.env.cells.lookup x=some c->X.s₀.heap.objs.size≤c
 hd:X.calm=true->X.A.handled=none
 frames:X.A.frames=some X.stack
 stk:X.stack=X.outer∨(X.stack=X.env::X.outer/\X.env.frame=some X.env.locals)
 exf:∀ b ∈ X.ex,b≠X.env.locals/\∀ x c,X.env.cells.lookup x=some c->c≠b
 bs:∀ b o,X.base.get? b=some o->X.s₀.heap.get? b=some o/\X.H₀ b=none
 bsz:X.base.objs.size≤X.s₀.heap.objs.size
 noex:∀ b o,X.base.get? b=some o->b ∉ X.ex
 exfs:∀ b ∈ X.ex,b ∉ X.fs
 funs:X.s₀.heap.FunFrames X.base X.outer
 frf:∀ b ∈ X.fs,X.H₀ b=none
structure Inv (X:Cx) (pins:List (Addr×Obj)) (σ:List (Option V)) (H:Hp) (s:Shared):Prop where
 ok:X.Ok
 os:s.os=X.s₀.os
 bare:AllBare s.gens
 base:Un X.fs X.ex X.H₀ H X.s₀.heap s.heap
 loc:∃ m,s.heap.Ns X.env.locals m/\∀ (i:Nat) (x:Str) (v:V),X.N[i]?=some x->σ[i]?=some (some v)->Vis X.env.scope x->∃ u,RelV v u/\Look X.env s.heap m x u
 cell:∀ x c,X.env.cells.lookup x=some c->∃ v,s.heap.IsCell c v
 free:H X.env.locals=none
 freeC:∀ x c,X.env.cells.lookup x=some c->H c=none
 pin:∀ p ∈ X.pn++pins,s.heap.get? p.1=some p.2/\H p.1=none/\p.1≠X.env.locals/\p.1 ∉ X.fs/\∀ v,p.2.data≠.cell v
 hok:HOk X.prog X.w H s.heap
 len:σ.length=X.N.length
section
variable {X:Cx}{pins:List (Addr×Obj)}{σ:List (Option V)}{H H':Hp}{s:Shared}{h':Heap}
theorem Cx.Ok.nofr (ok:X.Ok) {b:Addr}{o:Obj} (e:X.base.get? b=some o):b ∉ X.fs:=fun hb=>by
 have:=(ok.funs.mem hb).1
 rw [e] at this;cases this
theorem Inv.bs (I:Inv X pins σ H s):∀ b o,X.base.get? b=some o->s.heap.get? b=some o/\H b=none:=fun b o e=>
 ⟨I.base.keep b o (I.ok.bs b o e).1 (I.ok.bs b o e).2 (I.ok.nofr e) (I.ok.noex b o e),I.base.free b o (I.ok.bs b o e).1 (I.ok.bs b o e).2 (I.ok.noex b o e)⟩
theorem Inv.bk (I:Inv X pins σ H s):∀ b o,X.base.get? b=some o->s.heap.get? b=some o:=fun b o e=>(I.bs b o e).1
theorem Inv.mod (I:Inv X pins σ H s):Mod X.K X.mg X.base:=I.ok.mod
theorem Inv.kIn (I:Inv X pins σ H s):X.K.In s.heap:=I.ok.mod.kin.keeps I.bk
theorem Inv.fr (I:Inv X pins σ H s):∃ m,Fr X.base X.env.locals s.heap m:=
 let ⟨m,hn,_⟩:=I.loc
 ⟨m,hn,I.bk,Nat.le_trans I.ok.bsz I.ok.above⟩
theorem Inv.lt (I:Inv X pins σ H s):X.env.locals < s.heap.objs.size:=let ⟨_,hn,_⟩:=I.loc;hn.lt
theorem Inv.sz (I:Inv X pins σ H s):X.s₀.heap.objs.size≤s.heap.objs.size:=Nat.le_trans I.ok.above (Nat.le_of_lt I.lt)
theorem Inv.nofs (I:Inv X pins σ H s) {a:Addr} (h:s.heap.objs.size≤a):a ∉ X.fs:=fun hb=>by
 obtain⟨_,o,ho,_⟩:=I.ok.funs.mem hb
 exact absurd (Nat.lt_of_lt_of_le (Heap.lt_size ho) (Nat.le_trans I.sz h)) (Nat.lt_irrefl _)
theorem Inv.cne (I:Inv X pins σ H s):∀ x c,X.env.cells.lookup x=some c->c≠X.env.locals:=fun x c e z=>by
 obtain⟨v,o,ho,hd⟩:=I.cell x c e
 obtain⟨m,⟨o',es,ep,ho',hd',_⟩,_⟩:=I.loc
 rw [z,ho'] at ho;cases ho;rw [hd'] at hd;cases hd
theorem Inv.funs (I:Inv X pins σ H s):s.heap.FunFrames X.base X.outer:=by
 have all:∀ (l:List Env),(∀ b ∈ frs l,b ∈ X.fs)->X.s₀.heap.FunFrames X.base l->s.heap.FunFrames X.base l:=by
  intro l
  induction l with
  | nil=>intro _ _;trivial
  | cons env r ih=>
   intro hs hl
   obtain⟨hk,⟨L,o,hf,hn,ho,hd⟩,hr⟩:=hl
   have hL:L ∈ X.fs:=hs L (by unfold frs;rw [List.filterMap_cons,hf];exact List.mem_cons_self)
   obtain⟨sl,e⟩:=I.base.slot L o ho (I.ok.frf L hL) hL fun z=>I.ok.exfs L z hL
   exact⟨hk,⟨L,_,hf,hn,e,hd⟩,ih (fun b hb=>hs b (by unfold frs;rw [List.filterMap_cons,hf];exact List.mem_cons_of_mem _ hb)) hr⟩
 exact all X.outer (fun _ hb=>hb) I.ok.funs
theorem Inv.stack (I:Inv X pins σ H s):s.heap.FunFrames X.base X.stack:=by
 rcases I.ok.stk with e | ⟨e,hf⟩
 ·rw [e];exact I.funs
 ·rw [e]
  obtain⟨m,hn,_⟩:=I.loc
  refine .cons (by rw [I.ok.kind];decide) hf hn ?_ I.funs
  exact Heap.get?_none_of_le (Nat.le_trans I.ok.bsz I.ok.above)
theorem Inv.stkSub (I:Inv X pins σ H s):∀ b ∈ frs X.stack,b ∈ X.env.locals::X.fs:=fun b hb=>by
 rcases I.ok.stk with e | ⟨e,hf⟩
 ·rw [e] at hb;exact List.mem_cons_of_mem _ hb
 ·rw [e] at hb
  unfold frs at hb
  rw [List.filterMap_cons,hf] at hb
  exact hb
theorem Inv.stkFree (I:Inv X pins σ H s):∀ b ∈ frs X.stack,H b=none:=fun b hb=>by
 rcases List.mem_cons.mp (I.stkSub b hb) with e | hb
 ·rw [e];exact I.free
 ·obtain⟨_,o,ho,_⟩:=I.ok.funs.mem hb
  exact I.base.free b o ho (I.ok.frf b hb) fun z=>I.ok.exfs b z hb
theorem Inv.step {g':Array GenState}{t':Nat}{d':Drawn}{ch:List Addr} (I:Inv X pins σ H s)
  (hch:∀ b ∈ ch,(b ∈ X.ex∨X.s₀.heap.objs.size≤b)/\b≠X.env.locals/\(∀ x c,X.env.cells.lookup x=some c->c≠b)/\∀ p ∈ X.pn++pins,p.1≠b)
  (keep:∀ b o,b≠X.env.locals->b ∉ X.fs->b ∉ ch->s.heap.get? b=some o->H b=none->h'.get? b=some o)
  (slot:∀ b o,b≠X.env.locals->b ∈ X.fs->b ∉ ch->s.heap.get? b=some o->H b=none->∃ sl,h'.get? b=some { o with slots:=sl }) (free:∀ b o,b ∉ ch->s.heap.get? b=some o->H b=none->H' b=none)
  (there:∀ b o,b ∉ ch->s.heap.get? b=some o->∃ o',h'.get? b=some o')
  (tups:∀ b xs,H b=some (.tup xs)->H' b=some (.tup xs)) (frzs:∀ b o u,H b=some (.frz o u)->H' b=some (.frz o u)) (tbls:∀ b ps,H b=some (.tbl ps)->∃ more,H' b=some (.tbl (ps++more)))
  (ns:∀ m,s.heap.Ns X.env.locals m->h'.Ns X.env.locals m) (hok:HOk X.prog X.w H' h') (hg:AllBare g') :
  Inv X pins σ H' { s with heap:=h',gens:=g',drawn:=d',toks:=t' }:=by
 have neL:∀ b o,X.s₀.heap.get? b=some o->b≠X.env.locals:=fun b o e=>Nat.ne_of_lt (Nat.lt_of_lt_of_le (Heap.lt_size e) I.ok.above)
 have neC:∀ b o,X.s₀.heap.get? b=some o->b ∉ X.ex->b ∉ ch:=fun b o e hx hb=>by
  rcases (hch b hb).1 with z | z
  ·exact hx z
  ·exact absurd (Nat.lt_of_lt_of_le (Heap.lt_size e) z) (Nat.lt_irrefl _)
 have cellK:∀ x c,X.env.cells.lookup x=some c->∀ v,s.heap.IsCell c v->h'.IsCell c v:=fun x c e v ⟨o,ho,hd⟩=>by
  have nch:c ∉ ch:=fun z=>(hch c z).2.2.1 x c e rfl
  by_cases hc:c ∈ X.fs
  ·obtain⟨sl,q⟩:=slot c o (I.cne x c e) hc nch ho (I.freeC x c e)
   exact⟨_,q,hd⟩
  ·exact⟨o,keep c o (I.cne x c e) hc nch ho (I.freeC x c e),hd⟩
 refine⟨I.ok,I.os,hg,⟨fun b o e n hb hx=>?_,fun b o e n hb hx=>?_,fun b o e n hx=>?_,fun b o e hx=>?_,fun b xs e=>tups b xs (I.base.tups b xs e),fun b o xs e=>frzs b o xs (I.base.frzs b o xs e),fun b ps e=>?_⟩,?_,fun x c e=>?_,?_,fun x c e=>?_,fun p hp=>?_,hok,I.len⟩
 ·exact keep b o (neL b o e) hb (neC b o e hx) (I.base.keep b o e n hb hx) (I.base.free b o e n hx)
 ·obtain⟨sl,e1⟩:=I.base.slot b o e n hb hx
  obtain⟨sl',e2⟩:=slot b _ (neL b o e) hb (neC b o e hx) e1 (I.base.free b o e n hx)
  exact⟨sl',e2⟩
 ·obtain⟨o',e1⟩:=I.base.there b o e hx
  exact free b o' (neC b o e hx) e1 (I.base.free b o e n hx)
 ·obtain⟨o',e1⟩:=I.base.there b o e hx
  exact there b o' (neC b o e hx) e1
 ·obtain⟨m1,e1⟩:=I.base.tbls b ps e
  obtain⟨m2,e2⟩:=tbls b _ e1
  exact⟨m1++m2,by rw [e2,Array.append_assoc]⟩
 ·obtain⟨m,hn,hl⟩:=I.loc
  refine⟨m,ns m hn,fun i x v e1 e2 e3=>?_⟩
  obtain⟨u,r,l⟩:=hl i x v e1 e2 e3
  refine⟨u,r,?_⟩
  rcases l with l | ⟨k,c,e,z⟩
  ·exact .inl l
  ·exact .inr ⟨k,c,e,cellK x c e _ z⟩
 ·obtain⟨v,z⟩:=I.cell x c e
  exact⟨v,cellK x c e v z⟩
 ·obtain⟨m,⟨o,_,_,ho,_⟩,_⟩:=I.loc
  exact free _ o (fun z=>(hch _ z).2.1 rfl) ho I.free
 ·obtain⟨v,o,ho,hd⟩:=I.cell x c e
  exact free c o (fun z=>(hch c z).2.2.1 x c e rfl) ho (I.freeC x c e)
 ·obtain⟨e,n,ne,nf,d⟩:=I.pin p hp
  have nch:p.1 ∉ ch:=fun z=>(hch p.1 z).2.2.2 p hp rfl
  exact⟨keep p.1 p.2 ne nf nch e n,free p.1 p.2 nch e n,ne,nf,d⟩
theorem Inv.un {t':Nat} (I:Inv X pins σ H s) (u:Un X.fs [] H H' s.heap h') (hok:HOk X.prog X.w H' h'):Inv X pins σ H' { s with heap:=h',toks:=t' }:=by
 obtain⟨m,⟨o,es,ep,ho,r⟩,_⟩:=id I.loc
 obtain⟨sl,hL⟩:=u.any ho I.free (by simp)
 exact I.step (g':=s.gens) (d':=s.drawn) (ch:=[]) (fun _ z=>nomatch z) (fun b o _ hb _ e n=>u.keep b o e n hb (by simp)) (fun b o _ hb _ e n=>u.slot b o e n hb (by simp)) (fun b o _ e n=>u.free b o e n (by simp)) (fun b o _ e=>u.there b o e (by simp)) u.tups u.frzs u.tbls (fun m' hm=>by
  obtain⟨o',es',ep',ho',r'⟩:=hm
  rw [ho] at ho';cases ho'
  exact⟨_,es',ep',hL,r'⟩) hok I.bare
theorem Inv.call {g':Array GenState}{t':Nat}{d':Drawn}{ch:List Addr} (I:Inv X pins σ H s) (u:Un (frs X.stack) ch H H' s.heap h') (hok:HOk X.prog X.w H' h') (hg:AllBare g')
  (hch:∀ b ∈ ch,(b ∈ X.ex∨X.s₀.heap.objs.size≤b)/\b≠X.env.locals/\(∀ x c,X.env.cells.lookup x=some c->c≠b)/\∀ p ∈ X.pn++pins,p.1≠b) :
  Inv X pins σ H' { s with heap:=h',gens:=g',drawn:=d',toks:=t' }:=by
 obtain⟨m,⟨o,es,ep,ho,r⟩,_⟩:=id I.loc
 obtain⟨sl,hL⟩:=u.any ho I.free fun z=>(hch _ z).2.1 rfl
 exact I.step (ch:=ch) hch (fun b o hL hb hc e n=>u.keep b o e n (fun z=>(List.mem_cons.mp (I.stkSub b z)).elim hL hb) hc) (fun b o _ _ hc e n=>u.any e n hc) (fun b o hc e n=>u.free b o e n hc) (fun b o hc e=>u.there b o e hc) u.tups u.frzs u.tbls (fun m' hm=>by
  obtain⟨o',es',ep',ho',r'⟩:=hm
  rw [ho] at ho';cases ho'
  exact⟨_,es',ep',hL,r'⟩) hok hg
theorem Inv.turned {t':Nat}{it:Addr} (I:Inv X pins σ H s) (k:∀ b o,b≠it->s.heap.get? b=some o->h'.get? b=some o) (hn:H it=none) (hL:it≠X.env.locals)
  (h1:it ∈ X.ex∨X.s₀.heap.objs.size≤it) (h2:∀ x c,X.env.cells.lookup x=some c->c≠it) (h3:∀ p ∈ X.pn++pins,p.1≠it):Inv X pins σ H { s with heap:=h',toks:=t' }:=by
 have nit:∀ b u,H b=some u->b≠it:=fun b u e z=>by rw [z,hn] at e;cases e
 refine I.step (g':=s.gens) (d':=s.drawn) (ch:=[it]) (fun b hb=>?_) (fun b o _ _ hc e _=>k b o (fun z=>hc (by simp [z])) e) (fun b o _ _ hc e _=>⟨o.slots,k b o (fun z=>hc (by simp [z])) e⟩) (fun _ _ _ _ n=>n)
  (fun b o hc e=>⟨o,k b o (fun z=>hc (by simp [z])) e⟩) (fun _ _ e=>e) (fun _ _ _ e=>e) (fun b ps e=>⟨#[],by rw [e];simp⟩) (fun m hm=>?_) (fun b u e=>?_) I.bare
 ·have e:b=it:=by simpa using hb
  subst e
  exact⟨h1,hL,h2,h3⟩
 ·obtain⟨o,es,ep,ho,r⟩:=hm
  exact⟨o,es,ep,k _ o (Ne.symm hL) ho,r⟩
 ·refine (I.hok b u e).stay (fun c v hc q=>k c v ?_ q) (fun _ q=>q) fun _ _ q=>q
  rcases hc with z | z
  ·rw [z];exact nit b u e
  ·exact nit c _ z
theorem Inv.tok (I:Inv X pins σ H s) (t:Nat):Inv X pins σ H { s with toks:=t }:=I.un (h':=s.heap) (t':=t) Un.refl I.hok
theorem Inv.kept {t':Nat} (I:Inv X pins σ H s) (k:∀ b u,s.heap.get? b=some u->h'.get? b=some u):Inv X pins σ H { s with heap:=h',toks:=t' }:=I.un (Un.kept k) (I.hok.kept k)
theorem Inv.laid {a:Addr}{o:HO}{t':Nat} (I:Inv X pins σ H s) (k:∀ b u,s.heap.get? b=some u->h'.get? b=some u) (hp:s.heap.objs.size≤a) (new:ObjOk X.prog X.w (upd H a o) h' a o) :
  Inv X pins σ (upd H a o) { s with heap:=h',toks:=t' }:=I.un (Un.laid k hp (I.hok.fresh hp)) (I.hok.laid k hp new)
theorem Inv.write {x e:Addr}{o:HO}{t':Nat} (I:Inv X pins σ H s) (mu:Mut (H x)) (he:e=x∨H e=some (.own x)) (k:∀ b u,b≠e->s.heap.get? b=some u->h'.get? b=some u) (heo:∃ u,h'.get? e=some u)
  (new:ObjOk X.prog X.w (upd H x o) h' x o):Inv X pins σ (upd H x o) { s with heap:=h',toks:=t' }:=I.un (Un.write mu he k heo) (I.hok.write mu he k heo new)
theorem Inv.weak {σ':List (Option V)} (I:Inv X pins σ H s) (hl:σ'.length=σ.length) (w:∀ (i:Nat) v,σ'[i]?=some (some v)->σ[i]?=some (some v)):Inv X pins σ' H s:=
 ⟨I.ok,I.os,I.bare,I.base,let ⟨m,hn,hl'⟩:=I.loc;⟨m,hn,fun i x v e1 e2 e3=>hl' i x v e1 (w i v e2) e3⟩,I.cell,I.free,I.freeC,I.pin,I.hok,hl.trans I.len⟩
theorem Inv.pins_of {pins':List (Addr×Obj)} (I:Inv X pins σ H s) (h:∀ p ∈ pins',s.heap.get? p.1=some p.2/\H p.1=none/\p.1≠X.env.locals/\p.1 ∉ X.fs/\∀ v,p.2.data≠.cell v):Inv X pins' σ H s:=
 ⟨I.ok,I.os,I.bare,I.base,I.loc,I.cell,I.free,I.freeC,fun p hp=>(List.mem_append.mp hp).elim (fun z=>I.pin p (List.mem_append_left _ z)) (h p),I.hok,I.len⟩
theorem nodup_ix {N:List Str} (hN:N.Nodup) {i j:Nat}{x:Str} (a:N[i]?=some x) (b:N[j]?=some x):i=j:=by
 obtain⟨h1,e1⟩:=List.getElem?_eq_some_iff.mp a
 obtain⟨h2,e2⟩:=List.getElem?_eq_some_iff.mp b
 exact (List.getElem_inj hN).mp (e1.trans e2.symm)
theorem store_ok2 {M:Model}{A:Around}{E:Value->Shared->Prop}{i:Nat}{x:Str}{v:V}{u:Value}{Q:Unit->Shared->Prop} (I:Inv X pins σ H s) (hN:X.N.Nodup) (hi:X.N[i]?=some x) (hx:Loc X.env.scope x) (r:RelV v u)
  (h:∀ s',Inv X pins (σ.set i (some v)) H s'->(∃ a,Heap.SameBut a s.heap s'.heap/\(a=X.env.locals∨X.env.cells.lookup x=some a))->Q () s') (hf:X.fn x=true∨X.env.scope.names.lookup x=some .local:=by first | exact .inl rfl | exact .inr rfl | assumption):wpAny M A (storeName X.env x u) Q E s:=by
 obtain⟨m,hn,hl⟩:=id I.loc
 have hcls:(X.env.scope.kind==.class || (X.env.scope.kind==.module && X.env.locals != X.env.globals))=false:=by rw [I.ok.kind];rfl
 have hiσ:i < σ.length:=by rw [I.len];exact (List.getElem?_eq_some_iff.mp hi).1
 have cne:=I.cne
 have tracked:∀ {a:Addr}{h':Heap},(∃ o,s.heap.get? a=some o/\H a=none)->Heap.SameBut a s.heap h'->HOk X.prog X.w H h':=fun {a h'} ha hs b ob e=>by
  obtain⟨_,_,hfree⟩:=ha
  refine (I.hok b ob e).stay (fun c w' hc q=>(hs.2 c ?_).trans q) (fun _ q=>q) fun _ _ q=>q
  rintro rfl
  rcases hc with rfl | hc
  ·rw [hfree] at e;cases e
  ·rw [hfree] at hc;cases hc
 rcases hx with hk | hk
 ·refine wpAny_storeName_local hk hn (fun h' hn' hs=>?_) hcls
  obtain⟨oL,_,_,hoL,_⟩:=id hn
  refine h _ ⟨I.ok,I.os,I.bare,⟨fun b o e n hb hx=>?_,fun b o e n hb hx=>?_,I.base.free,fun b o e hx=>?_,I.base.tups,I.base.frzs,I.base.tbls⟩,⟨_,hn',fun j y v' e1 e2 e3=>?_⟩,fun y c e=>?_,I.free,I.freeC,fun p hp=>?_,tracked ⟨oL,hoL,I.free⟩ hs,by simpa using I.len⟩ ⟨_,hs,.inl rfl⟩
  ·exact (hs.2 b (Nat.ne_of_lt (Nat.lt_of_lt_of_le (Heap.lt_size e) I.ok.above))).trans (I.base.keep b o e n hb hx)
  ·obtain⟨sl,e1⟩:=I.base.slot b o e n hb hx
   exact⟨sl,(hs.2 b (Nat.ne_of_lt (Nat.lt_of_lt_of_le (Heap.lt_size e) I.ok.above))).trans e1⟩
  ·obtain⟨o',e1⟩:=I.base.there b o e hx
   exact⟨o',(hs.2 b (Nat.ne_of_lt (Nat.lt_of_lt_of_le (Heap.lt_size e) I.ok.above))).trans e1⟩
  ·by_cases hj:j=i
   ·subst hj
    rw [hi] at e1;cases e1
    rw [List.getElem?_set_self hiσ] at e2
    cases e2
    exact⟨u,r,.inl ⟨hk,by simp⟩⟩
   ·rw [List.getElem?_set_ne (Ne.symm hj)] at e2
    obtain⟨u',r',q⟩:=hl j y v' e1 e2 e3
    refine⟨u',r',?_⟩
    rcases q with⟨k,e⟩ | ⟨k,c,e,z⟩
    ·refine .inl ⟨k,?_⟩
     have:y≠x:=fun e=>hj (nodup_ix hN e1 (e ▸ hi))
     simp [this,e]
    ·exact .inr ⟨k,c,e,z.sameBut hs (cne y c e)⟩
  ·obtain⟨w',z⟩:=I.cell y c e
   exact⟨w',z.sameBut hs (cne y c e)⟩
  ·obtain⟨e,n,ne,nf,d⟩:=I.pin p hp
   exact⟨(hs.2 p.1 ne).trans e,n,ne,nf,d⟩
 ·have hfn:X.fn x=true:=by
   rcases hf with z | z
   ·exact z
   ·rw [z] at hk;cases hk
  obtain⟨c,hc⟩:=I.ok.has x (.inl hk)
  obtain⟨w',z⟩:=I.cell x c hc
  refine wpAny_storeName_cell I.ok.kind hk hc z (fun h' hc' hs=>?_)
  obtain⟨oc,hoc,hocd⟩:=id z
  refine h { s with heap:=h' } ⟨I.ok,I.os,I.bare,⟨fun b o e n hb hx=>?_,fun b o e n hb hx=>?_,I.base.free,fun b o e hx=>?_,I.base.tups,I.base.frzs,I.base.tbls⟩,⟨m,hn.sameBut hs (Ne.symm (cne x c hc)),fun j y v' e1 e2 e3=>?_⟩,fun y c' e=>?_,I.free,I.freeC,fun p hp=>?_,tracked ⟨oc,hoc,I.freeC x c hc⟩ hs,by simpa using I.len⟩ ⟨c,hs,.inr hc⟩
  ·exact (hs.2 b (Nat.ne_of_lt (Nat.lt_of_lt_of_le (Heap.lt_size e) (I.ok.cab x c hfn hc)))).trans (I.base.keep b o e n hb hx)
  ·obtain⟨sl,e1⟩:=I.base.slot b o e n hb hx
   exact⟨sl,(hs.2 b (Nat.ne_of_lt (Nat.lt_of_lt_of_le (Heap.lt_size e) (I.ok.cab x c hfn hc)))).trans e1⟩
  ·obtain⟨o',e1⟩:=I.base.there b o e hx
   exact⟨o',(hs.2 b (Nat.ne_of_lt (Nat.lt_of_lt_of_le (Heap.lt_size e) (I.ok.cab x c hfn hc)))).trans e1⟩
  ·by_cases hj:j=i
   ·subst hj
    rw [hi] at e1;cases e1
    rw [List.getElem?_set_self hiσ] at e2
    cases e2
    exact⟨u,r,.inr ⟨.inl hk,c,hc,hc'⟩⟩
   ·rw [List.getElem?_set_ne (Ne.symm hj)] at e2
    obtain⟨u',r',q⟩:=hl j y v' e1 e2 e3
    refine⟨u',r',?_⟩
    rcases q with q | ⟨k,c',e,z'⟩
    ·exact .inl q
    ·refine .inr ⟨k,c',e,z'.sameBut hs ?_⟩
     rintro rfl
     exact hj (nodup_ix hN e1 (I.ok.inj _ _ _ e hc ▸ hi))
  ·by_cases hcc:c'=c
   ·subst hcc;exact⟨_,hc'⟩
   ·obtain⟨w2,z2⟩:=I.cell y c' e
    exact⟨w2,z2.sameBut hs hcc⟩
  ·obtain⟨e,n,ne,nf,d⟩:=I.pin p hp
   refine⟨(hs.2 p.1 ?_).trans e,n,ne,nf,d⟩
   intro q
   rw [q,hoc] at e
   have q':oc=p.2:=Option.some.inj e
   exact d w' (by rw [←q'];exact hocd)
theorem store_ok {M:Model}{A:Around}{E:Value->Shared->Prop}{i:Nat}{x:Str}{v:V}{u:Value}{Q:Unit->Shared->Prop} (I:Inv X pins σ H s) (hN:X.N.Nodup) (hi:X.N[i]?=some x) (hx:Loc X.env.scope x) (r:RelV v u)
  (h:∀ s',Inv X pins (σ.set i (some v)) H s'->Q () s') (hf:X.fn x=true∨X.env.scope.names.lookup x=some .local:=by first | exact .inl rfl | exact .inr rfl | assumption):wpAny M A (storeName X.env x u) Q E s:=
 store_ok2 I hN hi hx r (fun s' I' _=>h s' I') hf
theorem Inv.call' {s':Shared}{ch:List Addr} (I:Inv X pins σ H s) (ho:s'.os=s.os) (u:Un (frs X.stack) ch H H' s.heap s'.heap) (hok:HOk X.prog X.w H' s'.heap) (hg:AllBare s'.gens)
  (hch:∀ b ∈ ch,(b ∈ X.ex∨X.s₀.heap.objs.size≤b)/\b≠X.env.locals/\(∀ x c,X.env.cells.lookup x=some c->c≠b)/\∀ p ∈ X.pn++pins,p.1≠b):Inv X pins σ H' s':=by
 obtain⟨h',g',d',t',o'⟩:=s'
 have e:o'=s.os:=ho
 subst e
 exact I.call (g':=g') (t':=t') (d':=d') u hok hg hch
end
abbrev XK:=Value->Option Addr->Hp->Prop
abbrev St:=List (Option V)
abbrev VK:=V->Hp->Prop
abbrev TE:=St->Hp->VK->Prop
abbrev TT:=St->Hp->(Bool->Hp->Prop)->Prop
abbrev TA:=St->Hp->(List V->Hp->Prop)->Prop
structure Ends where
 nx:St->Hp->Prop
 rt:VK
 bk:St->Hp->Prop:=fun _ _=>False
 ct:St->Hp->Prop:=fun _ _=>False
abbrev TS:=Ends->St->Hp->Prop
noncomputable def EP (X:Cx) (pins:List (Addr×Obj)) (σ:St) (Q:VK) (u:Value) (s':Shared):Prop:=∃ v H',Inv X pins σ H' s'/\RelV v u/\Q v H'
noncomputable def TP (X:Cx) (pins:List (Addr×Obj)) (σ:St) (Q:Bool->Hp->Prop) (b:Bool) (s':Shared):Prop:=∃ H',Inv X pins σ H' s'/\Q b H'
noncomputable def AP (X:Cx) (pins:List (Addr×Obj)) (σ:St) (Q:List V->Hp->Prop) (us:List Value) (s':Shared):Prop:=∃ vs H',Inv X pins σ H' s'/\Vals vs us/\Q vs H'
noncomputable def SP (X:Cx) (pins:List (Addr×Obj)) (D:Ends) (f:Flow) (s':Shared):Prop:=
 match f with
 | .next=>∃ σ' H',Inv X pins σ' H' s'/\D.nx σ' H'
 | .brk=>∃ σ' H',Inv X pins σ' H' s'/\D.bk σ' H'
 | .cont=>∃ σ' H',Inv X pins σ' H' s'/\D.ct σ' H'
 | .ret u=>∃ v σ' H',Inv X pins σ' H' s'/\RelV v u/\D.rt v H'
noncomputable def PE (X:Cx) (e:Expr) (t:TE):Prop:=
 ∀ (pins:List (Addr×Obj)) (s:Shared) (σ:St) (H:Hp) (Q:VK),Inv X pins σ H s->t σ H Q->wpAny (model X.prog X.w) X.A (eval e X.env) (EP X pins σ Q) X.xe s
noncomputable def PT (X:Cx) (e:Expr) (t:TT):Prop:=
 ∀ (pins:List (Addr×Obj)) (s:Shared) (σ:St) (H:Hp) (Q:Bool->Hp->Prop),Inv X pins σ H s->t σ H Q->wpAny (model X.prog X.w) X.A (isTrue e X.env (eval e X.env)) (TP X pins σ Q) X.xe s
noncomputable def PW (X:Cx) (e:Expr) (t:TT):Prop:=
 ∀ (whole:Sem Value) (pins:List (Addr×Obj)) (s:Shared) (σ:St) (H:Hp) (Q:Bool->Hp->Prop),Inv X pins σ H s->t σ H Q->wpAny (model X.prog X.w) X.A (isTrue e X.env whole) (TP X pins σ Q) X.xe s
theorem PW.pt {X:Cx}{e:Expr}{t:TT} (h:PW X e t):PT X e t:=h _
noncomputable def PA (X:Cx) (es:List Expr) (t:TA):Prop:=
 ∀ (pos:Pos) (pins:List (Addr×Obj)) (s:Shared) (σ:St) (H:Hp) (Q:List V->Hp->Prop),Inv X pins σ H s->t σ H Q->wpAny (model X.prog X.w) X.A (spliced (backTo pos (starEach es X.env))) (AP X pins σ Q) X.xe s
noncomputable def PS (X:Cx) (st:Stmt) (t:TS):Prop:=
 ∀ (pins:List (Addr×Obj)) (s:Shared) (σ:St) (H:Hp) (D:Ends),Inv X pins σ H s->t D σ H->wpAny (model X.prog X.w) X.A (exec st X.env) (SP X pins D) X.xe s
noncomputable def PSs (X:Cx) (st:List Stmt) (t:TS):Prop:=
 ∀ (pins:List (Addr×Obj)) (s:Shared) (σ:St) (H:Hp) (D:Ends),Inv X pins σ H s->t D σ H->wpAny (model X.prog X.w) X.A (execs st X.env) (SP X pins D) X.xe s
theorem thn {α:Type}{t:Sem α}{Q Q':α->Shared->Prop}{M:Model}{A:Around}{E:Value->Shared->Prop}{s:Shared} (h:wpAny M A t Q E s) (hQ:∀ a s,Q a s->Q' a s):wpAny M A t Q' E s:=wpAny_mono h hQ fun _ _ x=>x
end L2
namespace L2
open PySem PySem.Spec PyProof.Rows
section
variable {X:Cx}
theorem bin {a b:Expr}{ta tb:TE} (ha:PE X a ta) (hb:PE X b tb) {pins:List (Addr×Obj)}{s:Shared}{σ:St}{H:Hp}{R:V->V->Hp->Prop} (I:Inv X pins σ H s) (h:ta σ H fun x H1=>tb σ H1 fun y H2=>R x y H2)
  {α:Type}{Q:α->Shared->Prop}{f:Value->Value->Sem α}
  (hf:∀ v u s2 x y H2,Inv X pins σ H2 s2->RelV x v->RelV y u->R x y H2->wpAny (model X.prog X.w) X.A (f v u) Q X.xe s2) :
  wpAny (model X.prog X.w) X.A (eval a X.env) (fun v s₁=>wpAny (model X.prog X.w) X.A (eval b X.env) (fun u s₂=>wpAny (model X.prog X.w) X.A (f v u) Q X.xe s₂) X.xe s₁) X.xe s:=by
 refine thn (ha pins s σ H _ I h) fun v s1 ⟨x,H1,I1,r1,q1⟩=>?_
 refine thn (hb pins s1 σ H1 _ I1 q1) fun u s2 ⟨y,H2,I2,r2,q2⟩=>?_
 exact hf v u s2 x y H2 I2 r1 r2 q2
noncomputable def tVar (i:Nat):TE:=fun σ H Q=>∃ v,σ[i]?=some (some v)/\Q v H
noncomputable def tC (v:V):TE:=fun _ H Q=>Q v H
theorem pe_var {i:Nat}{x:Str}{pos:Pos} (hN:X.N[i]?=some x) (hv:Vis X.env.scope x) (hd:(x==("__debug__" : Str))=false:=by decide) (hcd:(x==("__classdict__" : Str))=false:=by decide):PE X (.Name x pos) (tVar i):=by
 intro pins s σ H Q I h
 obtain⟨v,e,h⟩:=h
 obtain⟨m,hn,hl⟩:=I.loc
 obtain⟨u,r,l⟩:=hl i x v hN e hv
 have fin:EP X pins σ Q u s:=⟨v,H,I,r,h⟩
 rcases l with⟨hk,hm⟩ | ⟨hk,c,hc,hcell⟩
 ·exact wpAny_Name (wpAny_loadName_local I.ok.kind hk hn hm fin) hd
 ·rcases hk with hk | hk
  ·exact wpAny_Name (wpAny_loadName_cell I.ok.kind hk hc hcell fin) hd
  ·exact wpAny_Name (wpAny_loadName_free I.ok.kind hk hc hcell fin hcd) hd
theorem pe_int {i j pos}:PE X (.Constant (.int i) j pos) (tC (.int i)):=fun _ _ _ H _ I h=>wpAny_Constant_int ⟨.int i,H,I.tok _,⟨_,rfl⟩,h⟩
theorem pe_bl {b j pos}:PE X (.Constant (.bool b) j pos) (tC (.bl b)):=fun _ _ _ H _ I h=>Constant_bool ⟨.bl b,H,I,rfl,h⟩
theorem pe_str {x j pos}:PE X (.Constant (.str x) j pos) (tC (.str x)):=fun _ _ _ H _ I h=>Calls.Constant_str ⟨.str x,H,I.tok _,⟨_,rfl⟩,h⟩
noncomputable def Gl (X:Cx) (x:Str):Prop:=X.env.kindOf x=some .globalImplicit
theorem ld_glob {E:Value->Shared->Prop}{pins:List (Addr×Obj)}{s:Shared}{σ:St}{H:Hp}{x:Str}{u:Value}{pos:Pos}{Q:Value->Shared->Prop} (I:Inv X pins σ H s) (hg:Gl X x) (hm:X.mg x=some u) (h:Q u s)
  (hd:(x==("__debug__" : Str))=false:=by decide):wpAny (model X.prog X.w) X.A (eval (.Name x pos) X.env) Q E s:=
 Calls.Name_function_global I.ok.kind hg (Calls.loadGlobal_global (by rw [I.ok.glob];exact I.mod.glob.keeps I.bk) hm h) hd
theorem ld_blt {E:Value->Shared->Prop}{pins:List (Addr×Obj)}{s:Shared}{σ:St}{H:Hp}{x:Str}{u:Value}{pos:Pos}{Q:Value->Shared->Prop} (I:Inv X pins σ H s) (hg:Gl X x) (hm:X.mg x=none) (hv:bootBuiltins x=some u) (h:Q u s)
  (hn:x≠"__name__":=by decide) (hd:(x==("__debug__" : Str))=false:=by decide):wpAny (model X.prog X.w) X.A (eval (.Name x pos) X.env) Q E s:=by
 obtain⟨mb,h1,h2⟩:=I.mod.blt
 exact Calls.Name_function_global I.ok.kind hg (Calls.loadGlobal_builtin (by rw [I.ok.glob];exact I.mod.glob.keeps I.bk) hm (by rw [I.ok.blt];exact h1.keeps I.bk) ((h2 x hn).trans hv) h) hd
theorem pe_bltn {x:Str}{v:V}{u:Value}{pos:Pos} (hg:Gl X x) (hm:X.mg x=none) (hv:bootBuiltins x=some u) (r:RelV v u) (hn:x≠"__name__":=by decide) (hd:(x==("__debug__" : Str))=false:=by decide):PE X (.Name x pos) (tC v):=
 fun _ _ _ H _ I h=>ld_blt I hg hm hv ⟨v,H,I,r,h⟩ hn hd
variable {a b:Expr}{ta tb:TE}{pos:Pos}
variable {tA tB':TT}{rest:List Expr}
noncomputable def tOr (t u:TT):TT:=fun σ H Q=>t σ H fun c H1=>if c=true then Q true H1 else u σ H1 Q
noncomputable def tNot (t:TT):TT:=fun σ H Q=>t σ H fun c H1=>Q (!c) H1
theorem pw_or1 (ha:PT X a tA):PW X (.BoolOp .Or [a] pos) tA:=by
 intro wh pins s σ H Q I h
 refine isTrue_or (thn (ha pins s σ H Q I h) fun c s1 e=>?_)
 cases c with
 | false=>exact isTrue_or_nil e
 | true=>exact e
theorem pw_or (ha:PT X a tA) (hb:PW X (.BoolOp .Or (b::rest) pos) tB'):PW X (.BoolOp .Or (a::b::rest) pos) (tOr tA tB'):=by
 intro wh pins s σ H Q I h
 refine isTrue_or (thn (ha pins s σ H _ I h) fun c s1 ⟨H1,I1,q1⟩=>?_)
 cases c with
 | true=>exact⟨H1,I1,q1⟩
 | false=>exact hb wh pins s1 σ H1 Q I1 q1
theorem pt_not (ha:PT X a tA):PT X (.UnaryOp .Not a pos) (tNot tA):=by
 intro pins s σ H Q I h
 exact isTrue_not (ha pins s σ H (fun c H1=>Q (!c) H1) I h)
noncomputable def tAndV (ta tb:TE):TE:=fun σ H Q=>ta σ H fun x H1=>∃ c,x=.bl c/\if c=true then tb σ H1 Q else Q (.bl false) H1
noncomputable def tNotV (ta:TE):TE:=fun σ H Q=>ta σ H fun x H1=>∃ c,x=.bl c/\Q (.bl (!c)) H1
theorem pe_one {op}{t:TE} (h:PE X a t):PE X (.BoolOp op [a] pos) t:=fun pins s σ H Q I hw=>BoolOp_one (h pins s σ H Q I hw)
theorem pe_and (ha:PE X a ta) (hb:PE X (.BoolOp .And (b::rest) pos) tb):PE X (.BoolOp .And (a::b::rest) pos) (tAndV ta tb):=by
 intro pins s σ H Q I h
 refine BoolOp_and (thn (ha pins s σ H _ I h) fun v s1 ⟨x,H1,I1,r1,q1⟩=>?_)
 obtain⟨c,rfl,q1⟩:=q1
 cases r1
 refine wpAny_truthy_bool ?_
 cases c with
 | true=>exact hb pins s1 σ H1 Q I1 q1
 | false=>exact⟨.bl false,H1,I1,rfl,q1⟩
theorem pe_not (ha:PE X a ta):PE X (.UnaryOp .Not a pos) (tNotV ta):=by
 intro pins s σ H Q I h
 refine UnaryOp_ (thn (ha pins s σ H _ I h) fun v s1 ⟨x,H1,I1,r1,q1⟩=>?_)
 obtain⟨c,rfl,q1⟩:=q1
 cases r1
 exact not_of (wpAny_truthy_bool ⟨.bl (!c),H1,I1,rfl,q1⟩)
end
end L2
namespace L2
open PySem PySem.Spec PyProof.Rows
noncomputable def SqL (K:PySem.W.Frag) (H:Hp) (a:Addr) (xs:List V):Prop:=
 Rd H a (.lst xs)∨
  ∃ (o:Obj) (its:Array Value) (n:Nat),K.lookup a=some o/\o.cls=.type "list"/\o.dict=none/\o.data=.seq its n/\its.size≤sizeLine/\Vals xs its.toList
noncomputable def SqT (K:PySem.W.Frag) (H:Hp) (a:Addr) (xs:List V):Prop:=
 H a=some (.tup xs)∨
  ∃ (o:Obj) (its:Array Value) (n:Nat),K.lookup a=some o/\o.cls=.type "tuple"/\o.data=.seq its n/\its.size≤sizeLine/\Vals xs its.toList/\o.dict=none
noncomputable def absV:Value->Option V
 | .none=>some .non
 | .bool b=>some (.bl b)
 | .int i _=>some (.int i)
 | .str x _=>some (.str x)
 | .bytes b _=>some (.byt b)
 | .float b _=>some (.flt b)
 | .ref a=>some (.ref a)
 | .type n=>some (.ty n)
 | _=>none
theorem RelV.abs {x:V}{u:Value} (r:RelV x u):absV u=some x:=by
 cases x with
 | non=>cases r;rfl
 | bl _=>cases r;rfl
 | int _=>obtain⟨t,rfl⟩:=r;rfl
 | str _=>obtain⟨t,rfl⟩:=r;rfl
 | byt _=>obtain⟨t,rfl⟩:=r;rfl
 | flt _=>obtain⟨t,rfl⟩:=r;rfl
 | ref _=>cases r;rfl
 | ty _=>cases r;rfl
theorem RelV.inj {x y:V}{u:Value} (r:RelV x u) (q:RelV y u):x=y:=Option.some.inj (r.abs.symm.trans q.abs)
theorem Vals.inj:∀ {xs ys:List V}{us:List Value},Vals xs us->Vals ys us->xs=ys
 | _,_,_,.nil,.nil=>rfl
 | _,_,_,.cons r t,.cons r' t'=>by rw [r.inj r',Vals.inj t t']
section
variable {X:Cx}{pins:List (Addr×Obj)}{σ:St}{H:Hp}{s:Shared}{a:Addr}{xs ys:List V}
theorem SqL.of {K:PySem.W.Frag} (h:H a=some (.lst xs)):SqL K H a xs:=.inl (.inl h)
theorem SqT.of {K:PySem.W.Frag} (h:H a=some (.tup xs)):SqT K H a xs:=.inl h
theorem Inv.list (I:Inv X pins σ H s) (h:SqL X.K H a xs):∃ its:List Value,Vals xs its/\PlainL s.heap a its.toArray/\xs.length≤sizeLine:=by
 rcases h with h | ⟨o,its,n,hk,hc,hd,hs,hz,r⟩
 ·obtain⟨z,its,n,r,e⟩:=h.ok I.hok
  exact⟨its,r,⟨_,n,e,rfl,rfl,rfl⟩,z⟩
 ·refine⟨its.toList,r,⟨o,n,I.kIn a o hk,hc,hd,by simpa using hs⟩,?_⟩
  have e:=r.length
  simp only [Array.length_toList] at e
  omega
theorem Inv.tuple (I:Inv X pins σ H s) (h:SqT X.K H a xs):∃ its:List Value,Vals xs its/\IsTup s.heap a its.toArray/\xs.length≤sizeLine:=by
 rcases h with h | ⟨o,its,n,hk,hc,hs,hz,r,_⟩
 ·obtain⟨z,its,r,p⟩:=(Rd.of h).ok I.hok
  exact⟨its,r,p.tup,z⟩
 ·refine⟨its.toList,r,⟨o,I.kIn a o hk,hc,n,by simpa using hs⟩,?_⟩
  have e:=r.length
  simp only [Array.length_toList] at e
  omega
theorem Inv.tuple1 (I:Inv X pins σ H s) (h:SqT X.K H a xs):∃ o:Obj,s.heap.get? a=some o/\o.cls=.type "tuple"/\o.dict=none:=by
 rcases h with h | ⟨o,its,n,hk,hc,hs,hz,r,hd⟩
 ·obtain⟨z,its,r,o,e,c,_,hd⟩:=(Rd.of h).ok I.hok
  exact⟨o,e,c,hd⟩
 ·exact⟨o,I.kIn a o hk,hc,hd⟩
theorem Inv.list_inj (I:Inv X pins σ H s) (h:SqL X.K H a xs) (h':SqL X.K H a ys):xs=ys:=by
 obtain⟨its,r,⟨o,n,e,_,_,d⟩,_⟩:=I.list h
 obtain⟨its',r',⟨o',n',e',_,_,d'⟩,_⟩:=I.list h'
 rw [e] at e';cases e'
 rw [d] at d'
 injection d' with d1 _
 have:its=its':=by simpa using congrArg Array.toList d1
 subst this
 exact r.inj r'
theorem Inv.tuple_inj (I:Inv X pins σ H s) (h:SqT X.K H a xs) (h':SqT X.K H a ys):xs=ys:=by
 obtain⟨its,r,⟨o,e,_,n,d⟩,_⟩:=I.tuple h
 obtain⟨its',r',⟨o',e',_,n',d'⟩,_⟩:=I.tuple h'
 rw [e] at e';cases e'
 rw [d] at d'
 injection d' with d1 _
 have:its=its':=by simpa using congrArg Array.toList d1
 subst this
 exact r.inj r'
end
abbrev Cx.wish (X:Cx) (E:Value->Shared->Prop):Cx:={ X with xe:=E }
abbrev Cx.nox (X:Cx):Cx:=X.wish fun _ _=>False
theorem Cx.Ok.wish {X:Cx} (ok:X.Ok) (E:Value->Shared->Prop):(X.wish E).Ok:=
 ⟨ok.mod,ok.kind,ok.glob,ok.blt,ok.above,ok.inj,ok.has,ok.cab,ok.hd,ok.frames,ok.stk,ok.exf,ok.bs,ok.bsz,ok.noex,ok.exfs,ok.funs,ok.frf⟩
theorem Cx.Ok.unwish {X:Cx}{E:Value->Shared->Prop} (ok:(X.wish E).Ok):X.Ok:=
 ⟨ok.mod,ok.kind,ok.glob,ok.blt,ok.above,ok.inj,ok.has,ok.cab,ok.hd,ok.frames,ok.stk,ok.exf,ok.bs,ok.bsz,ok.noex,ok.exfs,ok.funs,ok.frf⟩
section
variable {X:Cx}{pins:List (Addr×Obj)}{σ:St}{H:Hp}{s:Shared}{E:Value->Shared->Prop}
theorem Inv.wish (I:Inv X pins σ H s) (E:Value->Shared->Prop):Inv (X.wish E) pins σ H s:=⟨I.ok.wish E,I.os,I.bare,I.base,I.loc,I.cell,I.free,I.freeC,I.pin,I.hok,I.len⟩
theorem Inv.unwish (I:Inv (X.wish E) pins σ H s):Inv X pins σ H s:=⟨I.ok.unwish,I.os,I.bare,I.base,I.loc,I.cell,I.free,I.freeC,I.pin,I.hok,I.len⟩
theorem SP.unwish {D:Ends}{f:Flow}{s':Shared} (h:SP (X.wish E) pins D f s'):SP X pins D f s':=by
 cases f with
 | next=>obtain⟨σ',H',I,q⟩:=h;exact⟨σ',H',I.unwish,q⟩
 | brk=>obtain⟨σ',H',I,q⟩:=h;exact⟨σ',H',I.unwish,q⟩
 | cont=>obtain⟨σ',H',I,q⟩:=h;exact⟨σ',H',I.unwish,q⟩
 | ret u=>obtain⟨v,σ',H',I,r,q⟩:=h;exact⟨v,σ',H',I.unwish,r,q⟩
theorem PSs.nox {st:List Stmt}{t:TS} (h:PSs X.nox st t):PSs X st t:=fun pins s σ H D I hw=>
 wpAny_mono (h pins s σ H D (I.wish _) hw) (fun _ _ q=>q.unwish) fun _ _ z=>False.elim z
end
section
variable {X:Cx}{st:Stmt}{rest:List Stmt}{t u:TS}{e:Expr}{te:TE}{pos:Pos}
noncomputable def tNext:TS:=fun D σ H=>D.nx σ H
noncomputable def tSeq (t u:TS):TS:=fun D σ H=>t { D with nx:=u D } σ H
theorem pss_nil:PSs X [] tNext:=fun _ _ σ H _ I h=>wpAny_execs_nil ⟨σ,H,I,h⟩
theorem pss_cons (h1:PS X st t) (h2:PSs X rest u):PSs X (st::rest) (tSeq t u):=by
 intro pins s σ H D I h
 refine wpAny_execs_cons (thn (h1 pins s σ H { D with nx:=u D } I h) fun f s1 q=>?_)
 cases f with
 | next=>
  obtain⟨σ',H',I',q⟩:=q
  exact h2 pins s1 σ' H' D I' q
 | ret v=>exact q
 | brk=>exact q
 | cont=>exact q
theorem pss_one (h1:PS X st t):PSs X [st] t:=by
 intro pins s σ H D I h
 refine wpAny_execs_cons (thn (h1 pins s σ H D I h) fun f s1 q=>?_)
 cases f with
 | next=>exact wpAny_execs_nil q
 | ret v=>exact q
 | brk=>exact q
 | cont=>exact q
theorem Inv.quiet {pins:List (Addr×Obj)}{σ:St}{H:Hp}{s:Shared} (I:Inv X pins σ H s):interactive X.env=false:=by simp [interactive,I.ok.kind]
noncomputable def tDrop (te:TE):TS:=fun D σ H=>te σ H fun _ H1=>D.nx σ H1
theorem ps_expr (he:PE X e te) (hs:swapsWith e none pos.line X.env=pure false:=by rfl):PS X (.Expr e pos) (tDrop te):=by
 intro pins s σ H D I h
 exact wpAny_Expr_any (thn (he pins s σ H _ I h) fun v s1 ⟨x,H1,I1,r1,q1⟩=>⟨σ,H1,I1,q1⟩) I.quiet hs
noncomputable def tRet (te:TE):TS:=fun D σ H=>te σ H D.rt
theorem ps_ret (he:PE X e te):PS X (.Return (some e) pos) (tRet te):=by
 intro pins s σ H D I h
 exact wpAny_Return_some (thn (he pins s σ H _ I h) fun v s1 ⟨x,H1,I1,r1,q1⟩=>⟨x,σ,H1,I1,r1,q1⟩)
noncomputable def tIfS (c:TT) (t u:TS):TS:=fun D σ H=>c σ H fun b H1=>if b=true then t D σ H1 else u D σ H1
theorem ps_if {c:Expr}{a b:List Stmt}{tc:TT} (hc:PT X c tc) (ha:PSs X a t) (hb:PSs X b u):PS X (.If c a b pos) (tIfS tc t u):=by
 intro pins s σ H D I h
 refine wpAny_If (thn (hc pins s σ H _ I h) fun d s1 ⟨H1,I1,q1⟩=>?_)
 cases d with
 | true=>exact ha pins s1 σ H1 D I1 q1
 | false=>exact hb pins s1 σ H1 D I1 q1
noncomputable def tNever:TS:=fun _ _ _=>False
theorem pss_never {sts:List Stmt}:PSs X sts tNever:=fun _ _ _ _ _ _ h=>h.elim
end
abbrev TG:=V->St->Hp->(St->Hp->Prop)->Prop
abbrev TGs:=List V->St->Hp->(St->Hp->Prop)->Prop
noncomputable def PG (X:Cx) (target:Expr) (t:TG):Prop:=
 ∀ (pins:List (Addr×Obj)) (s:Shared) (σ:St) (H:Hp) (v:V) (u:Value) (Q:St->Hp->Prop),Inv X pins σ H s->RelV v u->t v σ H Q->
  wpAny (model X.prog X.w) X.A (assign target X.env u) (fun _ s'=>∃ σ' H',Inv X pins σ' H' s'/\Q σ' H') X.xe s
noncomputable def PGs (X:Cx) (ts:List Expr) (t:TGs):Prop:=
 ∀ (pins:List (Addr×Obj)) (s:Shared) (σ:St) (H:Hp) (vs:List V) (us:List Value) (Q:St->Hp->Prop),Inv X pins σ H s->Vals vs us->t vs σ H Q->
  wpAny (model X.prog X.w) X.A (assignInOrder ((assignEach ts X.env).map (·.2)) us) (fun _ s'=>∃ σ' H',Inv X pins σ' H' s'/\Q σ' H') X.xe s
abbrev TSet:=V->V->V->Hp->(Hp->Prop)->Prop
noncomputable def PSet (X:Cx) (t:TSet):Prop:=
 ∀ (pins:List (Addr×Obj)) (s:Shared) (σ:St) (H:Hp) (o i v:V) (ov iv u:Value) (Q:Hp->Prop),Inv X pins σ H s->RelV o ov->RelV i iv->RelV v u->t o i v H Q->
  wpAny (model X.prog X.w) X.A (setItem ov iv u) (fun _ s'=>∃ H',Inv X pins σ H' s'/\Q H') X.xe s
section
variable {X:Cx}{pos:Pos}
noncomputable def gName (i:Nat):TG:=fun v σ H Q=>Q (σ.set i (some v)) H
theorem pg_name {i:Nat}{x:Str} (hN:X.N.Nodup) (hi:X.N[i]?=some x) (hx:Loc X.env.scope x) (hf:X.fn x=true∨X.env.scope.names.lookup x=some .local:=by first | exact .inl rfl | exact .inr rfl | assumption):PG X (.Name x pos) (gName i):=by
 intro pins s σ H v u Q I r h
 exact wpAny_assign_Name (store_ok I hN hi hx r (fun s' I'=>⟨_,H,I',h⟩) hf)
noncomputable def gNil:TGs:=fun vs σ H Q=>vs=[]/\Q σ H
noncomputable def gCons (t:TG) (u:TGs):TGs:=fun vs σ H Q=>∃ v r,vs=v::r/\t v σ H fun σ' H'=>u r σ' H' Q
theorem pgs_nil:PGs X [] gNil:=by
 intro pins s σ H vs us Q I r h
 obtain⟨e,h⟩:=h
 subst e
 cases r
 exact assignInOrder_nil ⟨σ,H,I,h⟩
theorem pgs_cons {e:Expr}{es:List Expr}{t:TG}{u:TGs} (h1:PG X e t) (h2:PGs X es u)
  (hs:(assignEach (e::es) X.env).map (·.2)=assign e X.env::(assignEach es X.env).map (·.2):=by rfl):PGs X (e::es) (gCons t u):=by
 intro pins s σ H vs us Q I r h
 obtain⟨v,vr,e1,h⟩:=h
 subst e1
 cases r with
 | cons r rr=>
  rw [hs]
  refine assignInOrder_cons (thn (h1 pins s σ H _ _ _ I r h) fun _ s1 ⟨σ1,H1,I1,q1⟩=>?_)
  exact h2 pins s1 σ1 H1 _ _ Q I1 rr q1
noncomputable def gTup (K:PySem.W.Frag) (n:Nat) (t:TGs):TG:=fun v σ H Q=>∃ a xs,v=.ref a/\SqT K H a xs/\xs.length=n/\t xs σ H Q
theorem pg_tup {es:List Expr}{k:Nat}{t:TGs}{n:Nat} (hc:X.calm=true) (h:PGs X es t)
  (hn:(assignEach es X.env).length=n:=by rfl) (hst:(assignEach es X.env).findIdx? (·.1)=none:=by rfl):PG X (.Tuple es k pos) (gTup X.K n t):=by
 intro pins s σ H v u Q I r hw
 obtain⟨a,xs,e1,hq,hl,hw⟩:=hw
 subst e1
 cases r
 obtain⟨its,rv,ht,hz⟩:=I.tuple hq
 refine assign_Tuple_tuple (I.ok.hd hc) ht (by simp [hn,←hl,rv.length]) hst fun h' hx=>?_
 have I1:Inv X pins σ H { s with heap:=h' }:=I.kept (t':=s.toks) fun b o e=>hx b o (Nat.ne_of_lt (Heap.lt_size e)) e
 exact h pins _ σ H xs _ Q I1 (by simpa using rv) hw
noncomputable def gSub (to ti:TE) (t:TSet):TG:=fun v σ H Q=>to σ H fun o H1=>ti σ H1 fun i H2=>t o i v H2 fun H3=>Q σ H3
theorem pg_sub {o i:Expr}{to ti:TE}{t:TSet} (ho:PE X o to) (hi:PE X i ti) (hs:PSet X t)
  (ha:∀ v,assign (.Subscript o i pos) X.env v=(do
    let ov ←holding [v] (eval o X.env)
    let iv ←holding [v,ov] (eval i X.env)
    standAt pos
    holding [v,ov,iv] (setItem ov iv v)
    release [v,ov,iv] []):=by intro _;rfl):PG X (.Subscript o i pos) (gSub to ti t):=by
 intro pins s σ H v u Q I r h
 rw [ha]
 refine wpAny_bind (wpAny_holding (thn (ho pins s σ H _ I h) fun ov s1 ⟨x,H1,I1,r1,q1⟩=>?_))
 refine wpAny_bind (wpAny_holding (thn (hi pins s1 σ H1 _ I1 q1) fun iv s2 ⟨y,H2,I2,r2,q2⟩=>?_))
 refine wpAny_bind (wpAny_standAt (wpAny_bind (wpAny_holding (thn (hs pins s2 σ H2 x y v ov iv u _ I2 r1 r2 r q2) fun _ s3 ⟨H3,I3,q3⟩=>?_))))
 exact wpAny_release ⟨σ,H3,I3,q3⟩
noncomputable def tAsg (te:TE) (g:TG):TS:=fun D σ H=>te σ H fun x H1=>g x σ H1 D.nx
theorem ps_asg {tg e:Expr}{te:TE}{g:TG} (he:PE X e te) (hg:PG X tg g) (hs:swapsWithSole [tg] e pos.line X.env=pure false:=by rfl) (hw:swappedStores [tg] e X.env=pure none:=by rfl)
  (h1:(assignEach [tg] X.env).map (·.2)=[assign tg X.env]:=by rfl):PS X (.Assign [tg] e pos) (tAsg te g):=by
 intro pins s σ H D I h
 refine wpAny_Assign_stores (thn (he pins s σ H _ I h) fun v s1 ⟨x,H1,I1,r1,q1⟩=>?_) hs hw
 rw [h1]
 exact thn (hg pins s1 σ H1 x v _ I1 r1 q1) fun _ s2 q=>q
theorem ps_set {i:Nat}{x:Str}{e:Expr}{te:TE}{pos':Pos} (hN:X.N.Nodup) (hi:X.N[i]?=some x) (hx:Loc X.env.scope x) (he:PE X e te) (hs:swapsWith e (some (.Name x pos')) pos.line X.env=pure false:=by rfl) (hf:X.fn x=true∨X.env.scope.names.lookup x=some .local:=by first | exact .inl rfl | exact .inr rfl | assumption) :
  PS X (.Assign [.Name x pos'] e pos) (tAsg te (gName i)):=by
 intro pins s σ H D I h
 refine wpAny_Assign_Name (thn (he pins s σ H _ I h) fun v s1 ⟨y,H1,I1,r1,q1⟩=>?_) hs
 exact store_ok I1 hN hi hx r1 (fun s2 I2=>⟨_,H1,I2,q1⟩) hf
end
section
variable {X:Cx}{pos:Pos}
end
structure It where
 go:Nat->Hp->Prop
 yld:Nat->Hp->V->Hp->Prop
 stop:Nat->Hp->Prop
noncomputable def FpOk (X:Cx) (pins:List (Addr×Obj)) (H:Hp) (b:Addr):Prop:=
 H b=none/\b≠X.env.locals/\b ∉ X.fs/\(b ∈ X.ex∨X.s₀.heap.objs.size≤b)/\(∀ x c,X.env.cells.lookup x=some c->c≠b)/\∀ p ∈ X.pn++pins,p.1≠b
theorem Inv.fpOk {X:Cx}{pins:List (Addr×Obj)}{σ:St}{H H':Hp}{s:Shared}{b:Addr} (I:Inv X pins σ H s) (hb:s.heap.objs.size≤b) (hn:H' b=none):FpOk X pins H' b:=by
 refine⟨hn,Nat.ne_of_gt (Nat.lt_of_lt_of_le I.lt hb),I.nofs hb,.inr (Nat.le_trans I.sz hb),fun x c e z=>?_,fun p hp z=>?_⟩
 ·obtain⟨v,q⟩:=I.cell x c e
  exact absurd (Nat.lt_of_lt_of_le q.lt (by rw [z];exact hb)) (Nat.lt_irrefl _)
 ·exact absurd (Nat.lt_of_lt_of_le (Heap.lt_size (I.pin p hp).1) (by rw [z];exact hb)) (Nat.lt_irrefl _)
structure Turn (P:Program) (w:World) (K:PySem.W.Frag) (tg:Expr) (J:It) (fp:List Addr) (it:Addr) (tn:Nat->Heap->Prop):Prop where
 mem:it ∈ fp
 obj:∀ i h,tn i h->∀ b ∈ fp,∃ o,h.get? b=some o/\∀ v,o.data≠.cell v
 keep:∀ i h h',tn i h->(∀ b ∈ fp,∀ o,h.get? b=some o->h'.get? b=some o)->tn i h'
 item:∀ (X:Cx),X.prog=P->X.w=w->X.K=K->X.calm=true->∀ (i:Nat) (pins:List (Addr×Obj)) (s:Shared) (σ:St) (H:Hp) (E:Value->Shared->Prop),Inv X pins σ H s->(∀ b ∈ fp,FpOk X pins H b)->tn i s.heap->J.go i H->
  wpAny (model P w) X.A (pyNext (.ref it)) (fun r s1=>∃ u,r=some u/\
   wpAny (model P w) X.A (letOwnedTupleGo tg (.ref it) u) (fun _ s2=>∃ x H',Inv X pins σ H' s2/\RelV x u/\J.yld i H x H'/\tn (i+1) s2.heap/\∀ b ∈ fp,H' b=none) E s1) E s
 done:∀ (X:Cx),X.prog=P->X.w=w->X.K=K->X.calm=true->∀ (i:Nat) (pins:List (Addr×Obj)) (s:Shared) (σ:St) (H:Hp) (E:Value->Shared->Prop),Inv X pins σ H s->(∀ b ∈ fp,FpOk X pins H b)->tn i s.heap->J.stop i H->
  wpAny (model P w) X.A (pyNext (.ref it)) (fun r s1=>r=none/\Inv X pins σ H s1) E s
 self:∀ (A:Around) (i:Nat) (s:Shared) (Q:Value->Shared->Prop) (E:Value->Shared->Prop),tn i s.heap->Q (.ref it) s->wpAny (model P w) A (pyIter (.ref it)) Q E s
abbrev TI:=St->Hp->(It->Hp->Prop)->Prop
noncomputable def PIE (X:Cx) (pins:List (Addr×Obj)) (σ:St) (tg:Expr) (R:It->Hp->Prop) (itv:Value) (s2:Shared):Prop:=
 ∃ (it:Addr) (fp:List Addr) (tn:Nat->Heap->Prop) (J:It) (H':Hp),itv=.ref it/\Inv X pins σ H' s2/\Turn X.prog X.w X.K tg J fp it tn/\tn 0 s2.heap/\(∀ b ∈ fp,FpOk X pins H' b)/\R J H'
noncomputable def PI (X:Cx) (tg iter:Expr) (wi:TI):Prop:=
 ∀ (pins:List (Addr×Obj)) (s:Shared) (σ:St) (H:Hp) (R:It->Hp->Prop),Inv X pins σ H s->wi σ H R->
  wpAny (model X.prog X.w) X.A (eval iter X.env) (fun v s1=>wpAny (model X.prog X.w) X.A (pyIter v) (PIE X pins σ tg R) X.xe s1) X.xe s
theorem go_of {M:Model}{A:Around}{E:Value->Shared->Prop}{s:Shared}{tg:Expr}{it:Addr}{u:Value}{o:Obj}{n:String}{vs:Array Value}{Q:Unit->Shared->Prop} (ho:s.heap.get? it=some o) (hc:o.cls=.type n) (hd:o.data=.fields vs)
  (hn:["enumerate","zip","dict_itemiterator","dict_reverseitemiterator","odict_iterator","itertools.zip_longest","itertools.pairwise"].contains n=false) (hQ:Q () s):wpAny M A (letOwnedTupleGo tg (.ref it) u) Q E s:=by
 unfold letOwnedTupleGo
 cases tg<;>first
  | exact wpAny_pure hQ
  | (cases u<;>first
      | exact wpAny_pure hQ
      | (refine wpAny_bind (wpAny_load ho ?_)
         rw [hc,hd]
         show wpAny M A (if (["enumerate","zip","dict_itemiterator","dict_reverseitemiterator","odict_iterator","itertools.zip_longest","itertools.pairwise"].contains n && vs[0]?==some (rawInt _))=true then _ else _) Q E s
         rw [if_neg (by intro h;rw [hn,Bool.false_and] at h;cases h)]
         exact wpAny_pure hQ))
noncomputable def Itl (K:PySem.W.Frag) (a:Addr):It:=
 ⟨fun i H=>∃ xs x,SqL K H a xs/\xs[i]?=some x,fun i H x H'=>H'=H/\∀ xs,SqL K H a xs->xs[i]?=some x,fun i H=>∃ xs,SqL K H a xs/\xs.length≤i⟩
noncomputable def Itt (K:PySem.W.Frag) (a:Addr):It:=
 ⟨fun i H=>∃ xs x,SqT K H a xs/\xs[i]?=some x,fun i H x H'=>H'=H/\∀ xs,SqT K H a xs->xs[i]?=some x,fun i H=>∃ xs,SqT K H a xs/\xs.length≤i⟩
noncomputable def Itr (lo:Int) (n:Nat):It:=⟨fun i _=>i < n,fun i H x H'=>H'=H/\x=.int (lo+i),fun i _=>n≤i⟩
theorem turn_list {P:Program}{w:World}{K:PySem.W.Frag}{tg:Expr} (a it:Addr):Turn P w K tg (Itl K a) [it] it (fun i h=>h.IsListIter it a i) where
 mem:=by simp
 obj:=fun i h st b hb=>by
  have e:b=it:=by simpa using hb
  subst e
  obtain⟨o,e,c,d⟩:=st
  exact⟨o,e,fun v z=>by rw [d] at z;cases z⟩
 keep:=fun i h h' st k=>st.at fun o e=>k it (by simp) o e
 item:=by
  intro X hP hw hK hc i pins s σ H E I hf st hg
  subst hP hw hK
  obtain⟨xs,x,hq,hx⟩:=hg
  obtain⟨its,rv,p,hz⟩:=I.list hq
  obtain⟨u,hu,ru⟩:=rv.get hx
  obtain⟨f0,f1,f2,f3,f4,f5⟩:=hf it (by simp)
  refine wpAny_pyNext_list_item st p.isList (x:=u) (by simpa using hu) fun h' st' sb=>?_
  have I1:Inv X pins σ H { s with heap:=h' }:=I.turned (t':=s.toks) (fun b o hb e=>(sb.2 b hb).trans e) f0 f1 f3 f4 f5
  obtain⟨o,e,c,d⟩:=id st'
  exact⟨u,rfl,go_of (s:={ s with heap:=h' }) e c d (by decide) ⟨x,H,I1,ru,⟨rfl,fun ys hy=>by rw [I.list_inj hy hq];exact hx⟩,st',fun b hb=>(hf b hb).1⟩⟩
 done:=by
  intro X hP hw hK hc i pins s σ H E I hf st hg
  subst hP hw hK
  obtain⟨xs,hq,hx⟩:=hg
  obtain⟨its,rv,p,hz⟩:=I.list hq
  obtain⟨f0,f1,f2,f3,f4,f5⟩:=hf it (by simp)
  have hl:=rv.length
  exact wpAny_pyNext_list_end (I.ok.hd hc) st p.isList (by simp;omega) fun h' eb=>⟨rfl,I.turned (t':=s.toks) (fun b o hb e=>eb b o hb e) f0 f1 f3 f4 f5⟩
 self:=fun _ _ _ _ _ st h=>wpAny_pyIter_listiter st h
theorem turn_tuple {P:Program}{w:World}{K:PySem.W.Frag}{tg:Expr} (a it:Addr):Turn P w K tg (Itt K a) [it] it (fun i h=>h.IsTupleIter it a i) where
 mem:=by simp
 obj:=fun i h st b hb=>by
  have e:b=it:=by simpa using hb
  subst e
  obtain⟨o,e,c,d⟩:=st
  exact⟨o,e,fun v z=>by rw [d] at z;cases z⟩
 keep:=fun i h h' st k=>st.at fun o e=>k it (by simp) o e
 item:=by
  intro X hP hw hK hc i pins s σ H E I hf st hg
  subst hP hw hK
  obtain⟨xs,x,hq,hx⟩:=hg
  obtain⟨its,rv,p,hz⟩:=I.tuple hq
  obtain⟨u,hu,ru⟩:=rv.get hx
  obtain⟨f0,f1,f2,f3,f4,f5⟩:=hf it (by simp)
  refine wpAny_pyNext_tuple_item st (show s.heap.IsTuple a its.toArray from p) (x:=u) (by simpa using hu) fun h' st' sb=>?_
  have I1:Inv X pins σ H { s with heap:=h' }:=I.turned (t':=s.toks) (fun b o hb e=>(sb.2 b hb).trans e) f0 f1 f3 f4 f5
  obtain⟨o,e,c,d⟩:=id st'
  exact⟨u,rfl,go_of (s:={ s with heap:=h' }) e c d (by decide) ⟨x,H,I1,ru,⟨rfl,fun ys hy=>by rw [I.tuple_inj hy hq];exact hx⟩,st',fun b hb=>(hf b hb).1⟩⟩
 done:=by
  intro X hP hw hK hc i pins s σ H E I hf st hg
  subst hP hw hK
  obtain⟨xs,hq,hx⟩:=hg
  obtain⟨its,rv,p,hz⟩:=I.tuple hq
  obtain⟨f0,f1,f2,f3,f4,f5⟩:=hf it (by simp)
  have hl:=rv.length
  exact wpAny_pyNext_tuple_end (I.ok.hd hc) st (show s.heap.IsTuple a its.toArray from p) (by simp;omega) fun h' eb=>⟨rfl,I.turned (t':=s.toks) (fun b o hb e=>eb b o hb e) f0 f1 f3 f4 f5⟩
 self:=fun _ _ _ _ _ st h=>wpAny_pyIter_tupleiter st h
theorem turn_range {P:Program}{w:World}{K:PySem.W.Frag}{tg:Expr} (it:Addr) (lo:Int) (n:Nat):Turn P w K tg (Itr lo n) [it] it (fun i h=>IsRangeIter h it (lo+(i:Nat)*1) ((n:Int) - (i:Nat)) 1) where
 mem:=by simp
 obj:=fun i h st b hb=>by
  have e:b=it:=by simpa using hb
  subst e
  exact⟨_,st,fun v z=>by
   have z':Data.fields _=Data.cell v:=z
   cases z'⟩
 keep:=fun i h h' st k=>k it (by simp) _ st
 item:=by
  intro X hP hw hK hc i pins s σ H E I hf st hg
  subst hP hw hK
  obtain⟨f0,f1,f2,f3,f4,f5⟩:=hf it (by simp)
  have W:=Walks.range (prog:=X.prog) (w:=X.w) (I.ok.hd hc) it lo 1 n
  refine W.item i s _ _ hg st fun v h' tk hv st' kk=>?_
  obtain⟨t,rfl⟩:=hv
  have I1:Inv X pins σ H { s with heap:=h',toks:=tk }:=I.turned (fun b o hb e=>kk b o (by simpa using hb) e) f0 f1 f3 f4 f5
  refine⟨_,rfl,go_of (s:={ s with heap:=h',toks:=tk }) (n:="range_iterator") st' rfl rfl (by decide) ⟨.int (lo+i),H,I1,⟨t,?_⟩,⟨rfl,rfl⟩,st',fun b hb=>(hf b hb).1⟩⟩
  rw [Int.mul_one]
 done:=by
  intro X hP hw hK hc i pins s σ H E I hf st hg
  subst hP hw hK
  obtain⟨f0,f1,f2,f3,f4,f5⟩:=hf it (by simp)
  exact wpAny_pyNext_range_end (I.ok.hd hc) st (by have:n≤i:=hg;omega) fun h' eb=>⟨rfl,I.turned (t':=s.toks) (fun b o hb e=>eb b o hb e) f0 f1 f3 f4 f5⟩
 self:=fun _ _ _ _ _ st h=>wpAny_pyIter_rangeiter st h
end L2
namespace L2
open PySem PySem.Spec PyProof.Rows
section
variable {X:Cx}{tg:Expr}
noncomputable def iList (K:PySem.W.Frag) (tl:TE):TI:=fun σ H R=>tl σ H fun x H1=>∃ a,x=.ref a/\(∃ xs,SqL K H1 a xs)/\R (Itl K a) H1
noncomputable def iTup (K:PySem.W.Frag) (tl:TE):TI:=fun σ H R=>tl σ H fun x H1=>∃ a,x=.ref a/\(∃ xs,SqT K H1 a xs)/\R (Itt K a) H1
theorem pi_list {l:Expr}{tl:TE} (hl:PE X l tl):PI X tg l (iList X.K tl):=by
 intro pins s σ H R I h
 refine thn (hl pins s σ H _ I h) fun v s1 ⟨x,H1,I1,r1,q1⟩=>?_
 obtain⟨a,e,⟨xs,hq⟩,q⟩:=q1
 subst e
 cases r1
 obtain⟨its,rv,p,hz⟩:=I1.list hq
 refine wpAny_pyIter_list p.isList ?_
 refine⟨s1.heap.objs.size,[s1.heap.objs.size],_,_,H1,rfl,I1.kept (t':=s1.toks) fun b o e=>Heap.get?_push_of_some _ e,turn_list a _,⟨_,Heap.get?_push_size _ rfl,rfl,rfl⟩,fun b hb=>?_,q⟩
 have e:b=s1.heap.objs.size:=by simpa using hb
 subst e
 exact I1.fpOk (Nat.le_refl _) (I1.hok.fresh (Nat.le_refl _))
theorem pi_tup {l:Expr}{tl:TE} (hl:PE X l tl):PI X tg l (iTup X.K tl):=by
 intro pins s σ H R I h
 refine thn (hl pins s σ H _ I h) fun v s1 ⟨x,H1,I1,r1,q1⟩=>?_
 obtain⟨a,e,⟨xs,hq⟩,q⟩:=q1
 subst e
 cases r1
 obtain⟨its,rv,p,hz⟩:=I1.tuple hq
 refine wpAny_pyIter_tuple (show s1.heap.IsTuple a its.toArray from p) ?_
 refine⟨s1.heap.objs.size,[s1.heap.objs.size],_,_,H1,rfl,I1.kept (t':=s1.toks) fun b o e=>Heap.get?_push_of_some _ e,turn_tuple a _,⟨_,Heap.get?_push_size _ rfl,rfl,rfl⟩,fun b hb=>?_,q⟩
 have e:b=s1.heap.objs.size:=by simpa using hb
 subst e
 exact I1.fpOk (Nat.le_refl _) (I1.hok.fresh (Nat.le_refl _))
theorem range_it {pins:List (Addr×Obj)}{σ:St}{H:Hp}{s:Shared}{R:It->Hp->Prop}{E:Value->Shared->Prop}{lo hi:Int}{t u v:Tok}{tk:Nat} (I:Inv X pins σ H s) (h1:-(2 ^ 62)≤lo) (h2:lo < 2 ^ 62) (h3:-(2 ^ 62)≤hi) (h4:hi < 2 ^ 62)
  (q:R (Itr lo (hi - lo).toNat) H):wpAny (model X.prog X.w) X.A (pyIter (.ref s.heap.objs.size)) (PIE X pins σ tg R) E { s with heap:=s.heap.push { cls:=.type "range",data:=.fields #[.int lo t,.int hi u,.int 1 v] },toks:=tk }:=by
 refine wpAny_pyIter_range (IsRange.new ..) (small_one h1 h2 h3 h4) ?_
 have I1:Inv X pins σ H { s with heap:=s.heap.push { cls:=.type "range",data:=.fields #[.int lo t,.int hi u,.int 1 v] },toks:=tk }:=I.kept fun b o e=>Heap.get?_push_of_some _ e
 refine⟨(s.heap.push { cls:=.type "range",data:=.fields #[.int lo t,.int hi u,.int 1 v] }).objs.size,[(s.heap.push { cls:=.type "range",data:=.fields #[.int lo t,.int hi u,.int 1 v] }).objs.size],_,_,H,rfl,
  I1.kept (t':=tk) fun b o e=>Heap.get?_push_of_some _ e,turn_range _ lo (hi - lo).toNat,?_,fun b hb=>?_,q⟩
 ·have e1:lo+((0:Nat):Int)*1=lo:=by simp
  have e2:(((hi - lo).toNat:Nat):Int) - ((0:Nat):Int)=Builtin.Range.rangeSize lo hi 1:=by rw [rangeSize_one];split<;>omega
  show IsRangeIter _ _ (lo+((0:Nat):Int)*1) ((((hi - lo).toNat:Nat):Int) - ((0:Nat):Int)) 1
  rw [e1,e2]
  exact Heap.get?_push_size _ rfl
 ·have e:b=(s.heap.push { cls:=.type "range",data:=.fields #[.int lo t,.int hi u,.int 1 v] }).objs.size:=by simpa using hb
  subst e
  exact I1.fpOk (Nat.le_refl _) (I1.hok.fresh (Nat.le_refl _))
noncomputable def iRng1 (ta:TA):TI:=fun σ H R=>ta σ H fun vs H1=>∃ j:Int,vs=[.int j]/\-(2 ^ 62)≤j/\j < 2 ^ 62/\R (Itr 0 j.toNat) H1
theorem pi_range1 {a:Expr}{ta:TA}{p pos:Pos} (hg:Gl X "range") (hm:X.mg "range" = none) (ha:PA X [a] ta) (hs:starEach [a] X.env=[(false,eval a X.env)]:=by rfl):PI X tg (.Call (.Name "range" p) [a] [] pos) (iRng1 ta):=by
 intro pins s σ H R I h
 refine Call_ (ld_blt I hg hm boot_range (PyProof.Rows.callWith_type1 (thn (ha pos pins s σ H _ I h) fun us s1 ⟨vs,H1,I1,r1,q1⟩=>?_) hs rfl))
 obtain⟨j,e,q1,q2,q⟩:=q1
 subst e
 cases r1 with
 | cons r rr=>
  cases rr
  obtain⟨t,rfl⟩:=r
  exact call_range_1 (range_it I1 (by omega) (by omega) q1 q2 (by simpa using q))
noncomputable def tFor (wi:TI) (g:TG) (tb:TS):TS:=fun D σ H=>wi σ H fun J H1=>∃ W:Nat->Nat->St->Hp->Prop,(∃ m,W 0 m σ H1)/\∀ i m σ H,W i m σ H->
 (J.stop i H/\D.nx σ H)∨(J.go i H/\∃ N:St->Hp->Prop,(∀ σ' H',N σ' H'->∃ m',m' < m/\W (i+1) m' σ' H')/\∀ x H',J.yld i H x H'->g x σ H' fun σ2 H2=>tb { D with nx:=N,ct:=N,bk:=D.nx } σ2 H2)
noncomputable def pinsAt (fp:List Addr) (h:Heap):List (Addr×Obj):=fp.filterMap fun b=>(h.get? b).map fun o=>(b,o)
theorem mem_pinsAt {fp:List Addr}{h:Heap}{b:Addr}{o:Obj} (hb:b ∈ fp) (e:h.get? b=some o):(b,o) ∈ pinsAt fp h:=List.mem_filterMap.mpr ⟨b,hb,by rw [e];rfl⟩
theorem of_pinsAt {fp:List Addr}{h:Heap}{p:Addr×Obj} (hp:p ∈ pinsAt fp h):p.1 ∈ fp/\h.get? p.1=some p.2:=by
 obtain⟨b,hb,e⟩:=List.mem_filterMap.mp hp
 cases q:h.get? b with
 | none=>rw [q] at e;cases e
 | some o=>
  rw [q] at e
  have e':(b,o)=p:=Option.some.inj e
  subst e'
  exact⟨hb,q⟩
theorem Inv.pinned {pins:List (Addr×Obj)}{σ:St}{H:Hp}{s:Shared}{fp:List Addr} (I:Inv X pins σ H s) (hf:∀ b ∈ fp,FpOk X pins H b) (ho:∀ b ∈ fp,∃ o,s.heap.get? b=some o/\∀ v,o.data≠.cell v):Inv X (pins++pinsAt fp s.heap) σ H s:=
 I.pins_of fun p hp=>(List.mem_append.mp hp).elim (fun z=>I.pin p (List.mem_append_right _ z)) fun z=>by
  obtain⟨hb,e⟩:=of_pinsAt z
  obtain⟨f0,f1,f2,_⟩:=hf p.1 hb
  obtain⟨o,e',d⟩:=ho p.1 hb
  rw [e] at e';cases e'
  exact⟨e,f0,f1,f2,d⟩
theorem Inv.unpinned {pins pl:List (Addr×Obj)}{σ:St}{H:Hp}{s:Shared} (I:Inv X (pins++pl) σ H s):Inv X pins σ H s:=I.pins_of fun p hp=>I.pin p (List.mem_append_right _ (List.mem_append_left _ hp))
theorem ps_for {iter:Expr}{body:List Stmt}{wi:TI}{g:TG}{tb:TS}{pos:Pos} (hp:PassesOwn (model X.prog X.w) X.A X.env X.xe) (hc:X.calm=true) (hi:PI X tg iter wi) (hg:PG X tg g) (hb:PSs X body tb)
  (hs:∀ x,foldedSetIterable iter X.env x=pure x:=by intro _;rfl):PS X (.For tg iter body [] pos) (tFor wi g tb):=by
 intro pins s σ H D I h
 refine wpAny_For (thn (hi pins s σ H _ I h) fun v s1 h1=>thn h1 fun itv s2 h2=>?_) hs
 obtain⟨it,fp,tn,J,H2,e,I2,T,st2,f2,W,⟨m0,w0⟩,turn⟩:=h2
 subst e
 -- what stays true of the iterator's objects through the loop
 have stat:∀ {H':Hp},(∀ b ∈ fp,H' b=none)->∀ b ∈ fp,FpOk X pins H' b:=fun hn b hb=>⟨hn b hb,(f2 b hb).2⟩
 refine codeAny_forLoop_any (fun n s'=>∃ i σ' H',Inv X pins σ' H' s'/\tn i s'.heap/\(∀ b ∈ fp,H' b=none)/\W i n σ' H') ?_ m0 ⟨0,σ,H2,I2,st2,fun b hb=>(f2 b hb).1,w0⟩
 rintro n s3 ⟨i,σ3,H3,I3,st3,fr3,w3⟩
 rcases turn i n σ3 H3 w3 with⟨stop,qn⟩ | ⟨go,N,hN,step⟩
 ·refine wpAny_passesOwn hp (thn (T.done X rfl rfl rfl hc i pins s3 σ3 H3 X.xe I3 (stat fr3) st3 stop) fun r s4 ⟨hr,I4⟩=>?_)
  subst hr
  exact wpAny_execs_nil ⟨σ3,H3,I4,qn⟩
 ·refine wpAny_passesOwn hp (thn (T.item X rfl rfl rfl hc i pins s3 σ3 H3 X.xe I3 (stat fr3) st3 go) fun r s4 ⟨u,hr,h4⟩=>?_)
  subst hr
  refine wpAny_passesOwn hp (thn h4 fun _ s5 ⟨x,H5,I5,r5,y5,st5,fr5⟩=>?_)
  have I5':=I5.pinned (stat fr5) (T.obj _ _ st5)
  refine wpAny_passesOwn hp (thn (hg _ s5 σ3 H5 x u _ I5' r5 (step x H5 y5)) fun _ s6 ⟨σ6,H6,I6,q6⟩=>?_)
  refine wpAny_passesOwn hp (thn (hb _ s6 σ6 H6 _ I6 q6) fun f s7 q7=>?_)
  have again:∀ {σ7:St}{H7:Hp},Inv X (pins++pinsAt fp s5.heap) σ7 H7 s7->N σ7 H7->∃ m,m < n/\∃ i σ' H',Inv X pins σ' H' s7/\tn i s7.heap/\(∀ b ∈ fp,H' b=none)/\W i m σ' H':=fun {σ7 H7} I7 n7=>by
   obtain⟨m',hm,w7⟩:=hN σ7 H7 n7
   refine⟨m',hm,i+1,σ7,H7,I7.unpinned,T.keep _ _ _ st5 fun b hb o e=>(I7.pin (b,o) (List.mem_append_right _ (List.mem_append_right _ (mem_pinsAt hb e)))).1,fun b hb=>?_,w7⟩
   obtain⟨o,e,d⟩:=T.obj _ _ st5 b hb
   exact (I7.pin (b,o) (List.mem_append_right _ (List.mem_append_right _ (mem_pinsAt hb e)))).2.1
  cases f with
  | next=>obtain⟨σ7,H7,I7,n7⟩:=q7;exact again I7 n7
  | cont=>obtain⟨σ7,H7,I7,n7⟩:=q7;exact again I7 n7
  | brk=>obtain⟨σ7,H7,I7,q7⟩:=q7;exact⟨σ7,H7,I7.unpinned,q7⟩
  | ret v=>obtain⟨x7,σ7,H7,I7,r7,q7⟩:=q7;exact⟨x7,σ7,H7,I7.unpinned,r7,q7⟩
end
end L2
namespace L2
open PySem PySem.Spec PyProof.Rows
abbrev R2:=V->V->Hp->VK->Prop
noncomputable def OpR (X:Cx) (f:Value->Value->Sem Value) (r:R2):Prop:=
 ∀ (pins:List (Addr×Obj)) (s:Shared) (σ:St) (H:Hp) (x y:V) (v u:Value) (Q:VK),Inv X pins σ H s->RelV x v->RelV y u->r x y H Q->
  wpAny (model X.prog X.w) X.A (f v u) (EP X pins σ Q) X.xe s
noncomputable def UnR (X:Cx) (f:Value->Sem Value) (r:V->Hp->VK->Prop):Prop:=
 ∀ (pins:List (Addr×Obj)) (s:Shared) (σ:St) (H:Hp) (x:V) (v:Value) (Q:VK),Inv X pins σ H s->RelV x v->r x H Q->
  wpAny (model X.prog X.w) X.A (f v) (EP X pins σ Q) X.xe s
noncomputable def CallR (X:Cx) (f:Value) (r:List V->Hp->VK->Prop):Prop:=
 ∀ (pins:List (Addr×Obj)) (s:Shared) (σ:St) (H:Hp) (xs:List V) (us:List Value) (Q:VK),Inv X pins σ H s->Vals xs us->r xs H Q->
  wpAny (model X.prog X.w) X.A (call f us) (EP X pins σ Q) X.xe s
noncomputable def TruR (X:Cx) (r:V->Hp->(Bool->Hp->Prop)->Prop):Prop:=
 ∀ (pins:List (Addr×Obj)) (s:Shared) (σ:St) (H:Hp) (x:V) (v:Value) (Q:Bool->Hp->Prop),Inv X pins σ H s->RelV x v->r x H Q->
  wpAny (model X.prog X.w) X.A (truthy v) (TP X pins σ Q) X.xe s
noncomputable def tOp (r:R2) (ta tb:TE):TE:=fun σ H Q=>ta σ H fun x H1=>tb σ H1 fun y H2=>r x y H2 Q
noncomputable def tUn (r:V->Hp->VK->Prop) (ta:TE):TE:=fun σ H Q=>ta σ H fun x H1=>r x H1 Q
noncomputable def rI (C:Int->Int->Prop) (g:Int->Int->V):R2:=fun x y H Q=>∃ i j,x=.int i/\y=.int j/\C i j/\Q (g i j) H
noncomputable def rI0 (g:Int->Int->V):R2:=fun x y H Q=>∃ i j,x=.int i/\y=.int j/\Q (g i j) H
noncomputable def rU (g:Int->V):V->Hp->VK->Prop:=fun x H Q=>∃ i,x=.int i/\Q (g i) H
section
variable {X:Cx}{a b c:Expr}{ta tb tc:TE}{pos:Pos}
theorem binT (ha:PE X a ta) (hb:PE X b tb) {pins:List (Addr×Obj)}{s:Shared}{σ:St}{H:Hp}{R:V->V->Hp->Prop} (I:Inv X pins σ H s)
  (h:ta σ H fun x H1=>tb σ H1 fun y H2=>R x y H2) {Q:Value->Shared->Prop}{f:Value->Value->Sem Value}
  (hf:∀ v u s2 x y H2,Inv X pins σ H2 s2->RelV x v->RelV y u->R x y H2->wpAny (model X.prog X.w) X.A (f v u) Q X.xe s2) :
  wpAny (model X.prog X.w) X.A (eval a X.env) (fun v s₁=>wpAny (model X.prog X.w) X.A (eval b X.env) (fun u s₂=>wpAny (model X.prog X.w) X.A (f v u) Q X.xe s₂) X.xe s₁) X.xe s:=by
 refine thn (ha pins s σ H _ I h) fun v s1 ⟨x,H1,I1,r1,q1⟩=>?_
 refine thn (hb pins s1 σ H1 _ I1 q1) fun u s2 ⟨y,H2,I2,r2,q2⟩=>?_
 exact hf v u s2 x y H2 I2 r1 r2 q2
theorem pe_op {op:Operator}{r:R2} (ho:OpR X (binaryOp op) r) (ha:PE X a ta) (hb:PE X b tb):PE X (.BinOp a op b pos) (tOp r ta tb):=by
 intro pins s σ H Q I h
 exact wpAny_BinOp (binT ha hb I h fun v u s2 x y H2 I2 rx ry q=>ho pins s2 σ H2 x y v u Q I2 rx ry q)
theorem pe_un {op:UnaryOp}{r:V->Hp->VK->Prop} (ho:UnR X (unaryOp op) r) (ha:PE X a ta):PE X (.UnaryOp op a pos) (tUn r ta):=by
 intro pins s σ H Q I h
 exact UnaryOp_ (thn (ha pins s σ H _ I h) fun v s1 ⟨x,H1,I1,r1,q1⟩=>ho pins s1 σ H1 x v Q I1 r1 q1)
theorem opI {f:Value->Value->Sem Value}{C:Int->Int->Prop}{g:Int->Int->Int}
  (rule:∀ (i j:Int) (t u:Tok) (s:Shared) (Q:Value->Shared->Prop) (E:Value->Shared->Prop),C i j->Q (.int (g i j) s.toks) { s with toks:=s.toks+1 }->wpAny (model X.prog X.w) X.A (f (.int i t) (.int j u)) Q E s) :
  OpR X f (rI C fun i j=>.int (g i j)):=by
 intro pins s σ H x y v u Q I rx ry h
 obtain⟨i,j,rfl,rfl,hc,q⟩:=h
 obtain⟨t,rfl⟩:=rx
 obtain⟨t',rfl⟩:=ry
 exact rule i j t t' s _ _ hc ⟨.int (g i j),H,I.tok _,⟨_,rfl⟩,q⟩
theorem opI0 {f:Value->Value->Sem Value}{g:Int->Int->Int}
  (rule:∀ (i j:Int) (t u:Tok) (s:Shared) (Q:Value->Shared->Prop) (E:Value->Shared->Prop),Q (.int (g i j) s.toks) { s with toks:=s.toks+1 }->wpAny (model X.prog X.w) X.A (f (.int i t) (.int j u)) Q E s) :
  OpR X f (rI0 fun i j=>.int (g i j)):=by
 intro pins s σ H x y v u Q I rx ry h
 obtain⟨i,j,rfl,rfl,q⟩:=h
 obtain⟨t,rfl⟩:=rx
 obtain⟨t',rfl⟩:=ry
 exact rule i j t t' s _ _ ⟨.int (g i j),H,I.tok _,⟨_,rfl⟩,q⟩
theorem opB0 {f:Value->Value->Sem Value}{g:Int->Int->Bool}
  (rule:∀ (i j:Int) (t u:Tok) (s:Shared) (Q:Value->Shared->Prop) (E:Value->Shared->Prop),Q (.bool (g i j)) s->wpAny (model X.prog X.w) X.A (f (.int i t) (.int j u)) Q E s) :
  OpR X f (rI0 fun i j=>.bl (g i j)):=by
 intro pins s σ H x y v u Q I rx ry h
 obtain⟨i,j,rfl,rfl,q⟩:=h
 obtain⟨t,rfl⟩:=rx
 obtain⟨t',rfl⟩:=ry
 exact rule i j t t' s _ _ ⟨.bl (g i j),H,I,rfl,q⟩
noncomputable def CDiv (i j:Int):Prop:=0 < j/\j < 1073741824
noncomputable def CPow (i j:Int):Prop:=0≤j/\j≤1000000/\i.natAbs < 2 ^ 64
noncomputable def CMul (i j:Int):Prop:=(-(2 ^ 64) < i/\i < 2 ^ 64)∨(-(2 ^ 64) < j/\j < 2 ^ 64)
theorem CMul.ok {i j:Int} (h:CMul i j):IntMulOk i j:=by
 rcases h with⟨h1,h2⟩ | ⟨h1,h2⟩
 ·exact .of_left (intBits_le_64 h1 h2)
 ·exact .of_right (intBits_le_64 h1 h2)
theorem two_pow_nn (k:Nat):(0:Int)≤2 ^ k:=by
 rw [two_pow_cast]
 exact Int.natCast_nonneg _
theorem op_add:OpR X (binaryOp .Add) (rI0 fun i j=>.int (i+j)):=opI0 fun _ _ _ _ _ _ _ q=>add_int q
theorem op_sub:OpR X (binaryOp .Sub) (rI0 fun i j=>.int (i - j)):=opI0 fun _ _ _ _ _ _ _ q=>sub_int q
theorem op_fdiv:OpR X (binaryOp .FloorDiv) (rI CDiv fun i j=>.int (i / j)):=opI fun i j _ _ _ _ _ hc q=>by
 have h1:(0:Int) < j:=hc.1
 have h2:j < 1073741824:=hc.2
 exact floordiv_int (by omega) (by rw [Int.fdiv_eq_ediv_of_nonneg i (by omega)];exact q) (.inl (PyProof.noPylong_small (by omega)))
theorem op_mod:OpR X (binaryOp .Mod) (rI (fun _ j=>0 < j) fun i j=>.int (i % j)):=opI fun i j _ _ _ _ _ hc q=>by
 have h1:(0:Int) < j:=hc
 exact mod_int' (by omega) (by rw [Int.fmod_eq_emod_of_nonneg i (by omega)];exact q)
theorem op_pow:OpR X (binaryOp .Pow) (rI CPow fun i j=>.int (i ^ j.toNat)):=opI fun _ _ _ _ _ _ _ hc q=>pow_int_small hc.1 hc.2.1 hc.2.2 q
theorem op_shr:OpR X (binaryOp .RShift) (rI (fun _ j=>0≤j) fun i j=>.int (i / 2 ^ j.toNat)):=opI fun i j _ _ _ _ _ hc q=>
 rshift_int hc (by rw [Int.fdiv_eq_ediv_of_nonneg i (two_pow_nn _)];exact q)
theorem unI {f:Value->Sem Value}{g:Int->Int}
  (rule:∀ (i:Int) (t:Tok) (s:Shared) (Q:Value->Shared->Prop) (E:Value->Shared->Prop),Q (.int (g i) s.toks) { s with toks:=s.toks+1 }->wpAny (model X.prog X.w) X.A (f (.int i t)) Q E s) :
  UnR X f (rU fun i=>.int (g i)):=by
 intro pins s σ H x v Q I rx h
 obtain⟨i,rfl,q⟩:=h
 obtain⟨t,rfl⟩:=rx
 exact rule i t s _ _ ⟨.int (g i),H,I.tok _,⟨_,rfl⟩,q⟩
theorem un_neg:UnR X (unaryOp .USub) (rU fun i=>.int (-i)):=unI fun _ _ _ _ _ q=>neg_int q
end
section
variable {X:Cx}{a b c:Expr}{ta tb tc:TE}{pos:Pos}
theorem op_lt:OpR X (compareOp .Lt) (rI0 fun i j=>.bl (decide (i < j))):=opB0 fun _ _ _ _ _ _ _ q=>lt_int q
theorem op_le:OpR X (compareOp .LtE) (rI0 fun i j=>.bl (decide (i≤j))):=opB0 fun _ _ _ _ _ _ _ q=>le_int q
theorem op_gt:OpR X (compareOp .Gt) (rI0 fun i j=>.bl (decide (j < i))):=opB0 fun _ _ _ _ _ _ _ q=>gt_int q
theorem op_ge:OpR X (compareOp .GtE) (rI0 fun i j=>.bl (decide (j≤i))):=opB0 fun _ _ _ _ _ _ _ q=>ge_int q
theorem nomark (b:Expr) {op:CmpOp} (h:op≠.In:=by decide) (h2:op≠.NotIn:=by decide):behindInMarks op b=false:=by
 have e1:(op==CmpOp.In)=false:=by cases op<;>first | rfl | exact absurd rfl h
 have e2:(op==CmpOp.NotIn)=false:=by cases op<;>first | rfl | exact absurd rfl h2
 cases b<;>simp [behindInMarks,e1,e2]
theorem pe_cmpR {op:CmpOp}{r:R2} (ho:OpR X (compareOp op) r) (ha:PE X a ta) (hb:PE X b tb) (hm:behindInMarks op b=false):PE X (.Compare a [op] [b] pos) (tOp r ta tb):=by
 intro pins s σ H Q I h
 exact wpAny_Compare1 (binT ha hb I h fun v u s2 x y H2 I2 rx ry q=>ho pins s2 σ H2 x y v u Q I2 rx ry q) hm
noncomputable def tTest (t:TE):TT:=fun σ H Q=>t σ H fun x H'=>∃ k,x=.bl k/\Q k H'
theorem pt_cmpR {op:CmpOp}{r:R2} (ho:OpR X (compareOp op) r) (ha:PE X a ta) (hb:PE X b tb) (hm:behindInMarks op b=false):PT X (.Compare a [op] [b] pos) (tTest (tOp r ta tb)):=by
 intro pins s σ H Q I h
 refine wpAny_isTrue_Compare1 (thn (ha pins s σ H _ I h) fun v s1 ⟨x,H1,I1,r1,q1⟩=>thn (hb pins s1 σ H1 _ I1 q1) fun u s2 ⟨y,H2,I2,r2,q2⟩=>
  thn (ho pins s2 σ H2 x y v u _ I2 r1 r2 q2) fun c s3 ⟨z,H3,I3,r3,k,e,q3⟩=>?_) hm
 subst e
 cases r3
 exact wpAny_truthy_bool ⟨H3,I3,q3⟩
noncomputable def tChain (r r':R2) (ta tb tc:TE):TE:=fun σ H Q=>ta σ H fun x H1=>tb σ H1 fun y H2=>r x y H2 fun z H3=>∃ k,z=.bl k/\
 (if k=true then tc σ H3 fun w' H4=>r' y w' H4 Q else Q (.bl false) H3)
theorem pe_chain {op op':CmpOp}{r r':R2} (ho:OpR X (compareOp op) r) (ho':OpR X (compareOp op') r') (ha:PE X a ta) (hb:PE X b tb) (hc:PE X c tc)
  (hm:lastMarks [op,op'] [b,c]=false:=by with_unfolding_all rfl):PE X (.Compare a [op,op'] [b,c] pos) (tChain r r' ta tb tc):=by
 intro pins s σ H Q I h
 refine Compare_chain (thn (ha pins s σ H _ I h) fun v s1 ⟨x,H1,I1,r1,q1⟩=>chain_link (thn (hb pins s1 σ H1 _ I1 q1) fun u s2 ⟨y,H2,I2,r2,q2⟩=>
  thn (ho pins s2 σ H2 x y v u _ I2 r1 r2 q2) fun d s3 ⟨z,H3,I3,r3,k,e,q3⟩=>?_)) hm
 subst e
 cases r3
 refine wpAny_truthy_bool ?_
 cases k with
 | false=>exact ite_ff ⟨.bl false,H3,I3,rfl,q3⟩
 | true=>exact ite_tt (chain_last (thn (hc pins s3 σ H3 _ I3 q3) fun w' s4 ⟨z',H4,I4,r4,q4⟩=>ho' pins s4 σ H4 y z' u w' Q I4 r2 r4 q4))
noncomputable def TruV (K:PySem.W.Frag) (x:V) (H:Hp) (k:Bool):Prop:=
 match x with
 | .non=>k=false
 | .bl b=>k=b
 | .int i=>k=(i != 0)
 | .str y=>y.length≤sizeLine/\k=((y.length:Int) != 0)
 | .byt y=>y.size≤sizeLine/\k=((y.size:Int) != 0)
 | .ref p=>(∃ xs,SqL K H p xs/\k=!xs.isEmpty)∨(∃ xs,SqT K H p xs/\k=!xs.isEmpty)∨∃ kvs,H p=some (.dK kvs)/\k=!kvs.isEmpty
 | _=>False
theorem isEmpty_kv {κ:Type}{kvs:List (κ×V)}{vs:List (κ×Value)} (r:KV kvs vs):(!vs.isEmpty)=!kvs.isEmpty:=by
 cases r<;>rfl
theorem isEmpty_of {xs:List V}{its:List Value} (r:Vals xs its):(!its.toArray.isEmpty)=!xs.isEmpty:=by
 cases r<;>simp
theorem line63:(sizeLine:Nat) < 2 ^ 63:=by rw [sizeLine_eq];decide
theorem tru_ok:TruR X (fun x H Q=>∃ k,TruV X.K x H k/\Q k H):=by
 intro pins s σ H x v Q I rx h
 obtain⟨k,e,q⟩:=h
 have hl:=line63
 have hs:sizeLine=16777216:=sizeLine_eq
 cases x with
 | non=>
  cases rx
  have e':k=false:=e
  subst e'
  exact truthy_none ⟨H,I,q⟩
 | bl b=>
  cases rx
  have e':k=b:=e
  subst e'
  exact wpAny_truthy_bool ⟨H,I,q⟩
 | int i=>
  obtain⟨t,rfl⟩:=rx
  have e':k=(i != 0):=e
  subst e'
  exact PySem.P.truthy_int ⟨H,I,q⟩
 | str y=>
  obtain⟨t,rfl⟩:=rx
  obtain⟨hy,e'⟩:y.length≤sizeLine/\k=((y.length:Int) != 0):=e
  subst e'
  exact PySem.P.truthy_str (by omega) ⟨H,I.tok _,q⟩
 | byt y=>
  obtain⟨t,rfl⟩:=rx
  obtain⟨hy,e'⟩:y.size≤sizeLine/\k=((y.size:Int) != 0):=e
  subst e'
  exact PySem.W.truthy_bytes (by omega) ⟨H,I.tok _,q⟩
 | ref p=>
  cases rx
  have e':(∃ xs,SqL X.K H p xs/\k=!xs.isEmpty)∨(∃ xs,SqT X.K H p xs/\k=!xs.isEmpty)∨∃ kvs,H p=some (.dK kvs)/\k=!kvs.isEmpty:=e
  rcases e' with⟨xs,hx,e'⟩ | ⟨xs,hx,e'⟩ | ⟨kvs,hx,e'⟩
  ·subst e'
   obtain⟨its,r,pl,hz⟩:=I.list hx
   have hlen:=r.length
   exact wpAny_truthy_list pl.isList (by simp only [List.size_toArray];omega) ⟨H,I.tok _,by rw [isEmpty_of r];exact q⟩
  ·subst e'
   obtain⟨its,r,pl,hz⟩:=I.tuple hx
   have hlen:=r.length
   exact truthy_tuple pl (by simp only [List.size_toArray];omega) ⟨H,I.tok _,by rw [isEmpty_of r];exact q⟩
  ·subst e'
   obtain⟨hz,hS,vs,r,m⟩:kvs.length≤sizeLine/\(p==sysModules)=false/\∃ vs,KV kvs vs/\s.heap.DictOf (mixKind X.prog X.w) p vs:=I.hok p _ hx
   have hlen:kvs.length=vs.length:=Paired.length r
   exact wpAny_truthy_dict hS m (by omega) ⟨H,I.tok _,by rw [isEmpty_kv r];exact q⟩
 | _=>exact (show False from e).elim
theorem pt_truth (ha:PE X a ta) (he:∀ whole,isTrue a X.env whole=(do let v ←whole;standAt a.pos;holding [v] (truthy v))) :
  PT X a (fun σ H Q=>ta σ H fun x H'=>∃ k,TruV X.K x H' k/\Q k H'):=by
 intro pins s σ H Q I h
 exact isTrue_plain (thn (ha pins s σ H _ I h) fun v s1 ⟨x,H1,I1,r1,q1⟩=>tru_ok pins s1 σ H1 x v Q I1 r1 q1) (he _)
theorem op_add_str:OpR X (binaryOp .Add) (fun x y H Q=>∃ i j,x=.str i/\y=.str j/\i.length+j.length≤sizeLine/\Q (.str (i++j)) H):=by
 intro pins s σ H x y v u Q I rx ry h
 obtain⟨i,j,rfl,rfl,hz,q⟩:=h
 obtain⟨t,rfl⟩:=rx
 obtain⟨t',rfl⟩:=ry
 exact add_str (fun t' tk=>⟨.str (i++j),H,I.tok _,⟨_,rfl⟩,q⟩) hz
theorem vals1 {x:V}{us:List Value} (r:Vals [x] us):∃ u,us=[u]/\RelV x u:=by
 cases r with
 | cons r1 r2=>cases r2;exact⟨_,rfl,r1⟩
theorem vals2 {x y:V}{us:List Value} (r:Vals [x,y] us):∃ u w',us=[u,w']/\RelV x u/\RelV y w':=by
 cases r with
 | cons r1 r2=>
  cases r2 with
  | cons r3 r4=>cases r4;exact⟨_,_,rfl,r1,r3⟩
theorem call_max2 (hc:X.calm=true):CallR X (.builtin "max") (fun xs H Q=>∃ i j,xs=[.int i,.int j]/\Q (.int (if j > i then j else i)) H):=by
 intro pins s σ H xs us Q I r h
 obtain⟨i,j,rfl,q⟩:=h
 obtain⟨u,w',rfl,⟨t,rfl⟩,⟨t',rfl⟩⟩:=vals2 r
 refine max_two_ints (I.ok.hd hc) fun h' tk k=>⟨_,H,I.kept k,?_,q⟩
 by_cases hj:j > i
 ·rw [if_pos hj,if_pos hj];exact⟨_,rfl⟩
 ·rw [if_neg hj,if_neg hj];exact⟨_,rfl⟩
theorem call_min2 (hc:X.calm=true):CallR X (.builtin "min") (fun xs H Q=>∃ i j,xs=[.int i,.int j]/\Q (.int (if j < i then j else i)) H):=by
 intro pins s σ H xs us Q I r h
 obtain⟨i,j,rfl,q⟩:=h
 obtain⟨u,w',rfl,⟨t,rfl⟩,⟨t',rfl⟩⟩:=vals2 r
 refine min_two_ints (I.ok.hd hc) fun h' tk k=>⟨_,H,I.kept k,?_,q⟩
 by_cases hj:j < i
 ·rw [if_pos hj,if_pos hj];exact⟨_,rfl⟩
 ·rw [if_neg hj,if_neg hj];exact⟨_,rfl⟩
theorem call_int1:CallR X (.type "int") (fun xs H Q=>(∃ i,xs=[.int i]/\Q (.int i) H)∨∃ k,xs=[.bl k]/\Q (.int (if k then 1 else 0)) H):=by
 intro pins s σ H xs us Q I r h
 rcases h with⟨i,rfl,q⟩ | ⟨k,rfl,q⟩
 ·obtain⟨u,rfl,t,rfl⟩:=vals1 r
  exact call_int_int ⟨.int i,H,I,⟨_,rfl⟩,q⟩
 ·obtain⟨u,rfl,r1⟩:=vals1 r
  cases r1
  exact call_int_bool ⟨.int (if k then 1 else 0),H,I.tok _,⟨_,rfl⟩,q⟩
end
end L2
namespace L2
open PySem PySem.Spec PyProof.Rows
structure ObjM (h:Heap) (x dx C:Addr) (mA:Str->Option Value):Prop where
 obj:h.get? x=some (PySem.W.instObj C dx)
 ns:h.Ns1 dx mA
 ne:dx≠x
theorem lookIn_ns {h:Heap}{dx:Addr}{mA:Str->Option Value} (n:h.Ns1 dx mA):∃ od,h.get? dx=some od/\∀ name,PySem.W.lookIn name od=some (mA name):=by
 obtain⟨o,es,ep,ho,hd,hk,_,hm⟩:=n
 refine⟨o,ho,fun name=>?_⟩
 have e:=hm name
 unfold nsFind findBy at e
 rw [←Array.find?_toList] at e
 unfold PySem.W.lookIn
 rw [hd]
 dsimp only
 split
 ·rename_i y q
  rw [q] at e
  exact congrArg some e
 ·rename_i q
  rw [q] at e
  have a:es.toList.any (·.refKey)=false:=by
   rw [List.any_eq_false]
   intro y hy
   obtain⟨z,t,hkey⟩:=hk y (Array.mem_toList_iff.mp hy)
   simp [DictEntry.refKey,hkey]
  have a':¬ es.toList.any (·.refKey)=true:=by rw [a];exact Bool.false_ne_true
  rw [if_neg a']
  exact congrArg some e
theorem ObjM.look {h:Heap}{x dx C:Addr}{mA:Str->Option Value} (I:ObjM h x dx C mA):∃ od,PySem.W.InstAt h x (PySem.W.instObj C dx) C (some od)/\∀ name,PySem.W.lookIn name od=some (mA name):=
 let ⟨od,ho,hl⟩:=lookIn_ns I.ns
 ⟨od,⟨I.obj,rfl,rfl,ho⟩,hl⟩
section
variable {prog:Program}{w:World}{A:Around}{E:Value->Shared->Prop}{s:Shared}{K:PySem.W.Frag}{x dx C f:Addr}{mA:Str->Option Value}{name:Str}{v:Value}
end
theorem RelO.some_of {v:V}{o:Option Value} (r:RelO (some v) o):∃ u,o=some u/\RelV v u:=by
 cases o with
 | none=>exact (show False from r).elim
 | some u=>exact⟨u,rfl,r⟩
section
variable {P:Program}{w:World}{H H':Hp}{h h':Heap}{a C dx:Addr}{fs fs':List (Str×V)}
theorem ins_get (hok:HOk P w H h) (e:H a=some (.ins C dx fs)):∃ mA,ObjM h a dx C mA/\(∀ f,RelO (fs.lookup f) (mA f))/\PySem.Within mA (fs.map (·.1))/\fs.length≤1000/\H dx=some (.own a):=by
 obtain⟨d,z,ne,ob,mA,n,r,q⟩:=(show ObjOk P w H h a (.ins C dx fs) from hok a _ e)
 exact⟨mA,⟨ob,n,ne⟩,r,q,z,d⟩
end
structure Cls (K:PySem.W.Frag) (C:Addr):Prop where
 pg:PySem.W.plainGet K C Str.empty=true
 hd:PySem.W.hasDictIn K C=true
 po:PySem.W.plainOver K C=true
 sa:PySem.W.findIn K (.ref C) "__setattr__" = some (some (.builtin "object.__setattr__"))
theorem Cls.get {K:PySem.W.Frag}{C:Addr} (c:Cls K C) (f:Str):PySem.W.plainGet K C f=true:=c.pg
section
variable {X:Cx}{pins:List (Addr×Obj)}{σ:St}{H:Hp}{s:Shared}{a C dx:Addr}{fs:List (Str×V)}{f:Str}{v:V}{A:Around}{E:Value->Shared->Prop}
end
section
variable {X:Cx}{o e value:Expr}{f:Str}{pos pos' tpos:Pos}{ta tv:TE}
end
section
variable {X:Cx}{pins:List (Addr×Obj)}{σ:St}{H:Hp}{s:Shared}{A:Around}{E:Value->Shared->Prop}{Q:Value->Shared->Prop}{c:Value}{b:Bool}
inductive TyOf (K:PySem.W.Frag) (H:Hp):V->Value->Prop where
 | non:TyOf K H .non (.type "NoneType")
 | bl (x:Bool):TyOf K H (.bl x) (.type "bool")
 | int (i:Int):TyOf K H (.int i) (.type "int")
 | str (x:Str):TyOf K H (.str x) (.type "str")
 | flt (x:UInt64):TyOf K H (.flt x) (.type "float")
 | lst {a:Addr}{xs:List V} (e:H a=some (.lst xs)):TyOf K H (.ref a) (.type "list")
 | frz {a:Addr}{o:Obj}{xs:List V} (e:H a=some (.frz o (.lst xs))):TyOf K H (.ref a) (.type "list")
 | tup {a:Addr}{xs:List V} (e:H a=some (.tup xs)):TyOf K H (.ref a) (.type "tuple")
 | dK {a:Addr}{kvs:List (Key×V)} (e:H a=some (.dK kvs)):TyOf K H (.ref a) (.type "dict")
 | dT {a:Addr}{kvs:List (List Key×V)} (e:H a=some (.dT kvs)):TyOf K H (.ref a) (.type "dict")
 | ins {a C dx:Addr}{fs:List (Str×V)} (e:H a=some (.ins C dx fs)) (cl:Cls K C) (ha:PySem.W.findIn K (.ref C) "__class__" = some (some (.builtin "object.__class__")))
   (hn:PySem.W.specialIn K (.builtin "object.__class__") "__get__" = some (some (.builtin "getset_descriptor.__get__"))) (htk:PySem.W.takesIn K (.builtin "object.__class__")=some true)
   (hm:PySem.W.mroIn K C (.type "object")=some true):TyOf K H (.ref a) (.ref C)
theorem isinst_ok {x:V}{u t:Value} (I:Inv X pins σ H s) (rx:RelV x u) (ty:TyOf X.K H x t) (e:PySem.W.kitOne X.K t c=some b) (h:∀ tk,Q (.bool b) { s with toks:=tk }) :
  wpAny (model X.prog X.w) A (call (.builtin "isinstance") [u,c]) Q E s:=by
 cases ty with
 | non=>cases (show u=Value.none from rx);exact PySem.W.kia_one PySem.W.kitx_none I.kIn True.intro e (fun z=>nomatch z) h
 | bl y=>cases (show u=Value.bool y from rx);exact PySem.W.kia_one PySem.W.kitx_bool I.kIn True.intro e (fun z=>nomatch z) h
 | int i=>obtain⟨t,q⟩:=(show ∃ t,u=Value.int i t from rx);cases q;exact PySem.W.kia_one PySem.W.kitx_int I.kIn True.intro e (fun z=>nomatch z) h
 | str y=>obtain⟨t,q⟩:=(show ∃ t,u=Value.str y t from rx);cases q;exact PySem.W.kia_one PySem.W.kitx_str I.kIn True.intro e (fun z=>nomatch z) h
 | flt y=>obtain⟨t,q⟩:=(show ∃ t,u=Value.float y t from rx);cases q;exact PySem.W.kia_one PySem.W.kitx_float I.kIn True.intro e (fun z=>nomatch z) h
 | @lst a xs ea=>
  cases (show u=Value.ref a from rx)
  obtain⟨_,_,n,_,h1⟩:=(show ObjOk X.prog X.w H s.heap a (.lst xs) from I.hok a _ ea)
  exact PySem.W.kia_one PySem.W.kitx_list I.kIn ⟨_,h1,rfl⟩ e (fun z=>nomatch z) h
 | @frz a ob xs ea=>
  cases (show u=Value.ref a from rx)
  obtain⟨_,_,_,n,_,h1⟩:=(show ObjOk X.prog X.w H s.heap a (.frz ob (.lst xs)) from I.hok a _ ea)
  exact PySem.W.kia_one PySem.W.kitx_list I.kIn ⟨_,h1,rfl⟩ e (fun z=>nomatch z) h
 | @tup a xs ea=>
  cases (show u=Value.ref a from rx)
  obtain⟨_,_,_,p⟩:=(show ObjOk X.prog X.w H s.heap a (.tup xs) from I.hok a _ ea)
  obtain⟨o,h1,h2,_⟩:=p
  exact PySem.W.kia_one PySem.W.kitx_tuple I.kIn ⟨o,h1,h2⟩ e (fun z=>nomatch z) h
 | @dK a kvs ea=>
  cases (show u=Value.ref a from rx)
  obtain⟨_,_,vs,_,p⟩:=(show ObjOk X.prog X.w H s.heap a (.dK kvs) from I.hok a _ ea)
  obtain⟨o,es,ep,h1,h2,_⟩:=p
  exact PySem.W.kia_one PySem.W.kitx_dict I.kIn ⟨o,h1,h2.1⟩ e (fun z=>nomatch z) h
 | @dT a kvs ea=>
  cases (show u=Value.ref a from rx)
  obtain⟨_,_,xs,_,o,es,ep,h1,h2,_⟩:=(show ObjOk X.prog X.w H s.heap a (.dT kvs) from I.hok a _ ea)
  exact PySem.W.kia_one PySem.W.kitx_dict I.kIn ⟨o,h1,h2.1⟩ e (fun z=>nomatch z) h
 | @ins a C dx fs ea cl ha hn htk hm=>
  cases (show u=Value.ref a from rx)
  obtain⟨mA,O,_⟩:=ins_get I.hok ea
  obtain⟨od,J,_⟩:=O.look
  exact PySem.W.kia_one (PySem.W.kitx_own (cl.get _) cl.hd ha hn htk hm) I.kIn J e (fun z=>nomatch z) h
end
end L2
namespace L2
open PySem PySem.Spec PyProof.Rows
structure Room (k:Nat) (A:Around):Prop where
 hd:A.handled=none
 dp:A.depth+3*k+5 < recursionLimit
 un:A.units+16*k+200 < cLine
 gd:A.guards=some []
theorem Room.mono {j k:Nat}{A:Around} (r:Room k A) (h:j≤k):Room j A:=⟨r.hd,by have:=r.dp;omega,by have:=r.un;omega,r.gd⟩
theorem Room.deeper {k:Nat}{A:Around} (r:Room (k+1) A) (env:Env):Room k (A.deeper env):=
 ⟨r.hd,by have:=r.dp;show A.depth+1+3*k+5 < _;omega,by have:=r.un;show A.units+3+16*k+200 < _;omega,r.gd⟩
theorem Room.depth {k:Nat}{A:Around} (r:Room k A):A.depth < recursionLimit:=by have:=r.dp;omega
theorem Room.units {k:Nat}{A:Around} (r:Room k A):A.units+64 < cLine:=by have:=r.un;omega
theorem Room.units0 {k:Nat}{A:Around} (r:Room k A):A.units < cLine:=by have:=r.un;omega
noncomputable def tNil:TA:=fun _ H Q=>Q [] H
noncomputable def tCons (ta:TE) (tr:TA):TA:=fun σ H Q=>ta σ H fun x H1=>tr σ H1 fun xs H2=>Q (x::xs) H2
section
variable {X:Cx}{e:Expr}{es:List Expr}{te:TE}{t:TA}{pos:Pos}
theorem pa_nil:PA X [] tNil:=fun _ _ _ _ H Q I h=>Calls.spliced_nil ⟨[],H,I,.nil,h⟩
theorem pa_cons (ha:PE X e te) (hr:PA X es t) (hs:starEach (e::es) X.env=(false,eval e X.env)::starEach es X.env:=by rfl):PA X (e::es) (tCons te t):=by
 intro pos pins s σ H Q I h
 rw [hs]
 show wpAny _ _ (spliced ((false,eval e X.env)::backTo pos (starEach es X.env))) _ _ s
 refine Calls.spliced_cons (thn (ha pins s σ H _ I h) fun u s1 ⟨x,H1,I1,r1,q1⟩=>?_)
 exact thn (hr pos pins s1 σ H1 _ I1 q1) fun us s2 ⟨xs,H2,I2,r2,q2⟩=>⟨x::xs,H2,I2,.cons r1 r2,q2⟩
noncomputable def tTup (t:TA):TE:=fun σ H Q=>t σ H fun xs H1=>xs.length≤sizeLine/\∀ p,H1 p=none->Q (.ref p) (upd H1 p (.tup xs))
noncomputable def tLst (t:TA):TE:=fun σ H Q=>t σ H fun xs H1=>xs.length≤sizeLine/\∀ p,H1 p=none->Q (.ref p) (upd H1 p (.lst xs))
theorem pe_tup {x1} (h:PA X es t):PE X (.Tuple es x1 pos) (tTup t):=by
 intro pins s σ H Q I hq
 refine wpAny_Tuple_spliced (thn (h pos pins s σ H _ I hq) fun us s1 ⟨xs,H1,I1,r,z,q⟩=>⟨by rw [←r.length];exact z,?_⟩)
 have hf:H1 s1.heap.objs.size=none:=I1.hok.fresh (Nat.le_refl _)
 refine⟨.ref s1.heap.objs.size,upd H1 s1.heap.objs.size (.tup xs),I1.laid (t':=s1.toks) (fun b u e=>Heap.get?_push_of_some _ e) (Nat.le_refl _) ?_,rfl,q _ hf⟩
 exact⟨z,us,r,IsTup1.new _ _⟩
theorem pe_lst (h:PA X es t):PE X (.List es pos) (tLst t):=by
 intro pins s σ H Q I hq
 refine wpAny_List_spliced (thn (h pos pins s σ H _ I hq) fun us s1 ⟨xs,H1,I1,r,z,q⟩=>⟨by rw [←r.length];exact z,?_⟩)
 have hf:H1 s1.heap.objs.size=none:=I1.hok.fresh (Nat.le_refl _)
 refine⟨.ref s1.heap.objs.size,upd H1 s1.heap.objs.size (.lst xs),I1.laid (t':=s1.toks) (fun b u e=>Heap.get?_push_of_some _ e) (Nat.le_refl _) ?_,rfl,q _ hf⟩
 exact⟨z,us,0,r,Heap.get?_push_size _ rfl⟩
end
abbrev Sp:=List V->Hp->VK->XK->Prop
abbrev CXT:=List Env->Hp->Shared->XK->Value->Shared->Prop
structure Env0 (P:Program) (w:World) (K:PySem.W.Frag) (mg:Str->Option Value) (base:Heap) (A:Around) (outer:List Env) (s:Shared) (H:Hp):Prop where
 frames:A.frames=some outer
 mod:Mod K mg base
 bs:∀ b o,base.get? b=some o->s.heap.get? b=some o/\H b=none
 bsz:base.objs.size≤s.heap.objs.size
 funs:s.heap.FunFrames base outer
 frf:∀ b ∈ frs outer,H b=none
 hok:HOk P w H s.heap
 bare:AllBare s.gens
noncomputable def CE (outer:List Env) (P:Program) (w:World) (H:Hp) (s:Shared) (Q:VK) (u:Value) (s':Shared):Prop:=
 ∃ v H',s'.os=s.os/\AllBare s'.gens/\Un (frs outer) [] H H' s.heap s'.heap/\HOk P w H' s'.heap/\RelV v u/\Q v H'
noncomputable def CR (CX:CXT) (outer:List Env) (P:Program) (w:World) (H:Hp) (s:Shared) (Q:VK) (E:XK) (r:Result) (s':Shared):Prop:=
 match r with
 | .ok (.ret u)=>CE outer P w H s Q u s'
 | .ok _=>False
 | .error e=>CX outer H s E e s'
structure FnOk (P:Program) (w:World) (K:PySem.W.Frag) (mg:Str->Option Value) (base:Heap) (CX:CXT) (k:Nat) (f:Addr) (fd:FuncData) (ps:List Str) (sp:Sp):Prop where
 len:∀ vs H Q E,sp vs H Q E->vs.length=ps.length
 run:∀ (A:Around) (outer:List Env) (s:Shared) (H:Hp) (args:Args) (us:List Value) (vs:List V) (Q:VK) (E:XK),Room k A->Env0 P w K mg base A outer s H->BindsTo s fd args (ps.zip us)->Vals vs us->sp vs H Q E->
  codeAny (model P w) A (.call (.ref f) args) (CR CX outer P w H s Q E) s
theorem FnOk.mono {P:Program}{w:World}{K:PySem.W.Frag}{mg:Str->Option Value}{base:Heap}{CX:CXT}{j k:Nat}{f:Addr}{fd:FuncData}{ps:List Str}{sp:Sp} (F:FnOk P w K mg base CX j f fd ps sp) (h:j≤k) :
  FnOk P w K mg base CX k f fd ps sp:=⟨F.len,fun A outer s H args us vs Q E hr=>F.run A outer s H args us vs Q E (hr.mono h)⟩
section
variable {X:Cx}{pins:List (Addr×Obj)}{σ:St}{H:Hp}{s s':Shared}
theorem Inv.env0 (I:Inv X pins σ H s):Env0 X.prog X.w X.K X.mg X.base X.A X.stack s H:=
 ⟨I.ok.frames,I.ok.mod,I.bs,Nat.le_trans I.ok.bsz I.sz,I.stack,I.stkFree,I.hok,I.bare⟩
theorem Inv.after {Q:VK}{u:Value} (I:Inv X pins σ H s) (h:CE X.stack X.prog X.w H s Q u s'):EP X pins σ Q u s':=by
 obtain⟨v,H',os,bare,un,hok,r,q⟩:=h
 obtain⟨hh,g,d,t,os'⟩:=s'
 obtain rfl:os'=s.os:=os
 exact⟨v,H',I.call (h':=hh) (g':=g) (d':=d) (t':=t) (ch:=[]) un hok bare (fun b z=>absurd z (by simp)),r,q⟩
end
noncomputable def tCall (sp:Sp) (dvs:List V) (E:XK) (t:TA):TE:=fun σ H Q=>t σ H fun vs H1=>sp (vs++dvs) H1 Q E
noncomputable def Binds (K:PySem.W.Frag) (fd:FuncData) (ps:List Str) (ds:List Value):Prop:=
 ∀ (s:Shared) (us:List Value),K.In s.heap->(us++ds).length=ps.length->BindsTo s fd ⟨us,[]⟩ (ps.zip (us++ds))
theorem Binds.all {K:PySem.W.Frag}{fd:FuncData}{ps:List Str} (h:∀ us:List Value,us.length=ps.length->bindArgs fd ⟨us,[]⟩=pure (ps.zip us)):Binds K fd ps []:=fun s us _ hl=>by
 rw [List.append_nil] at hl ⊢
 exact .of_eq (h us hl)
noncomputable def Passes (CX:CXT) (X:Cx) (E:XK):Prop:=∀ (pins:List (Addr×Obj)) (σ:St) (H:Hp) (s:Shared) (e:Value) (s':Shared),Inv X pins σ H s->CX X.stack H s E e s'->X.xe e s'
section
variable {X:Cx}{CX:CXT}{k:Nat}{f C:Addr}{fd:FuncData}{ps:List Str}{sp:Sp}{dvs:List V}{ds:List Value}{E:XK}{x m:Str}{p pos apos:Pos}{e o:Expr}{es:List Expr}{ta:TE}{t:TA}
theorem run_fn {pins:List (Addr×Obj)}{σ:St}{H:Hp}{s:Shared}{Q:VK}{us:List Value}{vs:List V} (F:FnOk X.prog X.w X.K X.mg X.base CX k f fd ps sp) (hr:Room k X.A) (hb:Binds X.K fd ps ds) (hd:Vals dvs ds) (hx:Passes CX X E)
  (I:Inv X pins σ H s) (r:Vals vs us) (h:sp (vs++dvs) H Q E):wpAny (model X.prog X.w) X.A (call (.ref f) us) (EP X pins σ Q) X.xe s:=by
 have r2:Vals (vs++dvs) (us++ds):=r.append hd
 have hl:(us++ds).length=ps.length:=by rw [←r2.length];exact F.len _ _ _ _ h
 refine wpAny_call (codeAny_mono (F.run X.A X.stack s H ⟨us,[]⟩ (us++ds) (vs++dvs) Q E hr I.env0 (hb s us I.kIn hl) r2 h) fun r s' hq=>?_)
 cases r with
 | error e=>exact hx pins σ H s e s' I hq
 | ok fl=>
  cases fl with
  | ret u=>exact I.after hq
  | next=>exact False.elim hq
  | brk=>exact False.elim hq
  | cont=>exact False.elim hq
theorem pe_call (F:FnOk X.prog X.w X.K X.mg X.base CX k f fd ps sp) (hr:Room k X.A) (hg:Gl X x) (hm:X.mg x=some (.ref f)) (hk:PySem.W.keepIn X.K (.ref f)=true) (hb:Binds X.K fd ps ds) (hd:Vals dvs ds) (hx:Passes CX X E)
  (ha:PA X (e::es) t) (hdb:(x==("__debug__" : Str))=false:=by decide) (he:starEach (e::es) X.env=(false,eval e X.env)::starEach es X.env:=by rfl) (hpl:(backTo pos (starEach es X.env)).any (·.1)=false:=by rfl) :
  PE X (.Call (.Name x p) (e::es) [] pos) (tCall sp dvs E t):=by
 intro pins s σ H Q I h
 refine wpAny_Call_Name_kw (ld_glob I hg hm ?_ hdb)
 refine PySem.W.callWith_K (h₀:=X.base) I.ok.mod.kin hk (thn (ha pos pins s σ H _ I h) fun us s1 ⟨vs,H1,I1,r,q⟩=>⟨I1.kIn,?_⟩) he hpl
 exact run_fn F hr hb hd hx I1 r q
end
section
variable {X:Cx}{CX:CXT}{k:Nat}{f C:Addr}{fd:FuncData}{ps ks:List Str}{sp:Sp}{E:XK}{x m:Str}{p pos apos kpos:Pos}{e o:Expr}{es:List Expr}{kws:List Keyword}{te ta:TE}{t tk:TA}{nm:Option Str}
variable {g:List Value->List Value->List Value}{gV:List V->List V->List V}
end
structure FnScope (N P:List Str) (sc:Scope):Prop where
 kind:sc.kind=.function
 co:sc.isCoroutine=false
 gen:sc.isGenerator=false
 nd:N.Nodup
 pre:N.take P.length=P
 par:∀ x ∈ P,sc.names.lookup x=some .local∨sc.names.lookup x=some .cell
 nofree:∀ y ∈ sc.names,y.2≠.free
theorem bindL_out {kindOf:Str->Option NameKind}{x:Str}:∀ {binds:List (Str×Value)}{m:Str->Option Value},(∀ v,(x,v) ∉ binds)->bindL kindOf binds m x=m x
 | [],_,_=>rfl
 | (n,v)::r,m,h=>by
  unfold bindL
  rw [bindL_out fun w hw=>h w (List.mem_cons_of_mem _ hw)]
  split
  ·have:x≠n:=by rintro rfl;exact h v List.mem_cons_self
   simp [this]
  ·rfl
theorem bindC_out {kindOf:Str->Option NameKind}{x:Str}:∀ {binds:List (Str×Value)}{m:Str->Option Value},(∀ v,(x,v) ∉ binds)->bindC kindOf binds m x=m x
 | [],_,_=>rfl
 | (n,v)::r,m,h=>by
  unfold bindC
  rw [bindC_out fun w hw=>h w (List.mem_cons_of_mem _ hw)]
  split
  ·rfl
  ·have:x≠n:=by rintro rfl;exact h v List.mem_cons_self
   simp [this]
theorem bindL_get {kindOf:Str->Option NameKind}{x:Str}{v:Value}:∀ {P:List Str}{vs:List Value}{i:Nat}{m:Str->Option Value},P.Nodup->P[i]?=some x->vs[i]?=some v->kindOf x=some .local->
  bindL kindOf (P.zip vs) m x=some v
 | [],_,_,_,_,h,_,_=>by simp at h
 | _::_,[],_,_,_,_,h,_=>by simp at h
 | p::P,w::vs,0,m,nd,h1,h2,hk=>by
  simp at h1 h2;subst h1;subst h2
  show bindL kindOf ((p,w)::P.zip vs) m p=_
  unfold bindL
  rw [bindL_out fun v hv=>(List.nodup_cons.mp nd).1 (List.of_mem_zip hv).1,if_pos hk]
  simp
 | p::P,w::vs,i+1,m,nd,h1,h2,hk=>by
  show bindL kindOf ((p,w)::P.zip vs) m x=_
  unfold bindL
  exact bindL_get (i:=i) (List.nodup_cons.mp nd).2 (by simpa using h1) (by simpa using h2) hk
theorem bindC_get {kindOf:Str->Option NameKind}{x:Str}{v:Value}:∀ {P:List Str}{vs:List Value}{i:Nat}{m:Str->Option Value},P.Nodup->P[i]?=some x->vs[i]?=some v->kindOf x≠some .local->
  bindC kindOf (P.zip vs) m x=some v
 | [],_,_,_,_,h,_,_=>by simp at h
 | _::_,[],_,_,_,_,h,_=>by simp at h
 | p::P,w::vs,0,m,nd,h1,h2,hk=>by
  simp at h1 h2;subst h1;subst h2
  show bindC kindOf ((p,w)::P.zip vs) m p=_
  unfold bindC
  rw [bindC_out fun v hv=>(List.nodup_cons.mp nd).1 (List.of_mem_zip hv).1,if_neg hk]
  simp
 | p::P,w::vs,i+1,m,nd,h1,h2,hk=>by
  show bindC kindOf ((p,w)::P.zip vs) m x=_
  unfold bindC
  exact bindC_get (i:=i) (List.nodup_cons.mp nd).2 (by simpa using h1) (by simpa using h2) hk
noncomputable def start (N:List Str) (vs:List V):St:=vs.map some++List.replicate (N.length - vs.length) none
noncomputable def cxOf (CX:CXT) (P:Program) (w:World) (K:PySem.W.Frag) (mg:Str->Option Value) (base:Heap) (N:List Str) (qual:Str) (scope:Scope) (f:Addr) (cd:Value) (A:Around) (outer:List Env) (s:Shared) (H:Hp) (E:XK):Cx where
 prog:=P
 w:=w
 K:=K
 mg:=mg
 base:=base
 A:=A.deeper (envOfC qual scope s.heap.objs.size f cd)
 N:=N
 s₀:=s
 H₀:=H
 env:=envOfC qual scope s.heap.objs.size f cd
 outer:=outer
 stack:=envOfC qual scope s.heap.objs.size f cd::outer
 ex:=[]
 calm:=true
 fn:=fun _=>true
 pn:=[]
 xe:=fun e s'=>wpAny (model P w) (A.deeper (envOfC qual scope s.heap.objs.size f cd)) (leaving (envOfC qual scope s.heap.objs.size f cd) e) (fun _ s''=>CX outer H s E e s'') (fun e' s''=>CX outer H s E e' s'') s'
theorem cell_has {sc:Scope}{n:Nat}{x:Str} (h:sc.names.lookup x=some .cell):∃ c,(cellsFrom n sc.names []).lookup x=some c:=by
 have q:=PySem.W.cellsFrom_some sc.names n [] (.inl h)
 exact Option.isSome_iff_exists.mp q
theorem inv_start {CX:CXT}{P:Program}{w:World}{K:PySem.W.Frag}{mg:Str->Option Value}{base:Heap}{N ps:List Str}{qual:Str}{scope:Scope}{f:Addr}{cd:Value}{A:Around}{outer:List Env}{s s1:Shared}{H:Hp}{E:XK}{us:List Value}{vs:List V}
  (S:FnScope N ps scope) (hd:A.handled=none) (e0:Env0 P w K mg base A outer s H) (hl:vs.length=ps.length) (r:Vals vs us)
  (x:InCallC s s.heap.objs.size (bindL (envOfC qual scope s.heap.objs.size f cd).kindOf (ps.zip us) fun _=>none) (cellsFrom (s.heap.objs.size+1) scope.names []) (bindC (envOfC qual scope s.heap.objs.size f cd).kindOf (ps.zip us) fun _=>none) s1) :
  Inv (cxOf CX P w K mg base N qual scope f cd A outer s H E) [] (start N vs) H s1:=by
 have hpl:ps.length≤N.length:=by have:=congrArg List.length S.pre;rw [List.length_take] at this;omega
 obtain⟨h1,tk,rfl,hk⟩:=x.done
 have noA:∀ b:Addr,b ∉ (cxOf CX P w K mg base N qual scope f cd A outer s H E).ex:=fun b z=>absurd (show b ∈ ([]:List Addr) from z) (by simp)
 refine⟨⟨e0.mod,S.kind,rfl,rfl,Nat.le_refl _,fun y z c h1 h2=>?_,fun y hy=>?_,fun y c _ h=>?_,fun _=>hd,Around.frames_deeper e0.frames,.inr ⟨rfl,rfl⟩,fun b z=>absurd z (noA b),e0.bs,e0.bsz,fun b _ _=>noA b,fun b z=>absurd z (noA b),e0.funs,e0.frf⟩,
  rfl,e0.bare,Un.kept hk,⟨_,x.toInCall.ns,fun i y v h1 h2 h3=>?_⟩,fun y c h=>⟨_,x.cell y c h⟩,e0.hok.fresh (Nat.le_refl _),fun y c h=>?_,fun p hp=>absurd (show p ∈ ([]:List (Addr×Obj)) from hp) (by simp),e0.hok.kept hk,?_⟩
 ·exact name_of_addr x.apart (PySem.mem_of_lookup h1) (PySem.mem_of_lookup h2)
 ·have hy:scope.names.lookup y=some .cell∨scope.names.lookup y=some .free:=hy
  rcases hy with hy | hy
  ·exact cell_has hy
  ·exact absurd rfl (S.nofree _ (PySem.mem_of_lookup hy))
 ·exact Nat.le_of_lt (x.above y c (PySem.mem_of_lookup h))
 ·have hi:i < vs.length:=by
   unfold start at h2
   by_cases hi:i < vs.length
   ·exact hi
   ·rw [List.getElem?_append_right (by simpa using hi)] at h2
    rw [List.getElem?_replicate] at h2
    split at h2<;>cases h2
  have ha:vs[i]?=some v:=by
   unfold start at h2
   rw [List.getElem?_append_left (by simpa using hi),List.getElem?_map] at h2
   cases e:vs[i]? with
   | none=>rw [e] at h2;cases h2
   | some a=>rw [e] at h2;cases h2;rfl
  obtain⟨u,hu,rv⟩:=r.get ha
  have hp:ps[i]?=some y:=by
   rw [←S.pre,List.getElem?_take_of_lt (by omega)];exact h1
  have ndP:ps.Nodup:=by rw [←S.pre];exact S.nd.sublist (List.take_sublist _ _)
  refine⟨u,rv,?_⟩
  rcases S.par y (List.mem_of_getElem? hp) with k | k
  ·exact .inl ⟨k,bindL_get ndP hp hu k⟩
  ·obtain⟨c,e⟩:=cell_has (n:=s.heap.objs.size+1) k
   refine .inr ⟨.inl k,c,e,?_⟩
   have q:=x.cell y c e
   rw [bindC_get ndP hp hu (by show scope.names.lookup y≠_;rw [k];decide)] at q
   exact q
 ·exact e0.hok.fresh (Nat.le_of_lt (x.above y c (PySem.mem_of_lookup h)))
 ·unfold start
  show _=N.length
  rw [List.length_append,List.length_map,List.length_replicate]
  omega
theorem fn_of {CX:CXT}{P:Program}{w:World}{K:PySem.W.Frag}{mg:Str->Option Value}{base:Heap}{k:Nat}{f:Addr}{name qual:Str}{params:Arguments}{body:List Stmt}{scope:Scope}{dV kV doc pm cdv ct oc:Value}{an od:Option Addr}
  {osl:Array (Option Value)}{N ps:List Str}{sp:Sp} (lk:K.lookup f=some ⟨oc,od,.func (PySem.W.fnOf name qual params body scope dV kV doc pm an cdv ct),osl⟩) (hcd:PySem.W.codeIn K cdv qual=true) (S:FnScope N ps scope)
  (len:∀ vs H Q E,sp vs H Q E->vs.length=ps.length)
  (hbody:∀ (A:Around) (outer:List Env) (s:Shared) (H:Hp) (vs:List V) (Q:VK) (E:XK),Room k (A.deeper (envOfC qual scope s.heap.objs.size f cdv))->sp vs H Q E->
    ∃ t,PSs (cxOf CX P w K mg base N qual scope f cdv A outer s H E) body t/\t { nx:=fun _ H'=>Q .non H',rt:=Q } (start N vs) H) :
  FnOk P w K mg base CX (k+1) f (PySem.W.fnOf name qual params body scope dV kV doc pm an cdv ct) ps sp:=by
 refine⟨len,fun A outer s H args us vs Q E hr e0 hb r hsp=>?_⟩
 have hl:=len _ _ _ _ hsp
 have KX:K.In s.heap:=e0.mod.kin.keeps fun b o e=>(e0.bs b o e).1
 have lim:s.heap.NoLimit:=e0.mod.nolimit.keeps fun b o e=>(e0.bs b o e).1
 have hkind:∀ y ∈ ps.zip us,scope.names.lookup y.1=some .local∨(scope.names.lookup y.1=some .cell/\((cellsFrom (s.heap.objs.size+1) scope.names []).lookup y.1).isSome=true):=fun⟨n,v⟩ hy=>by
  rcases S.par n (List.of_mem_zip hy).1 with q | q
  ·exact .inl q
  ·exact .inr ⟨q,PySem.W.cellsFrom_some _ _ _ (.inl q)⟩
 refine codeAny_call_function hr.depth (KX _ _ lk) rfl S.co S.gen rfl (PySem.W.codeRec_of KX hcd) (hb _ _ _ _ ?_)
 refine wpAny_newFunctionEnv_cells S.kind hkind fun env he s1 x=>?_
 subst he
 refine⟨lim.keeps x.toInCall.keep,codeAny_func ?_⟩
 obtain⟨t,ht,hq⟩:=hbody A outer s H vs Q E (hr.deeper _) hsp
 have I:Inv (cxOf CX P w K mg base N qual scope f cdv A outer s H E) [] (start N vs) H s1:=inv_start S hr.hd e0 hl r x
 refine wpAny_mono (ht [] s1 (start N vs) H _ I hq) (fun fl s' hs=>?_) fun e s' hs=>hs
 have fin:∀ {σ':St}{H':Hp}{v:V}{u:Value},Inv (cxOf CX P w K mg base N qual scope f cdv A outer s H E) [] σ' H' s'->RelV v u->Q v H'->CE outer P w H s Q u s':=
  fun {σ' H' v u} J rv q=>⟨v,H',J.os,J.bare,J.base,J.hok,rv,q⟩
 cases fl with
 | ret u=>
  obtain⟨v,σ',H',J,rv,q⟩:=hs
  exact fin J rv q
 | next=>
  obtain⟨σ',H',J,q⟩:=hs
  exact fin (v:=V.non) (u:=Value.none) J rfl q
 | brk=>
  obtain⟨_,_,_,q⟩:=hs
  exact False.elim q
 | cont=>
  obtain⟨_,_,_,q⟩:=hs
  exact False.elim q
end L2
namespace L2
open PySem PySem.Spec PyProof.Rows
section
variable {X:Cx}{x:Str}{p pos:Pos}{e:Expr}{es:List Expr}{t:TA}{id T:String}{r:List V->Hp->VK->Prop}
noncomputable def tCB (r:List V->Hp->VK->Prop) (t:TA):TE:=fun σ H Q=>t σ H fun vs H1=>r vs H1 Q
theorem pe_callB (hc:CallR X (.builtin id) r) (hg:Gl X x) (hm:X.mg x=none) (hv:bootBuiltins x=some (.builtin id)) (ha:PA X (e::es) t) (hn:x≠"__name__":=by decide) (hdb:(x==("__debug__" : Str))=false:=by decide)
  (he:starEach (e::es) X.env=(false,eval e X.env)::starEach es X.env:=by rfl) (hpl:(backTo pos (starEach es X.env)).any (·.1)=false:=by rfl):PE X (.Call (.Name x p) (e::es) [] pos) (tCB r t):=by
 intro pins s σ H Q I h
 refine wpAny_Call_Name_kw (ld_blt I hg hm hv ?_ hn hdb)
 exact PyProof.Rows.callWith_builtin1 (thn (ha pos pins s σ H _ I h) fun us s1 ⟨vs,H1,I1,r1,q1⟩=>hc pins s1 σ H1 vs us Q I1 r1 q1) he hpl
theorem pe_callTy (hc:CallR X (.type T) r) (hg:Gl X x) (hm:X.mg x=none) (hv:bootBuiltins x=some (.type T)) (ha:PA X (e::es) t) (hn:x≠"__name__":=by decide) (hdb:(x==("__debug__" : Str))=false:=by decide)
  (he:starEach (e::es) X.env=(false,eval e X.env)::starEach es X.env:=by rfl) (hpl:(backTo pos (starEach es X.env)).any (·.1)=false:=by rfl):PE X (.Call (.Name x p) (e::es) [] pos) (tCB r t):=by
 intro pins s σ H Q I h
 refine wpAny_Call_Name_kw (ld_blt I hg hm hv ?_ hn hdb)
 exact PyProof.Rows.callWith_type1 (thn (ha pos pins s σ H _ I h) fun us s1 ⟨vs,H1,I1,r1,q1⟩=>hc pins s1 σ H1 vs us Q I1 r1 q1) he hpl
end
end L2
namespace HT
open PySem PyProof.Rows
noncomputable def lexLt:List Int->List Int->Bool
 | [],[]=>false
 | [],_::_=>true
 | _::_,[]=>false
 | x::xs,y::ys=>if x=y then lexLt xs ys else decide (x < y)
theorem lexLt_cons (x y:Int) (xs ys:List Int):lexLt (x::xs) (y::ys)=if x=y then lexLt xs ys else decide (x < y):=rfl
theorem lexLt_nil_nil:lexLt [] []=false:=rfl
theorem lexLt_nil_cons (y:Int) (ys:List Int):lexLt [] (y::ys)=true:=rfl
theorem lexLt_cons_nil (x:Int) (xs:List Int):lexLt (x::xs) []=false:=rfl
theorem eqAt_int (A:Around) (s:Shared) (a:Int) (t:Tok) (c:Int) (u:Tok):∃ e,SeqAt.EqAt A s (.int a t) (.int c u) e/\(e=true↔a=c):=
 ⟨(a==c),SeqAt.EqAt.int_int a t c u,by simp⟩
theorem rcLt_int (A:Around) (s:Shared) (a:Int) (t:Tok) (c:Int) (u:Tok) (prog:Program) (w:World) (E:Value->Shared->Prop) (Q:Value->Shared->Prop) (h:Q (.bool (decide (a < c))) s) :
  wpAny (model prog w) A (richCompare .Lt (.int a t) (.int c u)) Q E s:=
 (PyProof.Rows.lt_int h:wpAny (model prog w) A (compareOp .Lt (.int a t) (.int c u)) Q E s)
section
open PySem.SeqAt
open PySem.AutoSeq1 (wpAny_loadPart')
open PySem.MeetsSeq PySem.MeetsSeq2 PySem.MeetsSeq3
theorem tuple_lt_ints (l b:Addr) (items items2:Array Value) (n n2:Nat) (dd dd2:Option Addr) (sl sl2:Array (Option Value)) (ns ms:List Int) (hi:IntsAre items.toList ns) (hj:IntsAre items2.toList ms) :
  Meets (Builtin.«tuple.__lt__» ⟨[.ref l,.ref b],[]⟩)
   (fun _ R s=>s.heap.get? l=some { cls:=.type "tuple",dict:=dd,data:=.seq items n,slots:=sl }/\s.heap.get? b=some { cls:=.type "tuple",dict:=dd2,data:=.seq items2 n2,slots:=sl2 }/\
     R (.ok (.ret (.bool (lexLt ns ms)))) s):=
 .of_wp fun prog w A R s h=>by
  obtain⟨hp,g,d,tk,os⟩:=s;obtain⟨hl,hb,h⟩:=h
  have f2:=AutoSeq1.sub_tuple_tuple
  have z1:items.size=ns.length:=by rw [←hi.length];simp
  have z2:items2.size=ms.length:=by rw [←hj.length];simp
  wp_walk using wpAny_loadPart' hl,wpAny_loadPart' hb,wpAny_forIn_list _ (fun rest b s'=>b.1=none/\s'=⟨hp,g,d,tk,os⟩/\∃ (vs ws:List Value) (ns' ms':List Int),rest=vs.zip ws/\
   IntsAre vs ns'/\IntsAre ws ms'/\ns'.length+items2.size=ms'.length+items.size/\R (.ok (.ret (.bool (lexLt ns' ms')))) ⟨hp,g,d,tk,os⟩) _
  case turn=>
   rintro⟨y,x⟩ rest b s' ⟨hb',rfl,vs,ws,ns',ms',hz,hvi,hwi,hlen,hR⟩
   cases hvi with
   | nil=>rw [List.zip_nil_left] at hz;cases hz
   | cons a t hvi'=>
    cases hwi with
    | nil=>rw [List.zip_nil_right] at hz;cases hz
    | cons c u hwi'=>
     rw [List.zip_cons_cons] at hz
     injection hz with hyx hrest
     injection hyx with hy hx
     subst hy hx
     rw [lexLt_cons] at hR
     simp only [List.length_cons] at hlen
     obtain⟨e,he,hiff⟩:=eqAt_int A.in1 ⟨hp,g,d,tk,os⟩ a t c u
     refine wpAny_bind (he prog w _ _ ?_)
     cases e with
     | true=>
      rw [if_pos (hiff.mp rfl)] at hR
      wp_walk
      exact⟨rfl,rfl,_,_,_,_,hrest,hvi',hwi',by omega,hR⟩
     | false=>
      rw [if_neg (fun q=>absurd (hiff.mpr q) Bool.false_ne_true)] at hR
      have hri:=rcLt_int A.in1 ⟨hp,g,d,tk,os⟩ a t c u prog w
      wp_walk using hri
      exact⟨_,rfl,by simpa using hR⟩
  case fin=>
   rintro⟨b1,b2⟩ s' ⟨hb',rfl,vs,ws,ns',ms',hz,hvi,hwi,hlen,hR⟩
   simp only at hb'
   subst hb'
   have hv:lexLt ns' ms'=decide (items.size < items2.size):=by
    cases hvi with
    | nil=>
     cases hwi with
     | nil=>
      simp only [List.length_nil] at hlen
      rw [lexLt_nil_nil]
      exact (decide_eq_false (by omega)).symm
     | cons c u hw=>
      simp only [List.length_nil,List.length_cons] at hlen
      rw [lexLt_nil_cons]
      exact (decide_eq_true (by omega)).symm
    | cons a t hv=>
     cases hwi with
     | nil=>
      simp only [List.length_nil,List.length_cons] at hlen
      rw [lexLt_cons_nil]
      exact (decide_eq_false (by omega)).symm
     | cons c u hw=>
      rw [List.zip_cons_cons] at hz
      cases hz
   rw [hv] at hR
   wp_walk
   exact⟨_,rfl,by simpa [Builtin.Tuple.tupleCompareSizes] using hR⟩
  case h=>
   exact⟨rfl,rfl,items.toList,items2.toList,ns,ms,rfl,hi,hj,by omega,h⟩
end
section
variable {prog:Program}{w:World}{A:Around}{E:Value->Shared->Prop}{s:Shared}
theorem lt_tupInts {l b:Addr}{items items2:Array Value}{ns ms:List Int}{Q:Value->Shared->Prop} (hl:IsTup s.heap l items) (hb:IsTup s.heap b items2) (hi:IntsAre items.toList ns) (hj:IntsAre items2.toList ms)
  (hu:A.units < cLine) (h:Q (.bool (lexLt ns ms)) s):wpAny (model prog w) A (compareOp .Lt (.ref l) (.ref b)) Q E s:=by
 obtain⟨⟨cls,dd,data,sl⟩,ho,hc,n,hd⟩:=id hl
 obtain⟨⟨cls2,dd2,data2,sl2⟩,ho2,hc2,n2,hd2⟩:=id hb
 simp only at hc hd hc2 hd2
 subst hc hd hc2 hd2
 exact richCompare_meets_room (op:=.Lt) ⟨_,ho,rfl⟩ ⟨_,ho2,rfl⟩ PySem.F.slot_tuple_lt PySem.F.entry_tuple_lt (PySem.F.args_tuple_lt_2 _ _) (tuple_lt_ints l b items items2 n n2 dd dd2 sl sl2 ns ms hi hj)
  ⟨ho,ho2,show Value.bool (lexLt ns ms)≠Value.notImplemented/\Q (.bool (lexLt ns ms)) s from ⟨(fun x=>nomatch x),h⟩⟩ hu
theorem cat_tup {t b:Addr}{vs ws:List Value}{Q:Value->Shared->Prop} (ht:IsTup s.heap t vs.toArray) (hb:IsTup s.heap b ws.toArray) (hv:vs≠[])
  (h1:ws=[]->Q (.ref t) s) (h2:ws≠[]->Q (.ref s.heap.objs.size) { s with heap:=s.heap.push { cls:=.type "tuple",data:=.seq (vs++ws).toArray } })
  (hsz:vs.length+ws.length≤sizeLine):wpAny (model prog w) A (binaryOp .Add (.ref t) (.ref b)) Q E s:=by
 obtain⟨⟨cls,dd,data,sl⟩,ho,hc,n,hd⟩:=id ht
 obtain⟨⟨cls2,dd2,data2,sl2⟩,ho2,hc2,n2,hd2⟩:=id hb
 simp only at hc hd hc2 hd2
 subst hc hd hc2 hd2
 have e:vs.toArray++ws.toArray=(vs++ws).toArray:=by simp
 by_cases hw:ws=[]
 ·exact concat_meets ⟨_,ho,rfl⟩ ⟨_,ho2,rfl⟩ noFill_tuple_add seq_tuple_add PySem.F.slot_tuple_add PySem.F.entry_tuple_add (PySem.F.args_tuple_add_2 _ _)
   (tuple_addW1 t b vs.toArray ws.toArray n n2 dd dd2 sl sl2 (by simpa using hv) (by simp [hw])) ⟨ho,ho2,h1 hw⟩
 ·refine concat_meets ⟨_,ho,rfl⟩ ⟨_,ho2,rfl⟩ noFill_tuple_add seq_tuple_add PySem.F.slot_tuple_add PySem.F.entry_tuple_add (PySem.F.args_tuple_add_2 _ _)
   (tuple_addW2 t b vs.toArray ws.toArray n n2 dd dd2 sl sl2 (by simpa using hv) (by simpa using hw) (by rw [List.size_toArray,List.size_toArray];exact hsz)) ⟨ho,ho2,?_⟩
  rw [e]
  exact h2 hw
noncomputable def sIx (n d:Nat):Option Int->Nat
 | none=>d
 | some v=>if v < 0 then (v+(n:Int)).toNat else min v.toNat n
theorem sIx_none (n d:Nat):sIx n d none=d:=rfl
theorem sIx_nat (n d k:Nat):sIx n d (some (k:Int))=min k n:=by
 show (if (k:Int) < 0 then ((k:Int)+(n:Int)).toNat else min (k:Int).toNat n)=min k n
 rw [if_neg (by omega),Int.toNat_natCast]
theorem sIx_le (n d:Nat) (hd:d≤n) (o:Option Int):sIx n d o≤n:=by
 cases o with
 | none=>exact hd
 | some v=>
  show (if v < 0 then (v+(n:Int)).toNat else min v.toNat n)≤n
  by_cases hv:v < 0
  ·rw [if_pos hv];omega
  ·rw [if_neg hv];exact Nat.min_le_right _ _
theorem clip_eq (v:Int) (n d:Nat):(if v < 0 then max (v+(n:Int)) 0 else min v (n:Int))=((sIx n d (some v):Nat):Int):=by
 show (if v < 0 then max (v+(n:Int)) 0 else min v (n:Int))=(((if v < 0 then (v+(n:Int)).toNat else min v.toNat n):Nat):Int)
 by_cases hv:v < 0
 ·simp only [if_pos hv];omega
 ·simp only [if_neg hv];omega
theorem adjust_gen (lo hi:Option Int) (n:Nat):Builtin.Slice.sliceAdjust lo hi 1 (n:Int)=(((sIx n 0 lo:Nat):Int),((sIx n n hi:Nat):Int)):=by
 have h1:¬ ((1:Int) < 0):=by omega
 unfold Builtin.Slice.sliceAdjust
 simp only [h1,if_false]
 refine Prod.ext ?_ ?_
 ·cases lo with
  | none=>rfl
  | some v=>exact clip_eq v n 0
 ·cases hi with
  | none=>rfl
  | some v=>exact clip_eq v n n
theorem places_gen (i j:Nat):Builtin.Slice.slicePlaces (i:Int) (j:Int) 1=j - i:=by
 unfold Builtin.Slice.slicePlaces
 have h1:(1:Int) > 0:=by omega
 simp only [h1,if_true,Int.ediv_one]
 split<;>omega
theorem slicePart_ {v:Value}{o:Option Int}{Q:Option Int->Shared->Prop} (p:IsPart v o) (h:Q o s):wpAny (model prog w) A (Builtin.Slice.slicePartIndex v) Q E s:=by
 cases p with
 | none=>exact slicePart_none h
 | int i t=>exact slicePart_int h
theorem sliceApplied_gen {sl:Addr}{vl vu:Value}{lo hi:Option Int}{n:Nat}{Q:Int×Int×Nat->Shared->Prop} (hs:s.heap.IsSliceOf sl vl vu .none) (pl:IsPart vl lo) (pu:IsPart vu hi)
  (h:Q (((sIx n 0 lo:Nat):Int),1,sIx n n hi - sIx n 0 lo) s):wpAny (model prog w) A (Builtin.Slice.sliceApplied (.ref sl) (pure (n:Int))) Q E s:=by
 obtain⟨os,hos,hcs,hds⟩:=id hs
 unfold Builtin.Slice.sliceApplied Builtin.Slice.sliceFields
 refine wpAny_bind (wpAny_bind (wpAny_field hos hds (x:=vl) rfl (wpAny_bind (wpAny_field hos hds (x:=vu) rfl (wpAny_bind (wpAny_field hos hds (x:=.none) rfl (wpAny_pure ?_)))))))
 refine wpAny_bind (slicePart_none ?_)
 show wpAny _ _ (if ((1:Int)==0)=true then _ else _) _ _ s
 rw [if_neg (by decide)]
 refine wpAny_bind (slicePart_ pl (wpAny_bind (slicePart_ pu (wpAny_bind (wpAny_pure ?_)))))
 show wpAny _ _ (match Builtin.Slice.sliceAdjust lo hi 1 (n:Int) with | (lo,hi)=>pure (lo,(1:Int),Builtin.Slice.slicePlaces lo hi 1)) _ _ s
 rw [adjust_gen lo hi n]
 show wpAny _ _ (pure (((sIx n 0 lo:Nat):Int),(1:Int),Builtin.Slice.slicePlaces ((sIx n 0 lo:Nat):Int) ((sIx n n hi:Nat):Int) 1)) _ _ s
 rw [places_gen]
 exact wpAny_pure h
theorem pick_gen (xs:Array Value) (i k:Nat):((List.range k).filterMap fun (m:Nat)=>xs[((i:Int)+(m:Int)*1).toNat]?).toArray=((xs.toList.drop i).take k).toArray:=by
 have e:(fun (m:Nat)=>xs[((i:Int)+(m:Int)*1).toNat]?)=fun m=>xs[i+m]?:=by
  funext m
  have:((i:Int)+(m:Int)*1).toNat=i+m:=by omega
  rw [this]
 rw [e]
 have:=pick_run xs i k
 rw [List.filterMap_map] at this
 have e2:((fun x=>xs[x]?) ∘ fun x=>i+x)=fun m=>xs[i+m]?:=rfl
 rw [e2] at this
 rw [this]
theorem getItem_tuple_cut {t sl:Addr}{items:Array Value}{vl vu:Value}{lo hi:Option Int}{Q:Value->Shared->Prop} (ht:IsTup s.heap t items) (hs:s.heap.IsSliceOf sl vl vu .none) (pl:IsPart vl lo) (pu:IsPart vu hi)
  (hw:¬ (sIx items.size 0 lo=0/\sIx items.size items.size hi=items.size))
  (h:Q (.ref s.heap.objs.size) { s with heap:=s.heap.push { cls:=.type "tuple",data:=.seq ((items.toList.drop (sIx items.size 0 lo)).take (sIx items.size items.size hi - sIx items.size 0 lo)).toArray } })
  (hsz:items.size≤sizeLine):wpAny (model prog w) A (getItem (.ref t) (.ref sl)) Q E s:=by
 have htake:sizeOk (.seq ((items.toList.drop (sIx items.size 0 lo)).take (sIx items.size items.size hi - sIx items.size 0 lo)).toArray):=by
  show ((items.toList.drop (sIx items.size 0 lo)).take (sIx items.size items.size hi - sIx items.size 0 lo)).toArray.size≤sizeLine
  rw [List.size_toArray,List.length_take,List.length_drop,Array.length_toList]
  omega
 have hj:sIx items.size items.size hi≤items.size:=sIx_le _ _ (Nat.le_refl _) hi
 obtain⟨os,hos,hcs,hds⟩:=id hs
 have hTs:s.TypeIs (.ref sl) "slice":=⟨os,hos,hcs⟩
 unfold getItem
 try with_reducible refine wpAny_holding ?_
 first | refine wpAny_bind (wpAny_pure ?_) | skip
 refine wpAny_bind (wpAny_sequenceKey ht.typeIs (by decide) ?_)
 refine wpAny_bind (wpAny_callSpecial?_slot (name:=Str.ofString "__getitem__") ht.typeIs PyProof.Rows.slot_tuple_getitem
  (wpAny_call_entry PyProof.Rows.slot_tuple_getitem ht.typeIs entry_tuple_getitem ?_ (args_tuple_getitem _ _)))
 show wpAny _ _ (Builtin.Tuple.tupleItemsOf (.ref t) >>= _) _ _ s
 refine wpAny_bind (tupleItemsOf_ ht ?_)
 refine wpAny_bind (wpAny_typeOf hTs ?_)
 rw [if_pos (by decide)]
 refine wpAny_bind (sliceApplied_gen hs pl pu ?_)
 have hno:¬ ((((sIx items.size 0 lo:Nat):Int)==0 && (1:Int)==1 && (sIx items.size items.size hi - sIx items.size 0 lo)==items.size)=true):=by
  intro q
  rw [Bool.and_eq_true,Bool.and_eq_true] at q
  have q1:((sIx items.size 0 lo:Nat):Int)=0:=eq_of_beq q.1.1
  have q2:sIx items.size items.size hi - sIx items.size 0 lo=items.size:=eq_of_beq q.2
  exact hw ⟨by omega,by omega⟩
 show wpAny _ _ (if (((sIx items.size 0 lo:Nat):Int)==0 && (1:Int)==1 && (sIx items.size items.size hi - sIx items.size 0 lo)==items.size)=true then _ else _) _ _ s
 rw [if_neg hno,pick_gen]
 first
  | exact wpAny_bind (m:=Builtin.Tuple.tupleExact _) (wpAny_newObj_type (wpAny_pure ⟨_,rfl,wpAny_pure h⟩) htake)
  | exact wpAny_bind (m:=Builtin.Tuple.tupleExact _) (wpAny_newObj_type (wpAny_bind (wpAny_pure (wpAny_pure ⟨_,rfl,wpAny_pure h⟩))) htake)
  | exact wpAny_bind (wpAny_bind (m:=Builtin.Tuple.tupleExact _) (wpAny_newObj_type (wpAny_pure (wpAny_pure ⟨_,rfl,wpAny_pure h⟩)) htake))
  | exact wpAny_bind (wpAny_bind (m:=Builtin.Tuple.tupleExact _) (wpAny_newObj_type (wpAny_pure ⟨_,rfl,wpAny_pure h⟩) htake))
end
end HT
namespace L2
open PySem PySem.Spec PyProof.Rows
abbrev TO:=St->Hp->(Option Int->Hp->Prop)->Prop
noncomputable def PO (X:Cx) (e:Option Expr) (t:TO):Prop:=
 ∀ (pins:List (Addr×Obj)) (s:Shared) (σ:St) (H:Hp) (Q:Option Int->Hp->Prop),Inv X pins σ H s->t σ H Q->
  wpAny (model X.prog X.w) X.A (evalPart e X.env) (fun u s'=>∃ o H',Inv X pins σ H' s'/\IsPart u o/\Q o H') X.xe s
noncomputable def tNoPart:TO:=fun _ H Q=>Q none H
noncomputable def tPart (t:TE):TO:=fun σ H Q=>t σ H fun x H1=>∃ i,x=.int i/\Q (some i) H1
theorem intsAre_of {ns:List Int}:∀ {us:List Value},Vals (ns.map V.int) us->IntsAre us ns:=by
 induction ns with
 | nil=>intro us r;rw [List.map_nil] at r;cases r;exact .nil
 | cons n ns ih=>
  intro us r
  rw [List.map_cons] at r
  cases r with
  | cons r1 r2=>
   obtain⟨t,e⟩:=r1
   subst e
   exact .cons n t (ih r2)
section
variable {X:Cx}{e:Expr}{te:TE}{lo hi:Option Expr}{tl th:TO}{pos p2:Pos}
theorem po_none:PO X none tNoPart:=by
 intro pins s σ H Q I h
 rw [evalPart_none]
 exact wpAny_pure ⟨none,H,I,.none,h⟩
theorem po_some (h:PE X e te):PO X (some e) (tPart te):=by
 intro pins s σ H Q I hw
 rw [evalPart_some]
 refine thn (h pins s σ H _ I hw) fun u s1 ⟨x,H1,I1,r1,q1⟩=>?_
 obtain⟨i,rfl,q⟩:=q1
 obtain⟨t,rfl⟩:=r1
 exact⟨some i,H1,I1,.int i t,q⟩
noncomputable def SlR (X:Cx) (r:V->Option Int->Option Int->Hp->VK->Prop):Prop:=
 ∀ (pins:List (Addr×Obj)) (s:Shared) (σ:St) (H:Hp) (x:V) (v vl vu:Value) (lo hi:Option Int) (sl:Addr) (Q:VK),Inv X pins σ H s->RelV x v->s.heap.IsSliceOf sl vl vu .none->IsPart vl lo->IsPart vu hi->r x lo hi H Q->
  ∃ T id,typeLookup (.type T) "__getitem__" = pure (some (.builtin id))/\s.TypeIs v T/\wpAny (model X.prog X.w) X.A (getItem v (.ref sl)) (EP X pins σ Q) X.xe s
noncomputable def tSl (r:V->Option Int->Option Int->Hp->VK->Prop) (te:TE) (tl th:TO):TE:=fun σ H Q=>te σ H fun x H1=>tl σ H1 fun l H2=>th σ H2 fun u H3=>r x l u H3 Q
theorem pe_slice {r:V->Option Int->Option Int->Hp->VK->Prop} (hr:SlR X r) (he:PE X e te) (hl:PO X lo tl) (hu:PO X hi th):PE X (.Subscript e (.Slice lo hi none p2) pos) (tSl r te tl th):=by
 intro pins s σ H Q I h
 refine Subscript_ (thn (he pins s σ H _ I h) fun v s1 ⟨x,H1,I1,r1,q1⟩=>?_)
 refine wpAny_Slice (thn (hl pins s1 σ H1 _ I1 q1) fun vl s2 ⟨l,H2,I2,pl,q2⟩=>thn (hu pins s2 σ H2 _ I2 q2) fun vu s3 ⟨u,H3,I3,pu,q3⟩=>?_)
 rw [evalPart_none]
 refine wpAny_pure ?_
 have I4:Inv X pins σ H3 { s3 with heap:=s3.heap.push { cls:=.type "slice",data:=.fields #[vl,vu,.none] } }:=I3.kept (t':=s3.toks) fun b ob q=>Heap.get?_push_of_some _ q
 obtain⟨T,id,hT,ht,hg⟩:=hr pins { s3 with heap:=s3.heap.push { cls:=.type "slice",data:=.fields #[vl,vu,.none] } } σ H3 x v vl vu l u s3.heap.objs.size Q I4 r1 (Heap.IsSliceOf.new ..) pl pu q3
 show wpAny (model X.prog X.w) X.A (subscriptTail e (.Slice lo hi none p2) v (.ref s3.heap.objs.size)) (EP X pins σ Q) X.xe { s3 with heap:=s3.heap.push { cls:=.type "slice",data:=.fields #[vl,vu,.none] } }
 exact tail_any (ops:=[.ref s3.heap.objs.size,v]) ht hT hg (by with_unfolding_all rfl)
noncomputable def cutV (xs:List V) (lo hi:Option Int):List V:=(xs.drop (HT.sIx xs.length 0 lo)).take (HT.sIx xs.length xs.length hi - HT.sIx xs.length 0 lo)
theorem cutV_length (xs:List V) (lo hi:Option Int):(cutV xs lo hi).length≤xs.length:=by
 unfold cutV
 rw [List.length_take,List.length_drop]
 omega
noncomputable def rSlT (K:PySem.W.Frag):V->Option Int->Option Int->Hp->VK->Prop:=fun x lo hi H Q=>∃ a xs,x=.ref a/\SqT K H a xs/\
 ¬ (HT.sIx xs.length 0 lo=0/\HT.sIx xs.length xs.length hi=xs.length)/\∀ p,H p=none->Q (.ref p) (upd H p (.tup (cutV xs lo hi)))
theorem sl_tup:SlR X (rSlT X.K):=by
 intro pins s σ H x v vl vu lo hi sl Q I rx hs pl pu h
 obtain⟨a,xs,rfl,hx,hw,q⟩:=h
 cases rx
 obtain⟨its,r,ht,hz⟩:=I.tuple hx
 have hlen:its.toArray.size=xs.length:=by rw [List.size_toArray];exact r.length.symm
 refine⟨"tuple",_,PyProof.Rows.slot_tuple_getitem.lookup,ht.typeIs,?_⟩
 refine HT.getItem_tuple_cut ht hs pl pu (by rw [hlen];exact hw) ?_ (by rw [hlen];exact hz)
 rw [hlen]
 refine⟨.ref s.heap.objs.size,_,I.laid (t':=s.toks) (o:=.tup (cutV xs lo hi)) (fun b ob q=>Heap.get?_push_of_some _ q) (Nat.le_refl _) ?_,rfl,q _ (I.hok.fresh (Nat.le_refl _))⟩
 exact⟨Nat.le_trans (cutV_length xs lo hi) hz,_,(r.drop (HT.sIx xs.length 0 lo)).take (HT.sIx xs.length xs.length hi - HT.sIx xs.length 0 lo),IsTup1.new _ _⟩
noncomputable def rLtT (K:PySem.W.Frag):R2:=fun x y H Q=>∃ a b ns ms,x=.ref a/\y=.ref b/\SqT K H a (ns.map V.int)/\SqT K H b (ms.map V.int)/\Q (.bl (HT.lexLt ns ms)) H
theorem op_ltT (hu:X.A.units < cLine):OpR X (compareOp .Lt) (rLtT X.K):=by
 intro pins s σ H x y v u Q I rx ry h
 obtain⟨a,b,ns,ms,rfl,rfl,ha,hb,q⟩:=h
 cases rx
 cases ry
 obtain⟨its,r1,p1,_⟩:=I.tuple ha
 obtain⟨its2,r2,p2,_⟩:=I.tuple hb
 have i1:IntsAre its.toArray.toList ns:=intsAre_of r1
 have i2:IntsAre its2.toArray.toList ms:=intsAre_of r2
 exact HT.lt_tupInts p1 p2 i1 i2 hu ⟨.bl (HT.lexLt ns ms),H,I,rfl,q⟩
noncomputable def rCatT (K:PySem.W.Frag):R2:=fun x y H Q=>∃ a b xs ys,x=.ref a/\y=.ref b/\SqT K H a xs/\SqT K H b ys/\xs≠[]/\xs.length+ys.length≤sizeLine/\
 (ys=[]->Q (.ref a) H)/\(ys≠[]->∀ p,H p=none->Q (.ref p) (upd H p (.tup (xs++ys))))
theorem Vals.nil_iff {xs:List V}{us:List Value} (r:Vals xs us):us=[]↔xs=[]:=by
 cases r with
 | nil=>simp
 | cons _ _=>simp
theorem op_catT:OpR X (binaryOp .Add) (rCatT X.K):=by
 intro pins s σ H x y v u Q I rx ry h
 obtain⟨a,b,xs,ys,rfl,rfl,ha,hb,hx,hz,q1,q2⟩:=h
 cases rx
 cases ry
 obtain⟨its,r1,p1,_⟩:=I.tuple ha
 obtain⟨its2,r2,p2,_⟩:=I.tuple hb
 refine HT.cat_tup p1 p2 (fun z=>hx (r1.nil_iff.mp z)) (fun z=>⟨.ref a,H,I,rfl,q1 (r2.nil_iff.mp z)⟩) (fun z=>?_) (by rw [←r1.length,←r2.length];exact hz)
 refine⟨.ref s.heap.objs.size,_,I.laid (t':=s.toks) (o:=.tup (xs++ys)) (fun b ob q=>Heap.get?_push_of_some _ q) (Nat.le_refl _) ?_,rfl,q2 (fun w=>z (r2.nil_iff.mpr w)) _ (I.hok.fresh (Nat.le_refl _))⟩
 exact⟨by rw [List.length_append];exact hz,_,r1.append r2,IsTup1.new _ _⟩
end
end L2
namespace L2
open PySem PySem.Spec PyProof.Rows
noncomputable def ixN (n:Nat) (i:Int):Option Nat:=if 0≤i then (if i < n then some i.toNat else none) else if -(n:Int)≤i then some (i+n).toNat else none
noncomputable def atI {α:Type} (xs:List α) (i:Int):Option α:=(ixN xs.length i).bind fun j=>xs[j]?
theorem ixN_seq {n:Nat}{i:Int}{j:Nat} (h:ixN n i=some j):seqIndex? i n=some j/\j < n/\-(n:Int)≤i/\i < n:=by
 unfold ixN at h
 by_cases h0:0≤i
 ·rw [if_pos h0] at h
  by_cases h1:i < n
  ·rw [if_pos h1] at h
   have e:i.toNat=j:=Option.some.inj h
   exact⟨by rw [seqIndex_of h0 h1,e],by omega,by omega,h1⟩
  ·rw [if_neg h1] at h;cases h
 ·rw [if_neg h0] at h
  by_cases h1:-(n:Int)≤i
  ·rw [if_pos h1] at h
   have e:(i+n).toNat=j:=Option.some.inj h
   exact⟨by rw [seqIndex_neg (by omega) h1,e],by omega,h1,by omega⟩
  ·rw [if_neg h1] at h;cases h
theorem atI_get {α:Type}{xs:List α}{i:Int}{v:α} (h:atI xs i=some v):∃ j,seqIndex? i xs.length=some j/\xs[j]?=some v/\j < xs.length/\-(xs.length:Int)≤i/\i < xs.length:=by
 unfold atI at h
 cases e:ixN xs.length i with
 | none=>rw [e] at h;cases h
 | some j=>
  rw [e] at h
  obtain⟨h1,h2,h3,h4⟩:=ixN_seq e
  exact⟨j,h1,h,h2,h3,h4⟩
theorem atI_nat {α:Type}{xs:List α}{j:Nat}{v:α} (h:xs[j]?=some v):atI xs (j:Int)=some v:=by
 have hj:j < xs.length:=(List.getElem?_eq_some_iff.mp h).1
 have e:ixN xs.length (j:Int)=some j:=by
  unfold ixN
  rw [if_pos (by omega),if_pos (by omega)];simp
 unfold atI;rw [e];exact h
noncomputable def PlainIx (b:Expr):Prop:=∀ o i,subscripted b false o i=operate [o,i] (getItem o i)
noncomputable def IxR (X:Cx) (r:R2):Prop:=
 ∀ (value slice:Expr) (pins:List (Addr×Obj)) (s:Shared) (σ:St) (H:Hp) (x y:V) (v u:Value) (Q:VK),Inv X pins σ H s->RelV x v->RelV y u->r x y H Q->
  subscripted slice false v u=operate [v,u] (getItem v u)->wpAny (model X.prog X.w) X.A (subscriptTail value slice v u) (EP X pins σ Q) X.xe s
noncomputable def MtR (X:Cx) (id:String) (r:V->List V->Hp->VK->Prop):Prop:=
 ∀ (pins:List (Addr×Obj)) (s:Shared) (σ:St) (H:Hp) (x:V) (xs:List V) (v:Value) (us:List Value) (Q:VK),Inv X pins σ H s->RelV x v->Vals xs us->r x xs H Q->
  wpAny (model X.prog X.w) X.A (call (.builtin id) (v::us)) (EP X pins σ Q) X.xe s
section
variable {X:Cx}{a b:Expr}{ta tb:TE}{pos:Pos}
theorem IxR.or {r r':R2} (h:IxR X r) (h':IxR X r'):IxR X (fun x y H Q=>r x y H Q∨r' x y H Q):=by
 intro value slice pins s σ H x y v u Q I rx ry q hs
 rcases q with q | q
 ·exact h value slice pins s σ H x y v u Q I rx ry q hs
 ·exact h' value slice pins s σ H x y v u Q I rx ry q hs
theorem pe_ix {r:R2} (hr:IxR X r) (ha:PE X a ta) (hb:PE X b tb) (hs:PlainIx b):PE X (.Subscript a b pos) (tOp r ta tb):=by
 intro pins s σ H Q I h
 exact Subscript_ (binT ha hb I h fun v u s2 x y H2 I2 rx ry q=>hr a b pins s2 σ H2 x y v u Q I2 rx ry q (hs _ _))
noncomputable def rIxL (K:PySem.W.Frag):R2:=fun x y H Q=>∃ p xs i v,x=.ref p/\y=.int i/\SqL K H p xs/\atI xs i=some v/\Q v H
noncomputable def rIxT (K:PySem.W.Frag):R2:=fun x y H Q=>∃ p xs i v,x=.ref p/\y=.int i/\SqT K H p xs/\atI xs i=some v/\Q v H
noncomputable def rIxS:R2:=fun x y H Q=>∃ z i c,x=.str z/\y=.int i/\z.length≤sizeLine/\atI z.cps.toList i=some c/\Q (.str ⟨#[c]⟩) H
theorem ix_list:IxR X (rIxL X.K):=by
 intro value slice pins s σ H x y v u Q I rx ry h hs
 obtain⟨p,xs,i,z,rfl,rfl,hq,he,q⟩:=h
 cases rx
 obtain⟨t,rfl⟩:=ry
 obtain⟨its,r,pl,hz⟩:=I.list hq
 obtain⟨j,h1,h2,h3,h4,h5⟩:=atI_get he
 obtain⟨w,ew,rw'⟩:=r.get h2
 have hl:=r.length
 have hn:=line63
 have fin:EP X pins σ Q w s:=⟨z,H,I,rw',q⟩
 by_cases h0:0≤i
 ·have hj:i.toNat=j:=by
   rw [seqIndex_of h0 h5] at h1
   exact Option.some.inj h1
  exact item_listR pl.isList h0 (by omega) (by rw [hj];simpa using ew) fin hs
 ·have hj:(i+(its.toArray.size:Int)).toNat=j:=by
   rw [seqIndex_neg (by omega) h4] at h1
   rw [List.size_toArray,←hl]
   exact Option.some.inj h1
  exact subscriptTail_builtinR (x:=w) pl.isList.typeIs slot_list_getitem.lookup
   (wpAny_getItem_list_neg (Q:=fun r s'=>r=w/\EP X pins σ Q r s') pl.isList (by omega) (by rw [List.size_toArray]<;>omega) (by omega) (by rw [hj];simpa using ew) ⟨rfl,fin⟩) hs
theorem ix_tup:IxR X (rIxT X.K):=by
 intro value slice pins s σ H x y v u Q I rx ry h hs
 obtain⟨p,xs,i,z,rfl,rfl,hq,he,q⟩:=h
 cases rx
 obtain⟨t,rfl⟩:=ry
 obtain⟨its,r,pl,hz⟩:=I.tuple hq
 obtain⟨j,h1,h2,h3,h4,h5⟩:=atI_get he
 obtain⟨w,ew,rw'⟩:=r.get h2
 have hl:=r.length
 have hn:=line63
 have fin:EP X pins σ Q w s:=⟨z,H,I,rw',q⟩
 exact subscriptTail_builtinR (x:=w) pl.typeIs slot_tuple_getitem.lookup
  (getItem_tuple (j:=j) (Q:=fun r s'=>r=w/\EP X pins σ Q r s') pl (by omega) (by omega) (by rw [List.size_toArray,←hl];exact h1) (by simpa using ew) ⟨rfl,fin⟩) hs
theorem ix_str:IxR X rIxS:=by
 intro value slice pins s σ H x y v u Q I rx ry h hs
 obtain⟨z,i,c,rfl,rfl,hz,he,q⟩:=h
 obtain⟨t,rfl⟩:=rx
 obtain⟨t',rfl⟩:=ry
 obtain⟨j,h1,h2,h3,h4,h5⟩:=atI_get he
 have hl:z.cps.toList.length=z.length:=by simp [Str.length]
 rw [hl] at h1 h4 h5
 have hn:=line63
 exact tail_any (typeIs_str s z t) slot_str_getitem.lookup (getItem_str (c:=c) (by
  have e1:decide (i < -(2 ^ 63:Int))=false:=decide_eq_false (by omega)
  have e2:decide (i≥2 ^ 63)=false:=decide_eq_false (by omega)
  rw [e1,e2,Bool.or_false]) (by rw [h1];simpa using h2) ⟨.str ⟨#[c]⟩,H,I.tok _,⟨_,rfl⟩,q⟩) hs
noncomputable def rIx (K:PySem.W.Frag):R2:=fun x y H Q=>rIxL K x y H Q∨rIxT K x y H Q∨rIxS x y H Q
theorem ix_seq:IxR X (rIx X.K):=ix_list.or (ix_tup.or ix_str)
theorem mapSeq_set (its:List Value) (n j:Nat) (u:Value):Obj.mapSeq (·.setIfInBounds j u) { cls:=.type "list",data:=.seq its.toArray n }={ cls:=.type "list",data:=.seq (its.set j u).toArray n }:=by
 simp [Obj.mapSeq]
theorem Inv.lst {pins:List (Addr×Obj)}{σ:St}{H:Hp}{s:Shared}{p:Addr}{xs:List V} (I:Inv X pins σ H s) (h:H p=some (.lst xs)) :
  ∃ (its:List Value) (n:Nat),Vals xs its/\s.heap.get? p=some { cls:=.type "list",data:=.seq its.toArray n }/\xs.length≤sizeLine:=by
 obtain⟨z,its,n,r,e⟩:=I.hok p _ h
 exact⟨its,n,r,e,z⟩
theorem Inv.lstUpd {pins:List (Addr×Obj)}{σ:St}{H:Hp}{s:Shared}{p:Addr}{xs ys:List V}{its its':List Value}{n n':Nat}{f:Obj->Obj} (I:Inv X pins σ H s) (h:H p=some (.lst xs))
  (ho:s.heap.get? p=some { cls:=.type "list",data:=.seq its.toArray n }) (hf:f { cls:=.type "list",data:=.seq its.toArray n }={ cls:=.type "list",data:=.seq its'.toArray n' }) (r:Vals ys its') (hz:ys.length≤sizeLine) (t:Nat) :
  Inv X pins σ (upd H p (.lst ys)) { s with heap:=s.heap.update p f,toks:=t }:=by
 have e:(s.heap.update p f).get? p=some { cls:=.type "list",data:=.seq its'.toArray n' }:=by
  rw [Heap.get?_update_self f ho (by rw [hf]<;>rfl),hf]
 refine I.write (x:=p) (e:=p) (by rw [h];trivial) (.inl rfl) (fun b u hb q=>(Heap.get?_update_other _ _ (Ne.symm hb)).trans q) ⟨_,e⟩ ?_
 exact⟨hz,its',n',r,e⟩
noncomputable def rSetL:V->V->V->Hp->(Hp->Prop)->Prop:=fun o i v H Q=>∃ p xs k j,o=.ref p/\i=.int k/\H p=some (.lst xs)/\ixN xs.length k=some j/\Q (upd H p (.lst (xs.set j v)))
theorem set_list:PSet X rSetL:=by
 intro pins s σ H o i v ov iv u Q I ro ri rv h
 obtain⟨p,xs,k,j,rfl,rfl,hp,hj,q⟩:=h
 cases ro
 obtain⟨t,rfl⟩:=ri
 obtain⟨its,n,r,ho,hz⟩:=I.lst hp
 obtain⟨h1,h2,h3,h4⟩:=ixN_seq hj
 have hl:=r.length
 have hn:=line63
 have I':Inv X pins σ (upd H p (.lst (xs.set j v))) { s with heap:=s.heap.update p (Obj.mapSeq (·.setIfInBounds j u)) }:=
  I.lstUpd hp ho (mapSeq_set its n j u) (r.set rv j) (by rw [List.length_set];exact hz) s.toks
 by_cases h0:0≤k
 ·have hk:k.toNat=j:=by
   rw [seqIndex_of h0 h4] at h1
   exact Option.some.inj h1
  exact PySem.W.ki_setAt ho h0 (by omega) (by rw [List.size_toArray,←hl];exact h4) (by rw [hk];exact⟨_,I',q⟩)
 ·have hk:(k+(its.toArray.size:Int)).toNat=j:=by
   rw [seqIndex_neg (by omega) h3] at h1
   rw [List.size_toArray,←hl]
   exact Option.some.inj h1
  exact PySem.W.ki_setBack ho (by omega) (by rw [List.size_toArray,←hl];exact h3) (by omega) (by rw [hk];exact⟨_,I',q⟩)
theorem slice_bounds (lo hi:Option Int) (n:Nat):(sliceBounds lo hi none n).1=((HT.sIx n 0 lo:Nat):Int)/\(sliceBounds lo hi none n).2.1=((HT.sIx n n hi:Nat):Int)/\(sliceBounds lo hi none n).2.2=1:=by
 refine⟨?_,?_,rfl⟩
 ·cases lo with
  | none=>simp [sliceBounds,HT.sIx]
  | some i=>
   simp only [sliceBounds,HT.sIx,Option.getD_none,show (1:Int) > 0 by decide,if_true]
   by_cases h:i < 0
   ·simp only [h,if_true]<;>omega
   ·simp only [h,if_false]<;>omega
 ·cases hi with
  | none=>simp [sliceBounds,HT.sIx]
  | some i=>
   simp only [sliceBounds,HT.sIx,Option.getD_none,show (1:Int) > 0 by decide,if_true]
   by_cases h:i < 0
   ·simp only [h,if_true]<;>omega
   ·simp only [h,if_false]<;>omega
theorem slicePick_cut (its:List Value) (lo hi:Option Int):slicePick its.toArray lo hi none=((its.drop (HT.sIx its.length 0 lo)).take (HT.sIx its.length its.length hi - HT.sIx its.length 0 lo)).toArray:=by
 obtain⟨h1,h2,h3⟩:=slice_bounds lo hi its.toArray.size
 unfold slicePick
 rw [h1,h2,h3]
 simp only [sliceRange_one,pick_run,List.size_toArray]<;>rfl
noncomputable def rSlL (K:PySem.W.Frag):V->Option Int->Option Int->Hp->VK->Prop:=fun x lo hi H Q=>∃ a xs,x=.ref a/\SqL K H a xs/\∀ p,H p=none->Q (.ref p) (upd H p (.lst (cutV xs lo hi)))
theorem sl_list:SlR X (rSlL X.K):=by
 intro pins s σ H x v vl vu lo hi sl Q I rx hs pl pu h
 obtain⟨a,xs,rfl,hx,q⟩:=h
 cases rx
 obtain⟨its,r,ht,hz⟩:=I.list hx
 have hlen:=r.length
 refine⟨"list",_,slot_list_getitem.lookup,ht.isList.typeIs,?_⟩
 refine wpAny_getItem_list_slice ht.isList hs pl pu .none (by simp) ?_ (by rw [List.size_toArray]<;>omega)
 rw [slicePick_cut,←hlen]
 refine⟨.ref s.heap.objs.size,_,I.laid (t':=s.toks) (o:=.lst (cutV xs lo hi)) (fun b ob q=>Heap.get?_push_of_some _ q) (Nat.le_refl _) ?_,rfl,q _ (I.hok.fresh (Nat.le_refl _))⟩
 exact⟨Nat.le_trans (cutV_length xs lo hi) hz,_,0,(r.drop (HT.sIx xs.length 0 lo)).take (HT.sIx xs.length xs.length hi - HT.sIx xs.length 0 lo),Heap.get?_push_size _ rfl⟩
noncomputable def flatV:V->Bool
 | .non=>true
 | .bl _=>true
 | .int _=>true
 | .str _=>true
 | _=>false
noncomputable def eqV:V->V->Bool
 | .non,.non=>true
 | .bl a,.bl b=>a==b
 | .bl a,.int b=>(if a then 1 else 0)==b
 | .int a,.bl b=>a==(if b then 1 else 0)
 | .int a,.int b=>a==b
 | .str a,.str b=>a==b
 | _,_=>false
theorem eqAt_V {A:Around}{s:Shared}{y x:V}{u v:Value} (ry:RelV y u) (rx:RelV x v) (fy:flatV y=true) (fx:flatV x=true):SeqAt.EqAt A s u v (eqV y x):=by
 cases y with
 | non=>
  cases ry
  cases x with
  | non=>cases rx;exact SeqAt.EqAt.same _
  | bl b=>cases rx;exact SeqAt.EqAt.none_bool b
  | int b=>obtain⟨t,rfl⟩:=rx;exact SeqAt.EqAt.none_int b t
  | str b=>obtain⟨t,rfl⟩:=rx;exact SeqAt.EqAt.none_str b t
  | _=>exact absurd (show false=true from fx) Bool.false_ne_true
 | bl a=>
  cases ry
  cases x with
  | non=>cases rx;exact SeqAt.EqAt.bool_none a
  | bl b=>cases rx;exact SeqAt.EqAt.bool_bool a b
  | int b=>obtain⟨t,rfl⟩:=rx;exact SeqAt.EqAt.bool_int a b t
  | str b=>obtain⟨t,rfl⟩:=rx;exact SeqAt.EqAt.bool_str a b t
  | _=>exact absurd (show false=true from fx) Bool.false_ne_true
 | int a=>
  obtain⟨t',rfl⟩:=ry
  cases x with
  | non=>cases rx;exact SeqAt.EqAt.int_none a t'
  | bl b=>cases rx;exact SeqAt.EqAt.int_bool a t' b
  | int b=>obtain⟨t,rfl⟩:=rx;exact SeqAt.EqAt.int_int a t' b t
  | str b=>obtain⟨t,rfl⟩:=rx;exact SeqAt.EqAt.int_str a t' b t
  | _=>exact absurd (show false=true from fx) Bool.false_ne_true
 | str a=>
  obtain⟨t',rfl⟩:=ry
  cases x with
  | non=>cases rx;exact SeqAt.EqAt.str_none a t'
  | bl b=>cases rx;exact SeqAt.EqAt.str_bool a t' b
  | int b=>obtain⟨t,rfl⟩:=rx;exact SeqAt.EqAt.str_int a t' b t
  | str b=>obtain⟨t,rfl⟩:=rx;exact SeqAt.EqAt.str_str a t' b t
  | _=>exact absurd (show false=true from fx) Bool.false_ne_true
 | _=>exact absurd (show false=true from fy) Bool.false_ne_true
noncomputable def eqU (x:V) (u:Value):Bool:=match u with
 | .none=>eqV .non x
 | .bool b=>eqV (.bl b) x
 | .int i _=>eqV (.int i) x
 | .str z _=>eqV (.str z) x
 | _=>false
theorem eqU_of {x y:V}{u:Value} (r:RelV y u) (f:flatV y=true):eqU x u=eqV y x:=by
 cases y with
 | non=>cases r;rfl
 | bl b=>cases r;rfl
 | int i=>obtain⟨t,rfl⟩:=r;rfl
 | str z=>obtain⟨t,rfl⟩:=r;rfl
 | _=>exact absurd (show false=true from f) Bool.false_ne_true
theorem any_eqU {x:V}:∀ {xs:List V}{us:List Value},Vals xs us->xs.all flatV=true->us.any (eqU x)=xs.any fun y=>eqV y x
 | _,_,.nil,_=>rfl
 | y::xs,u::us,.cons r t,f=>by
  rw [List.all_cons,Bool.and_eq_true] at f
  rw [List.any_cons,List.any_cons,eqU_of r f.1,any_eqU t f.2]
theorem mem_eqAt {A:Around}{s:Shared}{x:V}{v:Value} (rx:RelV x v) (fx:flatV x=true):∀ {xs:List V}{us:List Value},Vals xs us->xs.all flatV=true->∀ u ∈ us,SeqAt.EqAt A s u v (eqU x u)
 | _,_,.nil,_=>fun u hu=>by cases hu
 | y::xs,u::us,.cons r t,f=>fun u' hu=>by
  rw [List.all_cons,Bool.and_eq_true] at f
  rcases List.mem_cons.mp hu with rfl | hu
  ·rw [eqU_of r f.1];exact eqAt_V r rx f.1 fx
  ·exact mem_eqAt rx fx t f.2 u' hu
noncomputable def inV (x:V) (xs:List V):Bool:=xs.any fun y=>eqV y x
noncomputable def rIn (K:PySem.W.Frag) (neg:Bool):R2:=fun x y H Q=>∃ p xs,y=.ref p/\(SqL K H p xs∨SqT K H p xs)/\flatV x=true/\xs.all flatV=true/\Q (.bl (if neg then !inV x xs else inV x xs)) H
theorem op_notIn_seq:OpR X (compareOp .NotIn) (rIn X.K true):=by
 intro pins s σ H x y v u Q I rx ry h
 obtain⟨p,xs,rfl,hq,fx,fs,q⟩:=h
 cases ry
 rcases hq with hq | hq
 ·obtain⟨its,r,pl,hz⟩:=I.list hq
  refine SeqAt.notIn_listAt (eqU x) pl.isList (fun w hw=>mem_eqAt rx fx r fs w (by simpa using hw)) ⟨.bl _,H,I,rfl,?_⟩
  rw [show its.toArray.any (eqU x)=its.any (eqU x) by simp,any_eqU r fs]
  exact q
 ·obtain⟨its,r,pl,hz⟩:=I.tuple hq
  refine SeqAt.notIn_tupleAt (eqU x) pl (fun w hw=>mem_eqAt rx fx r fs w (by simpa using hw)) ⟨.bl _,H,I,rfl,?_⟩
  rw [show its.toArray.any (eqU x)=its.any (eqU x) by simp,any_eqU r fs]
  exact q
theorem call_len_seq:CallR X (.builtin "len") (fun xs H Q=>∃ p ys,xs=[.ref p]/\(SqL X.K H p ys∨SqT X.K H p ys)/\Q (.int ys.length) H):=by
 intro pins s σ H xs us Q I r h
 obtain⟨p,ys,rfl,hq,q⟩:=h
 obtain⟨u,rfl,rx⟩:=vals1 r
 cases rx
 have hn:=line63
 rcases hq with hq | hq
 ·obtain⟨its,r',pl,hz⟩:=I.list hq
  have hlen:=r'.length
  exact Calls.call_len_list pl.isList (by simp only [List.size_toArray]<;>omega) ⟨.int ys.length,H,I.tok _,⟨s.toks+1,by rw [List.size_toArray,hlen]⟩,q⟩
 ·obtain⟨its,r',pl,hz⟩:=I.tuple hq
  have hlen:=r'.length
  exact len_tuple pl (by simp only [List.size_toArray]<;>omega) ⟨.int ys.length,H,I.tok _,⟨s.toks+1,by rw [List.size_toArray,hlen]⟩,q⟩
theorem call_len_str:CallR X (.builtin "len") (fun xs H Q=>∃ z,xs=[.str z]/\z.length≤sizeLine/\Q (.int z.length) H):=by
 intro pins s σ H xs us Q I r h
 obtain⟨z,rfl,hz,q⟩:=h
 obtain⟨u,rfl,t,rfl⟩:=vals1 r
 have hn:=line63
 exact len_str (by omega) ⟨.int z.length,H,I.tok _,⟨_,rfl⟩,q⟩
theorem call_tuple_of:CallR X (.type "tuple") (fun xs H Q=>∃ p ys,xs=[.ref p]/\((SqL X.K H p ys/\∀ l,H l=none->Q (.ref l) (upd H l (.tup ys)))∨(SqT X.K H p ys/\Q (.ref p) H))):=by
 intro pins s σ H xs us Q I r h
 obtain⟨p,ys,rfl,h⟩:=h
 obtain⟨u,rfl,rx⟩:=vals1 r
 cases rx
 rcases h with⟨hq,q⟩ | ⟨hq,q⟩
 ·obtain⟨its,r',pl,hz⟩:=I.list hq
  have hlen:=r'.length
  refine call_tuple_list pl.isList (fun h' kp=>?_) (by simp only [List.size_toArray]<;>omega)
  have I1:Inv X pins σ H { s with heap:=h' }:=I.kept (t':=s.toks) kp
  have I2:Inv X pins σ (upd H h'.objs.size (.tup ys)) { s with heap:=h'.push { cls:=.type "tuple",data:=.seq its.toArray } }:=
   I1.laid (t':=s.toks) (fun b o e=>Heap.get?_push_of_some _ e) (Nat.le_refl _) (show ObjOk X.prog X.w _ _ _ (.tup ys) from ⟨hz,its,r',IsTup1.new _ _⟩)
  exact⟨.ref h'.objs.size,_,I2,rfl,q _ (I1.hok.fresh (Nat.le_refl _))⟩
 ·obtain⟨its,r',pl,hz⟩:=I.tuple hq
  exact call_tuple_same pl ⟨.ref p,H,I,rfl,q⟩
noncomputable def tyV (K:PySem.W.Frag) (T:String) (x:V) (H:Hp):Prop:=match x with
 | .str _=>T = "str"
 | .int _=>T = "int"
 | .ref p=>(T = "list"/\∃ xs,SqL K H p xs)∨(T = "tuple"/\((∃ o,K.lookup p=some o/\o.cls=.type "tuple"/\o.dict=none)∨∃ xs,SqT K H p xs))∨
   (T = "dict"/\((∃ kvs,H p=some (.dK kvs))∨∃ kvs,H p=some (.dT kvs)))∨(T = "set"/\∃ S n,H p=some (.set S n))
 | _=>False
theorem tyV_is {pins:List (Addr×Obj)}{σ:St}{H:Hp}{s:Shared}{T:String}{x:V}{v:Value} (I:Inv X pins σ H s) (r:RelV x v) (ty:tyV X.K T x H) :
  s.TypeIs v T/\∀ a,v=.ref a->∃ ob,s.heap.get? a=some ob/\ob.dict=none:=by
 cases x with
 | str z=>
  obtain⟨t,rfl⟩:=r
  cases (show T = "str" from ty)
  exact⟨typeIs_str s z t,fun _ e=>nomatch e⟩
 | int i=>
  obtain⟨t,rfl⟩:=r
  cases (show T = "int" from ty)
  exact⟨typeIs_int s i t,fun _ e=>nomatch e⟩
 | ref p=>
  cases r
  rcases ty with⟨rfl,xs,hq⟩ | ⟨rfl,ht⟩ | ⟨rfl,hk⟩ | ⟨rfl,S,n,hk⟩
  ·obtain⟨its,_,pl,_⟩:=I.list hq
   refine⟨pl.isList.typeIs,fun a e=>?_⟩
   cases e
   obtain⟨o,n,e,c,hd,_⟩:=pl
   exact⟨o,e,hd⟩
  ·have z:∃ o:Obj,s.heap.get? p=some o/\o.cls=.type "tuple"/\o.dict=none:=by
    rcases ht with⟨o,hk,hc,hd⟩ | ⟨xs,hq⟩
    ·exact⟨o,I.kIn p o hk,hc,hd⟩
    ·exact I.tuple1 hq
   obtain⟨o,e1,hc,hd⟩:=z
   refine⟨⟨o,e1,hc⟩,fun a e=>?_⟩
   cases e
   exact⟨o,e1,hd⟩
  ·have z:∃ o,s.heap.get? p=some o/\o.ExactDict:=by
    rcases hk with⟨kvs,hk⟩ | ⟨kvs,hk⟩
    ·obtain⟨_,_,_,_,o,_,_,e,ex,_⟩:=I.hok p _ hk
     exact⟨o,e,ex⟩
    ·obtain⟨_,_,_,_,o,_,_,e,ex,_⟩:=I.hok p _ hk
     exact⟨o,e,ex⟩
   obtain⟨o,e,ex⟩:=z
   refine⟨⟨o,e,ex.1⟩,fun a e2=>?_⟩
   cases e2
   exact⟨o,e,ex.2.1⟩
  ·obtain⟨o,_,_,_,e,ex,_⟩:=I.hok p _ hk
   refine⟨⟨o,e,ex.1⟩,fun a e2=>?_⟩
   cases e2
   exact⟨o,e,ex.2.1⟩
 | _=>exact False.elim ty
noncomputable def tBM (K:PySem.W.Frag) (T:String) (r:V->List V->Hp->VK->Prop) (to:TE) (t:TA):TE:=fun σ H Q=>to σ H fun x H1=>tyV K T x H1/\t σ H1 fun xs H2=>r x xs H2 Q
variable {o e:Expr}{es:List Expr}{to:TE}{t:TA}{name:Str}{apos cpos:Pos}{T id:String}{r:V->List V->Hp->VK->Prop}
theorem pe_bm (pa:PlainAttrs T) (slot:Slot T name id) (hty:typeOf (.builtin id)=pure (.type "method_descriptor")) (hm:MtR X id r) (ho:PE X o to) (ha:PA X (e::es) t)
  (hbase:attributeBase o name X.env (eval o X.env)=eval o X.env:=by rfl)
  (hfew:((backTo cpos (starEach (e::es) X.env)).all (fun x=>!x.1) && (backToKw cpos (keywordEach [] X.env)).all (fun x=>x.1.isSome)
    && decide ((e::es).length+([]:List Keyword).length+(if ([]:List Keyword).isEmpty then 0 else 1) < 30))=true:=by rfl)
  (hline:(apos.endLine==cpos.line)=true:=by rfl) (hs:starEach (e::es) X.env=(false,eval e X.env)::starEach es X.env:=by rfl) (hplain:(backTo cpos (starEach es X.env)).any (·.1)=false:=by rfl) :
  PE X (.Call (.Attribute o name apos) (e::es) [] cpos) (tBM X.K T r to t):=by
 intro pins s σ H Q I h
 refine wpAny_Call_method_late hbase hfew hline rfl (thn (ho pins s σ H _ I h) fun v s1 ⟨x,H1,I1,r1,ty,q1⟩=>?_)
 obtain⟨h1,h2⟩:=tyV_is I1 r1 ty
 refine⟨T,id,pa,slot,hty,h1,h2,?_⟩
 have hA:=ha cpos pins s1 σ H1 _ I1 q1
 rw [hs] at hA ⊢
 refine Calls.callWith_builtin (by show (false || (backTo cpos (starEach es X.env)).any (·.1))=false;rw [hplain]<;>rfl) (Calls.evalArgs_plain ?_)
 exact thn hA fun us s2 ⟨vs,H2,I2,r2,q2⟩=>hm pins s2 σ H2 x vs v us Q I2 r1 r2 q2
end
end L2
namespace L2
open PySem PySem.Spec PyProof.Rows
theorem Vals.one:∀ {x:V}{us:List Value},Vals [x] us->∃ u,us=[u]/\RelV x u
 | _,_,.cons r .nil=>⟨_,rfl,r⟩
theorem Vals.two {x y:V}{us:List Value} (h:Vals [x,y] us):∃ u v,us=[u,v]/\RelV x u/\RelV y v:=by
 cases h with
 | cons r t=>cases t with
  | cons q t2=>cases t2;exact⟨_,_,rfl,r,q⟩
theorem Vals.rep {xs:List V}{us:List Value} (h:Vals xs us):∀ k:Nat,Vals (List.replicate k xs).flatten (List.replicate k us).flatten
 | 0=>.nil
 | k+1=>by
  rw [List.replicate_succ,List.replicate_succ,List.flatten_cons,List.flatten_cons]
  exact Vals.append h (Vals.rep h k)
theorem foldl_rep (its:List Value):∀ (k:Nat) (acc:List Value),
  List.foldl (fun x1 x2=>x1++x2) acc.toArray (List.replicate k its.toArray)=(acc++(List.replicate k its).flatten).toArray
 | 0,acc=>by simp
 | k+1,acc=>by
  have e:acc.toArray++its.toArray=(acc++its).toArray:=by simp
  have e2:(acc++its)++(List.replicate k its).flatten=acc++(List.replicate (k+1) its).flatten:=by
   rw [List.replicate_succ,List.flatten_cons,List.append_assoc]
  rw [←e2,←foldl_rep its k (acc++its),←e,List.replicate_succ,List.foldl_cons]
section
variable {X:Cx}{pins:List (Addr×Obj)}{σ:St}{H:Hp}{s:Shared}{l b:Addr}{xs ys zs:List V}
theorem Inv.lset {its its':List Value}{n:Nat}{f:Array Value->Array Value}{t':Nat} (I:Inv X pins σ H s) (hH:H l=some (.lst xs))
  (e:s.heap.get? l=some { cls:=.type "list",data:=.seq its.toArray n }) (hf:f its.toArray=its'.toArray) (hv:Vals ys its') (hz:ys.length≤sizeLine) :
  Inv X pins σ (upd H l (.lst ys)) { s with heap:=s.heap.update l (Obj.mapSeq f),toks:=t' }:=by
 have q:=PySem.IsL.update e f
 rw [hf] at q
 refine I.write (x:=l) (e:=l) (by rw [hH];exact trivial) (.inl rfl) (fun b' u hb hu=>(Heap.get?_update_other s.heap (Obj.mapSeq f) (Ne.symm hb)).trans hu) ⟨_,q⟩ ?_
 exact⟨hz,its',_,hv,q⟩
theorem Inv.lnew {its:List Value}{t':Nat} (I:Inv X pins σ H s) (hv:Vals ys its) (hz:ys.length≤sizeLine) :
  Inv X pins σ (upd H s.heap.objs.size (.lst ys)) { s with heap:=s.heap.push { cls:=.type "list",data:=.seq its.toArray },toks:=t' }:=
 I.laid (fun _ _ q=>Heap.get?_push_of_some _ q) (Nat.le_refl _) ⟨hz,its,0,hv,Heap.get?_push_size _ rfl⟩
theorem Inv.fresh (I:Inv X pins σ H s):H s.heap.objs.size=none:=I.hok.fresh (Nat.le_refl _)
theorem Inv.lstM (I:Inv X pins σ H s) (hH:H l=some (.lst xs)):xs.length≤sizeLine/\∃ (its:List Value) (n:Nat),Vals xs its/\xs.length=its.length/\s.heap.get? l=some { cls:=.type "list",data:=.seq its.toArray n }:=by
 obtain⟨z,its,n,r,e⟩:=I.hok l _ hH
 exact⟨z,its,n,r,r.length,e⟩
theorem notLongL {n:Nat} (h:n≤sizeLine):Builtin.List.listTooLong n=false:=by
 unfold Builtin.List.listTooLong
 exact decide_eq_false (by omega)
end
section
variable {X:Cx}
theorem len_rep {α:Type} (xs:List α) (k:Nat):(List.replicate k xs).flatten.length=k*xs.length:=by
 induction k with
 | zero=>simp
 | succ k ih=>rw [List.replicate_succ,List.flatten_cons,List.length_append,ih,Nat.succ_mul,Nat.add_comm]
end
section
variable {prog:Program}{w:World}{A:Around}{E:Value->Shared->Prop}{s:Shared}
end
section
variable {X:Cx}
end
end L2
namespace Att
open PySem PySem.W PySem.Calls PyProof.Rows
theorem ints_of_wellAll {P:Params}{h:Heap}:∀ (ns:List Int) (vs:List Value),WellAll P h vs (ns.map WData.int)->IntsAre vs ns:=by
 intro ns
 induction ns with
 | nil=>
  intro vs w
  rw [List.map_nil] at w
  cases w
  exact .nil
 | cons n ns ih=>
  intro vs w
  rw [List.map_cons] at w
  cases w with
  | cons a b=>
   cases a
   exact .cons _ _ (ih _ b)
theorem script_of {l:OpenLaw}{n:Nat} (hn:l.most=some n) {P:Params}{h:Heap}{args:List WData}{vals:List Value}
  (hpre:l.row.toRowW.claim.pre args=true) (hwl:WellAll P h vals args) :
  ∃ a vs ns,vals=[Value.ref a]/\args=[WData.list (ns.map WData.int)]/\h.get? a=some { cls:=.type "list",data:=.seq vs.toArray }/\IntsAre vs ns/\ns.length≤n:=by
 have hsh:WShape.hasAll [] args [.list .int]=true:=(pre_splitW hpre).1
 have hc:l.pre.holds [] { args:=args }=true:=(pre_splitW hpre).2
 obtain⟨d,r,rfl,h1,h2⟩:=hasAllW_cons hsh
 obtain rfl:=hasAllW_nil h2
 obtain⟨xs,rfl,h3⟩:=hasW_list h1
 obtain⟨ns,rfl⟩:=items_int h3
 have hlen:ns.length≤n:=by
  unfold OpenLaw.pre at hc
  have h4:(WTm.not (.lt (.lit (.int (n:Int))) (.len (.arg 0)))).holds [] { args:=[.list (ns.map .int)] }=true:=by
   have h4:=(holds_andW hc).1
   rw [hn] at h4
   exact h4
  have h5:=condW_of h4 (w_not (w_lt w_lit (w_len_list (w_arg rfl))))
  rw [List.length_map] at h5
  refine Nat.le_of_not_lt fun q=>?_
  have q':(n:Int) < ((ns.length:Nat):Int):=by omega
  first
   | (rw [decide_eq_true q'] at h5;exact absurd h5 (by decide))
   | (simp at h5;omega)
 cases hwl with
 | cons w1 w2=>
  cases w2
  cases w1 with
  | list ho hall=>exact⟨_,_,ns,rfl,rfl,ho,ints_of_wellAll ns _ hall,hlen⟩
theorem post_true (l:OpenLaw) (args:List WData):l.row.toRowW.claim.post args (.bool true) args=true:=
 postW_of (r:=l.row.toRowW) (X:=(true==true))
  (show WShape.has [] (.bool true) .bool=true by first | rfl | decide | simp [WShape.has,WShape.arms,WShape.armsAll])
  (show (WTm.eq .res (.lit (.bool true))).value [] { args:=args,res:=some (.bool true),after:=args }=some (.bool (true==true)) from w_eq_bool (w_res rfl) w_lit) rfl
theorem attach_call {l:OpenLaw}{n:Nat}{q:Program}{loose:List Str}{XP:(Str->Option Value)->Heap->Prop}{YP:World->Heap->Prop}{d:DefRec}
  (hn:l.most=some n) (hdf:d.params.defaults=[])
  (call:∀ (w:World) (s₀ s₁:Shared) (mg mb:Str->Option Value) (fa:Addr) (o:Obj) (pm cd doc:Value) (a:Addr) (vs:List Value) (ns:List Int),
    Ground q loose [] XP w s₀ mg mb s₁.heap->YP w s₁.heap->
    s₁.heap.get? fa=some o->o.data=.func (docDef d.name d.params d.body d.scope pm cd doc)->s₁.heap.CodeRec cd d.name->mg d.name=some (.ref fa)->
    s₁.heap.get? a=some { cls:=.type "list",data:=.seq vs.toArray }->IntsAre vs ns->ns.length≤n->s₁.gens=#[]->
    codeAny (model l.prog w) callerA (.call (.ref fa) ⟨[.ref a],[]⟩) (fun r s'=>r=.ok (.ret (.bool true))/\OldK s₁.heap s'.heap/\s'.os=s₁.os/\AllBare s'.gens) s₁) :
  WalkO q loose XP YP l.row.toRowW d [] (fun f vs=>PySem.call f vs):=by
 intro w s₀ s₁ mg mb G Y fa o pm cd doc dV kV ho hd hcd hD hmg hg args vals as hpre hlay hrd hwl hlo
 obtain rfl:dV=.none:=Dflts.none hD hdf
 obtain rfl:kV=.none:=Dflts.noKw hD
 obtain⟨a,vs,ns,rfl,rfl,hobj,hints,hlen⟩:=script_of hn hpre hwl
 refine enter_call (codeAny_mono (call w s₀ s₁ mg mb fa o pm cd doc a vs ns G Y ho (fd_plain hd) hcd hmg hobj hints hlen hg) fun r s' hq=>?_)
 obtain⟨rfl,h2,h3,h4⟩:=hq
 exact⟨.inl ⟨.bool true,.bool true,[],rfl,fun _=>rfl,.bool true,post_true l _,fun _=>⟨List.Pairwise.nil,fun _ hm=>(nomatch hm)⟩⟩,h2,h3,h4⟩
section
variable {prog:Program}{w:World}{A:Around}{E:Value->Shared->Prop}{s:Shared}{K:Frag}
end
end Att
namespace L2
open PySem PySem.Spec PyProof.Rows
theorem vals_ints:∀ {vs:List Value}{ns:List Int},IntsAre vs ns->Vals (ns.map V.int) vs
 | _,_,.nil=>.nil
 | _,_,.cons n t h=>.cons ⟨t,rfl⟩ (vals_ints h)
noncomputable def Only (H:Hp):Prop:=∀ b,H b=none∨∃ o xs,H b=some (.frz o (.lst xs))
theorem law_call {P:Program}{w:World}{K:PySem.W.Frag}{mg mb:Str->Option Value}{CX:CXT}{k:Nat}{fa a:Addr}{fd:FuncData}{x:Str}{sp:Sp}{s₁:Shared}{vs:List Value}{ns:List Int}
  (KX:K.In s₁.heap) (hns:s₁.heap.Ns mainGlobals mg) (hb:s₁.heap.Ns builtinsNs mb) (hbb:∀ x:Str,x≠"__name__"->mb x=bootBuiltins x) (hlim:s₁.heap.NoLimit) (hg:s₁.gens=#[])
  (ha:s₁.heap.get? a=some { cls:=.type "list",data:=.seq vs.toArray }) (hi:IntsAre vs ns) (hl:ns.length≤sizeLine) (hr:Room k callerA)
  (F:∀ base:Heap,K.In base->base.Ns mainGlobals mg->FnOk P w K mg base CX k fa fd [x] sp) (hbind:∀ (s:Shared) (u:Value),BindsTo s fd ⟨[u],[]⟩ [(x,u)])
  (hsp:∀ H:Hp,Only H->SqL K H a (ns.map V.int)->sp [.ref a] H (fun v _=>v=.bl true) fun _ _ _=>False)
  (hCX:∀ H e s',CX [] H s₁ (fun _ _ _=>False) e s'->False) :
  codeAny (model P w) callerA (.call (.ref fa) ⟨[.ref a],[]⟩) (fun r s'=>r=.ok (.ret (.bool true))/\OldK s₁.heap s'.heap/\s'.os=s₁.os/\AllBare s'.gens) s₁:=by
 have rv:=vals_ints hi
 have lenV:=hi.length
 -- from an abstract heap in which nothing but the script may be tracked
 have core:∀ H:Hp,Only H->SqL K H a (ns.map V.int)->HOk P w H s₁.heap->(∀ b,H b≠none->b=a)->(H a≠none->K.lookup a=none)->
   codeAny (model P w) callerA (.call (.ref fa) ⟨[.ref a],[]⟩) (fun r s'=>r=.ok (.ret (.bool true))/\OldK s₁.heap s'.heap/\s'.os=s₁.os/\AllBare s'.gens) s₁:=by
  intro H hO hS hok hA hK
  have base_of:∀ {b:Addr}{o:Obj},s₁.heap.get? b=some o->H b=none->(hidT s₁.heap H).get? b=some o:=fun e n=>hidT_get e n
  have noA:∀ {b:Addr}{o:Obj}{es:Array DictEntry}{ep:Nat},s₁.heap.get? b=some o->o.data=.dict es ep->H b=none:=fun {b o es ep} e d=>by
   cases q:H b with
   | none=>rfl
   | some u=>
    have e':b=a:=hA b (by rw [q];simp)
    subst e'
    rw [ha] at e;cases e
    have d':Data.seq vs.toArray _=Data.dict es ep:=d
    cases d'
  have nsK:∀ {b:Addr}{m:Str->Option Value},s₁.heap.Ns b m->(hidT s₁.heap H).Ns b m:=fun {b m} ⟨o,es,ep,e,d,r⟩=>⟨o,es,ep,base_of e (noA e d),d,r⟩
  have hKb:K.In (hidT s₁.heap H):=fun b o e=>base_of (KX b o e) (by
   cases q:H b with
   | none=>rfl
   | some u=>
    have e':b=a:=hA b (by rw [q];simp)
    subst e'
    rw [hK (by rw [q];simp)] at e;cases e)
  have hM:Mod K mg (hidT s₁.heap H):=⟨hKb,nsK hns,⟨mb,nsK hb,hbb⟩,let ⟨mc,h1,h2⟩:=hlim;⟨mc,nsK h1,h2⟩⟩
  have e0:Env0 P w K mg (hidT s₁.heap H) callerA [] s₁ H:=⟨rfl,hM,fun b o e=>of_hidT e,Nat.le_of_eq (hidT_size _ _),trivial,fun b hb=>absurd (show b ∈ ([]:List Addr) from hb) (by simp),hok,.of_eq hg⟩
  refine codeAny_mono ((F _ hKb (nsK hns)).run callerA [] s₁ H ⟨[.ref a],[]⟩ [.ref a] [.ref a] _ _ hr e0 (hbind s₁ (.ref a)) (.cons rfl .nil) (hsp H hO hS)) fun r s' h=>?_
  cases r with
  | error e=>exact (hCX H e s' h).elim
  | ok fl=>
   cases fl with
   | next=>exact False.elim h
   | brk=>exact False.elim h
   | cont=>exact False.elim h
   | ret u=>
    obtain⟨v,H',os,bare,un,hok',r',q⟩:=h
    have q':v=.bl true:=q
    subst q'
    obtain rfl:u=Value.bool true:=r'
    refine⟨rfl,OldK.of_keep fun b o e=>?_,os,bare⟩
    cases q:H b with
    | none=>exact un.keep b o e q (by intro z;exact absurd (show b ∈ ([]:List Addr) from z) (by simp)) (by simp)
    | some u=>
     rcases hO b with z | ⟨ob,xs,z⟩
     ·rw [q] at z;cases z
     ·have z2:=un.frzs b ob _ z
      obtain⟨e1,_⟩:=hok b _ z
      obtain⟨e2,_⟩:=hok' b _ z2
      rw [e] at e1;cases e1
      exact e2
 cases hk:K.lookup a with
 | some o=>
  -- the script is one of the module's own objects
  have e:=KX a o hk
  rw [ha] at e
  cases e
  refine core (fun _=>none) (fun _=>.inl rfl) (.inr ⟨_,vs.toArray,_,hk,rfl,rfl,rfl,by rw [List.size_toArray,lenV];exact hl,by simpa using rv⟩) (fun b u z=>by have z':(none:Option HO)=some u:=z;cases z') (fun b z=>absurd rfl z) fun z=>absurd rfl z
 | none=>
  refine core (fun b=>if b=a then some (.frz { cls:=.type "list",data:=.seq vs.toArray } (.lst (ns.map V.int))) else none) (fun b=>?_) (.inl (.inr ⟨{ cls:=.type "list",data:=.seq vs.toArray },if_pos rfl⟩)) (fun b u z=>?_) (fun b z=>?_) fun _=>hk
  ·by_cases hb:b=a
   ·exact .inr ⟨_,_,if_pos hb⟩
   ·exact .inl (if_neg hb)
  ·by_cases hb:b=a
   ·have z':=(if_pos hb).symm.trans z
    cases z'
    subst hb
    exact⟨ha,by rw [List.length_map];exact hl,vs,_,rv,ha⟩
   ·have z':=(if_neg hb).symm.trans z
    cases z'
  ·by_cases hb:b=a
   ·exact hb
   ·exact absurd (if_neg hb) z
end L2
namespace L2
open PySem PySem.Spec PyProof.Rows
theorem walk_of {l:PySem.W.OpenLaw}{n k:Nat}{q:Program}{loose:List Str}{XP:(Str->Option Value)->Heap->Prop}{YP:World->Heap->Prop}{d:DefRec}{K:Params->PySem.W.Frag}{CX:World->CXT}{sp:World->Sp}{x:Str}
  (hn:l.most=some n) (hn2:n≤sizeLine) (hdf:d.params.defaults=[]) (hr:Room k callerA)
  (hY:∀ (w:World) (h:Heap),YP w h->(K w.params).In h)
  (F:∀ (w:World) (mg:Str->Option Value) (fa:Addr) (h:Heap),(K w.params).In h->h.Ns mainGlobals mg->mg d.name=some (.ref fa)->
    ∃ fd:FuncData,(∀ (s:Shared) (u:Value),BindsTo s fd ⟨[u],[]⟩ [(x,u)])/\
     ∀ base:Heap,(K w.params).In base->base.Ns mainGlobals mg->FnOk l.prog w (K w.params) mg base (CX w) k fa fd [x] (sp w))
  (hsp:∀ (w:World) (H:Hp) (a:Addr) (ns:List Int),ns.length≤n->Only H->SqL (K w.params) H a (ns.map V.int)->sp w [.ref a] H (fun v _=>v=.bl true) fun _ _ _=>False)
  (hCX:∀ (w:World) (H:Hp) (s:Shared) (e:Value) (s':Shared),CX w [] H s (fun _ _ _=>False) e s'->False) :
  PySem.W.WalkO q loose XP YP l.row.toRowW d [] (fun f vs=>PySem.call f vs):=by
 refine Att.attach_call hn hdf fun w s₀ s₁ mg mb fa o pm cd doc a vs ns G Y ho hd hcd hmg hobj hints hlen hg=>?_
 have KX:=hY w _ Y
 obtain⟨fd,hb,hF⟩:=F w mg fa _ KX G.T.g hmg
 exact law_call KX G.T.g G.T.b G.T.builtins G.T.nolimit hg hobj hints (Nat.le_trans hlen hn2) hr hF hb (fun H hO hS=>hsp w H a ns hlen hO hS) fun H e s'=>hCX w H s₁ e s'
end L2
namespace L2
open PySem PySem.Spec PyProof.Rows
noncomputable def defArgs (s:Stmt):Arguments:=match s with
 | .FunctionDef _ a _ _ _ _ _ _ _ _=>a
 | _=>{ posonlyargs:=[],args:=[],vararg:=none,kwonlyargs:=[],kw_defaults:=[],kwarg:=none,defaults:=[] }
noncomputable def defBody (s:Stmt):List Stmt:=match s with
 | .FunctionDef _ _ b _ _ _ _ _ _ _=>b
 | _=>[]
noncomputable def defScope (s:Stmt):Scope:=match s with
 | .FunctionDef _ _ _ _ _ _ sc _ _ _=>sc
 | _=>{ kind:=.function,names:=[],isGenerator:=false,isCoroutine:=false }
abbrev CX0:CXT:=fun _ _ _ _ _ _=>False
abbrev E0:XK:=fun _ _ _=>False
theorem pass0 {X:Cx}:Passes CX0 X E0:=fun _ _ _ _ _ _ _ h=>h.elim
structure Fun (K:PySem.W.Frag) (x qual:Str) (st:Stmt) (f:Addr) (fd:FuncData):Prop where
 ex:∃ (oc:Value) (od:Option Addr) (kV doc pm:Value) (an:Option Addr) (cdv ct:Value) (osl:Array (Option Value)),
  fd=PySem.W.fnOf x qual (defArgs st) (defBody st) (defScope st) .none kV doc pm an cdv ct/\K.lookup f=some ⟨oc,od,.func fd,osl⟩/\PySem.W.codeIn K cdv qual=true
 kp:PySem.W.keepIn K (.ref f)=true
section
variable {P:Program}{w:World}{K:PySem.W.Frag}{mg:Str->Option Value}{base:Heap}
theorem Fun.ok {x qual:Str}{st:Stmt}{f:Addr}{fd:FuncData}{N ps:List Str}{k:Nat}{sp:Sp} (F:Fun K x qual st f fd) (S:FnScope N ps (defScope st)) (len:∀ vs H Q E,sp vs H Q E->vs.length=ps.length)
  (hbody:∀ (cdv:Value) (A:Around) (outer:List Env) (s:Shared) (H:Hp) (vs:List V) (Q:VK) (E:XK),Room k (A.deeper (envOfC qual (defScope st) s.heap.objs.size f cdv))->sp vs H Q E->
    ∃ t,PSs (cxOf CX0 P w K mg base N qual (defScope st) f cdv A outer s H E).nox (defBody st) t/\t { nx:=fun _ H'=>Q .non H',rt:=Q } (start N vs) H):FnOk P w K mg base CX0 (k+1) f fd ps sp:=by
 obtain⟨oc,od,kV,doc,pm,an,cdv,ct,osl,rfl,lk,hcd⟩:=F.ex
 refine fn_of lk hcd S len fun A outer s H vs Q E hr hsp=>?_
 obtain⟨t,h,q⟩:=hbody cdv A outer s H vs Q E hr hsp
 exact⟨t,h.nox,q⟩
theorem Fun.binds {x qual:Str}{st:Stmt}{f:Addr}{fd:FuncData}{ps:List Str} (F:Fun K x qual st f fd)
  (h:∀ (kV doc pm:Value) (an:Option Addr) (cdv ct:Value) (us:List Value),us.length=ps.length->bindArgs (PySem.W.fnOf x qual (defArgs st) (defBody st) (defScope st) .none kV doc pm an cdv ct) ⟨us,[]⟩=pure (ps.zip us)):Binds K fd ps []:=by
 obtain⟨oc,od,kV,doc,pm,an,cdv,ct,osl,rfl,lk,hcd⟩:=F.ex
 exact .all (h kV doc pm an cdv ct)
theorem fun_mk {x qual:Str}{st:Stmt}{f:Addr}{oc:Value}{od an:Option Addr}{osl:Array (Option Value)}{kV doc pm cdv ct:Value} (l:K.lookup f=some ⟨oc,od,.func (PySem.W.fnOf x qual (defArgs st) (defBody st) (defScope st) .none kV doc pm an cdv ct),osl⟩)
  (c:PySem.W.codeIn K cdv qual=true) (k:PySem.W.keepIn K (.ref f)=true):Fun K x qual st f (PySem.W.fnOf x qual (defArgs st) (defBody st) (defScope st) .none kV doc pm an cdv ct):=⟨⟨oc,od,kV,doc,pm,an,cdv,ct,osl,rfl,l,c⟩,k⟩
end
theorem hu_of {A:Around}{k:Nat} (hr:Room k A):A.units+1 < cLine:=Nat.lt_of_le_of_lt (Nat.add_le_add_left (by decide:1≤64) _) hr.units
theorem small1000 {n:Nat} (h:n≤1000):n < sizeLine:=Nat.lt_of_le_of_lt h (by decide)
section
variable {X:Cx}
end
theorem iteF {A B:Prop} (h:B):if false=true then A else B:=by
 rw [if_neg Bool.false_ne_true]
 exact h
theorem iteT {A B:Prop} (h:A):if true=true then A else B:=by
 rw [if_pos rfl]
 exact h
noncomputable def Same (H H':Hp):Prop:=∀ b o,H b=some o->H' b=some o
theorem Same.refl (H:Hp):Same H H:=fun _ _ h=>h
end L2
namespace L2
open PySem PySem.Spec PyProof.Rows
noncomputable def closOf (cells:List (Str×Addr)):List (Str×NameKind)->List (Str×Addr)->List (Str×Addr)
 | [],acc=>acc
 | (n,k)::r,acc=>if k==.free then closOf cells r ((n,(cells.lookup n).getD 0)::acc) else closOf cells r acc
theorem clos_forIn {env:Env} (f:Str×NameKind->List (Str×Addr)->Sem (ForInStep (List (Str×Addr))))
  (hf:∀ n k cs,f (n,k) cs=if k==.free then (do let c ←cellOf env n;pure (.yield ((n,c)::cs))) else pure (.yield cs)) :
  ∀ (names:List (Str×NameKind)) (acc:List (Str×Addr)),(∀ x ∈ names,x.2=.free->∃ c,env.cells.lookup x.1=some c)->
   forIn names acc f=pure (closOf env.cells names acc)
 | [],acc,_=>by rw [List.forIn_nil];rfl
 | (n,k)::r,acc,h=>by
  rw [List.forIn_cons,hf]
  unfold closOf
  by_cases hk:(k==.free)=true
  ·obtain⟨c,hc⟩:=h (n,k) List.mem_cons_self (beq_iff_eq.mp hk)
   have hc':env.cells.lookup n=some c:=hc
   rw [if_pos hk,if_pos hk]
   have:cellOf env n=pure c:=by unfold cellOf;rw [hc']
   rw [this,hc']
   simp only [pure_bind,Option.getD_some]
   exact clos_forIn f hf r _ fun x hx=>h x (List.mem_cons_of_mem _ hx)
  ·rw [if_neg hk,if_neg hk]
   simp only [pure_bind]
   exact clos_forIn f hf r _ fun x hx=>h x (List.mem_cons_of_mem _ hx)
theorem closureFor_eq {scope:Scope}{env:Env} (h:∀ x ∈ scope.names,x.2=.free->∃ c,env.cells.lookup x.1=some c) :
  closureFor scope env=pure (closOf env.cells scope.names []):=by
 simp only [closureFor]
 rw [clos_forIn (env:=env) _ (fun n k cs=>by cases hk:k==NameKind.free<;>simp [hk]) scope.names [] h]
 simp
theorem closOf_lookup {cells:List (Str×Addr)}:∀ (names:List (Str×NameKind)) (acc:List (Str×Addr)) {x:Str}{c:Addr},(closOf cells names acc).lookup x=some c->
  acc.lookup x=some c∨((x,NameKind.free) ∈ names/\c=(cells.lookup x).getD 0)
 | [],_,_,_,h=>.inl h
 | (n,k)::r,acc,x,c,h=>by
  unfold closOf at h
  by_cases hk:(k==.free)=true
  ·rw [if_pos hk] at h
   rcases closOf_lookup r _ h with q | ⟨q1,q2⟩
   ·rw [List.lookup_cons] at q
    cases hx:x==n with
    | true=>
     rw [hx] at q
     have e:=beq_iff_eq.mp hx
     subst e
     exact .inr ⟨by rw [←beq_iff_eq.mp hk];exact List.mem_cons_self,(Option.some.inj q).symm⟩
    | false=>rw [hx] at q;exact .inl q
   ·exact .inr ⟨List.mem_cons_of_mem _ q1,q2⟩
  ·rw [if_neg hk] at h
   rcases closOf_lookup r _ h with q | ⟨q1,q2⟩
   ·exact .inl q
   ·exact .inr ⟨List.mem_cons_of_mem _ q1,q2⟩
theorem closOf_some {cells:List (Str×Addr)}{x:Str}:∀ (names:List (Str×NameKind)) (acc:List (Str×Addr)),((x,NameKind.free) ∈ names∨(acc.lookup x).isSome=true)->((closOf cells names acc).lookup x).isSome=true
 | [],_,h=>h.elim (fun z=>nomatch z) id
 | (n,k)::r,acc,h=>by
  unfold closOf
  by_cases hk:(k==.free)=true
  ·rw [if_pos hk]
   refine closOf_some r _ ?_
   rcases h with h | h
   ·rcases List.mem_cons.mp h with e | h
    ·cases e
     exact .inr (by rw [List.lookup_cons,beq_self_eq_true];rfl)
    ·exact .inl h
   ·refine .inr ?_
    rw [List.lookup_cons]
    cases x==n
    ·exact h
    ·rfl
  ·rw [if_neg hk]
   refine closOf_some r _ ?_
   rcases h with h | h
   ·rcases List.mem_cons.mp h with e | h
    ·cases e;exact absurd rfl hk
    ·exact .inl h
   ·exact .inr h
theorem cellsFrom_lookup:∀ (names:List (Str×NameKind)) (n:Nat) (acc:List (Str×Addr)) {x:Str}{c:Addr},(cellsFrom n names acc).lookup x=some c->acc.lookup x=some c∨((x,NameKind.cell) ∈ names/\n≤c)
 | [],_,_,_,_,h=>.inl h
 | (m,k)::r,n,acc,x,c,h=>by
  unfold cellsFrom at h
  by_cases hk:(k==.cell)=true
  ·rw [if_pos hk] at h
   rcases cellsFrom_lookup r _ _ h with q | ⟨q1,q2⟩
   ·rw [List.lookup_cons] at q
    cases hx:x==m with
    | true=>
     rw [hx] at q
     have e:=beq_iff_eq.mp hx
     subst e
     exact .inr ⟨by rw [←beq_iff_eq.mp hk];exact List.mem_cons_self,by rw [Option.some.inj q];exact Nat.le_refl _⟩
    | false=>rw [hx] at q;exact .inl q
   ·exact .inr ⟨List.mem_cons_of_mem _ q1,Nat.le_of_succ_le q2⟩
  ·rw [if_neg hk] at h
   rcases cellsFrom_lookup r _ _ h with q | ⟨q1,q2⟩
   ·exact .inl q
   ·exact .inr ⟨List.mem_cons_of_mem _ q1,q2⟩
theorem cellsFrom_own:∀ (names:List (Str×NameKind)) (n:Nat) (acc:List (Str×Addr)),(∀ p ∈ acc,p.2 < n)->∀ {x y:Str}{c:Addr},(cellsFrom n names acc).lookup x=some c->(cellsFrom n names acc).lookup y=some c->n≤c->x=y:=by
 have key:∀ (names:List (Str×NameKind)) (n:Nat) (acc:List (Str×Addr)) (lo:Nat),lo≤n->(∀ p ∈ acc,p.2 < n)->(∀ p ∈ acc,∀ q ∈ acc,lo≤p.2->p.2=q.2->p.1=q.1)->
   ∀ p ∈ cellsFrom n names acc,∀ q ∈ cellsFrom n names acc,lo≤p.2->p.2=q.2->p.1=q.1:=by
  intro names
  induction names with
  | nil=>intro n acc lo _ _ h;exact h
  | cons z r ih=>
   intro n acc lo hlo hlt h
   obtain⟨m,k⟩:=z
   unfold cellsFrom
   by_cases hk:(k==.cell)=true
   ·rw [if_pos hk]
    refine ih _ _ lo (Nat.le_succ_of_le hlo) (fun p hp=>?_) (fun p hp q hq l e=>?_)
    ·rcases List.mem_cons.mp hp with e | hp
     ·rw [e];exact Nat.lt_succ_self _
     ·exact Nat.lt_succ_of_lt (hlt p hp)
    ·rcases List.mem_cons.mp hp with e1 | hp<;>rcases List.mem_cons.mp hq with e2 | hq
     ·rw [e1,e2]
     ·rw [e1] at e;exact absurd (hlt q hq) (by rw [←e];exact Nat.lt_irrefl _)
     ·rw [e2] at e;exact absurd (hlt p hp) (by rw [e];exact Nat.lt_irrefl _)
     ·exact h p hp q hq l e
   ·rw [if_neg hk]
    exact ih _ _ lo hlo hlt h
 intro names n acc hlt x y c hx hy hc
 exact key names n acc n (Nat.le_refl _) hlt (fun p hp q hq l _=>absurd (hlt p hp) (Nat.not_lt.mpr l)) _ (PySem.mem_of_lookup hx) _ (PySem.mem_of_lookup hy) hc rfl
theorem pushCells_cells:∀ (names:List (Str×NameKind)) (h:Heap) (acc:List (Str×Addr)),(∀ p ∈ acc,∃ v,h.IsCell p.2 v)->∀ p ∈ cellsFrom h.objs.size names acc,∃ v,(pushCells h names).IsCell p.2 v
 | [],_,_,h=>h
 | (m,k)::r,h,acc,hc=>by
  unfold cellsFrom pushCells
  by_cases hk:(k==.cell)=true
  ·rw [if_pos hk,if_pos hk]
   have:=pushCells_cells r (h.push { cls:=.type "cell",data:=.cell none }) ((m,h.objs.size)::acc) (fun p hp=>by
    rcases List.mem_cons.mp hp with e | hp
    ·rw [e];exact⟨none,_,Heap.get?_push_size _ rfl,rfl⟩
    ·obtain⟨v,z⟩:=hc p hp
     exact⟨v,z.keeps fun b o e=>Heap.get?_push_of_some _ e⟩)
   rwa [Heap.size_push] at this
  ·rw [if_neg hk,if_neg hk]
   exact pushCells_cells r h acc hc
theorem nodup_lookup {names:List (Str×NameKind)} (nd:(names.map (·.1)).Nodup):∀ {x:Str}{k:NameKind},(x,k) ∈ names->names.lookup x=some k:=by
 induction names with
 | nil=>intro x k h;cases h
 | cons z r ih=>
  intro x k h
  obtain⟨m,k'⟩:=z
  rw [List.map_cons,List.nodup_cons] at nd
  rw [List.lookup_cons]
  rcases List.mem_cons.mp h with e | h
  ·cases e;rw [beq_self_eq_true]
  ·have:(x==m)=false:=beq_eq_false_iff_ne.mpr fun e=>nd.1 (e ▸ List.mem_map.mpr ⟨(x,k),by assumption,rfl⟩)
   rw [this]
   exact ih nd.2 h
theorem relabel_lookup {env:Env}:∀ {names:List (Str×NameKind)}{x:Str}{k:NameKind},
  (names.map fun (n,k)=>if (k==NameKind.free && env.scope.kind==.function && env.kindOf n==some .cell) then (n,NameKind.cell) else (n,k)).lookup x=some k->
  ∃ k0,names.lookup x=some k0/\(k=k0∨(k0=.free/\k=.cell))
 | [],_,_,h=>by cases h
 | (n,k0)::r,x,k,h=>by
  rw [List.map_cons] at h
  dsimp only at h
  rw [List.lookup_cons]
  by_cases hc:(k0==NameKind.free && env.scope.kind==.function && env.kindOf n==some .cell)=true
  ·rw [if_pos hc,List.lookup_cons] at h
   cases hx:x==n with
   | true=>
    rw [hx] at h
    refine⟨k0,rfl,.inr ⟨?_,(Option.some.inj h).symm⟩⟩
    simp only [Bool.and_eq_true] at hc
    exact beq_iff_eq.mp hc.1.1
   | false=>rw [hx] at h;exact relabel_lookup h
  ·rw [if_neg hc,List.lookup_cons] at h
   cases hx:x==n with
   | true=>rw [hx] at h;exact⟨k0,rfl,.inl (Option.some.inj h).symm⟩
   | false=>rw [hx] at h;exact relabel_lookup h
theorem relabel_free {env:Env}:∀ {names:List (Str×NameKind)}{x:Str},names.lookup x=some .free->
  (names.map fun (n,k)=>if (k==NameKind.free && env.scope.kind==.function && env.kindOf n==some .cell) then (n,NameKind.cell) else (n,k)).lookup x=some .free∨
  (names.map fun (n,k)=>if (k==NameKind.free && env.scope.kind==.function && env.kindOf n==some .cell) then (n,NameKind.cell) else (n,k)).lookup x=some .cell
 | [],_,h=>by cases h
 | (n,k0)::r,x,h=>by
  rw [List.map_cons]
  dsimp only
  rw [List.lookup_cons] at h
  by_cases hc:(k0==NameKind.free && env.scope.kind==.function && env.kindOf n==some .cell)=true
  ·rw [if_pos hc,List.lookup_cons]
   cases hx:x==n with
   | true=>exact .inr rfl
   | false=>rw [hx] at h;exact relabel_free h
  ·rw [if_neg hc,List.lookup_cons]
   cases hx:x==n with
   | true=>rw [hx] at h;exact .inl h
   | false=>rw [hx] at h;exact relabel_free h
theorem newEnv_block {M:Model}{A:Around}{E:Value->Shared->Prop}{s:Shared}{scope:Scope}{env:Env}{cl:List (Str×Addr)}{Q:Env->Shared->Prop}
  (hQ:Q (newEnv scope s.heap.objs.size env.globals (cellsFrom (s.heap.objs.size+1) scope.names cl) env.qual none .none (some env) builtinsNs)
    { s with heap:=pushCells (s.heap.push { cls:=.type "dict",data:=.dict #[] }) scope.names }) :
  wpAny M A (newFunctionEnv scope env.globals cl [] env.qual none .none (some env)) Q E s:=by
 simp only [newFunctionEnv,Option.isSome_some,if_true]
 refine wpAny_bind (wpAny_alloc ?_)
 refine wpAny_bind (wpAny_layCells _ (fun name kind cells=>by cases hkc:kind==NameKind.cell<;>simp [hkc]) _ _ _ _ ?_)
 rw [show ({ s with heap:=s.heap.push { cls:=.type "dict",data:=.dict #[] } }:Shared).heap.objs.size=s.heap.objs.size+1 from Heap.size_push ..]
 refine wpAny_bind ?_
 rw [List.forIn_nil]
 exact wpAny_pure (wpAny_pure hQ)
theorem codeAny_compLoop_own {prog:Program}{w:World}{A:Around}{R:Result->Shared->Prop}{s:Shared}{elt target iter:Expr}{ifs:List Expr}{scope:Scope}{pos:Pos}{it acc:Value}{env:Env} (I:Nat->Shared->Prop)
  (turn:∀ n s,I n s->wpAny (model prog w) A (pyNext it) (fun r s₁=>match r with
    | none=>R (.ok .next) s₁
    | some v=>wpAny (model prog w) A (letOwnedTupleGo target it v) (fun _ s₁'=>wpAny (model prog w) A (assign target env v) (fun _ s₂=>
      wpAny (model prog w) A (forIn ifs true fun c r=>if r=true then do let ok ←isTrue c env (eval c env);pure (ForInStep.yield ok) else pure (ForInStep.yield r)) (fun ok s₃=>
       if ok=true then wpAny (model prog w) A (eval elt env) (fun x s₄=>
        wpAny (model prog w) A (call (.builtin "list.append") [acc,x]) (fun _ s₅=>∃ m,m < n/\I m s₅) (fun _ _=>False) s₄) (fun _ _=>False) s₃
       else ∃ m,m < n/\I m s₃) (fun _ _=>False) s₂) (fun _ _=>False) s₁') (fun _ _=>False) s₁) (fun _ _=>False) s)
  (n:Nat) (h:I n s) :
  codeAny (model prog w) A (.compLoop (.ListComp elt [⟨target,iter,ifs,0⟩] scope pos) 0 it acc env) R s:=by
 refine codeAny_loop rfl I (fun n s hI=>?_) n h
 show wpAny _ A ((compTurn (.ListComp elt [⟨target,iter,ifs,0⟩] scope pos) 0 it acc env).onRaise (fun x=>do noteFrame x env;theTreesLotGoes x)) _ _ s
 refine wpAny_noted ?_
 rw [compTurn_list]
 refine wpAny_bind (wpAny_standAt (wpAny_bind (wpAny_mono (turn n s hI) (fun r s₁ h₁=>?_) fun _ _ h'=>h'.elim)))
 cases r with
 | none=>exact wpAny_pure h₁
 | some v=>
  refine wpAny_bind (wpAny_mono h₁ (fun _ s₁' h₁'=>?_) fun _ _ h'=>h'.elim)
  refine wpAny_bind (wpAny_mono h₁' (fun _ s₂ h₂=>wpAny_bind (wpAny_mono h₂ (fun ok s₃ h₃=>?_) fun _ _ h'=>h'.elim)) fun _ _ h'=>h'.elim)
  cases ok with
  | false=>exact wpAny_pure ⟨rfl,h₃⟩
  | true=>
   exact wpAny_bind (wpAny_bind (wpAny_mono h₃ (fun x s₄ h₄=>wpAny_bind (wpAny_mono h₄ (fun _ s₅ h₅=>wpAny_pure (wpAny_pure ⟨rfl,h₅⟩)) fun _ _ h'=>h'.elim)) fun _ _ h'=>h'.elim))
noncomputable def lcX (X:Cx) (scope:Scope) (cells:List (Str×Addr)) (Nc:List Str) (s:Shared) (H:Hp) (C:Addr) (fp:List Addr):Cx where
 prog:=X.prog
 w:=X.w
 K:=X.K
 mg:=X.mg
 base:=X.base
 A:=X.A
 N:=Nc
 s₀:=s
 H₀:=H
 env:=compEnvC scope cells C X.env
 outer:=X.stack
 stack:=X.stack
 ex:=fp
 fn:=fun x=>scope.names.lookup x==some .cell
 calm:=X.calm
 pn:=[]
 xe:=fun _ _=>False
structure LcScope (X:Cx) (scope:Scope) (Nc:List Str) (emb:St->St):Prop where
 kind:scope.kind=.function
 nd:(scope.names.map (·.1)).Nodup
 nN:Nc.Nodup
 free:∀ x ∈ scope.names,x.2=.free->X.env.kindOf x.1=some .cell∨X.env.kindOf x.1=some .free
 len:∀ σ:St,σ.length=X.N.length->(emb σ).length=Nc.length
 emb:∀ σ:St,σ.length=X.N.length->∀ (i:Nat) (x:Str) (v:V),Nc[i]?=some x->(emb σ)[i]?=some (some v)->∃ j:Nat,X.N[j]?=some x/\σ[j]?=some (some v)/\scope.names.lookup x=some .free
section
variable {X:Cx}{pins:List (Addr×Obj)}{σ:St}{H:Hp}{s:Shared}{scope:Scope}{Nc:List Str}{emb:St->St}
theorem LcScope.clos (S:LcScope X scope Nc emb) (ok:X.Ok):∀ x ∈ scope.names,x.2=.free->∃ c,X.env.cells.lookup x.1=some c:=fun x hx h=>ok.has x.1 (S.free x hx h)
theorem lc_start (S:LcScope X scope Nc emb) (I:Inv X pins σ H s) {fp:List Addr} (hf:∀ b ∈ fp,FpOk X pins H b) (hfo:∀ b ∈ fp,∃ o,s.heap.get? b=some o) {lo:Obj} (hlo:∀ v,lo.data≠.cell v) (hfr:lo.isFreed=false) :
  Inv (lcX X scope (cellsFrom (s.heap.objs.size+2) scope.names (closOf X.env.cells scope.names [])) Nc s H (s.heap.objs.size+1) fp) [(s.heap.objs.size,lo)] (emb σ) H
   { s with heap:=pushCells ((s.heap.push lo).push { cls:=.type "dict",data:=.dict #[] }) scope.names }:=by
 have hsz2:((s.heap.push lo).push { cls:=.type "dict",data:=.dict #[] }).objs.size=s.heap.objs.size+2:=by rw [Heap.size_push,Heap.size_push]
 have hsz1:(s.heap.push lo).objs.size=s.heap.objs.size+1:=by rw [Heap.size_push]
 have hk:∀ b o,s.heap.get? b=some o->(pushCells ((s.heap.push lo).push { cls:=.type "dict",data:=.dict #[] }) scope.names).get? b=some o:=fun b o e=>
  pushCells_keeps _ _ b o (Heap.get?_push_of_some _ (Heap.get?_push_of_some _ e))
 have has:=S.clos I.ok
 have cl_old:∀ {x:Str}{c:Addr},(closOf X.env.cells scope.names []).lookup x=some c->X.env.cells.lookup x=some c/\(x,NameKind.free) ∈ scope.names:=fun {x c} h=>by
  rcases closOf_lookup _ _ h with q | ⟨q1,q2⟩
  ·cases q
  ·obtain⟨c',hc'⟩:=has _ q1 rfl
   have hc'':X.env.cells.lookup x=some c':=hc'
   rw [hc''] at q2
   exact⟨by rw [hc'',q2];rfl,q1⟩
 have cells_cases:∀ {x:Str}{c:Addr},(cellsFrom (s.heap.objs.size+2) scope.names (closOf X.env.cells scope.names [])).lookup x=some c->
   (X.env.cells.lookup x=some c/\(x,NameKind.free) ∈ scope.names)∨((x,NameKind.cell) ∈ scope.names/\s.heap.objs.size+2≤c):=fun {x c} h=>by
  rcases cellsFrom_lookup _ _ _ h with q | q
  ·exact .inl (cl_old q)
  ·exact .inr q
 have oldlt:∀ {x:Str}{c:Addr},X.env.cells.lookup x=some c->c < s.heap.objs.size:=fun {x c} h=>by
  obtain⟨v,z⟩:=I.cell x c h
  exact z.lt
 have fplt:∀ b ∈ fp,b < s.heap.objs.size:=fun b hb=>by obtain⟨o,e⟩:=hfo b hb;exact Heap.lt_size e
 have accmem:∀ p ∈ closOf X.env.cells scope.names [],∃ x,X.env.cells.lookup x=some p.2:=by
  have key:∀ (names:List (Str×NameKind)) (acc:List (Str×Addr)),(∀ x ∈ names,x.2=.free->∃ c,X.env.cells.lookup x.1=some c)->(∀ p ∈ acc,∃ x,X.env.cells.lookup x=some p.2)->∀ p ∈ closOf X.env.cells names acc,∃ x,X.env.cells.lookup x=some p.2:=by
   intro names
   induction names with
   | nil=>intro acc _ h;exact h
   | cons z r ih=>
    intro acc hn h
    obtain⟨m,k⟩:=z
    unfold closOf
    by_cases hk:(k==.free)=true
    ·rw [if_pos hk]
     refine ih _ (fun x hx=>hn x (List.mem_cons_of_mem _ hx)) fun p hp=>?_
     rcases List.mem_cons.mp hp with e | hp
     ·obtain⟨c,hc⟩:=hn _ List.mem_cons_self (beq_iff_eq.mp hk)
      have hc':X.env.cells.lookup m=some c:=hc
      exact⟨m,by rw [e,hc'];rfl⟩
     ·exact h p hp
    ·rw [if_neg hk]
     exact ih _ (fun x hx=>hn x (List.mem_cons_of_mem _ hx)) h
  exact key _ _ has fun p hp=>nomatch hp
 refine⟨⟨I.ok.mod,S.kind,I.ok.glob,I.ok.blt,Nat.le_succ _,fun x y c h1 h2=>?_,fun x hx=>?_,fun x c hx h=>?_,I.ok.hd,I.ok.frames,.inl rfl,fun b hb=>?_,I.bs,Nat.le_trans I.ok.bsz I.sz,fun b o e hb=>?_,fun b hb=>?_,I.stack,I.stkFree⟩,
  rfl,I.bare,Un.kept hk,⟨_,(Heap.Ns.new (s.heap.push lo) (.type "dict")).keeps (pushCells_keeps _ _) |> fun q=>by rw [hsz1] at q;exact q,fun i x v h1 h2 _=>?_⟩,fun x c h=>?_,I.hok.fresh (Nat.le_succ _),fun x c h=>?_,fun p hp=>?_,I.hok.kept hk,S.len σ I.len⟩
 ·-- inj
  have h1':(cellsFrom (s.heap.objs.size+2) scope.names (closOf X.env.cells scope.names [])).lookup x=some c:=h1
  have h2':(cellsFrom (s.heap.objs.size+2) scope.names (closOf X.env.cells scope.names [])).lookup y=some c:=h2
  rcases cells_cases h1' with⟨q1,_⟩ | ⟨_,q1⟩
  ·rcases cells_cases h2' with⟨q2,_⟩ | ⟨_,q2⟩
   ·exact I.ok.inj x y c q1 q2
   ·exact absurd (Nat.lt_of_lt_of_le (Nat.lt_succ_of_lt (Nat.lt_succ_of_lt (oldlt q1))) q2) (Nat.lt_irrefl _)
  ·refine cellsFrom_own scope.names _ _ (fun p hp=>?_) h1' h2' q1
   obtain⟨z,hz⟩:=accmem p hp
   exact Nat.lt_succ_of_lt (Nat.lt_succ_of_lt (oldlt hz))
 ·-- has
  have hx':(relabel scope X.env).names.lookup x=some .cell∨(relabel scope X.env).names.lookup x=some .free:=hx
  have:∃ k0,scope.names.lookup x=some k0/\(k0=.cell∨k0=.free):=by
   rcases hx' with q | q
   ·obtain⟨k0,h1,h2⟩:=relabel_lookup q
    exact⟨k0,h1,h2.elim (fun e=>.inl e.symm) fun e=>.inr e.1⟩
   ·obtain⟨k0,h1,h2⟩:=relabel_lookup q
    exact⟨k0,h1,h2.elim (fun e=>.inr e.symm) fun e=>by cases e.2⟩
  obtain⟨k0,h1,h2⟩:=this
  refine Option.isSome_iff_exists.mp (PySem.W.cellsFrom_some scope.names _ _ ?_)
  rcases h2 with rfl | rfl
  ·exact .inl h1
  ·exact .inr (closOf_some _ _ (.inl (PySem.mem_of_lookup h1)))
 ·-- cab
  have hx':scope.names.lookup x=some .cell:=beq_iff_eq.mp hx
  rcases cells_cases h with⟨_,q⟩ | ⟨_,q⟩
  ·have:=nodup_lookup S.nd q
   rw [hx'] at this;cases this
  ·exact Nat.le_trans (Nat.le_add_right _ 2) q
 ·-- exf
  refine⟨Nat.ne_of_lt (Nat.lt_succ_of_lt (fplt b hb)),fun x c h=>?_⟩
  rcases cells_cases h with⟨q,_⟩ | ⟨_,q⟩
  ·exact (hf b hb).2.2.2.2.1 x c q
  ·intro e
   exact absurd (Nat.lt_of_lt_of_le (Nat.lt_succ_of_lt (Nat.lt_succ_of_lt (fplt b hb))) (e ▸ q)) (Nat.lt_irrefl _)
 ·-- noex
  have hb':b ∈ fp:=hb
  rcases (hf b hb').2.2.2.1 with q | q
  ·exact I.ok.noex b o e q
  ·exact absurd (Nat.lt_of_lt_of_le (Heap.lt_size (I.ok.bs b o e).1) q) (Nat.lt_irrefl _)
 ·-- exfs
  intro hb2
  rcases List.mem_cons.mp (I.stkSub b hb2) with q | q
  ·exact (hf b hb).2.1 q
  ·exact (hf b hb).2.2.1 q
 ·-- loc
  obtain⟨j,e1,e2,e3⟩:=S.emb σ I.len i x v h1 h2
  have kx:=S.free (x,.free) (PySem.mem_of_lookup e3) rfl
  have kx':X.env.kindOf x=some .cell∨X.env.kindOf x=some .free:=kx
  obtain⟨m,hn,hl⟩:=I.loc
  obtain⟨u,ru,lk⟩:=hl j x v e1 e2 (.inr kx')
  refine⟨u,ru,.inr ⟨?_,?_⟩⟩
  ·rcases relabel_free (env:=X.env) e3 with q | q
   ·exact .inr q
   ·exact .inl q
  ·rcases lk with⟨z,_⟩ | ⟨_,c,hc,hcell⟩
   ·rcases kx' with q | q<;>(rw [z] at q;cases q)
   ·obtain⟨c',hc'⟩:=Option.isSome_iff_exists.mp (PySem.W.cellsFrom_some scope.names (s.heap.objs.size+2) (closOf X.env.cells scope.names []) (x:=x) (.inr (closOf_some _ _ (.inl (PySem.mem_of_lookup e3)))))
    rcases cells_cases hc' with⟨q,_⟩ | ⟨q,_⟩
    ·rw [hc] at q
     cases q
     exact⟨c,hc',hcell.keeps hk⟩
    ·have:=nodup_lookup S.nd q
     rw [e3] at this;cases this
 ·-- cell
  have h':(cellsFrom (s.heap.objs.size+2) scope.names (closOf X.env.cells scope.names [])).lookup x=some c:=h
  have:=pushCells_cells scope.names ((s.heap.push lo).push { cls:=.type "dict",data:=.dict #[] }) (closOf X.env.cells scope.names []) (fun p hp=>by
   obtain⟨z,hz⟩:=accmem p hp
   obtain⟨v,q⟩:=I.cell z p.2 hz
   exact⟨v,q.keeps fun b o e=>Heap.get?_push_of_some _ (Heap.get?_push_of_some _ e)⟩) (x,c) (by rw [hsz2];exact PySem.mem_of_lookup h')
  exact this
 ·-- freeC
  rcases cells_cases h with⟨q,_⟩ | ⟨_,q⟩
  ·exact I.freeC x c q
  ·exact I.hok.fresh (Nat.le_trans (Nat.le_add_right _ 2) q)
 ·-- pin
  have hp':p=(s.heap.objs.size,lo):=by
   have:p ∈ ([]:List (Addr×Obj))++[(s.heap.objs.size,lo)]:=hp
   simpa using this
  subst hp'
  refine⟨pushCells_keeps _ _ _ _ (Heap.get?_push_of_some _ (Heap.get?_push_size _ hfr)),I.hok.fresh (Nat.le_refl _),Nat.ne_of_lt (Nat.lt_succ_self _),fun hb=>?_,hlo⟩
  rcases List.mem_cons.mp (I.stkSub _ hb) with q | q
  ·exact absurd I.lt (by rw [←q];exact Nat.lt_irrefl _)
  ·exact I.nofs (Nat.le_refl _) q
end
end L2
namespace L2
open PySem PySem.Spec PyProof.Rows
noncomputable def PTs (X:Cx) (ifs:List Expr) (t:TT):Prop:=
 ∀ (pins:List (Addr×Obj)) (s:Shared) (σ:St) (H:Hp) (Q:Bool->Hp->Prop),Inv X pins σ H s->t σ H Q->
  wpAny (model X.prog X.w) X.A (forIn ifs true fun c r=>if r=true then do let ok ←isTrue c X.env (eval c X.env);pure (ForInStep.yield ok) else pure (ForInStep.yield r)) (TP X pins σ Q) X.xe s
noncomputable def tYes:TT:=fun _ H Q=>Q true H
theorem pts_nil {X:Cx}:PTs X [] tYes:=fun _ _ _ H _ I h=>wpAny_tests_nil ⟨H,I,h⟩
theorem pts_one {X:Cx}{c:Expr}{t:TT} (hc:PT X c t):PTs X [c] t:=fun pins s σ H Q I h=>wpAny_tests_one (hc pins s σ H Q I h)
noncomputable def Sub (σ σ':St):Prop:=σ.length=σ'.length/\∀ (i:Nat) (v:V),σ[i]?=some (some v)->σ'[i]?=some (some v)
noncomputable def LcEnd (J:It) (σe:St) (g:TG) (tt:TT) (te:TE) (H1:Hp) (Q:VK):Prop:=∃ W:Nat->Nat->List V->Hp->Prop,(∃ m,W 0 m [] H1)/\∀ i m ys H,W i m ys H->
 (J.stop i H/\∀ D,H D=none->Q (.ref D) (upd H D (.lst ys)))∨
 (J.go i H/\ys.length < sizeLine/\∃ N:List V->Hp->Prop,(∀ ys' H',N ys' H'->∃ m',m' < m/\W (i+1) m' ys' H')/\∀ x H',J.yld i H x H'->g x σe H' fun σ2 H2=>Sub σe σ2/\tt σ2 H2 fun b H3=>if b=true then te σ2 H3 fun v H4=>N (ys++[v]) H4 else N ys H3)
noncomputable def tLc (emb:St->St) (wi:TI) (g:TG) (tt:TT) (te:TE):TE:=fun σ H Q=>wi σ H fun J H1=>LcEnd J (emb σ) g tt te H1 Q
section
variable {X:Cx}{scope:Scope}{Nc:List Str}{emb:St->St}{elt iter tg:Expr}{ifs:List Expr}{pos:Pos}{wi:TI}{g:TG}{tt:TT}{te:TE}
theorem pe_lc (S:LcScope X scope Nc emb) (hc:X.calm=true) (hi:PI X tg iter wi)
  (hg:∀ cells s H C fp,PG (lcX X scope cells Nc s H C fp) tg g) (ht:∀ cells s H C fp,PTs (lcX X scope cells Nc s H C fp) ifs tt) (he:∀ cells s H C fp,PE (lcX X scope cells Nc s H C fp) elt te)
  (hs:∀ x,foldedSetIterable iter X.env x=pure x:=by intro _;rfl):PE X (.ListComp elt [⟨tg,iter,ifs,0⟩] scope pos) (tLc emb wi g tt te):=by
 intro pins s σ H Q I h
 rw [eval_ListComp]
 refine wpAny_comprehension_free (use:=none) rfl hs (closureFor_eq (S.clos I.ok)) S.kind (fun x hx hl=>nodup_lookup S.nd (by rw [←hl];exact hx)) ?_
 refine thn (hi pins s σ H _ I h) fun v s1 h1=>thn h1 fun itv s2 h2=>?_
 obtain⟨it,fp,tn,J,H2,e,I2,T,st2,f2,W,⟨m0,w0⟩,turn⟩:=h2
 subst e
 refine wpAny_newObj_type (newEnv_block ?_)
 rw [show (s2.heap.push { cls:=.type "list",dict:=none,data:=.seq ([]:List Value).toArray }).objs.size=s2.heap.objs.size+1 from Heap.size_push ..]
 generalize hD:s2.heap.objs.size=D
 generalize hlo:({ cls:=.type "list",dict:=none,data:=.seq ([]:List Value).toArray }:Obj)=lo
 have fplt:∀ b ∈ fp,b < s2.heap.objs.size:=fun b hb=>by obtain⟨o,e,_⟩:=T.obj _ _ st2 b hb;exact Heap.lt_size e
 have I3:=lc_start (lo:=lo) S I2 f2 (fun b hb=>by obtain⟨o,e,_⟩:=T.obj _ _ st2 b hb;exact⟨o,e⟩) (by rw [←hlo];intro v z;cases z) (by rw [←hlo];rfl)
 rw [hD] at I3
 generalize hcells:cellsFrom (D+2) scope.names (closOf X.env.cells scope.names [])=cells at I3
 generalize hX':lcX X scope cells Nc s2 H2 (D+1) fp=X' at I3
 have hfpX:∀ {H':Hp}{ps:List (Addr×Obj)},(∀ b ∈ fp,H' b=none)->(∀ p ∈ ps,p.1=D)->∀ b ∈ fp,FpOk X' ps H' b:=fun {H' ps} hn hps b hb=>by
  have ok:=I3.ok
  refine⟨hn b hb,?_,?_,.inl (by rw [←hX'];exact hb),?_,fun p hp=>?_⟩
  ·exact (ok.exf b (by rw [←hX'];exact hb)).1
  ·exact ok.exfs b (by rw [←hX'];exact hb)
  ·exact (ok.exf b (by rw [←hX'];exact hb)).2
  ·have hp':p ∈ ([]:List (Addr×Obj))++ps:=by rw [←hX'] at hp;exact hp
   have e:p.1=D:=hps p (by simpa using hp')
   rw [e,←hD]
   exact Nat.ne_of_gt (fplt b hb)
 have Dex:D ∈ X'.ex∨X'.s₀.heap.objs.size≤D:=.inr (by rw [←hX',←hD];exact Nat.le_refl _)
 have Dloc:D≠X'.env.locals:=by rw [←hX'];exact Nat.ne_of_lt (Nat.lt_succ_self _)
 have pD:=I3.pin (D,lo) (by rw [←hX'];exact List.mem_append_right _ List.mem_cons_self)
 have Dfs:D ∉ X'.fs:=pD.2.2.2.1
 have Dcell:∀ x c,X'.env.cells.lookup x=some c->c≠D:=fun x c hc' e=>by
  obtain⟨v,o,ho,hd⟩:=I3.cell x c hc'
  rw [e,pD.1] at ho
  cases ho
  exact pD.2.2.2.2 v hd
 -- the loop
 have loop:∀ s3:Shared,s3={ s2 with heap:=pushCells ((s2.heap.push lo).push { cls:=.type "dict",data:=.dict #[] }) scope.names }->
   codeAny (model X.prog X.w) X.A (.compLoop (.ListComp elt [⟨tg,iter,ifs,0⟩] scope pos) 0 (.ref it) (.ref D) (compEnvC scope cells (D+1) X.env))
    (compPost (model X.prog X.w) X.A X.xe none (EP X pins σ Q) (.ref D) (D+1)) s3:=by
  rintro s3 rfl
  refine codeAny_compLoop_own (fun n s'=>∃ i ys its k H',Inv X' [(D,{ cls:=.type "list",data:=.seq its.toArray k })] (emb σ) H' s'/\Vals ys its/\tn i s'.heap/\(∀ b ∈ fp,H' b=none)/\ys.length≤sizeLine/\W i n ys H') ?_ m0
   ⟨0,[],[],0,H2,?_,.nil,?_,fun b hb=>(f2 b hb).1,Nat.zero_le _,w0⟩
  ·rintro n s4 ⟨i,ys,its,k,H4,I4,rv,st4,fr4,hlen,w4⟩
   have hps:∀ p ∈ [(D,({ cls:=.type "list",data:=.seq its.toArray k }:Obj))],p.1=D:=fun p hp=>by
    have:=List.mem_singleton.mp hp
    rw [this]
   rcases turn i n ys H4 w4 with⟨stop,qn⟩ | ⟨go,hlt,N,hN,step⟩
   ·-- the end
    have TD:=T.done X' (by rw [←hX'];rfl) (by rw [←hX'];rfl) (by rw [←hX'];rfl) (by rw [←hX'];exact hc) i _ s4 (emb σ) H4 (fun _ _=>False) I4 (hfpX fr4 hps) st4 stop
    rw [show X'.A=X.A by rw [←hX'];rfl] at TD
    refine thn TD fun r s5 ⟨hr,I5⟩=>?_
    subst hr
    obtain⟨m5,hn5,_⟩:=id I5.loc
    have eC:X'.env.locals=D+1:=by rw [←hX'];rfl
    rw [eC] at hn5
    refine⟨m5,hn5,fun h' hsb=>?_⟩
    have pD5:=I5.pin (D,{ cls:=.type "list",data:=.seq its.toArray k }) (by rw [←hX'];exact List.mem_append_right _ List.mem_cons_self)
    have neC:∀ b u,H4 b=some u->b≠D+1:=fun b u e z=>by
     have:=I5.free
     rw [eC,←z,e] at this
     cases this
    have hD4:H4 D=none:=pD5.2.1
    have un:=I5.base
    have un':Un (frs X.stack) fp H2 H4 s2.heap s5.heap:=by rw [←hX'] at un;exact un
    have old_ne:∀ b o,s2.heap.get? b=some o->b≠D/\b≠D+1:=fun b o e=>by
     have q:=Heap.lt_size e
     rw [hD] at q
     exact⟨Nat.ne_of_lt q,Nat.ne_of_lt (Nat.lt_succ_of_lt q)⟩
    have h2D:H2 D=none:=by rw [←hD];exact I2.fresh
    have hok':HOk X.prog X.w H4 h':=fun b u e=>by
     have ob:ObjOk X.prog X.w H4 s5.heap b u:=by have:=I5.hok b u e;rw [←hX'] at this;exact this
     refine ob.stay (fun c v hcv q=>(hsb.2 c ?_).trans q) (fun _ q=>q) fun _ _ q=>q
     rcases hcv with z | z
     ·rw [z];exact neC b u e
     ·exact neC c _ z
    have hokD:HOk X.prog X.w (upd H4 D (.lst ys)) h':=fun b u e=>by
     by_cases hb:b=D
     ·subst hb
      rw [upd_same] at e
      cases e
      exact⟨hlen,its,k,rv,(hsb.2 b (Nat.ne_of_lt (Nat.lt_succ_self _))).trans pD5.1⟩
     ·rw [upd_ne hb] at e
      refine (hok' b u e).stay (fun _ _ _ q=>q) (fun c q=>?_) fun c z q=>?_
      all_goals first
       | (rw [upd_ne (ne_of_none q hD4)];exact q)
       | (rw [upd_ne (ne_of_none z hD4)];exact z)
    refine⟨.ref D,upd H4 D (.lst ys),?_,rfl,qn D hD4⟩
    refine I2.call' (s':={ s5 with heap:=h' }) (ch:=fp) ?_ ⟨fun b o e nb hb hx=>?_,fun b o e nb hb hx=>?_,fun b o e nb hx=>?_,fun b o e hx=>?_,fun b xs e=>?_,fun b o u e=>?_,fun b ps e=>?_⟩ hokD I5.bare (fun b hb=>?_)
    ·have:=I5.os
     rw [←hX'] at this
     exact this
    ·exact (hsb.2 b (old_ne b o e).2).trans (un'.keep b o e nb hb hx)
    ·obtain⟨sl,q⟩:=un'.slot b o e nb hb hx
     exact⟨sl,(hsb.2 b (old_ne b o e).2).trans q⟩
    ·rw [upd_ne (old_ne b o e).1]
     exact un'.free b o e nb hx
    ·obtain⟨o',q⟩:=un'.there b o e hx
     exact⟨o',(hsb.2 b (old_ne b o e).2).trans q⟩
    ·rw [upd_ne (ne_of_none e h2D)]
     exact un'.tups b xs e
    ·rw [upd_ne (ne_of_none e h2D)]
     exact un'.frzs b o u e
    ·obtain⟨m,q⟩:=un'.tbls b ps e
     exact⟨m,by rw [upd_ne (ne_of_none e h2D)];exact q⟩
    ·obtain⟨q0,q1,q2,q3,q4,q5⟩:=f2 b hb
     exact⟨q3,q1,q4,q5⟩
   ·-- a turn
    have hA:X'.A=X.A:=by rw [←hX'];rfl
    have hP:X'.prog=X.prog:=by rw [←hX'];rfl
    have hw:X'.w=X.w:=by rw [←hX'];rfl
    have hE:X'.env=compEnvC scope cells (D+1) X.env:=by rw [←hX'];rfl
    have hxe:X'.xe=fun _ _=>False:=by rw [←hX'];rfl
    have TI':=T.item X' hP hw (by rw [←hX'];rfl) (by rw [←hX'];exact hc) i _ s4 (emb σ) H4 (fun _ _=>False) I4 (hfpX fr4 hps) st4 go
    rw [hA] at TI'
    refine thn TI' fun r s5 ⟨u,hr,h5⟩=>?_
    subst hr
    refine thn h5 fun _ s6 ⟨x,H6,I6,r6,y6,st6,fr6⟩=>?_
    have I6':=I6.pinned (hfpX fr6 hps) (T.obj _ _ st6)
    have G:=hg cells s2 H2 (D+1) fp
    have TT':=ht cells s2 H2 (D+1) fp
    have EE:=he cells s2 H2 (D+1) fp
    rw [hX'] at G TT' EE
    have G':=G _ s6 (emb σ) H6 x u _ I6' r6 (step x H6 y6)
    rw [hA,hP,hw,hE,hxe] at G'
    refine thn G' fun _ s7 ⟨σ7,H7,I7,sb7,q7⟩=>?_
    have T':=TT' _ s7 σ7 H7 _ I7 q7
    rw [hA,hP,hw,hE,hxe] at T'
    refine thn T' fun ok s8 ⟨H8,I8,q8⟩=>?_
    -- what is pinned
    have pin_fp:∀ {σ9:St}{H9:Hp}{s9:Shared},Inv X' ([(D,({ cls:=.type "list",data:=.seq its.toArray k }:Obj))]++pinsAt fp s6.heap) σ9 H9 s9->tn (i+1) s9.heap/\∀ b ∈ fp,H9 b=none:=fun {σ9 H9 s9} I9=>
     ⟨T.keep _ _ _ st6 fun b hb o e=>(I9.pin (b,o) (List.mem_append_right _ (List.mem_append_right _ (mem_pinsAt hb e)))).1,fun b hb=>by
      obtain⟨o,e,_⟩:=T.obj _ _ st6 b hb
      exact (I9.pin (b,o) (List.mem_append_right _ (List.mem_append_right _ (mem_pinsAt hb e)))).2.1⟩
    cases ok with
    | false=>
     rw [if_neg (by decide)] at q8
     rw [if_neg (by decide)]
     obtain⟨m',hm,w8⟩:=hN _ _ q8
     exact⟨m',hm,i+1,ys,its,k,H8,I8.unpinned.weak sb7.1 sb7.2,rv,(pin_fp I8).1,(pin_fp I8).2,hlen,w8⟩
    | true=>
     rw [if_pos rfl] at q8
     rw [if_pos rfl]
     have E':=EE _ s8 σ7 H8 _ I8 q8
     rw [hA,hP,hw,hE,hxe] at E'
     refine thn E' fun y s9 ⟨v9,H9,I9,r9,n9⟩=>?_
     obtain⟨m',hm,w9⟩:=hN _ _ n9
     have pD9:=I9.pin (D,{ cls:=.type "list",data:=.seq its.toArray k }) (List.mem_append_right _ (List.mem_append_left _ List.mem_cons_self))
     have hl:=rv.length
     have I9n:Inv X' [] σ7 H9 s9:=I9.pins_of fun p hp=>nomatch hp
     refine call_meets F.slot_list_append ⟨_,pD9.1,rfl⟩ F.entry_list_append (F.args_list_append_2 _ _) (PySem.list_append D its.toArray k y (by rw [List.size_toArray];omega)) ⟨pD9.1,?_⟩
     have up:∃ k':Nat,(s9.heap.update D (Obj.mapSeq fun xs=>xs.push y)).get? D=some { cls:=.type "list",data:=.seq (its++[y]).toArray k' }:=by
      have q:=PySem.IsL.update pD9.1 (fun xs:Array Value=>xs.push y)
      simp only [List.push_toArray] at q
      exact⟨_,q⟩
     obtain⟨k',up⟩:=up
     have hoth:∀ b o,b≠D->s9.heap.get? b=some o->(s9.heap.update D (Obj.mapSeq fun xs=>xs.push y)).get? b=some o:=fun b o hb e=>(Heap.get?_update_other s9.heap _ (Ne.symm hb)).trans e
     have I10:=I9n.turned (t':=s9.toks) hoth pD9.2.1 Dloc Dex Dcell (fun p hp=>absurd (show p ∈ ([]:List (Addr×Obj)) by rw [←hX'] at hp;exact hp) (by simp))
     refine⟨m',hm,i+1,ys++[v9],its++[y],k',H9,(I10.weak sb7.1 sb7.2).pins_of (fun p hp=>?_),rv.append (.cons r9 .nil),T.keep _ _ _ (pin_fp I9).1 (fun b hb o e=>hoth b o (by rw [←hD];exact Nat.ne_of_lt (fplt b hb)) e),(pin_fp I9).2,?_,w9⟩
     ·have:=List.mem_singleton.mp hp
      subst this
      exact⟨up,pD9.2.1,Dloc,Dfs,fun v z=>by cases z⟩
     ·rw [List.length_append,List.length_singleton]
      omega
  ·have q:lo={ cls:=.type "list",data:=.seq ([]:List Value).toArray 0 }:=hlo.symm
   rw [←q]
   exact I3
  ·exact T.keep _ _ _ st2 fun b hb o e=>pushCells_keeps _ _ b o (Heap.get?_push_of_some _ (Heap.get?_push_of_some _ e))
 refine codeAny_compStart_list ?_ ?_
 ·exact loop _ rfl
 ·refine T.self X.A 0 _ _ _ (T.keep _ _ _ st2 fun b hb o e=>pushCells_keeps _ _ b o (Heap.get?_push_of_some _ (Heap.get?_push_of_some _ e))) ?_
  exact loop _ rfl
end
end L2
namespace L2
open PySem PySem.Spec PyProof.Rows
open PySem.AutoSeq1 (wpAny_loadPart')
section
variable {prog:Program}{w:World}{A:Around}{E:Value->Shared->Prop}{s:Shared}
theorem nextOf_tuple_item {it l:Addr}{i:Nat}{items}{x:Value}{Q:Value->Shared->Prop} (hit:s.heap.IsTupleIter it l i)
  (hl:s.heap.IsTuple l items) (hx:items[i]?=some x)
  (hQ:∀ h',h'.IsTupleIter it l (i+1)->Heap.SameBut it s.heap h'->Q x { s with heap:=h' }) :
  wpAny (model prog w) A (Builtin.SmallTypes.nextOf (.ref it)) Q E s:=by
 obtain⟨o,ho,hc,hd⟩:=id hit
 obtain⟨ol,hol,_,nl,hdl⟩:=hl
 unfold Builtin.SmallTypes.nextOf
 refine wpAny_bind (wpAny_callSpecial?_slot (name:=Str.ofString "__next__") hit.typeIs F.slot_tuple_iterator_next
  (wpAny_call_entry F.slot_tuple_iterator_next hit.typeIs F.entry_tuple_iterator_next ?_ (F.args_tuple_iterator_next_1 _)))
 show wpAny _ _ (field (.ref it) 0 >>= _) _ _ s
 refine wpAny_bind (wpAny_field ho hd (x:=.ref l) rfl ?_)
 show wpAny _ _ (if (Value.ref l==Value.none)=true then _ else _) _ _ s
 rw [if_neg (show ¬ ((Value.ref l==Value.none)=true) from Bool.false_ne_true)]
 show wpAny _ _ (field (.ref it) 1 >>= _) _ _ s
 refine wpAny_bind (wpAny_field ho hd (x:=.int i 0) rfl ?_)
 show wpAny _ _ (seqItems? (.ref l) >>= _) _ _ s
 refine wpAny_bind (wpAny_seqItems hol hdl ?_)
 simp only [Int.toNat_natCast,hx]
 refine wpAny_bind (wpAny_setField ho hd (by simp) (wpAny_pure ⟨x,rfl,wpAny_pure (hQ _ ?_ (Heap.SameBut.update ..))⟩))
 exact⟨_,Heap.get?_update_self _ ho (Obj.isFreed_of_fields (Obj.data_mapFields hd _)),(Obj.cls_mapFields ..).trans hc,by
  rw [Obj.data_mapFields hd];simp [rawInt]⟩
theorem nextOf_tuple_end {it l:Addr}{i:Nat}{items}{Q:Value->Shared->Prop} (hh:A.handled=none)
  (hit:s.heap.IsTupleIter it l i) (hl:s.heap.IsTuple l items) (hx:items[i]?=none)
  (hE:∀ h' e,Heap.ExtBut it s.heap h'->(∃ o,h'.get? e=some o/\o.cls=.type "StopIteration")->E (.ref e) { s with heap:=h' }) :
  wpAny (model prog w) A (Builtin.SmallTypes.nextOf (.ref it)) Q E s:=by
 obtain⟨o,ho,hc,hd⟩:=id hit
 obtain⟨ol,hol,_,nl,hdl⟩:=hl
 unfold Builtin.SmallTypes.nextOf
 refine wpAny_bind (wpAny_callSpecial?_slot (name:=Str.ofString "__next__") hit.typeIs F.slot_tuple_iterator_next
  (wpAny_call_entry F.slot_tuple_iterator_next hit.typeIs F.entry_tuple_iterator_next ?_ (F.args_tuple_iterator_next_1 _)))
 show wpAny _ _ (field (.ref it) 0 >>= _) _ _ s
 refine wpAny_bind (wpAny_field ho hd (x:=.ref l) rfl ?_)
 show wpAny _ _ (if (Value.ref l==Value.none)=true then _ else _) _ _ s
 rw [if_neg (show ¬ ((Value.ref l==Value.none)=true) from Bool.false_ne_true)]
 show wpAny _ _ (field (.ref it) 1 >>= _) _ _ s
 refine wpAny_bind (wpAny_field ho hd (x:=.int i 0) rfl ?_)
 show wpAny _ _ (seqItems? (.ref l) >>= _) _ _ s
 refine wpAny_bind (wpAny_seqItems hol hdl ?_)
 simp only [Int.toNat_natCast,hx]
 refine wpAny_bind (wpAny_rule (wpAny_bind (wpAny_setField ho hd (by simp) ?_)))
 show wpAny _ _ (newExc (.type "StopIteration") [] >>= _) _ _ _
 refine wpAny_bind ?_
 simp only [newExc,newTuple]
 refine wpAny_bind (wpAny_newObj_type ?_ (by size_fits))
 refine wpAny_bind (m:=firstArgMember _ _) (wpAny_of_eq (a:=Value.none) (by first | rfl | (simp only [firstArgMember];rfl)) ?_)
 refine wpAny_newObj_type ?_ (by size_fits)
 simp only [raiseNew]
 refine wpAny_bind (wpAny_handled ?_)
 first | rw [show A.in1.handled=none from hh] | rw [hh]
 refine wpAny_bind (wpAny_pure (wpAny_throw ?_))
 exact hE _ _ (((Heap.SameBut.update ..).extBut.push _).push _) ⟨_,Heap.get?_push_size _ rfl,rfl⟩
end
section
variable {X:Cx}{pins:List (Addr×Obj)}{σ:St}{H:Hp}{s:Shared}{h':Heap}{fp:List Addr}
theorem FpOk.ch (hf:∀ b ∈ fp,FpOk X pins H b):∀ b ∈ fp,(b ∈ X.ex∨X.s₀.heap.objs.size≤b)/\b≠X.env.locals/\(∀ x c,X.env.cells.lookup x=some c->c≠b)/\∀ p ∈ X.pn++pins,p.1≠b:=fun b hb=>
 let ⟨_,f1,_,f3,f4,f5⟩:=hf b hb
 ⟨f3,f1,f4,f5⟩
theorem Inv.turns {t':Nat} (I:Inv X pins σ H s) (hf:∀ b ∈ fp,FpOk X pins H b) (k:∀ b o,b ∉ fp->s.heap.get? b=some o->h'.get? b=some o):Inv X pins σ H { s with heap:=h',toks:=t' }:=by
 have nit:∀ b u,H b=some u->b ∉ fp:=fun b u e z=>by have:=(hf b z).1;rw [e] at this;cases this
 refine I.step (g':=s.gens) (d':=s.drawn) (ch:=fp) (FpOk.ch hf) (fun b o _ _ hc e _=>k b o hc e) (fun b o _ _ hc e _=>⟨o.slots,k b o hc e⟩) (fun _ _ _ _ n=>n)
  (fun b o hc e=>⟨o,k b o hc e⟩) (fun _ _ e=>e) (fun _ _ _ e=>e) (fun b ps e=>⟨#[],by rw [e];simp⟩) (fun m hm=>?_) (fun b u e=>?_) I.bare
 ·obtain⟨o,es,ep,ho,r⟩:=hm
  exact⟨o,es,ep,k _ o (fun z=>(hf _ z).2.1 rfl) ho,r⟩
 ·refine (I.hok b u e).stay (fun c v hc q=>k c v ?_ q) (fun _ q=>q) fun _ _ q=>q
  rcases hc with z | z
  ·rw [z];exact nit b u e
  ·exact nit c _ z
theorem Inv.turnsT {t':Nat}{T:Addr}{xs:List V}{its:Array Value} (I:Inv X pins σ H s) (hf:∀ b ∈ fp,FpOk X pins H b) (k:∀ b o,b ∉ fp->s.heap.get? b=some o->h'.get? b=some o)
  (hT:s.heap.objs.size≤T) (ht:IsTup1 h' T its) (rv:Vals xs its.toList) (hz:xs.length≤sizeLine):Inv X pins σ (upd H T (.tup xs)) { s with heap:=h',toks:=t' }:=by
 have nit:∀ b u,H b=some u->b ∉ fp:=fun b u e z=>by have:=(hf b z).1;rw [e] at this;cases this
 have hTn:H T=none:=I.hok.fresh hT
 have lt:∀ b o,s.heap.get? b=some o->b≠T:=fun b o e=>Nat.ne_of_lt (Nat.lt_of_lt_of_le (Heap.lt_size e) hT)
 refine I.step (g':=s.gens) (d':=s.drawn) (ch:=fp) (FpOk.ch hf) (fun b o _ _ hc e _=>k b o hc e) (fun b o _ _ hc e _=>⟨o.slots,k b o hc e⟩) (fun b o _ e n=>by rw [upd_ne (lt b o e)];exact n)
  (fun b o hc e=>⟨o,k b o hc e⟩) (fun b _ e=>by rw [upd_ne (ne_of_none e hTn)];exact e) (fun b _ _ e=>by rw [upd_ne (ne_of_none e hTn)];exact e) (fun b ps e=>⟨#[],by rw [upd_ne (ne_of_none e hTn),e];simp⟩) (fun m hm=>?_) (fun b u e=>?_) I.bare
 ·obtain⟨o,es,ep,ho,r⟩:=hm
  exact⟨o,es,ep,k _ o (fun z=>(hf _ z).2.1 rfl) ho,r⟩
 ·by_cases hb:b=T
  ·subst hb
   rw [upd_same] at e
   cases e
   refine⟨hz,its.toList,rv,?_⟩
   show IsTup1 h' b its.toList.toArray
   simpa using ht
  ·rw [upd_ne hb] at e
   refine (I.hok b u e).stay (fun c v hc q=>k c v ?_ q) (fun c q=>?_) fun c z q=>?_
   ·rcases hc with z | z
    ·rw [z];exact nit b u e
    ·exact nit c _ z
   all_goals first
    | (rw [upd_ne (ne_of_none q hTn)];exact q)
    | (rw [upd_ne (ne_of_none z hTn)];exact z)
end
end L2
namespace L2
open PySem PySem.Spec PyProof.Rows
section
variable {X:Cx}
theorem vals_intsA {ns:List Int}:∀ {us:List Value},Vals (ns.map V.int) us->∃ xs:Array (Int×Tok),us.toArray=intItems xs/\xs.toList.map (·.1)=ns:=by
 induction ns with
 | nil=>intro us r;cases r;exact⟨#[],by simp [intItems],rfl⟩
 | cons n ns ih=>
  intro us r
  rw [List.map_cons] at r
  cases r with
  | cons r rr=>
   obtain⟨t,rfl⟩:=r
   obtain⟨xs,e,e2⟩:=ih rr
   refine⟨#[(n,t)]++xs,?_,by simp [e2]⟩
   apply Array.toList_inj.mp
   have e':=congrArg Array.toList e
   simp [intItems] at e' ⊢
   exact e'
theorem call_sum:CallR X (.builtin "sum") (fun xs H Q=>X.calm=true/\∃ (a:Addr) (ns:List Int),xs=[.ref a]/\SqL X.K H a (ns.map V.int)/\Q (.int ns.sum) H):=by
 intro pins s σ H xs us Q I rv h
 obtain⟨hc,a,ns,rfl,hq,q⟩:=h
 cases rv with
 | cons r rr=>
  cases rr
  cases r
  obtain⟨its,rv,p,hz⟩:=I.list hq
  obtain⟨ps,e1,e2⟩:=vals_intsA rv
  have hl:=p.isList
  rw [e1] at hl
  refine sum_intListG (I.ok.hd hc) hl fun h' tk t' hk=>?_
  refine⟨.int ns.sum,H,I.kept (t':=tk) hk,⟨t',?_⟩,q⟩
  rw [preSum_eq,List.take_of_length_le (by simp),e2]
theorem call_all:CallR X (.builtin "all") (fun xs H Q=>X.calm=true/\∃ (a:Addr) (bs:List Bool),xs=[.ref a]/\SqL X.K H a (bs.map V.bl)/\Q (.bl (bs.all id)) H):=by
 intro pins s σ H xs us Q I rv h
 obtain⟨hc,a,bs,rfl,hq,q⟩:=h
 cases rv with
 | cons r rr=>
  cases rr
  cases r
  obtain⟨its,rv,p,hz⟩:=I.list hq
  have hlt:a < s.heap.objs.size:=by obtain⟨_,_,e,_⟩:=p;exact Heap.lt_size e
  have hlen:its.length=bs.length:=by have:=rv.length;simpa using this.symm
  refine call_all_walk (wpAny_pyIter_list p.isList ?_)
  refine⟨s.heap.objs.size,_,_,_,_,_,fun i=>(bs[i]?).getD true,rfl,Walks.list (A:=X.A.in1) (I.ok.hd hc) s.heap.objs.size a (Nat.ne_of_lt hlt) its.toArray,⟨⟨_,Heap.get?_push_size _ rfl,rfl,rfl⟩,p.isList.push _⟩,?_,fun h' tk hk=>?_⟩
  ·intro i v s' Q' E' hv hQ'
   have hv':its[i]?=some v:=by simpa using hv
   have hi:i < its.length:=(List.getElem?_eq_some_iff.mp hv').1
   obtain⟨b,hb⟩:∃ b,bs[i]?=some b:=⟨bs[i]'(by omega),by simp [show i < bs.length by omega]⟩
   have:(bs.map V.bl)[i]?=some (.bl b):=by rw [List.getElem?_map,hb];rfl
   obtain⟨u,hu,ru⟩:=rv.get this
   rw [hv'] at hu
   cases hu
   cases ru
   have hQ2:Q' ((bs[i]?).getD true) s':=hQ'
   rw [hb] at hQ2
   exact wpAny_truthy_bool hQ2
  ·refine⟨.bl (bs.all id),H,I.kept (t':=tk) (fun b o e=>hk b o (fun z=>absurd (Heap.lt_size e) (by rw [List.mem_singleton.mp z];exact Nat.lt_irrefl _)) (Heap.get?_push_of_some _ e)),?_,q⟩
   show Value.bool _=Value.bool _
   congr 1
   have:∀ n,n=bs.length->((List.range n).all fun i=>(bs[i]?).getD true)=bs.all id:=by
    intro n hn
    rw [Bool.eq_iff_iff,List.all_eq_true,List.all_eq_true]
    constructor
    ·intro h b hb
     obtain⟨i,hi,e⟩:=List.mem_iff_getElem.mp hb
     have:=h i (List.mem_range.mpr (by omega))
     simp [hi,e] at this
     exact this
    ·intro h i hi
     have hi':=List.mem_range.mp hi
     have hlt':i < bs.length:=by omega
     simp [hlt']
     exact h _ (List.getElem_mem _)
   exact this _ (by simpa using hlen)
end
end L2
namespace L2
open PySem PySem.Spec PyProof.Rows
noncomputable def embOf (k:Nat) (js:List Nat) (σ:St):St:=List.replicate k none++js.map fun j=>(σ[j]?).getD none
noncomputable def lcOk (scope:Scope) (ns:List (Str×NameKind)) (N Nc:List Str) (k:Nat) (js:List Nat):Bool:=
 decide ((scope.names.map (·.1)).Nodup) && decide Nc.Nodup && decide (Nc.length=k+js.length) &&
 (scope.names.all fun x=>x.2 != .free || ns.lookup x.1==some .cell || ns.lookup x.1==some .free) &&
 ((List.range js.length).all fun i=>match Nc[k+i]?,js[i]? with | some x,some j=>N[j]?==some x && scope.names.lookup x==some .free | _,_=>false)
theorem lc_mk {X:Cx}{scope:Scope} (ns:List (Str×NameKind)) (N Nc:List Str) (k:Nat) (js:List Nat) (hns:X.env.scope.names=ns) (hN:X.N=N) (hk:scope.kind=.function) (h:lcOk scope ns N Nc k js=true):LcScope X scope Nc (embOf k js):=by
 unfold lcOk at h
 simp only [Bool.and_eq_true,decide_eq_true_eq] at h
 obtain⟨⟨⟨⟨h1,h2⟩,h3⟩,h4⟩,h5⟩:=h
 refine⟨hk,h1,h2,fun x hx hf=>?_,fun σ _=>?_,fun σ _ i x v e1 e2=>?_⟩
 ·have:=List.all_eq_true.mp h4 x hx
  rw [hf] at this
  simp only [Bool.or_eq_true,beq_iff_eq,bne_self_eq_false,Bool.false_eq_true,false_or] at this
  unfold Env.kindOf
  rw [hns]
  exact this
 ·unfold embOf
  rw [List.length_append,List.length_replicate,List.length_map,h3]
 ·unfold embOf at e2
  by_cases hi:i < k
  ·rw [List.getElem?_append_left (by simpa using hi),List.getElem?_replicate,if_pos hi] at e2
   cases e2
  ·rw [List.getElem?_append_right (by simpa using hi),List.length_replicate,List.getElem?_map] at e2
   cases ej:js[i - k]? with
   | none=>rw [ej] at e2;cases e2
   | some j=>
    rw [ej] at e2
    have hlt:=(List.getElem?_eq_some_iff.mp ej).1
    have:=List.all_eq_true.mp h5 (i - k) (List.mem_range.mpr hlt)
    rw [show k+(i - k)=i by omega,e1,ej] at this
    simp only [Bool.and_eq_true,beq_iff_eq] at this
    refine⟨j,by rw [hN];exact this.1,?_,this.2⟩
    have e3:(σ[j]?).getD none=some v:=Option.some.inj e2
    cases eq:σ[j]? with
    | none=>rw [eq] at e3;cases e3
    | some o=>rw [eq] at e3;rw [show o=some v from e3]
section
variable {σe tl:St}{tt:TT}{te:TE}{H:Hp}{Q:VK}
end
section
variable {X:Cx}
theorem op_mulG:OpR X (binaryOp .Mult) (rI IntMulOk fun i j=>.int (i*j)):=opI fun _ _ _ _ _ _ _ hc q=>mul_int q hc
end
theorem Same.new {H:Hp}{p:Addr} (h:H p=none) (o:HO):Same H (upd H p o):=fun b u q=>by rw [upd_ne (ne_of_none q h)];exact q
end L2
namespace L2
open PySem PySem.Spec PyProof.Rows
theorem small16 {n:Nat} (h:n≤1000):n≤sizeLine:=Nat.le_of_lt (small1000 h)
end L2
namespace L2
open PySem PySem.Spec PyProof.Rows
theorem p18:CPow 10 18:=⟨by decide,by decide,by decide⟩
end L2
namespace L2
open PySem PySem.Spec PyProof.Rows
open PySem.AutoSeq1 (wpAny_loadPart')
theorem tmul_one (l:Addr) (items:Array Value) (n:Nat) (dct:Option Addr) (sl:Array (Option Value)) (u:Tok) :
  Meets (Builtin.«tuple.__mul__» ⟨[.ref l,.int 1 u],[]⟩) (fun _ R s=>s.heap.get? l=some { cls:=.type "tuple",dict:=dct,data:=.seq items n,slots:=sl }/\R (.ok (.ret (.ref l))) s):=
 .of_wp fun prog w A R s h=>by
  obtain⟨hp,g,d,tk,os⟩:=s;obtain⟨hl,h⟩:=h
  wp_walk using wpAny_loadPart' hl
  exact⟨_,rfl,h⟩
theorem tmul_many (l:Addr) (items:Array Value) (n:Nat) (dct:Option Addr) (sl:Array (Option Value)) (x:Int) (u:Tok) (h2:2≤x) (h3:x < 1000) (he:items.isEmpty=false) (hz:items.size≤1000)
  (hsz:((List.replicate x.toNat items).foldl (fun x1 x2=>x1++x2) #[]).size≤sizeLine) :
  Meets (Builtin.«tuple.__mul__» ⟨[.ref l,.int x u],[]⟩) (fun _ R s=>s.heap.get? l=some { cls:=.type "tuple",dict:=dct,data:=.seq items n,slots:=sl }/\
   R (.ok (.ret (.ref s.heap.objs.size))) { s with heap:=s.heap.push { cls:=.type "tuple",data:=.seq ((List.replicate x.toNat items).foldl (fun x1 x2=>x1++x2) #[]) } }):=
 .of_wp fun prog w A R s h=>by
  obtain⟨hp,g,d,tk,os⟩:=s;obtain⟨hl,h⟩:=h
  have c1:(x < -(2 ^ 63) || x≥2 ^ 63)=false:=by simp;omega
  have c2:(items.isEmpty || x==1)=false:=by rw [he];simp;omega
  have c3:(x≤0 || items.isEmpty)=false:=by rw [he];simp;omega
  have hpr:(items.size:Int)*x≤1000000:=by
   have a1:(items.size:Int)*x≤1000*x:=Int.mul_le_mul_of_nonneg_right (by omega) (by omega)
   omega
  have c4:¬ ((items.size:Int)*x > (2 ^ 63 - 1) / 8):=by omega
  have c5:Builtin.Tuple.tupleTooMany ((items.size:Int)*x)=false:=by
   unfold Builtin.Tuple.tupleTooMany
   exact decide_eq_false (by have:(sizeLine:Nat)=16777216:=rfl
                             omega)
  wp_walk using wpAny_loadPart' hl
  refine wpAny_ite_false (decide_eq_false (by rw [c1];exact Bool.false_ne_true)) ?_
  wp_walk using wpAny_loadPart' hl
  refine wpAny_ite_false (decide_eq_false (by rw [c2];exact Bool.false_ne_true)) ?_
  wp_walk using wpAny_loadPart' hl
  refine wpAny_ite_false (decide_eq_false (by rw [c3];exact Bool.false_ne_true)) ?_
  wp_walk using wpAny_loadPart' hl
  refine wpAny_ite_false (decide_eq_false c4) ?_
  wp_walk using wpAny_loadPart' hl
  exact⟨_,rfl,h⟩
theorem noFill_tuple_mul:fillsNumberSlot (.type "tuple") "mul" = pure false:=
 PySem.fillsNumberSlot_seq (id:="tuple.__mul__") (r:=some (.builtin "tuple.__rmul__")) F.slot_tuple_mul.lookup (by decide +kernel) F.slot_tuple_rmul.lookup (by decide +kernel)
theorem repeat_tuple:seqRepeat? (.type "tuple")=pure (some (.builtin "tuple.__mul__")):=by
 unfold seqRepeat?
 rw [PySem.seqSlot_of (T:="tuple") (name:="__mul__") (id:="tuple.__mul__") F.slot_tuple_mul.lookup (by decide +kernel),PySem.seqSlot_of (T:="tuple") (name:="__rmul__") (id:="tuple.__rmul__") F.slot_tuple_rmul.lookup (by decide +kernel)]
 rfl
theorem int_rmul_tuple (a:Int) (t:Tok) (l:Addr) (items:Array Value) (n:Nat) (dct:Option Addr) (sl:Array (Option Value)) :
  Meets (Builtin.«int.__rmul__» ⟨[.int a t,.ref l],[]⟩) (fun _ R s=>s.heap.get? l=some { cls:=.type "tuple",dict:=dct,data:=.seq items n,slots:=sl }/\R (.ok (.ret Value.notImplemented)) s):=
 .of_wp fun prog w A R s h=>by obtain⟨hp,g,d,tk,os⟩:=s;obtain⟨hl,h⟩:=h;wp_walk using wpAny_loadPart' hl;exact⟨_,rfl,h⟩
section
variable {X:Cx}
noncomputable def rRepT (K:PySem.W.Frag):R2:=fun x y H Q=>∃ l k xs,x=.ref l/\y=.int k/\SqT K H l xs/\xs≠[]/\xs.length≤1000/\1≤k/\k < 1000/\(k=1->Q (.ref l) H)/\
 (k≠1->∀ p,H p=none->Q (.ref p) (upd H p (.tup (List.replicate k.toNat xs).flatten)))
theorem op_repT:OpR X (binaryOp .Mult) (rRepT X.K):=by
 intro pins s σ H x y v u Q I rx ry h
 obtain⟨l,k,xs,rfl,rfl,hq,hne,hl1,h1,h2,q1,q2⟩:=h
 cases rx
 obtain⟨t,rfl⟩:=ry
 obtain⟨its,rv,p,hz⟩:=I.tuple hq
 obtain⟨⟨c,dct,dt,sl⟩,e,hc,n,hd⟩:=p
 replace hc:c=.type "tuple":=hc
 replace hd:dt=.seq its.toArray n:=hd
 subst hc hd
 have hlen:=rv.length
 refine wpAny_binaryOp_repeat_ref (T:="tuple") (U:="int") (by decide) ⟨_,e,rfl⟩ (fun s'=>typeIs_int s' k t) noFill_tuple_mul F.fills_int_mul F.slot_int_rmul repeat_tuple F.slot_int_index.lookup
  (call_meets F.slot_int_rmul (typeIs_int s k t) F.entry_int_rmul (F.args_int_rmul_2 _ _) (int_rmul_tuple k t l its.toArray n dct sl) ⟨e,rfl,⟨_,e,rfl⟩,?_⟩)
 by_cases hk:k=1
 ·subst hk
  exact call_meets F.slot_tuple_mul ⟨_,e,rfl⟩ F.entry_tuple_mul (F.args_tuple_mul_2 _ _) (tmul_one l its.toArray n dct sl t) ⟨e,.ref l,H,I,rfl,q1 rfl⟩
 ·have f0:List.foldl (fun x1 x2=>x1++x2) #[] (List.replicate k.toNat its.toArray)=(List.replicate k.toNat its).flatten.toArray:=by
   have:=foldl_rep its k.toNat []
   rw [List.nil_append] at this
   exact this
  have hsz:(List.replicate k.toNat xs).flatten.length≤sizeLine:=by
   rw [len_rep]
   have:k.toNat*xs.length≤1000*1000:=Nat.mul_le_mul (by omega) hl1
   have hs:sizeLine=16777216:=rfl
   omega
  have hsz2:(List.replicate k.toNat its).flatten.length≤sizeLine:=by
   rw [len_rep] at hsz ⊢
   rw [←hlen];exact hsz
  refine call_meets F.slot_tuple_mul ⟨_,e,rfl⟩ F.entry_tuple_mul (F.args_tuple_mul_2 _ _) (tmul_many l its.toArray n dct sl k t (by omega) h2 ?_ (by rw [List.size_toArray];omega) (by rw [f0,List.size_toArray];exact hsz2)) ⟨e,?_⟩
  ·cases its with
   | nil=>cases xs with
    | nil=>exact absurd rfl hne
    | cons _ _=>cases hlen
   | cons _ _=>rfl
  ·rw [f0]
   refine⟨.ref _,_,I.laid (t':=s.toks) (o:=.tup (List.replicate k.toNat xs).flatten) (fun _ _ q=>Heap.get?_push_of_some _ q) (Nat.le_refl _) ⟨hsz,(List.replicate k.toNat its).flatten,rv.rep k.toNat,⟨_,Heap.get?_push_size _ rfl,rfl,⟨0,rfl⟩,rfl⟩⟩,rfl,q2 hk _ I.fresh⟩
end
end L2
namespace L2
open PySem PySem.Spec PyProof.Rows
end L2
namespace L2
open PySem PySem.Spec PyProof.Rows
section
variable {X:Cx}{K:PySem.W.Frag}
theorem k_sum (hc:X.calm=true:=by rfl) (hK:X.K=K:=by rfl):CallR X (.builtin "sum") (fun xs H Q=>∃ (a:Addr) (ns:List Int),xs=[.ref a]/\SqL K H a (ns.map V.int)/\Q (.int ns.sum) H):=by
 subst hK
 intro pins s σ H xs us Q I rv h
 exact call_sum pins s σ H xs us Q I rv ⟨hc,h⟩
theorem k_all (hc:X.calm=true:=by rfl) (hK:X.K=K:=by rfl):CallR X (.builtin "all") (fun xs H Q=>∃ (a:Addr) (bs:List Bool),xs=[.ref a]/\SqL K H a (bs.map V.bl)/\Q (.bl (bs.all id)) H):=by
 subst hK
 intro pins s σ H xs us Q I rv h
 exact call_all pins s σ H xs us Q I rv ⟨hc,h⟩
end
end L2
namespace L2
open PySem PySem.Spec PyProof.Rows
section
variable {X:Cx}
end
end L2
namespace L2
open PySem PySem.Spec PyProof.Rows
theorem ixN_nat {n j:Nat} (h:j < n):ixN n (j:Int)=some j:=by
 unfold ixN
 rw [if_pos (by omega),if_pos (by omega),Int.toNat_natCast]
end L2
namespace L2
open PySem PySem.Spec PyProof.Rows
section
variable {X:Cx}{e:Expr}{ty:TE}{p1 p2 p3 p4 dpos apos cpos:Pos}{j1 j2 j3 j4:Nat}
end
end L2
namespace L2
open PySem PySem.Spec PyProof.Rows
end L2
namespace L2
open PySem PySem.Spec PyProof.Rows
open PySem.AutoSeq1 (wpAny_loadPart')
section
variable {prog:Program}{w:World}{A:Around}{E:Value->Shared->Prop}{s:Shared}
end
section
variable {X:Cx}
end
section
variable {prog:Program}{w:World}{A:Around}{E:Value->Shared->Prop}{s:Shared}
end
section
variable {X:Cx}{e:Expr}{te:TE}{p1 p2 p3 pos:Pos}{j:Nat}
end
end L2
namespace L2
open PySem PySem.Spec PyProof.Rows
end L2
namespace L2
open PySem PySem.Spec PyProof.Rows
theorem Vals.at {xs:List V}{us:List Value} (r:Vals xs us):∀ (j:Nat) (h:j < us.length) ,∃ h':j < xs.length,RelV xs[j] us[j]:=by
 induction r with
 | nil=>intro j h;exact absurd h (Nat.not_lt_zero j)
 | cons a t ih=>
  intro j h
  cases j with
  | zero=>exact⟨Nat.zero_lt_succ _,a⟩
  | succ j=>
   obtain⟨h1,r1⟩:=ih j (Nat.lt_of_succ_lt_succ h)
   exact⟨Nat.succ_lt_succ h1,r1⟩
theorem all_range_succ (e:Nat->Bool) (n:Nat):(List.range (n+1)).all e=(e 0 && (List.range n).all fun j=>e (j+1)):=by
 rw [List.range_succ_eq_map,List.all_cons,List.all_map];rfl
section
variable {X:Cx}{K:PySem.W.Frag}{pins:List (Addr×Obj)}{σ:St}{H:Hp}{s:Shared}{A:Around}{a b:Addr}{xs ys:List V}
end
end L2
namespace L2
open PySem PySem.Spec PyProof.Rows
section
variable {X:Cx}{pos p1 p2:Pos}{j1 j2:Nat}
end
section
variable {K:PySem.W.Frag}{H:Hp}
end
section
variable {X:Cx}{K:PySem.W.Frag}
end
end L2
namespace HT
open PySem PySem.Spec PyProof.Rows L2
section
variable {prog:Program}{w:World}{A:Around}{E:Value->Shared->Prop}{s:Shared}
theorem getItem_tuple_all {t sl:Addr}{items:Array Value}{vl vu:Value}{lo hi:Option Int}{Q:Value->Shared->Prop} (ht:IsTup s.heap t items) (hs:s.heap.IsSliceOf sl vl vu .none) (pl:IsPart vl lo) (pu:IsPart vu hi)
  (hw:sIx items.size 0 lo=0/\sIx items.size items.size hi=items.size) (h:Q (.ref t) s):wpAny (model prog w) A (getItem (.ref t) (.ref sl)) Q E s:=by
 obtain⟨os,hos,hcs,hds⟩:=id hs
 have hTs:s.TypeIs (.ref sl) "slice":=⟨os,hos,hcs⟩
 unfold getItem
 try with_reducible refine wpAny_holding ?_
 first | refine wpAny_bind (wpAny_pure ?_) | skip
 refine wpAny_bind (wpAny_sequenceKey ht.typeIs (by decide) ?_)
 refine wpAny_bind (wpAny_callSpecial?_slot (name:=Str.ofString "__getitem__") ht.typeIs PyProof.Rows.slot_tuple_getitem
  (wpAny_call_entry PyProof.Rows.slot_tuple_getitem ht.typeIs entry_tuple_getitem ?_ (args_tuple_getitem _ _)))
 show wpAny _ _ (Builtin.Tuple.tupleItemsOf (.ref t) >>= _) _ _ s
 refine wpAny_bind (tupleItemsOf_ ht ?_)
 refine wpAny_bind (wpAny_typeOf hTs ?_)
 rw [if_pos (by decide)]
 refine wpAny_bind (sliceApplied_gen hs pl pu ?_)
 have hyes:(((sIx items.size 0 lo:Nat):Int)==0 && (1:Int)==1 && (sIx items.size items.size hi - sIx items.size 0 lo)==items.size)=true:=by
  rw [hw.1,hw.2]
  simp
 show wpAny _ _ (if (((sIx items.size 0 lo:Nat):Int)==0 && (1:Int)==1 && (sIx items.size items.size hi - sIx items.size 0 lo)==items.size)=true then _ else _) _ _ s
 rw [if_pos hyes]
 unfold Builtin.Tuple.tupleIsExact
 refine wpAny_bind (wpAny_bind (wpAny_typeOf ht.typeIs (wpAny_pure ?_)))
 show wpAny _ _ (if ((Value.type "tuple")==(Value.type "tuple"))=true then _ else _) _ _ s
 rw [if_pos (beq_self_eq_true _)]
 first
  | exact wpAny_bind (wpAny_rule (wpAny_pure ⟨_,rfl,wpAny_pure h⟩))
  | exact wpAny_bind (wpAny_bind (wpAny_rule (wpAny_pure (wpAny_pure ⟨_,rfl,wpAny_pure h⟩))))
  | exact wpAny_bind (wpAny_rule (wpAny_bind (wpAny_pure (wpAny_pure ⟨_,rfl,wpAny_pure h⟩))))
  | exact wpAny_bind (wpAny_rule (wpAny_bind (wpAny_pure ⟨_,rfl,wpAny_pure h⟩)))
end
end HT
namespace L2
open PySem PySem.Spec PyProof.Rows
noncomputable def rSlT2 (K:PySem.W.Frag):V->Option Int->Option Int->Hp->VK->Prop:=fun x lo hi H Q=>∃ a xs,x=.ref a/\SqT K H a xs/\
 ((¬ (HT.sIx xs.length 0 lo=0/\HT.sIx xs.length xs.length hi=xs.length)/\∀ p,H p=none->Q (.ref p) (upd H p (.tup (cutV xs lo hi))))∨
   ((HT.sIx xs.length 0 lo=0/\HT.sIx xs.length xs.length hi=xs.length)/\Q (.ref a) H))
theorem k_slt2 {X:Cx}{K:PySem.W.Frag} (hK:X.K=K:=by rfl):SlR X (rSlT2 K):=by
 subst hK
 intro pins s σ H x v vl vu lo hi sl Q I rx hs pl pu h
 obtain⟨a,xs,rfl,hx,h⟩:=h
 rcases h with⟨hw,q⟩ | ⟨hw,q⟩
 ·exact sl_tup pins s σ H _ v vl vu lo hi sl Q I rx hs pl pu ⟨a,xs,rfl,hx,hw,q⟩
 ·cases rx
  obtain⟨its,r,ht,hz⟩:=I.tuple hx
  have hlen:its.toArray.size=xs.length:=by rw [List.size_toArray];exact r.length.symm
  refine⟨"tuple",_,PyProof.Rows.slot_tuple_getitem.lookup,ht.typeIs,?_⟩
  exact HT.getItem_tuple_all ht hs pl pu (by rw [hlen];exact hw) ⟨.ref a,H,I,rfl,q⟩
end L2
namespace L2
open PySem PySem.Spec PyProof.Rows
section
variable {X:Cx}{scope:Scope}{Nc:List Str}{emb:St->St}{elt iter tg:Expr}{ifs:List Expr}{pos:Pos}{wi:TI}{g:TG}{tt:TT}{te:TE}
theorem ps_lc {i0:Nat}{x0:Str}{py spos:Pos} (hN0:X.N.Nodup) (hi0:X.N[i0]?=some x0) (hx0:Loc X.env.scope x0) (S:LcScope X scope Nc emb) (hc:X.calm=true) (hi:PI X tg iter wi)
  (hg:∀ cells s H C fp,PG (lcX X scope cells Nc s H C fp) tg g) (ht:∀ cells s H C fp,PTs (lcX X scope cells Nc s H C fp) ifs tt) (he:∀ cells s H C fp,PE (lcX X scope cells Nc s H C fp) elt te)
  (hsw:swapsWith (.ListComp elt [⟨tg,iter,ifs,0⟩] scope pos) (some (.Name x0 py)) spos.line X.env=pure true:=by rfl)
  (hf0:X.fn x0=true∨X.env.scope.names.lookup x0=some .local:=by first | exact .inl rfl | exact .inr rfl | assumption)
  (hs:∀ x,foldedSetIterable iter X.env x=pure x:=by intro _;rfl):PS X (.Assign [.Name x0 py] (.ListComp elt [⟨tg,iter,ifs,0⟩] scope pos) spos) (tAsg (tLc emb wi g tt te) (gName i0)):=by
 intro pins s σ H DD I h
 rw [exec_Assign_Name_used _ _ _ _ hsw]
 refine wpAny_bind (wpAny_standAt (wpAny_bind ?_))
 show wpAny _ X.A (do let _ ←comprehension (.ListComp elt [⟨tg,iter,ifs,0⟩] scope pos) scope X.env _ (newList []) false (eval iter X.env) (some (assign (.Name x0 py) X.env))) _ _ s
 refine wpAny_bind (wpAny_mono (wpAny_comprehension_free (use:=some (assign (.Name x0 py) X.env)) (Q:=fun _ s'=>SP X pins DD .next s') rfl hs (closureFor_eq (S.clos I.ok)) S.kind (fun x hx hl=>nodup_lookup S.nd (by rw [←hl];exact hx)) ?_) (fun _ s' hq=>wpAny_pure (wpAny_pure hq)) fun _ _ e=>e)
 refine thn (hi pins s σ H _ I h) fun v s1 h1=>thn h1 fun itv s2 h2=>?_
 obtain⟨it,fp,tn,J,H2,e,I2,T,st2,f2,W,⟨m0,w0⟩,turn⟩:=h2
 subst e
 refine wpAny_newObj_type (newEnv_block ?_)
 rw [show (s2.heap.push { cls:=.type "list",dict:=none,data:=.seq ([]:List Value).toArray }).objs.size=s2.heap.objs.size+1 from Heap.size_push ..]
 generalize hD:s2.heap.objs.size=D
 generalize hlo:({ cls:=.type "list",dict:=none,data:=.seq ([]:List Value).toArray }:Obj)=lo
 have fplt:∀ b ∈ fp,b < s2.heap.objs.size:=fun b hb=>by obtain⟨o,e,_⟩:=T.obj _ _ st2 b hb;exact Heap.lt_size e
 have I3:=lc_start (lo:=lo) S I2 f2 (fun b hb=>by obtain⟨o,e,_⟩:=T.obj _ _ st2 b hb;exact⟨o,e⟩) (by rw [←hlo];intro v z;cases z) (by rw [←hlo];rfl)
 rw [hD] at I3
 generalize hcells:cellsFrom (D+2) scope.names (closOf X.env.cells scope.names [])=cells at I3
 generalize hX':lcX X scope cells Nc s2 H2 (D+1) fp=X' at I3
 have hfpX:∀ {H':Hp}{ps:List (Addr×Obj)},(∀ b ∈ fp,H' b=none)->(∀ p ∈ ps,p.1=D)->∀ b ∈ fp,FpOk X' ps H' b:=fun {H' ps} hn hps b hb=>by
  have ok:=I3.ok
  refine⟨hn b hb,?_,?_,.inl (by rw [←hX'];exact hb),?_,fun p hp=>?_⟩
  ·exact (ok.exf b (by rw [←hX'];exact hb)).1
  ·exact ok.exfs b (by rw [←hX'];exact hb)
  ·exact (ok.exf b (by rw [←hX'];exact hb)).2
  ·have hp':p ∈ ([]:List (Addr×Obj))++ps:=by rw [←hX'] at hp;exact hp
   have e:p.1=D:=hps p (by simpa using hp')
   rw [e,←hD]
   exact Nat.ne_of_gt (fplt b hb)
 have Dex:D ∈ X'.ex∨X'.s₀.heap.objs.size≤D:=.inr (by rw [←hX',←hD];exact Nat.le_refl _)
 have Dloc:D≠X'.env.locals:=by rw [←hX'];exact Nat.ne_of_lt (Nat.lt_succ_self _)
 have pD:=I3.pin (D,lo) (by rw [←hX'];exact List.mem_append_right _ List.mem_cons_self)
 have Dfs:D ∉ X'.fs:=pD.2.2.2.1
 have Dcell:∀ x c,X'.env.cells.lookup x=some c->c≠D:=fun x c hc' e=>by
  obtain⟨v,o,ho,hd⟩:=I3.cell x c hc'
  rw [e,pD.1] at ho
  cases ho
  exact pD.2.2.2.2 v hd
 -- the loop
 have loop:∀ s3:Shared,s3={ s2 with heap:=pushCells ((s2.heap.push lo).push { cls:=.type "dict",data:=.dict #[] }) scope.names }->
   codeAny (model X.prog X.w) X.A (.compLoop (.ListComp elt [⟨tg,iter,ifs,0⟩] scope pos) 0 (.ref it) (.ref D) (compEnvC scope cells (D+1) X.env))
    (compPost (model X.prog X.w) X.A X.xe (some (assign (.Name x0 py) X.env)) (fun _ s'=>SP X pins DD .next s') (.ref D) (D+1)) s3:=by
  rintro s3 rfl
  refine codeAny_compLoop_own (fun n s'=>∃ i ys its k H',Inv X' [(D,{ cls:=.type "list",data:=.seq its.toArray k })] (emb σ) H' s'/\Vals ys its/\tn i s'.heap/\(∀ b ∈ fp,H' b=none)/\ys.length≤sizeLine/\W i n ys H') ?_ m0
   ⟨0,[],[],0,H2,?_,.nil,?_,fun b hb=>(f2 b hb).1,Nat.zero_le _,w0⟩
  ·rintro n s4 ⟨i,ys,its,k,H4,I4,rv,st4,fr4,hlen,w4⟩
   have hps:∀ p ∈ [(D,({ cls:=.type "list",data:=.seq its.toArray k }:Obj))],p.1=D:=fun p hp=>by
    have:=List.mem_singleton.mp hp
    rw [this]
   rcases turn i n ys H4 w4 with⟨stop,qn⟩ | ⟨go,hlt,N,hN,step⟩
   ·-- the end
    have TD:=T.done X' (by rw [←hX'];rfl) (by rw [←hX'];rfl) (by rw [←hX'];rfl) (by rw [←hX'];exact hc) i _ s4 (emb σ) H4 (fun _ _=>False) I4 (hfpX fr4 hps) st4 stop
    rw [show X'.A=X.A by rw [←hX'];rfl] at TD
    refine thn TD fun r s5 ⟨hr,I5⟩=>?_
    subst hr
    obtain⟨m5,hn5,_⟩:=id I5.loc
    have eC:X'.env.locals=D+1:=by rw [←hX'];rfl
    rw [eC] at hn5
    suffices inv5:∀ h',Heap.SameBut (D+1) s5.heap h'->Inv X pins σ (upd H4 D (.lst ys)) { s5 with heap:=h' } by
     have I5X:Inv X pins σ (upd H4 D (.lst ys)) s5:=inv5 s5.heap ⟨rfl,fun _ _=>rfl⟩
     have hD4':H4 D=none:=(I5.pin (D,{ cls:=.type "list",data:=.seq its.toArray k }) (by rw [←hX'];exact List.mem_append_right _ List.mem_cons_self)).2.1
     have hC4:upd H4 D (.lst ys) (D+1)=none:=by
      have:=I5.free
      rw [eC] at this
      rw [upd_ne (Nat.ne_of_gt (Nat.lt_succ_self D))]
      exact this
     have fpC:∀ b ∈ [D+1],FpOk X pins (upd H4 D (.lst ys)) b:=fun b hb=>by
      have e:=List.mem_singleton.mp hb
      subst e
      exact I2.fpOk (by rw [hD];exact Nat.le_succ D) hC4
     obtain⟨oC,esC,epC,getC,datC,relC⟩:=id hn5
     have I5p:=I5X.pinned fpC fun b hb=>by
      have e:=List.mem_singleton.mp hb
      subst e
      exact⟨oC,getC,fun v z=>by rw [datC] at z;cases z⟩
     refine wpAny_assign_Name (store_ok I5p hN0 hi0 hx0 (v:=.ref D) rfl (fun s6 I6=>?_) hf0)
     have pC:=(I6.pin (D+1,oC) (List.mem_append_right _ (List.mem_append_right _ (mem_pinsAt List.mem_cons_self getC)))).1
     refine⟨m5,⟨oC,esC,epC,pC,datC,relC⟩,fun h' hsb=>?_⟩
     have I6u:=I6.unpinned
     exact⟨_,_,I6u.turns (t':=s6.toks) fpC (fun b o hb e=>(hsb.2 b (fun z=>hb (by rw [z];exact List.mem_cons_self))).trans e),qn D hD4'⟩
    intro h' hsb
    have pD5:=I5.pin (D,{ cls:=.type "list",data:=.seq its.toArray k }) (by rw [←hX'];exact List.mem_append_right _ List.mem_cons_self)
    have neC:∀ b u,H4 b=some u->b≠D+1:=fun b u e z=>by
     have:=I5.free
     rw [eC,←z,e] at this
     cases this
    have hD4:H4 D=none:=pD5.2.1
    have un:=I5.base
    have un':Un (frs X.stack) fp H2 H4 s2.heap s5.heap:=by rw [←hX'] at un;exact un
    have old_ne:∀ b o,s2.heap.get? b=some o->b≠D/\b≠D+1:=fun b o e=>by
     have q:=Heap.lt_size e
     rw [hD] at q
     exact⟨Nat.ne_of_lt q,Nat.ne_of_lt (Nat.lt_succ_of_lt q)⟩
    have h2D:H2 D=none:=by rw [←hD];exact I2.fresh
    have hok':HOk X.prog X.w H4 h':=fun b u e=>by
     have ob:ObjOk X.prog X.w H4 s5.heap b u:=by have:=I5.hok b u e;rw [←hX'] at this;exact this
     refine ob.stay (fun c v hcv q=>(hsb.2 c ?_).trans q) (fun _ q=>q) fun _ _ q=>q
     rcases hcv with z | z
     ·rw [z];exact neC b u e
     ·exact neC c _ z
    have hokD:HOk X.prog X.w (upd H4 D (.lst ys)) h':=fun b u e=>by
     by_cases hb:b=D
     ·subst hb
      rw [upd_same] at e
      cases e
      exact⟨hlen,its,k,rv,(hsb.2 b (Nat.ne_of_lt (Nat.lt_succ_self _))).trans pD5.1⟩
     ·rw [upd_ne hb] at e
      refine (hok' b u e).stay (fun _ _ _ q=>q) (fun c q=>?_) fun c z q=>?_
      all_goals first
       | (rw [upd_ne (ne_of_none q hD4)];exact q)
       | (rw [upd_ne (ne_of_none z hD4)];exact z)
    refine I2.call' (s':={ s5 with heap:=h' }) (ch:=fp) ?_ ⟨fun b o e nb hb hx=>?_,fun b o e nb hb hx=>?_,fun b o e nb hx=>?_,fun b o e hx=>?_,fun b xs e=>?_,fun b o u e=>?_,fun b ps e=>?_⟩ hokD I5.bare (fun b hb=>?_)
    ·have:=I5.os
     rw [←hX'] at this
     exact this
    ·exact (hsb.2 b (old_ne b o e).2).trans (un'.keep b o e nb hb hx)
    ·obtain⟨sl,q⟩:=un'.slot b o e nb hb hx
     exact⟨sl,(hsb.2 b (old_ne b o e).2).trans q⟩
    ·rw [upd_ne (old_ne b o e).1]
     exact un'.free b o e nb hx
    ·obtain⟨o',q⟩:=un'.there b o e hx
     exact⟨o',(hsb.2 b (old_ne b o e).2).trans q⟩
    ·rw [upd_ne (ne_of_none e h2D)]
     exact un'.tups b xs e
    ·rw [upd_ne (ne_of_none e h2D)]
     exact un'.frzs b o u e
    ·obtain⟨m,q⟩:=un'.tbls b ps e
     exact⟨m,by rw [upd_ne (ne_of_none e h2D)];exact q⟩
    ·obtain⟨q0,q1,q2,q3,q4,q5⟩:=f2 b hb
     exact⟨q3,q1,q4,q5⟩
   ·-- a turn
    have hA:X'.A=X.A:=by rw [←hX'];rfl
    have hP:X'.prog=X.prog:=by rw [←hX'];rfl
    have hw:X'.w=X.w:=by rw [←hX'];rfl
    have hE:X'.env=compEnvC scope cells (D+1) X.env:=by rw [←hX'];rfl
    have hxe:X'.xe=fun _ _=>False:=by rw [←hX'];rfl
    have TI':=T.item X' hP hw (by rw [←hX'];rfl) (by rw [←hX'];exact hc) i _ s4 (emb σ) H4 (fun _ _=>False) I4 (hfpX fr4 hps) st4 go
    rw [hA] at TI'
    refine thn TI' fun r s5 ⟨u,hr,h5⟩=>?_
    subst hr
    refine thn h5 fun _ s6 ⟨x,H6,I6,r6,y6,st6,fr6⟩=>?_
    have I6':=I6.pinned (hfpX fr6 hps) (T.obj _ _ st6)
    have G:=hg cells s2 H2 (D+1) fp
    have TT':=ht cells s2 H2 (D+1) fp
    have EE:=he cells s2 H2 (D+1) fp
    rw [hX'] at G TT' EE
    have G':=G _ s6 (emb σ) H6 x u _ I6' r6 (step x H6 y6)
    rw [hA,hP,hw,hE,hxe] at G'
    refine thn G' fun _ s7 ⟨σ7,H7,I7,sb7,q7⟩=>?_
    have T':=TT' _ s7 σ7 H7 _ I7 q7
    rw [hA,hP,hw,hE,hxe] at T'
    refine thn T' fun ok s8 ⟨H8,I8,q8⟩=>?_
    -- what is pinned
    have pin_fp:∀ {σ9:St}{H9:Hp}{s9:Shared},Inv X' ([(D,({ cls:=.type "list",data:=.seq its.toArray k }:Obj))]++pinsAt fp s6.heap) σ9 H9 s9->tn (i+1) s9.heap/\∀ b ∈ fp,H9 b=none:=fun {σ9 H9 s9} I9=>
     ⟨T.keep _ _ _ st6 fun b hb o e=>(I9.pin (b,o) (List.mem_append_right _ (List.mem_append_right _ (mem_pinsAt hb e)))).1,fun b hb=>by
      obtain⟨o,e,_⟩:=T.obj _ _ st6 b hb
      exact (I9.pin (b,o) (List.mem_append_right _ (List.mem_append_right _ (mem_pinsAt hb e)))).2.1⟩
    cases ok with
    | false=>
     rw [if_neg (by decide)] at q8
     rw [if_neg (by decide)]
     obtain⟨m',hm,w8⟩:=hN _ _ q8
     exact⟨m',hm,i+1,ys,its,k,H8,I8.unpinned.weak sb7.1 sb7.2,rv,(pin_fp I8).1,(pin_fp I8).2,hlen,w8⟩
    | true=>
     rw [if_pos rfl] at q8
     rw [if_pos rfl]
     have E':=EE _ s8 σ7 H8 _ I8 q8
     rw [hA,hP,hw,hE,hxe] at E'
     refine thn E' fun y s9 ⟨v9,H9,I9,r9,n9⟩=>?_
     obtain⟨m',hm,w9⟩:=hN _ _ n9
     have pD9:=I9.pin (D,{ cls:=.type "list",data:=.seq its.toArray k }) (List.mem_append_right _ (List.mem_append_left _ List.mem_cons_self))
     have hl:=rv.length
     have I9n:Inv X' [] σ7 H9 s9:=I9.pins_of fun p hp=>nomatch hp
     refine call_meets F.slot_list_append ⟨_,pD9.1,rfl⟩ F.entry_list_append (F.args_list_append_2 _ _) (PySem.list_append D its.toArray k y (by rw [List.size_toArray];omega)) ⟨pD9.1,?_⟩
     have up:∃ k':Nat,(s9.heap.update D (Obj.mapSeq fun xs=>xs.push y)).get? D=some { cls:=.type "list",data:=.seq (its++[y]).toArray k' }:=by
      have q:=PySem.IsL.update pD9.1 (fun xs:Array Value=>xs.push y)
      simp only [List.push_toArray] at q
      exact⟨_,q⟩
     obtain⟨k',up⟩:=up
     have hoth:∀ b o,b≠D->s9.heap.get? b=some o->(s9.heap.update D (Obj.mapSeq fun xs=>xs.push y)).get? b=some o:=fun b o hb e=>(Heap.get?_update_other s9.heap _ (Ne.symm hb)).trans e
     have I10:=I9n.turned (t':=s9.toks) hoth pD9.2.1 Dloc Dex Dcell (fun p hp=>absurd (show p ∈ ([]:List (Addr×Obj)) by rw [←hX'] at hp;exact hp) (by simp))
     refine⟨m',hm,i+1,ys++[v9],its++[y],k',H9,(I10.weak sb7.1 sb7.2).pins_of (fun p hp=>?_),rv.append (.cons r9 .nil),T.keep _ _ _ (pin_fp I9).1 (fun b hb o e=>hoth b o (by rw [←hD];exact Nat.ne_of_lt (fplt b hb)) e),(pin_fp I9).2,?_,w9⟩
     ·have:=List.mem_singleton.mp hp
      subst this
      exact⟨up,pD9.2.1,Dloc,Dfs,fun v z=>by cases z⟩
     ·rw [List.length_append,List.length_singleton]
      omega
  ·have q:lo={ cls:=.type "list",data:=.seq ([]:List Value).toArray 0 }:=hlo.symm
   rw [←q]
   exact I3
  ·exact T.keep _ _ _ st2 fun b hb o e=>pushCells_keeps _ _ b o (Heap.get?_push_of_some _ (Heap.get?_push_of_some _ e))
 refine codeAny_compStart_list ?_ ?_
 ·exact loop _ rfl
 ·refine T.self X.A 0 _ _ _ (T.keep _ _ _ st2 fun b hb o e=>pushCells_keeps _ _ b o (Heap.get?_push_of_some _ (Heap.get?_push_of_some _ e))) ?_
  exact loop _ rfl
end
end L2
namespace L2
open PySem PySem.Spec PyProof.Rows
noncomputable def notStar:Expr->Bool
 | .Starred _ _=>false
 | _=>true
theorem star_cons {e:Expr}{es:List Expr}{env:Env} (h:notStar e=true):starEach (e::es) env=(false,eval e env)::starEach es env:=by
 cases e<;>first | (cases h;done) | rfl
theorem star_any {pos:Pos}{env:Env}:∀ {es:List Expr},es.all notStar=true->(backTo pos (starEach es env)).any (·.1)=false
 | [],_=>by simp [starEach,backTo]
 | e::es,h=>by
  rw [List.all_cons,Bool.and_eq_true] at h
  rw [star_cons h.1]
  have:=star_any (pos:=pos) (env:=env) h.2
  unfold backTo at this ⊢
  rw [List.map_cons,List.any_cons,this]
  rfl
theorem star_few {pos:Pos}{env:Env}{es:List Expr} (h:es.all notStar=true) (hl:es.length < 30):((backTo pos (starEach es env)).all (fun x=>!x.1) && (backToKw pos (keywordEach [] env)).all (fun x=>x.1.isSome)
   && decide (es.length+([]:List Keyword).length+(if ([]:List Keyword).isEmpty then 0 else 1) < 30))=true:=by
 have h1:(backTo pos (starEach es env)).all (fun x=>!x.1)=true:=by
  have:=star_any (pos:=pos) (env:=env) h
  rw [List.all_eq_true]
  intro x hx
  rw [List.any_eq_false] at this
  simpa using this x hx
 have h2:(backToKw pos (keywordEach [] env)).all (fun x=>x.1.isSome)=true:=by simp [keywordEach,backToKw]
 rw [h1,h2]
 simpa using hl
theorem star_one {e:Expr}{env:Env} (h:notStar e=true):starEach [e] env=[(false,eval e env)]:=by rw [star_cons h];rfl
theorem star_two {e e2:Expr}{env:Env} (h:notStar e=true) (h2:notStar e2=true):starEach [e,e2] env=[(false,eval e env),(false,eval e2 env)]:=by rw [star_cons h,star_one h2]
noncomputable def plainT:Expr->Bool
 | .UnaryOp .Not _ _=>false
 | .BoolOp _ _ _=>false
 | .IfExp _ _ _ _=>false
 | .Compare _ _ _ _=>false
 | _=>true
theorem tru_plain {a:Expr}{env:Env} (h:plainT a=true):∀ whole,PySem.isTrue a env whole=(do let v ←whole;standAt a.pos;holding [v] (truthy v)):=by
 intro whole
 cases a with
 | UnaryOp op x p=>cases op<;>first | (cases h;done) | rfl
 | BoolOp _ _ _=>cases h
 | IfExp _ _ _ _=>cases h
 | Compare _ _ _ _=>cases h
 | _=>rfl
theorem asg_cons {t:Expr}{ts:List Expr}{env:Env} (h:notStar t=true):assignEach (t::ts) env=(false,assign t env)::assignEach ts env:=by
 cases t<;>first | (cases h;done) | rfl
theorem asg_len {env:Env}:∀ {ts:List Expr},ts.all notStar=true->(assignEach ts env).length=ts.length
 | [],_=>by simp [assignEach]
 | t::ts,h=>by
  rw [List.all_cons,Bool.and_eq_true] at h
  rw [asg_cons h.1,List.length_cons,asg_len h.2,List.length_cons]
theorem asg_find {env:Env}:∀ {ts:List Expr},ts.all notStar=true->(assignEach ts env).findIdx? (·.1)=none
 | [],_=>by simp [assignEach]
 | t::ts,h=>by
  rw [List.all_cons,Bool.and_eq_true] at h
  rw [asg_cons h.1,List.findIdx?_cons,asg_find h.2]
  rfl
theorem asg_map {t:Expr}{ts:List Expr}{env:Env} (h:notStar t=true):(assignEach (t::ts) env).map (·.2)=assign t env::(assignEach ts env).map (·.2):=by rw [asg_cons h];rfl
theorem asg_one {t:Expr}{env:Env} (h:notStar t=true):(assignEach [t] env).map (·.2)=[assign t env]:=by rw [asg_map h];simp [assignEach]
noncomputable def plainI:Expr->Bool
 | .Slice _ _ _ _=>false
 | _=>true
theorem asg_sub {o i:Expr}{pos:Pos}{env:Env} (h:plainI i=true) (v:Value):assign (.Subscript o i pos) env v=(do
   let ov ←holding [v] (eval o env)
   let iv ←holding [v,ov] (eval i env)
   standAt pos
   holding [v,ov,iv] (setItem ov iv v)
   release [v,ov,iv] []):=by
 cases i<;>first | (cases h;done) | rfl
theorem ix_plain {i:Expr} (h:plainI i=true):PlainIx i:=by
 intro o j
 cases i<;>first | (cases h;done) | rfl
end L2
namespace L2
open PySem PySem.Spec PyProof.Rows
inductive D where
 | non | bl (b:Bool) | int (i:Int) | str (x:Str) | ty (n:String) | dct | scr (ns:List Int) | tup (ds:List D) | lst (ds:List D)
 deriving Inhabited
inductive W where
 | d (x:D) | h (n:Nat)
 deriving Inhabited
inductive C where
 | l (ds:List D) | n (ws:List W) | m (kvs:List (List Int×D)) | k (kvs:List (Int×D))
 deriving Inhabited
abbrev Sto:=List C
noncomputable def lg (st:Sto) (n:Nat):Option (List D):=match st[n]? with
 | some (.l ds)=>some ds
 | _=>none
noncomputable def keyT (l:List Int):List Key:=l.map Sum.inl
abbrev Ev:=List (Option W)
noncomputable def KLs (K:PySem.W.Frag) (a:Addr) (xs:List V):Prop:=
 ∃ (o:Obj) (its:Array Value) (n:Nat),K.lookup a=some o/\o.cls=.type "list"/\o.dict=none/\o.data=.seq its n/\its.size≤sizeLine/\Vals xs its.toList
section
variable (K:PySem.W.Frag) (H:Hp) (φ:List Addr)
mutual
noncomputable def Rl:D->V->Prop
 | .non,v=>v=.non
 | .bl b,v=>v=.bl b
 | .int i,v=>v=.int i
 | .str x,v=>v=.str x
 | .ty n,v=>v=.ty n
 | .dct,v=>∃ a,v=.ref a/\a ∉ φ/\((∃ d,H a=some (.dK d))∨∃ d,H a=some (.dT d))
 | .scr ns,v=>∃ a,v=.ref a/\((∃ o,H a=some (.frz o (.lst (ns.map V.int))))∨KLs K a (ns.map V.int))
 | .tup ds,v=>∃ a vs,v=.ref a/\H a=some (.tup vs)/\Rls ds vs
 | .lst ds,v=>∃ a vs,v=.ref a/\a ∉ φ/\Rd H a (.lst vs)/\Rls ds vs
noncomputable def Rls:List D->List V->Prop
 | [],vs=>vs=[]
 | d::ds,vs=>∃ v r,vs=v::r/\Rl d v/\Rls ds r
end
noncomputable def Rw:W->V->Prop
 | .d x,v=>Rl K H φ x v
 | .h n,v=>∃ a,φ[n]?=some a/\v=.ref a
noncomputable def Rws:List W->List V->Prop
 | [],vs=>vs=[]
 | d::ds,vs=>∃ v r,vs=v::r/\Rw K H φ d v/\Rws ds r
noncomputable def Rkv:List (List Int×D)->List (List Key×V)->Prop
 | [],vs=>vs=[]
 | (k,d)::ds,vs=>∃ v r,vs=(keyT k,v)::r/\Rl K H φ d v/\Rkv ds r
noncomputable def Rkk:List (Int×D)->List (Key×V)->Prop
 | [],vs=>vs=[]
 | (k,d)::ds,vs=>∃ v r,vs=(Sum.inl k,v)::r/\Rl K H φ d v/\Rkk ds r
noncomputable def Rc (k:Nat) (a:Addr):C->Prop
 | .l ds=>∃ vs,H a=some (.lst vs)/\Rls K H φ ds vs
 | .n ws=>∃ vs,H a=some (.lst vs)/\Rws K H φ ws vs/\∀ m,W.h m ∈ ws->m < k
 | .m kvs=>∃ vs,H a=some (.dT vs)/\Rkv K H φ kvs vs
 | .k kvs=>∃ vs,H a=some (.dK vs)/\Rkk K H φ kvs vs
structure Sr (st:Sto):Prop where
 nd:φ.Nodup
 len:φ.length=st.length
 at_:∀ (n:Nat) a c,φ[n]?=some a->st[n]?=some c->Rc K H φ n a c
structure Er (env:Ev) (σ:St):Prop where
 len:env.length=σ.length
 at_:∀ (i:Nat) w,env[i]?=some (some w)->∃ v,σ[i]?=some (some v)/\Rw K H φ w v
end
structure Fw (φ φ':List Addr) (H H':Hp):Prop where
 ext:∃ ψ,φ'=φ++ψ/\∀ a ∈ ψ,H a=none
 keep:∀ b o,b ∉ φ->H b=some o->H' b=some o
 there:∀ b o,H b=some o->∃ o',H' b=some o'
section
variable {K:PySem.W.Frag}{H H1 H2 H':Hp}{φ φ1 φ2 φ':List Addr}{st st':Sto}
theorem Fw.refl (φ:List Addr) (H:Hp):Fw φ φ H H:=⟨⟨[],by simp,by simp⟩,fun _ _ _ h=>h,fun _ o h=>⟨o,h⟩⟩
theorem Fw.trans (a:Fw φ φ1 H H1) (b:Fw φ1 φ2 H1 H2):Fw φ φ2 H H2:=by
 obtain⟨ψ,rfl,e1⟩:=a.ext
 obtain⟨ψ2,rfl,e2⟩:=b.ext
 refine⟨⟨ψ++ψ2,by rw [List.append_assoc],fun c hc=>?_⟩,fun c o hc h=>?_,fun c o h=>?_⟩
 ·rcases List.mem_append.mp hc with z | z
  ·exact e1 c z
  ·cases q:H c with
   | none=>rfl
   | some o=>
    obtain⟨o',q'⟩:=a.there c o q
    rw [e2 c z] at q';cases q'
 ·refine b.keep c o (fun z=>?_) (a.keep c o hc h)
  rcases List.mem_append.mp z with z | z
  ·exact hc z
  ·rw [e1 c z] at h;cases h
 ·obtain⟨o',q⟩:=a.there c o h
  exact b.there c o' q
theorem Fw.same (s:Same H H'):Fw φ φ H H':=⟨⟨[],by simp,by simp⟩,fun b o _ h=>s b o h,fun b o h=>⟨o,s b o h⟩⟩
theorem Fw.new {p:Addr}{o:HO} (hp:H p=none):Fw φ φ H (upd H p o):=.same (Same.new hp o)
theorem Fw.get (f:Fw φ φ' H H') {n:Nat}{a:Addr} (h:φ[n]?=some a):φ'[n]?=some a:=by
 obtain⟨ψ,rfl,_⟩:=f.ext
 rw [List.getElem?_append_left (List.getElem?_eq_some_iff.mp h).1];exact h
theorem Fw.nin (f:Fw φ φ' H H') {a:Addr}{o:HO} (h:a ∉ φ) (q:H a=some o):a ∉ φ':=by
 obtain⟨ψ,rfl,e⟩:=f.ext
 intro z
 rcases List.mem_append.mp z with z | z
 ·exact h z
 ·rw [e a z] at q;cases q
noncomputable def mutO:HO->Bool
 | .lst _=>true
 | .dT _=>true
 | .dK _=>true
 | _=>false
theorem Rc.ob {k:Nat}{a:Addr}{c:C} (h:Rc K H φ k a c):∃ o,H a=some o/\mutO o=true:=by
 cases c with
 | l ds=>obtain⟨vs,q,_⟩:=h;exact⟨_,q,rfl⟩
 | n ds=>obtain⟨vs,q,_⟩:=h;exact⟨_,q,rfl⟩
 | m ds=>obtain⟨vs,q,_⟩:=h;exact⟨_,q,rfl⟩
 | k ds=>obtain⟨vs,q,_⟩:=h;exact⟨_,q,rfl⟩
theorem Sr.lst (S:Sr K H φ st) {a:Addr} (h:a ∈ φ):∃ o,H a=some o/\mutO o=true:=by
 obtain⟨n,hn,e⟩:=List.mem_iff_getElem.mp h
 have hs:n < st.length:=by rw [←S.len];exact hn
 exact (S.at_ n a st[n] (by rw [List.getElem?_eq_getElem hn,e]) (by rw [List.getElem?_eq_getElem hs])).ob
theorem lg_some {st:Sto}{n:Nat}{ds:List D} (h:lg st n=some ds):st[n]?=some (.l ds):=by
 unfold lg at h
 split at h
 ·rename_i q;cases h;exact q
 ·cases h
theorem Sr.atl (S:Sr K H φ st) (n:Nat) (a:Addr) (ds:List D) (e1:φ[n]?=some a) (e2:lg st n=some ds):∃ vs,H a=some (.lst vs)/\Rls K H φ ds vs:=S.at_ n a _ e1 (lg_some e2)
theorem Sr.nin (S:Sr K H φ st) {a:Addr} (h:H a=none):a ∉ φ:=fun z=>by
 obtain⟨vs,q,_⟩:=S.lst z
 rw [q] at h;cases h
theorem Rd.nin (S:Sr K H φ st) {a:Addr}{vs:List V} (h:Rd H a (.tup vs)):a ∉ φ:=fun z=>by
 obtain⟨ws,q,qm⟩:=S.lst z
 rcases h with h | ⟨o,h⟩<;>(rw [q] at h;cases h;cases qm)
theorem Rd.fw (f:Fw φ φ' H H') {a:Addr}{u:HO} (hn:a ∉ φ) (h:Rd H a u):Rd H' a u:=by
 rcases h with h | ⟨o,h⟩
 ·exact .inl (f.keep _ _ hn h)
 ·exact .inr ⟨o,f.keep _ _ hn h⟩
theorem SqT.fw (S:Sr K H φ st) (f:Fw φ φ' H H') {a:Addr}{vs:List V} (h:SqT K H a vs):SqT K H' a vs:=by
 rcases h with h | h
 ·exact .inl (f.keep _ _ (Rd.nin S (.inl h)) h)
 ·exact .inr h
theorem Rd.some {a:Addr}{u:HO} (h:Rd H a u):∃ o,H a=some o:=by
 rcases h with h | ⟨o,h⟩
 ·exact⟨_,h⟩
 ·exact⟨_,h⟩
mutual
theorem Rl.fw (S:Sr K H φ st) (f:Fw φ φ' H H'):∀ {d:D}{v:V},Rl K H φ d v->Rl K H' φ' d v
 | .non,_,h=>h
 | .bl _,_,h=>h
 | .int _,_,h=>h
 | .str _,_,h=>h
 | .ty _,_,h=>h
 | .dct,_,h=>by
  obtain⟨a,rfl,hn,h⟩:=h
  rcases h with⟨d,h⟩ | ⟨d,h⟩
  ·exact⟨a,rfl,f.nin hn h,.inl ⟨d,f.keep _ _ hn h⟩⟩
  ·exact⟨a,rfl,f.nin hn h,.inr ⟨d,f.keep _ _ hn h⟩⟩
 | .scr ns,_,h=>by
  obtain⟨a,rfl,h⟩:=h
  refine⟨a,rfl,?_⟩
  rcases h with⟨o,h⟩ | h
  ·refine .inl ⟨o,f.keep _ _ (fun z=>?_) h⟩
   obtain⟨ws,q,qm⟩:=S.lst z
   rw [q] at h;cases h;cases qm
  ·exact .inr h
 | .tup ds,_,h=>by
  obtain⟨a,vs,rfl,h1,h2⟩:=h
  exact⟨a,vs,rfl,f.keep _ _ (Rd.nin S (.inl h1)) h1,Rls.fw S f h2⟩
 | .lst ds,_,h=>by
  obtain⟨a,vs,rfl,h0,h1,h2⟩:=h
  obtain⟨o,e⟩:=h1.some
  exact⟨a,vs,rfl,f.nin h0 e,h1.fw f h0,Rls.fw S f h2⟩
theorem Rls.fw (S:Sr K H φ st) (f:Fw φ φ' H H'):∀ {ds:List D}{vs:List V},Rls K H φ ds vs->Rls K H' φ' ds vs
 | [],_,h=>h
 | d::ds,_,h=>by
  obtain⟨v,r,rfl,h1,h2⟩:=h
  exact⟨v,r,rfl,Rl.fw S f h1,Rls.fw S f h2⟩
end
theorem Rw.fw (S:Sr K H φ st) (f:Fw φ φ' H H') {w:W}{v:V} (h:Rw K H φ w v):Rw K H' φ' w v:=by
 cases w with
 | d x=>exact Rl.fw S f h
 | h n=>obtain⟨a,e,rfl⟩:=h;exact⟨a,f.get e,rfl⟩
theorem Rws.fw (S:Sr K H φ st) (f:Fw φ φ' H H'):∀ {ws:List W}{vs:List V},Rws K H φ ws vs->Rws K H' φ' ws vs
 | [],_,h=>h
 | d::ds,_,h=>by
  obtain⟨v,r,rfl,h1,h2⟩:=h
  exact⟨v,r,rfl,h1.fw S f,Rws.fw S f h2⟩
theorem Er.fw (S:Sr K H φ st) (f:Fw φ φ' H H') {env:Ev}{σ:St} (h:Er K H φ env σ):Er K H' φ' env σ:=
 ⟨h.len,fun i w e=>let ⟨v,e1,r⟩:=h.at_ i w e;⟨v,e1,r.fw S f⟩⟩
theorem Rkv.fw (S:Sr K H φ st) (f:Fw φ φ' H H'):∀ {ds:List (List Int×D)}{vs:List (List Key×V)},Rkv K H φ ds vs->Rkv K H' φ' ds vs
 | [],_,h=>h
 | (k,d)::ds,_,h=>by
  obtain⟨v,r,rfl,h1,h2⟩:=h
  exact⟨v,r,rfl,Rl.fw S f h1,Rkv.fw S f h2⟩
theorem Rkk.fw (S:Sr K H φ st) (f:Fw φ φ' H H'):∀ {ds:List (Int×D)}{vs:List (Key×V)},Rkk K H φ ds vs->Rkk K H' φ' ds vs
 | [],_,h=>h
 | (k,d)::ds,_,h=>by
  obtain⟨v,r,rfl,h1,h2⟩:=h
  exact⟨v,r,rfl,Rl.fw S f h1,Rkk.fw S f h2⟩
theorem Rc.fw (S:Sr K H φ st) (f:Fw φ φ' H H') {k:Nat}{a:Addr}{c:C} (e:∀ o,H a=some o->H' a=some o) (h:Rc K H φ k a c):Rc K H' φ' k a c:=by
 cases c with
 | l ds=>obtain⟨vs,q,r⟩:=h;exact⟨vs,e _ q,r.fw S f⟩
 | n ds=>obtain⟨vs,q,r,b⟩:=h;exact⟨vs,e _ q,r.fw S f,b⟩
 | m ds=>obtain⟨vs,q,r⟩:=h;exact⟨vs,e _ q,r.fw S f⟩
 | k ds=>obtain⟨vs,q,r⟩:=h;exact⟨vs,e _ q,r.fw S f⟩
theorem Sr.same (S:Sr K H φ st) (s:Same H H'):Sr K H' φ st:=
 ⟨S.nd,S.len,fun n a c e1 e2=>(S.at_ n a c e1 e2).fw S (Fw.same s) fun o h=>s _ _ h⟩
theorem Sr.new (S:Sr K H φ st) {p:Addr}{o:HO} (hp:H p=none):Sr K (upd H p o) φ st:=S.same (Same.new hp o)
theorem Rls.length:∀ {ds:List D}{vs:List V},Rls K H φ ds vs->ds.length=vs.length
 | [],_,h=>by cases h;rfl
 | d::ds,_,h=>by
  obtain⟨v,r,rfl,h1,h2⟩:=h
  rw [List.length_cons,List.length_cons,Rls.length h2]
theorem Rws.length:∀ {ds:List W}{vs:List V},Rws K H φ ds vs->ds.length=vs.length
 | [],_,h=>by cases h;rfl
 | d::ds,_,h=>by
  obtain⟨v,r,rfl,h1,h2⟩:=h
  rw [List.length_cons,List.length_cons,Rws.length h2]
theorem Rls.append:∀ {ds es:List D}{vs us:List V},Rls K H φ ds vs->Rls K H φ es us->Rls K H φ (ds++es) (vs++us)
 | [],_,_,_,h,h'=>by cases h;exact h'
 | d::ds,_,_,_,h,h'=>by
  obtain⟨v,r,rfl,h1,h2⟩:=h
  exact⟨v,r++_,rfl,h1,Rls.append h2 h'⟩
theorem Rls.get:∀ {ds:List D}{vs:List V},Rls K H φ ds vs->∀ {i:Nat}{d:D},ds[i]?=some d->∃ v,vs[i]?=some v/\Rl K H φ d v
 | [],_,h,i,d,e=>by simp at e
 | d::ds,_,h,i,e,q=>by
  obtain⟨v,r,rfl,h1,h2⟩:=h
  cases i with
  | zero=>simp at q;subst q;exact⟨v,rfl,h1⟩
  | succ i=>simpa using Rls.get h2 (i:=i) (d:=e) (by simpa using q)
theorem Rls.take:∀ {ds:List D}{vs:List V} (n:Nat),Rls K H φ ds vs->Rls K H φ (ds.take n) (vs.take n)
 | _,_,0,_=>by rw [List.take_zero,List.take_zero];exact rfl
 | [],_,n+1,h=>by cases h;exact rfl
 | d::ds,_,n+1,h=>by
  obtain⟨v,r,rfl,h1,h2⟩:=h
  exact⟨v,_,rfl,h1,Rls.take n h2⟩
theorem Rls.drop:∀ {ds:List D}{vs:List V} (n:Nat),Rls K H φ ds vs->Rls K H φ (ds.drop n) (vs.drop n)
 | _,_,0,h=>h
 | [],_,n+1,h=>by cases h;exact rfl
 | d::ds,_,n+1,h=>by
  obtain⟨v,r,rfl,h1,h2⟩:=h
  exact Rls.drop n h2
theorem Rls.set:∀ {ds:List D}{vs:List V} (n:Nat) {d:D}{v:V},Rls K H φ ds vs->Rl K H φ d v->Rls K H φ (ds.set n d) (vs.set n v)
 | [],_,_,_,_,h,_=>by cases h;exact rfl
 | e::ds,_,0,d,v,h,hd=>by
  obtain⟨u,r,rfl,h1,h2⟩:=h
  exact⟨v,r,rfl,hd,h2⟩
 | e::ds,_,n+1,d,v,h,hd=>by
  obtain⟨u,r,rfl,h1,h2⟩:=h
  exact⟨u,_,rfl,h1,Rls.set n h2 hd⟩
theorem Rls.rep {ds:List D}{vs:List V} (h:Rls K H φ ds vs):∀ k:Nat,Rls K H φ (List.replicate k ds).flatten (List.replicate k vs).flatten
 | 0=>rfl
 | k+1=>by rw [List.replicate_succ,List.replicate_succ,List.flatten_cons,List.flatten_cons];exact h.append (Rls.rep h k)
theorem Rls.ints:∀ {ns:List Int}{vs:List V},Rls K H φ (ns.map D.int) vs->vs=ns.map V.int
 | [],_,h=>h
 | n::ns,_,h=>by
  obtain⟨v,r,rfl,h1,h2⟩:=h
  rw [show v=.int n from h1,Rls.ints h2];rfl
theorem Rls.bools:∀ {ns:List Bool}{vs:List V},Rls K H φ (ns.map D.bl) vs->vs=ns.map V.bl
 | [],_,h=>h
 | n::ns,_,h=>by
  obtain⟨v,r,rfl,h1,h2⟩:=h
  rw [show v=.bl n from h1,Rls.bools h2];rfl
theorem Rls.of_ints:∀ (ns:List Int),Rls K H φ (ns.map D.int) (ns.map V.int)
 | []=>rfl
 | n::ns=>⟨_,_,rfl,rfl,Rls.of_ints ns⟩
theorem Rl.less {ψ:List Addr}:∀ {d:D}{v:V},Rl K H (φ++ψ) d v->Rl K H φ d v:=by
 intro d v
 refine (?_:∀ v,Rl K H (φ++ψ) d v->Rl K H φ d v) v
 refine D.rec (motive_1:=fun d=>∀ v,Rl K H (φ++ψ) d v->Rl K H φ d v) (motive_2:=fun ds=>∀ vs,Rls K H (φ++ψ) ds vs->Rls K H φ ds vs) ?_ ?_ ?_ ?_ ?_ ?_ ?_ ?_ ?_ ?_ ?_ d
 ·exact fun v h=>h
 ·exact fun b v h=>h
 ·exact fun b v h=>h
 ·exact fun b v h=>h
 ·exact fun b v h=>h
 ·rintro v ⟨a,e,hn,h⟩;exact⟨a,e,fun z=>hn (List.mem_append_left _ z),h⟩
 ·exact fun ns v h=>h
 ·rintro ds ih v ⟨a,vs,rfl,h1,h2⟩;exact⟨a,vs,rfl,h1,ih vs h2⟩
 ·rintro ds ih v ⟨a,vs,rfl,h0,h1,h2⟩;exact⟨a,vs,rfl,fun z=>h0 (List.mem_append_left _ z),h1,ih vs h2⟩
 ·exact fun vs h=>h
 ·rintro d ds ih1 ih2 vs ⟨v,r,rfl,h1,h2⟩;exact⟨v,r,rfl,ih1 v h1,ih2 r h2⟩
theorem Rls.less {ψ:List Addr}:∀ {ds:List D}{vs:List V},Rls K H (φ++ψ) ds vs->Rls K H φ ds vs
 | [],_,h=>h
 | d::ds,_,h=>by
  obtain⟨v,r,rfl,h1,h2⟩:=h
  exact⟨v,r,rfl,Rl.less h1,Rls.less h2⟩
theorem Rkv.less {ψ:List Addr}:∀ {ds:List (List Int×D)}{vs:List (List Key×V)},Rkv K H (φ++ψ) ds vs->Rkv K H φ ds vs
 | [],_,h=>h
 | (k,d)::ds,_,h=>by
  obtain⟨v,r,rfl,h1,h2⟩:=h
  exact⟨v,r,rfl,Rl.less h1,Rkv.less h2⟩
theorem Rkk.less {ψ:List Addr}:∀ {ds:List (Int×D)}{vs:List (Key×V)},Rkk K H (φ++ψ) ds vs->Rkk K H φ ds vs
 | [],_,h=>h
 | (k,d)::ds,_,h=>by
  obtain⟨v,r,rfl,h1,h2⟩:=h
  exact⟨v,r,rfl,Rl.less h1,Rkk.less h2⟩
theorem Rws.less {ψ:List Addr}:∀ {ds:List W}{vs:List V},(∀ m,W.h m ∈ ds->m < φ.length)->Rws K H (φ++ψ) ds vs->Rws K H φ ds vs
 | [],_,_,h=>h
 | d::ds,_,hm,h=>by
  obtain⟨v,r,rfl,h1,h2⟩:=h
  refine⟨v,r,rfl,?_,Rws.less (fun m z=>hm m (List.mem_cons_of_mem _ z)) h2⟩
  cases d with
  | d x=>exact Rl.less h1
  | h m=>
   obtain⟨a,e,rfl⟩:=h1
   rw [List.getElem?_append_left (hm m List.mem_cons_self)] at e
   exact⟨a,e,rfl⟩
theorem Rc.less {ψ:List Addr}{k:Nat}{a:Addr}{c:C} (hk:k < φ.length) (h:Rc K H (φ++ψ) k a c):Rc K H φ k a c:=by
 cases c with
 | l ds=>obtain⟨vs,q,r⟩:=h;exact⟨vs,q,r.less⟩
 | n ds=>obtain⟨vs,q,r,b⟩:=h;exact⟨vs,q,r.less fun m z=>Nat.lt_trans (b m z) hk,b⟩
 | m ds=>obtain⟨vs,q,r⟩:=h;exact⟨vs,q,r.less⟩
 | k ds=>obtain⟨vs,q,r⟩:=h;exact⟨vs,q,r.less⟩
theorem Sr.less {ψ:List Addr} (S:Sr K H (φ++ψ) st):Sr K H φ (st.take φ.length):=by
 have hl:=S.len
 rw [List.length_append] at hl
 refine⟨(List.nodup_append.mp S.nd).1,by rw [List.length_take];omega,fun n a ds e1 e2=>?_⟩
 have hn:=(List.getElem?_eq_some_iff.mp e1).1
 rw [List.getElem?_take_of_lt hn] at e2
 exact (S.at_ n a ds (by rw [List.getElem?_append_left hn];exact e1) e2).less hn
end
end L2
namespace L2
open PySem PySem.Spec PyProof.Rows
abbrev Ef:=Ev->Sto->Option (W×Sto)
abbrev Af:=Ev->Sto->Option (List W×Sto)
abbrev Tf:=Ev->Sto->Option (Bool×Sto)
abbrev Lf:=Ev->Sto->Option (List D×Sto)
abbrev Fn:=List W->Sto->Option (W×Sto)
section
variable (K:PySem.W.Frag)
noncomputable def tI (env:Ev) (st:Sto) (r:W×Sto):TE:=fun σ H Q=>∃ φ,Er K H φ env σ/\Sr K H φ st/\∀ v H' φ',Fw φ φ' H H'->Sr K H' φ' r.2->Rw K H' φ' r.1 v->Q v H'
noncomputable def tIA (env:Ev) (st:Sto) (r:List W×Sto):TA:=fun σ H Q=>∃ φ,Er K H φ env σ/\Sr K H φ st/\∀ vs H' φ',Fw φ φ' H H'->Sr K H' φ' r.2->Rws K H' φ' r.1 vs->Q vs H'
noncomputable def tIT (env:Ev) (st:Sto) (r:Bool×Sto):TT:=fun σ H Q=>∃ φ,Er K H φ env σ/\Sr K H φ st/\∀ H' φ',Fw φ φ' H H'->Sr K H' φ' r.2->Q r.1 H'
noncomputable def tIL (env:Ev) (st:Sto) (r:List D×Sto):TE:=fun σ H Q=>∃ φ,Er K H φ env σ/\Sr K H φ st/\∀ a vs H1 φ',Fw φ φ' H H1->Sr K H1 φ' r.2->H1 a=none->Rls K H1 φ' r.1 vs->Q (.ref a) (upd H1 a (.lst vs))
structure IE (X:Cx) (e:Expr) (f:Ef):Prop where
 run:∀ env st r,f env st=some r->PE X e (tI K env st r)
structure IA (X:Cx) (es:List Expr) (f:Af):Prop where
 run:∀ env st r,f env st=some r->PA X es (tIA K env st r)
structure IT (X:Cx) (e:Expr) (f:Tf):Prop where
 run:∀ env st r,f env st=some r->PT X e (tIT K env st r)
structure ITW (X:Cx) (e:Expr) (f:Tf):Prop where
 run:∀ env st r,f env st=some r->PW X e (tIT K env st r)
structure IL (X:Cx) (e:Expr) (f:Lf):Prop where
 run:∀ env st r,f env st=some r->PE X e (tIL K env st r)
noncomputable def rD (st:Sto) (x y:W) (d:D):R2:=fun vx vy H Q=>∃ φ,Sr K H φ st/\Rw K H φ x vx/\Rw K H φ y vy/\∀ v H',Same H H'->Rl K H' φ d v->Q v H'
structure OpD (X:Cx) (f:Value->Value->Sem Value) (g:Sto->W->W->Option D):Prop where
 run:∀ st x y d,g st x y=some d->OpR X f (rD K st x y d)
noncomputable def rCD (st:Sto) (ws:List W) (d:D):List V->Hp->VK->Prop:=fun vs H Q=>∃ φ,Sr K H φ st/\Rws K H φ ws vs/\∀ v H',Same H H'->Rl K H' φ d v->Q v H'
structure CallD (X:Cx) (f:Value) (g:Sto->List W->Option D):Prop where
 run:∀ st ws d,g st ws=some d->CallR X f (rCD K st ws d)
noncomputable def rCL (st:Sto) (ws:List W) (ds:List D):List V->Hp->VK->Prop:=fun vs H Q=>∃ φ,Sr K H φ st/\Rws K H φ ws vs/\∀ a us H1,Same H H1->H1 a=none->Rls K H1 φ ds us->Q (.ref a) (upd H1 a (.lst us))
structure CallL (X:Cx) (f:Value) (g:Sto->List W->Option (List D)):Prop where
 run:∀ st ws d,g st ws=some d->CallR X f (rCL K st ws d)
end
noncomputable def iV (i:Nat):Ef
 | env,st=>(env.getD i none).map fun w=>(w,st)
noncomputable def iC (d:D):Ef
 | _,st=>some (.d d,st)
noncomputable def iOp (g:Sto->W->W->Option D) (a b:Ef):Ef
 | env,st=>(a env st).bind fun x=>(b env x.2).bind fun y=>(g y.2 x.1 y.1).map fun d=>(.d d,y.2)
noncomputable def blOf:D->Option Bool
 | .bl b=>some b
 | _=>none
noncomputable def blW:W->Option Bool
 | .d (.bl b)=>some b
 | _=>none
noncomputable def iOpT (g:Sto->W->W->Option D) (a b:Ef):Tf
 | env,st=>(a env st).bind fun x=>(b env x.2).bind fun y=>(g y.2 x.1 y.1).bind fun d=>(blOf d).map fun k=>(k,y.2)
noncomputable def iChain (g g':Sto->W->W->Option D) (a b c:Ef):Ef
 | env,st=>(a env st).bind fun x=>(b env x.2).bind fun y=>(g y.2 x.1 y.1).bind fun d=>(blOf d).bind fun k=>
 if k=true then (c env y.2).bind fun z=>(g' z.2 y.1 z.1).map fun d=>(.d d,z.2) else some (.d (.bl false),y.2)
noncomputable def iUn (g:W->Option D) (a:Ef):Ef
 | env,st=>(a env st).bind fun x=>(g x.1).map fun d=>(.d d,x.2)
noncomputable def iNotV (a:Ef):Ef
 | env,st=>(a env st).bind fun x=>(blW x.1).map fun k=>(.d (.bl (!k)),x.2)
noncomputable def iAndV (a b:Ef):Ef
 | env,st=>(a env st).bind fun x=>(blW x.1).bind fun k=>if k=true then b env x.2 else some (.d (.bl false),x.2)
noncomputable def iNotT (c:Tf):Tf
 | env,st=>(c env st).map fun r=>(!r.1,r.2)
noncomputable def iOrT (a b:Tf):Tf
 | env,st=>(a env st).bind fun r=>if r.1=true then some (true,r.2) else b env r.2
noncomputable def iTru (g:Sto->W->Option Bool) (a:Ef):Tf
 | env,st=>(a env st).bind fun x=>(g x.2 x.1).map fun k=>(k,x.2)
noncomputable def iNil:Af
 | _,st=>some ([],st)
noncomputable def iCons (a:Ef) (r:Af):Af
 | env,st=>(a env st).bind fun x=>(r env x.2).map fun y=>(x.1::y.1,y.2)
noncomputable def iCB (g:Sto->List W->Option D) (a:Af):Ef
 | env,st=>(a env st).bind fun r=>(g r.2 r.1).map fun d=>(.d d,r.2)
noncomputable def iCL (g:Sto->List W->Option (List D)) (a:Af):Lf
 | env,st=>(a env st).bind fun r=>(g r.2 r.1).map fun d=>(d,r.2)
noncomputable def iCall (m:Fn) (a:Af):Ef
 | env,st=>(a env st).bind fun r=>m r.1 r.2
noncomputable def dsOf:List W->Option (List D)
 | []=>some []
 | .d x::ws=>(dsOf ws).map fun r=>x::r
 | .h _::_=>none
noncomputable def iTupD (a:Af):Ef
 | env,st=>(a env st).bind fun r=>(dsOf r.1).bind fun ds=>if ds.length≤1000 then some (.d (.tup ds),r.2) else none
noncomputable def iLst (a:Af):Lf
 | env,st=>(a env st).bind fun r=>(dsOf r.1).bind fun ds=>if ds.length≤1000 then some (ds,r.2) else none
noncomputable def iPure (a:Lf):Ef
 | env,st=>(a env st).map fun r=>(.d (.lst r.1),r.2)
noncomputable def iNew (a:Lf):Ef
 | env,st=>(a env st).map fun r=>(.h r.2.length,r.2++[.l r.1])
section
variable {K:PySem.W.Frag}{X:Cx}{e a b c:Expr}{es:List Expr}{pos:Pos}{f fa fb fc:Ef}
theorem PE.imp {t t':TE} (h:PE X e t) (m:∀ σ H Q,t' σ H Q->t σ H Q):PE X e t':=fun pins s σ H Q I q=>h pins s σ H Q I (m σ H Q q)
theorem PT.imp {t t':TT} (h:PT X e t) (m:∀ σ H Q,t' σ H Q->t σ H Q):PT X e t':=fun pins s σ H Q I q=>h pins s σ H Q I (m σ H Q q)
theorem PW.imp {t t':TT} (h:PW X e t) (m:∀ σ H Q,t' σ H Q->t σ H Q):PW X e t':=fun wh pins s σ H Q I q=>h wh pins s σ H Q I (m σ H Q q)
theorem PA.imp {t t':TA} (h:PA X es t) (m:∀ σ H Q,t' σ H Q->t σ H Q):PA X es t':=fun pos pins s σ H Q I q=>h pos pins s σ H Q I (m σ H Q q)
theorem OpR.imp {g:Value->Value->Sem Value}{r r':R2} (h:OpR X g r) (m:∀ x y H Q,r' x y H Q->r x y H Q):OpR X g r':=fun pins s σ H x y v u Q I rx ry q=>h pins s σ H x y v u Q I rx ry (m _ _ _ _ q)
theorem CallR.imp {g:Value}{r r':List V->Hp->VK->Prop} (h:CallR X g r) (m:∀ xs H Q,r' xs H Q->r xs H Q):CallR X g r':=fun pins s σ H xs us Q I rx q=>h pins s σ H xs us Q I rx (m _ _ _ q)
theorem pe_never:PE X e (fun _ _ _=>False):=fun _ _ _ _ _ _ q=>q.elim
theorem pw_never:PW X e (fun _ _ _=>False):=fun _ _ _ _ _ _ _ q=>q.elim
theorem ie_var {i:Nat}{x:Str}{t:TE} (h:PE X (.Name x pos) (tVar i)):IE K X (.Name x pos) (iV i):=by
 refine⟨fun env st r hr=>?_⟩
 unfold iV at hr
 obtain⟨w,hw,rfl⟩:=Option.map_eq_some_iff.mp hr
 refine h.imp ?_
 rintro σ H Q ⟨φ,hE,hS,q⟩
 have hi:env[i]?=some (some w):=by
  rw [List.getD] at hw
  cases q:env[i]? with
  | none=>rw [q] at hw;cases hw
  | some o=>rw [q] at hw;rw [show o=some w from hw]
 obtain⟨v,e1,r⟩:=hE.at_ i w hi
 exact⟨v,e1,q v H φ (Fw.refl φ H) hS r⟩
theorem iv (i:Nat) {x:Str} (hN:X.N[i]?=some x:=by rfl) (hv:Vis X.env.scope x:=by first | exact Or.inl rfl | exact Or.inr (Or.inl rfl) | exact Or.inr (Or.inr rfl)) (hd:(x==("__debug__" : Str))=false:=by decide)
  (hcd:(x==("__classdict__" : Str))=false:=by decide):IE K X (.Name x pos) (iV i):=ie_var (t:=tVar i) (pe_var hN hv hd hcd)
theorem ie_c {d:D}{v:V} (h:PE X e (tC v)) (r:∀ H φ,Rl K H φ d v):IE K X e (iC d):=by
 refine⟨fun env st r hr=>?_⟩
 cases hr
 refine h.imp ?_
 rintro σ H Q ⟨φ,hE,hS,q⟩
 exact q v H φ (Fw.refl φ H) hS (r H φ)
theorem ie_int {i j}:IE K X (.Constant (.int i) j pos) (iC (.int i)):=ie_c pe_int fun _ _=>rfl
theorem ie_bl {i j}:IE K X (.Constant (.bool i) j pos) (iC (.bl i)):=ie_c pe_bl fun _ _=>rfl
theorem ie_str {x j}:IE K X (.Constant (.str x) j pos) (iC (.str x)):=ie_c pe_str fun _ _=>rfl
theorem tOp_of {env:Ev}{st:Sto}{x y:W×Sto}{d:D}{σ:St}{H:Hp}{Q:VK} (h:tI K env st (.d d,y.2) σ H Q):tOp (rD K y.2 x.1 y.1 d) (tI K env st x) (tI K env x.2 y) σ H Q:=by
 obtain⟨φ,hE,hS,q⟩:=h
 refine⟨φ,hE,hS,fun v H1 φ1 f1 s1 w1=>⟨φ1,hE.fw hS f1,s1,fun u H2 φ2 f2 s2 w2=>⟨φ2,s2,w1.fw s1 f2,w2,fun v3 H3 f3 w3=>?_⟩⟩⟩
 exact q v3 H3 φ2 ((f1.trans f2).trans (Fw.same f3)) (s2.same f3) w3
theorem ie_op {op:Operator}{g:Sto->W->W->Option D} (ho:OpD K X (binaryOp op) g) (ha:IE K X a fa) (hb:IE K X b fb):IE K X (.BinOp a op b pos) (iOp g fa fb):=by
 refine⟨fun env st r hr=>?_⟩
 simp only [iOp,Option.bind_eq_some_iff,Option.map_eq_some_iff] at hr
 obtain⟨x,hx,y,hy,d,hd,rfl⟩:=hr
 exact (pe_op (ho.run _ _ _ _ hd) (ha.run _ _ _ hx) (hb.run _ _ _ hy)).imp fun σ H Q h=>tOp_of h
theorem ie_cmp {op:CmpOp}{g:Sto->W->W->Option D} (ho:OpD K X (compareOp op) g) (ha:IE K X a fa) (hb:IE K X b fb) (hm:behindInMarks op b=false):IE K X (.Compare a [op] [b] pos) (iOp g fa fb):=by
 refine⟨fun env st r hr=>?_⟩
 simp only [iOp,Option.bind_eq_some_iff,Option.map_eq_some_iff] at hr
 obtain⟨x,hx,y,hy,d,hd,rfl⟩:=hr
 exact (pe_cmpR (ho.run _ _ _ _ hd) (ha.run _ _ _ hx) (hb.run _ _ _ hy) hm).imp fun σ H Q h=>tOp_of h
theorem blOf_some {d:D}{k:Bool} (h:blOf d=some k):d=.bl k:=by
 cases d<;>first | (cases h;done) | (injection h with h;subst h;rfl)
theorem blW_some {d:W}{k:Bool} (h:blW d=some k):d=.d (.bl k):=by
 cases d with
 | h n=>cases h
 | d x=>cases x<;>first | (cases h;done) | (injection h with h;subst h;rfl)
theorem it_cmp {op:CmpOp}{g:Sto->W->W->Option D} (ho:OpD K X (compareOp op) g) (ha:IE K X a fa) (hb:IE K X b fb) (hm:behindInMarks op b=false):IT K X (.Compare a [op] [b] pos) (iOpT g fa fb):=by
 refine⟨fun env st r hr=>?_⟩
 simp only [iOpT,Option.bind_eq_some_iff,Option.map_eq_some_iff] at hr
 obtain⟨x,hx,y,hy,d,hd,k,hk,rfl⟩:=hr
 cases blOf_some hk
 refine (pt_cmpR (ho.run _ _ _ _ hd) (ha.run _ _ _ hx) (hb.run _ _ _ hy) hm).imp fun σ H Q h=>?_
 obtain⟨φ,hE,hS,q⟩:=h
 refine tOp_of ⟨φ,hE,hS,fun v H1 φ1 f1 s1 w1=>⟨k,w1,q H1 φ1 f1 s1⟩⟩
theorem ie_chain {op op':CmpOp}{g g':Sto->W->W->Option D} (ho:OpD K X (compareOp op) g) (ho':OpD K X (compareOp op') g') (ha:IE K X a fa) (hb:IE K X b fb) (hc:IE K X c fc)
  (hm:lastMarks [op,op'] [b,c]=false:=by with_unfolding_all rfl):IE K X (.Compare a [op,op'] [b,c] pos) (iChain g g' fa fb fc):=by
 refine⟨fun env st r hr=>?_⟩
 simp only [iChain,Option.bind_eq_some_iff] at hr
 obtain⟨x,hx,y,hy,d,hd,k,hk,hr⟩:=hr
 cases blOf_some hk
 cases k with
 | false=>
  rw [if_neg Bool.false_ne_true] at hr
  cases hr
  refine (pe_chain (r':=fun _ _ _ _=>False) (ho.run _ _ _ _ hd) (fun _ _ _ _ _ _ _ _ _ _ _ _ q=>q.elim) (ha.run _ _ _ hx) (hb.run _ _ _ hy) pe_never hm).imp ?_
  rintro σ H Q ⟨φ,hE,hS,q⟩
  refine⟨φ,hE,hS,fun v H1 φ1 f1 s1 w1=>⟨φ1,hE.fw hS f1,s1,fun u H2 φ2 f2 s2 w2=>⟨φ2,s2,w1.fw s1 f2,w2,fun v3 H3 f3 w3=>⟨false,w3,?_⟩⟩⟩⟩
  rw [if_neg Bool.false_ne_true]
  exact q _ H3 φ2 ((f1.trans f2).trans (Fw.same f3)) (s2.same f3) rfl
 | true=>
  simp only [if_true,Option.bind_eq_some_iff,Option.map_eq_some_iff] at hr
  obtain⟨z,hz,d',hd',rfl⟩:=hr
  refine (pe_chain (ho.run _ _ _ _ hd) (ho'.run _ _ _ _ hd') (ha.run _ _ _ hx) (hb.run _ _ _ hy) (hc.run _ _ _ hz) hm).imp ?_
  rintro σ H Q ⟨φ,hE,hS,q⟩
  refine⟨φ,hE,hS,fun v H1 φ1 f1 s1 w1=>⟨φ1,hE.fw hS f1,s1,fun u H2 φ2 f2 s2 w2=>⟨φ2,s2,w1.fw s1 f2,w2,fun v3 H3 f3 w3=>⟨true,w3,?_⟩⟩⟩⟩
  rw [if_pos rfl]
  have f13:=(f1.trans f2).trans (Fw.same (φ:=φ2) f3)
  refine⟨φ2,hE.fw hS f13,s2.same f3,fun u4 H4 φ4 f4 s4 w4=>⟨φ4,s4,(w2.fw s2 (Fw.same f3)).fw (s2.same f3) f4,w4,fun v5 H5 f5 w5=>?_⟩⟩
  exact q v5 H5 φ4 (f13.trans (f4.trans (Fw.same f5))) (s4.same f5) w5
noncomputable def dNeg:W->Option D
 | .d (.int i)=>some (.int (-i))
 | _=>none
theorem ie_neg (ha:IE K X a fa):IE K X (.UnaryOp .USub a pos) (iUn dNeg fa):=by
 refine⟨fun env st r hr=>?_⟩
 simp only [iUn,Option.bind_eq_some_iff,Option.map_eq_some_iff] at hr
 obtain⟨⟨x,s1⟩,hx,d,hd,rfl⟩:=hr
 cases x with
 | h n=>cases hd
 | d x=>
  cases x with
  | int i=>
   cases hd
   refine (pe_un un_neg (ha.run _ _ _ hx)).imp ?_
   rintro σ H Q ⟨φ,hE,hS,q⟩
   exact⟨φ,hE,hS,fun v H1 φ1 f1 s1 w1=>⟨i,w1,q _ H1 φ1 f1 s1 rfl⟩⟩
  | _=>cases hd
theorem ie_not (ha:IE K X a fa):IE K X (.UnaryOp .Not a pos) (iNotV fa):=by
 refine⟨fun env st r hr=>?_⟩
 simp only [iNotV,Option.bind_eq_some_iff,Option.map_eq_some_iff] at hr
 obtain⟨x,hx,k,hk,rfl⟩:=hr
 have e:=blW_some hk
 refine (pe_not (ha.run _ _ _ hx)).imp ?_
 rintro σ H Q ⟨φ,hE,hS,q⟩
 exact⟨φ,hE,hS,fun v H1 φ1 f1 s1 w1=>⟨k,by rw [e] at w1;exact w1,q _ H1 φ1 f1 s1 rfl⟩⟩
theorem ie_one {op} (h:IE K X a fa):IE K X (.BoolOp op [a] pos) fa:=⟨fun env st r hr=>pe_one (h.run env st r hr)⟩
theorem ie_and {rest:List Expr} (ha:IE K X a fa) (hb:IE K X (.BoolOp .And (b::rest) pos) fb):IE K X (.BoolOp .And (a::b::rest) pos) (iAndV fa fb):=by
 refine⟨fun env st r hr=>?_⟩
 simp only [iAndV,Option.bind_eq_some_iff] at hr
 obtain⟨x,hx,k,hk,hr⟩:=hr
 have e:=blW_some hk
 cases k with
 | false=>
  rw [if_neg Bool.false_ne_true] at hr
  cases hr
  refine (pe_and (ha.run _ _ _ hx) pe_never).imp ?_
  rintro σ H Q ⟨φ,hE,hS,q⟩
  refine⟨φ,hE,hS,fun v H1 φ1 f1 s1 w1=>⟨false,by rw [e] at w1;exact w1,?_⟩⟩
  rw [if_neg Bool.false_ne_true]
  exact q _ H1 φ1 f1 s1 rfl
 | true=>
  rw [if_pos rfl] at hr
  refine (pe_and (ha.run _ _ _ hx) (hb.run _ _ _ hr)).imp ?_
  rintro σ H Q ⟨φ,hE,hS,q⟩
  refine⟨φ,hE,hS,fun v H1 φ1 f1 s1 w1=>⟨true,by rw [e] at w1;exact w1,?_⟩⟩
  rw [if_pos rfl]
  exact⟨φ1,hE.fw hS f1,s1,fun u H2 φ2 f2 s2 w2=>q u H2 φ2 (f1.trans f2) s2 w2⟩
variable {ta tb:Tf}
theorem it_not (ha:IT K X a ta):IT K X (.UnaryOp .Not a pos) (iNotT ta):=by
 refine⟨fun env st r hr=>?_⟩
 simp only [iNotT,Option.map_eq_some_iff] at hr
 obtain⟨x,hx,rfl⟩:=hr
 refine (pt_not (ha.run _ _ _ hx)).imp ?_
 rintro σ H Q ⟨φ,hE,hS,q⟩
 exact⟨φ,hE,hS,fun H1 φ1 f1 s1=>q H1 φ1 f1 s1⟩
theorem itw_pt (h:ITW K X a ta):IT K X a ta:=⟨fun env st r hr=>(h.run env st r hr).pt⟩
theorem itw_or1 (h:IT K X a ta):ITW K X (.BoolOp .Or [a] pos) ta:=⟨fun env st r hr=>pw_or1 (h.run env st r hr)⟩
theorem itw_or {rest:List Expr} (ha:IT K X a ta) (hb:ITW K X (.BoolOp .Or (b::rest) pos) tb):ITW K X (.BoolOp .Or (a::b::rest) pos) (iOrT ta tb):=by
 refine⟨fun env st r hr=>?_⟩
 simp only [iOrT,Option.bind_eq_some_iff] at hr
 obtain⟨⟨k,s1⟩,hx,hr⟩:=hr
 cases k with
 | true=>
  rw [if_pos rfl] at hr
  cases hr
  refine (pw_or (ha.run _ _ _ hx) pw_never).imp ?_
  rintro σ H Q ⟨φ,hE,hS,q⟩
  refine⟨φ,hE,hS,fun H1 φ1 f1 s1=>?_⟩
  refine iteT ?_
  exact q H1 φ1 f1 s1
 | false=>
  rw [if_neg Bool.false_ne_true] at hr
  refine (pw_or (ha.run _ _ _ hx) (hb.run _ _ _ hr)).imp ?_
  rintro σ H Q ⟨φ,hE,hS,q⟩
  refine⟨φ,hE,hS,fun H1 φ1 f1 s1=>?_⟩
  refine iteF ?_
  exact⟨φ1,hE.fw hS f1,s1,fun H2 φ2 f2 s2=>q H2 φ2 (f1.trans f2) s2⟩
noncomputable def seqD (st:Sto):W->Option (List D)
 | .d (.tup ds)=>some ds
 | .d (.lst ds)=>some ds
 | .d (.scr ns)=>some (ns.map D.int)
 | .h n=>lg st n
 | _=>none
theorem seq_relT {st:Sto}{H:Hp}{φ:List Addr}{w:W}{v:V}{ds:List D} (S:Sr K H φ st) (r:Rw K H φ w v) (e:seqD st w=some ds):∃ a vs,v=.ref a/\(SqL K H a vs∨H a=some (.tup vs))/\Rls K H φ ds vs:=by
 cases w with
 | h n=>
  obtain⟨a,ea,rfl⟩:=r
  obtain⟨vs,q,rl⟩:=S.atl n a ds ea e
  exact⟨a,vs,rfl,.inl (SqL.of q),rl⟩
 | d x=>
  cases x with
  | tup es=>cases e;obtain⟨a,vs,rfl,h1,h2⟩:=r;exact⟨a,vs,rfl,.inr h1,h2⟩
  | lst es=>cases e;obtain⟨a,vs,rfl,h0,h1,h2⟩:=r;exact⟨a,vs,rfl,.inl (.inl h1),h2⟩
  | scr ns=>
   cases e
   obtain⟨a,rfl,h⟩:=r
   refine⟨a,_,rfl,.inl ?_,Rls.of_ints ns⟩
   rcases h with⟨o,h⟩ | h
   ·exact .inl (.inr ⟨o,h⟩)
   ·exact .inr h
  | _=>cases e
theorem seq_rel {st:Sto}{H:Hp}{φ:List Addr}{w:W}{v:V}{ds:List D} (S:Sr K H φ st) (r:Rw K H φ w v) (e:seqD st w=some ds):∃ a vs,v=.ref a/\(SqL K H a vs∨SqT K H a vs)/\Rls K H φ ds vs:=by
 obtain⟨a,vs,h0,h1,h2⟩:=seq_relT S r e
 exact⟨a,vs,h0,h1.imp id SqT.of,h2⟩
noncomputable def truD (st:Sto):W->Option Bool
 | .d .non=>some false
 | .d (.bl b)=>some b
 | .d (.int i)=>some (i != 0)
 | w=>(seqD st w).map fun ds=>!ds.isEmpty
theorem tru_rel {st:Sto}{H:Hp}{φ:List Addr}{w:W}{v:V}{k:Bool} (S:Sr K H φ st) (r:Rw K H φ w v) (e:truD st w=some k):TruV K v H k:=by
 have seq:∀ ds,seqD st w=some ds->k=!ds.isEmpty->TruV K v H k:=fun ds h hk=>by
  obtain⟨a,vs,rfl,h1,h2⟩:=seq_rel S r h
  have hl:=h2.length
  have e':k=!vs.isEmpty:=by
   rw [hk]
   cases ds<;>cases vs<;>first | rfl | cases hl
  rcases h1 with h1 | h1
  ·exact .inl ⟨vs,h1,e'⟩
  ·exact .inr (.inl ⟨vs,h1,e'⟩)
 cases w with
 | h n=>
  obtain⟨ds,h1,h2⟩:=Option.map_eq_some_iff.mp e
  exact seq ds h1 h2.symm
 | d x=>
  cases x with
  | non=>have r':v=.non:=r;subst r';cases e;exact rfl
  | bl b=>have r':v=.bl b:=r;subst r';cases e;exact rfl
  | int i=>have r':v=.int i:=r;subst r';cases e;exact rfl
  | tup ds=>exact seq ds rfl (Option.some.inj e).symm
  | lst ds=>exact seq ds rfl (Option.some.inj e).symm
  | scr ds=>exact seq _ rfl (Option.some.inj e).symm
  | _=>cases e
theorem it_tru (ha:IE K X a fa) (he:plainT a=true:=by rfl) (hK:X.K=K:=by rfl):IT K X a (iTru truD fa):=by
 subst hK
 refine⟨fun env st r hr=>?_⟩
 simp only [iTru,Option.bind_eq_some_iff,Option.map_eq_some_iff] at hr
 obtain⟨x,hx,k,hk,rfl⟩:=hr
 refine (pt_truth (ha.run _ _ _ hx) (tru_plain he)).imp ?_
 rintro σ H Q ⟨φ,hE,hS,q⟩
 exact⟨φ,hE,hS,fun v H1 φ1 f1 s1 w1=>⟨k,tru_rel s1 w1 hk,q H1 φ1 f1 s1⟩⟩
variable {af:Af}
theorem ia_nil:IA K X [] iNil:=by
 refine⟨fun env st r hr=>?_⟩
 cases hr
 refine pa_nil.imp ?_
 rintro σ H Q ⟨φ,hE,hS,q⟩
 exact q [] H φ (Fw.refl φ H) hS rfl
theorem ia_cons (ha:IE K X e fa) (hr:IA K X es af) (hs:notStar e=true:=by rfl):IA K X (e::es) (iCons fa af):=by
 refine⟨fun env st r h=>?_⟩
 simp only [iCons,Option.bind_eq_some_iff,Option.map_eq_some_iff] at h
 obtain⟨x,hx,y,hy,rfl⟩:=h
 refine (pa_cons (ha.run _ _ _ hx) (hr.run _ _ _ hy) (star_cons hs)).imp ?_
 rintro σ H Q ⟨φ,hE,hS,q⟩
 refine⟨φ,hE,hS,fun v H1 φ1 f1 s1 w1=>⟨φ1,hE.fw hS f1,s1,fun u H2 φ2 f2 s2 w2=>?_⟩⟩
 exact q _ H2 φ2 (f1.trans f2) s2 ⟨v,u,rfl,w1.fw s1 f2,w2⟩
theorem ie_cb {x:Str}{id:String}{p:Pos}{g:Sto->List W->Option D} (hc:CallD K X (.builtin id) g) (hg:Gl X x) (hm:X.mg x=none) (hv:bootBuiltins x=some (.builtin id)) (ha:IA K X (e::es) af)
  (hn:x≠"__name__":=by decide) (hdb:(x==("__debug__" : Str))=false:=by decide) (hs:notStar e=true:=by rfl) (hp:es.all notStar=true:=by rfl) :
  IE K X (.Call (.Name x p) (e::es) [] pos) (iCB g af):=by
 refine⟨fun env st r hr=>?_⟩
 simp only [iCB,Option.bind_eq_some_iff,Option.map_eq_some_iff] at hr
 obtain⟨y,hy,d,hd,rfl⟩:=hr
 refine (pe_callB (hc.run _ _ _ hd) hg hm hv (ha.run _ _ _ hy) hn hdb (star_cons hs) (star_any hp)).imp ?_
 rintro σ H Q ⟨φ,hE,hS,q⟩
 exact⟨φ,hE,hS,fun v H1 φ1 f1 s1 w1=>⟨φ1,s1,w1,fun u H2 f2 w2=>q u H2 φ1 (f1.trans (Fw.same f2)) (s1.same f2) w2⟩⟩
theorem ie_ct {x:Str}{T:String}{p:Pos}{g:Sto->List W->Option D} (hc:CallD K X (.type T) g) (hg:Gl X x) (hm:X.mg x=none) (hv:bootBuiltins x=some (.type T)) (ha:IA K X (e::es) af)
  (hn:x≠"__name__":=by decide) (hdb:(x==("__debug__" : Str))=false:=by decide) (hs:notStar e=true:=by rfl) (hp:es.all notStar=true:=by rfl) :
  IE K X (.Call (.Name x p) (e::es) [] pos) (iCB g af):=by
 refine⟨fun env st r hr=>?_⟩
 simp only [iCB,Option.bind_eq_some_iff,Option.map_eq_some_iff] at hr
 obtain⟨y,hy,d,hd,rfl⟩:=hr
 refine (pe_callTy (hc.run _ _ _ hd) hg hm hv (ha.run _ _ _ hy) hn hdb (star_cons hs) (star_any hp)).imp ?_
 rintro σ H Q ⟨φ,hE,hS,q⟩
 exact⟨φ,hE,hS,fun v H1 φ1 f1 s1 w1=>⟨φ1,s1,w1,fun u H2 f2 w2=>q u H2 φ1 (f1.trans (Fw.same f2)) (s1.same f2) w2⟩⟩
theorem il_cb {x:Str}{id:String}{p:Pos}{g:Sto->List W->Option (List D)} (hc:CallL K X (.builtin id) g) (hg:Gl X x) (hm:X.mg x=none) (hv:bootBuiltins x=some (.builtin id)) (ha:IA K X (e::es) af)
  (hn:x≠"__name__":=by decide) (hdb:(x==("__debug__" : Str))=false:=by decide) (hs:notStar e=true:=by rfl) (hp:es.all notStar=true:=by rfl) :
  IL K X (.Call (.Name x p) (e::es) [] pos) (iCL g af):=by
 refine⟨fun env st r hr=>?_⟩
 simp only [iCL,Option.bind_eq_some_iff,Option.map_eq_some_iff] at hr
 obtain⟨y,hy,d,hd,rfl⟩:=hr
 refine (pe_callB (hc.run _ _ _ hd) hg hm hv (ha.run _ _ _ hy) hn hdb (star_cons hs) (star_any hp)).imp ?_
 rintro σ H Q ⟨φ,hE,hS,q⟩
 exact⟨φ,hE,hS,fun v H1 φ1 f1 s1 w1=>⟨φ1,s1,w1,fun a us H2 f2 n2 w2=>q a us H2 φ1 (f1.trans (Fw.same f2)) (s1.same f2) n2 w2⟩⟩
theorem dsOf_rel {H:Hp}{φ:List Addr}:∀ {ws:List W}{vs:List V}{ds:List D},dsOf ws=some ds->Rws K H φ ws vs->Rls K H φ ds vs
 | [],_,_,e,h=>by cases e;exact h
 | .d x::ws,_,_,e,h=>by
  obtain⟨v,r,rfl,h1,h2⟩:=h
  obtain⟨es,e1,rfl⟩:=Option.map_eq_some_iff.mp e
  exact⟨v,r,rfl,h1,dsOf_rel e1 h2⟩
 | .h n::ws,_,_,e,h=>by cases e
theorem ie_tup {x1} (h:IA K X es af):IE K X (.Tuple es x1 pos) (iTupD af):=by
 refine⟨fun env st r hr=>?_⟩
 simp only [iTupD,Option.bind_eq_some_iff] at hr
 obtain⟨y,hy,ds,hd,hr⟩:=hr
 split at hr
 ·cases hr
  rename_i hl
  refine (pe_tup (h.run _ _ _ hy)).imp ?_
  rintro σ H Q ⟨φ,hE,hS,q⟩
  refine⟨φ,hE,hS,fun vs H1 φ1 f1 s1 w1=>?_⟩
  have w:=dsOf_rel hd w1
  refine⟨by rw [←w.length];exact small16 hl,fun p hp=>?_⟩
  exact q _ _ φ1 (f1.trans (Fw.new hp)) (s1.new hp) ⟨p,vs,rfl,upd_same,w.fw s1 (Fw.new hp)⟩
 ·cases hr
theorem il_lst (h:IA K X es af):IL K X (.List es pos) (iLst af):=by
 refine⟨fun env st r hr=>?_⟩
 simp only [iLst,Option.bind_eq_some_iff] at hr
 obtain⟨y,hy,ds,hd,hr⟩:=hr
 split at hr
 ·cases hr
  rename_i hl
  refine (pe_lst (h.run _ _ _ hy)).imp ?_
  rintro σ H Q ⟨φ,hE,hS,q⟩
  refine⟨φ,hE,hS,fun vs H1 φ1 f1 s1 w1=>?_⟩
  have w:=dsOf_rel hd w1
  exact⟨by rw [←w.length];exact small16 hl,fun p hp=>q p vs H1 φ1 f1 s1 hp w⟩
 ·cases hr
theorem il_pure {lf:Lf} (h:IL K X e lf):IE K X e (iPure lf):=by
 refine⟨fun env st r hr=>?_⟩
 simp only [iPure,Option.map_eq_some_iff] at hr
 obtain⟨y,hy,rfl⟩:=hr
 refine (h.run _ _ _ hy).imp ?_
 rintro σ H Q ⟨φ,hE,hS,q⟩
 refine⟨φ,hE,hS,fun a vs H1 φ1 f1 s1 n1 w1=>?_⟩
 exact q _ _ φ1 (f1.trans (Fw.new n1)) (s1.new n1) ⟨a,vs,rfl,s1.nin n1,.inl upd_same,w1.fw s1 (Fw.new n1)⟩
theorem Sr.moreC {H:Hp}{φ:List Addr}{st:Sto}{a:Addr}{o:HO}{c:C} (S:Sr K H φ st) (n:H a=none) (w:Rc K (upd H a o) (φ++[a]) φ.length a c):Sr K (upd H a o) (φ++[a]) (st++[c]):=by
 have f:Fw φ (φ++[a]) H (upd H a o):=⟨⟨[a],rfl,fun b hb=>by rw [List.mem_singleton.mp hb];exact n⟩,fun b o _ h=>Same.new n _ b o h,fun b o h=>⟨o,Same.new n _ b o h⟩⟩
 refine⟨?_,by rw [List.length_append,List.length_append,S.len];rfl,fun i b es e1 e2=>?_⟩
 ·rw [List.nodup_append]
  refine⟨S.nd,by simp,fun x hx y hy e=>?_⟩
  rw [List.mem_singleton.mp hy] at e
  rw [e] at hx
  exact S.nin n hx
 ·by_cases hi:i < φ.length
  ·rw [List.getElem?_append_left hi] at e1
   rw [List.getElem?_append_left (by rw [←S.len];exact hi)] at e2
   exact (S.at_ i b es e1 e2).fw S f fun o h=>Same.new n _ _ _ h
  ·have e:i=φ.length:=by
    have:=(List.getElem?_eq_some_iff.mp e1).1
    rw [List.length_append] at this
    simp at this
    omega
   subst e
   rw [List.getElem?_append_right (Nat.le_refl _)] at e1
   rw [S.len,List.getElem?_append_right (Nat.le_refl _)] at e2
   simp at e1 e2
   subst e1 e2
   exact w
theorem Fw.moreO {H:Hp}{φ:List Addr}{a:Addr}{o:HO} (n:H a=none):Fw φ (φ++[a]) H (upd H a o):=
 ⟨⟨[a],rfl,fun b hb=>by rw [List.mem_singleton.mp hb];exact n⟩,fun b o _ h=>Same.new n _ b o h,fun b o h=>⟨o,Same.new n _ b o h⟩⟩
theorem Fw.more {H:Hp}{φ:List Addr}{a:Addr}{vs:List V} (n:H a=none):Fw φ (φ++[a]) H (upd H a (.lst vs)):=Fw.moreO n
theorem Sr.more {H:Hp}{φ:List Addr}{st:Sto}{a:Addr}{vs:List V}{ds:List D} (S:Sr K H φ st) (n:H a=none) (w:Rls K H φ ds vs):Sr K (upd H a (.lst vs)) (φ++[a]) (st++[.l ds]):=
 S.moreC n ⟨vs,upd_same,w.fw S (Fw.moreO n)⟩
theorem il_new {lf:Lf} (h:IL K X e lf):IE K X e (iNew lf):=by
 refine⟨fun env st r hr=>?_⟩
 simp only [iNew,Option.map_eq_some_iff] at hr
 obtain⟨y,hy,rfl⟩:=hr
 refine (h.run _ _ _ hy).imp ?_
 rintro σ H Q ⟨φ,hE,hS,q⟩
 refine⟨φ,hE,hS,fun a vs H1 φ1 f1 s1 n1 w1=>?_⟩
 exact q _ _ (φ1++[a]) (f1.trans (Fw.more n1)) (s1.more n1 w1) ⟨a,by rw [←s1.len];simp,rfl⟩
noncomputable def spI (K:PySem.W.Frag) (m:Fn):Sp:=fun vs H Q _=>∃ φ st ws r,m ws st=some r/\Rws K H φ ws vs/\Sr K H φ st/\∀ v H' φ',Fw φ φ' H H'->Sr K H' φ' r.2->Rw K H' φ' r.1 v->Q v H'
theorem ie_call {x:Str}{k j:Nat}{ff:Addr}{fd:FuncData}{ps:List Str}{m:Fn}{p:Pos} (F:FnOk X.prog X.w X.K X.mg X.base CX0 j ff fd ps (spI K m)) (hjk:j≤k) (hr:Room k X.A) (hg:Gl X x) (hm:X.mg x=some (.ref ff)) (hk:PySem.W.keepIn X.K (.ref ff)=true) (hb:Binds X.K fd ps [])
  (ha:IA K X (e::es) af) (hdb:(x==("__debug__" : Str))=false:=by decide) (hs:notStar e=true:=by rfl) (hp:es.all notStar=true:=by rfl) :
  IE K X (.Call (.Name x p) (e::es) [] pos) (iCall m af):=by
 refine⟨fun env st r h=>?_⟩
 simp only [iCall,Option.bind_eq_some_iff] at h
 obtain⟨y,hy,h⟩:=h
 refine (pe_call (F.mono hjk) hr hg hm hk hb .nil pass0 (ha.run _ _ _ hy) hdb (star_cons hs) (star_any hp)).imp ?_
 rintro σ H Q ⟨φ,hE,hS,q⟩
 refine⟨φ,hE,hS,fun vs H1 φ1 f1 s1 w1=>?_⟩
 show spI K m (vs++[]) H1 Q E0
 rw [List.append_nil]
 exact⟨φ1,y.2,y.1,r,h,w1,s1,fun v H2 φ2 f2 s2 w2=>q v H2 φ2 (f1.trans f2) s2 w2⟩
end
end L2
namespace L2
open PySem PySem.Spec PyProof.Rows
inductive Fl where
 | nx (env:Ev) (st:Sto) | rt (w:W) (st:Sto) | bk (env:Ev) (st:Sto) | ct (env:Ev) (st:Sto)
abbrev Sf:=Ev->Sto->Option Fl
noncomputable def EndD (K:PySem.W.Frag) (φ:List Addr) (H:Hp) (D:Ends):Fl->Prop
 | .nx e s=>∀ σ' H' φ',Fw φ φ' H H'->Er K H' φ' e σ'->Sr K H' φ' s->D.nx σ' H'
 | .rt w s=>∀ v H' φ',Fw φ φ' H H'->Sr K H' φ' s->Rw K H' φ' w v->D.rt v H'
 | .bk e s=>∀ σ' H' φ',Fw φ φ' H H'->Er K H' φ' e σ'->Sr K H' φ' s->D.bk σ' H'
 | .ct e s=>∀ σ' H' φ',Fw φ φ' H H'->Er K H' φ' e σ'->Sr K H' φ' s->D.ct σ' H'
theorem EndD.fw {K:PySem.W.Frag}{φ φ1:List Addr}{H H1:Hp}{D:Ends}{r:Fl} (h:EndD K φ H D r) (f:Fw φ φ1 H H1):EndD K φ1 H1 D r:=by
 cases r with
 | nx e s=>exact fun σ' H' φ' f'=>h σ' H' φ' (f.trans f')
 | rt w s=>exact fun v H' φ' f'=>h v H' φ' (f.trans f')
 | bk e s=>exact fun σ' H' φ' f'=>h σ' H' φ' (f.trans f')
 | ct e s=>exact fun σ' H' φ' f'=>h σ' H' φ' (f.trans f')
noncomputable def tS (K:PySem.W.Frag) (env:Ev) (st:Sto) (r:Fl):TS:=fun D σ H=>∃ φ,Er K H φ env σ/\Sr K H φ st/\EndD K φ H D r
structure IS (K:PySem.W.Frag) (X:Cx) (s:Stmt) (g:Sf):Prop where
 run:∀ env st r,g env st=some r->PS X s (tS K env st r)
structure ISs (K:PySem.W.Frag) (X:Cx) (s:List Stmt) (g:Sf):Prop where
 run:∀ env st r,g env st=some r->PSs X s (tS K env st r)
inductive Tg where
 | nm (i:Nat) | tp (is:List Nat)
noncomputable def idxs:Tg->List Nat
 | .nm i=>[i]
 | .tp is=>is
noncomputable def setNs:List Nat->List D->Ev->Ev
 | i::is,d::ds,env=>setNs is ds (env.set i (some (.d d)))
 | _,_,env=>env
noncomputable def setT:Tg->W->Ev->Option Ev
 | .nm i,w,env=>some (env.set i (some w))
 | .tp is,.d (.tup ds),env=>if is.length=ds.length then some (setNs is ds env) else none
 | .tp is,.d (.lst ds),env=>if is.length=ds.length then some (setNs is ds env) else none
 | _,_,_=>none
noncomputable def Stay (is:List Nat) (σ σ':St):Prop:=σ'.length=σ.length/\∀ j,j ∉ is->σ'[j]?=σ[j]?
noncomputable def tG (K:PySem.W.Frag) (g:Tg):TG:=fun v σ H Q=>∃ φ st env w env',Er K H φ env σ/\Sr K H φ st/\Rw K H φ w v/\setT g w env=some env'/\∀ σ',Er K H φ env' σ'->Stay (idxs g) σ σ'->Q σ' H
noncomputable def tGs (K:PySem.W.Frag) (is:List Nat):TGs:=fun vs σ H Q=>∃ φ st env ds,Er K H φ env σ/\Sr K H φ st/\Rls K H φ ds vs/\is.length=ds.length/\∀ σ',Er K H φ (setNs is ds env) σ'->Stay is σ σ'->Q σ' H
noncomputable def iSkip:Sf
 | env,st=>some (.nx env st)
noncomputable def iSeqS (a b:Sf):Sf
 | env,st=>(a env st).bind fun r=>match r with
 | .nx e s=>b e s
 | r=>some r
noncomputable def iSet (g:Tg) (f:Ef):Sf
 | env,st=>(f env st).bind fun r=>(setT g r.1 env).map fun e=>.nx e r.2
noncomputable def setIx (st:Sto) (o i v:W):Option Sto:=match o,i,v with
 | .h n,.d (.int k),.d x=>(lg st n).bind fun ds=>(ixN ds.length k).map fun j=>st.set n (.l (ds.set j x))
 | _,_,_=>none
noncomputable def iSetIx (o i v:Ef):Sf
 | env,st=>(v env st).bind fun rv=>(o env rv.2).bind fun ro=>(i env ro.2).bind fun ri=>(setIx ri.2 ro.1 ri.1 rv.1).map fun s=>.nx env s
noncomputable def iRet (f:Ef):Sf
 | env,st=>(f env st).map fun r=>.rt r.1 r.2
noncomputable def iDrop (f:Ef):Sf
 | env,st=>(f env st).map fun r=>.nx env r.2
noncomputable def iIfS (c:Tf) (a b:Sf):Sf
 | env,st=>(c env st).bind fun r=>if r.1=true then a env r.2 else b env r.2
noncomputable def forI (g:Tg) (body:Sf):List D->Ev->Sto->Option Fl
 | [],env,st=>some (.nx env st)
 | d::ds,env,st=>(setT g (.d d) env).bind fun e=>(body e st).bind fun r=>match r with
  | .nx e s=>forI g body ds e s
  | .ct e s=>forI g body ds e s
  | .bk e s=>some (.nx e s)
  | .rt w s=>some (.rt w s)
noncomputable def iFor (fi:Lf) (g:Tg) (body:Sf):Sf
 | env,st=>(fi env st).bind fun r=>forI g body r.1 env r.2
noncomputable def lcI (g:Tg) (tt:Tf) (te:Ef) (env:Ev):List D->Sto->Option (List D×Sto)
 | [],st=>some ([],st)
 | d::ds,st=>(setT g (.d d) env).bind fun e=>(tt e st).bind fun b=>if b.1=true then (te e b.2).bind fun x=>(dsOf [x.1]).bind fun ys=>(lcI g tt te env ds x.2).map fun r=>(ys++r.1,r.2)
   else lcI g tt te env ds b.2
noncomputable def embE (k:Nat) (js:List Nat) (env:Ev):Ev:=List.replicate k none++js.map fun j=>env.getD j none
noncomputable def iLc (k:Nat) (js:List Nat) (fi:Lf) (g:Tg) (tt:Tf) (te:Ef):Lf
 | env,st=>(fi env st).bind fun r=>if r.1.length≤1000000 then lcI g tt te (embE k js env) r.1 r.2 else none
noncomputable def iYes:Tf
 | _,st=>some (true,st)
noncomputable def iItems (f:Ef):Lf
 | env,st=>(f env st).bind fun r=>match r.1 with
 | .d (.tup ds)=>some (ds,r.2)
 | .d (.lst ds)=>some (ds,r.2)
 | _=>none
noncomputable def rngD (lo:Int) (n:Nat):List D:=(List.range n).map fun k:Nat=>D.int (lo+k)
noncomputable def iRng1D (a:Af):Lf
 | env,st=>(a env st).bind fun r=>match r.1 with
 | [.d (.int j)]=>if -(2 ^ 62)≤j/\j < 2 ^ 62 then some (rngD 0 j.toNat,r.2) else none
 | _=>none
section
variable {K:PySem.W.Frag}{X:Cx}{pos:Pos}
theorem PS.imp {s:Stmt}{t t':TS} (h:PS X s t) (m:∀ D σ H,t' D σ H->t D σ H):PS X s t':=fun pins s σ H D I q=>h pins s σ H D I (m D σ H q)
theorem PSs.imp {s:List Stmt}{t t':TS} (h:PSs X s t) (m:∀ D σ H,t' D σ H->t D σ H):PSs X s t':=fun pins s σ H D I q=>h pins s σ H D I (m D σ H q)
theorem Er.set {H:Hp}{φ:List Addr}{env:Ev}{σ:St} (h:Er K H φ env σ) (i:Nat) {w:W}{v:V} (r:Rw K H φ w v):Er K H φ (env.set i (some w)) (σ.set i (some v)):=by
 refine⟨by rw [List.length_set,List.length_set,h.len],fun j w' e=>?_⟩
 by_cases hj:i=j
 ·subst hj
  have hi:i < env.length:=by
   have:=(List.getElem?_eq_some_iff.mp e).1
   rwa [List.length_set] at this
  rw [List.getElem?_set_self hi] at e
  cases e
  exact⟨v,by rw [List.getElem?_set_self (by rw [←h.len];exact hi)],r⟩
 ·rw [List.getElem?_set_ne hj] at e
  obtain⟨v',e1,r1⟩:=h.at_ j w' e
  exact⟨v',by rw [List.getElem?_set_ne hj];exact e1,r1⟩
theorem stay_set (i:Nat) (σ:St) (v:Option V):Stay [i] σ (σ.set i v):=⟨by rw [List.length_set],fun j hj=>by rw [List.getElem?_set_ne (by rintro rfl;simp at hj)]⟩
theorem ig_name {i:Nat}{x:Str} (h:PG X (.Name x pos) (gName i)):PG X (.Name x pos) (tG K (.nm i)):=by
 intro pins s σ H v u Q I rv q
 obtain⟨φ,st,env,w,env',hE,hS,r,e,q⟩:=q
 cases e
 exact h pins s σ H v u Q I rv (q _ (hE.set i r) (stay_set i σ _))
theorem igs_nil:PGs X [] (tGs K []):=by
 intro pins s σ H vs us Q I rv q
 obtain⟨φ,st,env,ds,hE,hS,r,e,q⟩:=q
 cases ds with
 | nil=>cases r;exact pgs_nil pins s σ H [] us Q I rv ⟨rfl,q σ hE ⟨rfl,fun _ _=>rfl⟩⟩
 | cons _ _=>cases e
theorem igs_cons {i:Nat}{is:List Nat}{x:Str}{es:List Expr} (h1:PG X (.Name x pos) (gName i)) (h2:PGs X es (tGs K is)):PGs X (.Name x pos::es) (tGs K (i::is)):=by
 intro pins s σ H vs us Q I rv q
 obtain⟨φ,st,env,ds,hE,hS,r,e,q⟩:=q
 cases ds with
 | nil=>cases e
 | cons d ds=>
  obtain⟨v,vr,rfl,r1,r2⟩:=r
  refine pgs_cons h1 h2 (asg_map rfl) pins s σ H _ us Q I rv ⟨v,vr,rfl,φ,st,_,ds,hE.set i (w:=.d d) r1,hS,r2,by simpa using e,fun σ' e' s'=>q σ' e' ?_⟩
  refine⟨by rw [s'.1,List.length_set],fun j hj=>?_⟩
  rw [s'.2 j (fun z=>hj (List.mem_cons_of_mem _ z)),List.getElem?_set_ne (by rintro rfl;exact hj List.mem_cons_self)]
noncomputable def gLst (K:PySem.W.Frag) (n:Nat) (t:TGs):TG:=fun v σ H Q=>∃ a xs,v=.ref a/\SqL K H a xs/\xs.length=n/\t xs σ H Q
theorem pg_lst {es:List Expr}{k:Nat}{t:TGs}{n:Nat} (hc:X.calm=true) (h:PGs X es t) (hn:(assignEach es X.env).length=n) (hst:(assignEach es X.env).findIdx? (·.1)=none):PG X (.Tuple es k pos) (gLst X.K n t):=by
 intro pins s σ H v u Q I r hw
 obtain⟨a,xs,e1,hq,hl,hw⟩:=hw
 subst e1
 cases r
 obtain⟨its,rv,p,hz⟩:=I.list hq
 rw [assign_Tuple]
 refine wpAny_bind (wpAny_standAt ?_)
 unfold unpack
 rw [show (assignEach es X.env).length=its.toArray.size by simp [hn,←hl,rv.length],hst]
 refine wpAny_bind (wpAny_holding (PySem.W.kun_itemsOf (I.ok.hd hc) p.isList fun h' hx=>?_))
 have I1:Inv X pins σ H { s with heap:=h' }:=I.kept (t':=s.toks) fun b o e=>hx b o (Nat.ne_of_lt (Heap.lt_size e)) e
 exact h pins _ σ H xs _ Q I1 (by simpa using rv) hw
theorem ig_tup {es:List Expr}{k n:Nat}{is:List Nat} (h:PGs X es (tGs K is)) (hes:es.all notStar=true:=by rfl) (hn:es.length=n:=by rfl) (hi:is.length=n:=by rfl) (hc:X.calm=true:=by rfl) (hK:X.K=K:=by rfl):PG X (.Tuple es k pos) (tG K (.tp is)):=by
 subst hK
 intro pins s σ H v u Q I rv q
 obtain⟨φ,st,env,w,env',hE,hS,r,e,q⟩:=q
 cases w with
 | h n=>cases e
 | d x=>
  cases x with
  | tup ds=>
   have e':(if is.length=ds.length then some (setNs is ds env) else none)=some env':=e
   by_cases hl:is.length=ds.length
   ·rw [if_pos hl] at e'
    cases e'
    obtain⟨a,vs,rfl,hq,hr⟩:=r
    exact pg_tup hc h ((asg_len hes).trans hn) (asg_find hes) pins s σ H _ u Q I rv ⟨a,vs,rfl,(SqT.of hq),by rw [←hr.length,←hl,hi],φ,st,env,ds,hE,hS,hr,hl,q⟩
   ·rw [if_neg hl] at e'
    cases e'
  | lst ds=>
   have e':(if is.length=ds.length then some (setNs is ds env) else none)=some env':=e
   by_cases hl:is.length=ds.length
   ·rw [if_pos hl] at e'
    cases e'
    obtain⟨a,vs,rfl,_,hq,hr⟩:=r
    exact pg_lst hc h ((asg_len hes).trans hn) (asg_find hes) pins s σ H _ u Q I rv ⟨a,vs,rfl,.inl hq,by rw [←hr.length,←hl,hi],φ,st,env,ds,hE,hS,hr,hl,q⟩
   ·rw [if_neg hl] at e'
    cases e'
  | _=>cases e
variable {s:Stmt}{ss rest:List Stmt}{e a b c:Expr}{ga gb:Sf}{f fa fb fc:Ef}
theorem iss_nil:ISs K X [] iSkip:=by
 refine⟨fun env st r hr=>?_⟩
 cases hr
 exact pss_nil.imp fun D σ H ⟨φ,hE,hS,q⟩=>q σ H φ (Fw.refl φ H) hE hS
theorem iss_one (h:IS K X s ga):ISs K X [s] ga:=⟨fun env st r hr=>pss_one (h.run env st r hr)⟩
theorem iss_cons (h1:IS K X s ga) (h2:ISs K X rest gb):ISs K X (s::rest) (iSeqS ga gb):=by
 refine⟨fun env st r hr=>?_⟩
 simp only [iSeqS,Option.bind_eq_some_iff] at hr
 obtain⟨r1,e1,hr⟩:=hr
 cases r1 with
 | nx e s1=>
  refine (pss_cons (h1.run _ _ _ e1) (h2.run _ _ _ hr)).imp ?_
  rintro D σ H ⟨φ,hE,hS,q⟩
  exact⟨φ,hE,hS,fun σ' H' φ' f' e' s'=>⟨φ',e',s',q.fw f'⟩⟩
 | rt w s1=>
  cases hr
  exact (pss_cons (h1.run _ _ _ e1) pss_never).imp fun D σ H ⟨φ,hE,hS,q⟩=>⟨φ,hE,hS,q⟩
 | bk w s1=>
  cases hr
  exact (pss_cons (h1.run _ _ _ e1) pss_never).imp fun D σ H ⟨φ,hE,hS,q⟩=>⟨φ,hE,hS,q⟩
 | ct w s1=>
  cases hr
  exact (pss_cons (h1.run _ _ _ e1) pss_never).imp fun D σ H ⟨φ,hE,hS,q⟩=>⟨φ,hE,hS,q⟩
theorem is_set {i:Nat}{x:Str}{pos':Pos} (hN:X.N.Nodup) (hi:X.N[i]?=some x) (hx:Loc X.env.scope x) (he:IE K X e f) (hs:swapsWith e (some (.Name x pos')) pos.line X.env=pure false:=by rfl) (hf:X.fn x=true∨X.env.scope.names.lookup x=some .local:=by first | exact .inl rfl | exact .inr rfl | assumption) :
  IS K X (.Assign [.Name x pos'] e pos) (iSet (.nm i) f):=by
 refine⟨fun env st r hr=>?_⟩
 simp only [iSet,setT,Option.bind_eq_some_iff,Option.map_eq_some_iff] at hr
 obtain⟨y,hy,e',ee,rfl⟩:=hr
 cases ee
 refine (ps_set hN hi hx (he.run _ _ _ hy) hs hf).imp ?_
 rintro D σ H ⟨φ,hE,hS,q⟩
 exact⟨φ,hE,hS,fun v H1 φ1 f1 s1 w1=>q _ H1 φ1 f1 ((hE.fw hS f1).set i w1) s1⟩
theorem is_asg {tg:Expr}{g:Tg} (he:IE K X e f) (hg:PG X tg (tG K g)) (hs:swapsWithSole [tg] e pos.line X.env=pure false:=by rfl) (hw:swappedStores [tg] e X.env=pure none:=by rfl)
  (h1:notStar tg=true:=by rfl):IS K X (.Assign [tg] e pos) (iSet g f):=by
 refine⟨fun env st r hr=>?_⟩
 simp only [iSet,Option.bind_eq_some_iff,Option.map_eq_some_iff] at hr
 obtain⟨y,hy,e',ee,rfl⟩:=hr
 refine (ps_asg (he.run _ _ _ hy) hg hs hw (asg_one h1)).imp ?_
 rintro D σ H ⟨φ,hE,hS,q⟩
 exact⟨φ,hE,hS,fun v H1 φ1 f1 s1 w1=>⟨φ1,y.2,env,y.1,e',hE.fw hS f1,s1,w1,ee,fun σ' e'' _=>q σ' H1 φ1 f1 e'' s1⟩⟩
theorem Sr.putC {H:Hp}{φ:List Addr}{st:Sto}{n:Nat}{a:Addr}{o:HO}{c:C} (S:Sr K H φ st) (hn:φ[n]?=some a) (w:Fw φ φ H (upd H a o)->Rc K (upd H a o) φ n a c) :
  Fw φ φ H (upd H a o)/\Sr K (upd H a o) φ (st.set n c):=by
 have ha:a ∈ φ:=List.mem_of_getElem? hn
 have f:Fw φ φ H (upd H a o):=⟨⟨[],by simp,by simp⟩,fun b o hb h=>by rw [upd_ne (fun z=>hb (by rw [z];exact ha))];exact h,fun b o h=>by
  by_cases z:b=a
  ·subst z;exact⟨_,upd_same⟩
  ·exact⟨o,by rw [upd_ne z];exact h⟩⟩
 refine⟨f,S.nd,by rw [List.length_set];exact S.len,fun m b es e1 e2=>?_⟩
 by_cases hm:n=m
 ·subst hm
  rw [e1] at hn;cases hn
  have hl:n < st.length:=by rw [←S.len];exact (List.getElem?_eq_some_iff.mp e1).1
  rw [List.getElem?_set_self hl] at e2
  cases e2
  exact w f
 ·rw [List.getElem?_set_ne hm] at e2
  have q:=S.at_ m b es e1 e2
  have hne:b≠a:=by
   rintro rfl
   obtain⟨h1,h1'⟩:=List.getElem?_eq_some_iff.mp hn
   obtain⟨h2,h2'⟩:=List.getElem?_eq_some_iff.mp e1
   exact hm ((List.getElem_inj S.nd).mp (h1'.trans h2'.symm))
  exact q.fw S f fun o h=>by rw [upd_ne hne];exact h
theorem Sr.put {H:Hp}{φ:List Addr}{st:Sto}{n:Nat}{a:Addr}{vs:List V}{ds:List D} (S:Sr K H φ st) (hn:φ[n]?=some a) (w:Rls K H φ ds vs) :
  Fw φ φ H (upd H a (.lst vs))/\Sr K (upd H a (.lst vs)) φ (st.set n (.l ds)):=S.putC hn fun f=>⟨vs,upd_same,w.fw S f⟩
theorem setIx_some {st s':Sto}{o i v:W} (h:setIx st o i v=some s'):∃ n k x ds j,o=.h n/\i=.d (.int k)/\v=.d x/\lg st n=some ds/\ixN ds.length k=some j/\s'=st.set n (.l (ds.set j x)):=by
 unfold setIx at h
 split at h
 ·obtain⟨ds,e1,h⟩:=Option.bind_eq_some_iff.mp h
  obtain⟨j,e2,h⟩:=Option.map_eq_some_iff.mp h
  exact⟨_,_,_,ds,j,rfl,rfl,rfl,e1,e2,h.symm⟩
 ·cases h
theorem is_setIx {tpos:Pos} (ho:IE K X a fa) (hi:IE K X b fb) (hv:IE K X e f) (hb:plainI b=true:=by rfl) (hs:swapsWithSole [.Subscript a b tpos] e pos.line X.env=pure false:=by rfl) (hw:swappedStores [.Subscript a b tpos] e X.env=pure none:=by rfl) :
  IS K X (.Assign [.Subscript a b tpos] e pos) (iSetIx fa fb f):=by
 refine⟨fun env st r hr=>?_⟩
 simp only [iSetIx,Option.bind_eq_some_iff,Option.map_eq_some_iff] at hr
 obtain⟨rv,ev,ro,eo,ri,ei,s',es,rfl⟩:=hr
 refine (ps_asg (hv.run _ _ _ ev) (pg_sub (ho.run _ _ _ eo) (hi.run _ _ _ ei) set_list (asg_sub hb)) hs hw (asg_one rfl)).imp ?_
 rintro D σ H ⟨φ,hE,hS,q⟩
 refine⟨φ,hE,hS,fun v H1 φ1 f1 s1 w1=>⟨φ1,hE.fw hS f1,s1,fun o H2 φ2 f2 s2 w2=>⟨φ2,(hE.fw hS f1).fw s1 f2,s2,fun i H3 φ3 f3 s3 w3=>?_⟩⟩⟩
 have e3:=((hE.fw hS f1).fw s1 f2).fw s2 f3
 have w1':=(w1.fw s1 f2).fw s2 f3
 have w2':=w2.fw s2 f3
 obtain⟨ro1,ro2⟩:=ro
 obtain⟨rv1,rv2⟩:=rv
 obtain⟨ri1,ri2⟩:=ri
 obtain⟨n,k,x,ds,j,rfl,rfl,rfl,eds,ej,rfl⟩:=setIx_some es
 obtain⟨p,ep,rfl⟩:=w2'
 obtain⟨vs,hp,rl⟩:=s3.atl n p ds ep eds
 have w3':i=.int k:=w3
 subst w3'
 obtain⟨f4,s4⟩:=s3.put ep (Rls.set j rl w1')
 refine⟨p,vs,k,j,rfl,rfl,hp,by rw [←rl.length];exact ej,?_⟩
 exact q _ _ φ3 (((f1.trans f2).trans f3).trans f4) (e3.fw s3 f4) s4
theorem is_ret (h:IE K X e f):IS K X (.Return (some e) pos) (iRet f):=by
 refine⟨fun env st r hr=>?_⟩
 simp only [iRet,Option.map_eq_some_iff] at hr
 obtain⟨y,hy,rfl⟩:=hr
 exact (ps_ret (h.run _ _ _ hy)).imp fun D σ H ⟨φ,hE,hS,q⟩=>⟨φ,hE,hS,q⟩
theorem is_expr (h:IE K X e f) (hs:swapsWith e none pos.line X.env=pure false:=by rfl):IS K X (.Expr e pos) (iDrop f):=by
 refine⟨fun env st r hr=>?_⟩
 simp only [iDrop,Option.map_eq_some_iff] at hr
 obtain⟨y,hy,rfl⟩:=hr
 exact (ps_expr (h.run _ _ _ hy) hs).imp fun D σ H ⟨φ,hE,hS,q⟩=>⟨φ,hE,hS,fun v H1 φ1 f1 s1 w1=>q σ H1 φ1 f1 (hE.fw hS f1) s1⟩
theorem is_if {tc:Tf}{sa sb:List Stmt} (hc:IT K X c tc) (ha:ISs K X sa ga) (hb:ISs K X sb gb):IS K X (.If c sa sb pos) (iIfS tc ga gb):=by
 refine⟨fun env st r hr=>?_⟩
 simp only [iIfS,Option.bind_eq_some_iff] at hr
 obtain⟨⟨k,s1⟩,hx,hr⟩:=hr
 cases k with
 | true=>
  rw [if_pos rfl] at hr
  refine (ps_if (hc.run _ _ _ hx) (ha.run _ _ _ hr) pss_never).imp ?_
  rintro D σ H ⟨φ,hE,hS,q⟩
  refine⟨φ,hE,hS,fun H1 φ1 f1 s1=>iteT ?_⟩
  exact⟨φ1,hE.fw hS f1,s1,q.fw f1⟩
 | false=>
  rw [if_neg Bool.false_ne_true] at hr
  refine (ps_if (hc.run _ _ _ hx) pss_never (hb.run _ _ _ hr)).imp ?_
  rintro D σ H ⟨φ,hE,hS,q⟩
  refine⟨φ,hE,hS,fun H1 φ1 f1 s1=>iteF ?_⟩
  exact⟨φ1,hE.fw hS f1,s1,q.fw f1⟩
noncomputable def tAnyS (K:PySem.W.Frag) (g:Sf):TS:=fun D σ H=>∃ env st r,g env st=some r/\tS K env st r D σ H
noncomputable def tAnyE (K:PySem.W.Frag) (f:Ef):TE:=fun σ H Q=>∃ env st r,f env st=some r/\tI K env st r σ H Q
noncomputable def tAnyT (K:PySem.W.Frag) (f:Tf):TT:=fun σ H Q=>∃ env st r,f env st=some r/\tIT K env st r σ H Q
theorem ISs.any (h:ISs K X ss ga):PSs X ss (tAnyS K ga):=fun pins s σ H D I ⟨env,st,r,e,q⟩=>h.run env st r e pins s σ H D I q
theorem IE.any (h:IE K X e f):PE X e (tAnyE K f):=fun pins s σ H D I ⟨env,st,r,e,q⟩=>h.run env st r e pins s σ H D I q
theorem IT.any {tf:Tf} (h:IT K X e tf):PT X e (tAnyT K tf):=fun pins s σ H D I ⟨env,st,r,e,q⟩=>h.run env st r e pins s σ H D I q
noncomputable def Yl (K:PySem.W.Frag) (φ0:List Addr) (H0:Hp) (J:It) (ds:List D):Prop:=∀ (H:Hp) (φ:List Addr) (st:Sto) (i:Nat),Fw φ0 φ H0 H->Sr K H φ st->
 (∀ d,ds[i]?=some d->J.go i H/\∀ x H',J.yld i H x H'->Same H H'/\Rl K H' φ d x)/\(ds.length=i->J.stop i H)
noncomputable def tII (K:PySem.W.Frag) (env:Ev) (st:Sto) (r:List D×Sto):TI:=fun σ H R=>∃ φ,Er K H φ env σ/\Sr K H φ st/\∀ J H' φ',Fw φ φ' H H'->Sr K H' φ' r.2->Yl K φ' H' J r.1->R J H'
structure II (K:PySem.W.Frag) (X:Cx) (tg iter:Expr) (f:Lf):Prop where
 run:∀ env st r,f env st=some r->PI X tg iter (tII K env st r)
theorem PI.imp {tg iter:Expr}{t t':TI} (h:PI X tg iter t) (m:∀ σ H R,t' σ H R->t σ H R):PI X tg iter t':=fun pins s σ H R I q=>h pins s σ H R I (m σ H R q)
variable {tg:Expr}
end
end L2
namespace L2
open PySem PySem.Spec PyProof.Rows
section
variable {K:PySem.W.Frag}{X:Cx}{pos:Pos}{tg e a b:Expr}{f:Ef}{af:Af}
theorem ii_seq (h:IE K X e f) (hK:X.K=K:=by rfl):II K X tg e (iItems f):=by
 subst hK
 refine⟨fun env st r hr=>?_⟩
 simp only [iItems,Option.bind_eq_some_iff] at hr
 obtain⟨⟨w,s1⟩,hy,hr⟩:=hr
 match w,hr with
 | .d (.tup ds),hr=>
  cases hr
  refine (pi_tup (h.run _ _ _ hy)).imp ?_
  rintro σ H R ⟨φ,hE,hS,q⟩
  refine⟨φ,hE,hS,fun v H1 φ1 f1 s1 w1=>?_⟩
  obtain⟨a,vs,rfl,hq,hr⟩:=w1
  refine⟨a,rfl,⟨vs,(SqT.of hq)⟩,q _ H1 φ1 f1 s1 fun H2 φ2 st2 i f2 s2=>?_⟩
  have hq2:=(SqT.of hq).fw s1 f2
  have hr2:=hr.fw s1 f2
  refine⟨fun d hd=>?_,fun hi=>⟨vs,hq2,by rw [←hr2.length];exact Nat.le_of_eq hi⟩⟩
  obtain⟨v,ev,rv⟩:=hr2.get hd
  refine⟨⟨vs,v,hq2,ev⟩,fun x H' y=>?_⟩
  obtain⟨rfl,y⟩:=y
  have:=y vs hq2
  rw [ev] at this
  cases this
  exact⟨Same.refl _,rv⟩
 | .d (.lst ds),hr=>
  cases hr
  refine (pi_list (h.run _ _ _ hy)).imp ?_
  rintro σ H R ⟨φ,hE,hS,q⟩
  refine⟨φ,hE,hS,fun v H1 φ1 f1 s1 w1=>?_⟩
  obtain⟨a,vs,rfl,h0,hq,hr⟩:=w1
  refine⟨a,rfl,⟨vs,.inl hq⟩,q _ H1 φ1 f1 s1 fun H2 φ2 st2 i f2 s2=>?_⟩
  have hq2:SqL X.K H2 a vs:=.inl (hq.fw f2 h0)
  have hr2:=hr.fw s1 f2
  refine⟨fun d hd=>?_,fun hi=>⟨vs,hq2,by rw [←hr2.length];exact Nat.le_of_eq hi⟩⟩
  obtain⟨v,ev,rv⟩:=hr2.get hd
  refine⟨⟨vs,v,hq2,ev⟩,fun x H' y=>?_⟩
  obtain⟨rfl,y⟩:=y
  have:=y vs hq2
  rw [ev] at this
  cases this
  exact⟨Same.refl _,rv⟩
theorem rngD_get (lo:Int) (n i:Nat):(rngD lo n)[i]?=if i < n then some (.int (lo+i)) else none:=by
 unfold rngD
 rw [List.getElem?_map]
 by_cases h:i < n
 ·rw [List.getElem?_range h,if_pos h];rfl
 ·rw [List.getElem?_eq_none (by simpa using h),if_neg h];rfl
theorem rngD_len (lo:Int) (n:Nat):(rngD lo n).length=n:=by unfold rngD;rw [List.length_map,List.length_range]
theorem yl_rng (lo:Int) (n:Nat) {φ:List Addr}{H:Hp}:Yl K φ H (Itr lo n) (rngD lo n):=by
 intro H2 φ2 st2 i f2 s2
 refine⟨fun d hd=>?_,fun hi=>by rw [rngD_len] at hi;exact Nat.le_of_eq hi⟩
 rw [rngD_get] at hd
 by_cases h:i < n
 ·rw [if_pos h] at hd
  cases hd
  refine⟨h,fun x H' y=>?_⟩
  obtain⟨rfl,rfl⟩:=y
  exact⟨Same.refl _,rfl⟩
 ·rw [if_neg h] at hd;cases hd
theorem ii_rng1 {p:Pos} (hg:Gl X "range") (hm:X.mg "range" = none) (ha:IA K X [a] af) (hs:notStar a=true:=by rfl):II K X tg (.Call (.Name "range" p) [a] [] pos) (iRng1D af):=by
 refine⟨fun env st r hr=>?_⟩
 simp only [iRng1D,Option.bind_eq_some_iff] at hr
 obtain⟨⟨ws,s1⟩,hy,hr⟩:=hr
 match ws,hr with
 | [.d (.int j)],hr=>
  have hr':(if -(2 ^ 62)≤j/\j < 2 ^ 62 then some (rngD 0 j.toNat,s1) else none)=some r:=hr
  by_cases hj:-(2 ^ 62)≤j/\j < 2 ^ 62
  ·rw [if_pos hj] at hr'
   cases hr'
   refine (pi_range1 hg hm (ha.run _ _ _ hy) (star_one hs)).imp ?_
   rintro σ H R ⟨φ,hE,hS,q⟩
   refine⟨φ,hE,hS,fun vs H1 φ1 f1 s1 w1=>?_⟩
   obtain⟨v,r,rfl,r1,rfl⟩:=w1
   exact⟨j,by rw [show v=.int j from r1],hj.1,hj.2,q _ H1 φ1 f1 s1 (yl_rng 0 _)⟩
  ·rw [if_neg hj] at hr';cases hr'
theorem is_for {iter:Expr}{body:List Stmt}{fi:Lf}{g:Tg}{gb:Sf} (hi:II K X tg iter fi) (hg:PG X tg (tG K g)) (hb:ISs K X body gb) (hp:PassesOwn (model X.prog X.w) X.A X.env X.xe) (hc:X.calm=true:=by rfl)
  (hs:∀ x,foldedSetIterable iter X.env x=pure x:=by intro _;rfl):IS K X (.For tg iter body [] pos) (iFor fi g gb):=by
 refine⟨fun env st r hr=>?_⟩
 simp only [iFor,Option.bind_eq_some_iff] at hr
 obtain⟨⟨ds,s1⟩,hy,hr⟩:=hr
 refine (ps_for hp hc (hi.run _ _ _ hy) hg hb.any hs).imp ?_
 rintro D σ H ⟨φ,hE,hS,q⟩
 refine⟨φ,hE,hS,fun J H1 φ1 f1 S1 yl=>?_⟩
 refine⟨fun i m σ H=>m=ds.length - i/\i≤ds.length/\∃ env st φ2,Fw φ1 φ2 H1 H/\Er K H φ2 env σ/\Sr K H φ2 st/\forI g gb (ds.drop i) env st=some r,⟨ds.length,by simp,Nat.zero_le _,env,s1,φ1,Fw.refl _ _,hE.fw hS f1,S1,hr⟩,?_⟩
 rintro i m σ H2 ⟨rfl,hi,env2,st2,φ2,f2,e2,S2,h2⟩
 obtain⟨y1,y2⟩:=yl H2 φ2 st2 i f2 S2
 by_cases hlt:i < ds.length
 ·obtain⟨go,yld⟩:=y1 ds[i] (List.getElem?_eq_getElem hlt)
  rw [List.drop_eq_getElem_cons hlt] at h2
  simp only [forI,Option.bind_eq_some_iff] at h2
  obtain⟨e3,he3,r3,hr3,h3⟩:=h2
  refine .inr ⟨go,fun σ' H'=>i+1≤ds.length/\∃ env st φ2,Fw φ1 φ2 H1 H'/\Er K H' φ2 env σ'/\Sr K H' φ2 st/\forI g gb (ds.drop (i+1)) env st=some r,fun σ' H' ⟨hn,p'⟩=>⟨ds.length - (i+1),by omega,rfl,hn,p'⟩,fun x H' y=>?_⟩
  obtain⟨sm,rx⟩:=yld x H' y
  have S3:=S2.same sm
  have f3:=f2.trans (Fw.same (φ:=φ2) sm)
  refine⟨φ2,st2,env2,.d ds[i],e3,e2.fw S2 (Fw.same sm),S3,rx,he3,fun σ' e' _=>?_⟩
  refine⟨e3,st2,r3,hr3,φ2,e',S3,?_⟩
  cases r3 with
  | nx e4 s4=>exact fun σ4 H4 φ4 f4 e4' s4'=>⟨hlt,e4,s4,φ4,f3.trans f4,e4',s4',h3⟩
  | ct e4 s4=>exact fun σ4 H4 φ4 f4 e4' s4'=>⟨hlt,e4,s4,φ4,f3.trans f4,e4',s4',h3⟩
  | bk e4 s4=>
   cases h3
   exact fun σ4 H4 φ4 f4 e4' s4'=>q σ4 H4 φ4 (f1.trans (f3.trans f4)) e4' s4'
  | rt w s4=>
   cases h3
   exact fun v H4 φ4 f4 s4' w4=>q v H4 φ4 (f1.trans (f3.trans f4)) s4' w4
 ·have hi':i=ds.length:=by omega
  subst hi'
  rw [List.drop_length] at h2
  cases h2
  exact .inl ⟨y2 rfl,q σ H2 φ2 (f1.trans f2) e2 S2⟩
structure ITs (K:PySem.W.Frag) (X:Cx) (ifs:List Expr) (t:Tf):Prop where
 run:PTs X ifs (tAnyT K t)
theorem its_nil:ITs K X [] iYes:=by
 refine⟨fun pins s σ H Q I ⟨env,st,r,e,φ,hE,hS,q⟩=>?_⟩
 cases e
 exact pts_nil pins s σ H Q I (q H φ (Fw.refl φ H) hS)
theorem its_one {c:Expr}{t:Tf} (h:IT K X c t):ITs K X [c] t:=⟨pts_one h.any⟩
theorem Er.emb {H:Hp}{φ:List Addr}{env:Ev}{σ:St} (h:Er K H φ env σ) (k:Nat) (js:List Nat):Er K H φ (embE k js env) (embOf k js σ):=by
 refine⟨by unfold embE embOf;simp,fun i w e=>?_⟩
 unfold embE at e
 unfold embOf
 by_cases hi:i < k
 ·rw [List.getElem?_append_left (by simpa using hi),List.getElem?_replicate,if_pos hi] at e
  cases e
 ·rw [List.getElem?_append_right (by simpa using hi),List.length_replicate,List.getElem?_map,Option.map_eq_some_iff] at e
  obtain⟨j,ej,e⟩:=e
  have ej2:env[j]?=some (some w):=by
   rw [List.getD] at e
   cases q:env[j]? with
   | none=>rw [q] at e;cases e
   | some o=>rw [q] at e;rw [show o=some w from e]
  obtain⟨v,ev,rv⟩:=h.at_ j w ej2
  refine⟨v,?_,rv⟩
  rw [List.getElem?_append_right (by simpa using hi),List.length_replicate,List.getElem?_map,ej]
  show some ((σ[j]?).getD none)=_
  rw [ev];rfl
theorem Sub.stay {k:Nat}{js is:List Nat}{σ σ':St} (h:Stay is (embOf k js σ) σ') (hi:∀ j ∈ is,j < k):Sub (embOf k js σ) σ':=by
 refine⟨h.1.symm,fun j v e=>?_⟩
 by_cases hj:j ∈ is
 ·have:=hi j hj
  unfold embOf at e
  rw [List.getElem?_append_left (by simpa using this),List.getElem?_replicate,if_pos this] at e
  cases e
 ·rw [h.2 j hj];exact e
theorem lc_imp {k:Nat}{js:List Nat}{g:Tg}{tt:Tf}{te:Ef}{env:Ev}{st s1:Sto}{ds:List D}{r:List D×Sto} (hgi:∀ j ∈ idxs g,j < k) (hdl:ds.length≤1000000) (hr':lcI g tt te (embE k js env) ds s1=some r) :
  ∀ σ H Q,tIL K env st r σ H Q->tLc (embOf k js) (tII K env st (ds,s1)) (tG K g) (tAnyT K tt) (tAnyE K te) σ H Q:=by
 rintro σ H Q ⟨φ,hE,hS,q⟩
 refine⟨φ,hE,hS,fun J H1 φ1 f1 S1 yl=>?_⟩
 have hE1:=(hE.fw hS f1).emb k js
 refine⟨fun i m ys H2=>m=ds.length - i/\i≤ds.length/\∃ st φ2 es r2,Fw φ1 φ2 H1 H2/\Sr K H2 φ2 st/\Rls K H2 φ2 es ys/\es.length≤i/\lcI g tt te (embE k js env) (ds.drop i) st=some r2/\r=(es++r2.1,r2.2),⟨ds.length,by simp,Nat.zero_le _,s1,φ1,[],r,Fw.refl _ _,S1,rfl,Nat.le_refl _,hr',rfl⟩,?_⟩
 rintro i m ys H2 ⟨rfl,hi,st2,φ2,es,r2,f2,S2,rl2,hle,h2,rfl⟩
 obtain⟨y1,y2⟩:=yl H2 φ2 st2 i f2 S2
 by_cases hlt:i < ds.length
 ·obtain⟨go,yld⟩:=y1 ds[i] (List.getElem?_eq_getElem hlt)
  rw [List.drop_eq_getElem_cons hlt] at h2
  simp only [lcI,Option.bind_eq_some_iff] at h2
  obtain⟨e3,he3,⟨kb,s3⟩,hb3,h3⟩:=h2
  have hz:ys.length < sizeLine:=by
   rw [←rl2.length]
   have:sizeLine=16777216:=sizeLine_eq
   omega
  refine .inr ⟨go,hz,fun ys' H'=>i+1≤ds.length/\∃ st φ2 es' r2',Fw φ1 φ2 H1 H'/\Sr K H' φ2 st/\Rls K H' φ2 es' ys'/\es'.length≤i+1/\lcI g tt te (embE k js env) (ds.drop (i+1)) st=some r2'/\(es++r2.1,r2.2)=(es'++r2'.1,r2'.2),fun ys' H' ⟨hn,p'⟩=>⟨ds.length - (i+1),by omega,rfl,hn,p'⟩,fun x H' y=>?_⟩
  obtain⟨sm,rx⟩:=yld x H' y
  have S3:=S2.same sm
  have f3:=f2.trans (Fw.same (φ:=φ2) sm)
  refine⟨φ2,st2,embE k js env,.d ds[i],e3,hE1.fw S1 f3,S3,rx,he3,fun σ' e' stay=>⟨Sub.stay stay hgi,?_⟩⟩
  refine⟨e3,st2,_,hb3,φ2,e',S3,fun H4 φ4 f4 S4=>?_⟩
  cases kb with
  | false=>
   rw [if_neg Bool.false_ne_true] at h3
   exact iteF ⟨hlt,s3,φ4,es,r2,f3.trans f4,S4,(rl2.fw S2 (Fw.same sm)).fw S3 f4,by omega,h3,rfl⟩
  | true=>
   simp only [if_true,Option.bind_eq_some_iff,Option.map_eq_some_iff] at h3
   obtain⟨x5,hx5,zs,hzs,r5,hr5,rfl⟩:=h3
   refine iteT ⟨e3,s3,x5,hx5,φ4,e'.fw S3 f4,S4,fun v H5 φ5 f5 S5 w5=>?_⟩
   obtain⟨x5,s5⟩:=x5
   cases x5 with
   | h n=>cases hzs
   | d z=>
    cases hzs
    refine⟨hlt,s5,φ5,es++[z],r5,(f3.trans f4).trans f5,S5,(((rl2.fw S2 (Fw.same sm)).fw S3 f4).fw S4 f5).append ⟨v,[],rfl,w5,rfl⟩,by rw [List.length_append];simp;omega,hr5,?_⟩
    simp
 ·have hi':i=ds.length:=by omega
  subst hi'
  rw [List.drop_length] at h2
  cases h2
  refine .inl ⟨y2 rfl,fun Dn hD=>?_⟩
  have:=q Dn ys H2 φ2 (f1.trans f2) S2 hD
  exact this (by simpa using rl2)
theorem il_lc {scope:Scope}{Nc:List Str}{k:Nat}{js:List Nat}{elt iter:Expr}{ifs:List Expr}{fi:Lf}{g:Tg}{tt:Tf}{te:Ef}
  (S:LcScope X scope Nc (embOf k js)) (hc:X.calm=true) (hgi:∀ j ∈ idxs g,j < k) (hi:II K X tg iter fi)
  (hg:∀ cells s H C fp,PG (lcX X scope cells Nc s H C fp) tg (tG K g)) (ht:∀ cells s H C fp,ITs K (lcX X scope cells Nc s H C fp) ifs tt) (he:∀ cells s H C fp,IE K (lcX X scope cells Nc s H C fp) elt te)
  (hs:∀ x,foldedSetIterable iter X.env x=pure x:=by intro _;rfl):IL K X (.ListComp elt [⟨tg,iter,ifs,0⟩] scope pos) (iLc k js fi g tt te):=by
 refine⟨fun env st r hr=>?_⟩
 simp only [iLc,Option.bind_eq_some_iff] at hr
 obtain⟨⟨ds,s1⟩,hy,hr⟩:=hr
 have hr':(if ds.length≤1000000 then lcI g tt te (embE k js env) ds s1 else none)=some r:=hr
 by_cases hdn:¬ ds.length≤1000000
 ·rw [if_neg hdn] at hr';cases hr'
 have hdl:ds.length≤1000000:=by omega
 rw [if_pos hdl] at hr'
 refine (pe_lc S hc (hi.run _ _ _ hy) hg (fun cells s H C fp=>(ht cells s H C fp).run) (fun cells s H C fp=>(he cells s H C fp).any) hs).imp (lc_imp hgi hdl hr')
theorem is_lc {scope:Scope}{Nc:List Str}{k:Nat}{js:List Nat}{elt iter:Expr}{ifs:List Expr}{fi:Lf}{g:Tg}{tt:Tf}{te:Ef}{i0:Nat}{x0:Str}{py spos:Pos}
  (hN0:X.N.Nodup) (hi0:X.N[i0]?=some x0) (hx0:Loc X.env.scope x0) (S:LcScope X scope Nc (embOf k js)) (hc:X.calm=true) (hgi:∀ j ∈ idxs g,j < k) (hi:II K X tg iter fi)
  (hg:∀ cells s H C fp,PG (lcX X scope cells Nc s H C fp) tg (tG K g)) (ht:∀ cells s H C fp,ITs K (lcX X scope cells Nc s H C fp) ifs tt) (he:∀ cells s H C fp,IE K (lcX X scope cells Nc s H C fp) elt te)
  (hsw:swapsWith (.ListComp elt [⟨tg,iter,ifs,0⟩] scope pos) (some (.Name x0 py)) spos.line X.env=pure true:=by rfl)
  (hf0:X.fn x0=true∨X.env.scope.names.lookup x0=some .local:=by first | exact .inl rfl | exact .inr rfl | assumption)
  (hs:∀ x,foldedSetIterable iter X.env x=pure x:=by intro _;rfl):IS K X (.Assign [.Name x0 py] (.ListComp elt [⟨tg,iter,ifs,0⟩] scope pos) spos) (iSet (.nm i0) (iPure (iLc k js fi g tt te)))/\
   IS K X (.Assign [.Name x0 py] (.ListComp elt [⟨tg,iter,ifs,0⟩] scope pos) spos) (iSet (.nm i0) (iNew (iLc k js fi g tt te))):=by
 have key:∀ env st r0 r,iLc k js fi g tt te env st=some r->(∀ σ φ H (D:Ends),Er K H φ env σ->Sr K H φ st->EndD K φ H D r0->∀ a vs H1 φ',Fw φ φ' H H1->Sr K H1 φ' r.2->H1 a=none->Rls K H1 φ' r.1 vs->D.nx (σ.set i0 (some (.ref a))) (upd H1 a (.lst vs)))->
   PS X (.Assign [.Name x0 py] (.ListComp elt [⟨tg,iter,ifs,0⟩] scope pos) spos) (tS K env st r0):=by
  intro env st r0 r hr h
  simp only [iLc,Option.bind_eq_some_iff] at hr
  obtain⟨⟨ds,s1⟩,hy,hr⟩:=hr
  have hr':(if ds.length≤1000000 then lcI g tt te (embE k js env) ds s1 else none)=some r:=hr
  by_cases hdn:¬ ds.length≤1000000
  ·rw [if_neg hdn] at hr';cases hr'
  have hdl:ds.length≤1000000:=by omega
  rw [if_pos hdl] at hr'
  refine (ps_lc hN0 hi0 hx0 S hc (hi.run _ _ _ hy) hg (fun cells s H C fp=>(ht cells s H C fp).run) (fun cells s H C fp=>(he cells s H C fp).any) hsw hf0 hs).imp ?_
  rintro D σ H ⟨φ,hE,hS,q⟩
  exact lc_imp hgi hdl hr' σ H _ ⟨φ,hE,hS,h σ φ H D hE hS q⟩
 constructor
 ·refine⟨fun env st r hr=>?_⟩
  simp only [iSet,iPure,setT,Option.bind_eq_some_iff,Option.map_eq_some_iff] at hr
  obtain⟨y,⟨r2,hy,rfl⟩,e',ee,rfl⟩:=hr
  cases ee
  refine key _ _ _ _ hy fun σ φ H D hE hS q a vs H1 φ1 f1 s1 n1 w1=>?_
  exact q _ _ φ1 (f1.trans (Fw.new n1)) ((((hE.fw hS f1).fw s1 (Fw.new n1))).set i0 (w:=.d (.lst r2.1)) ⟨a,vs,rfl,s1.nin n1,.inl upd_same,w1.fw s1 (Fw.new n1)⟩) (s1.new n1)
 ·refine⟨fun env st r hr=>?_⟩
  simp only [iSet,iNew,setT,Option.bind_eq_some_iff,Option.map_eq_some_iff] at hr
  obtain⟨y,⟨r2,hy,rfl⟩,e',ee,rfl⟩:=hr
  cases ee
  refine key _ _ _ _ hy fun σ φ H D hE hS q a vs H1 φ1 f1 s1 n1 w1=>?_
  exact q _ _ (φ1++[a]) (f1.trans (Fw.more n1)) (((hE.fw hS f1).fw s1 (Fw.more n1)).set i0 (w:=.h r2.2.length) ⟨a,by rw [←s1.len];simp,rfl⟩) (s1.more n1 w1)
end
end L2
namespace L2
open PySem PySem.Spec PyProof.Rows
noncomputable def runK (n k:Nat) (b:Sf):Fn
 | ws,st=>if ws.length=k then (b (ws.map some++List.replicate (n - k) none) st).bind fun r=>match r with
 | .nx _ s=>some (.d .non,s)
 | .rt w s=>some (w,s)
 | _=>none
 else none
noncomputable def finT (n:Nat) (w:W) (s:Sto):Option (W×Sto):=match w with
 | .d x=>some (.d x,s.take n)
 | .h m=>if m < n then some (.h m,s.take n) else (lg s m).map fun ds=>(.d (.lst ds),s.take n)
noncomputable def runT (n k:Nat) (b:Sf):Fn
 | ws,st=>if ws.length=k then (b (ws.map some++List.replicate (n - k) none) st).bind fun r=>match r with
 | .nx _ s=>some (.d .non,s.take st.length)
 | .rt w s=>finT st.length w s
 | _=>none
 else none
section
variable {P:Program}{w:World}{K:PySem.W.Frag}{mg:Str->Option Value}{base:Heap}
theorem er_start {H:Hp}{φ:List Addr}{N:List Str}{k:Nat}:∀ {ws:List W}{vs:List V},Rws K H φ ws vs->ws.length=k->Er K H φ (ws.map some++List.replicate (N.length - k) none) (start N vs):=by
 intro ws vs r hk
 have hl:=r.length
 refine⟨by unfold start;simp;omega,fun i x e=>?_⟩
 unfold start
 by_cases hi:i < ws.length
 ·rw [List.getElem?_append_left (by simpa using hi),List.getElem?_map,Option.map_eq_some_iff] at e
  obtain⟨y,ey,e⟩:=e
  have:∃ v,vs[i]?=some v/\Rw K H φ y v:=by
   clear hk hl hi e
   induction ws generalizing vs i with
   | nil=>simp at ey
   | cons w ws ih=>
    obtain⟨v,r',rfl,r1,r2⟩:=r
    cases i with
    | zero=>simp at ey;subst ey;exact⟨v,rfl,r1⟩
    | succ i=>simpa using ih r2 i (by simpa using ey)
  obtain⟨v,ev,rv⟩:=this
  cases e
  refine⟨v,?_,rv⟩
  rw [List.getElem?_append_left (by rw [List.length_map,←hl];exact hi),List.getElem?_map,ev];rfl
 ·rw [List.getElem?_append_right (by simpa using hi)] at e
  have:=List.mem_of_getElem? e
  have:=(List.mem_replicate.mp this).2
  cases this
theorem fn_k {x qual:Str}{st:Stmt}{f:Addr}{fd:FuncData}{N ps:List Str}{k:Nat}{b:Sf} (F:Fun K x qual st f fd) (S:FnScope N ps (defScope st))
  (hb:∀ (cdv:Value) (A:Around) (outer:List Env) (s:Shared) (H:Hp) (E:XK),Room k (A.deeper (envOfC qual (defScope st) s.heap.objs.size f cdv))->ISs K (cxOf CX0 P w K mg base N qual (defScope st) f cdv A outer s H E).nox (defBody st) b) :
  FnOk P w K mg base CX0 (k+1) f fd ps (spI K (runK N.length ps.length b)):=by
 refine F.ok S (fun vs H Q E h=>?_) fun cdv A outer s H vs Q E hr h=>?_
 ·obtain⟨φ,st,ws,r,e,rw,_⟩:=h
  rw [runK] at e
  by_cases hl:ws.length=ps.length
  ·rw [←rw.length,hl]
  ·rw [if_neg hl] at e;cases e
 ·obtain⟨φ,st',ws,r,e,rw,S',q⟩:=h
  rw [runK] at e
  by_cases hl:ws.length=ps.length
  ·rw [if_pos hl] at e
   obtain⟨fl,e1,e2⟩:=Option.bind_eq_some_iff.mp e
   refine⟨_,(hb cdv A outer s H E hr).run _ _ _ e1,φ,er_start rw hl,S',?_⟩
   cases fl with
   | nx e s=>cases e2;exact fun σ' H' φ' f' e' s'=>q .non H' φ' f' s' rfl
   | rt w s=>cases e2;exact fun v H' φ' f' s' w'=>q v H' φ' f' s' w'
   | bk e s=>cases e2
   | ct e s=>cases e2
  ·rw [if_neg hl] at e;cases e
theorem Fw.less {φ φ':List Addr}{H H':Hp} (f:Fw φ φ' H H'):Fw φ φ H H':=⟨⟨[],by simp,by simp⟩,f.keep,f.there⟩
theorem fn_t {x qual:Str}{st:Stmt}{f:Addr}{fd:FuncData}{N ps:List Str}{k:Nat}{b:Sf} (F:Fun K x qual st f fd) (S:FnScope N ps (defScope st))
  (hb:∀ (cdv:Value) (A:Around) (outer:List Env) (s:Shared) (H:Hp) (E:XK),Room k (A.deeper (envOfC qual (defScope st) s.heap.objs.size f cdv))->ISs K (cxOf CX0 P w K mg base N qual (defScope st) f cdv A outer s H E).nox (defBody st) b) :
  FnOk P w K mg base CX0 (k+1) f fd ps (spI K (runT N.length ps.length b)):=by
 refine F.ok S (fun vs H Q E h=>?_) fun cdv A outer s H vs Q E hr h=>?_
 ·obtain⟨φ,st,ws,r,e,rw,_⟩:=h
  rw [runT] at e
  by_cases hl:ws.length=ps.length
  ·rw [←rw.length,hl]
  ·rw [if_neg hl] at e;cases e
 ·obtain⟨φ,st',ws,r,e,rw,S',q⟩:=h
  rw [runT] at e
  by_cases hl:ws.length=ps.length
  ·rw [if_pos hl] at e
   obtain⟨fl,e1,e2⟩:=Option.bind_eq_some_iff.mp e
   refine⟨_,(hb cdv A outer s H E hr).run _ _ _ e1,φ,er_start rw hl,S',?_⟩
   have less:∀ {H':Hp}{φ':List Addr}{s':Sto},Fw φ φ' H H'->Sr K H' φ' s'->Sr K H' φ (s'.take st'.length):=fun {H' φ' s'} f' S2=>by
    obtain⟨ψ,rfl,_⟩:=f'.ext
    rw [←S'.len]
    exact S2.less
   cases fl with
   | nx e s=>cases e2;exact fun σ' H' φ' f' e' s'=>q .non H' φ f'.less (less f' s') rfl
   | rt w s=>
    intro v H' φ' f' s' w'
    have e3:finT st'.length w s=some r:=e2
    obtain⟨ψ,eψ,_⟩:=f'.ext
    cases w with
    | d x=>
     cases e3
     subst eψ
     exact q v H' φ f'.less (less f' s') (Rl.less w')
    | h m=>
     obtain⟨a,ea,rfl⟩:=w'
     unfold finT at e3
     by_cases hm:m < st'.length
     ·have e4:some (W.h m,s.take st'.length)=some r:=by
       have:=e3
       simp only [hm,if_true] at this
       exact this
      cases e4
      subst eψ
      rw [List.getElem?_append_left (by rw [S'.len];exact hm)] at ea
      exact q _ H' φ f'.less (less f' s') ⟨a,ea,rfl⟩
     ·simp only [hm,if_false] at e3
      obtain⟨ds,eds,rfl⟩:=Option.map_eq_some_iff.mp e3
      obtain⟨vs,hv,rl⟩:=s'.atl m a ds ea eds
      have hn:a ∉ φ:=fun z=>by
       obtain⟨i,hi,ei⟩:=List.mem_iff_getElem.mp z
       have h1:φ'[i]?=some a:=by subst eψ;rw [List.getElem?_append_left hi,List.getElem?_eq_getElem hi,ei]
       obtain⟨h2,h2'⟩:=List.getElem?_eq_some_iff.mp h1
       obtain⟨h3,h3'⟩:=List.getElem?_eq_some_iff.mp ea
       have:=(List.getElem_inj s'.nd).mp (h2'.trans h3'.symm)
       rw [S'.len] at hi
       omega
      subst eψ
      exact q _ H' φ f'.less (less f' s') ⟨a,vs,rfl,hn,.inl hv,rl.less⟩
   | bk e s=>cases e2
   | ct e s=>cases e2
  ·rw [if_neg hl] at e;cases e
end
noncomputable def flatD:D->Bool
 | .non=>true
 | .bl _=>true
 | .int _=>true
 | .str _=>true
 | _=>false
noncomputable def vOf:D->V
 | .bl b=>.bl b
 | .int i=>.int i
 | .str x=>.str x
 | _=>.non
mutual
noncomputable def eqD:D->D->Bool
 | .non,.non=>true
 | .bl a,.bl b=>a==b
 | .bl a,.int b=>(if a then 1 else 0)==b
 | .int a,.bl b=>a==(if b then 1 else 0)
 | .int a,.int b=>a==b
 | .str a,.str b=>a==b
 | .tup as,.tup bs=>eqDs as bs
 | .lst as,.lst bs=>eqDs as bs
 | _,_=>false
noncomputable def eqDs:List D->List D->Bool
 | [],[]=>true
 | a::as,b::bs=>eqD a b && eqDs as bs
 | _,_=>false
end
noncomputable def okD:Nat->D->Bool
 | _,.non=>true
 | _,.bl _=>true
 | _,.int _=>true
 | _,.str _=>true
 | n+1,.tup ds=>ds.all (okD n)
 | n+1,.lst ds=>ds.all (okD n)
 | _,_=>false
noncomputable def lsD (st:Sto):W->Option (List D)
 | .d (.lst ds)=>some ds
 | .h n=>lg st n
 | _=>none
noncomputable def dAdd (st:Sto) (x y:W):Option D:=match x,y with
 | .d (.int i),.d (.int j)=>some (.int (i+j))
 | .d (.tup a),.d (.tup b)=>if a.length+b.length≤1000000 then some (.tup (a++b)) else none
 | .d (.str a),.d (.str b)=>if a.length+b.length≤1000000 then some (.str (a++b)) else none
 | x,y=>(lsD st x).bind fun a=>(lsD st y).bind fun b=>if a.length+b.length≤1000000 then some (.lst (a++b)) else none
noncomputable def dSub (_:Sto):W->W->Option D
 | .d (.int i),.d (.int j)=>some (.int (i - j))
 | _,_=>none
instance (a b:Int):Decidable (IntMulOk a b):=by unfold IntMulOk;infer_instance
noncomputable def dMul (_:Sto):W->W->Option D
 | .d (.int i),.d (.int j)=>if IntMulOk i j then some (.int (i*j)) else none
 | .d (.tup a),.d (.int k)=>if a≠[]/\a.length≤1000/\1≤k/\k < 1000 then some (.tup (List.replicate k.toNat a).flatten) else none
 | .d (.lst a),.d (.int k)=>if a.length≤1000/\-1000≤k/\k < 1000 then some (.lst (List.replicate k.toNat a).flatten) else none
 | _,_=>none
noncomputable def dFdiv (_:Sto):W->W->Option D
 | .d (.int i),.d (.int j)=>if 0 < j/\j < 1073741824 then some (.int (i / j)) else none
 | _,_=>none
noncomputable def dMod (_:Sto):W->W->Option D
 | .d (.int i),.d (.int j)=>if 0 < j then some (.int (i % j)) else none
 | _,_=>none
instance (i j:Int):Decidable (CPow i j):=by unfold CPow;infer_instance
noncomputable def dPow (_:Sto):W->W->Option D
 | .d (.int i),.d (.int j)=>if CPow i j then some (.int (i ^ j.toNat)) else none
 | _,_=>none
noncomputable def dShr (_:Sto):W->W->Option D
 | .d (.int i),.d (.int j)=>if 0≤j then some (.int (i / 2 ^ j.toNat)) else none
 | _,_=>none
noncomputable def dLt (_:Sto):W->W->Option D
 | .d (.int i),.d (.int j)=>some (.bl (decide (i < j)))
 | _,_=>none
noncomputable def dLe (_:Sto):W->W->Option D
 | .d (.int i),.d (.int j)=>some (.bl (decide (i≤j)))
 | _,_=>none
noncomputable def dGt (_:Sto):W->W->Option D
 | .d (.int i),.d (.int j)=>some (.bl (decide (j < i)))
 | _,_=>none
noncomputable def dGe (_:Sto):W->W->Option D
 | .d (.int i),.d (.int j)=>some (.bl (decide (j≤i)))
 | _,_=>none
noncomputable def inD (x:D) (ds:List D):Bool:=ds.any fun y=>eqD y x
noncomputable def dNotIn (st:Sto) (x y:W):Option D:=match x with
 | .d x=>(seqD st y).bind fun ds=>if flatD x=true/\ds.all flatD=true then some (.bl (!inD x ds)) else none
 | _=>none
section
variable {K:PySem.W.Frag}{X:Cx}
theorem rl_flat {H:Hp}{φ:List Addr}{d:D}{v:V} (h:flatD d=true) (r:Rl K H φ d v):v=vOf d/\flatV v=true:=by
 cases d with
 | non=>cases (show v=.non from r);exact⟨rfl,rfl⟩
 | bl b=>cases (show v=.bl b from r);exact⟨rfl,rfl⟩
 | int b=>cases (show v=.int b from r);exact⟨rfl,rfl⟩
 | str b=>cases (show v=.str b from r);exact⟨rfl,rfl⟩
 | _=>cases h
theorem eqV_vOf {a b:D} (ha:flatD a=true) (hb:flatD b=true):eqV (vOf a) (vOf b)=eqD a b:=by
 cases a<;>cases b<;>first | rfl | (cases ha;done) | (cases hb;done) | (simp [eqV,vOf,eqD];done)
theorem rls_flat {H:Hp}{φ:List Addr}:∀ {ds:List D}{vs:List V},ds.all flatD=true->Rls K H φ ds vs->vs=ds.map vOf/\vs.all flatV=true
 | [],_,_,h=>by cases h;exact⟨rfl,rfl⟩
 | d::ds,_,h,r=>by
  rw [List.all_cons,Bool.and_eq_true] at h
  obtain⟨v,vr,rfl,r1,r2⟩:=r
  obtain⟨e1,e2⟩:=rl_flat h.1 r1
  obtain⟨e3,e4⟩:=rls_flat h.2 r2
  exact⟨by rw [e1,e3];rfl,by rw [List.all_cons,e2,e4];rfl⟩
theorem inV_vOf {x:D} (hx:flatD x=true):∀ {ds:List D},ds.all flatD=true->inV (vOf x) (ds.map vOf)=inD x ds
 | [],_=>rfl
 | d::ds,h=>by
  rw [List.all_cons,Bool.and_eq_true] at h
  have ih:=inV_vOf hx h.2
  unfold inV inD at ih ⊢
  rw [List.map_cons,List.any_cons,List.any_cons,ih,eqV_vOf h.1 hx]
theorem od_int {f:Value->Value->Sem Value}{g:Sto->W->W->Option D} (h:∀ st x y d,g st x y=some d->∃ i j,x=.d (.int i)/\y=.d (.int j)/\OpR X f (fun vx vy H Q=>vx=.int i/\vy=.int j/\Q (vOf d) H)/\flatD d=true):OpD K X f g:=by
 refine⟨fun st x y d hd=>?_⟩
 obtain⟨i,j,rfl,rfl,ho,hf⟩:=h st x y d hd
 refine ho.imp ?_
 rintro vx vy H Q ⟨φ,S,r1,r2,q⟩
 refine⟨r1,r2,q _ H (Same.refl H) ?_⟩
 cases d<;>first | rfl | cases hf
theorem od_sub:OpD K X (binaryOp .Sub) dSub:=od_int fun st x y d h=>by
 match x,y,h with
 | .d (.int i),.d (.int j),h=>cases h;exact⟨i,j,rfl,rfl,op_sub.imp fun vx vy H Q ⟨a,b,q⟩=>⟨i,j,a,b,q⟩,rfl⟩
theorem od_lt:OpD K X (compareOp .Lt) dLt:=od_int fun st x y d h=>by
 match x,y,h with
 | .d (.int i),.d (.int j),h=>cases h;exact⟨i,j,rfl,rfl,op_lt.imp fun vx vy H Q ⟨a,b,q⟩=>⟨i,j,a,b,q⟩,rfl⟩
theorem od_le:OpD K X (compareOp .LtE) dLe:=od_int fun st x y d h=>by
 match x,y,h with
 | .d (.int i),.d (.int j),h=>cases h;exact⟨i,j,rfl,rfl,op_le.imp fun vx vy H Q ⟨a,b,q⟩=>⟨i,j,a,b,q⟩,rfl⟩
theorem od_gt:OpD K X (compareOp .Gt) dGt:=od_int fun st x y d h=>by
 match x,y,h with
 | .d (.int i),.d (.int j),h=>cases h;exact⟨i,j,rfl,rfl,op_gt.imp fun vx vy H Q ⟨a,b,q⟩=>⟨i,j,a,b,q⟩,rfl⟩
theorem od_ge:OpD K X (compareOp .GtE) dGe:=od_int fun st x y d h=>by
 match x,y,h with
 | .d (.int i),.d (.int j),h=>cases h;exact⟨i,j,rfl,rfl,op_ge.imp fun vx vy H Q ⟨a,b,q⟩=>⟨i,j,a,b,q⟩,rfl⟩
theorem od_fdiv:OpD K X (binaryOp .FloorDiv) dFdiv:=od_int fun st x y d h=>by
 match x,y,h with
 | .d (.int i),.d (.int j),h=>
  simp only [dFdiv] at h
  split at h
  ·rename_i hc
   cases h;exact⟨i,j,rfl,rfl,op_fdiv.imp fun vx vy H Q ⟨a,b,q⟩=>⟨i,j,a,b,hc,q⟩,rfl⟩
  ·cases h
theorem od_mod:OpD K X (binaryOp .Mod) dMod:=od_int fun st x y d h=>by
 match x,y,h with
 | .d (.int i),.d (.int j),h=>
  simp only [dMod] at h
  split at h
  ·rename_i hc
   cases h;exact⟨i,j,rfl,rfl,op_mod.imp fun vx vy H Q ⟨a,b,q⟩=>⟨i,j,a,b,hc,q⟩,rfl⟩
  ·cases h
theorem od_pow:OpD K X (binaryOp .Pow) dPow:=od_int fun st x y d h=>by
 match x,y,h with
 | .d (.int i),.d (.int j),h=>
  simp only [dPow] at h
  split at h
  ·rename_i hc
   cases h;exact⟨i,j,rfl,rfl,op_pow.imp fun vx vy H Q ⟨a,b,q⟩=>⟨i,j,a,b,hc,q⟩,rfl⟩
  ·cases h
theorem od_shr:OpD K X (binaryOp .RShift) dShr:=od_int fun st x y d h=>by
 match x,y,h with
 | .d (.int i),.d (.int j),h=>
  simp only [dShr] at h
  split at h
  ·rename_i hc
   cases h;exact⟨i,j,rfl,rfl,op_shr.imp fun vx vy H Q ⟨a,b,q⟩=>⟨i,j,a,b,hc,q⟩,rfl⟩
  ·cases h
theorem od_notIn (hK:X.K=K:=by rfl):OpD K X (compareOp .NotIn) dNotIn:=by
 subst hK
 refine⟨fun st x y d h=>?_⟩
 match x,h with
 | .d x,h=>
  simp only [dNotIn,Option.bind_eq_some_iff] at h
  obtain⟨ds,hs,h⟩:=h
  split at h
  ·rename_i hc
   cases h
   refine op_notIn_seq.imp ?_
   rintro vx vy H Q ⟨φ,S,r1,r2,q⟩
   obtain⟨a,vs,rfl,h1,h2⟩:=seq_rel S r2 hs
   obtain⟨e1,e2⟩:=rl_flat hc.1 r1
   obtain⟨e3,e4⟩:=rls_flat hc.2 h2
   refine⟨a,vs,rfl,h1,e2,e4,q _ H (Same.refl H) ?_⟩
   rw [e1,e3,inV_vOf hc.1 hc.2];rfl
  ·cases h
end
end L2
namespace L2
open PySem PySem.Spec PyProof.Rows
section
variable {K:PySem.W.Frag}{X:Cx}
theorem op_catR:OpR X (binaryOp .Add) (fun x y H Q=>∃ l b xs zs,x=.ref l/\y=.ref b/\Rd H l (.lst xs)/\Rd H b (.lst zs)/\xs.length+zs.length≤sizeLine/\∀ p,H p=none->Q (.ref p) (upd H p (.lst (xs++zs)))):=by
 intro pins s σ H x y v u Q I rx ry h
 obtain⟨l,b,xs,zs,rfl,rfl,hH,hB,hz,q⟩:=h
 cases rx
 cases ry
 obtain⟨z,its,n,r,e⟩:=hH.ok I.hok
 obtain⟨z2,its2,n2,r2,e2⟩:=hB.ok I.hok
 have hl:=r.length
 have hl2:=r2.length
 refine PySem.P.add_list e e2 ?_ (by rw [List.size_toArray,List.size_toArray];omega)
 have ea:its.toArray++its2.toArray=(its++its2).toArray:=by simp
 rw [ea]
 exact⟨.ref _,_,I.lnew (t':=s.toks) (r.append r2) (by rw [List.length_append];omega),rfl,q _ I.fresh⟩
theorem op_catTA:OpR X (binaryOp .Add) (fun x y H Q=>∃ a b xs ys,x=.ref a/\y=.ref b/\SqT X.K H a xs/\SqT X.K H b ys/\xs.length+ys.length≤sizeLine/\
  (xs=[]->Q (.ref b) H)/\(ys=[]->Q (.ref a) H)/\∀ p,H p=none->Q (.ref p) (upd H p (.tup (xs++ys)))):=by
 intro pins s σ H x y v u Q I rx ry h
 obtain⟨a,b,xs,ys,rfl,rfl,ha,hb,hz,q0,q1,q2⟩:=h
 by_cases hx:xs=[]
 ·cases rx
  cases ry
  obtain⟨its,r1,p1,_⟩:=I.tuple ha
  obtain⟨its2,r2,p2,_⟩:=I.tuple hb
  obtain⟨⟨cls,dd,data,sl⟩,ho,hc,n,hd⟩:=id p1
  obtain⟨⟨cls2,dd2,data2,sl2⟩,ho2,hc2,n2,hd2⟩:=id p2
  simp only at hc hd hc2 hd2
  subst hc hd hc2 hd2
  exact concat_meets ⟨_,ho,rfl⟩ ⟨_,ho2,rfl⟩ noFill_tuple_add seq_tuple_add PySem.F.slot_tuple_add PySem.F.entry_tuple_add (PySem.F.args_tuple_add_2 _ _)
   (tuple_addW0 a b its.toArray its2.toArray n n2 dd dd2 sl sl2 (by simp [r1.nil_iff.mpr hx])) ⟨ho,ho2,.ref b,H,I,rfl,q0 hx⟩
 ·exact op_catT pins s σ H _ _ v u Q I rx ry ⟨a,b,xs,ys,rfl,rfl,ha,hb,hx,hz,q1,fun _ p hp=>q2 p hp⟩
theorem ls_rel {st:Sto}{H:Hp}{φ:List Addr}{w:W}{v:V}{ds:List D} (S:Sr K H φ st) (r:Rw K H φ w v) (e:lsD st w=some ds):∃ a vs,v=.ref a/\Rd H a (.lst vs)/\Rls K H φ ds vs:=by
 cases w with
 | h n=>
  obtain⟨a,ea,rfl⟩:=r
  obtain⟨vs,q,rl⟩:=S.atl n a ds ea e
  exact⟨a,vs,rfl,.inl q,rl⟩
 | d x=>
  cases x with
  | lst es=>cases e;obtain⟨a,vs,rfl,h0,h1,h2⟩:=r;exact⟨a,vs,rfl,h1,h2⟩
  | _=>cases e
theorem mil:(1000000:Nat)≤sizeLine:=by rw [sizeLine_eq];decide
theorem od_add (hK:X.K=K:=by rfl):OpD K X (binaryOp .Add) dAdd:=by
 subst hK
 refine⟨fun st x y d h=>?_⟩
 have lists:(lsD st x).bind (fun a=>(lsD st y).bind fun b=>if a.length+b.length≤1000000 then some (.lst (a++b)) else none)=some d->OpR X (binaryOp .Add) (rD X.K st x y d):=fun h=>by
  simp only [Option.bind_eq_some_iff] at h
  obtain⟨as,ha,bs,hb,h⟩:=h
  split at h
  ·rename_i hl
   cases h
   refine op_catR.imp ?_
   rintro vx vy H Q ⟨φ,S,r1,r2,q⟩
   obtain⟨a,us,rfl,h1,h2⟩:=ls_rel S r1 ha
   obtain⟨b,vs,rfl,h3,h4⟩:=ls_rel S r2 hb
   refine⟨a,b,us,vs,rfl,rfl,h1,h3,by rw [←h2.length,←h4.length];exact Nat.le_trans hl mil,fun p hp=>q _ _ (Same.new hp _) ?_⟩
   exact⟨p,_,rfl,S.nin hp,.inl upd_same,(h2.append h4).fw S (Fw.new hp)⟩
  ·cases h
 match x,y,h with
 | .d (.int i),.d (.int j),h=>
  cases h
  refine op_add.imp ?_
  rintro vx vy H Q ⟨φ,S,r1,r2,q⟩
  exact⟨i,j,r1,r2,q _ H (Same.refl H) rfl⟩
 | .d (.tup as),.d (.tup bs),h=>
  simp only [dAdd] at h
  split at h
  ·rename_i hl
   cases h
   refine op_catTA.imp ?_
   rintro vx vy H Q ⟨φ,S,⟨a,us,rfl,h1,h2⟩,⟨b,vs,rfl,h3,h4⟩,q⟩
   refine⟨a,b,us,vs,rfl,rfl,(SqT.of h1),(SqT.of h3),by rw [←h2.length,←h4.length];exact Nat.le_trans hl mil,fun e=>?_,fun e=>?_,fun p hp=>?_⟩
   ·subst e
    have:as=[]:=by cases as with | nil=>rfl | cons _ _=>cases h2.length
    subst this
    exact q _ H (Same.refl H) ⟨b,vs,rfl,h3,h4⟩
   ·subst e
    have:bs=[]:=by cases bs with | nil=>rfl | cons _ _=>cases h4.length
    subst this
    exact q _ H (Same.refl H) ⟨a,us,rfl,h1,by rw [List.append_nil];exact h2⟩
   ·exact q _ _ (Same.new hp _) ⟨p,_,rfl,upd_same,(h2.append h4).fw S (Fw.new hp)⟩
  ·cases h
 | .d (.str as),.d (.str bs),h=>
  simp only [dAdd] at h
  split at h
  ·rename_i hl
   cases h
   refine op_add_str.imp ?_
   rintro vx vy H Q ⟨φ,S,r1,r2,q⟩
   exact⟨as,bs,r1,r2,Nat.le_trans hl mil,q _ H (Same.refl H) rfl⟩
  ·cases h
 | .d (.lst as),y,h=>exact lists (by cases y with | h n=>exact h | d y=>cases y<;>exact h)
 | .h n,y,h=>exact lists (by cases y with | h n=>exact h | d y=>cases y<;>exact h)
theorem op_repR:OpR X (binaryOp .Mult) (fun x y H Q=>∃ l k xs,x=.ref l/\y=.int k/\Rd H l (.lst xs)/\-(2 ^ 63)≤k/\k < 2 ^ 63/\xs.length*k.toNat≤sizeLine/\
 ∀ p,H p=none->Q (.ref p) (upd H p (.lst (List.replicate k.toNat xs).flatten))):=by
 intro pins s σ H x y v u Q I rx ry h
 obtain⟨l,k,xs,rfl,rfl,hH,h1,h2,hz,q⟩:=h
 cases rx
 obtain⟨t,rfl⟩:=ry
 obtain⟨z,its,n,r,e⟩:=hH.ok I.hok
 have hl:=r.length
 have hlen:its.toArray.size*k.toNat≤sizeLine:=by rw [List.size_toArray,←hl];exact hz
 have hcap:¬ its.toArray.size*k.toNat > (2 ^ 63 - 1) / 8:=by
  have:(sizeLine:Nat)≤(2 ^ 63 - 1) / 8:=by decide
  omega
 have hfit:¬ (!Builtin.List.listFitsIndex k)=true:=by
  rw [fitsIndex_both h1 h2]
  exact Bool.false_ne_true
 have hlong:¬ Builtin.List.listTooLong (its.toArray.size*k.toNat)=true:=by
  rw [notLongL hlen]
  exact Bool.false_ne_true
 have hnew:List.foldl (fun x1 x2=>x1++x2) #[] (List.replicate (if its.toArray.isEmpty=true then 0 else k.toNat) its.toArray)=(List.replicate k.toNat its).flatten.toArray:=by
  have f0:∀ m:Nat,List.foldl (fun x1 x2=>x1++x2) #[] (List.replicate m its.toArray)=(List.replicate m its).flatten.toArray:=fun m=>by
   have:=foldl_rep its m []
   rw [List.nil_append] at this
   exact this
  rw [f0]
  cases its with
  | nil=>simp
  | cons a r'=>rw [if_neg (by simp)]
 refine wpAny_binaryOp_repeat_ref (T:="list") (U:="int") (by decide) ⟨_,e,rfl⟩ (fun s'=>typeIs_int s' k t) noFill_list_mul F.fills_int_mul F.slot_int_rmul repeat_list F.slot_int_index.lookup
  (call_meets F.slot_int_rmul (typeIs_int s k t) F.entry_int_rmul (F.args_int_rmul_2 _ _) (int___rmul___int_list k t l its.toArray n)
    ⟨e,rfl,⟨_,e,rfl⟩,call_meets F.slot_list_mul ⟨_,e,rfl⟩ F.entry_list_mul (F.args_list_mul_2 _ _) (AutoListH.list___mul___list_int_3 l its.toArray n k t hfit hcap hlong) ⟨e,?_⟩⟩)
 rw [hnew]
 exact⟨.ref _,_,I.lnew (t':=s.toks) (r.rep k.toNat) (by rw [len_rep,Nat.mul_comm];exact hz),rfl,q _ I.fresh⟩
theorem od_mul (hK:X.K=K:=by rfl):OpD K X (binaryOp .Mult) dMul:=by
 subst hK
 refine⟨fun st x y d h=>?_⟩
 match x,y,h with
 | .d (.int i),.d (.int j),h=>
  simp only [dMul] at h
  split at h
  ·rename_i hl
   cases h
   refine op_mulG.imp ?_
   rintro vx vy H Q ⟨φ,S,r1,r2,q⟩
   exact⟨i,j,r1,r2,hl,q _ H (Same.refl H) rfl⟩
  ·cases h
 | .d (.tup as),.d (.int k),h=>
  simp only [dMul] at h
  split at h
  ·rename_i hl
   cases h
   refine op_repT.imp ?_
   rintro vx vy H Q ⟨φ,S,⟨a,us,rfl,h1,h2⟩,r2,q⟩
   have hne:us≠[]:=by rintro rfl;cases as with | nil=>exact hl.1 rfl | cons _ _=>cases h2.length
   refine⟨a,k,us,rfl,r2,(SqT.of h1),hne,by rw [←h2.length];exact hl.2.1,hl.2.2.1,hl.2.2.2,fun e=>?_,fun _ p hp=>?_⟩
   ·subst e
    exact q _ H (Same.refl H) ⟨a,us,rfl,h1,by simpa using h2⟩
   ·exact q _ _ (Same.new hp _) ⟨p,_,rfl,upd_same,(h2.rep _).fw S (Fw.new hp)⟩
  ·cases h
 | .d (.lst as),.d (.int k),h=>
  simp only [dMul] at h
  split at h
  ·rename_i hl
   cases h
   refine op_repR.imp ?_
   rintro vx vy H Q ⟨φ,S,⟨a,us,rfl,h0,h1,h2⟩,r2,q⟩
   refine⟨a,k,us,rfl,r2,h1,by omega,by omega,?_,fun p hp=>?_⟩
   ·rw [←h2.length]
    have:as.length*k.toNat≤1000*1000:=Nat.mul_le_mul hl.1 (by omega)
    exact Nat.le_trans this mil
   ·exact q _ _ (Same.new hp _) ⟨p,_,rfl,S.nin hp,.inl upd_same,(h2.rep _).fw S (Fw.new hp)⟩
  ·cases h
noncomputable def dIx (st:Sto) (x y:W):Option D:=match x,y with
 | .d (.str z),.d (.int i)=>if z.length≤1000000 then (atI z.cps.toList i).map fun c=>.str ⟨#[c]⟩ else none
 | x,.d (.int i)=>(seqD st x).bind fun ds=>atI ds i
 | _,_=>none
theorem at_rel {H:Hp}{φ:List Addr}{ds:List D}{vs:List V}{i:Int}{d:D} (r:Rls K H φ ds vs) (e:atI ds i=some d):∃ v,atI vs i=some v/\Rl K H φ d v:=by
 unfold atI at e ⊢
 rw [←r.length]
 obtain⟨j,e1,e2⟩:=Option.bind_eq_some_iff.mp e
 obtain⟨v,ev,rv⟩:=r.get e2
 exact⟨v,by rw [e1];exact ev,rv⟩
theorem IxR.imp {r r':R2} (h:IxR X r) (m:∀ x y H Q,r' x y H Q->r x y H Q):IxR X r':=fun value slice pins s σ H x y v u Q I rx ry q hs=>h value slice pins s σ H x y v u Q I rx ry (m _ _ _ _ q) hs
theorem xd_ix (st:Sto) (x y:W) (d:D) (h:dIx st x y=some d) (hK:X.K=K):IxR X (rD K st x y d):=by
 subst hK
 match y,h with
 | .d (.int i),h=>
  have seq:(seqD st x).bind (fun ds=>atI ds i)=some d->IxR X (rD X.K st x (.d (.int i)) d):=fun h=>by
   obtain⟨ds,e1,e2⟩:=Option.bind_eq_some_iff.mp h
   refine ix_seq.imp ?_
   rintro vx vy H Q ⟨φ,S,r1,r2,q⟩
   obtain⟨a,vs,rfl,h1,h2⟩:=seq_rel S r1 e1
   obtain⟨v,ev,rv⟩:=at_rel h2 e2
   rcases h1 with h1 | h1
   ·exact .inl ⟨a,vs,i,v,rfl,r2,h1,ev,q _ H (Same.refl H) rv⟩
   ·exact .inr (.inl ⟨a,vs,i,v,rfl,r2,h1,ev,q _ H (Same.refl H) rv⟩)
  match x,h with
  | .d (.str z),h=>
   simp only [dIx] at h
   split at h
   ·rename_i hl
    obtain⟨c,e1,rfl⟩:=Option.map_eq_some_iff.mp h
    refine ix_seq.imp ?_
    rintro vx vy H Q ⟨φ,S,r1,r2,q⟩
    exact .inr (.inr ⟨z,i,c,r1,r2,Nat.le_trans hl mil,e1,q _ H (Same.refl H) rfl⟩)
   ·cases h
  | .d (.tup z),h=>exact seq h
  | .d (.lst z),h=>exact seq h
  | .d (.scr z),h=>exact seq h
  | .h z,h=>exact seq h
 | .d .non,h=>cases x with | h n=>cases h | d x=>cases x<;>cases h
 | .d (.bl _),h=>cases x with | h n=>cases h | d x=>cases x<;>cases h
 | .d (.str _),h=>cases x with | h n=>cases h | d x=>cases x<;>cases h
 | .d (.ty _),h=>cases x with | h n=>cases h | d x=>cases x<;>cases h
 | .d (.scr _),h=>cases x with | h n=>cases h | d x=>cases x<;>cases h
 | .d .dct,h=>cases x with | h n=>cases h | d x=>cases x<;>cases h
 | .d (.tup _),h=>cases x with | h n=>cases h | d x=>cases x<;>cases h
 | .d (.lst _),h=>cases x with | h n=>cases h | d x=>cases x<;>cases h
 | .h _,h=>cases x with | h n=>cases h | d x=>cases x<;>cases h
variable {e a b:Expr}{pos p2:Pos}{f fa fb:Ef}
theorem ie_ix (ha:IE K X a fa) (hb:IE K X b fb) (hs:plainI b=true:=by rfl) (hK:X.K=K:=by rfl):IE K X (.Subscript a b pos) (iOp dIx fa fb):=by
 refine⟨fun env st r hr=>?_⟩
 simp only [iOp,Option.bind_eq_some_iff,Option.map_eq_some_iff] at hr
 obtain⟨x,hx,y,hy,d,hd,rfl⟩:=hr
 exact (pe_ix (xd_ix _ _ _ _ hd hK) (ha.run _ _ _ hx) (hb.run _ _ _ hy) (ix_plain hs)).imp fun σ H Q h=>tOp_of h
abbrev Pf:=Ev->Sto->Option (Option Int×Sto)
noncomputable def iPn:Pf
 | _,st=>some (none,st)
noncomputable def intW:W->Option Int
 | .d (.int i)=>some i
 | _=>none
theorem intW_some {w:W}{i:Int} (h:intW w=some i):w=.d (.int i):=by
 cases w with
 | h n=>cases h
 | d x=>cases x<;>first | (cases h;done) | (injection h with h;subst h;rfl)
noncomputable def iPs (f:Ef):Pf
 | env,st=>(f env st).bind fun r=>(intW r.1).map fun i=>(some i,r.2)
noncomputable def tIO (K:PySem.W.Frag) (env:Ev) (st:Sto) (r:Option Int×Sto):TO:=fun σ H Q=>∃ φ,Er K H φ env σ/\Sr K H φ st/\∀ H' φ',Fw φ φ' H H'->Sr K H' φ' r.2->Q r.1 H'
structure IO (K:PySem.W.Frag) (X:Cx) (e:Option Expr) (f:Pf):Prop where
 run:∀ env st r,f env st=some r->PO X e (tIO K env st r)
theorem PO.imp {e:Option Expr}{t t':TO} (h:PO X e t) (m:∀ σ H Q,t' σ H Q->t σ H Q):PO X e t':=fun pins s σ H Q I q=>h pins s σ H Q I (m σ H Q q)
theorem io_none:IO K X none iPn:=by
 refine⟨fun env st r hr=>?_⟩
 cases hr
 exact po_none.imp fun σ H Q ⟨φ,hE,hS,q⟩=>q H φ (Fw.refl φ H) hS
theorem io_some (h:IE K X e f):IO K X (some e) (iPs f):=by
 refine⟨fun env st r hr=>?_⟩
 simp only [iPs,Option.bind_eq_some_iff,Option.map_eq_some_iff] at hr
 obtain⟨⟨x,s1⟩,hx,i,hi,rfl⟩:=hr
 cases intW_some hi
 refine (po_some (h.run _ _ _ hx)).imp ?_
 rintro σ H Q ⟨φ,hE,hS,q⟩
 exact⟨φ,hE,hS,fun v H1 φ1 f1 s1 w1=>⟨i,w1,q H1 φ1 f1 s1⟩⟩
noncomputable def cutD (xs:List D) (lo hi:Option Int):List D:=(xs.drop (HT.sIx xs.length 0 lo)).take (HT.sIx xs.length xs.length hi - HT.sIx xs.length 0 lo)
theorem cut_rel {H:Hp}{φ:List Addr}{ds:List D}{vs:List V} (r:Rls K H φ ds vs) (lo hi:Option Int):Rls K H φ (cutD ds lo hi) (cutV vs lo hi):=by
 unfold cutD cutV
 rw [r.length]
 exact (r.drop _).take _
noncomputable def dSl (st:Sto) (x:W) (lo hi:Option Int):Option D:=match x with
 | .d (.tup ds)=>some (.tup (cutD ds lo hi))
 | .d (.lst ds)=>some (.lst (cutD ds lo hi))
 | .h n=>(lg st n).map fun ds=>.lst (cutD ds lo hi)
 | .d (.scr ns)=>some (.lst (cutD (ns.map D.int) lo hi))
 | _=>none
noncomputable def iSl (f:Ef) (lo hi:Pf):Ef
 | env,st=>(f env st).bind fun x=>(lo env x.2).bind fun l=>(hi env l.2).bind fun u=>(dSl u.2 x.1 l.1 u.1).map fun d=>(.d d,u.2)
theorem ie_sl {lo hi:Option Expr}{fl fh:Pf} (h:IE K X e f) (hl:IO K X lo fl) (hh:IO K X hi fh) (hK:X.K=K:=by rfl):IE K X (.Subscript e (.Slice lo hi none p2) pos) (iSl f fl fh):=by
 subst hK
 refine⟨fun env st r hr=>?_⟩
 simp only [iSl,Option.bind_eq_some_iff,Option.map_eq_some_iff] at hr
 obtain⟨⟨x,s1⟩,hx,l,hl',u,hu',d,hd,rfl⟩:=hr
 have list:(∀ {H:Hp}{φ:List Addr}{v:V},Sr X.K H φ u.2->Rw X.K H φ x v->∃ a vs ds,v=.ref a/\SqL X.K H a vs/\Rls X.K H φ ds vs/\d=.lst (cutD ds l.1 u.1))->PE X (.Subscript e (.Slice lo hi none p2) pos) (tI X.K env st (.d d,u.2)):=fun hq=>by
  refine (pe_slice sl_list (h.run _ _ _ hx) (hl.run _ _ _ hl') (hh.run _ _ _ hu')).imp ?_
  rintro σ H Q ⟨φ,hE,hS,q⟩
  refine⟨φ,hE,hS,fun v H1 φ1 f1 s1 w1=>⟨φ1,hE.fw hS f1,s1,fun H2 φ2 f2 s2=>⟨φ2,(hE.fw hS f1).fw s1 f2,s2,fun H3 φ3 f3 s3=>?_⟩⟩⟩
  obtain⟨a,vs,ds,rfl,h1,h2,rfl⟩:=hq s3 ((w1.fw s1 f2).fw s2 f3)
  refine⟨a,vs,rfl,h1,fun p hp=>q _ _ φ3 (((f1.trans f2).trans f3).trans (Fw.new hp)) (s3.new hp) ?_⟩
  exact⟨p,_,rfl,s3.nin hp,.inl upd_same,(cut_rel h2 _ _).fw s3 (Fw.new hp)⟩
 match x,hd with
 | .d (.tup ds),hd=>
  cases hd
  refine (pe_slice (k_slt2 (K:=X.K) rfl) (h.run _ _ _ hx) (hl.run _ _ _ hl') (hh.run _ _ _ hu')).imp ?_
  rintro σ H Q ⟨φ,hE,hS,q⟩
  refine⟨φ,hE,hS,fun v H1 φ1 f1 s1 w1=>⟨φ1,hE.fw hS f1,s1,fun H2 φ2 f2 s2=>⟨φ2,(hE.fw hS f1).fw s1 f2,s2,fun H3 φ3 f3 s3=>?_⟩⟩⟩
  obtain⟨a,vs,rfl,h1,h2⟩:=(w1.fw s1 f2).fw s2 f3
  refine⟨a,vs,rfl,(SqT.of h1),?_⟩
  by_cases hc:HT.sIx vs.length 0 l.1=0/\HT.sIx vs.length vs.length u.1=vs.length
  ·refine .inr ⟨hc,q _ _ φ3 ((f1.trans f2).trans f3) s3 ⟨a,vs,rfl,h1,?_⟩⟩
   have e:cutD ds l.1 u.1=ds:=by
    unfold cutD
    rw [h2.length,hc.1,hc.2,List.drop_zero,Nat.sub_zero,←h2.length,List.take_length]
   rw [e]
   exact h2
  ·exact .inl ⟨hc,fun p hp=>q _ _ φ3 (((f1.trans f2).trans f3).trans (Fw.new hp)) (s3.new hp) ⟨p,_,rfl,upd_same,(cut_rel h2 _ _).fw s3 (Fw.new hp)⟩⟩
 | .d (.lst ds),hd=>
  cases hd
  refine list fun {H φ v} S w=>?_
  obtain⟨a,vs,rfl,h0,h1,h2⟩:=w
  exact⟨a,vs,ds,rfl,.inl h1,h2,rfl⟩
 | .d (.scr ns),hd=>
  cases hd
  refine list fun {H φ v} S w=>?_
  obtain⟨a,rfl,h⟩:=w
  refine⟨a,_,_,rfl,?_,Rls.of_ints ns,rfl⟩
  rcases h with⟨o,h⟩ | h
  ·exact .inl (.inr ⟨o,h⟩)
  ·exact .inr h
 | .h n,hd=>
  obtain⟨ds,e1,rfl⟩:=Option.map_eq_some_iff.mp hd
  refine list fun {H φ v} S w=>?_
  obtain⟨a,ea,rfl⟩:=w
  obtain⟨vs,q,rl⟩:=S.atl n a ds ea e1
  exact⟨a,vs,ds,rfl,SqL.of q,rl,rfl⟩
end
end L2
namespace L2
open PySem PySem.Spec PyProof.Rows
section
variable {K:PySem.W.Frag}{X:Cx}{pins:List (Addr×Obj)}{σ:St}{H:Hp}{s:Shared}{φ:List Addr}{st:Sto}
theorem eqDs_range:∀ (xs ys:List D),((List.range (min xs.length ys.length)).all (fun j=>eqD (xs.getD j .non) (ys.getD j .non)) && xs.length==ys.length)=eqDs xs ys
 | [],[]=>rfl
 | [],y::ys=>by simp [eqDs]
 | x::xs,[]=>by simp [eqDs]
 | x::xs,y::ys=>by
  show ((List.range (min (xs.length+1) (ys.length+1))).all (fun j=>eqD ((x::xs).getD j .non) ((y::ys).getD j .non)) && (xs.length+1==ys.length+1))=(eqD x y && eqDs xs ys)
  rw [show min (xs.length+1) (ys.length+1)=min xs.length ys.length+1 by omega,all_range_succ,←eqDs_range xs ys]
  have e:(xs.length+1==ys.length+1)=(xs.length==ys.length):=by rw [Bool.eq_iff_iff];simp
  rw [e,Bool.and_assoc]
  rfl
theorem eqDs_same_len {xs ys:List D} (h:xs.length=ys.length):(List.range xs.length).all (fun j=>eqD (xs.getD j .non) (ys.getD j .non))=eqDs xs ys:=by
 rw [←eqDs_range xs ys,←h,Nat.min_self];simp
theorem eqDs_len:∀ {xs ys:List D},xs.length≠ys.length->eqDs xs ys=false
 | [],[],h=>absurd rfl h
 | [],_::_,_=>rfl
 | _::_,[],_=>rfl
 | x::xs,y::ys,h=>by
  show (eqD x y && eqDs xs ys)=false
  rw [eqDs_len (by intro e;apply h;rw [List.length_cons,List.length_cons,e]),Bool.and_false]
theorem rdL_inj (I:Inv X pins σ H s) {a:Addr}{vs ws:List V} (h:Rd H a (.lst vs)) (h':Rd H a (.lst ws)):vs=ws:=I.list_inj (.inl h) (.inl h')
theorem eqD_one (I:Inv X pins σ H s):∀ (n:Nat) {d e:D}{v:V},Rl X.K H φ d v->Rl X.K H φ e v->okD n d=true->okD n e=true->eqD d e=true:=by
 intro n
 induction n with
 | zero=>
  intro d e v r1 r2 o1 o2
  cases d<;>first | (cases o1;done) | skip
  all_goals (cases e<;>first | (cases o2;done) | skip)
  all_goals (first | rfl | (cases r1.symm.trans r2;done) | (cases r1.symm.trans r2;simp [eqD]))
 | succ n ih=>
  have lists:∀ {ds es:List D}{vs:List V},Rls X.K H φ ds vs->Rls X.K H φ es vs->(∀ d ∈ ds,okD n d=true)->(∀ d ∈ es,okD n d=true)->eqDs ds es=true:=by
   intro ds
   induction ds with
   | nil=>
    intro es vs r1 r2 _ _
    cases r1
    cases es with
    | nil=>rfl
    | cons e es=>obtain⟨_,_,q,_⟩:=r2;cases q
   | cons d ds ihd=>
    intro es vs r1 r2 o1 o2
    obtain⟨v,r,rfl,a1,a2⟩:=r1
    cases es with
    | nil=>cases r2
    | cons e es=>
     obtain⟨v',r',q,b1,b2⟩:=r2
     cases q
     show (eqD d e && eqDs ds es)=true
     rw [ih a1 b1 (o1 d List.mem_cons_self) (o2 e List.mem_cons_self),ihd a2 b2 (fun x hx=>o1 x (List.mem_cons_of_mem _ hx)) (fun x hx=>o2 x (List.mem_cons_of_mem _ hx))]
     rfl
  intro d e v r1 r2 o1 o2
  cases d with
  | tup ds=>
   obtain⟨a,vs,rfl,h1,h2⟩:=r1
   cases e with
   | tup es=>
    obtain⟨b,us,q,h3,h4⟩:=r2
    cases q
    rw [I.tuple_inj (SqT.of h3) (SqT.of h1)] at h4
    exact lists h2 h4 (List.all_eq_true.mp o1) (List.all_eq_true.mp o2)
   | lst es=>
    obtain⟨b,us,q,_,h3,h4⟩:=r2
    cases q
    obtain⟨_,_,p1,_⟩:=I.tuple (SqT.of h1)
    obtain⟨_,_,p2,_⟩:=I.list (.inl h3)
    exact absurd rfl (SeqAt.ne_of_list_tuple p2.isList p1)
   | _=>first | (cases o2;done) | (cases r2;done)
  | lst ds=>
   obtain⟨a,vs,rfl,h0,h1,h2⟩:=r1
   cases e with
   | lst es=>
    obtain⟨b,us,q,_,h3,h4⟩:=r2
    cases q
    rw [rdL_inj I h3 h1] at h4
    exact lists h2 h4 (List.all_eq_true.mp o1) (List.all_eq_true.mp o2)
   | tup es=>
    obtain⟨b,us,q,h3,h4⟩:=r2
    cases q
    obtain⟨_,_,p1,_⟩:=I.tuple (SqT.of h3)
    obtain⟨_,_,p2,_⟩:=I.list (.inl h1)
    exact absurd rfl (SeqAt.ne_of_list_tuple p2.isList p1)
   | _=>first | (cases o2;done) | (cases r2;done)
  | non=>cases e<;>first | rfl | (cases o2;done) | (cases r1.symm.trans r2;done) | (cases r1;obtain⟨_,_,q,_⟩:=r2;cases q)
  | bl b=>cases e<;>first | (cases o2;done) | (cases r1.symm.trans r2;simp [eqD];done) | (cases r1.symm.trans r2;done) | (cases r1;obtain⟨_,_,q,_⟩:=r2;cases q)
  | int b=>cases e<;>first | (cases o2;done) | (cases r1.symm.trans r2;simp [eqD];done) | (cases r1.symm.trans r2;done) | (cases r1;obtain⟨_,_,q,_⟩:=r2;cases q)
  | str b=>cases e<;>first | (cases o2;done) | (cases r1.symm.trans r2;simp [eqD];done) | (cases r1.symm.trans r2;done) | (cases r1;obtain⟨_,_,q,_⟩:=r2;cases q)
  | ty b=>cases o1
  | scr b=>cases o1
  | dct=>cases o1
theorem vals_getD {ds:List D}{vs:List V}{us:List Value} (r:Rls K H φ ds vs) (rv:Vals vs us):∀ (j:Nat) (h:j < us.length),∃ v,Rl K H φ (ds.getD j .non) v/\RelV v us[j]/\ds.getD j .non ∈ ds:=by
 intro j h
 obtain⟨h',q⟩:=rv.at j h
 have hd:j < ds.length:=by rw [r.length];exact h'
 have e:ds[j]?=some ds[j]:=List.getElem?_eq_getElem hd
 obtain⟨v,ev,rl⟩:=r.get e
 rw [List.getElem?_eq_getElem h'] at ev
 cases ev
 refine⟨_,?_,q,?_⟩
 ·rw [List.getD,e];exact rl
 ·rw [List.getD,e];exact List.getElem_mem hd
theorem eqAt_D (I:Inv X pins σ H s):∀ (n:Nat) {A:Around}{d e:D}{v u:V}{vv uu:Value},Rl X.K H φ d v->Rl X.K H φ e u->RelV v vv->RelV u uu->okD n d=true->okD n e=true->A.units+n < cLine->SeqAt.EqAt A s vv uu (eqD d e):=by
 have flat:∀ {A:Around}{d e:D}{v u:V}{vv uu:Value},flatD d=true->flatD e=true->Rl X.K H φ d v->Rl X.K H φ e u->RelV v vv->RelV u uu->SeqAt.EqAt A s vv uu (eqD d e):=by
  intro A d e v u vv uu f1 f2 r1 r2 q1 q2
  obtain⟨e1,g1⟩:=rl_flat f1 r1
  obtain⟨e2,g2⟩:=rl_flat f2 r2
  rw [←eqV_vOf f1 f2,←e1,←e2]
  exact eqAt_V q1 q2 g1 g2
 intro n
 induction n with
 | zero=>
  intro A d e v u vv uu r1 r2 q1 q2 o1 o2 hu
  refine flat ?_ ?_ r1 r2 q1 q2
  ·cases d<;>first | rfl | cases o1
  ·cases e<;>first | rfl | cases o2
 | succ n ih=>
  intro A d e v u vv uu r1 r2 q1 q2 o1 o2 hu
  have hu0:A.units < cLine:=by omega
  have hu1:A.in1.units+n < cLine:=by show A.units+1+n < cLine;omega
  cases d with
  | tup ds=>
   obtain⟨a,vs,rfl,h1,h2⟩:=r1
   cases q1
   obtain⟨its,rv,p1,_⟩:=I.tuple (SqT.of h1)
   cases e with
   | tup es=>
    obtain⟨b,us,rfl,h3,h4⟩:=id r2
    cases q2
    by_cases hab:a=b
    ·subst hab
     rw [eqD_one I (n+1) (d:=.tup ds) ⟨a,vs,rfl,h1,h2⟩ r2 o1 o2]
     exact SeqAt.EqAt.same _
    ·obtain⟨its2,rv2,p2,_⟩:=I.tuple (SqT.of h3)
     have z:=SeqAt.RcAt.tuples (A:=A) (e:=fun j=>eqD (ds.getD j .non) (es.getD j .non)) p1 p2 hu0 fun j g1 g2=>by
      obtain⟨v1,k1,k2,k3⟩:=vals_getD h2 rv j (by simpa using g1)
      obtain⟨v2,k4,k5,k6⟩:=vals_getD h4 rv2 j (by simpa using g2)
      exact ih k1 k4 (by simpa using k2) (by simpa using k5) (List.all_eq_true.mp o1 _ k3) (List.all_eq_true.mp o2 _ k6) hu1
     have e1:its.toArray.size=ds.length:=by simp [←rv.length,h2.length]
     have e2:its2.toArray.size=es.length:=by simp [←rv2.length,h4.length]
     rw [e1,e2,eqDs_range] at z
     exact SeqAt.EqAt.of_refs hab z
   | lst es=>
    obtain⟨b,us,rfl,_,h3,h4⟩:=id r2
    cases q2
    obtain⟨its2,rv2,p2,_⟩:=I.list (.inl h3)
    exact SeqAt.EqAt.tuple_list p1 p2.isList hu0
   | non=>cases r2;cases q2;exact SeqAt.EqAt.tuple_none p1 hu0
   | bl x=>cases r2;cases q2;exact SeqAt.EqAt.tuple_bool x p1 hu0
   | int x=>cases r2;obtain⟨t,rfl⟩:=q2;exact SeqAt.EqAt.tuple_int x t p1 hu0
   | str x=>cases r2;obtain⟨t,rfl⟩:=q2;exact SeqAt.EqAt.tuple_str x t p1 hu0
   | ty _=>cases o2
   | scr _=>cases o2
   | dct=>cases o2
  | lst ds=>
   obtain⟨a,vs,rfl,h0,h1,h2⟩:=r1
   cases q1
   obtain⟨its,rv,p1,_⟩:=I.list (.inl h1)
   cases e with
   | lst es=>
    obtain⟨b,us,rfl,_,h3,h4⟩:=id r2
    cases q2
    by_cases hab:a=b
    ·subst hab
     rw [eqD_one I (n+1) (d:=.lst ds) ⟨a,vs,rfl,h0,h1,h2⟩ r2 o1 o2]
     exact SeqAt.EqAt.same _
    ·obtain⟨its2,rv2,p2,_⟩:=I.list (.inl h3)
     have e1:its.toArray.size=ds.length:=by simp [←rv.length,h2.length]
     have e2:its2.toArray.size=es.length:=by simp [←rv2.length,h4.length]
     by_cases hl:ds.length=es.length
     ·have z:=SeqAt.RcAt.lists (A:=A) (e:=fun j=>eqD (ds.getD j .non) (es.getD j .non)) p1.isList p2.isList (by rw [e1,e2,hl]) hu0 fun j g1 g2=>by
       obtain⟨v1,k1,k2,k3⟩:=vals_getD h2 rv j (by simpa using g1)
       obtain⟨v2,k4,k5,k6⟩:=vals_getD h4 rv2 j (by simpa using g2)
       exact ih k1 k4 (by simpa using k2) (by simpa using k5) (List.all_eq_true.mp o1 _ k3) (List.all_eq_true.mp o2 _ k6) hu1
      rw [e1,eqDs_same_len hl] at z
      exact SeqAt.EqAt.of_refs hab z
     ·have z:=SeqAt.RcAt.lists_lengths (A:=A) p1.isList p2.isList (by rw [e1,e2];simpa using hl) hu0
      show SeqAt.EqAt A s _ _ (eqDs ds es)
      rw [eqDs_len hl]
      exact SeqAt.EqAt.of_refs hab z
   | tup es=>
    obtain⟨b,us,rfl,h3,h4⟩:=id r2
    cases q2
    obtain⟨its2,rv2,p2,_⟩:=I.tuple (SqT.of h3)
    exact SeqAt.EqAt.list_tuple p1.isList p2 hu0
   | non=>cases r2;cases q2;exact SeqAt.EqAt.list_none p1.isList hu0
   | bl x=>cases r2;cases q2;exact SeqAt.EqAt.list_bool x p1.isList hu0
   | int x=>cases r2;obtain⟨t,rfl⟩:=q2;exact SeqAt.EqAt.list_int x t p1.isList hu0
   | str x=>cases r2;obtain⟨t,rfl⟩:=q2;exact SeqAt.EqAt.list_str x t p1.isList hu0
   | ty _=>cases o2
   | scr _=>cases o2
   | dct=>cases o2
  | non=>
   cases r1;cases q1
   cases e with
   | tup es=>obtain⟨b,us,rfl,h3,h4⟩:=r2;cases q2;obtain⟨_,_,p2,_⟩:=I.tuple (SqT.of h3);exact SeqAt.EqAt.none_tuple p2 hu0
   | lst es=>obtain⟨b,us,rfl,_,h3,h4⟩:=r2;cases q2;obtain⟨_,_,p2,_⟩:=I.list (.inl h3);exact SeqAt.EqAt.none_list p2.isList hu0
   | _=>first | (cases o2;done) | exact flat rfl rfl (d:=.non) rfl r2 (v:=.non) rfl q2
  | bl x=>
   cases r1;cases q1
   cases e with
   | tup es=>obtain⟨b,us,rfl,h3,h4⟩:=r2;cases q2;obtain⟨_,_,p2,_⟩:=I.tuple (SqT.of h3);exact SeqAt.EqAt.bool_tuple x p2 hu0
   | lst es=>obtain⟨b,us,rfl,_,h3,h4⟩:=r2;cases q2;obtain⟨_,_,p2,_⟩:=I.list (.inl h3);exact SeqAt.EqAt.bool_list x p2.isList hu0
   | _=>first | (cases o2;done) | exact flat rfl rfl (d:=.bl x) rfl r2 (v:=.bl x) rfl q2
  | int x=>
   cases r1;obtain⟨t1,rfl⟩:=q1
   cases e with
   | tup es=>obtain⟨b,us,rfl,h3,h4⟩:=r2;cases q2;obtain⟨_,_,p2,_⟩:=I.tuple (SqT.of h3);exact SeqAt.EqAt.int_tuple x t1 p2 hu0
   | lst es=>obtain⟨b,us,rfl,_,h3,h4⟩:=r2;cases q2;obtain⟨_,_,p2,_⟩:=I.list (.inl h3);exact SeqAt.EqAt.int_list x t1 p2.isList hu0
   | _=>first | (cases o2;done) | exact flat rfl rfl (d:=.int x) rfl r2 (v:=.int x) ⟨t1,rfl⟩ q2
  | str x=>
   cases r1;obtain⟨t1,rfl⟩:=q1
   cases e with
   | tup es=>obtain⟨b,us,rfl,h3,h4⟩:=r2;cases q2;obtain⟨_,_,p2,_⟩:=I.tuple (SqT.of h3);exact SeqAt.EqAt.str_tuple x t1 p2 hu0
   | lst es=>obtain⟨b,us,rfl,_,h3,h4⟩:=r2;cases q2;obtain⟨_,_,p2,_⟩:=I.list (.inl h3);exact SeqAt.EqAt.str_list x t1 p2.isList hu0
   | _=>first | (cases o2;done) | exact flat rfl rfl (d:=.str x) rfl r2 (v:=.str x) ⟨t1,rfl⟩ q2
  | ty _=>cases o1
  | scr _=>cases o1
  | dct=>cases o1
theorem rcAt_V {A:Around}{y x:V}{u v:Value} (ry:RelV y u) (rx:RelV x v) (fy:flatV y=true) (fx:flatV x=true):SeqAt.RcAt A s u v (eqV y x):=by
 cases y with
 | non=>
  cases ry
  cases x with
  | non=>cases rx;exact SeqAt.RcAt.none_none
  | bl b=>cases rx;exact SeqAt.RcAt.none_bool b
  | int b=>obtain⟨t,rfl⟩:=rx;exact SeqAt.RcAt.none_int b t
  | str b=>obtain⟨t,rfl⟩:=rx;exact SeqAt.RcAt.none_str b t
  | _=>cases fx
 | bl a=>
  cases ry
  cases x with
  | non=>cases rx;exact SeqAt.RcAt.bool_none a
  | bl b=>cases rx;exact SeqAt.RcAt.bool_bool a b
  | int b=>obtain⟨t,rfl⟩:=rx;exact SeqAt.RcAt.bool_int a b t
  | str b=>obtain⟨t,rfl⟩:=rx;exact SeqAt.RcAt.bool_str a b t
  | _=>cases fx
 | int a=>
  obtain⟨t',rfl⟩:=ry
  cases x with
  | non=>cases rx;exact SeqAt.RcAt.int_none a t'
  | bl b=>cases rx;exact SeqAt.RcAt.int_bool a t' b
  | int b=>obtain⟨t,rfl⟩:=rx;exact SeqAt.RcAt.int_int a t' b t
  | str b=>obtain⟨t,rfl⟩:=rx;exact SeqAt.RcAt.int_str a t' b t
  | _=>cases fx
 | str a=>
  obtain⟨t',rfl⟩:=ry
  cases x with
  | non=>cases rx;exact SeqAt.RcAt.str_none a t'
  | bl b=>cases rx;exact SeqAt.RcAt.str_bool a t' b
  | int b=>obtain⟨t,rfl⟩:=rx;exact SeqAt.RcAt.str_int a t' b t
  | str b=>obtain⟨t,rfl⟩:=rx;exact SeqAt.RcAt.str_str a t' b t
  | _=>cases fx
 | _=>cases fy
theorem rcNeAt_V {A:Around}{y x:V}{u v:Value} (ry:RelV y u) (rx:RelV x v) (fy:flatV y=true) (fx:flatV x=true):SeqAt.RcNeAt A s u v (!eqV y x):=by
 cases y with
 | non=>
  cases ry
  cases x with
  | non=>cases rx;exact SeqAt.RcNeAt.none_none
  | bl b=>cases rx;exact SeqAt.RcNeAt.none_bool b
  | int b=>obtain⟨t,rfl⟩:=rx;exact SeqAt.RcNeAt.none_int b t
  | str b=>obtain⟨t,rfl⟩:=rx;exact SeqAt.RcNeAt.none_str b t
  | _=>cases fx
 | bl a=>
  cases ry
  cases x with
  | non=>cases rx;exact SeqAt.RcNeAt.bool_none a
  | bl b=>cases rx;exact SeqAt.RcNeAt.bool_bool a b
  | int b=>obtain⟨t,rfl⟩:=rx;exact SeqAt.RcNeAt.bool_int a b t
  | str b=>obtain⟨t,rfl⟩:=rx;exact SeqAt.RcNeAt.bool_str a b t
  | _=>cases fx
 | int a=>
  obtain⟨t',rfl⟩:=ry
  cases x with
  | non=>cases rx;exact SeqAt.RcNeAt.int_none a t'
  | bl b=>cases rx;exact SeqAt.RcNeAt.int_bool a t' b
  | int b=>obtain⟨t,rfl⟩:=rx;exact SeqAt.RcNeAt.int_int a t' b t
  | str b=>obtain⟨t,rfl⟩:=rx;exact SeqAt.RcNeAt.int_str a t' b t
  | _=>cases fx
 | str a=>
  obtain⟨t',rfl⟩:=ry
  cases x with
  | non=>cases rx;exact SeqAt.RcNeAt.str_none a t'
  | bl b=>cases rx;exact SeqAt.RcNeAt.str_bool a t' b
  | int b=>obtain⟨t,rfl⟩:=rx;exact SeqAt.RcNeAt.str_int a t' b t
  | str b=>obtain⟨t,rfl⟩:=rx;exact SeqAt.RcNeAt.str_str a t' b t
  | _=>cases fx
 | _=>cases fy
inductive Kin where
 | fl (d:D) | tp (ds:List D) | ls (ds:List D)
noncomputable def kinOf (st:Sto):W->Option Kin
 | .d (.tup ds)=>some (.tp ds)
 | .d (.lst ds)=>some (.ls ds)
 | .h n=>(lg st n).map .ls
 | .d .non=>some (.fl .non)
 | .d (.bl b)=>some (.fl (.bl b))
 | .d (.int i)=>some (.fl (.int i))
 | .d (.str x)=>some (.fl (.str x))
 | _=>none
noncomputable def eqK:Kin->Kin->Option Bool
 | .fl a,.fl b=>some (eqD a b)
 | .tp as,.tp bs=>if (as.isEmpty || bs.isEmpty)=true then some (as.isEmpty && bs.isEmpty) else if as.all (okD 60)=true/\bs.all (okD 60)=true then some (eqDs as bs) else none
 | .ls as,.ls bs=>if as.length=bs.length then (if as.all (okD 60)=true/\bs.all (okD 60)=true then some (eqDs as bs) else none) else some false
 | .fl _,.tp _=>some false
 | .tp _,.fl _=>some false
 | .fl _,.ls _=>some false
 | .ls _,.fl _=>some false
 | .tp _,.ls _=>some false
 | .ls _,.tp _=>some false
noncomputable def dEq (st:Sto) (x y:W):Option D:=(kinOf st x).bind fun a=>(kinOf st y).bind fun b=>(eqK a b).map fun k=>.bl k
noncomputable def dNe (st:Sto) (x y:W):Option D:=(kinOf st x).bind fun a=>(kinOf st y).bind fun b=>(eqK a b).map fun k=>.bl (!k)
noncomputable def RKin (K:PySem.W.Frag) (H:Hp) (φ:List Addr):Kin->V->Prop
 | .fl d,v=>flatD d=true/\Rl K H φ d v
 | .tp ds,v=>∃ a vs,v=.ref a/\SqT K H a vs/\Rls K H φ ds vs
 | .ls ds,v=>∃ a vs,v=.ref a/\Rd H a (.lst vs)/\Rls K H φ ds vs
theorem kin_rel {w:W}{v:V}{k:Kin} (S:Sr K H φ st) (r:Rw K H φ w v) (e:kinOf st w=some k):RKin K H φ k v:=by
 cases w with
 | h n=>
  obtain⟨a,ea,rfl⟩:=r
  obtain⟨ds,e1,rfl⟩:=Option.map_eq_some_iff.mp e
  obtain⟨vs,q,rl⟩:=S.atl n a ds ea e1
  exact⟨a,vs,rfl,.inl q,rl⟩
 | d x=>
  cases x with
  | tup es=>cases e;obtain⟨a,vs,rfl,h1,h2⟩:=r;exact⟨a,vs,rfl,SqT.of h1,h2⟩
  | lst es=>cases e;obtain⟨a,vs,rfl,h0,h1,h2⟩:=r;exact⟨a,vs,rfl,h1,h2⟩
  | non=>cases e;exact⟨rfl,r⟩
  | bl b=>cases e;exact⟨rfl,r⟩
  | int b=>cases e;exact⟨rfl,r⟩
  | str b=>cases e;exact⟨rfl,r⟩
  | _=>cases e
theorem in1_61 {A:Around}{k:Nat} (hr:Room k A):A.in1.units+60 < cLine:=by
 have:=hr.un
 show A.units+1+60 < cLine
 omega
theorem rcAt_K {k:Nat} (hr:Room k X.A) (I:Inv X pins σ H s) {a b:Kin}{v u:V}{vv uu:Value}{r:Bool} (ra:RKin X.K H φ a v) (rb:RKin X.K H φ b u) (qa:RelV v vv) (qb:RelV u uu) (e:eqK a b=some r) :
  SeqAt.RcAt X.A s vv uu r/\SeqAt.RcNeAt X.A s vv uu (!r):=by
 have hu0:=hr.units0
 have items:∀ {ds es:List D}{vs us:List V}{its its2:List Value},Rls X.K H φ ds vs->Rls X.K H φ es us->Vals vs its->Vals us its2->ds.all (okD 60)=true->es.all (okD 60)=true->
   ∀ j (g1:j < its.toArray.size) (g2:j < its2.toArray.size),SeqAt.EqAt X.A.in1 s its.toArray[j] its2.toArray[j] (eqD (ds.getD j .non) (es.getD j .non)):=by
  intro ds es vs us its its2 h2 h4 rv rv2 o1 o2 j g1 g2
  obtain⟨v1,k1,k2,k3⟩:=vals_getD h2 rv j (by simpa using g1)
  obtain⟨v2,k4,k5,k6⟩:=vals_getD h4 rv2 j (by simpa using g2)
  exact eqAt_D I 60 k1 k4 (by simpa using k2) (by simpa using k5) (List.all_eq_true.mp o1 _ k3) (List.all_eq_true.mp o2 _ k6) (in1_61 hr)
 match a,b,e with
 | .fl d,.fl d',e=>
  cases e
  obtain⟨f1,r1⟩:=ra
  obtain⟨f2,r2⟩:=rb
  obtain⟨e1,g1⟩:=rl_flat f1 r1
  obtain⟨e2,g2⟩:=rl_flat f2 r2
  rw [←eqV_vOf f1 f2,←e1,←e2]
  exact⟨rcAt_V qa qb g1 g2,rcNeAt_V qa qb g1 g2⟩
 | .tp ds,.tp es,e=>
  simp only [eqK] at e
  obtain⟨a,vs,rfl,h1,h2⟩:=ra
  obtain⟨b,us,rfl,h3,h4⟩:=rb
  cases qa;cases qb
  obtain⟨its,rv,p1,_⟩:=I.tuple h1
  obtain⟨its2,rv2,p2,_⟩:=I.tuple h3
  have e1:its.toArray.size=ds.length:=by simp [←rv.length,h2.length]
  have e2:its2.toArray.size=es.length:=by simp [←rv2.length,h4.length]
  split at e
  ·rename_i hc
   cases e
   have hv:∀ j (g1:j < its.toArray.size) (g2:j < its2.toArray.size),SeqAt.EqAt X.A.in1 s its.toArray[j] its2.toArray[j] (eqD (ds.getD j .non) (es.getD j .non)):=fun j g1 g2=>by
    rw [e1] at g1
    rw [e2] at g2
    rw [Bool.or_eq_true] at hc
    rcases hc with hc | hc
    ·rw [List.isEmpty_iff.mp hc] at g1;exact absurd g1 (Nat.not_lt_zero _)
    ·rw [List.isEmpty_iff.mp hc] at g2;exact absurd g2 (Nat.not_lt_zero _)
   have z:=SeqAt.RcAt.tuples (A:=X.A) p1 p2 hu0 hv
   have z':=SeqAt.RcNeAt.tuples (A:=X.A) p1 p2 hu0 hv
   rw [e1,e2,eqDs_range] at z z'
   have e3:eqDs ds es=(ds.isEmpty && es.isEmpty):=by
    cases ds with
    | nil=>cases es<;>rfl
    | cons _ _=>cases es with
     | nil=>rfl
     | cons _ _=>cases hc
   rw [e3] at z z'
   exact⟨z,z'⟩
  ·split at e
   ·rename_i hc
    cases e
    have z:=SeqAt.RcAt.tuples (A:=X.A) p1 p2 hu0 (items h2 h4 rv rv2 hc.1 hc.2)
    have z':=SeqAt.RcNeAt.tuples (A:=X.A) p1 p2 hu0 (items h2 h4 rv rv2 hc.1 hc.2)
    rw [e1,e2,eqDs_range] at z z'
    exact⟨z,z'⟩
   ·cases e
 | .ls ds,.ls es,e=>
  simp only [eqK] at e
  obtain⟨a,vs,rfl,h1,h2⟩:=ra
  obtain⟨b,us,rfl,h3,h4⟩:=rb
  cases qa;cases qb
  obtain⟨its,rv,p1,_⟩:=I.list (.inl h1)
  obtain⟨its2,rv2,p2,_⟩:=I.list (.inl h3)
  have e1:its.toArray.size=ds.length:=by simp [←rv.length,h2.length]
  have e2:its2.toArray.size=es.length:=by simp [←rv2.length,h4.length]
  split at e
  ·rename_i hl
   split at e
   ·rename_i hc
    cases e
    have z:=SeqAt.RcAt.lists (A:=X.A) p1.isList p2.isList (by rw [e1,e2,hl]) hu0 (items h2 h4 rv rv2 hc.1 hc.2)
    have z':=SeqAt.RcNeAt.lists (A:=X.A) p1.isList p2.isList (by rw [e1,e2,hl]) hu0 (items h2 h4 rv rv2 hc.1 hc.2)
    rw [e1,eqDs_same_len hl] at z z'
    exact⟨z,z'⟩
   ·cases e
  ·rename_i hl
   cases e
   have z:=SeqAt.RcAt.lists_lengths (A:=X.A) p1.isList p2.isList (by rw [e1,e2];simpa using hl) hu0
   have z':=SeqAt.RcNeAt.lists_lengths (A:=X.A) p1.isList p2.isList (by rw [e1,e2];simpa using hl) hu0
   exact⟨z,z'⟩
 | .fl d,.tp es,e=>
  cases e
  obtain⟨f1,r1⟩:=ra
  obtain⟨b,us,rfl,h3,h4⟩:=rb
  cases qb
  obtain⟨its2,rv2,p2,_⟩:=I.tuple h3
  cases d with
  | non=>cases r1;cases qa;exact⟨SeqAt.RcAt.none_tuple p2 hu0,SeqAt.RcNeAt.none_tuple p2 hu0⟩
  | bl x=>cases r1;cases qa;exact⟨SeqAt.RcAt.bool_tuple x p2 hu0,SeqAt.RcNeAt.bool_tuple x p2 hu0⟩
  | int x=>cases r1;obtain⟨t,rfl⟩:=qa;exact⟨SeqAt.RcAt.int_tuple x t p2 hu0,SeqAt.RcNeAt.int_tuple x t p2 hu0⟩
  | str x=>cases r1;obtain⟨t,rfl⟩:=qa;exact⟨SeqAt.RcAt.str_tuple x t p2 hu0,SeqAt.RcNeAt.str_tuple x t p2 hu0⟩
  | _=>cases f1
 | .tp es,.fl d,e=>
  cases e
  obtain⟨f1,r1⟩:=rb
  obtain⟨b,us,rfl,h3,h4⟩:=ra
  cases qa
  obtain⟨its2,rv2,p2,_⟩:=I.tuple h3
  cases d with
  | non=>cases r1;cases qb;exact⟨SeqAt.RcAt.tuple_none p2 hu0,SeqAt.RcNeAt.tuple_none p2 hu0⟩
  | bl x=>cases r1;cases qb;exact⟨SeqAt.RcAt.tuple_bool x p2 hu0,SeqAt.RcNeAt.tuple_bool x p2 hu0⟩
  | int x=>cases r1;obtain⟨t,rfl⟩:=qb;exact⟨SeqAt.RcAt.tuple_int x t p2 hu0,SeqAt.RcNeAt.tuple_int x t p2 hu0⟩
  | str x=>cases r1;obtain⟨t,rfl⟩:=qb;exact⟨SeqAt.RcAt.tuple_str x t p2 hu0,SeqAt.RcNeAt.tuple_str x t p2 hu0⟩
  | _=>cases f1
 | .fl d,.ls es,e=>
  cases e
  obtain⟨f1,r1⟩:=ra
  obtain⟨b,us,rfl,h3,h4⟩:=rb
  cases qb
  obtain⟨its2,rv2,p2,_⟩:=I.list (.inl h3)
  replace p2:=p2.isList
  cases d with
  | non=>cases r1;cases qa;exact⟨SeqAt.RcAt.none_list p2 hu0,SeqAt.RcNeAt.none_list p2 hu0⟩
  | bl x=>cases r1;cases qa;exact⟨SeqAt.RcAt.bool_list x p2 hu0,SeqAt.RcNeAt.bool_list x p2 hu0⟩
  | int x=>cases r1;obtain⟨t,rfl⟩:=qa;exact⟨SeqAt.RcAt.int_list x t p2 hu0,SeqAt.RcNeAt.int_list x t p2 hu0⟩
  | str x=>cases r1;obtain⟨t,rfl⟩:=qa;exact⟨SeqAt.RcAt.str_list x t p2 hu0,SeqAt.RcNeAt.str_list x t p2 hu0⟩
  | _=>cases f1
 | .ls es,.fl d,e=>
  cases e
  obtain⟨f1,r1⟩:=rb
  obtain⟨b,us,rfl,h3,h4⟩:=ra
  cases qa
  obtain⟨its2,rv2,p2,_⟩:=I.list (.inl h3)
  replace p2:=p2.isList
  cases d with
  | non=>cases r1;cases qb;exact⟨SeqAt.RcAt.list_none p2 hu0,SeqAt.RcNeAt.list_none p2 hu0⟩
  | bl x=>cases r1;cases qb;exact⟨SeqAt.RcAt.list_bool x p2 hu0,SeqAt.RcNeAt.list_bool x p2 hu0⟩
  | int x=>cases r1;obtain⟨t,rfl⟩:=qb;exact⟨SeqAt.RcAt.list_int x t p2 hu0,SeqAt.RcNeAt.list_int x t p2 hu0⟩
  | str x=>cases r1;obtain⟨t,rfl⟩:=qb;exact⟨SeqAt.RcAt.list_str x t p2 hu0,SeqAt.RcNeAt.list_str x t p2 hu0⟩
  | _=>cases f1
 | .tp ds,.ls es,e=>
  cases e
  obtain⟨a,vs,rfl,h1,h2⟩:=ra
  obtain⟨b,us,rfl,h3,h4⟩:=rb
  cases qa;cases qb
  obtain⟨its,rv,p1,_⟩:=I.tuple h1
  obtain⟨its2,rv2,p2,_⟩:=I.list (.inl h3)
  exact⟨SeqAt.RcAt.tuple_list p1 p2.isList hu0,SeqAt.RcNeAt.tuple_list p1 p2.isList hu0⟩
 | .ls ds,.tp es,e=>
  cases e
  obtain⟨a,vs,rfl,h1,h2⟩:=ra
  obtain⟨b,us,rfl,h3,h4⟩:=rb
  cases qa;cases qb
  obtain⟨its,rv,p1,_⟩:=I.list (.inl h1)
  obtain⟨its2,rv2,p2,_⟩:=I.tuple h3
  exact⟨SeqAt.RcAt.list_tuple p1.isList p2 hu0,SeqAt.RcNeAt.list_tuple p1.isList p2 hu0⟩
theorem od_eq {k:Nat} (hr:Room k X.A) (hK:X.K=K:=by rfl):OpD K X (compareOp .Eq) dEq:=by
 subst hK
 refine⟨fun st x y d h=>?_⟩
 simp only [dEq,Option.bind_eq_some_iff,Option.map_eq_some_iff] at h
 obtain⟨a,ha,b,hb,r,e,rfl⟩:=h
 intro pins s σ H vx vy v u Q I rx ry q
 obtain⟨φ,S,r1,r2,q⟩:=q
 exact (rcAt_K hr I (kin_rel S r1 ha) (kin_rel S r2 hb) rx ry e).1 _ _ _ _ ⟨.bl r,H,I,rfl,q _ H (Same.refl H) rfl⟩
theorem od_ne {k:Nat} (hr:Room k X.A) (hK:X.K=K:=by rfl):OpD K X (compareOp .NotEq) dNe:=by
 subst hK
 refine⟨fun st x y d h=>?_⟩
 simp only [dNe,Option.bind_eq_some_iff,Option.map_eq_some_iff] at h
 obtain⟨a,ha,b,hb,r,e,rfl⟩:=h
 intro pins s σ H vx vy v u Q I rx ry q
 obtain⟨φ,S,r1,r2,q⟩:=q
 exact (rcAt_K hr I (kin_rel S r1 ha) (kin_rel S r2 hb) rx ry e).2 _ _ _ _ ⟨.bl (!r),H,I,rfl,q _ H (Same.refl H) rfl⟩
end
end L2
namespace L2
open PySem PySem.Spec PyProof.Rows
section
variable {K:PySem.W.Frag}{X:Cx}
noncomputable def intsOf:List D->Option (List Int)
 | []=>some []
 | .int i::ds=>(intsOf ds).map fun r=>i::r
 | _=>none
theorem intsOf_some:∀ {ds:List D}{ns:List Int},intsOf ds=some ns->ds=ns.map D.int
 | [],_,h=>by cases h;rfl
 | .int i::ds,_,h=>by
  obtain⟨r,e,rfl⟩:=Option.map_eq_some_iff.mp h
  rw [intsOf_some e];rfl
 | .non::_,_,h=>by cases h
 | .bl _::_,_,h=>by cases h
 | .str _::_,_,h=>by cases h
 | .ty _::_,_,h=>by cases h
 | .dct::_,_,h=>by cases h
 | .scr _::_,_,h=>by cases h
 | .tup _::_,_,h=>by cases h
 | .lst _::_,_,h=>by cases h
theorem intsOf_map:∀ (ns:List Int),intsOf (ns.map D.int)=some ns
 | []=>rfl
 | n::ns=>by rw [List.map_cons,intsOf,intsOf_map ns];rfl
noncomputable def bolsOf:List D->Option (List Bool)
 | []=>some []
 | .bl i::ds=>(bolsOf ds).map fun r=>i::r
 | _=>none
theorem bolsOf_some:∀ {ds:List D}{ns:List Bool},bolsOf ds=some ns->ds=ns.map D.bl
 | [],_,h=>by cases h;rfl
 | .bl i::ds,_,h=>by
  obtain⟨r,e,rfl⟩:=Option.map_eq_some_iff.mp h
  rw [bolsOf_some e];rfl
 | .non::_,_,h=>by cases h
 | .int _::_,_,h=>by cases h
 | .str _::_,_,h=>by cases h
 | .ty _::_,_,h=>by cases h
 | .dct::_,_,h=>by cases h
 | .scr _::_,_,h=>by cases h
 | .tup _::_,_,h=>by cases h
 | .lst _::_,_,h=>by cases h
theorem bolsOf_map:∀ (ns:List Bool),bolsOf (ns.map D.bl)=some ns
 | []=>rfl
 | n::ns=>by rw [List.map_cons,bolsOf,bolsOf_map ns];rfl
noncomputable def dLen (st:Sto):List W->Option D
 | [.d (.str x)]=>if x.length≤1000000 then some (.int x.length) else none
 | [w]=>(seqD st w).map fun ds=>.int ds.length
 | _=>none
noncomputable def dMin (_:Sto):List W->Option D
 | [.d (.int i),.d (.int j)]=>some (.int (if j < i then j else i))
 | _=>none
noncomputable def dInt (_:Sto):List W->Option D
 | [.d (.int i)]=>some (.int i)
 | [.d (.bl k)]=>some (.int (if k then 1 else 0))
 | _=>none
noncomputable def dSum (_:Sto):List W->Option D
 | [.d (.lst ds)]=>(intsOf ds).map fun ns=>.int ns.sum
 | _=>none
noncomputable def dAll (_:Sto):List W->Option D
 | [.d (.lst ds)]=>(bolsOf ds).map fun ns=>.bl (ns.all id)
 | _=>none
noncomputable def dTup (st:Sto):List W->Option D
 | [w]=>(seqD st w).map fun ds=>.tup ds
 | _=>none
noncomputable def tyName (st:Sto):W->Option String
 | .d .non=>some "NoneType"
 | .d (.bl _)=>some "bool"
 | .d (.int _)=>some "int"
 | .d (.str _)=>some "str"
 | .d (.tup _)=>some "tuple"
 | .d (.lst _)=>some "list"
 | .d .dct=>some "dict"
 | .h n=>(lg st n).map fun _=>"list"
 | _=>none
noncomputable def isiT (t c:String):Option Bool:=
 if c = "int" then some (t=="int" || t=="bool")
 else if c = "bool"∨c = "str"∨c = "tuple"∨c = "list" then some (t==c)
 else none
noncomputable def dIsi (st:Sto):List W->Option D
 | [w,.d (.ty c)]=>(tyName st w).bind fun t=>(isiT t c).map fun b=>.bl b
 | _=>none
theorem cd_len (hK:X.K=K:=by rfl):CallD K X (.builtin "len") dLen:=by
 subst hK
 refine⟨fun st ws d h=>?_⟩
 have seq:∀ w,(seqD st w).map (fun ds=>D.int ds.length)=some d->CallR X (.builtin "len") (rCD X.K st [w] d):=fun w h=>by
  obtain⟨ds,e,rfl⟩:=Option.map_eq_some_iff.mp h
  refine call_len_seq.imp ?_
  rintro vs H Q ⟨φ,S,⟨v,r,rfl,r1,rfl⟩,q⟩
  obtain⟨a,us,rfl,h1,h2⟩:=seq_rel S r1 e
  exact⟨a,us,rfl,h1,q _ H (Same.refl H) (by rw [←h2.length];rfl)⟩
 cases ws with
 | nil=>cases h
 | cons w tl=>
  cases tl with
  | cons _ _=>
   cases w with
   | h n=>cases h
   | d x=>cases x<;>cases h
  | nil=>
   cases w with
   | h n=>exact seq _ h
   | d x=>
    cases x with
    | str x=>
     simp only [dLen] at h
     split at h
     ·rename_i hl
      cases h
      refine call_len_str.imp ?_
      rintro vs H Q ⟨φ,S,⟨v,r,rfl,r1,rfl⟩,q⟩
      exact⟨x,by rw [show v=.str x from r1],Nat.le_trans hl mil,q _ H (Same.refl H) rfl⟩
     ·cases h
    | tup ds=>exact seq _ h
    | lst ds=>exact seq _ h
    | scr ds=>exact seq _ h
    | _=>cases h
theorem cd_min (hc:X.calm=true:=by rfl):CallD K X (.builtin "min") dMin:=by
 refine⟨fun st ws d h=>?_⟩
 match ws,h with
 | [.d (.int i),.d (.int j)],h=>
  cases h
  refine (call_min2 hc).imp ?_
  rintro vs H Q ⟨φ,S,⟨v,r,rfl,r1,u,r',rfl,r2,rfl⟩,q⟩
  exact⟨i,j,by rw [show v=.int i from r1,show u=.int j from r2],q _ H (Same.refl H) rfl⟩
theorem cd_int:CallD K X (.type "int") dInt:=by
 refine⟨fun st ws d h=>?_⟩
 match ws,h with
 | [.d (.int i)],h=>
  cases h
  refine call_int1.imp ?_
  rintro vs H Q ⟨φ,S,⟨v,r,rfl,r1,rfl⟩,q⟩
  exact .inl ⟨i,by rw [show v=.int i from r1],q _ H (Same.refl H) rfl⟩
 | [.d (.bl i)],h=>
  cases h
  refine call_int1.imp ?_
  rintro vs H Q ⟨φ,S,⟨v,r,rfl,r1,rfl⟩,q⟩
  exact .inr ⟨i,by rw [show v=.bl i from r1],q _ H (Same.refl H) rfl⟩
theorem cd_sum (hc:X.calm=true:=by rfl) (hK:X.K=K:=by rfl):CallD K X (.builtin "sum") dSum:=by
 subst hK
 refine⟨fun st ws d h=>?_⟩
 match ws,h with
 | [.d (.lst ds)],h=>
  obtain⟨ns,e,rfl⟩:=Option.map_eq_some_iff.mp h
  cases intsOf_some e
  refine (k_sum (K:=X.K) hc rfl).imp ?_
  rintro vs H Q ⟨φ,S,⟨v,r,rfl,⟨a,us,rfl,h0,h1,h2⟩,rfl⟩,q⟩
  cases h2.ints
  exact⟨a,ns,rfl,.inl h1,q _ H (Same.refl H) rfl⟩
theorem cd_all (hc:X.calm=true:=by rfl) (hK:X.K=K:=by rfl):CallD K X (.builtin "all") dAll:=by
 subst hK
 refine⟨fun st ws d h=>?_⟩
 match ws,h with
 | [.d (.lst ds)],h=>
  obtain⟨ns,e,rfl⟩:=Option.map_eq_some_iff.mp h
  cases bolsOf_some e
  refine (k_all (K:=X.K) hc rfl).imp ?_
  rintro vs H Q ⟨φ,S,⟨v,r,rfl,⟨a,us,rfl,h0,h1,h2⟩,rfl⟩,q⟩
  cases h2.bools
  exact⟨a,ns,rfl,.inl h1,q _ H (Same.refl H) rfl⟩
theorem cd_tup (hK:X.K=K:=by rfl):CallD K X (.type "tuple") dTup:=by
 subst hK
 refine⟨fun st ws d h=>?_⟩
 match ws,h with
 | [w],h=>
  obtain⟨ds,e,rfl⟩:=Option.map_eq_some_iff.mp h
  refine call_tuple_of.imp ?_
  rintro vs H Q ⟨φ,S,⟨v,r,rfl,r1,rfl⟩,q⟩
  obtain⟨a,us,rfl,h1,h2⟩:=seq_relT S r1 e
  refine⟨a,us,rfl,?_⟩
  rcases h1 with h1 | h1
  ·exact .inl ⟨h1,fun l hl=>q _ _ (Same.new hl _) ⟨l,us,rfl,upd_same,h2.fw S (Fw.new hl)⟩⟩
  ·exact .inr ⟨SqT.of h1,q _ H (Same.refl H) ⟨a,us,rfl,h1,h2⟩⟩
theorem kit_of {t c:String}{b:Bool} (ht:t = "NoneType"∨t = "bool"∨t = "int"∨t = "str"∨t = "tuple"∨t = "list"∨t = "dict") (h:isiT t c=some b):PySem.W.kitOne K (.type t) (.type c)=some b:=by
 unfold isiT at h
 split at h
 ·rename_i hc
  subst hc
  rcases ht with rfl | rfl | rfl | rfl | rfl | rfl | rfl<;>(cases h;rfl)
 ·split at h
  ·rename_i _ hc
   rcases hc with rfl | rfl | rfl | rfl<;>rcases ht with rfl | rfl | rfl | rfl | rfl | rfl | rfl<;>(cases h;rfl)
  ·cases h
theorem cd_isi (hK:X.K=K:=by rfl):CallD K X (.builtin "isinstance") dIsi:=by
 subst hK
 refine⟨fun st ws d h=>?_⟩
 match ws,h with
 | [w,.d (.ty c)],h=>
  simp only [dIsi,Option.bind_eq_some_iff,Option.map_eq_some_iff] at h
  obtain⟨t,ht,b,hb,rfl⟩:=h
  intro pins s σ H xs us Q I rv q
  obtain⟨φ,S,⟨v,r,rfl,r1,u,r',rfl,r2,rfl⟩,q⟩:=q
  cases (show u=.ty c from r2)
  obtain⟨vv,uu,rfl,rv1,rv2⟩:=rv.two
  cases rv2
  have fin:∀ tk,EP X pins σ Q (.bool b) { s with toks:=tk }:=fun tk=>⟨.bl b,H,I.tok tk,rfl,q _ H (Same.refl H) rfl⟩
  cases w with
  | h n=>
   obtain⟨a,ea,rfl⟩:=r1
   obtain⟨ds,eds,rfl⟩:=Option.map_eq_some_iff.mp ht
   obtain⟨vs,hv,_⟩:=S.atl n a ds ea eds
   exact isinst_ok I rv1 (.lst hv) (kit_of (by simp) hb) fin
  | d x=>
   cases x with
   | non=>cases ht;cases r1;exact isinst_ok I rv1 .non (kit_of (by simp) hb) fin
   | bl x=>cases ht;cases r1;exact isinst_ok I rv1 (.bl x) (kit_of (by simp) hb) fin
   | int x=>cases ht;cases r1;exact isinst_ok I rv1 (.int x) (kit_of (by simp) hb) fin
   | str x=>cases ht;cases r1;exact isinst_ok I rv1 (.str x) (kit_of (by simp) hb) fin
   | lst ds=>
    cases ht
    obtain⟨a,vs,rfl,h0,h1,h2⟩:=r1
    rcases h1 with h1 | ⟨o,h1⟩
    ·exact isinst_ok I rv1 (.lst h1) (kit_of (by simp) hb) fin
    ·exact isinst_ok I rv1 (.frz h1) (kit_of (by simp) hb) fin
   | tup ds=>
    cases ht
    obtain⟨a,vs,rfl,h1,h2⟩:=r1
    cases rv1
    obtain⟨its,_,p,_⟩:=I.tuple (SqT.of h1)
    obtain⟨o,e1,e2,_⟩:=p
    exact PySem.W.kia_one PySem.W.kitx_tuple I.kIn ⟨o,e1,e2⟩ (kit_of (by simp) hb) (fun z=>nomatch z) fin
   | dct=>
    cases ht
    obtain⟨a,rfl,_,h1⟩:=r1
    rcases h1 with⟨d,h1⟩ | ⟨d,h1⟩
    ·exact isinst_ok I rv1 (.dK h1) (kit_of (by simp) hb) fin
    ·exact isinst_ok I rv1 (.dT h1) (kit_of (by simp) hb) fin
   | ty x=>cases ht
   | scr x=>cases ht
variable {e a b:Expr}{es:List Expr}{pos:Pos}{f fa fb:Ef}{af:Af}
theorem ie_ty {x:Str}{c:String} (hg:Gl X x) (hm:X.mg x=none) (hv:bootBuiltins x=some (.type c)) (hn:x≠"__name__":=by decide) (hd:(x==("__debug__" : Str))=false:=by decide):IE K X (.Name x pos) (iC (.ty c)):=
 ie_c (v:=.ty c) (pe_bltn hg hm hv rfl hn hd) fun _ _=>rfl
noncomputable def iMeth (g:List D->List W->Option (D×List D)) (o:Ef) (a:Af):Ef
 | env,st=>(o env st).bind fun x=>(a env x.2).bind fun r=>match x.1 with
 | .h n=>(lg x.2 n).bind fun _=>(lg r.2 n).bind fun ds=>(g ds r.1).map fun y=>(.d y.1,r.2.set n (.l y.2))
 | _=>none
theorem im_gen {name:Str}{id:String}{apos:Pos}{rr:V->List V->Hp->VK->Prop}{g:List D->List W->Option (D×List D)} (slot:Slot "list" name id) (hty:typeOf (.builtin id)=pure (.type "method_descriptor")) (hm:MtR X id rr)
  (hg:∀ (H:Hp) (φ:List Addr) (st:Sto) (n:Nat) (ad:Addr) (ds:List D) (vs:List V) (ws:List W) (us:List V) (y:D×List D) (Q:VK),Sr K H φ st->φ[n]?=some ad->lg st n=some ds->H ad=some (.lst vs)->Rls K H φ ds vs->Rws K H φ ws us->g ds ws=some y->
    (∀ v vs',Rl K H φ y.1 v->Rls K H φ y.2 vs'->(∀ b,v≠.ref b)->Q v (upd H ad (.lst vs')))->rr (.ref ad) us H Q)
  (hfl:∀ ds ws y,g ds ws=some y->flatD y.1=true)
  (ho:IE K X a fa) (ha:IA K X (e::es) af) (hbase:attributeBase a name X.env (eval a X.env)=eval a X.env:=by rfl)
  (hall:(e::es).all notStar=true:=by rfl) (hfl30:(e::es).length < 30:=by decide) (hline:(apos.endLine==pos.line)=true:=by rfl) (hK:X.K=K:=by rfl) :
  IE K X (.Call (.Attribute a name apos) (e::es) [] pos) (iMeth g fa af):=by
 subst hK
 have hall2:notStar e=true/\es.all notStar=true:=by rw [List.all_cons,Bool.and_eq_true] at hall;exact hall
 refine⟨fun env st r hr=>?_⟩
 simp only [iMeth,Option.bind_eq_some_iff] at hr
 obtain⟨⟨x,s1⟩,hx,⟨ws,s2⟩,hw,hr⟩:=hr
 cases x with
 | d x=>cases hr
 | h n=>
  simp only [Option.bind_eq_some_iff,Option.map_eq_some_iff] at hr
  obtain⟨ds1,hds1,ds,hds,y,hy,rfl⟩:=hr
  refine (pe_bm PySem.F.plainAttrs_list slot hty hm (ho.run _ _ _ hx) (ha.run _ _ _ hw) hbase (star_few hall hfl30) hline (star_cons hall2.1) (star_any hall2.2)).imp ?_
  rintro σ H Q ⟨φ,hE,hS,q⟩
  refine⟨φ,hE,hS,fun v H1 φ1 f1 S1 w1=>?_⟩
  obtain⟨ad,ea,rfl⟩:=w1
  obtain⟨vs1,hv1,_⟩:=S1.atl n ad _ ea hds1
  refine⟨.inl ⟨rfl,vs1,SqL.of hv1⟩,φ1,hE.fw hS f1,S1,fun us H2 φ2 f2 S2 w2=>?_⟩
  have ea2:=f2.get ea
  obtain⟨vs2,hv2,rl2⟩:=S2.atl n ad ds ea2 hds
  refine hg H2 φ2 s2 n ad ds vs2 ws us y _ S2 ea2 hds hv2 rl2 w2 hy fun v vs' r1 r2 hb=>?_
  obtain⟨f3,S3⟩:=S2.put ea2 r2
  exact q v _ φ2 ((f1.trans f2).trans f3) S3 (r1.fw S2 f3)
end
end L2
namespace L2
open PySem PySem.Spec PyProof.Rows
section
variable {K:PySem.W.Frag}{X:Cx}{e a b:Expr}{es:List Expr}{pos:Pos}{f fa fb:Ef}{af:Af}
noncomputable def insI (x:Int):List Int->List Int
 | []=>[x]
 | y::ys=>if x≤y then x::y::ys else y::insI x ys
noncomputable def isortI:List Int->List Int
 | []=>[]
 | x::xs=>insI x (isortI xs)
theorem insI_perm (x:Int):∀ ys,(insI x ys).Perm (x::ys)
 | []=>List.Perm.refl _
 | y::ys=>by
  unfold insI
  split
  ·exact List.Perm.refl _
  ·exact (List.Perm.cons y (insI_perm x ys)).trans (List.Perm.swap x y ys)
theorem isortI_perm:∀ xs,(isortI xs).Perm xs
 | []=>List.Perm.refl _
 | x::xs=>(insI_perm x _).trans (List.Perm.cons x (isortI_perm xs))
theorem insI_sorted (x:Int):∀ {ys:List Int},ys.Pairwise (·≤·)->(insI x ys).Pairwise (·≤·)
 | [],_=>by simp [insI]
 | y::ys,h=>by
  unfold insI
  split
  ·rename_i hxy
   refine List.pairwise_cons.mpr ⟨fun z hz=>?_,h⟩
   rcases List.mem_cons.mp hz with rfl | hz
   ·exact hxy
   ·exact Int.le_trans hxy ((List.pairwise_cons.mp h).1 z hz)
  ·rename_i hxy
   refine List.pairwise_cons.mpr ⟨fun z hz=>?_,insI_sorted x (List.pairwise_cons.mp h).2⟩
   rcases List.mem_cons.mp ((insI_perm x ys).mem_iff.mp hz) with rfl | hz
   ·omega
   ·exact (List.pairwise_cons.mp h).1 z hz
theorem isortI_sorted:∀ xs,(isortI xs).Pairwise (·≤·)
 | []=>List.Pairwise.nil
 | x::xs=>insI_sorted x (isortI_sorted xs)
theorem sorted_uniq {xs ys:List Int} (p:xs.Perm ys) (h1:xs.Pairwise (·≤·)) (h2:ys.Pairwise (·≤·)):xs=ys:=
 List.Perm.eq_of_pairwise (fun a b _ _ h1 h2=>Int.le_antisymm h1 h2) h1 h2 p
theorem vals_of_ints:∀ {ns:List Int}{us:List Value},IntsAre us ns->Vals (ns.map V.int) us
 | _,_,.nil=>.nil
 | _,_,.cons n t h=>.cons ⟨t,rfl⟩ (vals_of_ints h)
theorem spI_law {H:Hp}{ad:Addr}{ns:List Int}{m:Fn} (hO:Only H) (hS:SqL K H ad (ns.map V.int)) (h:∃ st,m [.d (.scr ns)] []=some (.d (.bl true),st)):spI K m [.ref ad] H (fun v _=>v=.bl true) fun _ _ _=>False:=by
 obtain⟨st,h⟩:=h
 refine⟨[],[],[.d (.scr ns)],_,h,⟨_,[],rfl,⟨ad,rfl,?_⟩,rfl⟩,⟨List.nodup_nil,rfl,fun n a ds e=>by simp at e⟩,fun v H' φ' _ _ r=>r⟩
 rcases hS with (h | h) | h
 ·rcases hO ad with z | ⟨o,xs,z⟩
  ·rw [h] at z;cases z
  ·rw [h] at z;cases z
 ·exact .inl h
 ·exact .inr h
end
end L2
namespace L2
open PySem
theorem forI_inv {g:Tg}{body:Sf}:∀ {ds:List D} (Pv:Nat->Ev->Sto->Prop) {env:Ev}{st:Sto},Pv 0 env st->
  (∀ i d env st,ds[i]?=some d->Pv i env st->∃ e1 e2 s2,setT g (.d d) env=some e1/\(body e1 st=some (.nx e2 s2)∨body e1 st=some (.ct e2 s2))/\Pv (i+1) e2 s2)->
  ∃ env' st',forI g body ds env st=some (.nx env' st')/\Pv ds.length env' st'
 | [],Pv,env,st,h0,_=>⟨env,st,rfl,h0⟩
 | d::ds,Pv,env,st,h0,hs=>by
  obtain⟨e1,e2,s2,h1,h2,h3⟩:=hs 0 d env st rfl h0
  obtain⟨e',s',h4,h5⟩:=forI_inv (g:=g) (body:=body) (ds:=ds) (fun i=>Pv (i+1)) h3 fun i d' env' st' hd p=>hs (i+1) d' env' st' (by simpa using hd) p
  refine⟨e',s',?_,h5⟩
  unfold forI
  rw [h1,Option.bind_some]
  rcases h2 with h2 | h2<;>(rw [h2,Option.bind_some];exact h4)
theorem lcI_inv {g:Tg}{tt:Tf}{te:Ef}{env:Ev}:∀ {ds:List D} (Pv:Nat->List D->Sto->Prop) {st:Sto}{ys0:List D},Pv 0 ys0 st->
  (∀ i d ys st,ds[i]?=some d->Pv i ys st->∃ e1,setT g (.d d) env=some e1/\((∃ s1 x s2,tt e1 st=some (true,s1)/\te e1 s1=some (.d x,s2)/\Pv (i+1) (ys++[x]) s2)∨∃ s1,tt e1 st=some (false,s1)/\Pv (i+1) ys s1))->
  ∃ ys st',lcI g tt te env ds st=some (ys,st')/\Pv ds.length (ys0++ys) st'
 | [],Pv,st,ys0,h0,_=>⟨[],st,rfl,by rw [List.append_nil];exact h0⟩
 | d::ds,Pv,st,ys0,h0,hs=>by
  obtain⟨e1,h1,h2⟩:=hs 0 d ys0 st rfl h0
  rcases h2 with⟨s1,x,s2,h2,h3,h4⟩ | ⟨s1,h2,h4⟩
  ·obtain⟨ys,s',h5,h6⟩:=lcI_inv (g:=g) (tt:=tt) (te:=te) (env:=env) (ds:=ds) (fun i=>Pv (i+1)) h4 fun i d' ys' st' hd p=>hs (i+1) d' ys' st' (by simpa using hd) p
   refine⟨x::ys,s',?_,by simpa using h6⟩
   unfold lcI
   rw [h1,Option.bind_some,h2,Option.bind_some,if_pos rfl,h3,Option.bind_some,h5]
   rfl
  ·obtain⟨ys,s',h5,h6⟩:=lcI_inv (g:=g) (tt:=tt) (te:=te) (env:=env) (ds:=ds) (fun i=>Pv (i+1)) h4 fun i d' ys' st' hd p=>hs (i+1) d' ys' st' (by simpa using hd) p
   refine⟨ys,s',?_,by simpa using h6⟩
   unfold lcI
   rw [h1,Option.bind_some,h2,Option.bind_some,if_neg Bool.false_ne_true,h5]
theorem lcI_filt {g:Tg}{tt:Tf}{te:Ef}{env:Ev}{st:Sto} (p:D->Bool) (F:D->D):∀ {ds:List D},(∀ d ∈ ds,∃ e1,setT g (.d d) env=some e1/\tt e1 st=some (p d,st)/\(p d=true->te e1 st=some (.d (F d),st)))->
  lcI g tt te env ds st=some ((ds.filter p).map F,st)
 | [],_=>rfl
 | d::ds,h=>by
  obtain⟨e1,h1,h2,h3⟩:=h d List.mem_cons_self
  have ih:=lcI_filt (g:=g) (tt:=tt) (te:=te) (env:=env) (st:=st) p F (ds:=ds) fun x hx=>h x (List.mem_cons_of_mem _ hx)
  unfold lcI
  rw [h1,Option.bind_some,h2,Option.bind_some]
  cases hp:p d with
  | true=>rw [if_pos rfl,h3 hp,Option.bind_some,ih,List.filter_cons,hp];rfl
  | false=>rw [if_neg Bool.false_ne_true,ih,List.filter_cons,hp];rfl
theorem lcI_map {g:Tg}{te:Ef}{env:Ev}{st:Sto} (F:D->D) {ds:List D} (h:∀ d ∈ ds,∃ e1,setT g (.d d) env=some e1/\te e1 st=some (.d (F d),st)):lcI g iYes te env ds st=some (ds.map F,st):=by
 have:=lcI_filt (g:=g) (tt:=iYes) (te:=te) (env:=env) (st:=st) (fun _=>true) F (ds:=ds) fun d hd=>by
  obtain⟨e1,h1,h2⟩:=h d hd
  exact⟨e1,h1,rfl,fun _=>h2⟩
 rw [this,List.filter_eq_self.mpr fun _ _=>rfl]
theorem mulOk_l {a b:Int} (h:-(2 ^ 64) < a/\a < 2 ^ 64):PySem.IntMulOk a b:=CMul.ok (.inl h)
theorem mulOk_r {a b:Int} (h:-(2 ^ 64) < b/\b < 2 ^ 64):PySem.IntMulOk a b:=CMul.ok (.inr h)
theorem get_set {st:Sto}{n:Nat}{v:C} (h:n < st.length):(st.set n v)[n]?=some v:=List.getElem?_set_self h
theorem atI0 {α:Type} (a:α) (l:List α):atI (a::l) 0=some a:=atI_nat (j:=0) rfl
theorem atI1 {α:Type} (a b:α) (l:List α):atI (a::b::l) 1=some b:=atI_nat (j:=1) rfl
theorem atI2 {α:Type} (a b c:α) (l:List α):atI (a::b::c::l) 2=some c:=atI_nat (j:=2) rfl
theorem ixN0 (n:Nat):ixN (n+1) 0=some 0:=ixN_nat (j:=0) (by omega)
theorem ixN2 (n:Nat):ixN (n+3) 2=some 2:=ixN_nat (j:=2) (by omega)
end L2
namespace L2
open PySem
theorem isi_int_int:isiT "int" "int" = some true:=rfl
theorem isi_int_bool:isiT "int" "bool" = some false:=rfl
theorem rngD_at {n i:Nat}{d:D} (h:(rngD 0 n)[i]?=some d):d=.int (i:Int)/\i < n:=by
 rw [rngD_get] at h
 by_cases hi:i < n
 ·rw [if_pos hi] at h
  cases h
  exact⟨by rw [Int.zero_add],hi⟩
 ·rw [if_neg hi] at h;cases h
end L2
namespace L2
open PySem PySem.Spec PyProof.Rows
noncomputable def cRunT:Nat->Nat->StateT SortSt Sem (Option Nat):=sortPriv% PySem.Builtin.countRun
noncomputable def bSortT:Nat->Nat->Nat->StateT SortSt Sem Bool:=sortPriv% PySem.Builtin.binarySort
noncomputable def gallopT:Bool->Keyed->Array Keyed->Nat->Nat->Nat->StateT SortSt Sem (Option Nat):=sortPriv% PySem.Builtin.gallop
noncomputable def mgLoT:Array Keyed->Array Keyed->StateT SortSt Sem (Array Keyed):=sortPriv% PySem.Builtin.mergeLo
noncomputable def mgHiT:Array Keyed->Array Keyed->StateT SortSt Sem (Array Keyed):=sortPriv% PySem.Builtin.mergeHi
noncomputable def mgAtT:Nat->StateT SortSt Sem Bool:=sortPriv% PySem.Builtin.mergeAt
abbrev setGal (st:SortSt) (g:Nat):SortSt:=SortSt.mk' (kindOf st) (arrOf st) (pendingOf st) g (failedOf st)
noncomputable def Cm (prog:Program) (w:World) (A:Around) (s:Shared) (κ:SortKind) (O:KeyOrd) (rk:Keyed->O.α) (S:Keyed->Prop):Prop:=
 ∀ x y,S x->S y->∀ (Q:Bool->Shared->Prop) (E:Value->Shared->Prop),Q (O.blt (rk x) (rk y)) s->wpAny (model prog w) A (keyLt' κ x.1 y.1) Q E s
section
variable {prog:Program}{w:World}{A:Around}{E:Value->Shared->Prop}{s:Shared}{κ:SortKind}{O:KeyOrd}{rk:Keyed->O.α}{S:Keyed->Prop}
theorem ws_lt (hC:Cm prog w A s κ O rk S) {x y:Keyed}{st:SortSt}{Q:Option Bool->SortSt->Prop} (hk:kindOf st=κ) (hx:S x) (hy:S y) (h:Q (some (O.blt (rk x) (rk y))) st) :
  wpS (model prog w) A E s (lt' x y) Q st:=by
 rw [lt'_eq]
 refine wpS_bind (wpS_get ?_)
 rw [hk]
 exact wpS_bind (wpS_lift (wpAny_attempt (hC x y hx hy _ _ ⟨rfl,wpS_pure h⟩)))
theorem ws_elem {arr:Array Keyed}{i:Nat}{x:Keyed}{st:SortSt}{Q:Keyed->SortSt->Prop} (hi:arr[i]?=some x) (h:Q x st):wpS (model prog w) A E s (elem' arr i) Q st:=by
 rw [elem'_eq,hi];exact wpS_pure h
theorem ws_rule {t:String}{st:SortSt}{Q:Unit->SortSt->Prop} (h:Q () st):wpS (model prog w) A E s (liftM (rule t):StateT SortSt Sem Unit) Q st:=wpS_lift (wpAny_rule ⟨rfl,h⟩)
noncomputable def kyd (arr:Array Keyed) (i:Nat):Keyed:=(arr[i]?).getD (.none,.none)
theorem kyd_at {arr:Array Keyed}{i:Nat} (h:i < arr.size):arr[i]?=some (kyd arr i):=by
 unfold kyd;simp [h]
theorem kyd_congr {a b:Array Keyed}{i j:Nat} (h:a[i]?=b[j]?):kyd a i=kyd b j:=by
 unfold kyd;rw [h]
theorem ws_ltAt (hC:Cm prog w A s κ O rk S) {i j:Nat}{st:SortSt}{Q:Option Bool->SortSt->Prop} (hk:kindOf st=κ) (hi:i < (arrOf st).size) (hj:j < (arrOf st).size) (hx:S (kyd (arrOf st) i)) (hy:S (kyd (arrOf st) j))
  (h:Q (some (O.blt (rk (kyd (arrOf st) i)) (rk (kyd (arrOf st) j)))) st):wpS (model prog w) A E s (ltAt' i j) Q st:=by
 rw [ltAt'_eq]
 refine wpS_bind (wpS_get ?_)
 exact wpS_bind (ws_elem (kyd_at hi) (wpS_bind (ws_elem (kyd_at hj) (ws_lt hC hk hx hy h))))
structure SB (κ:SortKind) (a0:Array Keyed) (lo:Nat) (p0:Array (Nat×Nat×Nat)) (g0:Nat) (st:SortSt):Prop where
 perm:(arrOf st).Perm a0
 pre:∀ k,k < lo->(arrOf st)[k]?=a0[k]?
 kind:kindOf st=κ
 fail:failedOf st=none
 pend:pendingOf st=p0
 gal:gallopOf st=g0
variable {a0:Array Keyed}{lo:Nat}{p0:Array (Nat×Nat×Nat)}{g0:Nat}{st:SortSt}
theorem SB.size (h:SB κ a0 lo p0 g0 st):(arrOf st).size=a0.size:=h.perm.size_eq
theorem SB.mem (h:SB κ a0 lo p0 g0 st) (hS:∀ x ∈ a0.toList,S x) {i:Nat} (hi:i < a0.size):S (kyd (arrOf st) i):=by
 have hi':i < (arrOf st).size:=by rw [h.size];exact hi
 refine hS _ ((Array.perm_iff_toList_perm.mp h.perm).mem_iff.mp ?_)
 have e:=kyd_at hi'
 rw [Array.getElem?_eq_getElem hi'] at e
 rw [←Option.some.inj e]
 exact Array.getElem_mem_toList hi'
theorem SB.set (h:SB κ a0 lo p0 g0 st) {xs:Array Keyed} (hp:xs.Perm (arrOf st)) (hl:∀ k,k < lo->xs[k]?=(arrOf st)[k]?):SB κ a0 lo p0 g0 (setArr st xs):=
 ⟨hp.trans h.perm,fun k hk=>(hl k hk).trans (h.pre k hk),h.kind,h.fail,h.pend,h.gal⟩
theorem ws_at (hC:Cm prog w A s κ O rk S) (hS:∀ x ∈ a0.toList,S x) (hB:SB κ a0 lo p0 g0 st) {i j:Nat}{Q:Option Bool->SortSt->Prop} (hi:i < a0.size) (hj:j < a0.size)
  (h:Q (some (O.blt (rk (kyd (arrOf st) i)) (rk (kyd (arrOf st) j)))) st):wpS (model prog w) A E s (ltAt' i j) Q st:=
 ws_ltAt hC hB.kind (by rw [hB.size];exact hi) (by rw [hB.size];exact hj) (hB.mem hS hi) (hB.mem hS hj) h
noncomputable def Up (rk:Keyed->O.α) (arr:Array Keyed) (lo n:Nat):Prop:=∀ i j,lo≤i->i≤j->j < lo+n->O.kle (rk (kyd arr i)) (rk (kyd arr j))
noncomputable def Down (rk:Keyed->O.α) (arr:Array Keyed) (lo n:Nat):Prop:=∀ i j,lo≤i->i≤j->j < lo+n->O.kle (rk (kyd arr j)) (rk (kyd arr i))
theorem kyd_mirror {xs:Array Keyed}{i j:Nat} (hj:j≤xs.size) (k:Nat):kyd (mirror xs i j ((j - i) / 2)) k=if i≤k/\k < j then kyd xs (i+j - 1 - k) else kyd xs k:=by
 have e:=getElem?_mirror_all (i:=i) hj k
 by_cases h1:i≤k/\k < j
 ·rw [if_pos h1] at e ⊢;exact kyd_congr e
 ·rw [if_neg h1] at e ⊢;exact kyd_congr e
theorem kyd_bubble {xs:Array Keyed}{src d:Nat} (hs:src < xs.size) (hd:d≤src) (k:Nat) :
  kyd (bubble xs src d) k=if k=src - d then kyd xs src else if src - d < k/\k≤src then kyd xs (k - 1) else kyd xs k:=by
 have e:=getElem?_bubble hs d hd k
 by_cases h1:k=src - d
 ·rw [if_pos h1] at e ⊢;exact kyd_congr e
 ·rw [if_neg h1] at e ⊢
  by_cases h2:src - d < k/\k≤src
  ·rw [if_pos h2] at e ⊢;exact kyd_congr e
  ·rw [if_neg h2] at e ⊢;exact kyd_congr e
theorem SB.rev (hB:SB κ a0 lo p0 g0 st) {i j:Nat} (hi:lo≤i) (hj:j≤a0.size):SB κ a0 lo p0 g0 (setArr st (mirror (arrOf st) i j ((j - i) / 2))):=
 hB.set (mirror_perm _ _ _ _) fun k hk=>by
  rw [getElem?_mirror_all (by rw [hB.size];exact hj),if_neg (by omega)]
theorem same_mirror {xs:Array Keyed}{i j:Nat} (hj:j≤xs.size) (he:∀ k,i≤k->k < j->rk (kyd xs k)=rk (kyd xs (j - 1))) (k:Nat):rk (kyd (mirror xs i j ((j - i) / 2)) k)=rk (kyd xs k):=by
 rw [kyd_mirror hj]
 split
 ·rw [he (i+j - 1 - k) (by omega) (by omega),he k (by omega) (by omega)]
 ·rfl
theorem ws_rev {i j:Nat}{Q:Unit->SortSt->Prop} (h:Q () (setArr st (mirror (arrOf st) i j ((j - i) / 2)))):wpS (model prog w) A E s (reverseSlice' i j) Q st:=by
 rw [reverseSlice'_eq];exact wpS_modify h
theorem Up.more {arr:Array Keyed}{n:Nat} (h:Up rk arr lo n) (h1:1≤n) (hl:O.kle (rk (kyd arr (lo+n - 1))) (rk (kyd arr (lo+n)))):Up rk arr lo (n+1):=by
 intro i j hi hij hj
 by_cases hjx:j < lo+n
 ·exact h i j hi hij hjx
 ·have hj':j=lo+n:=by omega
  subst hj'
  by_cases hi':i=lo+n
  ·subst hi';exact KeyOrd.kle_refl _
  ·exact KeyOrd.kle_trans (h i (lo+n - 1) hi (by omega) (by omega)) hl
theorem Down.more {arr:Array Keyed}{n:Nat} (h:Down rk arr lo n) (h1:1≤n) (hl:O.kle (rk (kyd arr (lo+n))) (rk (kyd arr (lo+n - 1)))):Down rk arr lo (n+1):=by
 intro i j hi hij hj
 by_cases hjx:j < lo+n
 ·exact h i j hi hij hjx
 ·have hj':j=lo+n:=by omega
  subst hj'
  by_cases hi':i=lo+n
  ·subst hi';exact KeyOrd.kle_refl _
  ·exact KeyOrd.kle_trans hl (h i (lo+n - 1) hi (by omega) (by omega))
theorem Up.one {arr:Array Keyed}:Up rk arr lo 1:=fun i j hi hij hj=>by
 have:i=j:=by omega
 subst this;exact KeyOrd.kle_refl _
theorem Down.congr {xs ys:Array Keyed}{n:Nat} (h:Down rk xs lo n) (e:∀ k,rk (kyd ys k)=rk (kyd xs k)):Down rk ys lo n:=fun i j hi hij hj=>by
 rw [e,e];exact h i j hi hij hj
end
end L2
namespace L2
open PySem PySem.Spec PyProof.Rows
section
variable {prog:Program}{w:World}{A:Around}{E:Value->Shared->Prop}{s:Shared}{κ:SortKind}{O:KeyOrd}{rk:Keyed->O.α}{S:Keyed->Prop}
variable {a0:Array Keyed}{lo:Nat}{p0:Array (Nat×Nat×Nat)}{g0:Nat}{st:SortSt}
theorem ws_asc {n0 nrem:Nat}{f:Nat->Option (Option Nat)×Nat->StateT SortSt Sem (ForInStep (Option (Option Nat)×Nat))}{Q:Option (Option Nat)×Nat->SortSt->Prop}
  (hf:∀ x n (Q':ForInStep (Option (Option Nat)×Nat)->SortSt->Prop),1≤n->n < nrem->(O.blt (rk (kyd (arrOf st) (lo+n))) (rk (kyd (arrOf st) (lo+n - 1)))=true->Q' (.done (none,n)) st)->
    (O.blt (rk (kyd (arrOf st) (lo+n))) (rk (kyd (arrOf st) (lo+n - 1)))=false->Q' (.yield (none,n+1)) st)->wpS (model prog w) A E s (f x (none,n)) Q' st)
  (h1:1≤n0) (hn:n0≤nrem) (hu:Up rk (arrOf st) lo n0)
  (h:∀ n,n0≤n->n≤nrem->Up rk (arrOf st) lo n->(n=nrem∨O.klt (rk (kyd (arrOf st) (lo+n))) (rk (kyd (arrOf st) (lo+n - 1))))->Q (none,n) st):wpS (model prog w) A E s (forIn [n0:nrem] (none,n0) f) Q st:=by
 refine wpS_forRange (I:=fun x c st'=>st'=st/\c=(none,x)/\Up rk (arrOf st) lo x) ?_ ?_ ⟨rfl,rfl,hu⟩
 ·rintro x c st' hx hxn ⟨rfl,rfl,hs⟩
  exact hf x x _ (by omega) hxn (fun hl=>h x hx (by omega) hs (.inr hl)) fun hl=>⟨rfl,rfl,hs.more (by omega) hl⟩
 ·rintro c st' ⟨rfl,rfl,hs⟩
  rw [show max n0 nrem=nrem by omega] at hs ⊢
  exact h nrem hn (Nat.le_refl _) hs (.inl rfl)
noncomputable def Eqs (rk:Keyed->O.α) (arr:Array Keyed) (lo m q:Nat):Prop:=q+1≤m/\∀ i,lo+m - (q+1)≤i->i < lo+m->rk (kyd arr i)=rk (kyd arr (lo+m - 1))
theorem ws_desc {n0 nrem:Nat}{f:Nat->Option (Option Nat)×Nat×Nat->StateT SortSt Sem (ForInStep (Option (Option Nat)×Nat×Nat))}{Q:Option (Option Nat)×Nat×Nat->SortSt->Prop}
  (hf:∀ x n q st' (Q':ForInStep (Option (Option Nat)×Nat×Nat)->SortSt->Prop),1≤n->n < nrem->SB κ a0 lo p0 g0 st'->
    (O.blt (rk (kyd (arrOf st') (lo+n))) (rk (kyd (arrOf st') (lo+n - 1)))=true->0 < q->Q' (.yield (none,n+1,0)) (setArr st' (mirror (arrOf st') (lo+n - (q+1)) (lo+n) ((lo+n - (lo+n - (q+1))) / 2))))->
    (O.blt (rk (kyd (arrOf st') (lo+n))) (rk (kyd (arrOf st') (lo+n - 1)))=true->q=0->Q' (.yield (none,n+1,0)) st')->
    (O.blt (rk (kyd (arrOf st') (lo+n - 1))) (rk (kyd (arrOf st') (lo+n)))=true->Q' (.done (none,n,q)) st')->
    (O.blt (rk (kyd (arrOf st') (lo+n))) (rk (kyd (arrOf st') (lo+n - 1)))=false->O.blt (rk (kyd (arrOf st') (lo+n - 1))) (rk (kyd (arrOf st') (lo+n)))=false->Q' (.yield (none,n+1,q+1)) st')->
    wpS (model prog w) A E s (f x (none,n,q)) Q' st')
  (h1:1≤n0) (hn:n0≤nrem) (hz:lo+nrem≤a0.size) (hB:SB κ a0 lo p0 g0 st) (hd:Down rk (arrOf st) lo n0)
  (h:∀ n q st',n0≤n->n≤nrem->SB κ a0 lo p0 g0 st'->Down rk (arrOf st') lo n->Eqs rk (arrOf st') lo n q->Q (none,n,q) st'):wpS (model prog w) A E s (forIn [n0:nrem] (none,n0,0) f) Q st:=by
 have one:∀ (arr:Array Keyed) m,1≤m->Eqs rk arr lo m 0:=fun arr m hm=>⟨by omega,fun i h1 h2=>by rw [show i=lo+m - 1 by omega]⟩
 refine wpS_forRange (I:=fun x c st'=>∃ q,c=(none,x,q)/\SB κ a0 lo p0 g0 st'/\Down rk (arrOf st') lo x/\Eqs rk (arrOf st') lo x q) ?_ ?_ ⟨0,rfl,hB,hd,one _ _ h1⟩
 ·rintro x c st' hx hxn ⟨q,rfl,hB',hs,he⟩
  have hsz:lo+x≤(arrOf st').size:=by rw [hB'.size];omega
  refine hf x x q st' _ (by omega) hxn hB' (fun hl hq=>?_) (fun hl hq=>?_) (fun hl=>h x q st' hx (by omega) hB' hs he) fun hl hl2=>?_
  ·have e:=same_mirror (rk:=rk) (xs:=arrOf st') (i:=lo+x - (q+1)) (j:=lo+x) hsz he.2
   exact⟨0,rfl,hB'.rev (by have:=he.1;omega) (by omega),Down.congr (hs.more (by omega) (KeyOrd.kle_of_klt hl)) e,one _ _ (by omega)⟩
  ·exact⟨0,rfl,hB',hs.more (by omega) (KeyOrd.kle_of_klt hl),one _ _ (by omega)⟩
  ·have eq:rk (kyd (arrOf st') (lo+x))=rk (kyd (arrOf st') (lo+x - 1)):=KeyOrd.kle_antisymm hl2 hl
   refine⟨q+1,rfl,hB',hs.more (by omega) (by rw [eq];exact KeyOrd.kle_refl _),by have:=he.1;omega,fun i h1 h2=>?_⟩
   rw [show lo+(x+1) - 1=lo+x by omega,eq]
   by_cases hi:i=lo+x
   ·rw [hi,eq]
   ·exact he.2 i (by omega) (by omega)
 ·rintro c st' ⟨q,rfl,hB',hs,he⟩
  rw [show max n0 nrem=nrem by omega] at hs he ⊢
  exact h nrem q st' hn (Nat.le_refl _) hB' hs he
theorem ws_fin {m nrem:Nat}{f:Nat->Option (Option Nat)×Nat->StateT SortSt Sem (ForInStep (Option (Option Nat)×Nat))}{k:Option (Option Nat)×Nat->StateT SortSt Sem (Option Nat)}{Q:Option Nat->SortSt->Prop}
  (hB:SB κ a0 lo p0 g0 st) (hd:Down rk (arrOf st) lo m) (h1:1≤m) (hm:m≤nrem) (hz:lo+nrem≤a0.size)
  (hf:∀ x n (Q':ForInStep (Option (Option Nat)×Nat)->SortSt->Prop) st4,SB κ a0 lo p0 g0 st4->1≤n->n < nrem->(O.blt (rk (kyd (arrOf st4) (lo+n))) (rk (kyd (arrOf st4) (lo+n - 1)))=true->Q' (.done (none,n)) st4)->
    (O.blt (rk (kyd (arrOf st4) (lo+n))) (rk (kyd (arrOf st4) (lo+n - 1)))=false->Q' (.yield (none,n+1)) st4)->wpS (model prog w) A E s (f x (none,n)) Q' st4)
  (hk:∀ n st4,SB κ a0 lo p0 g0 st4->1≤n->n≤nrem->Up rk (arrOf st4) lo n->wpS (model prog w) A E s (k (none,n)) Q st4) :
  wpS (model prog w) A E s (do reverseSlice' lo (lo+m);let r ←forIn [m:nrem] (none,m) f;k r) Q st:=by
 refine wpS_bind (ws_rev ?_)
 have hB4:=hB.rev (i:=lo) (j:=lo+m) (Nat.le_refl _) (by omega)
 refine wpS_bind (ws_asc (rk:=rk) (lo:=lo) (fun x n Q' hn1 hn2 hy hno=>hf x n Q' _ hB4 hn1 hn2 hy hno) h1 hm ?_ fun n' hn1' hn2' hu' _=>hk n' _ hB4 (by omega) hn2' hu')
 intro i j hi hij hj
 have hs3:lo+m≤(arrOf st).size:=by rw [hB.size];omega
 show O.kle (rk (kyd (mirror (arrOf st) lo (lo+m) ((lo+m - lo) / 2)) i)) (rk (kyd (mirror (arrOf st) lo (lo+m) ((lo+m - lo) / 2)) j))
 rw [kyd_mirror hs3,kyd_mirror hs3,if_pos (by omega),if_pos (by omega)]
 exact hd _ _ (by omega) (by omega) (by omega)
set_option maxHeartbeats 1000000 in
theorem ws_cRun (hC:Cm prog w A s κ O rk S) (hS:∀ x ∈ a0.toList,S x) {nrem:Nat}{Q:Option Nat->SortSt->Prop} (hB:SB κ a0 lo p0 g0 st) (h1:1≤nrem) (hz:lo+nrem≤a0.size)
  (h:∀ m st',SB κ a0 lo p0 g0 st'->1≤m->m≤nrem->Up rk (arrOf st') lo m->Q (some m) st'):wpS (model prog w) A E s (cRunT lo nrem) Q st:=by
 have asc:∀ st' (_:SB κ a0 lo p0 g0 st') n (Q':Option Bool->SortSt->Prop),1≤n->n < nrem->Q' (some (O.blt (rk (kyd (arrOf st') (lo+n))) (rk (kyd (arrOf st') (lo+n - 1))))) st'->
   wpS (model prog w) A E s (ltAt' (lo+n) (lo+n - 1)) Q' st':=fun st' hB' n Q' h1 h2 hq=>ws_at hC hS hB' (by omega) (by omega) hq
 refine wpS_bind (ws_asc (rk:=rk) (lo:=lo) (fun x n Q' hn1 hn2 hy hno=>?_) (Nat.le_refl 1) h1 Up.one fun n hn1 hn2 hu hor=>?_)
 ·refine wpS_bind (asc st hB n _ hn1 hn2 ?_)
  cases hl:O.blt (rk (kyd (arrOf st) (lo+n))) (rk (kyd (arrOf st) (lo+n - 1))) with
  | true=>exact wpS_pure (hy hl)
  | false=>exact wpS_pure (hno hl)
 dsimp only
 by_cases hnn:n=nrem
 ·rw [if_pos (by simpa using hnn)]
  exact wpS_pure (h n st hB hn1 hn2 hu)
 rw [if_neg (by simpa using hnn)]
 have hlt:=hor.resolve_left hnn
 have hn3:n+1≤nrem:=by omega
 have hsz:lo+n≤(arrOf st).size:=by rw [hB.size];omega
 by_cases hgt:n > 1
 case' pos=>
  rw [if_pos hgt]
  refine wpS_bind (ws_at hC hS hB (by omega) (by omega) ?_)
  by_cases hrose:O.blt (rk (kyd (arrOf st) lo)) (rk (kyd (arrOf st) (lo+n - 1)))=true
  ·rw [hrose];exact wpS_pure (h n st hB hn1 hn2 hu)
  rw [Bool.not_eq_true] at hrose
  rw [hrose]
  have hall:∀ k,lo≤k->k < lo+n->rk (kyd (arrOf st) k)=rk (kyd (arrOf st) (lo+n - 1)):=fun k hk1 hk2=>
   KeyOrd.kle_antisymm (hu k (lo+n - 1) hk1 (by omega) (by omega)) (KeyOrd.kle_trans hrose (hu lo k (by omega) hk1 hk2))
  refine wpS_bind (ws_rev ?_)
  have hB2:=hB.rev (i:=lo) (j:=lo+n) (Nat.le_refl _) (by omega)
  have hd:Down rk (arrOf (setArr st (mirror (arrOf st) lo (lo+n) ((lo+n - lo) / 2)))) lo (n+1):=by
   refine Down.congr (xs:=arrOf st) (Down.more (fun i j hi hij hj=>?_) (by omega) (KeyOrd.kle_of_klt hlt)) (same_mirror hsz hall)
   rw [hall i hi (by omega),hall j (by omega) hj];exact KeyOrd.kle_refl _
  generalize setArr st (mirror (arrOf st) lo (lo+n) ((lo+n - lo) / 2))=st2 at hB2 hd ⊢
  clear hu hlt hrose hall hB hsz hor
 case' neg=>
  rw [if_neg hgt]
  have hB2:=hB
  have hd:Down rk (arrOf st) lo (n+1):=by
   refine Down.more (fun i j hi hij hj=>?_) (by omega) (KeyOrd.kle_of_klt hlt)
   rw [show i=j by omega];exact KeyOrd.kle_refl _
  clear hu hlt hB hsz hor
  revert hB2 hd
  generalize st=st2
  intro hB2 hd
 all_goals
  refine wpS_bind (ws_rule ?_)
  refine wpS_bind (ws_desc (fun x m q st' Q' hm1 hm2 hB' c1 c2 c3 c4=>?_) (by omega) hn3 hz hB2 hd fun m q st' hm1 hm2 hB' hd' he=>?_)
  ·refine wpS_bind (asc st' hB' m _ hm1 hm2 ?_)
   cases hl:O.blt (rk (kyd (arrOf st') (lo+m))) (rk (kyd (arrOf st') (lo+m - 1))) with
   | true=>
    dsimp only
    rw [if_pos rfl]
    by_cases hq:q > 0
    ·rw [if_pos hq];exact wpS_bind (ws_rev (wpS_pure (c1 hl hq)))
    ·rw [if_neg hq];exact wpS_pure (c2 hl (by omega))
   | false=>
    dsimp only
    rw [if_neg (by simp)]
    refine wpS_bind (ws_at hC hS hB' (by omega) (by omega) ?_)
    cases hl2:O.blt (rk (kyd (arrOf st') (lo+m - 1))) (rk (kyd (arrOf st') (lo+m))) with
    | true=>exact wpS_pure (c3 hl2)
    | false=>exact wpS_pure (c4 hl hl2)
  have hsz':lo+m≤(arrOf st').size:=by rw [hB'.size];omega
  dsimp only
  by_cases hq:q > 0
  case' pos=>
   rw [if_pos hq]
   refine wpS_bind (ws_rev ?_)
   have hB3:=hB'.rev (i:=lo+m - (q+1)) (j:=lo+m) (by have:=he.1;omega) (by omega)
   have hd3:Down rk (arrOf (setArr st' (mirror (arrOf st') (lo+m - (q+1)) (lo+m) ((lo+m - (lo+m - (q+1))) / 2)))) lo m:=Down.congr hd' (same_mirror hsz' he.2)
   generalize setArr st' (mirror (arrOf st') (lo+m - (q+1)) (lo+m) ((lo+m - (lo+m - (q+1))) / 2))=st3 at hB3 hd3 ⊢
  case' neg=>
   rw [if_neg hq]
   have hB3:=hB'
   have hd3:=hd'
  all_goals
   refine ws_fin hB3 hd3 (by omega) hm2 hz (fun x n' Q' st4 hB4 hn1' hn2' hy hno=>?_) fun n' st4 hB4 a1 a2 a3=>wpS_pure (h n' st4 hB4 a1 a2 a3)
   refine wpS_bind (asc st4 hB4 n' _ hn1' hn2' ?_)
   cases hl:O.blt (rk (kyd (arrOf st4) (lo+n'))) (rk (kyd (arrOf st4) (lo+n' - 1))) with
   | true=>exact wpS_pure (hy hl)
   | false=>exact wpS_pure (hno hl)
end
end L2
namespace L2
open PySem PySem.Spec PyProof.Rows
section
variable {prog:Program}{w:World}{A:Around}{E:Value->Shared->Prop}{s:Shared}{κ:SortKind}{O:KeyOrd}{rk:Keyed->O.α}{S:Keyed->Prop}
variable {a0:Array Keyed}{lo:Nat}{p0:Array (Nat×Nat×Nat)}{g0:Nat}{st:SortSt}
set_option maxHeartbeats 1000000 in
theorem ws_bSort (hC:Cm prog w A s κ O rk S) (hS:∀ x ∈ a0.toList,S x) {n ok:Nat}{Q:Bool->SortSt->Prop} (hB:SB κ a0 lo p0 g0 st) (h1:1≤ok) (hok:ok≤n) (hz:lo+n≤a0.size) (hu:Up rk (arrOf st) lo ok)
  (h:∀ st',SB κ a0 lo p0 g0 st'->Up rk (arrOf st') lo n->Q true st'):wpS (model prog w) A E s (bSortT lo n ok) Q st:=by
 refine wpS_bind (wpS_mono (wpS_forRange (I:=fun k c st'=>c=(none,())/\SB κ a0 lo p0 g0 st'/\Up rk (arrOf st') lo (min k n)) (Q:=fun c st'=>c=(none,())/\SB κ a0 lo p0 g0 st'/\Up rk (arrOf st') lo n) ?_ ?_ ?_) ?_)
 ·rintro k c st' hk hkn ⟨rfl,hB',hs⟩
  rw [show min k n=k by omega] at hs
  dsimp only
  refine wpS_bind (wpS_mono (wpS_forRange (I:=fun x c st2=>st2=st'/\∃ l r,c=(none,l,r)/\l≤r/\r≤k/\r - l≤k - x/\(∀ i,i < l->O.kle (rk (kyd (arrOf st') (lo+i))) (rk (kyd (arrOf st') (lo+k))))/\
    ∀ i,r≤i->i < k->O.klt (rk (kyd (arrOf st') (lo+k))) (rk (kyd (arrOf st') (lo+i))))
   (Q:=fun c st2=>st2=st'/\∃ l r,c=(none,l,r)/\l≤k/\(∀ i,i < l->O.kle (rk (kyd (arrOf st') (lo+i))) (rk (kyd (arrOf st') (lo+k))))/\∀ i,l≤i->i < k->O.klt (rk (kyd (arrOf st') (lo+k))) (rk (kyd (arrOf st') (lo+i)))) ?_ ?_ ?_) ?_)
  ·rintro x c st2 _ hxk ⟨rfl,l,r,rfl,hlr,hrk,hm,hlo,hhi⟩
   dsimp only
   by_cases hge:l≥r
   ·rw [if_pos hge]
    have e:l=r:=by omega
    subst e
    exact wpS_pure ⟨rfl,l,l,rfl,hrk,hlo,hhi⟩
   ·rw [if_neg hge]
    refine wpS_bind (ws_at hC hS hB' (by omega) (by omega) ?_)
    cases hl:O.blt (rk (kyd (arrOf st2) (lo+k))) (rk (kyd (arrOf st2) (lo+(l+r) / 2))) with
    | true=>exact wpS_pure ⟨rfl,l,(l+r) / 2,rfl,by omega,by omega,by omega,hlo,fun i h1 h2=>KeyOrd.klt_of_klt_of_kle hl (hs _ _ (by omega) (by omega) (by omega))⟩
    | false=>exact wpS_pure ⟨rfl,(l+r) / 2+1,r,rfl,by omega,by omega,by omega,fun i h1=>KeyOrd.kle_trans (hs (lo+i) (lo+(l+r) / 2) (by omega) (by omega) (by omega)) hl,hhi⟩
  ·rintro c st2 ⟨rfl,l,r,rfl,hlr,hrk,hm,hlo,hhi⟩
   have e:l=r:=by omega
   subst e
   exact⟨rfl,l,l,rfl,hrk,hlo,hhi⟩
  ·exact⟨rfl,0,k,rfl,by omega,by omega,by omega,fun i hi=>by omega,fun i h1 h2=>by omega⟩
  ·rintro c st2 ⟨rfl,l,r,rfl,hlk,hlo,hhi⟩
   dsimp only
   refine wpS_bind (m:=moveDown' (lo+k) (lo+l)) ?_
   rw [moveDown'_eq]
   have hks:lo+k < (arrOf st2).size:=by rw [hB'.size];omega
   refine wpS_modify (wpS_pure ⟨rfl,hB'.set (bubble_perm _ _ _) fun i hi=>?_,?_⟩)
   ·rw [getElem?_bubble hks _ (by omega),if_neg (by omega),if_neg (by omega)]
   ·rw [show min (k+1) n=k+1 by omega]
    intro i j hi hij hj
    show O.kle (rk (kyd (bubble (arrOf st2) (lo+k) (lo+k - (lo+l))) i)) (rk (kyd (bubble (arrOf st2) (lo+k) (lo+k - (lo+l))) j))
    rw [kyd_bubble hks (by omega),kyd_bubble hks (by omega),show lo+k - (lo+k - (lo+l))=lo+l by omega]
    have hlo':∀ i,lo≤i->i < lo+l->O.kle (rk (kyd (arrOf st2) i)) (rk (kyd (arrOf st2) (lo+k))):=fun i h1 h2=>by
     have:=hlo (i - lo) (by omega);rwa [show lo+(i - lo)=i by omega] at this
    have hhi':∀ i,lo+l≤i->i < lo+k->O.klt (rk (kyd (arrOf st2) (lo+k))) (rk (kyd (arrOf st2) i)):=fun i h1 h2=>by
     have:=hhi (i - lo) (by omega) (by omega);rwa [show lo+(i - lo)=i by omega] at this
    repeat' split
    all_goals first
     | (exfalso;omega)
     | exact KeyOrd.kle_refl _
     | exact hlo' _ (by omega) (by omega)
     | exact KeyOrd.kle_of_klt (hhi' _ (by omega) (by omega))
     | exact hs _ _ (by omega) (by omega) (by omega)
 ·rintro c st' ⟨rfl,hB',hs⟩
  rw [show min (max (max ok 1) n) n=n by omega] at hs
  exact⟨rfl,hB',hs⟩
 ·rw [show max ok 1=ok by omega,show min ok n=ok by omega]
  exact⟨rfl,hB,hu⟩
 ·rintro c st' ⟨rfl,hB',hs⟩
  exact wpS_pure (h st' hB' hs)
noncomputable def bey (O:KeyOrd) (rk:Keyed->O.α) (left:Bool) (key x:Keyed):Bool:=if left=true then O.blt (rk x) (rk key) else !O.blt (rk key) (rk x)
set_option maxHeartbeats 1000000 in
theorem ws_gallop (hC:Cm prog w A s κ O rk S) {left:Bool}{key:Keyed}{arr:Array Keyed}{base n hint:Nat}{Q:Option Nat->SortSt->Prop} (hk:kindOf st=κ) (hkey:S key) (hz:base+n≤arr.size) (hS:∀ i,i < n->S (kyd arr (base+i)))
  (hh:hint < n) (anti:∀ i j,i≤j->j < n->bey O rk left key (kyd arr (base+j))=true->bey O rk left key (kyd arr (base+i))=true)
  (h:∀ k,k≤n->(∀ i,i < k->bey O rk left key (kyd arr (base+i))=true)->(∀ i,k≤i->i < n->bey O rk left key (kyd arr (base+i))=false)->Q (some k) st) :
  wpS (model prog w) A E s (gallopT left key arr base n hint) Q st:=by
 have bey1:∀ i (Q':Option Bool->SortSt->Prop),i < n->Q' (some (bey O rk left key (kyd arr (base+i)))) st->wpS (model prog w) A E s (elem' arr (base+i) >>= fun x=>if left=true then lt' x key else lt' key x >>= fun b=>pure (b.map (!·))) Q' st:=fun i Q' hi hq=>by
  refine wpS_bind (ws_elem (kyd_at (by omega)) ?_)
  cases left with
  | true=>exact ws_lt hC hk (hS i hi) hkey hq
  | false=>exact wpS_bind (ws_lt hC hk hkey (hS i hi) (wpS_pure hq))
 have bin:∀ l0 h0,l0≤h0->h0≤n->(∀ i,i < l0->bey O rk left key (kyd arr (base+i))=true)->(∀ i,h0≤i->i < n->bey O rk left key (kyd arr (base+i))=false)->
   ∀ (f:Nat->Option (Option Nat)×Nat×Nat->StateT SortSt Sem (ForInStep (Option (Option Nat)×Nat×Nat))) (k:Option (Option Nat)×Nat×Nat->StateT SortSt Sem (Option Nat)),
   (∀ x l r (Q':ForInStep (Option (Option Nat)×Nat×Nat)->SortSt->Prop),l≤r->r≤n->(r≤l->Q' (.done (none,l,r)) st)->(l < r->bey O rk left key (kyd arr (base+(l+(r - l) / 2)))=true->Q' (.yield (none,l+(r - l) / 2+1,r)) st)->
     (l < r->bey O rk left key (kyd arr (base+(l+(r - l) / 2)))=false->Q' (.yield (none,l,l+(r - l) / 2)) st)->wpS (model prog w) A E s (f x (none,l,r)) Q' st)->
   (∀ l r,k (none,l,r)=pure (some r))->wpS (model prog w) A E s (forIn [0:n] (none,l0,h0) f >>= k) Q st:=fun l0 h0 e1 e2 e3 e4 f k hf hkk=>by
  refine wpS_bind (wpS_mono (wpS_forRange (I:=fun x c st2=>st2=st/\∃ l r,c=(none,l,r)/\l≤r/\r≤n/\r - l≤n - x/\(∀ i,i < l->bey O rk left key (kyd arr (base+i))=true)/\∀ i,r≤i->i < n->bey O rk left key (kyd arr (base+i))=false)
   (Q:=fun c st2=>st2=st/\∃ r,c=(none,r,r)/\r≤n/\(∀ i,i < r->bey O rk left key (kyd arr (base+i))=true)/\∀ i,r≤i->i < n->bey O rk left key (kyd arr (base+i))=false) ?_ ?_ ?_) ?_)
  ·rintro x c st2 _ hx ⟨rfl,l,r,rfl,a1,a2,a3,a4,a5⟩
   refine hf x l r _ a1 a2 (fun hrl=>?_) (fun hlr ht=>?_) fun hlr ht=>?_
   ·have e:l=r:=by omega
    subst e
    exact⟨rfl,l,rfl,a2,a4,a5⟩
   ·refine⟨rfl,_,_,rfl,by omega,a2,by omega,fun i hi=>?_,a5⟩
    exact anti i (l+(r - l) / 2) (by omega) (by omega) ht
   ·refine⟨rfl,_,_,rfl,by omega,by omega,by omega,a4,fun i h1 h2=>?_⟩
    cases q:bey O rk left key (kyd arr (base+i)) with
    | false=>rfl
    | true=>rw [anti (l+(r - l) / 2) i h1 h2 q] at ht;cases ht
  ·rintro c st2 ⟨rfl,l,r,rfl,a1,a2,a3,a4,a5⟩
   have e:l=r:=by omega
   subst e
   exact⟨rfl,l,rfl,a2,a4,a5⟩
  ·exact⟨rfl,l0,h0,rfl,e1,e2,by omega,e3,e4⟩
  ·rintro c st2 ⟨rfl,r,rfl,a2,a4,a5⟩
   rw [hkk]
   exact wpS_pure (h r a2 a4 a5)
 refine wpS_bind (bey1 hint _ hh ?_)
 dsimp only
 cases hb:bey O rk left key (kyd arr (base+hint)) with
 | true=>
  rw [if_pos rfl]
  refine wpS_bind (wpS_mono (wpS_forRange (I:=fun x c st2=>st2=st/\∃ l o,c=(none,l,o)/\l < o/\x+1≤o/\hint+l < n/\bey O rk left key (kyd arr (base+(hint+l)))=true)
   (Q:=fun c st2=>st2=st/\∃ l o,c=(none,l,o)/\l < o/\hint+l < n/\bey O rk left key (kyd arr (base+(hint+l)))=true/\(n - hint≤o∨hint+o < n/\bey O rk left key (kyd arr (base+(hint+o)))=false)) ?_ ?_ ?_) ?_)
  ·rintro x c st2 _ hx ⟨rfl,l,o,rfl,a1,a2,a3,a4⟩
   dsimp only
   by_cases ho:o≥n - hint
   ·rw [if_pos ho];exact wpS_pure ⟨rfl,l,o,rfl,a1,a3,a4,.inl ho⟩
   ·rw [if_neg ho]
    refine wpS_bind (bey1 (hint+o) _ (by omega) ?_)
    cases hb2:bey O rk left key (kyd arr (base+(hint+o))) with
    | true=>exact wpS_pure ⟨rfl,o,2*o+1,rfl,by omega,by omega,by omega,hb2⟩
    | false=>exact wpS_pure ⟨rfl,l,o,rfl,a1,a3,a4,.inr ⟨by omega,hb2⟩⟩
  ·rintro c st2 ⟨rfl,l,o,rfl,a1,a2,a3,a4⟩
   exact⟨rfl,l,o,rfl,a1,a3,a4,.inl (by omega)⟩
  ·exact⟨rfl,0,1,rfl,by omega,by omega,by omega,hb⟩
  ·rintro c st2 ⟨rfl,l,o,rfl,a1,a3,a4,a5⟩
   dsimp only
   refine bin _ _ (by omega) (by omega) (fun i hi=>anti i (hint+l) (by omega) a3 a4) (fun i h1 h2=>?_) _ _ (fun x l r Q' b1 b2 c1 c2 c3=>?_) fun l r=>rfl
   ·rcases a5 with a5 | a5
    ·omega
    ·cases q:bey O rk left key (kyd arr (base+i)) with
     | false=>rfl
     | true=>rw [anti (hint+o) i (by omega) h2 q] at a5;exact absurd a5.2 (by simp)
   ·dsimp only
    by_cases hge:l≥r
    ·rw [if_pos hge];exact wpS_pure (c1 hge)
    ·rw [if_neg hge]
     refine wpS_bind (bey1 (l+(r - l) / 2) _ (by omega) ?_)
     cases hb3:bey O rk left key (kyd arr (base+(l+(r - l) / 2))) with
     | true=>exact wpS_pure (c2 (by omega) hb3)
     | false=>exact wpS_pure (c3 (by omega) hb3)
 | false=>
  rw [if_neg (by simp)]
  refine wpS_bind (wpS_mono (wpS_forRange (I:=fun x c st2=>st2=st/\∃ l o,c=(none,l,o)/\l < o/\x+1≤o/\l≤hint/\bey O rk left key (kyd arr (base+(hint - l)))=false)
   (Q:=fun c st2=>st2=st/\∃ l o,c=(none,l,o)/\l < o/\l≤hint/\bey O rk left key (kyd arr (base+(hint - l)))=false/\(hint+1≤o∨o≤hint/\bey O rk left key (kyd arr (base+(hint - o)))=true)) ?_ ?_ ?_) ?_)
  ·rintro x c st2 _ hx ⟨rfl,l,o,rfl,a1,a2,a3,a4⟩
   dsimp only
   by_cases ho:o≥hint+1
   ·rw [if_pos ho];exact wpS_pure ⟨rfl,l,o,rfl,a1,a3,a4,.inl ho⟩
   ·rw [if_neg ho]
    refine wpS_bind (bey1 (hint - o) _ (by omega) ?_)
    cases hb2:bey O rk left key (kyd arr (base+(hint - o))) with
    | false=>exact wpS_pure ⟨rfl,o,2*o+1,rfl,by omega,by omega,by omega,hb2⟩
    | true=>exact wpS_pure ⟨rfl,l,o,rfl,a1,a3,a4,.inr ⟨by omega,hb2⟩⟩
  ·rintro c st2 ⟨rfl,l,o,rfl,a1,a2,a3,a4⟩
   exact⟨rfl,l,o,rfl,a1,a3,a4,.inl (by omega)⟩
  ·exact⟨rfl,0,1,rfl,by omega,by omega,by omega,hb⟩
  ·rintro c st2 ⟨rfl,l,o,rfl,a1,a3,a4,a5⟩
   dsimp only
   refine bin _ _ (by omega) (by omega) (fun i hi=>?_) (fun i h1 h2=>?_) _ _ (fun x l r Q' b1 b2 c1 c2 c3=>?_) fun l r=>rfl
   ·rcases a5 with a5 | a5
    ·omega
    ·exact anti i (hint - o) (by omega) (by omega) a5.2
   ·cases q:bey O rk left key (kyd arr (base+i)) with
    | false=>rfl
    | true=>rw [anti (hint - l) i (by omega) h2 q] at a4;cases a4
   ·dsimp only
    by_cases hge:l≥r
    ·rw [if_pos hge];exact wpS_pure (c1 hge)
    ·rw [if_neg hge]
     refine wpS_bind (bey1 (l+(r - l) / 2) _ (by omega) ?_)
     cases hb3:bey O rk left key (kyd arr (base+(l+(r - l) / 2))) with
     | true=>exact wpS_pure (c2 (by omega) hb3)
     | false=>exact wpS_pure (c3 (by omega) hb3)
end
end L2
namespace L2
open PySem PySem.Spec PyProof.Rows
section
variable {O:KeyOrd}{rk:Keyed->O.α}
noncomputable def mrg (O:KeyOrd) (rk:Keyed->O.α) (xs ys:List Keyed):List Keyed:=List.merge xs ys fun x y=>!O.blt (rk y) (rk x)
theorem mrg_nil (xs:List Keyed):mrg O rk xs []=xs:=by unfold mrg;simp
theorem nil_mrg (ys:List Keyed):mrg O rk [] ys=ys:=by unfold mrg;simp
theorem mrg_l {x y:Keyed}{xs ys:List Keyed} (h:O.blt (rk y) (rk x)=false):mrg O rk (x::xs) (y::ys)=x::mrg O rk xs (y::ys):=by
 unfold mrg;rw [List.cons_merge_cons,h];rfl
theorem mrg_r {x y:Keyed}{xs ys:List Keyed} (h:O.blt (rk y) (rk x)=true):mrg O rk (x::xs) (y::ys)=y::mrg O rk (x::xs) ys:=by
 unfold mrg;rw [List.cons_merge_cons,h];rfl
theorem mrg_one {x:Keyed}:∀ {ys:List Keyed},(∀ y ∈ ys,O.blt (rk y) (rk x)=true)->mrg O rk [x] ys=ys++[x]
 | [],_=>mrg_nil _
 | y::ys,h=>by rw [mrg_r (h y List.mem_cons_self),mrg_one fun z hz=>h z (List.mem_cons_of_mem _ hz)];rfl
theorem mrg_lastL {x:Keyed}:∀ (xs ys:List Keyed),(∀ y ∈ ys,O.blt (rk y) (rk x)=true)->mrg O rk (xs++[x]) ys=mrg O rk xs ys++[x]
 | [],ys,h=>by rw [List.nil_append,mrg_one h,nil_mrg]
 | a::xs,[],h=>by rw [mrg_nil,mrg_nil]
 | a::xs,y::ys,h=>by
  rw [List.cons_append]
  cases hb:O.blt (rk y) (rk a) with
  | true=>rw [mrg_r hb,mrg_r hb,←List.cons_append,mrg_lastL (a::xs) ys fun z hz=>h z (List.mem_cons_of_mem _ hz)];rfl
  | false=>rw [mrg_l hb,mrg_l hb,mrg_lastL xs (y::ys) h];rfl
termination_by xs ys=>xs.length+ys.length
theorem one_mrg {y:Keyed}:∀ {xs:List Keyed},(∀ x ∈ xs,O.blt (rk y) (rk x)=false)->mrg O rk xs [y]=xs++[y]
 | [],_=>nil_mrg _
 | x::xs,h=>by rw [mrg_l (h x List.mem_cons_self),one_mrg fun z hz=>h z (List.mem_cons_of_mem _ hz)];rfl
theorem mrg_lastR {y:Keyed}:∀ (xs ys:List Keyed),(∀ x ∈ xs,O.blt (rk y) (rk x)=false)->mrg O rk xs (ys++[y])=mrg O rk xs ys++[y]
 | xs,[],h=>by rw [List.nil_append,one_mrg h,mrg_nil]
 | [],b::ys,h=>by rw [nil_mrg,nil_mrg]
 | a::xs,b::ys,h=>by
  rw [List.cons_append]
  cases hb:O.blt (rk b) (rk a) with
  | true=>rw [mrg_r hb,mrg_r hb,mrg_lastR (a::xs) ys h];rfl
  | false=>rw [mrg_l hb,mrg_l hb,←List.cons_append,mrg_lastR xs (b::ys) fun z hz=>h z (List.mem_cons_of_mem _ hz)];rfl
termination_by xs ys=>xs.length+ys.length
theorem mrg_perm (xs ys:List Keyed):(mrg O rk xs ys).Perm (xs++ys):=List.merge_perm_append _
theorem mrg_up {xs ys:List Keyed} (hx:xs.Pairwise fun a b=>O.kle (rk a) (rk b)) (hy:ys.Pairwise fun a b=>O.kle (rk a) (rk b)):(mrg O rk xs ys).Pairwise fun a b=>O.kle (rk a) (rk b):=by
 have:=List.pairwise_merge (le:=fun x y=>!O.blt (rk y) (rk x)) (fun a b c h1 h2=>by
   simp only [Bool.not_eq_true'] at *;exact KeyOrd.kle_trans (O:=O) h1 h2) (fun a b=>by
   simp only [Bool.or_eq_true,Bool.not_eq_true']
   cases h:O.blt (rk b) (rk a) with
   | false=>exact .inl rfl
   | true=>exact .inr (KeyOrd.klt_asymm (O:=O) h)) xs ys (hx.imp fun h=>by rw [Bool.not_eq_true'];exact h) (hy.imp fun h=>by rw [Bool.not_eq_true'];exact h)
 exact this.imp fun h=>by rw [Bool.not_eq_true'] at h;exact h
theorem drop_kyd {a:Array Keyed}{i:Nat} (h:i < a.size):a.toList.drop i=kyd a i::a.toList.drop (i+1):=by
 have e:=kyd_at h
 rw [Array.getElem?_eq_getElem h] at e
 rw [List.drop_eq_getElem_cons (by simpa using h)]
 rw [←Option.some.inj e];simp
theorem take_kyd {a:Array Keyed}{i:Nat} (h:i < a.size):a.toList.take (i+1)=a.toList.take i++[kyd a i]:=by
 have e:=kyd_at h
 rw [Array.getElem?_eq_getElem h] at e
 rw [List.take_succ_eq_append_getElem (by simpa using h)]
 rw [←Option.some.inj e];simp
theorem mem_kyd {a:Array Keyed}{x:Keyed} (h:x ∈ a.toList):∃ i,i < a.size/\x=kyd a i:=by
 obtain⟨i,hi,e⟩:=List.mem_iff_getElem.mp h
 have hi':i < a.size:=by simpa using hi
 refine⟨i,hi',?_⟩
 have q:=kyd_at hi'
 rw [Array.getElem?_eq_getElem hi'] at q
 rw [←Option.some.inj q,←e];simp
noncomputable def MI (O:KeyOrd) (rk:Keyed->O.α) (a b out:Array Keyed) (ia ib:Nat):Prop:=out.toList++mrg O rk (a.toList.drop ia) (b.toList.drop ib)=mrg O rk a.toList b.toList
variable {a b out:Array Keyed}{ia ib:Nat}
theorem MI.start:MI O rk a b #[] 0 0:=by unfold MI;simp
theorem MI.b1 (h:MI O rk a b out ia ib) (hb:ib < b.size) (ha:ia < a.size) (hl:O.blt (rk (kyd b ib)) (rk (kyd a ia))=true):MI O rk a b (out.push (kyd b ib)) ia (ib+1):=by
 unfold MI at *
 rw [drop_kyd ha,drop_kyd hb,mrg_r hl] at h
 rw [←h,drop_kyd ha];simp
theorem MI.a1 (h:MI O rk a b out ia ib) (hb:ib < b.size) (ha:ia < a.size) (hl:O.blt (rk (kyd b ib)) (rk (kyd a ia))=false):MI O rk a b (out.push (kyd a ia)) (ia+1) ib:=by
 unfold MI at *
 rw [drop_kyd ha,drop_kyd hb,mrg_l hl] at h
 rw [←h,drop_kyd hb];simp
theorem ext_more {a:Array Keyed}{i k:Nat} (h:i+k < a.size):(out++a.extract i (i+(k+1)))=(out++a.extract i (i+k)).push (kyd a (i+k)):=by
 apply Array.toList_inj.mp
 rw [Array.toList_push,Array.toList_append,Array.toList_append,Array.toList_extract,Array.toList_extract]
 simp only [List.extract_eq_take_drop,Nat.add_sub_cancel_left]
 have e:(a.toList.drop i).take (k+1)=(a.toList.drop i).take k++[kyd a (i+k)]:=by
  rw [List.take_succ_eq_append_getElem (by simp;omega)]
  have q:=kyd_at h
  rw [Array.getElem?_eq_getElem h] at q
  rw [←Option.some.inj q];simp
 rw [e,List.append_assoc]
theorem ext_none {a:Array Keyed}{i:Nat}:out++a.extract i (i+0)=out:=by
 apply Array.toList_inj.mp
 simp
theorem MI.as (h:MI O rk a b out ia ib) (hb:ib < b.size):∀ k,ia+k≤a.size->(∀ i,i < k->bey O rk false (kyd b ib) (kyd a (ia+i))=true)->MI O rk a b (out++a.extract ia (ia+k)) (ia+k) ib
 | 0,_,_=>by rw [ext_none];exact h
 | k+1,hk,hq=>by
  rw [ext_more (by omega)]
  have:=MI.a1 (MI.as h hb k (by omega) fun i hi=>hq i (by omega)) hb (by omega) (by simpa [bey] using hq k (by omega))
  exact this
theorem MI.bs (h:MI O rk a b out ia ib) (ha:ia < a.size):∀ k,ib+k≤b.size->(∀ i,i < k->bey O rk true (kyd a ia) (kyd b (ib+i))=true)->MI O rk a b (out++b.extract ib (ib+k)) ia (ib+k)
 | 0,_,_=>by rw [ext_none];exact h
 | k+1,hk,hq=>by
  rw [ext_more (by omega)]
  exact MI.b1 (MI.bs h ha k (by omega) fun i hi=>hq i (by omega)) (by omega) ha (by simpa [bey] using hq k (by omega))
theorem ext_all {a:Array Keyed}{i:Nat}:(a.extract i a.size).toList=a.toList.drop i:=by
 rw [Array.toList_extract,List.extract_eq_take_drop,List.take_of_length_le (by simp)]
theorem MI.doneB (h:MI O rk a b out ia ib) (hb:ib=b.size):(out++a.extract ia a.size++b.extract ib b.size).toList=mrg O rk a.toList b.toList:=by
 unfold MI at h
 subst hb
 rw [Array.toList_append,Array.toList_append,ext_all,ext_all,←h]
 rw [show b.toList.drop b.size=[] by simp,mrg_nil,List.append_nil]
theorem MI.doneA (h:MI O rk a b out ia ib) (ha:ia=a.size):(out++a.extract ia a.size++b.extract ib b.size).toList=mrg O rk a.toList b.toList:=by
 unfold MI at h
 subst ha
 rw [Array.toList_append,Array.toList_append,ext_all,ext_all,←h]
 rw [show a.toList.drop a.size=[] by simp,nil_mrg,List.append_nil]
theorem MI.lastA (h:MI O rk a b out ia ib) (ha:ia+1=a.size) (hl:∀ i,i < b.size->O.blt (rk (kyd b i)) (rk (kyd a (a.size - 1)))=true):(out++b.extract ib b.size++a.extract ia a.size).toList=mrg O rk a.toList b.toList:=by
 unfold MI at h
 rw [Array.toList_append,Array.toList_append,ext_all,ext_all,←h,drop_kyd (by omega:ia < a.size),show a.toList.drop (ia+1)=[] by simp;omega,mrg_one,List.append_assoc]
 intro y hy
 obtain⟨i,hi,rfl⟩:=mem_kyd (List.mem_of_mem_drop hy)
 rw [show ia=a.size - 1 by omega]
 exact hl i hi
noncomputable def MH (O:KeyOrd) (rk:Keyed->O.α) (a b out:Array Keyed) (na nb:Nat):Prop:=mrg O rk (a.toList.take na) (b.toList.take nb)++out.toList.reverse=mrg O rk a.toList b.toList
variable {na nb:Nat}
theorem MH.start:MH O rk a b #[] a.size b.size:=by
 unfold MH
 rw [List.take_of_length_le (by simp),List.take_of_length_le (by simp)];simp
theorem MH.a1 (h:MH O rk a b out (na+1) nb) (ha:na < a.size) (hl:∀ i,i < nb->i < b.size->O.blt (rk (kyd b i)) (rk (kyd a na))=true):MH O rk a b (out.push (kyd a na)) na nb:=by
 unfold MH at *
 rw [take_kyd ha,mrg_lastL _ _ fun y hy=>?_] at h
 ·rw [←h];simp
 ·obtain⟨i,hi,e⟩:=List.mem_iff_getElem.mp hy
  have hi':i < nb/\i < b.size:=by simp at hi;omega
  have q:=kyd_at hi'.2
  rw [Array.getElem?_eq_getElem hi'.2] at q
  have:y=kyd b i:=by rw [←e,←Option.some.inj q];simp
  rw [this];exact hl i hi'.1 hi'.2
theorem MH.b1 (h:MH O rk a b out na (nb+1)) (hb:nb < b.size) (hl:∀ i,i < na->i < a.size->O.blt (rk (kyd b nb)) (rk (kyd a i))=false):MH O rk a b (out.push (kyd b nb)) na nb:=by
 unfold MH at *
 rw [take_kyd hb,mrg_lastR _ _ fun y hy=>?_] at h
 ·rw [←h];simp
 ·obtain⟨i,hi,e⟩:=List.mem_iff_getElem.mp hy
  have hi':i < na/\i < a.size:=by simp at hi;omega
  have q:=kyd_at hi'.2
  rw [Array.getElem?_eq_getElem hi'.2] at q
  have:y=kyd a i:=by rw [←e,←Option.some.inj q];simp
  rw [this];exact hl i hi'.1 hi'.2
end
end L2
namespace L2
open PySem PySem.Spec PyProof.Rows
section
variable {prog:Program}{w:World}{A:Around}{E:Value->Shared->Prop}{s:Shared}{κ:SortKind}{O:KeyOrd}{rk:Keyed->O.α}{S:Keyed->Prop}{st:SortSt}{a b:Array Keyed}
noncomputable def Gs (st st':SortSt):Prop:=∃ g,st'=setGal st g
theorem Gs.refl:Gs st st:=⟨gallopOf st,rfl⟩
theorem Gs.kind {st':SortSt} (h:Gs st st'):kindOf st'=kindOf st:=by obtain⟨g,rfl⟩:=h;rfl
theorem Gs.set {st':SortSt} (h:Gs st st') (g:Nat):Gs st (SortSt.mk' (kindOf st') (arrOf st') (pendingOf st') g (failedOf st')):=by obtain⟨g',rfl⟩:=h;exact⟨g,rfl⟩
structure Two (O:KeyOrd) (rk:Keyed->O.α) (S:Keyed->Prop) (a b:Array Keyed):Prop where
 sa:∀ i,i < a.size->S (kyd a i)
 sb:∀ i,i < b.size->S (kyd b i)
 ua:Up rk a 0 a.size
 ub:Up rk b 0 b.size
 pa:0 < a.size
 pb:0 < b.size
 first:O.blt (rk (kyd b 0)) (rk (kyd a 0))=true
 last:∀ i,i < b.size->O.blt (rk (kyd b i)) (rk (kyd a (a.size - 1)))=true
theorem Two.galA (T:Two O rk S a b) {ia na:Nat}{key:Keyed} (hn:ia+na≤a.size):∀ i j,i≤j->j < na->bey O rk false key (kyd a (ia+j))=true->bey O rk false key (kyd a (ia+i))=true:=fun i j hij hj h=>by
 simp only [bey,Bool.false_eq_true,if_false,Bool.not_eq_true'] at h ⊢
 exact KeyOrd.kle_trans (O:=O) (T.ua (ia+i) (ia+j) (Nat.zero_le _) (by omega) (by omega)) h
theorem Two.galB (T:Two O rk S a b) {ib nb:Nat}{key:Keyed} (hn:ib+nb≤b.size):∀ i j,i≤j->j < nb->bey O rk true key (kyd b (ib+j))=true->bey O rk true key (kyd b (ib+i))=true:=fun i j hij hj h=>by
 simp only [bey,if_true] at h ⊢
 exact KeyOrd.klt_of_kle_of_klt (O:=O) (T.ub (ib+i) (ib+j) (Nat.zero_le _) (by omega) (by omega)) h
set_option maxHeartbeats 4000000 in
theorem ws_mgLo (hC:Cm prog w A s κ O rk S) {Q:Array Keyed->SortSt->Prop} (hk:kindOf st=κ) (T:Two O rk S a b)
  (h:∀ r st',Gs st st'->r.toList=mrg O rk a.toList b.toList->Q r st'):wpS (model prog w) A E s (mgLoT a b) Q st:=by
 refine wpS_bind (ws_rule ?_)
 refine wpS_bind (ws_elem (kyd_at T.pb) ?_)
 have I0:MI O rk a b #[kyd b 0] 0 1:=MI.start.b1 T.pb T.pa T.first
 dsimp -zeta only
 by_cases e1:1=b.size
 ·rw [if_pos (by simpa using e1)]
  exact wpS_pure (h _ _ .refl (I0.doneB e1))
 rw [if_neg (by simpa using e1)]
 by_cases e2:0+1=a.size
 ·rw [if_pos (by simpa using e2)]
  exact wpS_pure (h _ _ .refl (I0.lastA e2 T.last))
 rw [if_neg (by simpa using e2)]
 have pa:=T.pa
 have pb:=T.pb
 refine wpS_bind (wpS_get ?_)
 refine wpS_bind (wpS_mono (wpS_forRange (I:=fun x c st'=>∃ out ia ib g,c=(none,out,ia,ib,g)/\MI O rk a b out ia ib/\ia+1 < a.size/\ib < b.size/\x+1≤ia+ib/\Gs st st')
  (Q:=fun c st'=>∃ r c',c=(some r,c')/\r.toList=mrg O rk a.toList b.toList/\Gs st st') ?_ ?_ ?_) ?_)
 ·rintro x c st' _ hx ⟨out,ia,ib,g,rfl,I,ha,hb,hp,hG⟩
  have hk':kindOf st'=κ:=hG.kind.trans hk
  refine wpS_bind (wpS_mono (wpS_forRange (I:=fun y c st2=>st2=st'/\∃ out ja jb ac bc,c=(none,out,ja,jb,ac,bc)/\MI O rk a b out ja jb/\ja+1 < a.size/\jb < b.size/\ia+ib+y≤ja+jb)
   (Q:=fun c st2=>st2=st'/\((∃ r c',c=(some r,c')/\r.toList=mrg O rk a.toList b.toList)∨∃ out ja jb ac bc,c=(none,out,ja,jb,ac,bc)/\MI O rk a b out ja jb/\ja+1 < a.size/\jb < b.size/\ia+ib+1≤ja+jb)) ?_ ?_ ?_) ?_)
  ·rintro y c st2 _ hy ⟨rfl,out2,ja,jb,ac,bc,rfl,I2,ha2,hb2,hp2⟩
   dsimp only
   refine wpS_bind (ws_elem (kyd_at hb2) (wpS_bind (ws_elem (kyd_at (by omega)) (wpS_bind (ws_lt hC hk' (T.sb _ hb2) (T.sa _ (by omega)) ?_)))))
   cases hl:O.blt (rk (kyd b jb)) (rk (kyd a ja)) with
   | true=>
    dsimp only
    rw [if_pos rfl]
    refine wpS_bind (ws_elem (kyd_at hb2) ?_)
    have I3:=I2.b1 hb2 (by omega) hl
    by_cases e3:jb+1=b.size
    ·rw [if_pos (by simpa using e3)]
     exact wpS_pure ⟨rfl,.inl ⟨_,_,rfl,I3.doneB e3⟩⟩
    ·rw [if_neg (by simpa using e3)]
     split
     ·exact wpS_pure ⟨rfl,.inr ⟨_,_,_,_,_,rfl,I3,ha2,by omega,by omega⟩⟩
     ·exact wpS_pure ⟨rfl,_,_,_,_,_,rfl,I3,ha2,by omega,by omega⟩
   | false=>
    dsimp only
    rw [if_neg (by simp)]
    refine wpS_bind (ws_elem (kyd_at (by omega)) ?_)
    have I3:=I2.a1 hb2 (by omega) hl
    by_cases e3:ja+1+1=a.size
    ·rw [if_pos (by simpa using e3)]
     exact wpS_pure ⟨rfl,.inl ⟨_,_,rfl,I3.lastA e3 T.last⟩⟩
    ·rw [if_neg (by simpa using e3)]
     split
     ·exact wpS_pure ⟨rfl,.inr ⟨_,_,_,_,_,rfl,I3,by omega,hb2,by omega⟩⟩
     ·exact wpS_pure ⟨rfl,_,_,_,_,_,rfl,I3,by omega,hb2,by omega⟩
  ·rintro c st2 ⟨rfl,out2,ja,jb,ac,bc,rfl,I2,ha2,hb2,hp2⟩
   exact⟨rfl,.inr ⟨_,_,_,_,_,rfl,I2,ha2,hb2,by omega⟩⟩
  ·exact⟨rfl,out,ia,ib,0,0,rfl,I,ha,hb,by omega⟩
  ·rintro c st2 ⟨rfl,⟨r,c',rfl,hr⟩ | ⟨out2,ja,jb,ac,bc,rfl,I2,ha2,hb2,hp2⟩⟩
   ·exact wpS_pure ⟨_,_,rfl,hr,hG⟩
   refine wpS_bind (ws_rule ?_)
   refine wpS_bind (wpS_mono (wpS_forRange (I:=fun y c st3=>Gs st st3/\∃ out ja jb g ac bc,c=(none,out,ja,jb,g,ac,bc)/\MI O rk a b out ja jb/\ja+1 < a.size/\jb < b.size/\ia+ib+1≤ja+jb)
    (Q:=fun c st3=>Gs st st3/\((∃ r c',c=(some r,c')/\r.toList=mrg O rk a.toList b.toList)∨∃ out ja jb g ac bc,c=(none,out,ja,jb,g,ac,bc)/\MI O rk a b out ja jb/\ja+1 < a.size/\jb < b.size/\ia+ib+1≤ja+jb)) ?_ ?_ ?_) ?_)
   ·rintro y c st3 _ hy ⟨hG3,out3,ja,jb,g3,ac,bc,rfl,I3,ha3,hb3,hp3⟩
    dsimp -zeta only
    have gal1:∀ (g4:Nat) (Q':Option Nat->SortSt->Prop),(∀ k,k≤a.size - ja->(∀ i,i < k->bey O rk false (kyd b jb) (kyd a (ja+i))=true)->(∀ i,k≤i->i < a.size - ja->bey O rk false (kyd b jb) (kyd a (ja+i))=false)->Q' (some k) (SortSt.mk' (kindOf st3) (arrOf st3) (pendingOf st3) g4 (failedOf st3)))->
      wpS (model prog w) A E s (gallopT false (kyd b jb) a ja (a.size - ja) 0) Q' (SortSt.mk' (kindOf st3) (arrOf st3) (pendingOf st3) g4 (failedOf st3)):=fun g4 Q' hq=>
     ws_gallop hC (hG3.kind.trans hk) (T.sb _ hb3) (by omega) (fun i hi=>T.sa _ (by omega)) (by omega) (T.galA (by omega)) hq
    dsimp only
    by_cases hg1:g3 > 1
    case' pos=>rw [if_pos hg1]
    case' neg=>rw [if_neg hg1]
    all_goals
     refine wpS_bind (wpS_modify ?_)
     refine wpS_bind (ws_elem (kyd_at hb3) (wpS_bind (gal1 _ _ fun k hk1 hk2 hk3=>?_)))
     have I4:=I3.as hb3 k (by omega) hk2
     dsimp only
     by_cases hk0:k > 0
     case' pos=>
      rw [if_pos hk0]
      by_cases e3:ja+k+1=a.size
      ·rw [if_pos (by simpa using e3)]
       exact wpS_pure ⟨hG3.set _,.inl ⟨_,_,rfl,I4.lastA e3 T.last⟩⟩
      rw [if_neg (by simpa using e3)]
      by_cases e4:ja+k=a.size
      ·rw [if_pos (by simpa using e4)]
       exact wpS_pure ⟨hG3.set _,.inl ⟨_,_,rfl,I4.doneA e4⟩⟩
      rw [if_neg (by simpa using e4)]
      have hb5:O.blt (rk (kyd b jb)) (rk (kyd a (ja+k)))=true:=by simpa [bey] using hk3 k (Nat.le_refl _) (by omega)
      have ha5:ja+k+1 < a.size:=by omega
      have hp5:ia+ib+1≤ja+k+jb:=by omega
      generalize out3++a.extract ja (ja+k)=out5 at I4 ⊢
      generalize ja+k=ja5 at I4 hb5 ha5 hp5 ⊢
      clear gal1 hk1 hk2 hk3
     case' neg=>
      rw [if_neg hk0]
      have hb5:O.blt (rk (kyd b jb)) (rk (kyd a ja))=true:=by simpa [bey] using hk3 0 (by omega) (by omega)
      have ha5:ja+1 < a.size:=ha3
      have hp5:ia+ib+1≤ja+jb:=hp3
      clear I4
      have I4:=I3
      revert I4
      generalize out3=out5
      intro I4
      clear gal1 hk1 hk2 hk3
      revert I4 hb5 ha5 hp5
      generalize ja=ja5
      intro hb5 ha5 hp5 I4
     all_goals
      refine wpS_bind (ws_elem (kyd_at hb3) ?_)
      have I5:=I4.b1 hb3 (by omega) hb5
      by_cases e5:jb+1=b.size
      ·rw [if_pos (by simpa using e5)]
       exact wpS_pure ⟨hG3.set _,.inl ⟨_,_,rfl,I5.doneB e5⟩⟩
      rw [if_neg (by simpa using e5)]
      refine wpS_bind (ws_elem (kyd_at (by omega)) (wpS_bind (ws_gallop hC (hG3.kind.trans hk) (T.sa _ (by omega)) (by omega) (fun i hi=>T.sb _ (by omega)) (by omega) (T.galB (by omega)) fun k2 hk1 hk2 hk3=>?_)))
      have I6:=I5.bs (by omega) k2 (by omega) hk2
      dsimp only
      by_cases hk20:k2 > 0
      case' pos=>
       rw [if_pos hk20]
       by_cases e6:jb+1+k2=b.size
       ·rw [if_pos (by simpa using e6)]
        exact wpS_pure ⟨hG3.set _,.inl ⟨_,_,rfl,I6.doneB e6⟩⟩
       rw [if_neg (by simpa using e6)]
       have hb7:O.blt (rk (kyd b (jb+1+k2))) (rk (kyd a ja5))=false:=by simpa [bey] using hk3 k2 (Nat.le_refl _) (by omega)
       have hj7:jb+1+k2 < b.size:=by omega
       have hp7:ia+ib+1≤ja5+1+(jb+1+k2):=by omega
       generalize out5.push (kyd b jb)++b.extract (jb+1) (jb+1+k2)=out7 at I6 ⊢
       generalize jb+1+k2=jb7 at I6 hb7 hj7 hp7 ⊢
      case' neg=>
       rw [if_neg hk20]
       have hb7:O.blt (rk (kyd b (jb+1))) (rk (kyd a ja5))=false:=by simpa [bey] using hk3 0 (by omega) (by omega)
       have hj7:jb+1 < b.size:=by omega
       have hp7:ia+ib+1≤ja5+1+(jb+1):=by omega
       clear I6
       have I6:=I5
       clear I5 I4 hk1 hk2 hk3 e5
       revert I6 hb7 hj7 hp7
       generalize out5.push (kyd b jb)=out7
       generalize jb+1=jb7
       intro hb7 hj7 hp7 I6
      all_goals
       refine wpS_bind (ws_elem (kyd_at (by omega)) ?_)
       have I7:=I6.a1 hj7 (by omega) hb7
       by_cases e7:ja5+1+1=a.size
       ·rw [if_pos (by simpa using e7)]
        exact wpS_pure ⟨hG3.set _,.inl ⟨_,_,rfl,I7.lastA e7 T.last⟩⟩
       rw [if_neg (by simpa using e7)]
       split
       ·exact wpS_pure ⟨hG3.set _,.inr ⟨_,_,_,_,_,_,rfl,I7,by omega,hj7,hp7⟩⟩
       ·exact wpS_pure ⟨hG3.set _,_,_,_,_,_,_,rfl,I7,by omega,hj7,hp7⟩
   ·rintro c st3 ⟨hG3,out3,ja,jb,g3,ac,bc,rfl,I3,ha3,hb3,hp3⟩
    exact⟨hG3,.inr ⟨_,_,_,_,_,_,rfl,I3,ha3,hb3,hp3⟩⟩
   ·exact⟨hG,_,_,_,_,_,_,rfl,I2,ha2,hb2,hp2⟩
   ·rintro c st3 ⟨hG3,⟨r,c',rfl,hr⟩ | ⟨out3,ja,jb,g3,ac,bc,rfl,I3,ha3,hb3,hp3⟩⟩
    ·exact wpS_pure ⟨_,_,rfl,hr,hG3⟩
    ·refine wpS_bind (wpS_modify (wpS_pure ⟨out3,ja,jb,_,rfl,I3,ha3,hb3,by omega,hG3.set _⟩))
 ·rintro c st' ⟨out,ia,ib,g,rfl,I,ha,hb,hp,hG⟩
  exfalso;omega
 ·exact⟨_,_,_,_,rfl,I0,by omega,by omega,by omega,.refl⟩
 ·rintro c st' ⟨r,c',rfl,hr,hG⟩
  exact wpS_pure (h r st' hG hr)
end
end L2
namespace L2
open PySem PySem.Spec PyProof.Rows
section
variable {prog:Program}{w:World}{A:Around}{E:Value->Shared->Prop}{s:Shared}{κ:SortKind}{O:KeyOrd}{rk:Keyed->O.α}{S:Keyed->Prop}{st:SortSt}{a b out:Array Keyed}{na nb:Nat}
theorem ext_to {a:Array Keyed}{n:Nat}:(a.extract 0 n).toList=a.toList.take n:=by
 rw [Array.toList_extract,List.extract_eq_take_drop];simp
theorem MH.doneA (h:MH O rk a b out na nb) (e:na=0):(a.extract 0 na++b.extract 0 nb++out.reverse).toList=mrg O rk a.toList b.toList:=by
 unfold MH at h
 subst e
 rw [Array.toList_append,Array.toList_append,ext_to,ext_to,Array.toList_reverse,←h,List.take_zero,nil_mrg,List.nil_append]
theorem MH.doneB (h:MH O rk a b out na nb) (e:nb=0):(a.extract 0 na++b.extract 0 nb++out.reverse).toList=mrg O rk a.toList b.toList:=by
 unfold MH at h
 subst e
 rw [Array.toList_append,Array.toList_append,ext_to,ext_to,Array.toList_reverse,←h,List.take_zero,mrg_nil,List.append_nil]
theorem MH.firstB (T:Two O rk S a b) (h:MH O rk a b out na nb) (ha:0 < na) (e:nb=1):(b.extract 0 nb++a.extract 0 na++out.reverse).toList=mrg O rk a.toList b.toList:=by
 unfold MH at h
 subst e
 have e1:b.toList.take 1=[kyd b 0]:=by rw [take_kyd T.pb];simp
 have e2:a.toList.take na=kyd a 0::(a.toList.drop 1).take (na - 1):=by
  obtain⟨m,rfl⟩:∃ m,na=m+1:=⟨na - 1,by omega⟩
  have:=drop_kyd T.pa
  rw [List.drop_zero] at this
  rw [this];simp
 rw [Array.toList_append,Array.toList_append,ext_to,ext_to,Array.toList_reverse,←h,e1,e2,mrg_r T.first,mrg_nil]
 rfl
theorem Two.belowB (T:Two O rk S a b) {i j:Nat}{x:Keyed} (hij:i≤j) (hj:j < b.size) (h:O.blt (rk (kyd b j)) (rk x)=true):O.blt (rk (kyd b i)) (rk x)=true:=
 KeyOrd.klt_of_kle_of_klt (O:=O) (T.ub i j (Nat.zero_le _) hij (by omega)) h
theorem Two.belowA (T:Two O rk S a b) {i j:Nat}{x:Keyed} (hij:i≤j) (hj:j < a.size) (h:O.blt (rk x) (rk (kyd a j))=false):O.blt (rk x) (rk (kyd a i))=false:=
 KeyOrd.kle_trans (O:=O) (T.ua i j (Nat.zero_le _) hij (by omega)) h
theorem rev_more {a:Array Keyed}{t k:Nat} (h:t+k < a.size):out++(a.extract t (t+(k+1))).reverse=(out.push (kyd a (t+k)))++(a.extract t (t+k)).reverse:=by
 apply Array.toList_inj.mp
 have e:=ext_more (out:=#[]) (a:=a) (i:=t) (k:=k) h
 have e':a.extract t (t+(k+1))=(a.extract t (t+k)).push (kyd a (t+k)):=by
  have z:∀ x:Array Keyed,#[]++x=x:=fun x=>by simp
  rw [z,z] at e;exact e
 rw [e'];simp
theorem MH.as (T:Two O rk S a b) {t:Nat} (hb:∀ i,i < nb->i < b.size->∀ j,t≤j->j < a.size->O.blt (rk (kyd b i)) (rk (kyd a j))=true):∀ (k:Nat) {out:Array Keyed},MH O rk a b out (t+k) nb->t+k≤a.size->MH O rk a b (out++(a.extract t (t+k)).reverse) t nb
 | 0,out,h,_=>by
  have:out++(a.extract t (t+0)).reverse=out:=by apply Array.toList_inj.mp;simp
  rw [this];exact h
 | k+1,out,h,hz=>by
  rw [rev_more (by omega)]
  exact MH.as T hb k (MH.a1 (na:=t+k) h (by omega) fun i h1 h2=>hb i h1 h2 (t+k) (by omega) (by omega)) (by omega)
theorem MH.bs (T:Two O rk S a b) {t:Nat} (hb:∀ i,i < na->i < a.size->∀ j,t≤j->j < b.size->O.blt (rk (kyd b j)) (rk (kyd a i))=false):∀ (k:Nat) {out:Array Keyed},MH O rk a b out na (t+k)->t+k≤b.size->MH O rk a b (out++(b.extract t (t+k)).reverse) na t
 | 0,out,h,_=>by
  have:out++(b.extract t (t+0)).reverse=out:=by apply Array.toList_inj.mp;simp
  rw [this];exact h
 | k+1,out,h,hz=>by
  rw [rev_more (by omega)]
  exact MH.bs T hb k (MH.b1 (nb:=t+k) h (by omega) fun i h1 h2=>hb i h1 h2 (t+k) (by omega) (by omega)) (by omega)
theorem MH.a1' (T:Two O rk S a b) (h:MH O rk a b out na nb) (ha:0 < na) (hz:na≤a.size) (hb:0 < nb) (hz2:nb≤b.size) (hl:O.blt (rk (kyd b (nb - 1))) (rk (kyd a (na - 1)))=true):MH O rk a b (out.push (kyd a (na - 1))) (na - 1) nb:=
 MH.a1 (by rw [show na - 1+1=na by omega];exact h) (by omega) fun i h1 h2=>T.belowB (by omega) (by omega) hl
theorem MH.b1' (T:Two O rk S a b) (h:MH O rk a b out na nb) (ha:0 < na) (hz:na≤a.size) (hb:0 < nb) (hz2:nb≤b.size) (hl:O.blt (rk (kyd b (nb - 1))) (rk (kyd a (na - 1)))=false):MH O rk a b (out.push (kyd b (nb - 1))) na (nb - 1):=
 MH.b1 (by rw [show nb - 1+1=nb by omega];exact h) (by omega) fun i h1 h2=>T.belowA (by omega) (by omega) hl
theorem MH.as' (T:Two O rk S a b) {t:Nat} (h:MH O rk a b out na nb) (ht:t≤na) (hz:na≤a.size) (hb:0 < nb) (hz2:nb≤b.size) (hq:∀ i,t≤i->i < na->bey O rk false (kyd b (nb - 1)) (kyd a (0+i))=false):MH O rk a b (out++(a.extract t na).reverse) t nb:=by
 by_cases e:t=na
 ·subst e
  have:out++(a.extract t t).reverse=out:=by apply Array.toList_inj.mp;simp
  rw [this];exact h
 have e2:t+(na - t)=na:=by omega
 have:=MH.as T (t:=t) (nb:=nb) (a:=a) (b:=b) (fun i h1 h2 j h3 h4=>?_) (na - t) (out:=out) (by rw [e2];exact h) (by omega)
 ·rw [e2] at this;exact this
 ·have q:=hq t (Nat.le_refl _) (by omega)
  simp only [bey,Bool.false_eq_true,if_false,Bool.not_eq_false',Nat.zero_add] at q
  exact T.belowB (j:=nb - 1) (by omega) (by omega) (KeyOrd.klt_of_klt_of_kle (O:=O) q (T.ua t j (Nat.zero_le _) h3 (by omega)))
theorem MH.bs' (T:Two O rk S a b) {t:Nat} (h:MH O rk a b out na nb) (ht:t≤nb) (hz:nb≤b.size) (ha:0 < na) (hz2:na≤a.size) (hq:∀ i,t≤i->i < nb->bey O rk true (kyd a (na - 1)) (kyd b (0+i))=false):MH O rk a b (out++(b.extract t nb).reverse) na t:=by
 by_cases e:t=nb
 ·subst e
  have:out++(b.extract t t).reverse=out:=by apply Array.toList_inj.mp;simp
  rw [this];exact h
 have e2:t+(nb - t)=nb:=by omega
 have:=MH.bs T (t:=t) (na:=na) (a:=a) (b:=b) (fun i h1 h2 j h3 h4=>?_) (nb - t) (out:=out) (by rw [e2];exact h) (by omega)
 ·rw [e2] at this;exact this
 ·have q:=hq t (Nat.le_refl _) (by omega)
  simp only [bey,if_true,Nat.zero_add] at q
  exact T.belowA (j:=na - 1) (by omega) (by omega) (KeyOrd.kle_trans (O:=O) q (T.ub t j (Nat.zero_le _) h3 (by omega)))
set_option maxHeartbeats 4000000 in
theorem ws_mgHi (hC:Cm prog w A s κ O rk S) {Q:Array Keyed->SortSt->Prop} (hk:kindOf st=κ) (T:Two O rk S a b)
  (h:∀ r st',Gs st st'->r.toList=mrg O rk a.toList b.toList->Q r st'):wpS (model prog w) A E s (mgHiT a b) Q st:=by
 have pa:=T.pa
 have pb:=T.pb
 refine wpS_bind (ws_rule ?_)
 refine wpS_bind (ws_elem (kyd_at (by omega)) ?_)
 have I0:MH O rk a b #[kyd a (a.size - 1)] (a.size - 1) b.size:=by
  have e:a.size - 1+1=a.size:=by omega
  exact MH.a1 (out:=#[]) (by rw [e];exact MH.start) (by omega) fun i h1 h2=>T.last i h2
 dsimp -zeta only
 by_cases e1:a.size - 1=0
 ·rw [if_pos (by simpa using e1)]
  exact wpS_pure (h _ _ .refl (I0.doneA e1))
 rw [if_neg (by simpa using e1)]
 by_cases e2:b.size=1
 ·rw [if_pos (by simpa using e2)]
  exact wpS_pure (h _ _ .refl (I0.firstB T (by omega) e2))
 rw [if_neg (by simpa using e2)]
 refine wpS_bind (wpS_get ?_)
 refine wpS_bind (wpS_mono (wpS_forRange (I:=fun x c st'=>∃ out na nb g,c=(none,na,nb,out,g)/\MH O rk a b out na nb/\0 < na/\1 < nb/\na≤a.size/\nb≤b.size/\na+nb+x+1≤a.size+b.size/\Gs st st')
  (Q:=fun c st'=>∃ r c',c=(some r,c')/\r.toList=mrg O rk a.toList b.toList/\Gs st st') ?_ ?_ ?_) ?_)
 ·rintro x c st' _ hx ⟨out,na,nb,g,rfl,I,ha,hb,hza,hzb,hp,hG⟩
  have hk':kindOf st'=κ:=hG.kind.trans hk
  refine wpS_bind (wpS_mono (wpS_forRange (I:=fun y c st2=>st2=st'/\∃ out ma mb ac bc,c=(none,ma,mb,out,ac,bc)/\MH O rk a b out ma mb/\0 < ma/\1 < mb/\ma≤a.size/\mb≤b.size/\ma+mb+y≤na+nb)
   (Q:=fun c st2=>st2=st'/\((∃ r c',c=(some r,c')/\r.toList=mrg O rk a.toList b.toList)∨∃ out ma mb ac bc,c=(none,ma,mb,out,ac,bc)/\MH O rk a b out ma mb/\0 < ma/\1 < mb/\ma≤a.size/\mb≤b.size/\ma+mb+1≤na+nb)) ?_ ?_ ?_) ?_)
  ·rintro y c st2 _ hy ⟨rfl,out2,ma,mb,ac,bc,rfl,I2,ha2,hb2,za2,zb2,hp2⟩
   dsimp only
   refine wpS_bind (ws_elem (kyd_at (by omega)) (wpS_bind (ws_elem (kyd_at (by omega)) (wpS_bind (ws_lt hC hk' (T.sb _ (by omega)) (T.sa _ (by omega)) ?_)))))
   cases hl:O.blt (rk (kyd b (mb - 1))) (rk (kyd a (ma - 1))) with
   | true=>
    dsimp only
    rw [if_pos rfl]
    refine wpS_bind (ws_elem (kyd_at (by omega)) ?_)
    have I3:=I2.a1' T ha2 za2 (by omega) zb2 hl
    by_cases e3:ma - 1=0
    ·rw [if_pos (by simpa using e3)]
     exact wpS_pure ⟨rfl,.inl ⟨_,_,rfl,I3.doneA e3⟩⟩
    ·rw [if_neg (by simpa using e3)]
     split
     ·exact wpS_pure ⟨rfl,.inr ⟨_,_,_,_,_,rfl,I3,by omega,hb2,by omega,zb2,by omega⟩⟩
     ·exact wpS_pure ⟨rfl,_,_,_,_,_,rfl,I3,by omega,hb2,by omega,zb2,by omega⟩
   | false=>
    dsimp only
    rw [if_neg (by simp)]
    refine wpS_bind (ws_elem (kyd_at (by omega)) ?_)
    have I3:=I2.b1' T ha2 za2 (by omega) zb2 hl
    by_cases e3:mb - 1=1
    ·rw [if_pos (by simpa using e3)]
     exact wpS_pure ⟨rfl,.inl ⟨_,_,rfl,I3.firstB T ha2 e3⟩⟩
    ·rw [if_neg (by simpa using e3)]
     split
     ·exact wpS_pure ⟨rfl,.inr ⟨_,_,_,_,_,rfl,I3,ha2,by omega,za2,by omega,by omega⟩⟩
     ·exact wpS_pure ⟨rfl,_,_,_,_,_,rfl,I3,ha2,by omega,za2,by omega,by omega⟩
  ·rintro c st2 ⟨rfl,out2,ma,mb,ac,bc,rfl,I2,ha2,hb2,za2,zb2,hp2⟩
   exact⟨rfl,.inr ⟨_,_,_,_,_,rfl,I2,ha2,hb2,za2,zb2,by omega⟩⟩
  ·exact⟨rfl,out,na,nb,0,0,rfl,I,ha,hb,hza,hzb,by omega⟩
  ·rintro c st2 ⟨rfl,⟨r,c',rfl,hr⟩ | ⟨out2,ma,mb,ac,bc,rfl,I2,ha2,hb2,za2,zb2,hp2⟩⟩
   ·exact wpS_pure ⟨_,_,rfl,hr,hG⟩
   refine wpS_bind (ws_rule ?_)
   refine wpS_bind (wpS_mono (wpS_forRange (I:=fun y c st3=>Gs st st3/\∃ out ma mb g ac bc,c=(none,ma,mb,out,g,ac,bc)/\MH O rk a b out ma mb/\0 < ma/\1 < mb/\ma≤a.size/\mb≤b.size/\ma+mb+1≤na+nb)
    (Q:=fun c st3=>Gs st st3/\((∃ r c',c=(some r,c')/\r.toList=mrg O rk a.toList b.toList)∨∃ out ma mb g ac bc,c=(none,ma,mb,out,g,ac,bc)/\MH O rk a b out ma mb/\0 < ma/\1 < mb/\ma≤a.size/\mb≤b.size/\ma+mb+1≤na+nb)) ?_ ?_ ?_) ?_)
   ·rintro y c st3 _ hy ⟨hG3,out3,ma,mb,g3,ac,bc,rfl,I3,ha3,hb3,za3,zb3,hp3⟩
    have gal1:∀ (g4:Nat) (Q':Option Nat->SortSt->Prop),(∀ k,k≤ma->(∀ i,i < k->bey O rk false (kyd b (mb - 1)) (kyd a (0+i))=true)->(∀ i,k≤i->i < ma->bey O rk false (kyd b (mb - 1)) (kyd a (0+i))=false)->Q' (some k) (SortSt.mk' (kindOf st3) (arrOf st3) (pendingOf st3) g4 (failedOf st3)))->
      wpS (model prog w) A E s (gallopT false (kyd b (mb - 1)) a 0 ma (ma - 1)) Q' (SortSt.mk' (kindOf st3) (arrOf st3) (pendingOf st3) g4 (failedOf st3)):=fun g4 Q' hq=>
     ws_gallop hC (hG3.kind.trans hk) (T.sb _ (by omega)) (by omega) (fun i hi=>T.sa _ (by omega)) (by omega) (T.galA (by omega)) hq
    dsimp only
    by_cases hg1:g3 > 1
    case' pos=>rw [if_pos hg1]
    case' neg=>rw [if_neg hg1]
    all_goals
     refine wpS_bind (wpS_modify ?_)
     refine wpS_bind (ws_elem (kyd_at (by omega)) (wpS_bind (gal1 _ _ fun t hk1 hk2 hk3=>?_)))
     have I4:=I3.as' T hk1 za3 (by omega) zb3 hk3
     have hb5:∀ i,i < t->O.blt (rk (kyd b (mb - 1))) (rk (kyd a i))=false:=fun i hi=>by simpa [bey] using hk2 i hi
     dsimp only
     by_cases hk0:ma - t > 0
     case' pos=>
      rw [if_pos hk0]
      by_cases e3:t=0
      ·rw [if_pos (by simpa using e3)]
       exact wpS_pure ⟨hG3.set _,.inl ⟨_,_,rfl,I4.doneA e3⟩⟩
      rw [if_neg (by simpa using e3)]
      have ha5:0 < t:=by omega
      have za5:t≤a.size:=by omega
      have hp5:t+mb+1≤na+nb:=by omega
      generalize out3++(a.extract t ma).reverse=out5 at I4 ⊢
      clear gal1 hk1 hk2 hk3
     case' neg=>
      rw [if_neg hk0]
      have e0:t=ma:=by omega
      subst e0
      have e9:out3++(a.extract t t).reverse=out3:=by apply Array.toList_inj.mp;simp
      rw [e9] at I4
      have ha5:0 < t:=ha3
      have za5:t≤a.size:=za3
      have hp5:t+mb+1≤na+nb:=hp3
      clear gal1 hk1 hk2 hk3 I3
      revert I4
      generalize out3=out5
      intro I4
     all_goals
      refine wpS_bind (ws_elem (kyd_at (by omega)) ?_)
      have I5:=I4.b1' T ha5 za5 (by omega) zb3 (hb5 _ (by omega))
      by_cases e5:mb - 1=1
      ·rw [if_pos (by simpa using e5)]
       exact wpS_pure ⟨hG3.set _,.inl ⟨_,_,rfl,I5.firstB T ha5 e5⟩⟩
      rw [if_neg (by simpa using e5)]
      refine wpS_bind (ws_elem (kyd_at (by omega)) (wpS_bind (ws_gallop hC (hG3.kind.trans hk) (T.sa _ (by omega)) (by omega) (fun i hi=>T.sb _ (by omega)) (by omega) (T.galB (by omega)) fun u hk1 hk2 hk3=>?_)))
      have I6:=I5.bs' T hk1 (by omega) ha5 za5 hk3
      have hb7:∀ i,i < u->O.blt (rk (kyd b i)) (rk (kyd a (t - 1)))=true:=fun i hi=>by simpa [bey] using hk2 i hi
      dsimp only
      by_cases hk20:mb - 1 - u > 0
      case' pos=>
       rw [if_pos hk20]
       by_cases e6:u=1
       ·rw [if_pos (by simpa using e6)]
        exact wpS_pure ⟨hG3.set _,.inl ⟨_,_,rfl,I6.firstB T ha5 e6⟩⟩
       rw [if_neg (by simpa using e6)]
       by_cases e7:u=0
       ·rw [if_pos (by simpa using e7)]
        exact wpS_pure ⟨hG3.set _,.inl ⟨_,_,rfl,I6.doneB e7⟩⟩
       rw [if_neg (by simpa using e7)]
       have hj7:1 < u:=by omega
       have zj7:u≤b.size:=by omega
       have hp7:t+u+1≤na+nb:=by omega
       generalize out5.push (kyd b (mb - 1))++(b.extract u (mb - 1)).reverse=out7 at I6 ⊢
       clear hk1 hk2 hk3
      case' neg=>
       rw [if_neg hk20]
       have e0:u=mb - 1:=by omega
       subst e0
       have e9:out5.push (kyd b (mb - 1))++(b.extract (mb - 1) (mb - 1)).reverse=out5.push (kyd b (mb - 1)):=by apply Array.toList_inj.mp;simp
       rw [e9] at I6
       have hj7:1 < mb - 1:=by omega
       have zj7:mb - 1≤b.size:=by omega
       have hp7:t+(mb - 1)+1≤na+nb:=by omega
       clear hk1 hk2 hk3 I5 I4
       revert I6 hb7 hj7 zj7 hp7
       generalize out5.push (kyd b (mb - 1))=out7
       clear hk20 e5 e9
       generalize mb - 1=u
       intro I6 hb7 hj7 zj7 hp7
      all_goals
       refine wpS_bind (ws_elem (kyd_at (by omega)) ?_)
       have I7:=I6.a1' T ha5 za5 (by omega) zj7 (hb7 _ (by omega))
       by_cases e7:t - 1=0
       ·rw [if_pos (by simpa using e7)]
        exact wpS_pure ⟨hG3.set _,.inl ⟨_,_,rfl,I7.doneA e7⟩⟩
       rw [if_neg (by simpa using e7)]
       split
       ·exact wpS_pure ⟨hG3.set _,.inr ⟨_,_,_,_,_,_,rfl,I7,by omega,hj7,by omega,zj7,by omega⟩⟩
       ·exact wpS_pure ⟨hG3.set _,_,_,_,_,_,_,rfl,I7,by omega,hj7,by omega,zj7,by omega⟩
   ·rintro c st3 ⟨hG3,out3,ja,jb,g3,ac,bc,rfl,I3,ha3,hb3,za3,zb3,hp3⟩
    exact⟨hG3,.inr ⟨_,_,_,_,_,_,rfl,I3,ha3,hb3,za3,zb3,hp3⟩⟩
   ·exact⟨hG,_,_,_,_,_,_,rfl,I2,ha2,hb2,za2,zb2,hp2⟩
   ·rintro c st3 ⟨hG3,⟨r,c',rfl,hr⟩ | ⟨out3,ja,jb,g3,ac,bc,rfl,I3,ha3,hb3,za3,zb3,hp3⟩⟩
    ·exact wpS_pure ⟨_,_,rfl,hr,hG3⟩
    ·refine wpS_bind (wpS_modify (wpS_pure ⟨out3,ja,jb,_,rfl,I3,ha3,hb3,za3,zb3,by omega,hG3.set _⟩))
 ·rintro c st' ⟨out,ia,ib,g,rfl,I,ha,hb,hza,hzb,hp,hG⟩
  exfalso;omega
 ·exact⟨_,_,_,_,rfl,I0,by omega,by omega,by omega,by omega,by omega,.refl⟩
 ·rintro c st' ⟨r,c',rfl,hr,hG⟩
  exact wpS_pure (h r st' hG hr)
end
end L2
namespace L2
open PySem PySem.Spec PyProof.Rows
section
variable {prog:Program}{w:World}{A:Around}{E:Value->Shared->Prop}{s:Shared}{κ:SortKind}{O:KeyOrd}{rk:Keyed->O.α}{S:Keyed->Prop}{st:SortSt}{arr:Array Keyed}{n1 n2:Nat}
theorem set_all (sa:Nat):∀ (l:List Keyed) (n:Nat) (arr:Array Keyed),sa+n+l.length≤arr.size->
  ((l.zipIdx n).foldl (fun (a:Array Keyed) x=>match x with | (p,j)=>a.setIfInBounds (sa+j) p) arr).toList=arr.toList.take (sa+n)++l++arr.toList.drop (sa+n+l.length)
 | [],n,arr,h=>by simp
 | p::l,n,arr,h=>by
  rw [List.zipIdx_cons,List.foldl_cons,set_all sa l (n+1) _ (by simp only [List.length_cons] at h;simp;omega)]
  have hn:sa+n < arr.toList.length:=by simp only [List.length_cons] at h;simp;omega
  rw [Array.toList_setIfInBounds,←Nat.add_assoc,List.take_succ_eq_append_getElem (by rw [List.length_set];exact hn),List.getElem_set_self,List.take_set_of_le (Nat.le_refl _),List.drop_set_of_lt (by omega),List.length_cons]
  simp [Nat.add_assoc,Nat.add_comm 1]
theorem kyd_ext {a:Array Keyed}{i j k:Nat} (h:k < j - i) (hj:j≤a.size):kyd (a.extract i j) k=kyd a (i+k):=by
 apply kyd_congr
 rw [Array.getElem?_extract_of_lt (by omega),Array.getElem?_eq_getElem (by omega)]
theorem up_pw {a:Array Keyed} (h:Up rk a 0 a.size):a.toList.Pairwise fun x y=>O.kle (rk x) (rk y):=by
 rw [List.pairwise_iff_getElem]
 intro i j hi hj hij
 have hi':i < a.size:=by simpa using hi
 have hj':j < a.size:=by simpa using hj
 have q:=h i j (Nat.zero_le _) (by omega) (by omega)
 have e1:=kyd_at hi'
 have e2:=kyd_at hj'
 rw [Array.getElem?_eq_getElem hi'] at e1
 rw [Array.getElem?_eq_getElem hj'] at e2
 rw [←Option.some.inj e1,←Option.some.inj e2] at q
 simpa using q
theorem up_ext {a:Array Keyed}{i j:Nat} (h:Up rk a i (j - i)) (hj:j≤a.size):Up rk (a.extract i j) 0 (a.extract i j).size:=by
 intro x y _ hxy hy
 have hs:(a.extract i j).size=j - i:=by simp;omega
 rw [kyd_ext (by omega) hj,kyd_ext (by omega) hj]
 exact h _ _ (by omega) (by omega) (by omega)
theorem mem_ext {a:Array Keyed}{i j:Nat}{x:Keyed} (h:x ∈ (a.extract i j).toList) (hj:j≤a.size):∃ k,i≤k/\k < j/\x=kyd a k:=by
 obtain⟨k,hk,rfl⟩:=mem_kyd h
 have hs:(a.extract i j).size=j - i:=by simp;omega
 exact⟨i+k,by omega,by omega,by rw [kyd_ext (by omega) hj]⟩
theorem split4 {a:Array Keyed}{i j k:Nat} (h1:i≤j) (h2:j≤k) (h3:k≤a.size):a.toList=a.toList.take i++(a.extract i j).toList++(a.extract j k).toList++a.toList.drop k:=by
 have e1:(a.extract i j).toList=(a.toList.drop i).take (j - i):=by rw [Array.toList_extract,List.extract_eq_take_drop]
 have e2:(a.extract j k).toList=(a.toList.drop j).take (k - j):=by rw [Array.toList_extract,List.extract_eq_take_drop]
 rw [e1,e2]
 have c1:a.toList.take i++(a.toList.drop i).take (j - i)=a.toList.take j:=by
  rw [←List.take_add,show i+(j - i)=j by omega]
 have c2:a.toList.take j++(a.toList.drop j).take (k - j)=a.toList.take k:=by
  rw [←List.take_add,show j+(k - j)=k by omega]
 rw [c1,c2,List.take_append_drop]
set_option maxHeartbeats 2000000 in
theorem ws_mgAt (hC:Cm prog w A s κ O rk S) {Q:Bool->SortSt->Prop}{p q:Nat} (hk:kindOf st=κ) (hf:failedOf st=none) (hp:pendingOf st=#[(0,n1,p),(n1,n2,q)]) (hS:∀ x ∈ (arrOf st).toList,S x) (hz:(arrOf st).size=n1+n2) (h1:0 < n1) (h2:0 < n2)
  (u1:Up rk (arrOf st) 0 n1) (u2:Up rk (arrOf st) n1 n2)
  (h:∀ st',(arrOf st').toList.Perm (arrOf st).toList->(arrOf st').toList.Pairwise (fun x y=>O.kle (rk x) (rk y))->failedOf st'=none->pendingOf st'=#[(0,n1+n2,p)]->Q true st'):wpS (model prog w) A E s (mgAtT 0) Q st:=by
 have hSi:∀ i,i < n1+n2->S (kyd (arrOf st) i):=fun i hi=>by
  have hi':i < (arrOf st).size:=by omega
  refine hS _ ?_
  have e:=kyd_at hi'
  rw [Array.getElem?_eq_getElem hi'] at e
  rw [←Option.some.inj e];exact Array.getElem_mem_toList hi'
 refine wpS_bind (wpS_get ?_)
 have e1:(pendingOf st)[0]?=some (0,n1,p):=by rw [hp];rfl
 have e2:(pendingOf st)[0+1]?=some (n1,n2,q):=by rw [hp];rfl
 rw [e1,e2]
 refine wpS_bind ?_
 have hset:∀ (x:SortSt) (Q':PUnit->SortSt->Prop) (st0:SortSt),Q' ⟨⟩ x->wpS (model prog w) A E s (set x:StateT SortSt Sem PUnit) Q' st0:=fun x Q' st0 hq=>by
  unfold wpS;exact wpAny_pure ⟨rfl,hq⟩
 refine hset _ _ _ ?_
 have e3:((pendingOf st).setIfInBounds 0 (0,n1+n2,p)).eraseIdxIfInBounds (0+1)=#[(0,n1+n2,p)]:=by
  rw [hp];apply Array.toList_inj.mp;simp [Array.eraseIdxIfInBounds]
 rw [e3]
 clear e1 e2 e3 hp
 delta arrOf kindOf failedOf gallopOf at *
 obtain⟨kd,arr,pn,gl,fl⟩:=st
 dsimp only at hk hf hS hz u1 u2 h hSi
 dsimp -zeta only
 have h:∀ st',(arrOf st').toList.Perm arr.toList->(arrOf st').toList.Pairwise (fun x y=>O.kle (rk x) (rk y))->failedOf st'=none->pendingOf st'=#[(0,n1+n2,p)]->Q true st':=h
 have k2:kindOf (SortSt.mk' kd arr #[(0,n1+n2,p)] gl fl)=κ:=hk
 have a2:arrOf (SortSt.mk' kd arr #[(0,n1+n2,p)] gl fl)=arr:=rfl
 have f2:failedOf (SortSt.mk' kd arr #[(0,n1+n2,p)] gl fl)=none:=hf
 have p2:pendingOf (SortSt.mk' kd arr #[(0,n1+n2,p)] gl fl)=#[(0,n1+n2,p)]:=rfl
 have whole:O.kle (rk (kyd arr (n1 - 1))) (rk (kyd arr n1))->arr.toList.Pairwise fun x y=>O.kle (rk x) (rk y):=fun hm=>up_pw fun i j _ hij hj=>by
  by_cases c1:j < n1
  ·exact u1 i j (Nat.zero_le _) hij (by omega)
  ·by_cases c2:n1≤i
   ·exact u2 i j c2 hij (by omega)
   ·exact KeyOrd.kle_trans (KeyOrd.kle_trans (u1 i (n1 - 1) (Nat.zero_le _) (by omega) (by omega)) hm) (u2 n1 j (Nat.le_refl _) (by omega) (by omega))
 have ok:arr.toList.Pairwise (fun x y=>O.kle (rk x) (rk y))->Q true (SortSt.mk' kd arr #[(0,n1+n2,p)] gl fl):=fun hw=>h (SortSt.mk' kd arr #[(0,n1+n2,p)] gl fl) (by rw [a2]) (by rw [a2];exact hw) f2 p2
 refine wpS_bind (ws_elem (kyd_at (by omega)) (wpS_bind (ws_gallop hC k2 (hSi _ (by omega)) (by omega) (fun i hi=>hSi _ (by omega)) (by omega) (fun i j hij hj hb=>?_) fun k hk1 hk2 hk3=>?_)))
 ·simp only [bey,Bool.false_eq_true,if_false,Bool.not_eq_true'] at hb ⊢
  exact KeyOrd.kle_trans (O:=O) (u1 (0+i) (0+j) (Nat.zero_le _) (by omega) (by omega)) hb
 simp only [bey,Bool.false_eq_true,if_false,Bool.not_eq_true',Bool.not_eq_false',Nat.zero_add] at hk2 hk3
 dsimp only
 by_cases c1:n1 - k=0
 ·rw [if_pos (by simpa using c1)]
  exact wpS_pure (ok (whole (hk2 (n1 - 1) (by omega))))
 rw [if_neg (by simpa using c1)]
 rw [show 0+k+(n1 - k) - 1=n1 - 1 by omega,Nat.zero_add]
 refine wpS_bind (ws_elem (kyd_at (by omega)) (wpS_bind (ws_gallop hC k2 (hSi _ (by omega)) (by omega) (fun i hi=>hSi _ (by omega)) (by omega) (fun i j hij hj hb=>?_) fun nb hb1 hb2 hb3=>?_)))
 ·simp only [bey,if_true] at hb ⊢
  exact KeyOrd.klt_of_kle_of_klt (O:=O) (u2 (n1+i) (n1+j) (by omega) (by omega) (by omega)) hb
 simp only [bey,if_true] at hb2 hb3
 dsimp only
 by_cases c2:nb=0
 ·rw [if_pos (by simpa using c2)]
  exact wpS_pure (ok (whole (hb3 0 (by omega) (by omega))))
 rw [if_neg (by simpa using c2)]
 have sx:(arr.extract k n1).size=n1 - k:=by simp;omega
 have sy:(arr.extract n1 (n1+nb)).size=nb:=by simp;omega
 have T:Two O rk S (arr.extract k n1) (arr.extract n1 (n1+nb)):=by
  refine⟨fun i hi=>?_,fun i hi=>?_,up_ext (fun i j a b c=>u1 i j (Nat.zero_le _) b (by omega)) (by omega),up_ext (fun i j a b c=>u2 i j a b (by omega)) (by omega),by omega,by omega,?_,fun i hi=>?_⟩
  ·rw [kyd_ext (by omega) (by omega)];exact hSi _ (by omega)
  ·rw [kyd_ext (by omega) (by omega)];exact hSi _ (by omega)
  ·rw [kyd_ext (by omega) (by omega),kyd_ext (by omega) (by omega)];exact hk3 _ (by omega) (by omega)
  ·rw [kyd_ext (by omega) (by omega),kyd_ext (by omega) (by omega),sx,show k+(n1 - k - 1)=n1 - 1 by omega];exact hb2 i (by omega)
 have fin:∀ (r:Array Keyed) st',Gs (SortSt.mk' kd arr #[(0,n1+n2,p)] gl fl) st'->r.toList=mrg O rk (arr.extract k n1).toList (arr.extract n1 (n1+nb)).toList->
   Q true (SortSt.mk' (kindOf st') ((r.toList.zipIdx).foldl (fun (a:Array Keyed) x=>match x with | (p,j)=>a.setIfInBounds (k+j) p) (arrOf st')) (pendingOf st') (gallopOf st') (failedOf st')):=by
  rintro r st' ⟨g,rfl⟩ hr
  have hl:r.toList.length=n1 - k+nb:=by rw [hr,(mrg_perm _ _).length_eq,List.length_append,Array.length_toList,Array.length_toList,sx,sy]
  have e5:=set_all k r.toList 0 arr (by omega)
  rw [Nat.add_zero,hl,show k+(n1 - k+nb)=n1+nb by omega,hr] at e5
  have e6:=split4 (a:=arr) (i:=k) (j:=n1) (k:=n1+nb) (by omega) (by omega) (by omega)
  refine h _ ?_ ?_ f2 p2
  ·show (List.foldl _ (arrOf (SortSt.mk' kd arr #[(0,n1+n2,p)] gl fl)) _).toList.Perm _
   rw [a2,hr,e5]
   conv=>rhs;rw [e6]
   exact ((mrg_perm _ _).append_left _ |>.append_right _).trans (by rw [List.append_assoc,List.append_assoc,List.append_assoc,List.append_assoc])
  ·show (List.foldl _ (arrOf (SortSt.mk' kd arr #[(0,n1+n2,p)] gl fl)) _).toList.Pairwise _
   rw [a2,hr,e5]
   have m1:∀ x ∈ arr.toList.take k,∃ i,i < k/\x=kyd arr i:=fun x hx=>by
    rw [←ext_to] at hx
    obtain⟨i,_,hi,e⟩:=mem_ext hx (by omega)
    exact⟨i,hi,e⟩
   have m2:∀ x ∈ arr.toList.drop (n1+nb),∃ i,n1+nb≤i/\i < arr.size/\x=kyd arr i:=fun x hx=>by
    rw [←ext_all] at hx
    obtain⟨i,h1,h2,e⟩:=mem_ext hx (Nat.le_refl _)
    exact⟨i,h1,h2,e⟩
   have m3:∀ x ∈ mrg O rk (arr.extract k n1).toList (arr.extract n1 (n1+nb)).toList,∃ i,k≤i/\i < n1+nb/\x=kyd arr i:=fun x hx=>by
    rcases List.mem_append.mp ((mrg_perm _ _).mem_iff.mp hx) with hx | hx
    ·obtain⟨i,h1,h2,e⟩:=mem_ext hx (by omega);exact⟨i,h1,by omega,e⟩
    ·obtain⟨i,h1,h2,e⟩:=mem_ext hx (by omega);exact⟨i,by omega,h2,e⟩
   have lowHi:∀ i j,i < k->n1≤j->j < n1+n2->O.kle (rk (kyd arr i)) (rk (kyd arr j)):=fun i j hi h3 h4=>KeyOrd.kle_trans (hk2 i hi) (u2 n1 j (Nat.le_refl _) h3 h4)
   have hiHi:∀ i j,i < n1->n1+nb≤j->j < n1+n2->O.kle (rk (kyd arr i)) (rk (kyd arr j)):=fun i j hi h3 h4=>by
    have:=hb3 (j - n1) (by omega) (by omega)
    rw [show n1+(j - n1)=j by omega] at this
    exact KeyOrd.kle_trans (u1 i (n1 - 1) (Nat.zero_le _) (by omega) (by omega)) this
   refine List.pairwise_append.mpr ⟨List.pairwise_append.mpr ⟨?_,mrg_up (up_pw T.ua) (up_pw T.ub),?_⟩,?_,?_⟩
   ·rw [←ext_to]
    exact up_pw (up_ext (fun i j a b c=>u1 i j (Nat.zero_le _) b (by omega)) (by omega))
   ·intro x hx y hy
    obtain⟨i,hi,rfl⟩:=m1 x hx
    obtain⟨j,j1,j2,rfl⟩:=m3 y hy
    by_cases c:j < n1
    ·exact u1 i j (Nat.zero_le _) (by omega) (by omega)
    ·exact lowHi i j hi (by omega) (by omega)
   ·rw [←ext_all]
    exact up_pw (up_ext (fun i j a b c=>u2 i j (by omega) b (by omega)) (Nat.le_refl _))
   ·intro x hx y hy
    obtain⟨j,j1,j2,rfl⟩:=m2 y hy
    have hx':∃ i,i < n1+nb/\x=kyd arr i:=by
     rcases List.mem_append.mp hx with hx | hx
     ·obtain⟨i,hi,e⟩:=m1 x hx;exact⟨i,by omega,e⟩
     ·obtain⟨i,_,hi,e⟩:=m3 x hx;exact⟨i,hi,e⟩
    obtain⟨i,hi,rfl⟩:=hx'
    by_cases c:i < n1
    ·exact hiHi i j c j1 (by omega)
    ·exact u2 i j (by omega) (by omega) (by omega)
 have isn:∀ st',Gs (SortSt.mk' kd arr #[(0,n1+n2,p)] gl fl) st'->failedOf st'=none:=by rintro st' ⟨g,rfl⟩;exact f2
 split
 ·refine wpS_bind (ws_mgLo hC k2 T fun r st' hG hr=>?_)
  refine wpS_bind (wpS_modify (wpS_bind (wpS_get (wpS_pure ?_))))
  have:=fin r st' hG hr
  have e:=isn st' hG
  have e':(failedOf st').isNone=true:=by rw [e];rfl
  rw [←e'] at this
  exact this
 ·refine wpS_bind (ws_mgHi hC k2 T fun r st' hG hr=>?_)
  refine wpS_bind (wpS_modify (wpS_bind (wpS_get (wpS_pure ?_))))
  have:=fin r st' hG hr
  have e:=isn st' hG
  have e':(failedOf st').isNone=true:=by rw [e];rfl
  rw [←e'] at this
  exact this
end
end L2
namespace L2
open PySem PySem.Spec PyProof.Rows
section
variable {prog:Program}{w:World}{A:Around}{E:Value->Shared->Prop}{s:Shared}{κ:SortKind}{O:KeyOrd}{rk:Keyed->O.α}{S:Keyed->Prop}{st:SortSt}{a0:Array Keyed}
structure Run1 (κ:SortKind) (O:KeyOrd) (rk:Keyed->O.α) (a0:Array Keyed) (n1:Nat) (st:SortSt):Prop where
 perm:(arrOf st).Perm a0
 kind:kindOf st=κ
 fail:failedOf st=none
 pend:pendingOf st=#[(0,n1,0)]
 up:Up rk (arrOf st) 0 n1
structure Run2 (κ:SortKind) (O:KeyOrd) (rk:Keyed->O.α) (a0:Array Keyed) (st:SortSt):Prop where
 perm:(arrOf st).Perm a0
 kind:kindOf st=κ
 fail:failedOf st=none
 ex:∃ n1 n2 p,0 < n1/\0 < n2/\n1+n2=a0.size/\pendingOf st=#[(0,n1,p),(n1,n2,0)]/\Up rk (arrOf st) 0 n1/\Up rk (arrOf st) n1 n2
theorem mr_is {n:Nat} (h2:2≤n) (h64:n≤64):(n < 64/\minRun' n n 0=n)∨n=64/\minRun' n n 0=32:=by
 by_cases h:n=64
 ·subst h;exact .inr ⟨rfl,rfl⟩
 ·obtain⟨f,rfl⟩:∃ f,n=f+1:=⟨n - 1,by omega⟩
  exact .inl ⟨by omega,by rw [minRun'_succ,if_pos (by omega)]⟩
set_option maxHeartbeats 2000000 in
theorem ws_runs (hC:Cm prog w A s κ O rk S) {Q:Unit->SortSt->Prop} (hk:kindOf st=κ) (hf:failedOf st=none) (hp:pendingOf st=#[]) (ha:arrOf st=a0) (hS:∀ x ∈ a0.toList,S x) (h2:2≤a0.size) (h64:a0.size≤64)
  (h:∀ st',(arrOf st').toList.Perm a0.toList->(arrOf st').toList.Pairwise (fun x y=>O.kle (rk x) (rk y))->failedOf st'=none->Q () st'):wpS (model prog w) A E s sortRuns' Q st:=by
 obtain⟨mr,hm0,hmr⟩:∃ mr,(sortPriv% PySem.Builtin.minRun) a0.size a0.size 0=mr/\((a0.size < 64/\mr=a0.size)∨a0.size=64/\mr=32):=⟨_,rfl,mr_is h2 h64⟩
 refine wpS_bind (wpS_get ?_)
 have hz:(arrOf st).size=a0.size:=by rw [ha]
 dsimp only
 rw [hz,hm0]
 refine wpS_bind (wpS_mono (wpS_forRange (I:=fun x c st'=>(x=0/\c=(none,0)/\SB κ a0 0 #[] (gallopOf st) st')∨(∃ n1,c=(none,n1)/\Run1 κ O rk a0 n1 st'/\1≤x/\(n1=a0.size∨x=1/\32≤n1/\n1 < 64/\a0.size=64))∨(c=(none,a0.size)/\Run2 κ O rk a0 st'/\1≤x))
  (Q:=fun c st'=>c.1=none/\(Run1 κ O rk a0 a0.size st'∨Run2 κ O rk a0 st')) ?_ ?_ ?_) ?_)
 ·rintro x c st' _ hx H
  rcases H with⟨rfl,rfl,hB⟩ | ⟨n1,rfl,hR,hx1,hor⟩ | ⟨rfl,hR,hx1⟩
  ·dsimp only
   rw [if_neg (by omega)]
   refine wpS_bind (ws_cRun hC hS hB (by omega) (by omega) fun m st2 hB2 m1 m2 u=>?_)
   have put:∀ n st3,SB κ a0 0 #[] (gallopOf st) st3->Up rk (arrOf st3) 0 n->mr≤n->n≤a0.size->
     Run1 κ O rk a0 n (SortSt.mk' (kindOf st3) (arrOf st3) ((pendingOf st3).push (0,n,0)) (gallopOf st3) (failedOf st3))/\(n=a0.size∨0+1=1/\32≤n/\n < 64/\a0.size=64):=fun n st3 hB3 u3 h1 h2=>
    ⟨⟨hB3.perm,hB3.kind,hB3.fail,by show (pendingOf st3).push _=_;rw [hB3.pend];rfl,u3⟩,by omega⟩
   dsimp only
   by_cases hlt:m < mr
   ·rw [if_pos hlt]
    refine wpS_bind (ws_rule (wpS_bind (ws_bSort hC hS hB2 m1 (by omega) (by omega) u fun st3 hB3 u3=>?_)))
    rw [if_neg (by simp)]
    have hP:=put _ st3 hB3 u3 (by omega) (by omega)
    refine wpS_bind (wpS_get ?_)
    have hb:(pendingOf st3).back?=none:=by rw [hB3.pend];rfl
    rw [hb]
    exact wpS_bind (wpS_modify (wpS_pure (.inr (.inl ⟨_,by rw [Nat.zero_add],hP.1,by omega,hP.2⟩))))
   ·rw [if_neg hlt]
    have hP:=put m st2 hB2 u (by omega) (by omega)
    refine wpS_bind (wpS_get ?_)
    have hb:(pendingOf st2).back?=none:=by rw [hB2.pend];rfl
    rw [hb]
    exact wpS_bind (wpS_modify (wpS_pure (.inr (.inl ⟨_,by rw [Nat.zero_add],hP.1,by omega,hP.2⟩))))
  ·dsimp only
   by_cases hge:n1≥a0.size
   ·rw [if_pos hge]
    have e:n1=a0.size:=by omega
    subst e
    exact wpS_pure ⟨rfl,.inl hR⟩
   rw [if_neg hge]
   have hsz:(arrOf st').size=a0.size:=hR.perm.size_eq
   have hS':∀ x ∈ (arrOf st').toList,S x:=fun x hx=>hS x ((Array.perm_iff_toList_perm.mp hR.perm).mem_iff.mp hx)
   have hB:SB κ (arrOf st') n1 #[(0,n1,0)] (gallopOf st') st':=⟨Array.Perm.refl _,fun _ _=>rfl,hR.kind,hR.fail,hR.pend,rfl⟩
   have hn:32≤n1/\n1 < 64/\a0.size=64/\mr=32:=by omega
   refine wpS_bind (ws_cRun hC hS' hB (by omega) (by omega) fun m st2 hB2 m1 m2 u=>?_)
   have put:∀ n pw st3,n=a0.size - n1->SB κ (arrOf st') n1 #[(0,n1,0)] (gallopOf st') st3->Up rk (arrOf st3) n1 n->
     Run2 κ O rk a0 (SortSt.mk' (kindOf st3) (arrOf st3) (((pendingOf st3).modify ((pendingOf st3).size - 1) fun x=>(x.1,x.2.1,pw)).push (n1,n,0)) (gallopOf st3) (failedOf st3)):=fun n pw st3 hn3 hB3 u3=>
    ⟨hB3.perm.trans hR.perm,hB3.kind,hB3.fail,n1,n,pw,by omega,by omega,by omega,by show (Array.modify (pendingOf st3) _ _).push _=_;rw [hB3.pend];simp,fun i j a b c=>by
     show O.kle (rk (kyd (arrOf st3) i)) (rk (kyd (arrOf st3) j))
     rw [kyd_congr (hB3.pre i (by omega)),kyd_congr (hB3.pre j (by omega))]
     exact hR.up i j a b c,u3⟩
   have inner:∀ st3,SB κ (arrOf st') n1 #[(0,n1,0)] (gallopOf st') st3->∀ (f:Nat->Option Unit×Unit->StateT SortSt Sem (ForInStep (Option Unit×Unit))) (Q':Option Unit×Unit->SortSt->Prop),
     (∀ x,∀ Q'':ForInStep (Option Unit×Unit)->SortSt->Prop,Q'' (.done (none,())) st3->wpS (model prog w) A E s (f x (none,())) Q'' st3)->Q' (none,()) st3->wpS (model prog w) A E s (forIn [0:a0.size] (none,()) f) Q' st3:=fun st3 hB3 f Q' hf hq=>
    wpS_forRange (I:=fun _ c st4=>c=(none,())/\st4=st3) (fun i c st4 _ _ hI=>by
     obtain⟨rfl,rfl⟩:=hI
     exact hf i _ hq) (fun c st4 hI=>by obtain⟨rfl,rfl⟩:=hI;exact hq) ⟨rfl,rfl⟩
   dsimp only
   by_cases hlt:m < mr
   case' pos=>
    rw [if_pos hlt]
    refine wpS_bind (ws_rule (wpS_bind (ws_bSort hC hS' hB2 m1 (by omega) (by omega) u fun st3 hB3 u3=>?_)))
    rw [if_neg (by simp)]
    have e9:min (a0.size - n1) mr=a0.size - n1:=by omega
    rw [e9] at u3 ⊢
   case' neg=>
    rw [if_neg hlt]
    have e9:m=a0.size - n1:=by omega
    subst e9
    have hB3:=hB2
    have u3:=u
    revert hB3 u3
    clear u hB2
    generalize st2=st3
    intro hB3 u3
   all_goals
    refine wpS_bind (wpS_get ?_)
    have hb:(pendingOf st3).back?=some (0,n1,0):=by rw [hB3.pend];rfl
    rw [hb]
    refine wpS_bind (inner st3 hB3 _ _ (fun x Q'' hq=>?_) ?_)
    ·refine wpS_bind (wpS_get ?_)
     have hb2:(if (pendingOf st3).size > 1 then (pendingOf st3)[(pendingOf st3).size - 2]? else none)=none:=by rw [hB3.pend];rfl
     rw [hb2]
     exact wpS_pure hq
    ·refine wpS_bind (wpS_modify (wpS_bind (wpS_modify (wpS_pure (.inr (.inr ⟨?_,put _ _ st3 rfl hB3 u3,by omega⟩))))))
     rw [show n1+(a0.size - n1)=a0.size by omega]
  ·dsimp only
   rw [if_pos (Nat.le_refl _)]
   exact wpS_pure ⟨rfl,.inr hR⟩
 ·rintro c st' (⟨hx,_⟩ | ⟨n1,rfl,hR,hx1,hor⟩ | ⟨rfl,hR,hx1⟩)
  ·omega
  ·have e:n1=a0.size:=by omega
   subst e
   exact⟨rfl,.inl hR⟩
  ·exact⟨rfl,.inr hR⟩
 ·exact .inl ⟨rfl,rfl,by rw [ha],fun _ _=>by rw [ha],hk,hf,hp,rfl⟩
 ·rintro⟨c1,c2⟩ st' ⟨rfl,hR⟩
  dsimp only
  refine wpS_bind (wpS_mono (wpS_forRange (I:=fun y c st2=>c=(none,())/\((y=0/\Run2 κ O rk a0 st2)∨((pendingOf st2).size=1/\(arrOf st2).toList.Perm a0.toList/\(arrOf st2).toList.Pairwise (fun x y=>O.kle (rk x) (rk y))/\failedOf st2=none)))
   (Q:=fun c st2=>c=(none,())/\(arrOf st2).toList.Perm a0.toList/\(arrOf st2).toList.Pairwise (fun x y=>O.kle (rk x) (rk y))/\failedOf st2=none) ?_ ?_ ?_) ?_)
  ·rintro y c st2 _ hy ⟨rfl,⟨rfl,hR2⟩ | ⟨h1,h2',h3,h4⟩⟩
   ·refine wpS_bind (wpS_get ?_)
    obtain⟨n1,n2,p,z1,z2,z3,z4,u1,u2⟩:=hR2.ex
    have hsz:(arrOf st2).size=a0.size:=hR2.perm.size_eq
    have z5:(sortPriv% PySem.Builtin.SortState.pending) st2=#[(0,n1,p),(n1,n2,0)]:=z4
    rw [z5]
    refine wpS_bind (m:=mgAtT 0) (ws_mgAt hC hR2.kind hR2.fail z4 (fun x hx=>hS x ((Array.perm_iff_toList_perm.mp hR2.perm).mem_iff.mp hx)) (by omega) z1 z2 u1 u2 fun st3 a1 a2 a3 a4=>?_)
    rw [if_neg (by simp)]
    exact wpS_pure ⟨rfl,.inr ⟨by rw [a4];rfl,a1.trans (Array.perm_iff_toList_perm.mp hR2.perm),a2,a3⟩⟩
   ·refine wpS_bind (wpS_get ?_)
    have h1':(pendingOf st2).size≤1:=by omega
    rw [if_pos h1']
    exact wpS_pure ⟨rfl,h2',h3,h4⟩
  ·rintro c st2 ⟨rfl,⟨hy,_⟩ | ⟨h1,h2',h3,h4⟩⟩
   ·omega
   ·exact⟨rfl,h2',h3,h4⟩
  ·refine⟨rfl,?_⟩
   rcases hR with hR | hR
   ·have hsz:(arrOf st').size=a0.size:=hR.perm.size_eq
    exact .inr ⟨by rw [hR.pend];rfl,Array.perm_iff_toList_perm.mp hR.perm,up_pw (by rw [hsz];exact hR.up),hR.fail⟩
   ·exact .inl ⟨rfl,hR⟩
  ·rintro c st2 ⟨rfl,h2',h3,h4⟩
   exact wpS_pure (h st2 h2' h3 h4)
end
end L2
namespace L2
open PySem PySem.Spec PyProof.Rows PySem.SeqAt
open MeetsSeq MeetsSeq2 MeetsSeq3 SeqRoads2
open AutoSeq1 (wpAny_loadPart')
noncomputable def LtAt (A:Around) (s:Shared) (y x:Value) (b:Bool):Prop:=∀ (prog:Program) (w:World) (E:Value->Shared->Prop) (Q:Value->Shared->Prop),Q (.bool b) s->wpAny (model prog w) A (richCompare .Lt y x) Q E s
noncomputable def lexN (e l:Nat->Bool) (fin:Bool):Nat->Nat->Bool
 | 0,_=>fin
 | k+1,i=>if e i=true then lexN e l fin k (i+1) else l i
theorem tuple_ltAt (p q:Addr) (us vs:Array Value) (n n2:Nat) (dd dd2:Option Addr) (sl sl2:Array (Option Value)) (e l:Nat->Bool) :
  Meets (Builtin.«tuple.__lt__» ⟨[.ref p,.ref q],[]⟩)
   (fun A R s=>(s.heap.get? p=some ⟨.type "tuple",dd,.seq us n,sl⟩/\s.heap.get? q=some ⟨.type "tuple",dd2,.seq vs n2,sl2⟩)/\
     (∀ j (h1:j < us.size) (h2:j < vs.size),EqAt A.in1 s us[j] vs[j] (e j)/\(e j=false->LtAt A.in1 s us[j] vs[j] (l j)))/\
     R (.ok (.ret (.bool (lexN e l (decide (us.size < vs.size)) (min us.size vs.size) 0)))) s):=
 .of_wp fun prog w A R s h=>by
  obtain⟨hp,g,d,tk,os⟩:=s
  obtain⟨⟨h1,h2⟩,he,h⟩:=h
  have f2:=AutoSeq1.sub_tuple_tuple
  have hZ:(us.toList.zip vs.toList).length=min us.size vs.size:=by simp
  wp_walk using wpAny_loadPart' h1,wpAny_loadPart' h2,wpAny_forIn_list _ (fun rest b s'=>b.1=none/\s'=⟨hp,g,d,tk,os⟩/\∃ i,i≤min us.size vs.size/\rest=(us.toList.zip vs.toList).drop i/\
   R (.ok (.ret (.bool (lexN e l (decide (us.size < vs.size)) (min us.size vs.size - i) i)))) ⟨hp,g,d,tk,os⟩) _
  case turn=>
   rintro⟨y,x⟩ rest b s' ⟨hb',rfl,i,hi,hz,hR⟩
   have hlt:i < (us.toList.zip vs.toList).length:=by
    rcases Nat.lt_or_ge i (us.toList.zip vs.toList).length with h' | h'
    ·exact h'
    ·rw [List.drop_of_length_le h'] at hz;cases hz
   rw [hZ] at hlt
   have g1:i < us.size:=by omega
   have g2:i < vs.size:=by omega
   rw [List.drop_eq_getElem_cons (by rw [hZ];exact hlt)] at hz
   injection hz with hyx hrest
   have hy:y=us[i]:=by have:=congrArg Prod.fst hyx;simpa using this
   have hx:x=vs[i]:=by have:=congrArg Prod.snd hyx;simpa using this
   subst hy hx
   obtain⟨k,hk⟩:∃ k,min us.size vs.size - i=k+1:=⟨min us.size vs.size - i - 1,by omega⟩
   rw [hk] at hR
   have hR':R (.ok (.ret (.bool (if e i=true then lexN e l (decide (us.size < vs.size)) k (i+1) else l i)))) ⟨hp,g,d,tk,os⟩:=hR
   refine wpAny_bind ((he i g1 g2).1 prog w _ _ ?_)
   cases hy:e i with
   | true=>
    rw [hy,if_pos rfl] at hR'
    wp_walk
    exact⟨rfl,rfl,i+1,by omega,hrest,by rw [show min us.size vs.size - (i+1)=k by omega];exact hR'⟩
   | false=>
    rw [hy,if_neg (by simp)] at hR'
    simp only [Bool.not_false,if_true]
    refine wpAny_bind (wpAny_rule ?_)
    refine wpAny_bind ((he i g1 g2).2 hy prog w _ _ ?_)
    wp_walk
    exact⟨_,rfl,hR'⟩
  case fin=>
   rintro⟨b1,b2⟩ s' ⟨hb',rfl,i,hi,hz,hR⟩
   simp only at hb'
   subst hb'
   have hge:min us.size vs.size≤i:=by
    rcases Nat.lt_or_ge i (us.toList.zip vs.toList).length with h' | h'
    ·rw [List.drop_eq_getElem_cons h'] at hz;cases hz
    ·rw [hZ] at h';exact h'
   rw [show min us.size vs.size - i=0 by omega] at hR
   wp_walk
   exact⟨_,rfl,by simpa [Builtin.Tuple.tupleCompareSizes,lexN] using hR⟩
  case h=>exact⟨rfl,rfl,0,Nat.zero_le _,rfl,h⟩
section
variable {A:Around}{s:Shared}{p q:Addr}{us vs:Array Value}{e l:Nat->Bool}
theorem LtAt.tuples (hl:s.heap.IsTuple p us) (hb:s.heap.IsTuple q vs) (hu:A.units < cLine) (he:∀ j (h1:j < us.size) (h2:j < vs.size),EqAt A.in1 s us[j] vs[j] (e j)/\(e j=false->LtAt A.in1 s us[j] vs[j] (l j))) :
  LtAt A s (.ref p) (.ref q) (lexN e l (decide (us.size < vs.size)) (min us.size vs.size) 0):=fun prog w E Q h=>by
 obtain⟨⟨cls,dd,data,sl⟩,ho,hc,n,hd⟩:=id hl
 obtain⟨⟨cls2,dd2,data2,sl2⟩,ho2,hc2,n2,hd2⟩:=id hb
 simp only at hc hd hc2 hd2
 subst hc hd hc2 hd2
 exact richCompare_meets_room (op:=.Lt) ⟨_,ho,rfl⟩ ⟨_,ho2,rfl⟩ PySem.F.slot_tuple_lt PySem.F.entry_tuple_lt (PySem.F.args_tuple_lt_2 _ _) (tuple_ltAt p q us vs n n2 dd dd2 sl sl2 e l)
  ⟨⟨ho,ho2⟩,he,(fun x=>nomatch x),h⟩ hu
end
end L2
namespace L2
open PySem PySem.Spec PyProof.Rows PySem.SeqAt PySem.W
noncomputable def lexI:List Int->List Int->Bool
 | [],[]=>false
 | [],_::_=>true
 | _::_,[]=>false
 | a::as,b::bs=>if a=b then lexI as bs else decide (a < b)
theorem lexI_irr:∀ a,lexI a a=false
 | []=>rfl
 | a::as=>by unfold lexI;rw [if_pos rfl];exact lexI_irr as
theorem lexI_tot:∀ a b,lexI a b=false->lexI b a=false->a=b
 | [],[],_,_=>rfl
 | [],_::_,h,_=>by cases h
 | _::_,[],_,h=>by cases h
 | a::as,b::bs,h,h'=>by
  unfold lexI at h h'
  by_cases e:a=b
  ·subst e
   rw [if_pos rfl] at h h'
   rw [lexI_tot as bs h h']
  ·rw [if_neg e] at h
   rw [if_neg (Ne.symm e)] at h'
   rw [decide_eq_false_iff_not] at h h'
   omega
theorem lexI_tr:∀ a b c,lexI a b=true->lexI b c=true->lexI a c=true
 | [],[],_,h,_=>by cases h
 | [],_::_,[],_,h=>by cases h
 | [],_::_,_::_,_,_=>rfl
 | _::_,[],_,h,_=>by cases h
 | _::_,_::_,[],_,h=>by cases h
 | a::as,b::bs,c::cs,h,h'=>by
  unfold lexI at h h' ⊢
  by_cases e:a=b
  ·subst e
   rw [if_pos rfl] at h
   by_cases e2:a=c
   ·subst e2;rw [if_pos rfl] at h' ⊢;exact lexI_tr as bs cs h h'
   ·rw [if_neg e2] at h' ⊢;exact h'
  ·rw [if_neg e,decide_eq_true_iff] at h
   by_cases e2:b=c
   ·subst e2;rw [if_neg e,decide_eq_true_iff];exact h
   ·rw [if_neg e2,decide_eq_true_iff] at h'
    rw [if_neg (by omega),decide_eq_true_iff];omega
theorem lexI_neg:∀ a b c,lexI a c=true->lexI a b=true∨lexI b c=true
 | a,b,c,h=>by
  by_cases h1:lexI a b=true
  ·exact .inl h1
  ·rw [Bool.not_eq_true] at h1
   by_cases h2:lexI b a=true
   ·exact .inr (lexI_tr b a c h2 h)
   ·rw [Bool.not_eq_true] at h2
    rw [lexI_tot a b h1 h2] at h;exact .inr h
noncomputable def OI:KeyOrd:=⟨List Int,lexI,lexI_irr,lexI_tr,lexI_neg,lexI_tot⟩
noncomputable def TuI (h:Heap) (v:Value) (l:List Int):Prop:=∃ a its,v=.ref a/\h.IsTuple a its/\IntsAre its.toList l
noncomputable def intVal:Value->Int
 | .int n _=>n
 | _=>0
noncomputable def tuI (h:Heap):Value->List Int
 | .ref a=>match h.get? a with
  | some o=>match o.data with
   | .seq its _=>its.toList.map intVal
   | _=>[]
  | none=>[]
 | _=>[]
theorem ints_val:∀ {us:List Value}{l:List Int},IntsAre us l->us.map intVal=l
 | _,_,.nil=>rfl
 | _,_,.cons n t h=>by rw [List.map_cons,ints_val h];rfl
theorem ints_len:∀ {us:List Value}{l:List Int},IntsAre us l->us.length=l.length
 | _,_,.nil=>rfl
 | _,_,.cons n t h=>by rw [List.length_cons,List.length_cons,ints_len h]
theorem ints_at:∀ {us:List Value}{l:List Int},IntsAre us l->∀ (j:Nat) (h:j < us.length),∃ t,us[j]=.int (l.getD j 0) t
 | _,_,.nil,j,h=>absurd h (Nat.not_lt_zero j)
 | _,_,.cons n t hh,0,h=>⟨t,rfl⟩
 | _,_,.cons n t hh,j+1,h=>by
  obtain⟨t',e⟩:=ints_at hh j (Nat.lt_of_succ_lt_succ h)
  exact⟨t',by simpa using e⟩
theorem TuI.is {h:Heap}{v:Value}{l:List Int} (t:TuI h v l):tuI h v=l:=by
 obtain⟨a,its,rfl,⟨o,ho,hc,n,hd⟩,hi⟩:=t
 simp only [tuI,ho,hd]
 exact ints_val hi
theorem TuI.fit {h h':Heap}{v:Value}{l:List Int} (t:TuI h v l) (hk:∀ b o,h.get? b=some o->h'.get? b=some o):TuI h' v l:=by
 obtain⟨a,its,rfl,⟨o,ho,r⟩,hi⟩:=t
 exact⟨a,its,rfl,⟨o,hk _ _ ho,r⟩,hi⟩
theorem lex_lexN:∀ (l m:List Int) (i:Nat) (e f:Nat->Bool),(∀ j,j < l.length->j < m.length->e (i+j)=decide (l.getD j 0=m.getD j 0)/\f (i+j)=decide (l.getD j 0 < m.getD j 0))->
  lexN e f (decide (l.length < m.length)) (min l.length m.length) i=lexI l m
 | [],[],i,e,f,_=>by simp [lexN,lexI]
 | [],b::m,i,e,f,_=>by simp [lexN,lexI]
 | a::l,[],i,e,f,_=>by simp [lexN,lexI]
 | a::l,b::m,i,e,f,h=>by
  have h0:=h 0 (by simp) (by simp)
  rw [List.length_cons,List.length_cons,show min (l.length+1) (m.length+1)=min l.length m.length+1 by omega]
  have e1:decide (l.length+1 < m.length+1)=decide (l.length < m.length):=by rw [Bool.eq_iff_iff];simp
  rw [e1]
  show (if e i=true then lexN e f (decide (l.length < m.length)) (min l.length m.length) (i+1) else f i)=if a=b then lexI l m else decide (a < b)
  rw [Nat.add_zero] at h0
  rw [h0.1,h0.2]
  by_cases q:a=b
  ·subst q
   simp only [List.getD_cons_zero,decide_true,if_true]
   exact lex_lexN l m (i+1) e f fun j h1 h2=>by
    have:=h (j+1) (by simpa using h1) (by simpa using h2)
    rw [show i+1+j=i+(j+1) by omega]
    simpa using this
  ·simp [q]
section
variable {prog:Program}{w:World}{A:Around}{E:Value->Shared->Prop}{s:Shared}{x y:Value}{l m:List Int}
theorem LtAt.ints {a b:Int}{t u:Tok}:LtAt A s (.int a t) (.int b u) (decide (a < b)):=fun prog w E Q h=>PyProof.Rows.lt_int h
theorem EqAt.ints {a b:Int}{t u:Tok}:EqAt A s (.int a t) (.int b u) (decide (a=b)):=by
 have:=eqAt_V (A:=A) (s:=s) (y:=.int a) (x:=.int b) (u:=.int a t) (v:=.int b u) ⟨t,rfl⟩ ⟨u,rfl⟩ rfl rfl
 have e:eqV (.int a) (.int b)=decide (a=b):=by simp [eqV,Bool.beq_eq_decide_eq]
 rw [e] at this;exact this
theorem TuI.lt (tx:TuI s.heap x l) (ty:TuI s.heap y m) (hu:A.units < cLine):LtAt A s x y (lexI l m):=by
 obtain⟨a,us,rfl,h1,i1⟩:=tx
 obtain⟨b,vs,rfl,h2,i2⟩:=ty
 have e1:us.size=l.length:=by rw [←Array.length_toList];exact ints_len i1
 have e2:vs.size=m.length:=by rw [←Array.length_toList];exact ints_len i2
 have z:=LtAt.tuples (A:=A) (e:=fun j=>decide (l.getD j 0=m.getD j 0)) (l:=fun j=>decide (l.getD j 0 < m.getD j 0)) h1 h2 hu fun j g1 g2=>by
  obtain⟨t,q1⟩:=ints_at i1 j (by simpa using g1)
  obtain⟨t',q2⟩:=ints_at i2 j (by simpa using g2)
  rw [Array.getElem_toList] at q1 q2
  rw [q1,q2]
  exact⟨EqAt.ints,fun _=>LtAt.ints⟩
 rw [e1,e2,lex_lexN l m 0 _ _ fun j h1 h2=>by rw [Nat.zero_add];exact⟨rfl,rfl⟩] at z
 exact z
theorem TuI.one (tx:TuI s.heap x l) (ty:TuI s.heap y m) (hu:A.units < cLine) {Q:Bool->Shared->Prop} (h:Q (lexI l m) s) (b:Bool):wpAny (model prog w) A (oneLt' b x y) Q E s:=by
 cases b with
 | false=>exact kat_one _ _ (tx.lt ty hu _ _ _ _ h)
 | true=>
  rw [oneLt'_eq]
  simp only [if_true]
  refine wpAny_bind (wpAny_cRoomFor hu ?_)
  obtain⟨a,us,rfl,h1,i1⟩:=id tx
  obtain⟨c,vs,rfl,h2,i2⟩:=id ty
  obtain⟨⟨cls,dd,data,sl⟩,ho,hc,n,hd⟩:=id h1
  obtain⟨⟨cls2,dd2,data2,sl2⟩,ho2,hc2,n2,hd2⟩:=id h2
  simp only at hc hd hc2 hd2
  subst hc hd hc2 hd2
  have e1:us.size=l.length:=by rw [←Array.length_toList];exact ints_len i1
  have e2:vs.size=m.length:=by rw [←Array.length_toList];exact ints_len i2
  refine wpAny_bind (wpAny_callSpecialIfBound?_slot (T:="tuple") ⟨_,ho,rfl⟩ PySem.F.slot_tuple_lt (call_meets PySem.F.slot_tuple_lt ⟨_,ho,rfl⟩ PySem.F.entry_tuple_lt (PySem.F.args_tuple_lt_2 _ _)
   (tuple_ltAt a c us vs n n2 dd dd2 sl sl2 (fun j=>decide (l.getD j 0=m.getD j 0)) fun j=>decide (l.getD j 0 < m.getD j 0)) ⟨⟨ho,ho2⟩,fun j g1 g2=>?_,?_⟩))
  ·obtain⟨t,q1⟩:=ints_at i1 j (by simpa using g1)
   obtain⟨t',q2⟩:=ints_at i2 j (by simpa using g2)
   rw [Array.getElem_toList] at q1 q2
   rw [q1,q2]
   exact⟨EqAt.ints,fun _=>LtAt.ints⟩
  ·rw [e1,e2,lex_lexN l m 0 _ _ fun j h1 h2=>by rw [Nat.zero_add];exact⟨rfl,rfl⟩]
   exact wpAny_truthy_bool h
theorem lex_go {Q:Bool->Shared->Prop}{fin:Bool}:∀ {us vs:List Value}{l m:List Int} (i:Nat),IntsAre us l->IntsAre vs m->(fin=decide (l.length < m.length))->Q (lexI l m) s->KatLex prog w A true fin Q (us.zip vs) i s
 | _,_,_,_,i,.nil,.nil,hf,h=>kat_nil (by rw [hf];exact h)
 | _,_,_,_,i,.nil,.cons n t r,hf,h=>kat_nil (by rw [hf];simpa [lexI] using h)
 | _,_,_,_,i,.cons n t r,.nil,hf,h=>kat_nil (by rw [hf];simpa [lexI] using h)
 | _,_,_,_,i,.cons (vs:=us) (ns:=l) a t r,.cons (vs:=vs) (ns:=m) b u r',hf,h=>by
  rw [List.zip_cons_cons]
  refine kat_cons (EqAt.ints prog w _ _ ?_)
  unfold lexI at h
  by_cases e:a=b
  ·subst e
   rw [if_pos rfl] at h
   rw [decide_eq_true rfl]
   exact kat_yes (lex_go (i+1) r r' (by rw [hf,Bool.eq_iff_iff];simp) h)
  ·rw [if_neg e] at h
   rw [decide_eq_false e]
   refine kat_no ?_
   cases (true && i==0) with
   | true=>exact oneLt_int h
   | false=>exact kat_one _ _ (PyProof.Rows.lt_int h)
theorem TuI.tups (tx:TuI s.heap x l) (ty:TuI s.heap y m) {Q:Bool->Shared->Prop} (h:Q (lexI l m) s):wpAny (model prog w) A (keyLt' (tuples' true) x y) Q E s:=by
 obtain⟨a,us,rfl,⟨o,ho,hc,n,hd⟩,i1⟩:=tx
 obtain⟨c,vs,rfl,⟨o2,ho2,hc2,n2,hd2⟩,i2⟩:=ty
 have e1:us.size=l.length:=by rw [←Array.length_toList];exact ints_len i1
 have e2:vs.size=m.length:=by rw [←Array.length_toList];exact ints_len i2
 exact kat_lt ho hd ho2 hd2 (lex_go 0 i1 i2 (by rw [e1,e2]) h)
end
end L2
namespace L2
open PySem PySem.Spec PyProof.Rows PySem.SeqAt PySem.W
section
variable {prog:Program}{w:World}{A:Around}{E:Value->Shared->Prop}{s:Shared}{O:KeyOrd}{rk:Keyed->O.α}{S:Keyed->Prop}{vs:List Value}
theorem zip_self:∀ (vs:List Value),vs.zip vs=vs.map fun v=>(v,v)
 | []=>rfl
 | v::vs=>by rw [List.zip_cons_cons,zip_self vs];rfl
theorem pw_lt2 {α β:Type}{f:α->β}{R:β->β->Prop}:∀ {vs:List α},vs.toArray.size < 2->(vs.map f).Pairwise R
 | [],_=>List.Pairwise.nil
 | [v],_=>List.pairwise_singleton _ _
 | _::_::_,h=>absurd h (by simp)
set_option maxHeartbeats 1000000 in
theorem lsort_any {a:Addr}{n:Nat}{P:PySem.Fin->Shared->Prop} (ho:s.heap.get? a=some (seqObj "list" vs.toArray n)) (h64:vs.length≤64)
  (hyp:∀ h',(∀ b o,b≠a->s.heap.get? b=some o->h'.get? b=some o)->∃ κ,(2≤vs.length->∀ (Q':SortKind->Shared->Prop) E',Q' κ { s with heap:=h' }->wpAny (model prog w) A (keyKind' vs.toArray) Q' E' { s with heap:=h' })/\Cm prog w A { s with heap:=h' } κ O rk S)
  (hS:∀ v ∈ vs,S (v,v))
  (h:∀ out:List Value,out.Perm vs->out.Pairwise (fun x y=>O.kle (rk (x,x)) (rk (y,y)))->P (.done (.ret .none)) { s with heap:=sortedHeap s.heap a vs out.toArray }) :
  wpAny (model prog w) A (Builtin.«list.sort» ⟨[.ref a],[]⟩) P E s:=by
 rw [list_sort_plain]
 have hlt:a < s.heap.objs.size:=Heap.lt_size ho
 have hsz:vs.toArray.size=vs.length:=by simp
 refine wpAny_bind (listItems_at ho rfl ?_)
 refine wpAny_bind (listUpdate_at ho rfl ?_ (by rw [hsz,sizeLine_eq];omega))
 obtain⟨e1,ho1⟩:∃ e1,(s.heap.update a (Obj.mapSeq fun _=>#[])).get? a=some (seqObj "list" #[] e1):=⟨_,get?_update_seq ho (fun _=>#[])⟩
 refine wpAny_bind (seqEpoch_at ho1 rfl ?_)
 refine wpAny_bind (wpAny_newTuple ?_ (by rw [sizeLine_eq];show vs.toArray.toList.length≤_;simp;omega))
 refine wpAny_bind (wpAny_newList ?_)
 refine wpAny_holding ?_
 have z1:(s.heap.update a (Obj.mapSeq fun _=>(#[]:Array Value))).objs.size=s.heap.objs.size:=Heap.size_update ..
 have keepN:∀ b o,b < s.heap.objs.size->(s.heap.update a (Obj.mapSeq fun _=>(#[]:Array Value))).get? b=some o->
   (((s.heap.update a (Obj.mapSeq fun _=>#[])).push (seqObj "tuple" vs.toArray 0)).push (seqObj "list" #[] 0)).get? b=some o:=fun b o hb q=>by
  rw [Heap.get?_push_ne _ _ _ (Nat.ne_of_lt (by rw [size_push',z1];exact Nat.lt_succ_of_lt hb)),Heap.get?_push_ne _ _ _ (Nat.ne_of_lt (by rw [z1];exact hb))]
  exact q
 have ho6:=keepN a _ hlt ho1
 obtain⟨κ,hkk,hC⟩:=hyp (((s.heap.update a (Obj.mapSeq fun _=>#[])).push (seqObj "tuple" vs.toArray 0)).push (seqObj "list" #[] 0)) fun b o hb q=>
  keepN b o (Heap.lt_size q) (by rw [Heap.get?_update_ne _ _ _ _ hb];exact q)
 show wpAny (model prog w) A _ P E { s with heap:=((s.heap.update a (Obj.mapSeq fun _=>#[])).push (seqObj "tuple" vs.toArray 0)).push (seqObj "list" #[] 0) }
 have pt:(vs.toArray.zip vs.toArray).toList=vs.map fun v=>(v,v):=by rw [←zip_self];simp
 have fin:∀ st':SortSt,(arrOf st').toList.Perm (vs.map fun v=>(v,v))->(arrOf st').toList.Pairwise (fun x y=>O.kle (rk x) (rk y))->∃ out:List Value,out.length=vs.length/\(arrOf st').map (·.2)=out.toArray/\P (.done (.ret .none)) { s with heap:=sortedHeap s.heap a vs out.toArray }:=fun st' h1 h2=>by
  refine⟨(arrOf st').toList.map (·.2),by rw [List.length_map,h1.length_eq,List.length_map],by apply Array.toList_inj.mp;simp,h _ ?_ ?_⟩
  ·have:=h1.map (·.2)
   rw [List.map_map] at this
   have e:(vs.map ((fun x=>x.2) ∘ fun v=>((v,v):Keyed)))=vs:=by rw [show ((fun x:Keyed=>x.2) ∘ fun v=>((v,v):Keyed))=id from rfl,List.map_id]
   rw [e] at this;exact this
  ·rw [List.pairwise_map]
   refine h2.imp_of_mem fun {x y} hx hy q=>?_
   have dx:x=(x.2,x.2):=by obtain⟨v,_,rfl⟩:=List.mem_map.mp (h1.mem_iff.mp hx);rfl
   have dy:y=(y.2,y.2):=by obtain⟨v,_,rfl⟩:=List.mem_map.mp (h1.mem_iff.mp hy);rfl
   rw [←dx,←dy];exact q
 dsimp only
 by_cases h2:vs.toArray.size < 2
 ·rw [if_pos h2,if_pos h2]
  refine wpAny_bind (wpAny_pure ?_)
  rw [StateT.run_pure]
  refine wpAny_bind (wpAny_pure ?_)
  dsimp only
  obtain⟨out,q0,q1,q2⟩:=fin (SortSt.mk' general' (vs.toArray.zip vs.toArray) #[] 7 none) (by rw [pt]) (by rw [pt];exact pw_lt2 h2)
  refine wpAny_bind (seqEpoch_at ho6 rfl ?_)
  rw [q1]
  refine wpAny_bind (listUpdate_at ho6 rfl ?_ (hsz2:=by show out.length≤_;rw [q0,sizeLine_eq];omega))
  simp only [bne_self_eq_false,Bool.false_eq_true,if_false]
  exact wpAny_pure q2
 ·rw [if_neg h2,if_neg h2]
  refine wpAny_bind (hkk (by omega) _ _ ?_)
  refine wpAny_bind (wpAny_mono (ws_runs hC (st:=SortSt.mk' κ (vs.toArray.zip vs.toArray) #[] 7 none) (a0:=vs.toArray.zip vs.toArray) (Q:=fun _ st'=>(arrOf st').toList.Perm (vs.map fun v=>(v,v))/\(arrOf st').toList.Pairwise (fun x y=>O.kle (rk x) (rk y))/\failedOf st'=none)
   rfl rfl rfl rfl (fun x hx=>?_) (by simp;omega) (by simp;omega) fun st' a1 a2 a3=>⟨by rw [←pt];exact a1,a2,a3⟩) ?_ fun _ _ e=>e)
  ·rw [pt] at hx
   obtain⟨v,hv,rfl⟩:=List.mem_map.mp hx
   exact hS v hv
  rintro⟨⟨⟩,st'⟩ s' ⟨rfl,a1,a2,a3⟩
  dsimp only
  obtain⟨out,q0,q1,q2⟩:=fin st' a1 a2
  refine wpAny_bind (seqEpoch_at ho6 rfl ?_)
  rw [q1]
  refine wpAny_bind (listUpdate_at ho6 rfl ?_ (hsz2:=by show out.length≤_;rw [q0,sizeLine_eq];omega))
  rw [a3]
  simp only [bne_self_eq_false,Bool.false_eq_true,if_false]
  exact wpAny_pure q2
theorem sorted_any {l:Addr}{Q:Value->Shared->Prop} (hl:s.heap.IsList l vs.toArray) (h64:vs.length≤64)
  (hyp:∀ h',(∀ b o,s.heap.get? b=some o->h'.get? b=some o)->∃ κ,(2≤vs.length->∀ (Q':SortKind->Shared->Prop) E',Q' κ { s with heap:=h' }->wpAny (model prog w) A.in1.in1 (keyKind' vs.toArray) Q' E' { s with heap:=h' })/\Cm prog w A.in1.in1 { s with heap:=h' } κ O rk S)
  (hS:∀ v ∈ vs,S (v,v))
  (h:∀ out:List Value,out.Perm vs->out.Pairwise (fun x y=>O.kle (rk (x,x)) (rk (y,y)))->Q (.ref (s.heap.objs.size+1)) { s with heap:=sortedAll s.heap vs out.toArray }) :
  wpAny (model prog w) A (call (.builtin "sorted") [.ref l]) Q E s:=by
 refine Calls.call_function_entry kind_sorted plain_sorted entry_sorted (args_sorted1 _) ?_
 unfold Builtin.«sorted»
 refine wpAny_bind (m:=checkCount "sorted" 1 1 _) (wpAny_pure ?_)
 refine wpAny_bind (collect_list hl ?_ (by rw [sizeLine_eq];omega))
 refine wpAny_bind (wpAny_newList ?_ (by rw [sizeLine_eq];omega))
 have hz:((s.heap.push (seqObj "list" #[] 0)).update s.heap.objs.size (Obj.mapSeq (·++vs.toArray))).objs.size=s.heap.objs.size+1:=by rw [Heap.size_update,size_push']
 generalize hh:((s.heap.push (seqObj "list" #[] 0)).update s.heap.objs.size (Obj.mapSeq (·++vs.toArray)))=hB at hz ⊢
 have hoL:(hB.push (seqObj "list" vs.toArray 0)).get? (s.heap.objs.size+1)=some (seqObj "list" vs.toArray 0):=by
  rw [←hz];exact Heap.get?_push_size _ rfl
 have keep:∀ b o,s.heap.get? b=some o->b≠s.heap.objs.size+1/\(hB.push (seqObj "list" vs.toArray 0)).get? b=some o:=fun b o q=>by
  have hlt:b < s.heap.objs.size:=Heap.lt_size q
  refine⟨Nat.ne_of_lt (Nat.lt_succ_of_lt hlt),?_⟩
  rw [Heap.get?_push_ne _ _ _ (Nat.ne_of_lt (by rw [hz];exact Nat.lt_succ_of_lt hlt)),←hh,Heap.get?_update_ne _ _ _ _ (Nat.ne_of_lt hlt),Heap.get?_push_ne _ _ _ (Nat.ne_of_lt hlt)]
  exact q
 show wpAny _ _ _ _ _ { s with heap:=hB.push (seqObj "list" vs.toArray 0) }
 rw [hz]
 refine wpAny_bind (wpAny_holding (wpAny_call_entry slot_list_sort ⟨_,hoL,rfl⟩ entry_list_sort (lsort_any (s:={ s with heap:=hB.push (seqObj "list" vs.toArray 0) }) hoL h64 (fun h' hk=>hyp h' fun b o q=>hk b o (keep b o q).1 (keep b o q).2) hS fun out a1 a2=>⟨_,rfl,?_⟩) (args_list_sort _)))
 refine wpAny_pure ⟨_,rfl,?_⟩
 have:=h out a1 a2
 unfold sortedAll at this
 rw [hh] at this
 exact this
end
end L2
namespace L2
open PySem PySem.Spec PyProof.Rows PySem.SeqAt PySem.W
noncomputable def fst0 (h:Heap):Value->Option Value
 | .ref a=>match h.get? a with
  | some o=>match o.data with
   | .seq its _=>its[0]?
   | _=>none
  | none=>none
 | _=>none
theorem TuI.fst {h:Heap}{v:Value}{l:List Int} (t:TuI h v l):fst0 h v=none∨∃ n t,fst0 h v=some (.int n t):=by
 obtain⟨a,its,rfl,⟨o,ho,hc,n,hd⟩,hi⟩:=t
 simp only [fst0,ho,hd]
 by_cases hz:0 < its.size
 ·obtain⟨t,e⟩:=ints_at hi 0 (by simpa using hz)
  exact .inr ⟨_,t,by rw [Array.getElem?_eq_getElem hz];rw [Array.getElem_toList] at e;rw [e]⟩
 ·exact .inl (Array.getElem?_eq_none (by omega))
section
variable {prog:Program}{w:World}{A:Around}{E:Value->Shared->Prop}{s:Shared}
theorem typ_tup {v:Value}{l:List Int} (t:TuI s.heap v l) {Q:Value->Shared->Prop} (h:Q (.type "tuple") s):wpAny (model prog w) A (typeOf v) Q E s:=by
 obtain⟨a,its,rfl,⟨o,ho,hc,n,hd⟩,hi⟩:=t
 refine Looks.here (show Looks (model prog w) s.heap (typeOf (.ref a)) o.cls from (Looks.ld ho).andThen .now) ?_
 rw [hc];exact h
theorem first_tup {v:Value}{l:List Int} (t:TuI s.heap v l) {Q:Option Value->Shared->Prop} (h:Q (fst0 s.heap v) s):wpAny (model prog w) A (firstOfTuple' v) Q E s:=by
 rw [kas_first_eq]
 refine wpAny_bind (typ_tup t ?_)
 obtain⟨a,its,rfl,⟨o,ho,hc,n,hd⟩,hi⟩:=t
 rw [if_neg (by simp)]
 simp only [fst0,ho,hd] at h
 exact wpAny_bind (listItems_at ho hd (wpAny_pure h))
theorem firsts_tup:∀ {vs:List Value}{Q:List (Option Value)->Shared->Prop},(∀ v ∈ vs,∃ l,TuI s.heap v l)->Q (vs.map (fst0 s.heap)) s->wpAny (model prog w) A (vs.mapM firstOfTuple') Q E s
 | [],_,_,h=>by rw [List.mapM_nil];exact wpAny_pure h
 | v::vs,Q,t,h=>by
  rw [List.mapM_cons]
  obtain⟨l,tv⟩:=t v List.mem_cons_self
  refine wpAny_bind (first_tup tv (wpAny_bind (firsts_tup (Q:=fun bs s'=>wpAny (model prog w) A (pure (fst0 s.heap v::bs)) Q E s') (fun u hu=>t u (List.mem_cons_of_mem _ hu)) (wpAny_pure h))))
theorem cmp_is {x y:Value}{l m:List Int} (hx:TuI s.heap x l) (hy:TuI s.heap y m) {Q:Bool->Shared->Prop} (h:Q (OI.blt (tuI s.heap x) (tuI s.heap y)) s):Q (lexI l m) s:=by
 have h':Q (lexI (tuI s.heap x) (tuI s.heap y)) s:=h
 rw [hx.is,hy.is] at h';exact h'
theorem kind_tup {vs:List Value} (t:∀ v ∈ vs,∃ l,TuI s.heap v l) (hu:A.units < cLine):∃ κ,(2≤vs.length->∀ (Q':SortKind->Shared->Prop) E',Q' κ s->wpAny (model prog w) A (keyKind' vs.toArray) Q' E' s)/\
  Cm prog w A s κ OI (fun p=>tuI s.heap p.1) (fun p=>∃ l,TuI s.heap p.1 l):=by
 by_cases c1:(vs.map (fst0 s.heap)).toArray.all (·.isSome)=true
 ·refine⟨tuples' true,fun h2 Q' E' hq=>?_,fun x y ⟨l,hx⟩ ⟨m,hy⟩ Q E h=>hx.tups hy (cmp_is hx hy h)⟩
  rw [keyKind'_eq,List.mapM_toArray,map_eq_pure_bind]
  refine wpAny_bind (wpAny_bind (firsts_tup t (wpAny_pure ?_)))
  rw [if_pos c1]
  refine wpAny_bind (wpAny_rule ?_)
  have hf:∀ v ∈ (vs.map (fst0 s.heap)).filterMap id,∃ n t,v=.int n t:=fun v hv=>by
   obtain⟨o,ho,e⟩:=List.mem_filterMap.mp hv
   obtain⟨u,hu,rfl⟩:=List.mem_map.mp ho
   obtain⟨l,tu⟩:=t u hu
   rcases tu.fst with q | ⟨n,t',q⟩
   ·rw [q] at e;cases e
   ·rw [q] at e;exact⟨n,t',(Option.some.inj e).symm⟩
  have hl:∃ f fr,(vs.map (fst0 s.heap)).filterMap id=f::fr:=by
   match vs,h2,c1 with
   | v::vs,_,c1=>
    simp only [List.map_cons,List.all_toArray,List.all_cons,Bool.and_eq_true] at c1
    obtain⟨u,hu⟩:=Option.isSome_iff_exists.mp c1.1
    exact⟨u,(vs.map (fst0 s.heap)).filterMap id,by rw [List.map_cons,List.filterMap_cons,hu];rfl⟩
  obtain⟨f,fr,e⟩:=hl
  have e2:(vs.map (fst0 s.heap)).toArray.filterMap id=(f::fr).toArray:=by rw [←e];simp
  rw [e2,oneTypeOnly'_eq,List.mapM_toArray,map_eq_pure_bind]
  refine wpAny_bind (wpAny_bind (wpAny_bind (kas_mapM (r:=.type "int") _ (fun v hv Q'' hq'=>?_) (wpAny_pure ?_))))
  ·rw [←e] at hv
   obtain⟨n,t',rfl⟩:=hf v hv
   exact wpAny_pure hq'
  ·have h0:(List.map (fun _=>Value.type "int") (f::fr)).toArray[0]?=some (.type "int"):=by simp
   rw [h0]
   have hall:((List.map (fun _=>Value.type "int") (f::fr)).toArray.all fun x=>x==.type "int")=true:=by
    simp only [List.all_toArray,List.all_map,List.all_eq_true];intro _ _;rfl
   simp only [hall,if_true]
   exact wpAny_pure (wpAny_pure hq)
 ·by_cases c2:((vs.map (fst0 s.heap)).toArray[0]?.bind id).isSome=true
  ·refine⟨general',fun h2 Q' E' hq=>?_,fun x y ⟨l,hx⟩ ⟨m,hy⟩ Q E h=>hx.one hy hu (cmp_is hx hy h) false⟩
   rw [keyKind'_eq,List.mapM_toArray,map_eq_pure_bind]
   refine wpAny_bind (wpAny_bind (firsts_tup t (wpAny_pure ?_)))
   rw [if_neg c1,if_pos c2]
   exact wpAny_pure hq
  ·refine⟨oneType',fun h2 Q' E' hq=>?_,fun x y ⟨l,hx⟩ ⟨m,hy⟩ Q E h=>hx.one hy hu (cmp_is hx hy h) true⟩
   rw [keyKind'_eq,List.mapM_toArray,map_eq_pure_bind]
   refine wpAny_bind (wpAny_bind (firsts_tup t (wpAny_pure ?_)))
   rw [if_neg c1,if_neg c2,oneTypeOnly'_eq,List.mapM_toArray,map_eq_pure_bind]
   refine wpAny_bind (wpAny_bind (wpAny_bind (kas_mapM (r:=.type "tuple") _ (fun v hv Q'' hq'=>?_) (wpAny_pure ?_))))
   ·obtain⟨l,tv⟩:=t v hv
    exact typ_tup tv hq'
   ·obtain⟨v,vs,rfl⟩:∃ v r,vs=v::r:=by
     match vs,h2 with
     | v::r,_=>exact⟨v,r,rfl⟩
    have h0:(List.map (fun _=>Value.type "tuple") (v::vs)).toArray[0]?=some (.type "tuple"):=by simp
    rw [h0]
    have hall:((List.map (fun _=>Value.type "tuple") (v::vs)).toArray.all fun x=>x==.type "tuple")=true:=by
     simp only [List.all_toArray,List.all_map,List.all_eq_true];intro _ _;rfl
    simp only [hall,if_true]
    exact wpAny_pure (wpAny_pure hq)
theorem kind_int {vs:List Value}{ns:List Int} (t:IntsAre vs ns):(2≤vs.length->∀ (Q':SortKind->Shared->Prop) E',Q' oneType' s->wpAny (model prog w) A (keyKind' vs.toArray) Q' E' s)/\
  Cm prog w A s oneType' OI (fun p=>[intVal p.1]) (fun p=>∃ n t,p.1=.int n t):=by
 refine⟨fun h2 Q' E' hq=>?_,fun x y ⟨n,t,hx⟩ ⟨m,u,hy⟩ Q E h=>?_⟩
 ·match vs,h2,t with
  | v1::v2::r,_,t=>rw [keyKind_ints t];exact wpAny_pure hq
 ·rw [keyLt'_oneType,hx,hy]
  refine oneLt_int ?_
  have e:OI.blt [intVal x.1] [intVal y.1]=decide (n < m):=by
   rw [hx,hy]
   show (if n=m then lexI [] [] else decide (n < m))=_
   by_cases q:n=m
   ·subst q;simp [lexI]
   ·rw [if_neg q]
  rw [e] at h;exact h
end
noncomputable def insL (x:List Int):List (List Int)->List (List Int)
 | []=>[x]
 | y::ys=>if lexI y x=true then y::insL x ys else x::y::ys
noncomputable def isortL:List (List Int)->List (List Int)
 | []=>[]
 | x::xs=>insL x (isortL xs)
theorem insL_perm (x:List Int):∀ ys,(insL x ys).Perm (x::ys)
 | []=>List.Perm.refl _
 | y::ys=>by
  unfold insL
  split
  ·exact (List.Perm.cons y (insL_perm x ys)).trans (List.Perm.swap x y ys)
  ·exact List.Perm.refl _
theorem isortL_perm:∀ xs,(isortL xs).Perm xs
 | []=>List.Perm.refl _
 | x::xs=>(insL_perm x _).trans (List.Perm.cons x (isortL_perm xs))
noncomputable def leL (a b:List Int):Prop:=lexI b a=false
theorem leL_trans {a b c:List Int} (h:leL a b) (h':leL b c):leL a c:=KeyOrd.kle_trans (O:=OI) h h'
theorem leL_anti {a b:List Int} (h:leL a b) (h':leL b a):a=b:=lexI_tot a b h' h
theorem insL_sorted (x:List Int):∀ {ys:List (List Int)},ys.Pairwise leL->(insL x ys).Pairwise leL
 | [],_=>by simp [insL]
 | y::ys,h=>by
  unfold insL
  split
  ·rename_i hxy
   refine List.pairwise_cons.mpr ⟨fun z hz=>?_,insL_sorted x (List.pairwise_cons.mp h).2⟩
   rcases List.mem_cons.mp ((insL_perm x ys).mem_iff.mp hz) with rfl | hz
   ·exact KeyOrd.klt_asymm (O:=OI) hxy
   ·exact (List.pairwise_cons.mp h).1 z hz
  ·rename_i hxy
   rw [Bool.not_eq_true] at hxy
   refine List.pairwise_cons.mpr ⟨fun z hz=>?_,h⟩
   rcases List.mem_cons.mp hz with rfl | hz
   ·exact hxy
   ·exact leL_trans hxy ((List.pairwise_cons.mp h).1 z hz)
theorem isortL_sorted:∀ xs,(isortL xs).Pairwise leL
 | []=>List.Pairwise.nil
 | x::xs=>insL_sorted x (isortL_sorted xs)
theorem sortedL_uniq {xs ys:List (List Int)} (p:xs.Perm ys) (h1:xs.Pairwise leL) (h2:ys.Pairwise leL):xs=ys:=
 List.Perm.eq_of_pairwise (fun a b _ _ h1 h2=>leL_anti h1 h2) h1 h2 p
end L2
namespace L2
open PySem PySem.Spec PyProof.Rows PySem.SeqAt PySem.W
noncomputable def tupsOf:List D->Option (List (List Int))
 | []=>some []
 | .tup l::ds=>(intsOf l).bind fun ns=>(tupsOf ds).map fun r=>ns::r
 | _=>none
noncomputable def tupOf (l:List Int):D:=.tup (l.map D.int)
theorem tupsOf_some:∀ {ds:List D}{ls:List (List Int)},tupsOf ds=some ls->ds=ls.map tupOf
 | [],_,h=>by cases h;rfl
 | .tup l::ds,_,h=>by
  simp only [tupsOf,Option.bind_eq_some_iff,Option.map_eq_some_iff] at h
  obtain⟨ns,e1,r,e2,rfl⟩:=h
  rw [tupsOf_some e2,intsOf_some e1];rfl
 | .non::_,_,h=>by cases h
 | .bl _::_,_,h=>by cases h
 | .int _::_,_,h=>by cases h
 | .str _::_,_,h=>by cases h
 | .ty _::_,_,h=>by cases h
 | .dct::_,_,h=>by cases h
 | .scr _::_,_,h=>by cases h
 | .lst _::_,_,h=>by cases h
theorem tupsOf_map:∀ (ls:List (List Int)),tupsOf (ls.map tupOf)=some ls
 | []=>rfl
 | l::ls=>by
  have:intsOf (l.map D.int)=some l:=by
   induction l with
   | nil=>rfl
   | cons a l ih=>simp [intsOf,ih]
  simp only [List.map_cons,tupOf,tupsOf,this,Option.bind_some]
  rw [show List.map tupOf ls=List.map tupOf ls from rfl,tupsOf_map ls];rfl
noncomputable def sortD (ds:List D):Option (List D):=match intsOf ds with
 | some ns=>some ((isortI ns).map D.int)
 | none=>(tupsOf ds).map fun ls=>(isortL ls).map tupOf
noncomputable def lSort2 (st:Sto):List W->Option (List D)
 | [w]=>(lsD st w).bind fun ds=>if ds.length≤64 then sortD ds else none
 | _=>none
section
variable {K:PySem.W.Frag}{X:Cx}{pins:List (Addr×Obj)}{σ:St}{H:Hp}{s:Shared}{φ:List Addr}
noncomputable def toV:Value->V
 | .ref a=>.ref a
 | _=>.non
theorem rl_tupI {l:List Int}{v:V}{u:Value} (I:Inv X pins σ H s) (r:Rl X.K H φ (tupOf l) v) (q:RelV v u):TuI s.heap u l/\v=toV u/\RelV (toV u) u:=by
 obtain⟨a,vs,rfl,h1,h2⟩:=r
 obtain⟨its,rv,p,_⟩:=I.tuple (SqT.of h1)
 have e:=h2.ints
 subst e
 have e:u=.ref a:=q
 subst e
 exact⟨⟨a,its.toArray,rfl,p,by simpa using intsAre_of rv⟩,rfl,rfl⟩
theorem rls_tupI (I:Inv X pins σ H s):∀ {ls:List (List Int)}{vs:List V}{us:List Value},Rls X.K H φ (ls.map tupOf) vs->Vals vs us->
  us.map (tuI s.heap)=ls/\∀ u ∈ us,TuI s.heap u (tuI s.heap u)/\Rl X.K H φ (tupOf (tuI s.heap u)) (toV u)/\RelV (toV u) u
 | [],_,us,h,q=>by cases h;cases q;exact⟨rfl,fun u hu=>by cases hu⟩
 | l::ls,_,us,h,q=>by
  obtain⟨v,r,rfl,h1,h2⟩:=h
  cases q with
  | cons q1 q2=>
   rename_i u us
   obtain⟨t,e,e'⟩:=rl_tupI I h1 q1
   obtain⟨i1,i2⟩:=rls_tupI I h2 q2
   refine⟨by rw [List.map_cons,i1,t.is],fun x hx=>?_⟩
   rcases List.mem_cons.mp hx with rfl | hx
   ·rw [t.is,←e];exact⟨t,h1,q1⟩
   ·exact i2 x hx
theorem rls_back:∀ {us:List Value},(∀ u ∈ us,TuI s.heap u (tuI s.heap u)/\Rl K H φ (tupOf (tuI s.heap u)) (toV u)/\RelV (toV u) u)->Rls K H φ (us.map fun u=>tupOf (tuI s.heap u)) (us.map toV)/\Vals (us.map toV) us
 | [],_=>⟨rfl,.nil⟩
 | u::us,h=>by
  have h1:=h u List.mem_cons_self
  have h2:=rls_back fun x hx=>h x (List.mem_cons_of_mem _ hx)
  exact⟨⟨_,_,rfl,h1.2.1,h2.1⟩,.cons h1.2.2 h2.2⟩
theorem ints_mem:∀ {us:List Value}{l:List Int},IntsAre us l->∀ u ∈ us,∃ n t,u=.int n t
 | _,_,.nil,u,hu=>by cases hu
 | _,_,.cons n t h,u,hu=>by
  rcases List.mem_cons.mp hu with rfl | hu
  ·exact⟨n,t,rfl⟩
  ·exact ints_mem h u hu
theorem ints_back:∀ {us:List Value},(∀ u ∈ us,∃ n t,u=.int n t)->IntsAre us (us.map intVal)
 | [],_=>.nil
 | u::us,h=>by
  obtain⟨n,t,rfl⟩:=h u List.mem_cons_self
  exact .cons n t (ints_back fun x hx=>h x (List.mem_cons_of_mem _ hx))
theorem cl_sort2 {k:Nat} (hr:Room k X.A) (hK:X.K=K:=by rfl):CallL K X (.builtin "sorted") lSort2:=by
 subst hK
 refine⟨fun st ws d h=>?_⟩
 match ws,h with
 | [w],h=>
  simp only [lSort2,Option.bind_eq_some_iff] at h
  obtain⟨ds,e1,h⟩:=h
  split at h
  ·rename_i hl
   intro pins s σ H xs us Q I rv q
   obtain⟨φ,S,⟨v,r,rfl,r1,rfl⟩,q⟩:=q
   obtain⟨a,vs,rfl,h1,h2⟩:=ls_rel S r1 e1
   obtain⟨u,rfl,ru⟩:=vals1 rv
   cases ru
   obtain⟨its,rv',pl,hz⟩:=I.list (.inl h1)
   have hlen:its.length≤64:=by
    have:=rv'.length
    have:=h2.length
    omega
   have hun:X.A.in1.in1.units < cLine:=by
    have:=hr.un
    show X.A.units+1+1 < cLine
    omega
   have hn:H (s.heap.objs.size+1)=none:=I.hok.fresh (Nat.le_succ _)
   have lay:∀ (out:List Value) (vs':List V),Vals vs' out->out.length≤64->Inv X pins σ (upd H (s.heap.objs.size+1) (.lst vs')) { s with heap:=sortedAll s.heap its out.toArray }:=fun out vs' hv ho=>by
    obtain⟨ep,he⟩:=sortedAll_at s.heap its out.toArray
    refine I.laid (t':=s.toks) (a:=s.heap.objs.size+1) (o:=.lst vs') (fun b o q=>sortedAll_old q) (Nat.le_succ _) ⟨?_,out,ep,hv,by simpa [seqObj] using he⟩
    rw [hv.length];exact small16 (by omega)
   unfold sortD at h
   cases hi:intsOf ds with
   | some ns=>
    rw [hi] at h
    cases h
    cases intsOf_some hi
    cases h2.ints
    have hI:=intsAre_of rv'
    refine sorted_any (O:=OI) (rk:=fun p=>[intVal p.1]) (S:=fun p=>∃ n t,p.1=.int n t) pl.isList hlen (fun h' _=>⟨oneType',kind_int (s:={ s with heap:=h' }) hI⟩) (fun v hv=>ints_mem hI v hv) fun out a1 a2=>?_
    have ho:∀ u ∈ out,∃ n t,u=.int n t:=fun u hu=>ints_mem hI u (a1.mem_iff.mp hu)
    have hp:(out.map intVal).Perm ns:=by
     have:=a1.map intVal
     rw [ints_val hI] at this;exact this
    have hs:(out.map intVal).Pairwise (·≤·):=by
     rw [List.pairwise_map]
     refine a2.imp fun {x y} q=>?_
     have q':lexI [intVal y] [intVal x]=false:=q
     by_cases e:intVal y=intVal x
     ·omega
     ·have:lexI [intVal y] [intVal x]=decide (intVal y < intVal x):=by show (if _ then _ else _)=_;rw [if_neg e]
      rw [this,decide_eq_false_iff_not] at q';omega
    have e:out.map intVal=isortI ns:=sorted_uniq (hp.trans (isortI_perm ns).symm) hs (isortI_sorted ns)
    have hv:=vals_of_ints (ints_back ho)
    rw [e] at hv
    exact⟨.ref _,_,lay out _ hv (by rw [a1.length_eq];exact hlen),rfl,q _ _ H (Same.refl H) hn (Rls.of_ints _)⟩
   | none=>
    rw [hi] at h
    obtain⟨ls,hls,rfl⟩:=Option.map_eq_some_iff.mp h
    cases tupsOf_some hls
    obtain⟨m1,m2⟩:=rls_tupI I h2 rv'
    refine sorted_any (O:=OI) (rk:=fun p=>tuI s.heap p.1) (S:=fun p=>∃ l,TuI s.heap p.1 l) pl.isList hlen (fun h' hk=>?_) (fun v hv=>⟨_,(m2 v hv).1⟩) fun out a1 a2=>?_
    ·obtain⟨κ,k1,k2⟩:=kind_tup (prog:=X.prog) (w:=X.w) (s:={ s with heap:=h' }) (vs:=its) (fun v hv=>⟨_,(m2 v hv).1.fit hk⟩) hun
     refine⟨κ,k1,fun x y ⟨l,hx⟩ ⟨m,hy⟩ Q E hq=>k2 x y ⟨l,hx.fit hk⟩ ⟨m,hy.fit hk⟩ Q E ?_⟩
     have hx':=hx.fit hk
     have hy':=hy.fit hk
     have hq':Q (lexI (tuI s.heap x.1) (tuI s.heap y.1)) { s with heap:=h' }:=hq
     show Q (lexI (tuI h' x.1) (tuI h' y.1)) { s with heap:=h' }
     rw [hx'.is,hy'.is]
     rw [hx.is,hy.is] at hq'
     exact hq'
    ·have ho:=fun u hu=>m2 u (a1.mem_iff.mp hu)
     obtain⟨b1,b2⟩:=rls_back (K:=X.K) (H:=H) (φ:=φ) ho
     have hp:(out.map (tuI s.heap)).Perm ls:=by
      have:=a1.map (tuI s.heap)
      rw [m1] at this;exact this
     have hs:(out.map (tuI s.heap)).Pairwise leL:=by
      rw [List.pairwise_map]
      exact a2.imp fun {x y} q=>q
     have e:out.map (tuI s.heap)=isortL ls:=sortedL_uniq (hp.trans (isortL_perm ls).symm) hs (isortL_sorted ls)
     have e2:(out.map fun u=>tupOf (tuI s.heap u))=(isortL ls).map tupOf:=by rw [←e,List.map_map];rfl
     rw [e2] at b1
     exact⟨.ref _,_,lay out _ b2 (by rw [a1.length_eq];exact hlen),rfl,q _ _ H (Same.refl H) hn b1⟩
  ·cases h
end
end L2
namespace L2
open PySem PySem.Spec PyProof.Rows
open PySem.AutoSeq1 (wpAny_loadPart')
noncomputable def SIt (k:Bool) (h:Heap) (it l:Addr) (i:Nat):Prop:=match k with
 | true=>h.IsTupleIter it l i
 | false=>h.IsListIter it l i
noncomputable def SIs (k:Bool) (h:Heap) (l:Addr) (xs:Array Value):Prop:=match k with
 | true=>h.IsTuple l xs
 | false=>h.IsList l xs
theorem SIt.to {k:Bool}{h h':Heap}{it l:Addr}{i:Nat} (a:SIt k h it l i) (f:∀ o,h.get? it=some o->h'.get? it=some o):SIt k h' it l i:=by
 cases k with
 | true=>exact Heap.IsTupleIter.at a f
 | false=>exact Heap.IsListIter.at a f
theorem SIs.to {k:Bool}{h h':Heap}{l:Addr}{xs:Array Value} (a:SIs k h l xs) (f:∀ o,h.get? l=some o->h'.get? l=some o):SIs k h' l xs:=by
 cases k with
 | true=>obtain⟨o,e,r⟩:=a;exact⟨o,f o e,r⟩
 | false=>exact Heap.IsList.at a f
theorem SIt.live {k:Bool}{h:Heap}{it l:Addr}{i:Nat} (a:SIt k h it l i):∃ o vs,h.get? it=some o/\o.data=.fields vs:=by
 cases k with
 | true=>obtain⟨o,e,_,d⟩:=a;exact⟨o,_,e,d⟩
 | false=>obtain⟨o,e,_,d⟩:=a;exact⟨o,_,e,d⟩
section
variable {prog:Program}{w:World}{A:Around}{E:Value->Shared->Prop}{s:Shared}{k k2:Bool}
theorem nx_item {it l:Addr}{i:Nat}{xs:Array Value}{x:Value}{Q:Value->Shared->Prop} (hit:SIt k s.heap it l i) (hl:SIs k s.heap l xs) (hx:xs[i]?=some x)
  (hQ:∀ h',SIt k h' it l (i+1)->Heap.SameBut it s.heap h'->Q x { s with heap:=h' }):wpAny (model prog w) A (Builtin.SmallTypes.nextOf (.ref it)) Q E s:=by
 cases k with
 | true=>exact nextOf_tuple_item hit hl hx hQ
 | false=>exact wpAny_nextOf_list_item hit hl hx hQ
theorem nx_end {it l:Addr}{i:Nat}{xs:Array Value}{Q:Value->Shared->Prop} (hh:A.handled=none) (hit:SIt k s.heap it l i) (hl:SIs k s.heap l xs) (hx:xs[i]?=none)
  (hE:∀ h' e,Heap.ExtBut it s.heap h'->(∃ o,h'.get? e=some o/\o.cls=.type "StopIteration")->E (.ref e) { s with heap:=h' }):wpAny (model prog w) A (Builtin.SmallTypes.nextOf (.ref it)) Q E s:=by
 cases k with
 | true=>exact nextOf_tuple_end hh hit hl hx hE
 | false=>exact wpAny_nextOf_list_end hh hit hl hx hE
variable {z TI TO i1 i2 l1 l2:Addr}{n:Nat}{xs ys:Array Value}{a b:Value}
structure ZSt (k k2:Bool) (z TI TO i1 i2 l1 l2:Addr) (f0:Value) (n:Nat) (h:Heap):Prop where
 z:IsZip h z TI TO f0
 ti:IsPair h TI (.ref i1) (.ref i2)
 to:∃ a b,IsPair h TO a b
 t1:SIt k h i1 l1 n
 t2:SIt k2 h i2 l2 n
set_option maxHeartbeats 1000000 in
theorem zip_item {x y:Value}{Q:Option Value->Shared->Prop} (D:ZipApart z TI TO i1 i2 l1 l2) (hs:ZSt k k2 z TI TO i1 i2 l1 l2 .none n s.heap) (hl1:SIs k s.heap l1 xs) (hl2:SIs k2 s.heap l2 ys) (hx:xs[n]?=some x) (hy:ys[n]?=some y)
  (hQ:∀ h',ZSt k k2 z TI TO i1 i2 l1 l2 (rawInt s.heap.objs.size) (n+1) h'->IsPair h' s.heap.objs.size x y->h'.objs.size=s.heap.objs.size+1->
    (∀ c o,c≠z->c≠TO->c≠i1->c≠i2->s.heap.get? c=some o->h'.get? c=some o)->Q (some (.ref s.heap.objs.size)) { s with heap:=h' }) :
  wpAny (model prog w) A (pyNext (.ref z)) Q E s:=by
 obtain⟨hz,hTI,⟨a,b,hTO⟩,h1,h2⟩:=hs
 have hT:s.TypeIs (.ref z) "zip":=⟨_,hz,rfl⟩
 unfold pyNext
 refine wpAny_bind (wpAny_attempt (wpAny_callSpecial?_slot (name:=Str.ofString "__next__") hT F.slot_zip_next (wpAny_call_entry F.slot_zip_next hT F.entry_zip_next ?_ (F.args_zip_next_1 _))))
 show wpAny _ _ (field (.ref z) 2 >>= _) _ _ _
 refine wpAny_bind (wpAny_field hz rfl (x:=.bool false) rfl ?_)
 show wpAny _ _ (field (.ref z) 3 >>= _) _ _ _
 refine wpAny_bind (wpAny_field hz rfl (x:=.ref TI) rfl (wpAny_bind (wpAny_seqItems hTI rfl ?_)))
 show wpAny _ _ (Builtin.SmallTypes.ownedTupleIsFree (.ref z) >>= _) _ _ _
 refine wpAny_bind ?_
 unfold Builtin.SmallTypes.ownedTupleIsFree
 refine wpAny_bind (wpAny_field hz rfl (x:=.none) rfl (wpAny_pure ?_))
 simp only [if_true]
 refine wpAny_bind (wpAny_rule (wpAny_bind (wpAny_field hz rfl (x:=.ref TO) rfl ?_)))
 refine wpAny_bind (wpAny_setField_rec hz (by simp) fun g1 hz1 s1=>?_)
 replace hz1:IsZip g1 z TI TO .ellipsis:=hz1
 refine wpAny_bind ?_
 simp only [List.zipIdx_cons,List.zipIdx_nil,List.forIn_cons,List.forIn_nil]
 have e1:=s1.extBut
 refine wpAny_bind (wpAny_bind (wpAny_onRaise ?_))
 show wpAny _ _ (Builtin.SmallTypes.nextOf (.ref i1) >>= _) _ _ _
 refine wpAny_bind (nx_item (h1.to fun o q=>e1 _ o D.i1z q) (hl1.to fun o q=>e1 _ o D.l1z q) hx fun g2 h12 s2=>wpAny_pure ?_)
 have e2:=s2.extBut
 have hTO2:IsPair g2 TO a b:=e2 _ _ D.TOi1 (e1 _ _ D.TOz hTO)
 refine wpAny_bind (wpAny_seqItems hTO2 rfl (wpAny_bind (wpAny_updateSeq_pair hTO2 fun g3 hTO3 s3=>?_)))
 replace hTO3:IsPair g3 TO x b:=hTO3
 have e3:=s3.extBut
 refine wpAny_bind (wpAny_letGo (wpAny_pure ?_))
 refine wpAny_bind (wpAny_bind (wpAny_onRaise ?_))
 show wpAny _ _ (Builtin.SmallTypes.nextOf (.ref i2) >>= _) _ _ _
 refine wpAny_bind (nx_item (h2.to fun o q=>e3 _ o D.TOi2.symm (e2 _ o D.i12.symm (e1 _ o D.i2z q))) (hl2.to fun o q=>e3 _ o D.l2TO (e2 _ o D.l2i1 (e1 _ o D.l2z q))) hy fun g4 h24 s4=>wpAny_pure ?_)
 have e4:=s4.extBut
 have hTO4:IsPair g4 TO x b:=e4 _ _ D.TOi2 hTO3
 refine wpAny_bind (wpAny_seqItems hTO4 rfl (wpAny_bind (wpAny_updateSeq_pair hTO4 fun g5 hTO5 s5=>?_)))
 replace hTO5:IsPair g5 TO x y:=hTO5
 have e5:=s5.extBut
 refine wpAny_bind (wpAny_letGo (wpAny_pure (wpAny_pure ?_)))
 refine wpAny_bind (wpAny_seqItems hTO5 rfl (wpAny_bind (wpAny_newTuple ?_)))
 have hsz:g5.objs.size=s.heap.objs.size:=by rw [s5.1,s4.1,s3.1,s2.1,s1.1]
 have hz5:IsZip g5 z TI TO .ellipsis:=e5 _ _ D.TOz.symm (e4 _ _ D.i2z.symm (e3 _ _ D.TOz.symm (e2 _ _ D.i1z.symm hz1)))
 have kp:∀ c o,c≠z->c≠TO->c≠i1->c≠i2->s.heap.get? c=some o->g5.get? c=some o:=fun c o c1 c2 c3 c4 e=>e5 _ _ c2 (e4 _ _ c4 (e3 _ _ c2 (e2 _ _ c3 (e1 _ _ c1 e))))
 have h15:SIt k g5 i1 l1 (n+1):=h12.to fun o q=>e5 _ o D.TOi1.symm (e4 _ o D.i12 (e3 _ o D.TOi1.symm q))
 have h25:SIt k2 g5 i2 l2 (n+1):=h24.to fun o q=>e5 _ o D.TOi2.symm q
 have hzlt:z < g5.objs.size:=Heap.lt_size hz5
 show wpAny _ _ (Builtin.SmallTypes.ownedTupleHandOut (.ref z) (.ref g5.objs.size) >>= _) _ _ _
 refine wpAny_bind ?_
 unfold Builtin.SmallTypes.ownedTupleHandOut
 have hz6:IsZip (g5.push { cls:=.type "tuple",data:=.seq #[x,y] }) z TI TO .ellipsis:=Heap.get?_push_of_some _ hz5
 refine wpAny_bind (wpAny_setField_rec hz6 (by simp) fun g7 hz7 s7=>?_)
 replace hz7:IsZip g7 z TI TO (rawInt g5.objs.size):=hz7
 refine wpAny_setField_rec hz7 (by simp) fun g8 hz8 s8=>?_
 replace hz8:IsZip g8 z TI TO (rawInt g5.objs.size):=hz8
 have up:∀ c o,c≠z->g5.get? c=some o->g8.get? c=some o:=fun c o c1 e=>s8.extBut _ _ c1 (s7.extBut _ _ c1 (Heap.get?_push_of_some _ e))
 have hT8:IsPair g8 g5.objs.size x y:=s8.extBut _ _ (Nat.ne_of_gt hzlt) (s7.extBut _ _ (Nat.ne_of_gt hzlt) (Heap.get?_push_size _ rfl))
 have hz9:g8.objs.size=g5.objs.size+1:=by rw [s8.1,s7.1,Heap.size_push]
 rw [hsz] at hz8 hT8 hz9
 refine wpAny_pure ⟨_,rfl,wpAny_pure ?_⟩
 show Q (some (.ref g5.objs.size)) _
 rw [hsz]
 exact hQ g8 ⟨hz8,up _ _ D.TIz (kp _ _ D.TIz D.TITO D.TIi1 D.TIi2 hTI),⟨_,_,up _ _ D.TOz hTO5⟩,h15.to fun o q=>up _ o D.i1z q,h25.to fun o q=>up _ o D.i2z q⟩ hT8 hz9 fun c o c1 c2 c3 c4 e=>up c o c1 (kp c o c1 c2 c3 c4 e)
set_option maxHeartbeats 1000000 in
theorem zip_end {Q:Option Value->Shared->Prop} (hh:A.in1.handled=none) (D:ZipApart z TI TO i1 i2 l1 l2) (hs:ZSt k k2 z TI TO i1 i2 l1 l2 .none n s.heap) (hl1:SIs k s.heap l1 xs) (hl2:SIs k2 s.heap l2 ys) (hend:xs[n]?=none∨ys[n]?=none)
  (hQ:∀ h',(∀ c o,c≠z->c≠TO->c≠i1->c≠i2->s.heap.get? c=some o->h'.get? c=some o)->Q none { s with heap:=h' }):wpAny (model prog w) A (pyNext (.ref z)) Q E s:=by
 obtain⟨hz,hTI,⟨a,b,hTO⟩,h1,h2⟩:=hs
 have hT:s.TypeIs (.ref z) "zip":=⟨_,hz,rfl⟩
 have fin:∀ (h':Heap) (e:Addr),(∀ c o,c≠z->c≠TO->c≠i1->c≠i2->s.heap.get? c=some o->h'.get? c=some o)->(∃ o,h'.get? e=some o/\o.cls=.type "StopIteration")->
   wpAny (model prog w) A (do if (←isInstance (.ref e) (.type "StopIteration")) then pure none else throw (.ref e)) Q E { s with heap:=h' }:=fun h' e hk ⟨o,ho,hc⟩=>
  wpAny_bind (wpAny_isInstance (T:="StopIteration") (b:=true) ⟨o,ho,hc⟩ isSubtype_stop (wpAny_pure (hQ _ hk)))
 unfold pyNext
 refine wpAny_bind (wpAny_attempt (wpAny_callSpecial?_slot (name:=Str.ofString "__next__") hT F.slot_zip_next (wpAny_call_entry F.slot_zip_next hT F.entry_zip_next ?_ (F.args_zip_next_1 _))))
 show wpAny _ _ (field (.ref z) 2 >>= _) _ _ _
 refine wpAny_bind (wpAny_field hz rfl (x:=.bool false) rfl ?_)
 show wpAny _ _ (field (.ref z) 3 >>= _) _ _ _
 refine wpAny_bind (wpAny_field hz rfl (x:=.ref TI) rfl (wpAny_bind (wpAny_seqItems hTI rfl ?_)))
 show wpAny _ _ (Builtin.SmallTypes.ownedTupleIsFree (.ref z) >>= _) _ _ _
 refine wpAny_bind ?_
 unfold Builtin.SmallTypes.ownedTupleIsFree
 refine wpAny_bind (wpAny_field hz rfl (x:=.none) rfl (wpAny_pure ?_))
 simp only [if_true]
 refine wpAny_bind (wpAny_rule (wpAny_bind (wpAny_field hz rfl (x:=.ref TO) rfl ?_)))
 refine wpAny_bind (wpAny_setField_rec hz (by simp) fun g1 hz1 s1=>?_)
 replace hz1:IsZip g1 z TI TO .ellipsis:=hz1
 refine wpAny_bind ?_
 simp only [List.zipIdx_cons,List.zipIdx_nil,List.forIn_cons,List.forIn_nil]
 have e1:=s1.extBut
 refine wpAny_bind (wpAny_bind (wpAny_onRaise ?_))
 show wpAny _ _ (Builtin.SmallTypes.nextOf (.ref i1) >>= _) _ _ _
 cases hx:xs[n]? with
 | none=>
  refine wpAny_bind (nx_end hh (h1.to fun o q=>e1 _ o D.i1z q) (hl1.to fun o q=>e1 _ o D.l1z q) hx fun g2 e s2 he=>?_)
  obtain⟨oe,hoe,hce⟩:=he
  have hz2:IsZip g2 z TI TO .ellipsis:=s2 _ _ D.i1z.symm hz1
  have hez:e≠z:=fun x=>by subst x;rw [hz2] at hoe;cases hoe;simp at hce
  exact wpAny_setField_rec hz2 (by simp) fun g3 _ s3=>fin g3 e (fun c o c1 _ c3 _ x=>s3.extBut _ _ c1 (s2 _ _ c3 (e1 _ _ c1 x))) ⟨oe,s3.extBut _ _ hez hoe,hce⟩
 | some x=>
  have hy:ys[n]?=none:=by rcases hend with h | h;rw [hx] at h;cases h;exact h
  refine wpAny_bind (nx_item (h1.to fun o q=>e1 _ o D.i1z q) (hl1.to fun o q=>e1 _ o D.l1z q) hx fun g2 h12 s2=>wpAny_pure ?_)
  have e2:=s2.extBut
  have hTO2:IsPair g2 TO a b:=e2 _ _ D.TOi1 (e1 _ _ D.TOz hTO)
  refine wpAny_bind (wpAny_seqItems hTO2 rfl (wpAny_bind (wpAny_updateSeq_pair hTO2 fun g3 hTO3 s3=>?_)))
  have e3:=s3.extBut
  refine wpAny_bind (wpAny_letGo (wpAny_pure ?_))
  refine wpAny_bind (wpAny_bind (wpAny_onRaise ?_))
  show wpAny _ _ (Builtin.SmallTypes.nextOf (.ref i2) >>= _) _ _ _
  refine wpAny_bind (nx_end hh (h2.to fun o q=>e3 _ o D.TOi2.symm (e2 _ o D.i12.symm (e1 _ o D.i2z q))) (hl2.to fun o q=>e3 _ o D.l2TO (e2 _ o D.l2i1 (e1 _ o D.l2z q))) hy fun g4 e s4 he=>?_)
  obtain⟨oe,hoe,hce⟩:=he
  have hz4:IsZip g4 z TI TO .ellipsis:=s4 _ _ D.i2z.symm (e3 _ _ D.TOz.symm (e2 _ _ D.i1z.symm hz1))
  have hez:e≠z:=fun x=>by subst x;rw [hz4] at hoe;cases hoe;simp at hce
  exact wpAny_setField_rec hz4 (by simp) fun g5 _ s5=>fin g5 e (fun c o c1 c2 c3 c4 x=>s5.extBut _ _ c1 (s4 _ _ c4 (e3 _ _ c2 (e2 _ _ c3 (e1 _ _ c1 x))))) ⟨oe,s5.extBut _ _ hez hoe,hce⟩
end
end L2
namespace L2
open PySem PySem.Spec PyProof.Rows
open PySem.AutoSeq1 (wpAny_loadPart')
noncomputable def itCls (k:Bool):Value:=if k=true then .type "tuple_iterator" else .type "list_iterator"
noncomputable def itObj (k:Bool) (l:Addr):Obj:={ cls:=itCls k,data:=.fields #[.ref l,.int 0 0] }
abbrev zH1 (k:Bool) (h:Heap) (l1:Addr):Heap:=h.push (itObj k l1)
abbrev zH2 (k k2:Bool) (h:Heap) (l1 l2:Addr):Heap:=(zH1 k h l1).push (itObj k2 l2)
abbrev zH3 (k k2:Bool) (h:Heap) (l1 l2:Addr):Heap:=(zH2 k k2 h l1 l2).push { cls:=.type "tuple",data:=.seq #[.ref h.objs.size,.ref (zH1 k h l1).objs.size] }
abbrev zH4 (k k2:Bool) (h:Heap) (l1 l2:Addr):Heap:=(zH3 k k2 h l1 l2).push { cls:=.type "tuple",data:=.seq #[.none,.none] }
abbrev zH5 (k k2:Bool) (h:Heap) (l1 l2:Addr):Heap:=(zH4 k k2 h l1 l2).push { cls:=.type "zip",data:=.fields #[.none,.bool false,.bool false,.ref (zH2 k k2 h l1 l2).objs.size,.ref (zH3 k k2 h l1 l2).objs.size] }
section
variable {prog:Program}{w:World}{A:Around}{E:Value->Shared->Prop}{s:Shared}{k k2:Bool}
theorem iter_any {l:Addr}{xs:Array Value}{Q:Value->Shared->Prop} (hl:SIs k s.heap l xs) (h:Q (.ref s.heap.objs.size) { s with heap:=s.heap.push (itObj k l) }):wpAny (model prog w) A (pyIter (.ref l)) Q E s:=by
 cases k with
 | true=>exact wpAny_pyIter_tuple hl h
 | false=>exact wpAny_pyIter_list hl h
theorem meets_zip_any (l1 l2:Addr) (xs ys:Array Value) (k k2:Bool) :
  Meets (Builtin.«zip.__new__» ⟨[.type "zip",.ref l1,.ref l2],[]⟩) (fun _ R s=>SIs k s.heap l1 xs/\SIs k2 s.heap l2 ys/\R (.ok (.ret (.ref (zH4 k k2 s.heap l1 l2).objs.size))) { s with heap:=zH5 k k2 s.heap l1 l2 }):=
 .of_wp fun prog w A R s h=>by
  obtain⟨hp,g,d,tk,os⟩:=s
  obtain⟨hl1,hl2,h⟩:=h
  have hsub:=sub_zip
  have hL1:SIs k (Shared.heap ⟨hp,g,d,tk,os⟩) l1 xs:=hl1
  have hL2:SIs k2 (Shared.heap ⟨hp.push (itObj k l1),g,d,tk,os⟩) l2 ys:=hl2.to fun o q=>Heap.get?_push_of_some _ q
  wp_walk using iter_any hL1,iter_any hL2
  exact⟨_,rfl,h⟩
theorem itObj_is (k:Bool) {h:Heap}{it l:Addr} (e:h.get? it=some (itObj k l)):SIt k h it l 0:=by
 cases k with
 | true=>exact⟨_,e,rfl,rfl⟩
 | false=>exact⟨_,e,rfl,rfl⟩
theorem call_zip_any {l1 l2:Addr}{xs ys:Array Value}{Q:Value->Shared->Prop} (hl1:SIs k s.heap l1 xs) (hl2:SIs k2 s.heap l2 ys)
  (h:∀ h',ZSt k k2 (s.heap.objs.size+4) (s.heap.objs.size+2) (s.heap.objs.size+3) s.heap.objs.size (s.heap.objs.size+1) l1 l2 .none 0 h'->
    (∀ c o,s.heap.get? c=some o->h'.get? c=some o)->Q (.ref (s.heap.objs.size+4)) { s with heap:=h' }) :
  wpAny (model prog w) A (call (.type "zip") [.ref l1,.ref l2]) Q E s:=by
 refine callType_new F.called_zip (by decide) (F.typeCall_zip_2 _ _) (F.newCall_zip_2 _ _) (fun obj=>F.args_object_init_3 obj _ _) F.entry_zip_new (meets_zip_any l1 l2 xs ys k k2) ⟨hl1,hl2,?_⟩
 have z1:(zH1 k s.heap l1).objs.size=s.heap.objs.size+1:=Heap.size_push ..
 have z2:(zH2 k k2 s.heap l1 l2).objs.size=s.heap.objs.size+2:=by rw [Heap.size_push,z1]
 have z3:(zH3 k k2 s.heap l1 l2).objs.size=s.heap.objs.size+3:=by rw [Heap.size_push,z2]
 have z4:(zH4 k k2 s.heap l1 l2).objs.size=s.heap.objs.size+4:=by rw [Heap.size_push,z3]
 have up:∀ {h:Heap}{o':Obj}{c:Addr}{o:Obj},h.get? c=some o->(h.push o').get? c=some o:=fun e=>Heap.get?_push_of_some _ e
 have g5:(zH5 k k2 s.heap l1 l2).get? (zH4 k k2 s.heap l1 l2).objs.size=some _:=Heap.get?_push_size _ rfl
 have g4:(zH5 k k2 s.heap l1 l2).get? (zH3 k k2 s.heap l1 l2).objs.size=some _:=up (Heap.get?_push_size _ rfl)
 have g3:(zH5 k k2 s.heap l1 l2).get? (zH2 k k2 s.heap l1 l2).objs.size=some _:=up (up (Heap.get?_push_size _ rfl))
 have g2:(zH5 k k2 s.heap l1 l2).get? (zH1 k s.heap l1).objs.size=some (itObj k2 l2):=up (up (up (Heap.get?_push_size _ rfl)))
 have g1:(zH5 k k2 s.heap l1 l2).get? s.heap.objs.size=some (itObj k l1):=up (up (up (up (Heap.get?_push_size _ rfl))))
 show _/\_
 rw [z2,z3,z4] at g5
 rw [z1,z2] at g3
 rw [z3] at g4
 rw [z1] at g2
 rw [z4]
 exact⟨⟨_,g5,rfl⟩,h _ ⟨g5,g3,⟨_,_,g4⟩,itObj_is k g1,itObj_is k2 g2⟩ fun c o x=>up (up (up (up (up x))))⟩
end
noncomputable def SqK (k:Bool) (K:PySem.W.Frag) (H:Hp) (a:Addr) (xs:List V):Prop:=match k with
 | true=>SqT K H a xs
 | false=>SqL K H a xs
noncomputable def Itz (S1 S2:Hp->List V->Prop):It:=
 ⟨fun i H=>∃ xs ys x y,S1 H xs/\S2 H ys/\xs[i]?=some x/\ys[i]?=some y,fun i H x H'=>∃ T v u,(∀ xs,S1 H xs->xs[i]?=some v)/\(∀ ys,S2 H ys->ys[i]?=some u)/\H T=none/\x=.ref T/\H'=upd H T (.tup [v,u]),
  fun i H=>∃ xs ys,S1 H xs/\S2 H ys/\(xs[i]?=none∨ys[i]?=none)⟩
theorem Inv.seqK {X:Cx}{pins:List (Addr×Obj)}{σ:St}{H:Hp}{s:Shared}{k:Bool}{a:Addr}{xs:List V} (I:Inv X pins σ H s) (h:SqK k X.K H a xs):∃ its:List Value,Vals xs its/\SIs k s.heap a its.toArray:=by
 cases k with
 | true=>obtain⟨its,r,p,_⟩:=I.tuple h;exact⟨its,r,p⟩
 | false=>obtain⟨its,r,p,_⟩:=I.list h;exact⟨its,r,p.isList⟩
theorem Inv.seqK_inj {X:Cx}{pins:List (Addr×Obj)}{σ:St}{H:Hp}{s:Shared}{k:Bool}{a:Addr}{xs ys:List V} (I:Inv X pins σ H s) (h:SqK k X.K H a xs) (h':SqK k X.K H a ys):xs=ys:=by
 cases k with
 | true=>exact I.tuple_inj h h'
 | false=>exact I.list_inj h h'
theorem turn_zip {P:Program}{w:World}{K:PySem.W.Frag}{elts:List Expr}{kk:Nat}{pos:Pos}{k k2:Bool}{z TI TO i1 i2 l1 l2:Addr} (D:ZipApart z TI TO i1 i2 l1 l2) :
  Turn P w K (.Tuple elts kk pos) (Itz (fun H xs=>SqK k K H l1 xs) fun H xs=>SqK k2 K H l2 xs) [z,TI,TO,i1,i2] z (fun i h=>ZSt k k2 z TI TO i1 i2 l1 l2 .none i h) where
 mem:=by simp
 obj:=fun i h st b hb=>by
  simp only [List.mem_cons,List.not_mem_nil,or_false] at hb
  rcases hb with rfl | rfl | rfl | rfl | rfl
  ·exact⟨_,st.z,fun v z=>by cases z⟩
  ·exact⟨_,st.ti,fun v z=>by cases z⟩
  ·obtain⟨a,b,e⟩:=st.to;exact⟨_,e,fun v z=>by cases z⟩
  ·obtain⟨o,vs,e,d⟩:=st.t1.live;exact⟨o,e,fun v z=>by rw [d] at z;cases z⟩
  ·obtain⟨o,vs,e,d⟩:=st.t2.live;exact⟨o,e,fun v z=>by rw [d] at z;cases z⟩
 keep:=fun i h h' st kp=>by
  obtain⟨a,b,e⟩:=st.to
  exact⟨kp z (by simp) _ st.z,kp TI (by simp) _ st.ti,⟨a,b,kp TO (by simp) _ e⟩,st.t1.to fun o q=>kp i1 (by simp) o q,st.t2.to fun o q=>kp i2 (by simp) o q⟩
 item:=by
  intro X hP hw hK hc i pins s σ H E I hf st hg
  subst hP hw hK
  obtain⟨xs,ys,x,y,hq1,hq2,hx,hy⟩:=hg
  obtain⟨us,rv1,p1⟩:=I.seqK hq1
  obtain⟨vs,rv2,p2⟩:=I.seqK hq2
  obtain⟨u,hu,ru⟩:=rv1.get hx
  obtain⟨v,hv,rv⟩:=rv2.get hy
  refine zip_item D st p1 p2 (x:=u) (y:=v) (by simpa using hu) (by simpa using hv) fun h1 st1 hT hsz kp=>⟨_,rfl,?_⟩
  refine wpAny_letOwnedTupleGo_zip st1.z fun h2 hz2 s2=>?_
  have e2:=s2.extBut
  obtain⟨c1,c2,hto⟩:=st1.to
  have nz:∀ b ∈ [z,TI,TO,i1,i2],b≠s.heap.objs.size:=fun b hb e=>by
   obtain⟨o,ho,_⟩:=(show ∃ o,s.heap.get? b=some o/\True by
    simp only [List.mem_cons,List.not_mem_nil,or_false] at hb
    obtain⟨a',b',e'⟩:=st.to
    obtain⟨o1,_,q1,_⟩:=st.t1.live
    obtain⟨o2,_,q2,_⟩:=st.t2.live
    rcases hb with rfl | rfl | rfl | rfl | rfl
    ·exact⟨_,st.z,trivial⟩
    ·exact⟨_,st.ti,trivial⟩
    ·exact⟨_,e',trivial⟩
    ·exact⟨_,q1,trivial⟩
    ·exact⟨_,q2,trivial⟩)
   have:=Heap.lt_size ho
   rw [e] at this
   exact Nat.lt_irrefl _ this
  have hT2:IsTup1 h2 s.heap.objs.size #[u,v]:=⟨_,e2 _ _ (Ne.symm (nz z (by simp))) hT,rfl,⟨_,rfl⟩,rfl⟩
  refine⟨.ref s.heap.objs.size,upd H s.heap.objs.size (.tup [x,y]),?_,rfl,⟨s.heap.objs.size,x,y,fun zs hz=>by rw [I.seqK_inj hz hq1];exact hx,fun zs hz=>by rw [I.seqK_inj hz hq2];exact hy,I.hok.fresh (Nat.le_refl _),rfl,rfl⟩,?_,fun b hb=>?_⟩
  ·have I2:Inv X pins σ (upd H s.heap.objs.size (.tup [x,y])) { s with heap:=h2,toks:=s.toks }:=I.turnsT (fp:=[z,TI,TO,i1,i2]) (h':=h2) (t':=s.toks) (its:=#[u,v]) hf (fun b o hb q=>by
    simp only [List.mem_cons,List.not_mem_nil,or_false,not_or] at hb
    exact e2 b o hb.1 (kp b o hb.1 hb.2.2.1 hb.2.2.2.1 hb.2.2.2.2 q)) (Nat.le_refl _) hT2 (.cons ru (.cons rv .nil)) (by show 2≤sizeLine;decide)
   exact I2
  ·exact⟨hz2,e2 _ _ D.TIz st1.ti,⟨c1,c2,e2 _ _ D.TOz hto⟩,st1.t1.to fun o q=>e2 _ o D.i1z q,st1.t2.to fun o q=>e2 _ o D.i2z q⟩
  ·rw [upd_ne (nz b hb)];exact (hf b hb).1
 done:=by
  intro X hP hw hK hc i pins s σ H E I hf st hg
  subst hP hw hK
  obtain⟨xs,ys,hq1,hq2,hend⟩:=hg
  obtain⟨us,rv1,p1⟩:=I.seqK hq1
  obtain⟨vs,rv2,p2⟩:=I.seqK hq2
  have hl1:=rv1.length
  have hl2:=rv2.length
  refine zip_end (I.ok.hd hc) D st p1 p2 (by
   rcases hend with h | h
   ·left;rw [List.getElem?_eq_none_iff] at h;simp;omega
   ·right;rw [List.getElem?_eq_none_iff] at h;simp;omega) fun h' kp=>⟨rfl,I.turns (t':=s.toks) (fp:=[z,TI,TO,i1,i2]) hf fun b o hb q=>?_⟩
  simp only [List.mem_cons,List.not_mem_nil,or_false,not_or] at hb
  exact kp b o hb.1 hb.2.2.1 hb.2.2.2.1 hb.2.2.2.2 q
 self:=fun _ _ _ _ _ st h=>wpAny_pyIter_zip st.z h
noncomputable def iZip (K:PySem.W.Frag) (k k2:Bool) (ta:TA):L2.TI:=fun σ H R=>ta σ H fun vs H1=>∃ a b,vs=[.ref a,.ref b]/\(∃ xs,SqK k K H1 a xs)/\(∃ xs,SqK k2 K H1 b xs)/\R (Itz (fun H xs=>SqK k K H a xs) fun H xs=>SqK k2 K H b xs) H1
theorem pi_zip {X:Cx}{elts:List Expr}{kk:Nat}{tpos:Pos}{a b:Expr}{ta:TA}{p pos:Pos}{k k2:Bool} (hg:Gl X "zip") (hm:X.mg "zip" = none) (ha:PA X [a,b] ta) (hs:starEach [a,b] X.env=[(false,eval a X.env),(false,eval b X.env)]:=by rfl) (hs2:starEach [b] X.env=[(false,eval b X.env)]:=by rfl) :
  PI X (.Tuple elts kk tpos) (.Call (.Name "zip" p) [a,b] [] pos) (iZip X.K k k2 ta):=by
 intro pins s σ H R I h
 refine Call_ (ld_blt I hg hm boot_zip (PyProof.Rows.callWith_type1 (thn (ha pos pins s σ H _ I h) fun us s1 ⟨vs,H1,I1,r1,q1⟩=>?_) (by rw [hs,hs2]) (by rw [hs2];rfl)))
 obtain⟨l,m,e,⟨xs,hq⟩,⟨ys,hq2⟩,q⟩:=q1
 subst e
 cases r1 with
 | cons r rr=>
  cases rr with
  | cons r' rr=>
   cases rr
   cases r
   cases r'
   obtain⟨us,rv1,p1⟩:=I1.seqK hq
   obtain⟨vs,rv2,p2⟩:=I1.seqK hq2
   have lt:∀ {k:Bool}{l:Addr}{us:Array Value},SIs k s1.heap l us->l < s1.heap.objs.size:=fun {k l us} hl=>by
    cases k with
    | true=>obtain⟨_,he,_⟩:=hl;exact Heap.lt_size he
    | false=>obtain⟨_,he,_⟩:=hl;exact Heap.lt_size he
   refine call_zip_any p1 p2 fun h' hst hk=>wpAny_pyIter_zip hst.z ?_
   refine⟨_,[s1.heap.objs.size+4,s1.heap.objs.size+2,s1.heap.objs.size+3,s1.heap.objs.size,s1.heap.objs.size+1],_,_,H1,rfl,I1.kept (t':=s1.toks) hk,turn_zip (zipApart_new (lt p1) (lt p2)),hst,fun b hb=>?_,q⟩
   have hb':s1.heap.objs.size≤b:=by
    simp only [List.mem_cons,List.not_mem_nil,or_false] at hb
    rcases hb with rfl | rfl | rfl | rfl | rfl
    ·exact Nat.le_add_right _ 4
    ·exact Nat.le_add_right _ 2
    ·exact Nat.le_add_right _ 3
    ·exact Nat.le_refl _
    ·exact Nat.le_add_right _ 1
   exact I1.fpOk hb' (I1.hok.fresh hb')
noncomputable def zipD:List D->List D->List D
 | d::ds,e::es=>.tup [d,e]::zipD ds es
 | _,_=>[]
noncomputable def sqkD:W->Option (Bool×List D)
 | .d (.tup ds)=>some (true,ds)
 | .d (.lst ds)=>some (false,ds)
 | _=>none
noncomputable def iZipD (af:Af):Lf
 | env,st=>(af env st).bind fun r=>match r.1 with
  | [x,y]=>(sqkD x).bind fun a=>(sqkD y).map fun b=>(zipD a.2 b.2,r.2)
  | _=>none
theorem zipD_get:∀ (ds es:List D) (i:Nat),(zipD ds es)[i]?=(ds[i]?).bind fun d=>(es[i]?).map fun e=>D.tup [d,e]
 | [],es,i=>by simp [zipD]
 | d::ds,[],i=>by cases i<;>simp [zipD]
 | d::ds,e::es,0=>by simp [zipD]
 | d::ds,e::es,i+1=>by simpa [zipD] using zipD_get ds es i
theorem zipD_len:∀ (ds es:List D),(zipD ds es).length=min ds.length es.length
 | [],es=>by simp [zipD]
 | d::ds,[]=>by simp [zipD]
 | d::ds,e::es=>by simp [zipD,zipD_len ds es]
section
variable {K:PySem.W.Frag}{X:Cx}{a b:Expr}{pos:Pos}{af:Af}
theorem sqk_rel {st:Sto}{H:Hp}{φ:List Addr}{w:W}{v:V}{p:Bool×List D} (r:Rw K H φ w v) (e:sqkD w=some p) (S:Sr K H φ st):∃ a vs,v=.ref a/\SqK p.1 K H a vs/\(∀ H' φ',Fw φ φ' H H'->SqK p.1 K H' a vs)/\Rls K H φ p.2 vs:=by
 cases w with
 | h n=>cases e
 | d x=>
  cases x with
  | tup ds=>
   cases e
   obtain⟨a,us,rfl,hq,hr⟩:=r
   exact⟨a,us,rfl,(SqT.of hq),fun H' φ' f=>(SqT.of hq).fw S f,hr⟩
  | lst ds=>
   cases e
   obtain⟨a,us,rfl,h0,hq,hr⟩:=r
   exact⟨a,us,rfl,.inl hq,fun H' φ' f=>.inl (hq.fw f h0),hr⟩
  | _=>cases e
theorem yl_zip {S1 S2:Hp->List V->Prop}{ds es:List D}{vs us:List V}{φ:List Addr}{H:Hp} (h1:∀ H' φ',Fw φ φ' H H'->S1 H' vs) (h2:∀ H' φ',Fw φ φ' H H'->S2 H' us) (r1:∀ H' φ',Fw φ φ' H H'->Rls K H' φ' ds vs) (r2:∀ H' φ',Fw φ φ' H H'->Rls K H' φ' es us) :
  Yl K φ H (Itz S1 S2) (zipD ds es):=by
 intro H2 φ2 st2 i f2 s2
 have q1:=h1 H2 φ2 f2
 have q2:=h2 H2 φ2 f2
 have w1:=r1 H2 φ2 f2
 have w2:=r2 H2 φ2 f2
 refine⟨fun d hd=>?_,fun hi=>⟨vs,us,q1,q2,?_⟩⟩
 ·rw [zipD_get,Option.bind_eq_some_iff] at hd
  obtain⟨d1,hd1,hd⟩:=hd
  obtain⟨d2,hd2,rfl⟩:=Option.map_eq_some_iff.mp hd
  obtain⟨v,ev,rv⟩:=w1.get hd1
  obtain⟨u,eu,ru⟩:=w2.get hd2
  refine⟨⟨vs,us,v,u,q1,q2,ev,eu⟩,fun x H' y=>?_⟩
  obtain⟨T,v',u',y1,y2,hT,rfl,rfl⟩:=y
  have z1:=y1 vs q1
  have z2:=y2 us q2
  rw [ev] at z1
  rw [eu] at z2
  cases z1
  cases z2
  exact⟨Same.new hT _,T,_,rfl,upd_same,_,_,rfl,rv.fw s2 (Fw.new hT),_,_,rfl,ru.fw s2 (Fw.new hT),rfl⟩
 ·rw [zipD_len] at hi
  have l1:=w1.length
  have l2:=w2.length
  rw [List.getElem?_eq_none_iff,List.getElem?_eq_none_iff]
  omega
theorem ii_zip {elts:List Expr}{k:Nat}{tpos p:Pos} (hg:Gl X "zip") (hm:X.mg "zip" = none) (ha:IA K X [a,b] af) (hs:notStar a=true:=by rfl) (hs2:notStar b=true:=by rfl) (hK:X.K=K:=by rfl) :
  II K X (.Tuple elts k tpos) (.Call (.Name "zip" p) [a,b] [] pos) (iZipD af):=by
 subst hK
 refine⟨fun env st r hr=>?_⟩
 simp only [iZipD,Option.bind_eq_some_iff] at hr
 obtain⟨⟨ws,s1⟩,hy,hr⟩:=hr
 match ws,hr with
 | [x,y],hr=>
  simp only [Option.bind_eq_some_iff,Option.map_eq_some_iff] at hr
  obtain⟨p1,hp1,p2,hp2,rfl⟩:=hr
  refine (pi_zip (k:=p1.1) (k2:=p2.1) hg hm (ha.run _ _ _ hy) (star_two hs hs2) (star_one hs2)).imp ?_
  rintro σ H R ⟨φ,hE,hS,q⟩
  refine⟨φ,hE,hS,fun vs H1 φ1 f1 s1 w1=>?_⟩
  obtain⟨v,r,rfl,rx,v2,r',rfl,ry,rfl⟩:=w1
  obtain⟨a,us,rfl,hq,hq',hr⟩:=sqk_rel rx hp1 s1
  obtain⟨b,us2,rfl,hq2,hq2',hr2⟩:=sqk_rel ry hp2 s1
  exact⟨a,b,rfl,⟨us,hq⟩,⟨us2,hq2⟩,q _ H1 φ1 f1 s1 (yl_zip hq' hq2' (fun H' φ' f=>hr.fw s1 f) fun H' φ' f=>hr2.fw s1 f)⟩
end
end L2
namespace L2
open PySem PySem.Spec PyProof.Rows
noncomputable def maxI:List Int->Int->Int
 | [],m=>m
 | n::ns,m=>maxI ns (if n > m then n else m)
section
variable {prog:Program}{w:World}{A:Around}{s:Shared}{I l S:Addr}{items:Array Value}{ns:List Int}{kw:List (Str×Value)}{R:Result->Shared->Prop}
theorem ints_get (h:IntsAre items.toList ns) {j:Nat}{n:Int} (hn:ns[j]?=some n):∃ t,items[j]?=some (.int n t):=by
 have hj:j < items.toList.length:=by rw [ints_len h];exact (List.getElem?_eq_some_iff.mp hn).1
 obtain⟨t,e⟩:=ints_at h j hj
 refine⟨t,?_⟩
 have hj':j < items.size:=by simpa using hj
 rw [Array.getElem?_eq_getElem hj']
 rw [Array.getElem_toList] at e
 rw [e,List.getD_eq_getElem?_getD,hn];rfl
theorem ints_end (h:IntsAre items.toList ns) {j:Nat} (hn:ns[j]?=none):items[j]?=none:=by
 rw [List.getElem?_eq_none_iff] at hn
 have:=ints_len h
 rw [Array.getElem?_eq_none_iff]
 rw [Array.length_toList] at this
 omega
theorem max_go (hh:A.handled=none) (hi:IntsAre items.toList ns) (hSI:S≠I) (hlI:l≠I) (hlS:l≠S):∀ (rest:List Int) (j:Nat) (s:Shared) (m:Int) (t:Tok) (c:Nat),ns.drop j=rest->s.heap.IsListIter I l j->s.heap.IsList l items->
  s.heap.get? S=some { cls:=.type "list",dict:=none,data:=.seq #[.int m t,.int m t] c,slots:=#[] }->
  (∀ t' h',(∀ b o,b≠I->b≠S->s.heap.get? b=some o->h'.get? b=some o)->R (.ok (.ret (.int (maxI rest m) t'))) { s with heap:=h' })->codeAny (model prog w) A (.builtin "max.loop" ⟨[.ref I,.none,.ref S],kw⟩) R s:=by
 have hname:(toString "max"++toString ".loop" : String) = "max.loop":=by decide
 intro rest
 induction rest with
 | nil=>
  intro j s m t c hd hit hl hS hR
  have hn:ns[j]?=none:=by
   rw [List.getElem?_eq_none_iff]
   have:=congrArg List.length hd
   simp at this;omega
  refine codeAny_builtin F.entry_max_loop ?_
  rw [Around.under_plainId F.plain_max_loop _]
  show wpAny _ A.in1 (seqItems? (.ref S) >>= _) _ _ s
  refine wpAny_bind (wpAny_seqItems hS rfl ?_)
  show wpAny _ A.in1 (tryCatch (pyNext (.ref I)) _ >>= _) _ _ s
  refine wpAny_bind (wpAny_tryCatch (wpAny_pyNext_list_end hh hit hl (ints_end hi hn) fun h1 e1=>?_))
  show wpAny _ A.in1 (updateSeq S (fun _=>#[]) >>= _) _ _ _
  refine wpAny_bind (wpAny_updateSeq (e1 _ _ hSI hS) rfl (wpAny_bind (wpAny_letGo (wpAny_pure ?_))))
  exact hR t _ fun b o hb1 hb2 q=>(Heap.get?_update_other _ _ (Ne.symm hb2)).trans (e1 _ _ hb1 q)
 | cons n rest ih=>
  intro j s m t c hd hit hl hS hR
  have hn:ns[j]?=some n:=by
   have:=congrArg (fun l=>l[0]?) hd
   simpa using this
  have hd':ns.drop (j+1)=rest:=by
   have:=congrArg (List.drop 1) hd
   simpa [List.drop_drop,Nat.add_comm] using this
  obtain⟨tn,hx⟩:=ints_get hi hn
  refine codeAny_builtin F.entry_max_loop ?_
  rw [Around.under_plainId F.plain_max_loop _]
  show wpAny _ A.in1 (seqItems? (.ref S) >>= _) _ _ s
  refine wpAny_bind (wpAny_seqItems hS rfl ?_)
  show wpAny _ A.in1 (tryCatch (pyNext (.ref I)) _ >>= _) _ _ s
  refine wpAny_bind (wpAny_tryCatch (wpAny_pyNext_list_item hit hl hx fun h1 hit1 s1=>?_))
  have e1:=s1.extBut
  have hS1:=e1 _ _ hSI hS
  show wpAny _ A.in1 (tryCatch (holding [.int n tn,.int n tn] (richCompare .Gt (.int n tn) (.int m t) >>= _)) _ >>= _) _ _ _
  refine wpAny_bind (wpAny_tryCatch (wpAny_holding (wpAny_bind (PyProof.Rows.gt_int ?_))))
  refine wpAny_bind (wpAny_holding (wpAny_truthy_bool ?_))
  refine wpAny_bind (wpAny_letGo (wpAny_pure ?_))
  by_cases hb:n > m
  ·have hb':decide (n > m)=true:=by simp [hb]
   rw [hb']
   simp only [if_true]
   refine wpAny_bind (wpAny_updateSeq hS1 rfl (wpAny_bind (wpAny_letGo ?_)))
   rw [hname]
   refine wpAny_pure ⟨plainId_quiet F.plain_max_loop _,ih (j+1) _ n tn _ hd' (hit1.at fun o q=>(Heap.get?_update_other _ _ hSI).trans q) (Heap.IsList.at hl fun o q=>(Heap.get?_update_other _ _ (Ne.symm hlS)).trans (e1 _ _ hlI q)) (Heap.get?_update_self _ hS1 rfl) fun t' h' k=>?_⟩
   have:=hR t' h' fun b o hb1 hb2 q=>k b o hb1 hb2 ((Heap.get?_update_other _ _ (Ne.symm hb2)).trans (e1 _ _ hb1 q))
   rw [maxI,if_pos hb] at this
   exact this
  ·have hb':decide (n > m)=false:=by simp [hb]
   rw [hb']
   simp only [Bool.false_eq_true,if_false]
   refine wpAny_bind (wpAny_letGo ?_)
   rw [hname]
   refine wpAny_pure ⟨plainId_quiet F.plain_max_loop _,ih (j+1) _ m t c hd' hit1 (Heap.IsList.at hl fun o q=>e1 _ _ hlI q) hS1 fun t' h' k=>?_⟩
   have:=hR t' h' fun b o hb1 hb2 q=>k b o hb1 hb2 (e1 _ _ hb1 q)
   rw [maxI,if_neg hb] at this
   exact this
variable {E:Value->Shared->Prop}
theorem call_tree_kw {id:String}{b:Builtin}{args:List Value}{kw:List (Str×Value)}{Q:Value->Shared->Prop} (hk:builtinKind id=none) (hp:plainId id=true) (hb:entryFor table id=some b) (ha:argsOk id ⟨args,kw⟩)
  (hc:wpAny (model prog w) A.in1 (b ⟨args,kw⟩) (fun fin s'=>match fin with
    | .done f=>(match (Except.ok f:Result) with | .ok (.ret v)=>Q v s' | .ok _=>False | .error e=>E e s')
    | .again c'=>c'.quiet=true/\codeAny (model prog w) A c' (fun r s'=>match r with | .ok (.ret v)=>Q v s' | .ok _=>False | .error e=>E e s') s') E s) :
  wpAny (model prog w) A (call (.builtin id) args kw) Q E s:=by
 refine wpAny_call (codeAny_call_builtin hp hb ?_)
 simp only [checkBuiltinCall,hk]
 cases hsig:Manifest.signature? id with
 | none=>exact wpAny_pure hc
 | some sig=>
  have h2:Bind.checkArgs id sig ⟨args,kw⟩=pure ():=by simpa only [argsOk,hsig] using ha
  show wpAny _ A.in1 (Bind.checkArgs id sig ⟨args,kw⟩) _ _ s
  rw [h2];exact wpAny_pure hc
theorem args_maxD (a v:Value):argsOk "max" ⟨[a],[(Str.ofString "default",v)]⟩:=by unfold argsOk;kernel_rfl
noncomputable def maxD0 (ns:List Int) (d:Option Int):Option Int:=match ns with
 | n::r=>some (maxI r n)
 | []=>d
theorem max_first (hh:A.handled=none) (hi:IntsAre items.toList ns) (hSI:S≠I) (hlI:l≠I) (hlS:l≠S) {c:Nat} (hit:s.heap.IsListIter I l 0) (hl:s.heap.IsList l items) (hS:s.heap.get? S=some { cls:=.type "list",dict:=none,data:=.seq #[] c,slots:=#[] })
  (hR:∀ v h',(∀ b o,b≠I->b≠S->s.heap.get? b=some o->h'.get? b=some o)->(∀ n r,ns=n::r->∃ t,v=.int (maxI r n) t)->(ns=[]->∃ k,kw=[(k,v)])->R (.ok (.ret v)) { s with heap:=h' })
  (h0:ns=[]->∃ k v,kw=[(k,v)]):codeAny (model prog w) A (.builtin "max.loop" ⟨[.ref I,.none,.ref S],kw⟩) R s:=by
 have hname:(toString "max"++toString ".loop" : String) = "max.loop":=by decide
 refine codeAny_builtin F.entry_max_loop ?_
 rw [Around.under_plainId F.plain_max_loop _]
 show wpAny _ A.in1 (seqItems? (.ref S) >>= _) _ _ s
 refine wpAny_bind (wpAny_seqItems hS rfl ?_)
 show wpAny _ A.in1 (tryCatch (pyNext (.ref I)) _ >>= _) _ _ s
 cases hn:ns with
 | nil=>
  obtain⟨k,v,rfl⟩:=h0 hn
  refine wpAny_bind (wpAny_tryCatch (wpAny_pyNext_list_end hh hit hl (ints_end hi (j:=0) (by rw [hn];rfl)) fun h1 e1=>?_))
  refine wpAny_bind (wpAny_rule (wpAny_pure ?_))
  exact hR v _ (fun b o hb1 _ q=>e1 _ _ hb1 q) (fun n r e=>by rw [hn] at e;cases e) fun _=>⟨k,rfl⟩
 | cons n rest=>
  obtain⟨tn,hx⟩:=ints_get hi (j:=0) (n:=n) (by rw [hn];rfl)
  refine wpAny_bind (wpAny_tryCatch (wpAny_pyNext_list_item hit hl hx fun h1 hit1 s1=>?_))
  have e1:=s1.extBut
  have hS1:=e1 _ _ hSI hS
  show wpAny _ A.in1 (updateSeq S (fun _=>#[.int n tn,.int n tn]) >>= _) _ _ _
  refine wpAny_bind (wpAny_updateSeq hS1 rfl ?_)
  rw [hname]
  refine wpAny_pure ⟨plainId_quiet F.plain_max_loop _,max_go hh hi hSI hlI hlS rest 1 _ n tn _ (by rw [hn];rfl) (hit1.at fun o q=>(Heap.get?_update_other _ _ hSI).trans q) (Heap.IsList.at hl fun o q=>(Heap.get?_update_other _ _ (Ne.symm hlS)).trans (e1 _ _ hlI q)) (Heap.get?_update_self _ hS1 rfl) fun t' h' k=>?_⟩
  exact hR _ h' (fun b o hb1 hb2 q=>k b o hb1 hb2 ((Heap.get?_update_other _ _ (Ne.symm hb2)).trans (e1 _ _ hb1 q))) (fun n' r' e=>by rw [hn] at e;cases e;exact⟨t',rfl⟩) fun e=>by rw [hn] at e;cases e
theorem call_max_any {Q:Value->Shared->Prop} (hh:A.handled=none) (hi:IntsAre items.toList ns) (hl:s.heap.IsList l items) (hk:kw=[]∨∃ v,kw=[(Str.ofString "default",v)]) (h0:ns=[]->kw≠[])
  (h:∀ v h',(∀ b o,s.heap.get? b=some o->h'.get? b=some o)->(∀ n r,ns=n::r->∃ t,v=.int (maxI r n) t)->(ns=[]->∃ k,kw=[(k,v)])->Q v { s with heap:=h' }) :
  wpAny (model prog w) A (call (.builtin "max") [.ref l] kw) Q E s:=by
 have hname:(toString "max"++toString ".loop" : String) = "max.loop":=by decide
 have hlt:l < s.heap.objs.size:=by obtain⟨_,e,_⟩:=hl;exact Heap.lt_size e
 have hsz:(s.heap.push { cls:=.type "list_iterator",data:=.fields #[.ref l,.int 0 0] }).objs.size=s.heap.objs.size+1:=Heap.size_push ..
 have fin:∀ dd:List Value,kw=dd.map (fun d=>((Str.ofString "default",d):Str×Value))->wpAny (model prog w) A.in1 (do
   let it ←pyIter (.ref l)
   let b ←newList []
   PySem.again (.builtin "max.loop" ⟨[it,.none,b],dd.map fun d=>(Str.ofString "default",d)⟩)) (fun fin s'=>match fin with
   | .done f=>(match (Except.ok f:Result) with | .ok (.ret v)=>Q v s' | .ok _=>False | .error e=>E e s')
   | .again c'=>c'.quiet=true/\codeAny (model prog w) A c' (fun r s'=>match r with | .ok (.ret v)=>Q v s' | .ok _=>False | .error e=>E e s') s') E s:=fun dd hdd=>by
  refine wpAny_bind (wpAny_pyIter_list hl (wpAny_bind (wpAny_newObj_type ?_)))
  refine wpAny_pure ⟨plainId_quiet F.plain_max_loop _,?_⟩
  rw [←hdd]
  refine max_first (S:=(s.heap.push { cls:=.type "list_iterator",data:=.fields #[.ref l,.int 0 0] }).objs.size) (I:=s.heap.objs.size) (l:=l) hh hi (by rw [hsz];exact Nat.succ_ne_self _) (Nat.ne_of_lt hlt) (by rw [hsz];exact Nat.ne_of_lt (Nat.lt_succ_of_lt hlt))
   ⟨_,Heap.get?_push_of_some _ (Heap.get?_push_size _ rfl),rfl,rfl⟩ (Heap.IsList.at hl fun o q=>Heap.get?_push_of_some _ (Heap.get?_push_of_some _ q)) (Heap.get?_push_size _ rfl) (fun v h' k h1 h2=>?_) (fun e=>?_)
  ·refine h v h' (fun b o q=>?_) h1 h2
   have hb:=Heap.lt_size q
   exact k b o (Nat.ne_of_lt hb) (by rw [hsz];exact Nat.ne_of_lt (Nat.lt_succ_of_lt hb)) (Heap.get?_push_of_some _ (Heap.get?_push_of_some _ q))
  ·rcases hk with hk | ⟨v,hk⟩
   ·exact absurd hk (h0 e)
   ·exact⟨_,v,hk⟩
 rcases hk with rfl | ⟨v,rfl⟩
 ·refine call_tree_kw F.kind_max F.plain_max F.entry_max (F.args_max1 _) ?_
  show wpAny _ A.in1 (Builtin.Builtins.bindParams "max" ["key","default"] 0 ⟨[],[]⟩ >>= _) _ _ s
  refine wpAny_bind (wpAny_of_eq (show Builtin.Builtins.bindParams "max" ["key","default"] 0 ⟨[],[]⟩=pure [none,none] from rfl) ?_)
  refine wpAny_bind (wpAny_pure ?_)
  have:=fin [] rfl
  rw [←hname] at this
  exact this
 ·refine call_tree_kw F.kind_max F.plain_max F.entry_max (args_maxD _ _) ?_
  show wpAny _ A.in1 (Builtin.Builtins.bindParams "max" ["key","default"] 0 ⟨[],[(Str.ofString "default",v)]⟩ >>= _) _ _ s
  refine wpAny_bind (wpAny_of_eq (show Builtin.Builtins.bindParams "max" ["key","default"] 0 ⟨[],[(Str.ofString "default",v)]⟩=pure [none,some v] from by kernel_rfl) ?_)
  refine wpAny_bind (wpAny_pure ?_)
  have:=fin [v] rfl
  rw [←hname] at this
  exact this
end
end L2
namespace L2
open PySem PySem.Spec PyProof.Rows
section
variable {K:PySem.W.Frag}{X:Cx}{e a b:Expr}{es:List Expr}{pos:Pos}{f fa fb:Ef}{af:Af}
noncomputable def lsI (st:Sto) (w:W):Option (List Int):=(lsD st w).bind intsOf
theorem call_maxL (hc:X.calm=true) {kw:List (Str×Value)}{d:Option V}{ns:List Int}{pins:List (Addr×Obj)}{σ:St}{H:Hp}{s:Shared}{ad:Addr}{Q:VK}{E:XK}{r:Int} (I:Inv X pins σ H s) (hl:Rd H ad (.lst (ns.map V.int)))
  (hk:(kw=[]/\ns≠[])∨∃ c t,kw=[(Str.ofString "default",.int c t)]/\(ns=[]->r=c)) (hr:∀ n q,ns=n::q->r=maxI q n) (q:Q (.int r) H) :
  wpAny (model X.prog X.w) X.A (call (.builtin "max") [.ref ad] kw) (EP X pins σ Q) X.xe s:=by
 obtain⟨its,rv,pl,hz⟩:=I.list (.inl hl)
 refine call_max_any (items:=its.toArray) (ns:=ns) (I.ok.hd hc) (by simpa using intsAre_of rv) pl.isList ?_ ?_ fun v h' kp h1 h2=>?_
 ·rcases hk with hk | ⟨c,t,hk,_⟩
  ·exact .inl hk.1
  ·exact .inr ⟨_,hk⟩
 ·intro e z
  rcases hk with hk | ⟨c,t,hk,_⟩
  ·exact hk.2 e
  ·rw [hk] at z;cases z
 ·have hv:∃ t,v=.int r t:=by
   cases hn:ns with
   | nil=>
    obtain⟨k,hk2⟩:=h2 hn
    rcases hk with hk | ⟨c,t,hk,hc'⟩
    ·exact absurd hn hk.2
    ·rw [hk] at hk2
     cases hk2
     rw [hc' hn];exact⟨t,rfl⟩
   | cons n q=>
    rw [hr n q hn]
    exact h1 n q hn
  exact⟨.int r,H,I.kept kp,hv,q⟩
noncomputable def dMx (st:Sto):List W->Option D
 | [.d (.int i),.d (.int j)]=>some (.int (if j > i then j else i))
 | [w]=>(lsI st w).bind fun ns=>(maxD0 ns none).map D.int
 | _=>none
theorem lsI_rel {st:Sto}{H:Hp}{φ:List Addr}{w:W}{v:V}{ns:List Int} (S:Sr K H φ st) (r:Rw K H φ w v) (h:lsI st w=some ns):∃ ad,v=.ref ad/\Rd H ad (.lst (ns.map V.int)):=by
 obtain⟨ds,e1,e2⟩:=Option.bind_eq_some_iff.mp h
 obtain⟨ad,vs,rfl,h1,h2⟩:=ls_rel S r e1
 cases intsOf_some e2
 cases h2.ints
 exact⟨ad,rfl,h1⟩
theorem cd_mx (hc:X.calm=true:=by rfl):CallD K X (.builtin "max") dMx:=by
 refine⟨fun st ws d h=>?_⟩
 have one:∀ w,((lsI st w).bind fun ns=>(maxD0 ns none).map D.int)=some d->CallR X (.builtin "max") (rCD K st [w] d):=fun w h=>by
  obtain⟨ns,e1,h⟩:=Option.bind_eq_some_iff.mp h
  obtain⟨r,e2,rfl⟩:=Option.map_eq_some_iff.mp h
  intro pins s σ H xs us Q I rv q
  obtain⟨φ,S,⟨v,rr,rfl,r1,rfl⟩,q⟩:=q
  obtain⟨ad,rfl,hl⟩:=lsI_rel S r1 e1
  obtain⟨u,rfl,ru⟩:=vals1 rv
  cases ru
  refine call_maxL (E:=fun _ _ _=>False) (d:=none) hc I hl (.inl ⟨rfl,fun e=>by rw [e] at e2;cases e2⟩) (fun n q hn=>by rw [hn] at e2;exact (Option.some.inj e2).symm) (q _ H (Same.refl H) rfl)
 match ws,h with
 | [.d (.int i),.d (.int j)],h=>
  cases h
  refine (call_max2 hc).imp ?_
  rintro vs H Q ⟨φ,S,⟨v,r,rfl,r1,u,r',rfl,r2,rfl⟩,q⟩
  exact⟨i,j,by rw [show v=.int i from r1,show u=.int j from r2],q _ H (Same.refl H) rfl⟩
 | [w],h=>exact one w (by cases w with | h n=>exact h | d x=>cases x<;>exact h)
end
end L2
namespace L2
open PySem PySem.Spec PyProof.Rows
section
variable {K:PySem.W.Frag}{X:Cx}
end
end L2
namespace L2
open PySem PySem.Spec PyProof.Rows
section
variable {K:PySem.W.Frag}{X:Cx}{pos:Pos}{a b:Expr}{af:Af}
end
end L2
namespace L2
open PySem PySem.Spec PyProof.Rows
section
variable {K:PySem.W.Frag}{X:Cx}{pos:Pos}{e a b c:Expr}{es:List Expr}{f fa fb:Ef}{af:Af}
end
end L2
namespace L2
open PySem PySem.Spec PyProof.Rows
noncomputable def ksOf (m:Nat):List Nat:=(List.range 6).filter fun k=>m.testBit k
noncomputable def chkHas (m k:Nat):Bool:=((ksOf m).toArray[SetTable.below (ksOf m).toArray k]?==some k)==m.testBit k
theorem chkHas_ok:∀ m:Fin 64,∀ k:Fin 6,chkHas m.1 k.1=true:=by decide +kernel
theorem has_ks {m k:Nat} (hm:m < 64) (hk:k < 6):((ksOf m).toArray[SetTable.below (ksOf m).toArray k]?==some k)=m.testBit k:=eq_of_beq (chkHas_ok ⟨m,hm⟩ ⟨k,hk⟩)
noncomputable def chkIns (m k:Nat):Bool:=m.testBit k || (ksOf (m ||| 1 <<< k)==(ksOf m).take (SetTable.below (ksOf m).toArray k)++k::(ksOf m).drop (SetTable.below (ksOf m).toArray k))
theorem chkIns_ok:∀ m:Fin 64,∀ k:Fin 6,chkIns m.1 k.1=true:=by decide +kernel
theorem ins_ks {m k:Nat} (hm:m < 64) (hk:k < 6) (hb:m.testBit k=false):ksOf (m ||| 1 <<< k)=(ksOf m).take (SetTable.below (ksOf m).toArray k)++k::(ksOf m).drop (SetTable.below (ksOf m).toArray k):=by
 have:=chkIns_ok ⟨m,hm⟩ ⟨k,hk⟩
 unfold chkIns at this
 rw [show (⟨m,hm⟩:Fin 64).1=m from rfl,show (⟨k,hk⟩:Fin 6).1=k from rfl,hb,Bool.false_or] at this
 exact eq_of_beq this
noncomputable def chkDel (m k:Nat):Bool:=!m.testBit k || ((ksOf m)[SetTable.below (ksOf m).toArray k]?==some k && (ksOf (m ^^^ 1 <<< k)==(ksOf m).take (SetTable.below (ksOf m).toArray k)++(ksOf m).drop (SetTable.below (ksOf m).toArray k+1)))
theorem chkDel_ok:∀ m:Fin 64,∀ k:Fin 6,chkDel m.1 k.1=true:=by decide +kernel
theorem del_ks {m k:Nat} (hm:m < 64) (hk:k < 6) (hb:m.testBit k=true):(ksOf m)[SetTable.below (ksOf m).toArray k]?=some k/\ksOf (m ^^^ 1 <<< k)=(ksOf m).take (SetTable.below (ksOf m).toArray k)++(ksOf m).drop (SetTable.below (ksOf m).toArray k+1):=by
 have:=chkDel_ok ⟨m,hm⟩ ⟨k,hk⟩
 unfold chkDel at this
 rw [show (⟨m,hm⟩:Fin 64).1=m from rfl,show (⟨k,hk⟩:Fin 6).1=k from rfl,hb,Bool.not_true,Bool.false_or,Bool.and_eq_true] at this
 exact⟨eq_of_beq this.1,eq_of_beq this.2⟩
noncomputable def masks:List Nat:=[7,15,31]
noncomputable def chkLay (m mask:Nat):Bool:=SetTable.laid mask 0 0 true true ((ksOf m).map fun (k:Nat)=>(k:Int)).toArray==some (⟨mask,(ksOf m).toArray,#[],0,true,0,true⟩,Array.range (ksOf m).length)
theorem chkLay_ok:∀ m:Fin 64,(masks.all fun q=>chkLay m.1 q)=true:=by decide +kernel
theorem laid_gen (mask f mv:Nat) (l p:Bool) (hs:Array Int):SetTable.laid mask f mv l p hs=(SetTable.laid mask 0 0 true true hs).map fun x=>({ x.1 with finger:=f,led:=l,moves:=mv,plain:=p },x.2):=by
 unfold SetTable.laid
 cases SetTable.layClean mask hs<;>rfl
theorem laid_ks {m mask:Nat} (hm:m < 64) (hq:mask ∈ masks) (f mv:Nat) (l p:Bool):SetTable.laid mask f mv l p ((ksOf m).map fun (k:Nat)=>(k:Int)).toArray=some (⟨mask,(ksOf m).toArray,#[],f,l,mv,p⟩,Array.range (ksOf m).length):=by
 have:=List.all_eq_true.mp (chkLay_ok ⟨m,hm⟩) mask hq
 rw [laid_gen,eq_of_beq this];rfl
noncomputable def chkNext (m i:Nat):Bool:=i < (ksOf m).length.succ && !(SetTable.below (ksOf m).toArray (if i=0 then 0 else (ksOf m).getD (i - 1) 0+1)==i) 
theorem chkNext_ok:∀ m:Fin 64,∀ i:Fin 7,chkNext m.1 i.1=false:=by decide +kernel
noncomputable def slotOf (m i:Nat):Nat:=if i=0 then 0 else (ksOf m).getD (i - 1) 0+1
theorem len_ks_chk:∀ m:Fin 64,(ksOf m.1).length≤6:=by decide +kernel
theorem len_ks {m:Nat} (hm:m < 64):(ksOf m).length≤6:=len_ks_chk ⟨m,hm⟩
theorem next_ks {m i:Nat} (hm:m < 64) (hi:i≤(ksOf m).length):SetTable.below (ksOf m).toArray (slotOf m i)=i:=by
 have hl:=len_ks hm
 have:=chkNext_ok ⟨m,hm⟩ ⟨i,by omega⟩
 unfold chkNext at this
 have h1:decide (i < (ksOf m).length.succ)=true:=decide_eq_true (by omega)
 rw [show (⟨m,hm⟩:Fin 64).1=m from rfl,show ((⟨i,by omega⟩:Fin 7)).1=i from rfl,h1,Bool.true_and,Bool.not_eq_false'] at this
 exact eq_of_beq this
noncomputable def chkFill (m d:Nat):Bool:=m &&& d != 0 || decide ((ksOf m).length+(ksOf d).length≤6)
theorem chkFill_ok:∀ m:Fin 64,∀ d:Fin 64,chkFill m.1 d.1=true:=by decide +kernel
theorem fill_ks {m d:Nat} (hm:m < 64) (hd:d < 64) (h:m &&& d=0):(ksOf m).length+(ksOf d).length≤6:=by
 have:=chkFill_ok ⟨m,hm⟩ ⟨d,hd⟩
 unfold chkFill at this
 rw [show (⟨m,hm⟩:Fin 64).1=m from rfl,show (⟨d,hd⟩:Fin 64).1=d from rfl,h] at this
 simpa using this
theorem mem_ks {m k:Nat}:k ∈ ksOf m↔k < 6/\m.testBit k=true:=by
 unfold ksOf;rw [List.mem_filter,List.mem_range]
theorem mem_ks6 {m k:Nat} (h:k ∈ ksOf m):k < 6:=(mem_ks.mp h).1
theorem bits_or {m k:Nat} (hm:m < 64) (hk:k < 6):m ||| 1 <<< k < 64:=Nat.or_lt_two_pow (n:=6) hm (by
 rw [Nat.one_shiftLeft];exact Nat.pow_lt_pow_right (by decide) hk)
theorem bits_xor {m k:Nat} (hm:m < 64) (hk:k < 6):m ^^^ 1 <<< k < 64:=Nat.xor_lt_two_pow (n:=6) hm (by
 rw [Nat.one_shiftLeft];exact Nat.pow_lt_pow_right (by decide) hk)
theorem tb_one {k j:Nat}:(1 <<< k).testBit j=decide (k=j):=by rw [Nat.one_shiftLeft,Nat.testBit_two_pow]
noncomputable def SEnt (m:Nat) (f:Nat->Tok):Array (Int×Value):=((ksOf m).map fun (k:Nat)=>((k:Int),Value.int k (f k))).toArray
theorem SEnt.size (m:Nat) (f:Nat->Tok):(SEnt m f).size=(ksOf m).length:=by simp [SEnt]
theorem SEnt.toList (m:Nat) (f:Nat->Tok):(SEnt m f).toList=(ksOf m).map fun (k:Nat)=>((k:Int),Value.int k (f k)):=by simp [SEnt]
theorem SEnt.hashes (m:Nat) (f:Nat->Tok):(SEnt m f).map (·.1)=((ksOf m).map fun (k:Nat)=>(k:Int)).toArray:=by
 simp [SEnt,List.map_map,Function.comp_def]
structure STab (b:Bool) (t:SetTable) (m d:Nat):Prop where
 msk:t.mask ∈ masks
 pl:t.place=(ksOf m).toArray
 du:t.dummies=(ksOf d).toArray
 led:t.led=!b
 plain:t.plain=true
section
variable {b:Bool}{t:SetTable}{m d k:Nat}
theorem STab.fits (T:STab b t m d) (hm:m < 64) (hd:d < 64) (h:m &&& d=0) (f:Nat->Tok):t.fits (SEnt m f).size=true:=by
 have:=fill_ks hm hd h
 have hk:=T.msk
 have h7:7≤t.mask:=by
  have hk:t.mask=7∨t.mask=15∨t.mask=31:=by simpa [masks] using hk
  omega
 simp only [SetTable.fits,SetTable.fill,T.pl,T.du,SEnt.size,List.size_toArray,Bool.and_eq_true,beq_iff_eq,decide_eq_true_eq,true_and]
 omega
theorem bits_small {k mask:Nat} (hk:k < 6) (hq:mask ∈ masks):SetTable.bits (k:Int) % (mask+1)=k:=by
 have hq:mask=7∨mask=15∨mask=31:=by simpa [masks] using hq
 unfold SetTable.bits
 have e:((k:Int) % (2 ^ 64:Int)).toNat=k:=by omega
 rw [e]
 rcases hq with rfl | rfl | rfl<;>omega
theorem STab.slot (T:STab b t m d) (hm:m < 64) (hd:d < 64) (hk:k < 6) (h1:m.testBit k=false) (h2:d.testBit k=false):t.slot k=.empty:=by
 unfold SetTable.slot SetTable.has
 dsimp only
 rw [T.pl,T.du,has_ks hm hk,has_ks hd hk,h1,h2]
 rfl
theorem STab.free (T:STab b t m d) (hm:m < 64) (hd:d < 64) (hk:k < 6) (h1:m.testBit k=false) (h2:d.testBit k=false):t.freeSlot (k:Int)=some (k,false):=by
 have e:t.probe (fun _=>(k:Int)+1) k (t.probeStart k)=some (.empty k none):=by
  unfold SetTable.probe
  have hf:∃ n,10*SetTable.turns t.mask=n+1:=⟨10*SetTable.turns t.mask - 1,by unfold SetTable.turns;omega⟩
  obtain⟨n,hn⟩:=hf
  rw [hn]
  unfold SetTable.probe.go SetTable.probeStart
  dsimp only
  rw [bits_small hk T.msk,T.slot hm hd hk h1 h2]
 unfold SetTable.freeSlot
 rw [e];rfl
theorem SEnt.ins (f:Nat->Tok) (tk:Tok) (hm:m < 64) (hk:k < 6) (h1:m.testBit k=false):SetTable.insertAt (SEnt m f) (SetTable.below (ksOf m).toArray k) ((k:Int),Value.int k tk)=SEnt (m ||| 1 <<< k) (fun j=>if j=k then tk else f j):=by
 apply Array.toList_inj.mp
 rw [SetTable.toList_insertAt,SEnt.toList,SEnt.toList,ins_ks hm hk h1,List.map_append,List.map_cons,←List.map_take,←List.map_drop]
 have hn:∀ j ∈ ksOf m,j≠k:=fun j hj e=>by
  rw [e,mem_ks] at hj
  rw [hj.2] at h1;cases h1
 congr 1
 ·exact List.map_congr_left fun j hj=>by rw [if_neg (hn j (List.mem_of_mem_take hj))]
 ·rw [if_pos rfl]
  congr 1
  exact List.map_congr_left fun j hj=>by rw [if_neg (hn j (List.mem_of_mem_drop hj))]
theorem STab.put (T:STab b t m d) (hm:m < 64) (hk:k < 6) (h1:m.testBit k=false) (hd:d < 64) (h2:d.testBit k=false):STab b (t.put k).1 (m ||| 1 <<< k) d/\(t.put k).2=SetTable.below (ksOf m).toArray k:=by
 unfold SetTable.put
 dsimp only
 have hh:SetTable.has t.dummies k=false:=by unfold SetTable.has;rw [T.du,has_ks hd hk,h2]
 rw [hh]
 refine⟨⟨T.msk,?_,T.du,T.led,T.plain⟩,by rw [T.pl]⟩
 apply Array.toList_inj.mp
 show (SetTable.insertAt t.place (SetTable.below t.place k) k).toList=_
 rw [SetTable.toList_insertAt,T.pl,ins_ks hm hk h1]
theorem disj_or (h:m &&& d=0) (h2:d.testBit k=false):(m ||| 1 <<< k) &&& d=0:=by
 apply Nat.eq_of_testBit_eq
 intro j
 have:=congrArg (fun x=>x.testBit j) h
 simp only [Nat.testBit_and,Nat.zero_testBit] at this
 rw [Nat.testBit_and,Nat.testBit_or,tb_one,Nat.zero_testBit]
 by_cases e:k=j
 ·subst e;rw [h2,Bool.and_false]
 ·rw [decide_eq_false e,Bool.or_false,this]
theorem STab.lay (T:STab b t m d) (hm:m < 64) (hk:k < 6) (h1:m.testBit k=false) (hd:d < 64) (h2:d.testBit k=false) (h:m &&& d=0) (f:Nat->Tok) (tk:Tok) :
  layNew t (SEnt m f) k (.int k tk)=(SEnt (m ||| 1 <<< k) (fun j=>if j=k then tk else f j),(t.put k).1,false,false):=by
 have T':=T.put hm hk h1 hd h2
 have hf:=T'.1.fits (bits_or hm hk) hd (disj_or h h2) (fun j=>if j=k then tk else f j)
 unfold layNew
 rw [T.free hm hd hk h1 h2]
 dsimp only
 rw [T'.2,SEnt.ins f tk hm hk h1]
 unfold SetTable.orStandIn
 rw [hf];rfl
theorem size_above {n:Nat} (h:n < 32):SetTable.sizeAbove n - 1 ∈ masks/\SetTable.sizeAbove n≤32:=by
 have:∀ n:Fin 32,SetTable.sizeAbove n.1 - 1 ∈ masks/\SetTable.sizeAbove n.1≤32:=by decide +kernel
 exact this ⟨n,h⟩
theorem cov_range (n:Nat):coversAll (Array.range n) n=true:=by
 unfold coversAll
 rw [Array.toList_range]
 exact List.isPerm_iff.mpr (List.Perm.refl _)
theorem order_id {α:Type} (es:Array α):(Array.range es.size).filterMap (es[·]?)=es:=by
 apply Array.toList_inj.mp
 rw [Array.toList_filterMap,Array.toList_range]
 exact filterMap_getElem?_range es
theorem STab.relaid (T:STab b t m d) (hm:m < 64) {n:Nat} (hn:n < 32):∃ t',STab b t' m 0/\t.relaid ((ksOf m).map fun (k:Nat)=>(k:Int)).toArray n=some (t',Array.range (ksOf m).length):=by
 unfold SetTable.relaid
 rw [laid_ks hm (size_above hn).1]
 refine⟨_,?_,rfl⟩
 exact⟨(size_above hn).1,rfl,by simp [ksOf],T.led,T.plain⟩
theorem STab.relayAll (T:STab b t m d) (hm:m < 64) (f:Nat->Tok) {n:Nat} (hn:n < 32):∃ t',STab b t' m 0/\relayAll t (SEnt m f) n=(SEnt m f,t',false):=by
 obtain⟨t',T',e⟩:=T.relaid hm hn
 refine⟨t',T',?_⟩
 unfold PySem.relayAll
 rw [SEnt.hashes,e]
 dsimp only
 have h0:m &&& 0=0:=Nat.and_zero m
 rw [←SEnt.size m f,cov_range,order_id,T'.fits hm (by decide) h0 f]
 rfl
end
end L2
namespace L2
open PySem PySem.Spec PyProof.Rows
noncomputable def byT (w:World):Bool:=w.params.followText "set-order"
noncomputable def SObj (w:World) (o:Obj) (m d:Nat):Prop:=m < 64/\d < 64/\m &&& d=0/\o.ExactSet/\∃ f ep t,o.data=.set (SEnt m f) ep t/\STab (byT w) t m d
noncomputable def SetAt (w:World) (h:Heap) (a:Addr) (m d:Nat):Prop:=∃ o,h.get? a=some o/\SObj w o m d
theorem hash_small:∀ k:_root_.Fin 6,hashInt ((k.1:Nat):Int)=(k.1:Int):=by decide +kernel
theorem hash_k {k:Nat} (hk:k < 6):hashInt (k:Int)=k:=hash_small ⟨k,hk⟩
section
variable {prog:Program}{w:World}{A:Around}{E:Value->Shared->Prop}{s:Shared}{a:Addr}{m d k:Nat}
theorem SetAt.type (S:SetAt w s.heap a m d):s.TypeIs (.ref a) "set":=let ⟨o,ho,_,_,_,hx,_⟩:=S;⟨o,ho,hx.1⟩
theorem SetAt.at' {h h':Heap} (S:SetAt w h a m d) (e:∀ o,h.get? a=some o->h'.get? a=some o):SetAt w h' a m d:=let ⟨o,ho,r⟩:=S;⟨o,e o ho,r⟩
theorem sent_el (m:Nat) (f:Nat->Tok):ElemsOf (intKind prog w) (SEnt m f).toList:=by
 intro e he
 rw [SEnt.toList] at he
 obtain⟨j,hj,rfl⟩:=List.mem_map.mp he
 exact⟨⟨(j:Int),intKind_is _ _ _ _,(hash_k (mem_ks6 hj)).symm⟩,rfl⟩
noncomputable def chkIdx (m k:Nat):Bool:=(ksOf m).findIdx? (fun j=>j==k)==(if m.testBit k then some (SetTable.below (ksOf m).toArray k) else none)
theorem chkIdx_ok:∀ m:_root_.Fin 64,∀ k:_root_.Fin 6,chkIdx m.1 k.1=true:=by decide +kernel
theorem idx_ks (hm:m < 64) (hk:k < 6) (f:Nat->Tok):(SEnt m f).toList.findIdx? (fun e=>(intKind prog w).is (k:Int) e.2)=(if m.testBit k then some (SetTable.below (ksOf m).toArray k) else none):=by
 rw [←eq_of_beq (chkIdx_ok ⟨m,hm⟩ ⟨k,hk⟩),SEnt.toList,List.findIdx?_map]
 congr 1
 funext j
 show (((j:Int))==(k:Int))=(j==k)
 by_cases e:j=k
 ·subst e;simp
 ·rw [beq_false_of_ne e,beq_false_of_ne (by omega)]
theorem sent_bound (hm:m < 64) (f:Nat->Tok):(SEnt m f).size < scanBound:=by
 have:=len_ks hm
 rw [SEnt.size];unfold scanBound;omega
theorem set_store {o:Obj}{es:Array (Int×Value)}{ep:Nat}{t t':SetTable}{m' d':Nat}{f':Nat->Tok}{h:Heap} (ho:h.get? a=some o) (hx:o.ExactSet) (hd:o.data=.set es ep t) (h1:m' < 64) (h2:d' < 64) (h3:m' &&& d'=0) (T:STab (byT w) t' m' d') :
  ∃ o',(h.update a (Obj.putSet (SEnt m' f') t')).get? a=some o'/\o'.ExactSet/\o'.data=.set (SEnt m' f') (ep+1) t'/\SetAt w (h.update a (Obj.putSet (SEnt m' f') t')) a m' d':=by
 have hg:(h.update a (Obj.putSet (SEnt m' f') t')).get? a=some { o with data:=.set (SEnt m' f') (ep+1) t' }:=by
  have:=Heap.get?_update_self (Obj.putSet (SEnt m' f') t') ho (by rw [putSet_of _ t' hd];rfl)
  rw [putSet_of _ t' hd] at this;exact this
 exact⟨_,hg,hx,rfl,_,hg,h1,h2,h3,hx,f',ep+1,t',rfl,T⟩
theorem small_line {m:Nat} (hm:m < 64) (f:Nat->Tok):(SEnt m f).size≤sizeLine:=by
 have:=len_ks hm
 rw [SEnt.size,sizeLine_eq];omega
theorem or_self_bit (h:m.testBit k=true):m ||| 1 <<< k=m:=by
 apply Nat.eq_of_testBit_eq
 intro j
 rw [Nat.testBit_or,tb_one]
 by_cases e:k=j
 ·subst e;rw [h];rfl
 ·rw [decide_eq_false e,Bool.or_false]
theorem set_add {tk:Tok}{Q:Bool->Shared->Prop} (S:SetAt w s.heap a m d) (hk:k < 6) (hdk:m.testBit k=true∨d.testBit k=false)
  (h:∀ h' d' b,Heap.SameBut a s.heap h'->SetAt w h' a (m ||| 1 <<< k) d'->(d'=d∨d'=0)->Q b { s with heap:=h' }) :
  wpAny (model prog w) A (setAddHashed a (.int k tk) (k:Int)) Q E s:=by
 obtain⟨o,ho,hm,hd,h0,hx,f,ep,t,hdat,T⟩:=id S
 have hf:=T.fits hm hd h0 f
 have hel:=sent_el (prog:=prog) (w:=w) m f
 unfold setAddHashed setAddHashedIn
 refine wpAny_holding (wpAny_bind (wpAny_setState_of ho hdat hf ?_))
 dsimp only
 rw [byScan_of (knd:=intKind prog w) rfl (sent_bound hm f) hel]
 simp only [↓reduceIte]
 unfold setAddByScan
 refine wpAny_bind ?_
 refine wpAny_bind (wpAny_rule ?_)
 have key:(intKind prog w).is (k:Int) (.int k tk)=true:=intKind_is _ _ _ _
 have hh:(k:Int)=(intKind prog w).hash (k:Int):=(hash_k hk).symm
 refine wpAny_bind ?_
 rw [show setScan a (Value.int k tk) (k:Int) true (SEnt m f)=setScan a (Value.int k tk) ((intKind prog w).hash (k:Int)) true (SEnt m f) from by rw [←hh]]
 refine wpAny_setScan_of (knd:=intKind prog w) key ho hdat hf hel ?_
 rw [idx_ks hm hk f]
 cases hb:m.testBit k with
 | true=>
  rw [if_pos rfl]
  dsimp only
  refine wpAny_pure (wpAny_pure ?_)
  have e:s={ s with heap:=s.heap }:=by cases s;rfl
  have:=h s.heap d false (Heap.SameBut.refl a s.heap) (by rw [or_self_bit hb];exact S) (.inl rfl)
  rw [e];exact this
 | false=>
  rw [if_neg Bool.false_ne_true]
  dsimp only
  have hdk':d.testBit k=false:=by
   rcases hdk with z | z
   ·rw [hb] at z;cases z
   ·exact z
  rw [T.lay hm hk hb hd hdk' h0 f tk]
  dsimp only
  have T1:=(T.put hm hk hb hd hdk').1
  have h01:=disj_or (m:=m) h0 hdk'
  have hm1:=bits_or hm hk
  refine wpAny_bind (m:=pure ()) (wpAny_pure ?_)
  have hpl:(t.put k).1.plain=true:=T1.plain
  rw [if_pos hpl]
  refine wpAny_bind ?_
  rw [hashByValue_scannable 8 rfl]
  refine wpAny_pure ?_
  dsimp only [plainKind]
  rw [if_pos rfl]
  refine wpAny_bind (wpAny_storeSet_of ho hdat ?_ (small_line hm1 _))
  obtain⟨o1,ho1,hx1,hd1,S1⟩:=set_store (w:=w) (f':=fun j=>if j=k then tk else f j) ho hx hdat hm1 hd h01 T1
  have hsb1:=Heap.SameBut.update s.heap a (Obj.putSet (SEnt (m ||| 1 <<< k) (fun j=>if j=k then tk else f j)) (t.put k).1)
  split
  ·have hn:SetTable.grown (SEnt (m ||| 1 <<< k) (fun j=>if j=k then tk else f j)).size < 32:=by
    have:=len_ks hm1
    rw [SEnt.size];unfold SetTable.grown;split<;>omega
   obtain⟨t2,T2,e2⟩:=T1.relayAll hm1 (fun j=>if j=k then tk else f j) hn
   rw [e2]
   dsimp only
   refine wpAny_bind (m:=pure ()) (wpAny_pure ?_)
   refine wpAny_bind (wpAny_storeSet_of ho1 hd1 ?_ (small_line hm1 _))
   obtain⟨o2,ho2,hx2,hd2,S2⟩:=set_store (w:=w) (f':=fun j=>if j=k then tk else f j) ho1 hx1 hd1 hm1 (by decide) (Nat.and_zero _) T2
   refine wpAny_pure (wpAny_pure ?_)
   exact h _ 0 true (hsb1.trans (Heap.SameBut.update _ a _)) S2 (.inr rfl)
  ·refine wpAny_pure (wpAny_pure ?_)
   exact h _ d true hsb1 S1 (.inl rfl)
end
end L2
namespace L2
open PySem PySem.Spec PyProof.Rows
theorem slot_seti_next:Slot "set_iterator" "__next__" "set_iterator.__next__":=
 .of (owner:="set_iterator") (n:="__next__") (by rw [typeLookup_type,builtinLookup_eq_fast];kernel_rfl) (by decide +kernel) (by decide +kernel) (by decide +kernel)
  (by first | exact .inl (by decide +kernel) | exact .inr (by decide +kernel)) (by rw [isSubtype_type];kernel_rfl)
theorem entry_seti_next:entryFor table "set_iterator.__next__" = some Builtin.«set_iterator.__next__»:=entryFor_of_tree (by kernel_rfl)
theorem owner_seti:Manifest.owners.lookup (String.ofList ['r','o','t','a','r','e','t','i','_','t','e','s'].reverse)=some Manifest.sig_set_iterator:=by kernel_rfl
theorem args_seti_next (a:Value):argsOk "set_iterator.__next__" ⟨[a],[]⟩:=by
 unfold argsOk;rw [signature?_of (id:="set_iterator.__next__") (n:=['_','_','t','x','e','n','_','_']) (o:=['r','o','t','a','r','e','t','i','_','t','e','s']) (by kernel_rfl) owner_seti];kernel_rfl
theorem slot_seti_iter:Slot "set_iterator" "__iter__" "set_iterator.__iter__":=
 .of (owner:="set_iterator") (n:="__iter__") (by rw [typeLookup_type,builtinLookup_eq_fast];kernel_rfl) (by decide +kernel) (by decide +kernel) (by decide +kernel)
  (by first | exact .inl (by decide +kernel) | exact .inr (by decide +kernel)) (by rw [isSubtype_type];kernel_rfl)
theorem entry_seti_iter:entryFor table "set_iterator.__iter__" = some Builtin.«dict_keyiterator.__iter__»:=
 entryFor_alias (id':="dict_keyiterator.__iter__") (by kernel_rfl) rfl (by decide +kernel) (by kernel_rfl)
theorem args_seti_iter (a:Value):argsOk "set_iterator.__iter__" ⟨[a],[]⟩:=by
 unfold argsOk;rw [signature?_of (id:="set_iterator.__iter__") (n:=['_','_','r','e','t','i','_','_']) (o:=['r','o','t','a','r','e','t','i','_','t','e','s']) (by kernel_rfl) owner_seti];kernel_rfl
theorem entry_set_iter:entryFor table "set.__iter__" = some Builtin.«frozenset.__iter__»:=
 entryFor_alias (id':="frozenset.__iter__") (by kernel_rfl) rfl (by decide +kernel) (by kernel_rfl)
noncomputable def SetDat (w:World) (h:Heap) (a:Addr) (m d:Nat) (f:Nat->Tok) (ep:Nat):Prop:=m < 64/\d < 64/\m &&& d=0/\∃ o t,h.get? a=some o/\o.ExactSet/\o.data=.set (SEnt m f) ep t/\STab (byT w) t m d
theorem SetAt.dat {w:World}{h:Heap}{a:Addr}{m d:Nat} (S:SetAt w h a m d):∃ f ep,SetDat w h a m d f ep:=let ⟨o,ho,h1,h2,h3,hx,f,ep,t,hd,T⟩:=S;⟨f,ep,h1,h2,h3,o,t,ho,hx,hd,T⟩
theorem SetDat.at' {w:World}{h h':Heap}{a:Addr}{m d ep:Nat}{f:Nat->Tok} (S:SetDat w h a m d f ep) (e:∀ o,h.get? a=some o->h'.get? a=some o):SetDat w h' a m d f ep:=let ⟨h1,h2,h3,o,t,ho,r⟩:=S;⟨h1,h2,h3,o,t,e o ho,r⟩
noncomputable def ordS (w:World) (a:Addr) (m:Nat) (f:Nat->Tok) (ep:Nat):Array (Int×Value):=if byT w then pickOrder (w.params.setOrder a ep) (SEnt m f) else SEnt m f
noncomputable def IsSetIt (h:Heap) (it a:Addr) (x:Nat) (i n ep:Nat):Prop:=∃ o,h.get? it=some o/\o.cls=.type "set_iterator"/\o.data=.fields #[.int x 0,.int i 0,.ref a,.int n 0,.int ep 0]
theorem IsSetIt.typeIs {s:Shared}{it a:Addr}{x i n ep:Nat} (h:IsSetIt s.heap it a x i n ep):s.TypeIs (.ref it) "set_iterator":=let ⟨o,ho,hc,_⟩:=h;⟨o,ho,hc⟩
theorem IsSetIt.at' {h h':Heap}{it a:Addr}{x i n ep:Nat} (z:IsSetIt h it a x i n ep) (e:∀ o,h.get? it=some o->h'.get? it=some o):IsSetIt h' it a x i n ep:=let ⟨o,ho,r⟩:=z;⟨o,e o ho,r⟩
theorem erase_perm {α:Type}:∀ (l:List α) (i:Nat) (h:i < l.length),([l[i]]++l.eraseIdx i).Perm l
 | x::l,0,_=>List.Perm.refl _
 | x::l,i+1,h=>by
  have ih:=erase_perm l i (by simpa using h)
  simp only [List.getElem_cons_succ,List.eraseIdx_cons_succ]
  exact (List.Perm.swap x _ _).trans (List.Perm.cons x ih)
theorem pick_go_perm {α:Type} (nx:Nat->Nat):∀ (fuel k:Nat) (l:List α) (out:Array α),l.length≤fuel->(pickOrder.go nx fuel k l out).toList.Perm (out.toList++l)
 | 0,k,l,out,h=>by
  have:l=[]:=List.length_eq_zero_iff.mp (Nat.le_zero.mp h)
  subst this
  simp [pickOrder.go]
 | fuel+1,k,[],out,h=>by simp [pickOrder.go]
 | fuel+1,k,x::l,out,h=>by
  unfold pickOrder.go
  have hlt:nx k % (x::l).length < (x::l).length:=Nat.mod_lt _ (by simp)
  rw [List.getElem?_eq_getElem hlt]
  dsimp only
  refine (pick_go_perm nx fuel (k+1) ((x::l).eraseIdx (nx k % (x::l).length)) _ (by rw [List.length_eraseIdx_of_lt hlt];simp at h ⊢;omega)).trans ?_
  rw [Array.toList_push,List.append_assoc]
  refine List.Perm.append_left _ ?_
  exact erase_perm _ _ hlt
theorem ord_perm (w:World) (a:Addr) (m:Nat) (f:Nat->Tok) (ep:Nat):(ordS w a m f ep).toList.Perm (SEnt m f).toList:=by
 unfold ordS
 split
 ·unfold pickOrder
  exact (pick_go_perm _ _ _ _ _ (by simp)).trans (by simp)
 ·exact List.Perm.refl _
theorem ord_size (w:World) (a:Addr) (m:Nat) (f:Nat->Tok) (ep:Nat):(ordS w a m f ep).size=(ksOf m).length:=by
 have:=(ord_perm w a m f ep).length_eq
 rw [Array.length_toList,Array.length_toList,SEnt.size] at this;exact this
section
variable {prog:Program}{w:World}{A:Around}{E:Value->Shared->Prop}{s:Shared}{a it:Addr}{m d ep i:Nat}{f:Nat->Tok}
theorem SetDat.state {Q:(Array (Int×Value)×Nat×SetTable)->Shared->Prop} (S:SetDat w s.heap a m d f ep) (h:∀ t,STab (byT w) t m d->Q (SEnt m f,ep,t) s):wpAny (model prog w) A (setState a) Q E s:=by
 obtain⟨h1,h2,h3,o,t,ho,hx,hd,T⟩:=S
 exact wpAny_setState_of ho hd (T.fits h1 h2 h3 f) (h t T)
theorem wp_byText {Q:Bool->Shared->Prop} (h:Q (byT w) s):wpAny (model prog w) A setsByText Q E s:=by
 unfold setsByText
 exact wpAny_bind (wpAny_askSetting (wpAny_pure h))
theorem SetDat.walk {Q:Array (Int×Value)->Shared->Prop} (S:SetDat w s.heap a m d f ep) (h:Q (ordS w a m f ep) s):wpAny (model prog w) A (setWalk a) Q E s:=by
 unfold setWalk
 refine wpAny_bind (S.state fun t T=>?_)
 dsimp only
 refine wpAny_bind (wp_byText ?_)
 unfold ordS at h
 cases hb:byT w with
 | true=>
  rw [hb,if_pos rfl] at h
  rw [if_pos rfl]
  exact wpAny_bind (wpAny_askSetting (wpAny_pure h))
 | false=>
  rw [hb,if_neg Bool.false_ne_true] at h
  rw [if_neg Bool.false_ne_true]
  have hl:t.led=true:=by rw [T.led,hb];rfl
  refine wpAny_ite_split (fun z=>?_) fun _=>?_
  ·exfalso
   revert z
   show ¬ ((!t.plain && _)=true)
   rw [T.plain];simp
  ·refine wpAny_bind (Q:=_) ?_
   show wpAny _ _ (if (!t.led && _)=true then _ else _) _ _ _
   rw [hl]
   simp only [Bool.not_true,Bool.false_and,Bool.false_eq_true,↓reduceIte]
   exact wpAny_pure (wpAny_pure h)
theorem set_iter {Q:Value->Shared->Prop} (S:SetDat w s.heap a m d f ep)
  (hQ:Q (.ref s.heap.objs.size) { s with heap:=s.heap.push { cls:=.type "set_iterator",data:=.fields #[.int 0 0,.int 0 0,.ref a,.int (ksOf m).length 0,.int ep 0] } }) :
  wpAny (model prog w) A (pyIter (.ref a)) Q E s:=by
 have hT:s.TypeIs (.ref a) "set":=let ⟨_,_,_,o,t,ho,hx,_⟩:=S;⟨o,ho,hx.1⟩
 refine wpAny_pyIter_slot hT PySem.F.slot_set_iter (wpAny_call_entry PySem.F.slot_set_iter hT entry_set_iter ?_ (PySem.F.args_set_iter_1 _))
 unfold Builtin.«frozenset.__iter__» Builtin.Frozenset.slot0 slotArgs
 simp only [List.isEmpty_nil,Bool.not_true,Bool.false_eq_true,↓reduceIte,bind_assoc,List.length_nil,bne_self_eq_false]
 unfold Builtin.Frozenset.addrOf Builtin.Frozenset.sizeOf setEntries setDrawn
 refine wpAny_bind (wpAny_pure ?_)
 try dsimp only
 refine wpAny_bind (wpAny_pure ?_)
 refine wpAny_bind (wpAny_bind (wpAny_bind (S.state fun t T=>wpAny_pure (wpAny_pure ?_))))
 refine wpAny_bind (wpAny_bind (S.state fun t T=>?_))
 dsimp only
 refine wpAny_bind (wp_byText (wpAny_pure ?_))
 have e0:(!byT w && (!t.plain && decide ((SEnt m f).size > 1)))=false:=by rw [T.plain];simp
 refine wpAny_ite_split (fun z=>absurd (z.symm.trans (show _=false from e0)) (by simp)) fun _=>?_
 refine wpAny_bind (wpAny_pure ?_)
 unfold setEpoch
 refine wpAny_bind (wpAny_bind (S.state fun t T=>wpAny_pure ?_))
 simp only [newFields]
 refine wpAny_bind (wpAny_newObj_type (wpAny_pure ⟨_,rfl,"set_iterator",_,⟨_,Heap.get?_push_size _ rfl,rfl⟩,slot_seti_next.lookup,?_⟩))
 simpa [rawInt,SEnt.size] using hQ
end
end L2
namespace L2
open PySem PySem.Spec PyProof.Rows
section
variable {prog:Program}{w:World}{A:Around}{E:Value->Shared->Prop}{s:Shared}{a it:Addr}{m d ep i:Nat}{f:Nat->Tok}
noncomputable def slotW (w:World) (m i:Nat):Nat:=if byT w then 0 else slotOf m i
theorem SetDat.next {Q:Option (Value×Nat)->Shared->Prop} (S:SetDat w s.heap a m d f ep) (hi:i≤(ksOf m).length)
  (h:Q ((ordS w a m f ep)[i]?.map fun e=>(e.2,slotW w m (i+1))) s):wpAny (model prog w) A (setNext a (slotW w m i) i ep) Q E s:=by
 have hm:m < 64:=S.1
 unfold setNext
 refine wpAny_bind (S.state fun t T=>?_)
 dsimp only
 refine wpAny_bind (wp_byText ?_)
 cases hb:byT w with
 | true=>
  rw [if_pos rfl]
  simp only [bne_self_eq_false,Bool.false_eq_true,↓reduceIte]
  refine wpAny_bind (S.walk (wpAny_pure ?_))
  unfold slotW at h
  rw [hb,if_pos rfl] at h
  unfold slotW
  rw [hb,if_pos rfl]
  exact h
 | false=>
  rw [if_neg Bool.false_ne_true]
  have hl:t.led=true:=by rw [T.led,hb];rfl
  refine wpAny_ite_split (fun z=>?_) fun _=>?_
  ·exfalso
   revert z
   show ¬ ((!t.plain && _)=true)
   rw [T.plain];simp
  ·refine wpAny_bind (Q:=_) ?_
   show wpAny _ _ (if (!t.led && _)=true then _ else _) _ _ _
   rw [hl]
   simp only [Bool.not_true,Bool.false_and,Bool.false_eq_true,↓reduceIte]
   refine wpAny_pure ?_
   unfold slotW at h
   rw [hb,if_neg Bool.false_ne_true] at h
   unfold ordS at h
   rw [hb,if_neg Bool.false_ne_true] at h
   unfold slotW
   rw [hb,if_neg Bool.false_ne_true,T.pl,next_ks hm hi]
   refine wpAny_pure ?_
   by_cases hlt:i < (ksOf m).length
   ·have e1:(SEnt m f)[i]?=some (((ksOf m)[i]:Int),Value.int ((ksOf m)[i]:Nat) (f (ksOf m)[i])):=by
     rw [←Array.getElem?_toList,SEnt.toList,List.getElem?_map,List.getElem?_eq_getElem hlt];rfl
    have e2:(ksOf m).toArray[i]?=some (ksOf m)[i]:=by simp [hlt]
    rw [e1,e2]
    rw [e1] at h
    have e3:slotOf m (i+1)=(ksOf m)[i]+1:=by
     unfold slotOf
     rw [if_neg (by omega)]
     simp [List.getD_eq_getElem?_getD,hlt]
    rw [e3] at h
    exact h
   ·have e1:(SEnt m f)[i]?=none:=Array.getElem?_eq_none (by rw [SEnt.size];omega)
    rw [e1] at h ⊢
    exact h
theorem set_next_item {Q:Option Value->Shared->Prop} (hit:IsSetIt s.heap it a (slotW w m i) i (ksOf m).length ep) (S:SetDat w s.heap a m d f ep) (hi:i < (ksOf m).length) {e:Int×Value} (he:(ordS w a m f ep)[i]?=some e)
  (hQ:∀ h',IsSetIt h' it a (slotW w m (i+1)) (i+1) (ksOf m).length ep->Heap.SameBut it s.heap h'->Q (some e.2) { s with heap:=h' }) :
  wpAny (model prog w) A (pyNext (.ref it)) Q E s:=by
 obtain⟨o,ho,hc,hd⟩:=id hit
 unfold pyNext
 refine wpAny_bind (wpAny_attempt (wpAny_callSpecial?_slot (name:=Str.ofString "__next__") hit.typeIs slot_seti_next
  (wpAny_call_entry slot_seti_next hit.typeIs entry_seti_next ?_ (args_seti_next _))))
 unfold Builtin.«set_iterator.__next__» slotArgs
 simp only [List.isEmpty_nil,Bool.not_true,Bool.false_eq_true,↓reduceIte,List.length_nil,bne_self_eq_false]
 refine wpAny_bind (wpAny_pure ?_)
 dsimp only
 unfold fieldsOf
 dsimp only
 refine wpAny_bind ?_
 refine wpAny_bind (wpAny_load ho ?_)
 rw [hd]
 refine wpAny_pure ?_
 dsimp only
 unfold setEntries
 refine wpAny_bind (wpAny_bind (S.state fun t T=>wpAny_pure ?_))
 have e1:(((SEnt m f).size:Int) != ((ksOf m).length:Int))=false:=by rw [SEnt.size];simp
 dsimp only
 rw [if_neg (by rw [e1];exact Bool.false_ne_true)]
 refine wpAny_bind ?_
 simp only [Int.toNat_natCast]
 refine S.next (Nat.le_of_lt hi) ?_
 rw [he]
 dsimp only [Option.map]
 refine wpAny_bind (wpAny_setField ho hd (by simp) ?_)
 have ho1:=Heap.get?_update_self (Obj.mapFields fun xs=>xs.setIfInBounds 0 (rawInt (slotW w m (i+1)))) ho (Obj.isFreed_of_fields (Obj.data_mapFields hd _))
 have hd1:=Obj.data_mapFields hd (fun xs=>xs.setIfInBounds 0 (rawInt (slotW w m (i+1))))
 refine wpAny_bind (wpAny_setField ho1 hd1 (by simp) (wpAny_pure ⟨e.2,rfl,wpAny_pure (hQ _ ?_ ((Heap.SameBut.update ..).trans (Heap.SameBut.update ..)))⟩))
 refine⟨_,Heap.get?_update_self _ ho1 (Obj.isFreed_of_fields (Obj.data_mapFields hd1 _)),(Obj.cls_mapFields ..).trans ((Obj.cls_mapFields ..).trans hc),?_⟩
 rw [Obj.data_mapFields hd1];simp [rawInt]
theorem set_next_end {Q:Option Value->Shared->Prop} (hh:A.handled=none) (hit:IsSetIt s.heap it a (slotW w m (ksOf m).length) (ksOf m).length (ksOf m).length ep) (S:SetDat w s.heap a m d f ep)
  (hQ:∀ h',Heap.ExtBut it s.heap h'->Q none { s with heap:=h' }):wpAny (model prog w) A (pyNext (.ref it)) Q E s:=by
 obtain⟨o,ho,hc,hd⟩:=id hit
 unfold pyNext
 refine wpAny_bind (wpAny_attempt (wpAny_callSpecial?_slot (name:=Str.ofString "__next__") hit.typeIs slot_seti_next
  (wpAny_call_entry slot_seti_next hit.typeIs entry_seti_next ?_ (args_seti_next _))))
 unfold Builtin.«set_iterator.__next__» slotArgs
 simp only [List.isEmpty_nil,Bool.not_true,Bool.false_eq_true,↓reduceIte,List.length_nil,bne_self_eq_false]
 refine wpAny_bind (wpAny_pure ?_)
 dsimp only
 unfold fieldsOf
 dsimp only
 refine wpAny_bind ?_
 refine wpAny_bind (wpAny_load ho ?_)
 rw [hd]
 refine wpAny_pure ?_
 dsimp only
 unfold setEntries
 refine wpAny_bind (wpAny_bind (S.state fun t T=>wpAny_pure ?_))
 have e1:(((SEnt m f).size:Int) != ((ksOf m).length:Int))=false:=by rw [SEnt.size];simp
 dsimp only
 rw [if_neg (by rw [e1];exact Bool.false_ne_true)]
 refine wpAny_bind ?_
 simp only [Int.toNat_natCast]
 refine S.next (Nat.le_refl _) ?_
 rw [Array.getElem?_eq_none (by rw [ord_size];exact Nat.le_refl _)]
 dsimp only [Option.map]
 refine wpAny_bind (wpAny_setField ho hd (by simp) ?_)
 show wpAny _ _ (newExc (.type "StopIteration") [] >>= _) _ _ _
 refine wpAny_bind ?_
 simp only [newExc,newTuple]
 refine wpAny_bind (wpAny_newObj_type ?_ (by size_fits))
 refine wpAny_bind (m:=firstArgMember _ _) (wpAny_of_eq (a:=Value.none) (by first | rfl | (simp only [firstArgMember];rfl)) ?_)
 refine wpAny_newObj_type ?_ (by size_fits)
 simp only [raiseNew]
 refine wpAny_bind (wpAny_handled ?_)
 rw [show A.in1.handled=none from hh]
 refine wpAny_bind (wpAny_pure (wpAny_throw ?_))
 refine wpAny_bind (wpAny_isInstance (T:="StopIteration") (b:=true) ⟨_,Heap.get?_push_size _ rfl,rfl⟩ isSubtype_stop ?_)
 exact wpAny_pure (hQ _ (((Heap.SameBut.update ..).extBut.push _).push _))
theorem set_self {x i n:Nat}{Q:Value->Shared->Prop} (hit:IsSetIt s.heap it a x i n ep) (h:Q (.ref it) s):wpAny (model prog w) A (pyIter (.ref it)) Q E s:=by
 refine wpAny_pyIter_slot hit.typeIs slot_seti_iter (wpAny_call_entry slot_seti_iter hit.typeIs entry_seti_iter ?_ (args_seti_iter _))
 show wpAny _ _ (ret (.ref it)) _ _ s
 exact wpAny_pure ⟨_,rfl,"set_iterator",_,hit.typeIs,slot_seti_next.lookup,h⟩
theorem walks_set (hh:A.handled=none) (I a:Addr) (hne:a≠I) (m d ep:Nat) (f:Nat->Tok) :
  Walks prog w A I [I,a] [I] (ksOf m).length (fun i v=>∃ e,(ordS w a m f ep)[i]?=some e/\v=e.2) (fun i h=>IsSetIt h I a (slotW w m i) i (ksOf m).length ep/\SetDat w h a m d f ep) where
 sub:=fun b hb=>by simp at hb;simp [hb]
 frame:=fun _ _ _ st hk=>⟨st.1.at' fun o e=>hk I (by simp) o e,st.2.at' fun o e=>hk a (by simp) o e⟩
 item:=fun i s Q E hi st hQ=>by
  obtain⟨e,he⟩:∃ e,(ordS w a m f ep)[i]?=some e:=⟨_,Array.getElem?_eq_getElem (by rw [ord_size];exact hi)⟩
  refine set_next_item st.1 st.2 hi he fun h' hit' hs'=>?_
  exact hQ _ h' s.toks ⟨e,he,rfl⟩ ⟨hit',st.2.at' fun o q=>hs'.extBut a o hne q⟩ fun b o hb q=>hs'.extBut b o (fun h=>hb (by simp [h])) q
 done:=fun s Q E st hQ=>set_next_end hh st.1 st.2 fun h' he'=>hQ h' s.toks fun b o hb e=>he' b o (fun h=>hb (by simp [h])) e
 self:=fun _ _ _ _ st hQ=>set_self st.1 hQ
theorem hint_set {Q:Bool->Shared->Prop} (hT:s.TypeIs (.ref a) "set") (h:Q false s):wpAny (model prog w) A (Builtin.List.listLengthHint (.ref a)) Q E s:=by
 unfold Builtin.List.listLengthHint
 refine wpAny_bind (wpAny_specialOf hT PySem.F.slot_set_len.lookup ?_)
 generalize hid:("set.__len__" : String)=id0
 wp_delta
 rw [show splitId id0=some ("set","__len__") from by subst hid;decide +kernel]
 subst hid
 refine wpAny_bind (wpAny_isInstance (T:="set") (b:=true) hT (by rw [isSubtype_type];kernel_rfl) ?_)
 refine wpAny_ite_split (fun hab=>absurd hab (by decide)) (fun _=>?_)
 refine wpAny_ite_split (fun _=>?_) (fun hab=>absurd (by decide +kernel) hab)
 refine wpAny_bind (wpAny_typeOf hT ?_)
 exact wpAny_pure h
theorem src_set (prog:Program) (w:World) (a:Addr) (m d ep:Nat) (f:Nat->Tok):PySem.W.KdlSrc prog w "set" a a (ksOf m).length (fun i v=>∃ e,(ordS w a m f ep)[i]?=some e/\v=e.2) (fun h=>SetDat w h a m d f ep) where
 type:=fun s S=>let ⟨_,_,_,o,t,ho,hx,_⟩:=S;⟨o,ho,hx.1⟩
 there:=fun h S=>let ⟨_,_,_,o,t,ho,hx,_⟩:=S;⟨Heap.lt_size ho,Heap.lt_size ho⟩
 keep:=fun h h' S hk=>S.at' fun o e=>hk a (.inl rfl) o e
 notList:=by decide
 notTuple:=by decide
 hint:=fun A E s Q S h=>hint_set (let ⟨_,_,_,o,t,ho,hx,_⟩:=S;⟨o,ho,hx.1⟩) h
 iter:=fun A s hh S=>⟨_,_,fun E Q h=>set_iter S h,walks_set hh s.heap.objs.size a (let ⟨_,_,_,o,t,ho,hx,_⟩:=S;Nat.ne_of_lt (Heap.lt_size ho)) m d ep f,
  ⟨⟨_,Heap.get?_push_size _ rfl,rfl,by unfold slotW slotOf;split<;>rfl⟩,S.at' fun o e=>Heap.get?_push_of_some _ e⟩⟩
end
end L2
namespace L2
open PySem PySem.Spec PyProof.Rows
noncomputable def bitsOf (l:List Int):Nat:=l.foldl (fun m k=>m ||| 1 <<< k.toNat) 0
noncomputable def in6 (l:List Int):Bool:=l.all fun k=>decide (0≤k/\k < 6)
theorem bitsOf_snoc (l:List Int) (k:Int):bitsOf (l++[k])=bitsOf l ||| 1 <<< k.toNat:=by unfold bitsOf;rw [List.foldl_append];rfl
theorem bitsOf_take {l:List Int}{i:Nat} (h:i < l.length):bitsOf (l.take (i+1))=bitsOf (l.take i) ||| 1 <<< (l.getD i 0).toNat:=by
 rw [List.take_add_one,List.getElem?_eq_getElem h]
 show bitsOf (l.take i++[l[i]])=_
 rw [bitsOf_snoc,List.getD_eq_getElem?_getD,List.getElem?_eq_getElem h];rfl
theorem in6_get {l:List Int} (h:in6 l=true) {i:Nat} (hi:i < l.length):0≤l.getD i 0/\l.getD i 0 < 6:=by
 have:=List.all_eq_true.mp h l[i] (List.getElem_mem hi)
 rw [List.getD_eq_getElem?_getD,List.getElem?_eq_getElem hi]
 simpa using this
section
variable {prog:Program}{w:World}{A:Around}{E:Value->Shared->Prop}{s:Shared}
theorem fresh_set (led:Bool) (hl:led=!byT w):SObj w { cls:=.type "set",dict:=none,data:=.set #[] 0 (.fresh 0 0 led) } 0 0:=
 ⟨by decide,by decide,rfl,⟨rfl,rfl,rfl⟩,fun _=>0,0,.fresh 0 0 led,by simp [SEnt,ksOf],⟨by simp [SetTable.fresh,masks],by simp [SetTable.fresh,ksOf],by simp [SetTable.fresh,ksOf],hl,rfl⟩⟩
end
section
variable {prog:Program}{w:World}{A:Around}{R:Result->Shared->Prop}{I:Addr}{fp wr:List Addr}{G:Array GenState->Array GenState->Prop}{P:Nat->Value->Prop}{St:Nat->Shared->Prop}
theorem set_loop {ns:List Int} (W:WalksS prog w A.in1 I fp wr G ns.length P St) (S:Addr) (hSf:S ∉ fp) (hval:∀ i v,P i v->∃ t,v=.int (ns.getD i 0) t) (h6:in6 ns=true) :
  ∀ (k i:Nat) (s:Shared),ns.length - i=k->i≤ns.length->St i s->SetAt w s.heap S (bitsOf (ns.take i)) 0->
   (∀ s',Moved (S::wr) G s s'->SetAt w s'.heap S (bitsOf ns) 0->R (.ok (.ret .none)) s')->
   codeAny (model prog w) A (.builtin "set.update.loop" ⟨[.ref S,.ref I],[]⟩) R s:=by
 have hSw:S ∉ wr:=fun h=>hSf (W.sub _ h)
 have hsub:∀ b ∈ wr,b ∈ S::wr:=fun b hb=>List.mem_cons_of_mem _ hb
 intro k
 induction k with
 | zero=>
  intro i s hk hi hst hS hR
  have hin:i=ns.length:=by omega
  subst hin
  refine codeAny_builtin PyProof.Rows.F.entry_set_update_loop ?_
  rw [Around.under_plainId PyProof.Rows.F.plain_set_update_loop _]
  show wpAny _ A.in1 (pyNext (.ref I) >>= _) _ _ s
  refine wpAny_bind (W.done s _ _ hst fun s' hm=>?_)
  show wpAny _ A.in1 (ret Value.none) _ _ s'
  refine wpAny_pure (hR s' (hm.mono hsub) ?_)
  rw [List.take_length] at hS
  exact hS.at' fun o e=>hm.heap S _ hSw e
 | succ k ih=>
  intro i s hk hi hst hS hR
  have hlt:i < ns.length:=by omega
  refine codeAny_builtin PyProof.Rows.F.entry_set_update_loop ?_
  rw [Around.under_plainId PyProof.Rows.F.plain_set_update_loop _]
  show wpAny _ A.in1 (pyNext (.ref I) >>= _) _ _ s
  refine wpAny_bind (W.item i s _ _ hlt hst fun v s' hP hst' hm=>?_)
  obtain⟨t,rfl⟩:=hval i v hP
  have hS':SetAt w s'.heap S (bitsOf (ns.take i)) 0:=hS.at' fun o e=>hm.heap S _ hSw e
  obtain⟨hg0,hg6⟩:=in6_get h6 hlt
  have hbt:=bitsOf_take hlt
  generalize hgv:ns.getD i 0=g at hg0 hg6 hbt ⊢
  obtain⟨g',rfl⟩:=Int.eq_ofNat_of_zero_le hg0
  have hg6':g' < 6:=by omega
  rw [Int.toNat_natCast] at hbt
  show wpAny _ A.in1 (holding [Value.int (g':Int) t] (setAdd S (.int (g':Int) t)) >>= _) _ _ s'
  refine wpAny_bind (wpAny_holding ?_)
  unfold setAdd
  refine wpAny_holding ?_
  refine wpAny_bind ((intKind prog w).pyHash (k:=(g':Int)) (intKind_is _ _ _ _) ?_)
  rw [show (intKind prog w).hash ((g':Nat):Int)=(g':Int) from hash_k hg6']
  refine set_add (s:={ s' with toks:=s'.toks+1 }) hS' hg6' (.inr (Nat.zero_testBit _)) fun h' d' b hsb hS2 hd'=>?_
  have hd0:d'=0:=by rcases hd' with z | z<;>exact z
  subst hd0
  rw [←hbt] at hS2
  refine wpAny_pure ⟨plainId_quiet PyProof.Rows.F.plain_set_update_loop _,ih (i+1) _ (by omega) hlt (W.frame _ s' _ _ hst' (Nat.le_succ _) fun b hb o e=>?_) hS2 fun s'' hm'' hS''=>?_⟩
  ·rw [hsb.2 b (fun h:b=S=>hSf (by rw [←h];exact hb))];exact e
  ·refine hR s'' (Moved.trans W.gtrans ((hm.mono hsub).then_heap (Nat.le_succ _) fun b o hb e=>?_) hm'') hS''
   rw [hsb.2 b (fun h:b=S=>hb (by rw [h];exact List.mem_cons_self))];exact e
end
section
variable {prog:Program}{w:World}{A:Around}{E:Value->Shared->Prop}{s:Shared}
theorem code_set_new_w (a:Value) {Q₁:Value->Shared->Prop}
  (h:Q₁ (.ref s.heap.objs.size) { s with heap:=s.heap.push { cls:=.type "set",dict:=none,data:=.set #[] 0 (.fresh 0 0 (!byT w)) } }) :
  codeAny (model prog w) A (.call (.builtin "set.__new__") ⟨[.type "set",a],[]⟩) (wants Q₁ E) s:=by
 refine codeAny_of_tree ?_
 show wpAny _ A.in1 (do checkBuiltinCall "set.__new__" ⟨[.type "set",a],[]⟩;again (.builtin "set.__new__" ⟨[.type "set",a],[]⟩)) _ _ s
 refine wpAny_bind (wpAny_of_eq (PySem.F.newCall_set_1 a) (wpAny_pure ⟨plainId_quiet PySem.F.plain_set_new _,codeAny_builtin PySem.F.entry_set_new ?_⟩))
 rw [Around.under_plainId PySem.F.plain_set_new _]
 unfold Builtin.«set.__new__» Builtin.Frozenset.newClass
 have hsub:=sub_set_self
 obtain⟨hp,g,d,tk,os⟩:=s
 dsimp only
 wp_walk
 refine wpAny_askSetting (wpAny_pure ?_)
 dsimp only
 simp only [newObj]
 refine wpAny_bind (wpAny_alloc (wpAny_pure ?_))
 exact wpAny_pure h
theorem sub_tuple_set:isSubtype (.type "tuple") (.type "set")=pure false:=by rw [isSubtype_type];kernel_rfl
theorem sub_tuple_frozenset:isSubtype (.type "tuple") (.type "frozenset")=pure false:=by rw [isSubtype_type];kernel_rfl
set_option maxHeartbeats 3200000 in
theorem call_set_list {l:Addr}{items:Array Value}{ns:List Int}{Q:Value->Shared->Prop}
  (hh:A.handled=none) (hl:s.heap.IsList l items) (hi:PyProof.Rows.IntsAre items.toList ns) (h6:in6 ns=true)
  (h:∀ (h':Heap) (tk:Nat),SetAt w h' s.heap.objs.size (bitsOf ns) 0->
    (∀ b o,b < s.heap.objs.size->s.heap.get? b=some o->h'.get? b=some o)->Q (.ref s.heap.objs.size) { s with heap:=h',toks:=tk }) :
  wpAny (model prog w) A (call (.type "set") [.ref l]) Q E s:=by
 obtain⟨c,tl,hmro⟩:=PySem.F.called_set.mro
 have hmade:=PySem.F.called_set.made
 have hsub:=PySem.F.called_set.sub
 refine wpAny_call (codeAny_of_tree ?_)
 show wpAny _ _ (callAny (.type "set") _) _ _ _
 refine wpAny_pure ⟨Code.quiet_builtin _ (by decide +kernel),codeAny_builtin PySem.F.entry_type_call ?_⟩
 rw [Around.under_plain (weight_type_call_type "set" [.ref l] []) rfl]
 have h1:=PySem.F.called_set.notType
 have h2:=PySem.F.called_set.canCreate
 have hct:=PySem.F.typeCall_set_1 (.ref l)
 repeat (any_goals (first | assumption | wp_step))
 refine codeAny_mono (code_set_new_w (.ref l) (E:=E) (Q₁:=fun obj s₁=>obj=.ref s.heap.objs.size/\s₁={ s with heap:=s.heap.push { cls:=.type "set",dict:=none,data:=.set #[] 0 (.fresh 0 0 (!byT w)) } }) ⟨rfl,rfl⟩) fun r s₁ hr=>?_
 cases r with
 | error e=>exact hr
 | ok fl=>
  cases fl with
  | ret obj=>
   obtain⟨rfl,rfl⟩:=hr
   have hS:(s.heap.push { cls:=.type "set",dict:=none,data:=.set #[] 0 (.fresh 0 0 (!byT w)) }).get? s.heap.objs.size=some { cls:=.type "set",dict:=none,data:=.set #[] 0 (.fresh 0 0 (!byT w)) }:=Heap.get?_push_size _ rfl
   have hT:Shared.TypeIs { s with heap:=s.heap.push { cls:=.type "set",dict:=none,data:=.set #[] 0 (.fresh 0 0 (!byT w)) } } (.ref s.heap.objs.size) "set":=⟨_,hS,rfl⟩
   have hli:=PySem.F.called_set.init.lookup
   have hbi:=PySem.F.called_set.init.bind (.ref s.heap.objs.size)
   repeat (any_goals (first | assumption | wp_step))
   refine codeAny_mono (codeAny_call_builtin (R:=wants (fun r s₂=>r=.none/\∃ h' tk,s₂={ s with heap:=h',toks:=tk }/\
     SetAt w h' s.heap.objs.size (bitsOf ns) 0/\
     (∀ b o,b < s.heap.objs.size->s.heap.get? b=some o->h'.get? b=some o)) E) PySem.F.called_set.init.plain PySem.F.entry_set_init (check_set_init_1 hT ?_)) fun r₂ s₂ hr₂=>?_
   ·generalize hled:(!byT w)=led at hS hT ⊢
    obtain⟨ol,hol,hcl,nl,hdl⟩:=hl
    obtain⟨ocls,odict,odata,oslots⟩:=ol
    simp only at hcl hdl
    subst hcl;subst hdl
    have hol':(s.heap.push { cls:=.type "set",dict:=none,data:=.set #[] 0 (.fresh 0 0 led) }).get? l=some { cls:=.type "list",dict:=odict,data:=.seq items nl,slots:=oslots }:=Heap.get?_push_of_some _ hol
    have hsls:=PySem.F.sub_list_set
    have hslf:=PySem.F.sub_list_frozenset
    have hne:(Value.type "list"==Value.type "dict")=false:=by decide
    have hl1:(s.heap.push { cls:=.type "set",dict:=none,data:=.set #[] 0 (.fresh 0 0 led) }).IsList l items:=⟨_,hol',rfl,nl,rfl⟩
    unfold Builtin.«set.__init__» noKeywords Builtin.Frozenset.updateFrom
    generalize hPI:pyIter=PI
    wp_walk
    subst hPI
    refine wpAny_pyIter_list hl1 ?_
    refine wpAny_bind (wpAny_runValue ?_)
    have hlS:l < s.heap.objs.size:=Heap.lt_size hol
    have hh3:A.in1.in1.in1.handled=none:=by simp [hh]
    have hneI:l≠(s.heap.push { cls:=.type "set",dict:=none,data:=.set #[] 0 (.fresh 0 0 led) }).objs.size:=by
     rw [Heap.size_push];exact Nat.ne_of_lt (Nat.lt_succ_of_lt hlS)
    have hSf:s.heap.objs.size ∉ [(s.heap.push { cls:=.type "set",dict:=none,data:=.set #[] 0 (.fresh 0 0 led) }).objs.size,l]:=by
     rw [Heap.size_push];simp only [List.mem_cons,List.mem_singleton,List.not_mem_nil,or_false,not_or]
     exact⟨Nat.ne_of_lt (Nat.lt_succ_self _),Nat.ne_of_gt hlS⟩
    have hval:∀ (i:Nat) (v:Value),items[i]?=some v->∃ t,v=.int (ns.getD i 0) t:=fun i v hv=>
     PyProof.Rows.IntsAre.int_at hi i v (by rw [Array.getElem?_toList];exact hv)
    have hlen:items.size=ns.length:=by
     have:=PyProof.Rows.IntsAre.length hi
     rw [Array.length_toList] at this;exact this
    have WW:=(Walks.list (prog:=prog) (w:=w) hh3 (s.heap.push { cls:=.type "set",dict:=none,data:=.set #[] 0 (.fresh 0 0 led) }).objs.size l hneI items).toS
    rw [hlen] at WW
    refine set_loop WW s.heap.objs.size hSf hval h6 (ns.length - 0) 0 _ (by omega) (Nat.zero_le _)
     ⟨⟨_,Heap.get?_push_size _ rfl,rfl,rfl⟩,(hl1.push _)⟩ ?hS0 ?hR
    case hS0=>
     have hget:((s.heap.push { cls:=.type "set",dict:=none,data:=.set #[] 0 (.fresh 0 0 led) }).push { cls:=.type "list_iterator",data:=.fields #[.ref l,.int 0 0] }).get? s.heap.objs.size
       = some { cls:=.type "set",dict:=none,data:=.set #[] 0 (.fresh 0 0 led) }:=Heap.get?_push_of_some _ hS
     exact⟨_,hget,fresh_set led hled.symm⟩
    case hR=>
     intro s' hm hS'
     obtain⟨h',g',d',tk',os'⟩:=s'
     have eg:g'=s.gens:=hm.gens
     have ed:d'=s.drawn:=hm.drawn
     have eo:os'=s.os:=hm.os
     subst eg;subst ed;subst eo
     show wpAny _ _ _ _ _ _
     refine wpAny_pure ?_
     show wpAny _ _ (ret Value.none) _ _ _
     refine wpAny_pure ⟨rfl,h',tk',rfl,hS',fun b o hb e=>?_⟩
     have hb1:b≠s.heap.objs.size:=Nat.ne_of_lt hb
     have hb2:b≠(s.heap.push { cls:=.type "set",dict:=none,data:=.set #[] 0 (.fresh 0 0 led) }).objs.size:=by
      rw [Heap.size_push];exact Nat.ne_of_lt (Nat.lt_succ_of_lt hb)
     exact hm.heap b o (by simp only [List.mem_cons,List.mem_singleton,List.not_mem_nil,or_false,not_or];exact⟨hb1,hb2⟩) (Heap.get?_push_of_some _ (Heap.get?_push_of_some _ e))
   ·cases r₂ with
    | error e=>exact hr₂
    | ok fl₂=>
     cases fl₂ with
     | ret r=>
      obtain⟨rfl,h',tk,rfl,hS',hk'⟩:=hr₂
      repeat (any_goals (first | assumption | wp_step))
      exact h _ _ hS' hk'
     | _=>exact hr₂.elim
  | _=>exact hr.elim
set_option maxHeartbeats 3200000 in
theorem call_set_tuple {l:Addr}{items:Array Value}{ns:List Int}{Q:Value->Shared->Prop}
  (hh:A.handled=none) (hl:s.heap.IsTuple l items) (hi:PyProof.Rows.IntsAre items.toList ns) (h6:in6 ns=true)
  (h:∀ (h':Heap) (tk:Nat),SetAt w h' s.heap.objs.size (bitsOf ns) 0->
    (∀ b o,b < s.heap.objs.size->s.heap.get? b=some o->h'.get? b=some o)->Q (.ref s.heap.objs.size) { s with heap:=h',toks:=tk }) :
  wpAny (model prog w) A (call (.type "set") [.ref l]) Q E s:=by
 obtain⟨c,tl,hmro⟩:=PySem.F.called_set.mro
 have hmade:=PySem.F.called_set.made
 have hsub:=PySem.F.called_set.sub
 refine wpAny_call (codeAny_of_tree ?_)
 show wpAny _ _ (callAny (.type "set") _) _ _ _
 refine wpAny_pure ⟨Code.quiet_builtin _ (by decide +kernel),codeAny_builtin PySem.F.entry_type_call ?_⟩
 rw [Around.under_plain (weight_type_call_type "set" [.ref l] []) rfl]
 have h1:=PySem.F.called_set.notType
 have h2:=PySem.F.called_set.canCreate
 have hct:=PySem.F.typeCall_set_1 (.ref l)
 repeat (any_goals (first | assumption | wp_step))
 refine codeAny_mono (code_set_new_w (.ref l) (E:=E) (Q₁:=fun obj s₁=>obj=.ref s.heap.objs.size/\s₁={ s with heap:=s.heap.push { cls:=.type "set",dict:=none,data:=.set #[] 0 (.fresh 0 0 (!byT w)) } }) ⟨rfl,rfl⟩) fun r s₁ hr=>?_
 cases r with
 | error e=>exact hr
 | ok fl=>
  cases fl with
  | ret obj=>
   obtain⟨rfl,rfl⟩:=hr
   have hS:(s.heap.push { cls:=.type "set",dict:=none,data:=.set #[] 0 (.fresh 0 0 (!byT w)) }).get? s.heap.objs.size=some { cls:=.type "set",dict:=none,data:=.set #[] 0 (.fresh 0 0 (!byT w)) }:=Heap.get?_push_size _ rfl
   have hT:Shared.TypeIs { s with heap:=s.heap.push { cls:=.type "set",dict:=none,data:=.set #[] 0 (.fresh 0 0 (!byT w)) } } (.ref s.heap.objs.size) "set":=⟨_,hS,rfl⟩
   have hli:=PySem.F.called_set.init.lookup
   have hbi:=PySem.F.called_set.init.bind (.ref s.heap.objs.size)
   repeat (any_goals (first | assumption | wp_step))
   refine codeAny_mono (codeAny_call_builtin (R:=wants (fun r s₂=>r=.none/\∃ h' tk,s₂={ s with heap:=h',toks:=tk }/\
     SetAt w h' s.heap.objs.size (bitsOf ns) 0/\
     (∀ b o,b < s.heap.objs.size->s.heap.get? b=some o->h'.get? b=some o)) E) PySem.F.called_set.init.plain PySem.F.entry_set_init (check_set_init_1 hT ?_)) fun r₂ s₂ hr₂=>?_
   ·generalize hled:(!byT w)=led at hS hT ⊢
    obtain⟨ol,hol,hcl,nl,hdl⟩:=hl
    obtain⟨ocls,odict,odata,oslots⟩:=ol
    simp only at hcl hdl
    subst hcl;subst hdl
    have hol':(s.heap.push { cls:=.type "set",dict:=none,data:=.set #[] 0 (.fresh 0 0 led) }).get? l=some { cls:=.type "tuple",dict:=odict,data:=.seq items nl,slots:=oslots }:=Heap.get?_push_of_some _ hol
    have hsls:=sub_tuple_set
    have hslf:=sub_tuple_frozenset
    have hne:(Value.type "tuple"==Value.type "dict")=false:=by decide
    have hl1:(s.heap.push { cls:=.type "set",dict:=none,data:=.set #[] 0 (.fresh 0 0 led) }).IsTuple l items:=⟨_,hol',rfl,nl,rfl⟩
    unfold Builtin.«set.__init__» noKeywords Builtin.Frozenset.updateFrom
    generalize hPI:pyIter=PI
    wp_walk
    subst hPI
    refine wpAny_pyIter_tuple hl1 ?_
    refine wpAny_bind (wpAny_runValue ?_)
    have hlS:l < s.heap.objs.size:=Heap.lt_size hol
    have hh3:A.in1.in1.in1.handled=none:=by simp [hh]
    have hneI:l≠(s.heap.push { cls:=.type "set",dict:=none,data:=.set #[] 0 (.fresh 0 0 led) }).objs.size:=by
     rw [Heap.size_push];exact Nat.ne_of_lt (Nat.lt_succ_of_lt hlS)
    have hSf:s.heap.objs.size ∉ [(s.heap.push { cls:=.type "set",dict:=none,data:=.set #[] 0 (.fresh 0 0 led) }).objs.size,l]:=by
     rw [Heap.size_push];simp only [List.mem_cons,List.mem_singleton,List.not_mem_nil,or_false,not_or]
     exact⟨Nat.ne_of_lt (Nat.lt_succ_self _),Nat.ne_of_gt hlS⟩
    have hval:∀ (i:Nat) (v:Value),items[i]?=some v->∃ t,v=.int (ns.getD i 0) t:=fun i v hv=>
     PyProof.Rows.IntsAre.int_at hi i v (by rw [Array.getElem?_toList];exact hv)
    have hlen:items.size=ns.length:=by
     have:=PyProof.Rows.IntsAre.length hi
     rw [Array.length_toList] at this;exact this
    have WW:=(Walks.tuple (prog:=prog) (w:=w) hh3 (s.heap.push { cls:=.type "set",dict:=none,data:=.set #[] 0 (.fresh 0 0 led) }).objs.size l hneI items).toS
    rw [hlen] at WW
    refine set_loop WW s.heap.objs.size hSf hval h6 (ns.length - 0) 0 _ (by omega) (Nat.zero_le _)
     ⟨⟨_,Heap.get?_push_size _ rfl,rfl,rfl⟩,(hl1.push _)⟩ ?hS0 ?hR
    case hS0=>
     have hget:((s.heap.push { cls:=.type "set",dict:=none,data:=.set #[] 0 (.fresh 0 0 led) }).push { cls:=.type "tuple_iterator",data:=.fields #[.ref l,.int 0 0] }).get? s.heap.objs.size
       = some { cls:=.type "set",dict:=none,data:=.set #[] 0 (.fresh 0 0 led) }:=Heap.get?_push_of_some _ hS
     exact⟨_,hget,fresh_set led hled.symm⟩
    case hR=>
     intro s' hm hS'
     obtain⟨h',g',d',tk',os'⟩:=s'
     have eg:g'=s.gens:=hm.gens
     have ed:d'=s.drawn:=hm.drawn
     have eo:os'=s.os:=hm.os
     subst eg;subst ed;subst eo
     show wpAny _ _ _ _ _ _
     refine wpAny_pure ?_
     show wpAny _ _ (ret Value.none) _ _ _
     refine wpAny_pure ⟨rfl,h',tk',rfl,hS',fun b o hb e=>?_⟩
     have hb1:b≠s.heap.objs.size:=Nat.ne_of_lt hb
     have hb2:b≠(s.heap.push { cls:=.type "set",dict:=none,data:=.set #[] 0 (.fresh 0 0 led) }).objs.size:=by
      rw [Heap.size_push];exact Nat.ne_of_lt (Nat.lt_succ_of_lt hb)
     exact hm.heap b o (by simp only [List.mem_cons,List.mem_singleton,List.not_mem_nil,or_false,not_or];exact⟨hb1,hb2⟩) (Heap.get?_push_of_some _ (Heap.get?_push_of_some _ e))
   ·cases r₂ with
    | error e=>exact hr₂
    | ok fl₂=>
     cases fl₂ with
     | ret r=>
      obtain⟨rfl,h',tk,rfl,hS',hk'⟩:=hr₂
      repeat (any_goals (first | assumption | wp_step))
      exact h _ _ hS' hk'
     | _=>exact hr₂.elim
  | _=>exact hr.elim
end
end L2
namespace L2
open PySem PySem.Spec PyProof.Rows
section
variable {prog:Program}{w:World}{A:Around}{E:Value->Shared->Prop}{s:Shared}{a r o:Addr}{m m1 m2 d k ep:Nat}{f:Nat->Tok}
theorem set_relay {n:Nat}{Q:Unit->Shared->Prop} (S:SetAt w s.heap a m d) (hn:n < 32) (h:∀ h',Heap.SameBut a s.heap h'->SetAt w h' a m 0->Q () { s with heap:=h' }) :
  wpAny (model prog w) A (setRelay a n) Q E s:=by
 obtain⟨ob,ho,hm,hd,h0,hx,f,ep,t,hdat,T⟩:=id S
 have hf:=T.fits hm hd h0 f
 unfold setRelay
 refine wpAny_bind (wpAny_setState_of ho hdat hf ?_)
 dsimp only
 rw [if_neg (by have:=(size_above hn).2;rw [sizeLine_eq];omega)]
 obtain⟨t',T',e⟩:=T.relaid hm hn
 refine wpAny_bind ?_
 rw [SEnt.hashes,e]
 wp_delta
 have hs:((Array.range (ksOf m).length).filterMap ((SEnt m f)[·]?))=SEnt m f:=by rw [←SEnt.size m f];exact order_id _
 simp only [hs,bne_self_eq_false,Bool.false_eq_true,↓reduceIte]
 refine wpAny_pure ?_
 dsimp only
 obtain⟨o1,ho1,hx1,hd1,S1⟩:=set_store (w:=w) (f':=f) ho hx hdat hm (by decide) (Nat.and_zero _) T'
 exact wpAny_storeSet_of ho hdat (h _ (Heap.SameBut.update ..) S1) (small_line hm f)
theorem set_room {n:Nat}{Q:Unit->Shared->Prop} (S:SetAt w s.heap a m d) (hn:n≤6) (h:∀ h' d',Heap.SameBut a s.heap h'->SetAt w h' a m d'->(d'=d∨d'=0)->Q () { s with heap:=h' }) :
  wpAny (model prog w) A (setRoomFor a n) Q E s:=by
 obtain⟨ob,ho,hm,hd,h0,hx,f,ep,t,hdat,T⟩:=id S
 have hf:=T.fits hm hd h0 f
 unfold setRoomFor
 refine wpAny_bind (wpAny_setState_of ho hdat hf ?_)
 dsimp only
 have e:s={ s with heap:=s.heap }:=by cases s;rfl
 unfold SetTable.roomFor
 split
 ·rename_i x hx
  split at hx
  ·cases hx
   refine set_relay S ?_ fun h' a1 a2=>h h' 0 a1 a2 (.inr rfl)
   have:=len_ks hm
   rw [T.pl,List.size_toArray];omega
  ·cases hx
 ·refine wpAny_pure ?_
  have:=h s.heap d (Heap.SameBut.refl ..) S (.inl rfl)
  rw [e];exact this
theorem wp_forIn {α:Type} (J:List α->Shared->Prop) {g:α->PUnit->Sem (ForInStep PUnit)} (hg:∀ x l s,J (x::l) s->wpAny (model prog w) A (g x ⟨⟩) (fun r s'=>r=.yield ⟨⟩/\J l s') E s) :
  ∀ (l:List α) (s:Shared) (Q:PUnit->Shared->Prop),J l s->(∀ s',J [] s'->Q ⟨⟩ s')->wpAny (model prog w) A (forIn l ⟨⟩ g) Q E s
 | [],s,Q,h,hQ=>by rw [List.forIn_nil];exact wpAny_pure (hQ s h)
 | x::l,s,Q,h,hQ=>by
  rw [List.forIn_cons]
  refine wpAny_bind (wpAny_mono (hg x l s h) (fun r s' hr=>?_) fun _ _ e=>e)
  obtain⟨rfl,hj⟩:=hr
  exact wp_forIn J hg l s' Q hj hQ
noncomputable def bitsL (l:List Nat):Nat:=l.foldl (fun m k=>m ||| 1 <<< k) 0
theorem or_bits:∀ (l:List Nat) (m:Nat),l.foldl (fun m k=>m ||| 1 <<< k) m=m ||| bitsL l
 | [],m=>(Nat.or_zero m).symm
 | k::l,m=>by
  unfold bitsL
  rw [List.foldl_cons,List.foldl_cons,or_bits l,or_bits l (0 ||| 1 <<< k),Nat.zero_or,Nat.or_assoc]
theorem bitsL_cons (k:Nat) (l:List Nat):bitsL (k::l)=1 <<< k ||| bitsL l:=by
 show (k::l).foldl (fun m k=>m ||| 1 <<< k) 0=_
 rw [List.foldl_cons,or_bits,Nat.zero_or]
theorem bitsL_test (j:Nat):∀ l:List Nat,(bitsL l).testBit j=decide (j ∈ l)
 | []=>by simp [bitsL]
 | k::l=>by
  rw [bitsL_cons,Nat.testBit_or,tb_one,bitsL_test j l]
  by_cases e:k=j
  ·subst e;simp
  ·rw [decide_eq_false e,Bool.false_or]
   simp [show ¬ j=k from fun z=>e z.symm]
theorem bitsL_perm {l l':List Nat} (p:l.Perm l'):bitsL l=bitsL l':=by
 apply Nat.eq_of_testBit_eq
 intro j
 rw [bitsL_test,bitsL_test]
 exact decide_eq_decide.mpr p.mem_iff
theorem bitsL_ks_chk:∀ m:_root_.Fin 64,bitsL (ksOf m.1)=m.1:=by decide +kernel
theorem bitsL_ks (hm:m < 64):bitsL (ksOf m)=m:=bitsL_ks_chk ⟨m,hm⟩
noncomputable def EntL (l:List (Int×Value)):Prop:=∀ e ∈ l,∃ k:Nat,∃ t:Tok,k < 6/\e=((k:Int),Value.int k t)
noncomputable def keysL (l:List (Int×Value)):List Nat:=l.map fun e=>e.1.toNat
theorem ord_ent (w:World) (a:Addr) (m:Nat) (f:Nat->Tok) (ep:Nat):EntL (ordS w a m f ep).toList:=fun e he=>by
 have:=(ord_perm w a m f ep).mem_iff.mp he
 rw [SEnt.toList] at this
 obtain⟨k,hk,rfl⟩:=List.mem_map.mp this
 exact⟨k,f k,mem_ks6 hk,rfl⟩
theorem ord_keys (w:World) (a:Addr) (m:Nat) (f:Nat->Tok) (ep:Nat):(keysL (ordS w a m f ep).toList).Perm (ksOf m):=by
 have:=(ord_perm w a m f ep).map (fun e:Int×Value=>e.1.toNat)
 rw [SEnt.toList,List.map_map] at this
 have e:((fun e:Int×Value=>e.1.toNat) ∘ fun (k:Nat)=>((k:Int),Value.int k (f k)))=id:=by funext k;simp
 rw [e,List.map_id] at this
 exact this
theorem SetDat.unseen {Q:Array (Int×Value)->Shared->Prop}{os:List Addr}{fl:Option Addr} (S:SetDat w s.heap a m d f ep) (h:Q (ordS w a m f ep) s):wpAny (model prog w) A (setWalkUnseen a os fl) Q E s:=by
 unfold setWalkUnseen
 refine wpAny_bind (S.state fun t T=>?_)
 dsimp only
 refine wpAny_bind (wp_byText ?_)
 have e:(byT w || t.led && t.plain)=true:=by rw [T.led,T.plain];cases byT w<;>rfl
 rw [if_pos (by rw [e];rfl)]
 exact S.walk h
theorem set_merge {each:Sem Unit}{Q:Unit->Shared->Prop} (hne:r≠o) (S1:SetAt w s.heap r m1 0) (S2:SetDat w s.heap o m2 0 f ep)
  (he:∀ (s':Shared) (Q':Unit->Shared->Prop),SetDat w s'.heap o m2 0 f ep->Q' () s'->wpAny (model prog w) A each Q' E s')
  (h:∀ h',Heap.SameBut r s.heap h'->SetAt w h' r (m1 ||| m2) 0->Q () { s with heap:=h' }) :
  wpAny (model prog w) A (setMerge r o each) Q E s:=by
 have es:s={ s with heap:=s.heap }:=by cases s;rfl
 have hm2:m2 < 64:=S2.1
 have keepO:∀ {h':Heap},Heap.SameBut r s.heap h'->SetDat w h' o m2 0 f ep:=fun sb=>S2.at' fun ob q=>(sb.2 o (Ne.symm hne)).trans q
 unfold setMerge
 rw [if_neg (by simpa using hne)]
 refine wpAny_bind (S2.state fun t2 T2=>?_)
 dsimp only
 by_cases hem:(SEnt m2 f).isEmpty=true
 ·rw [if_pos hem]
  refine wpAny_pure ?_
  have h0:(ksOf m2).length=0:=by rw [←SEnt.size m2 f];simpa using hem
  have z:m2=0:=by
   have:=bitsL_ks hm2
   rw [List.length_eq_zero_iff.mp h0] at this
   exact this.symm
  have:=h s.heap (Heap.SameBut.refl ..) (by rw [z,Nat.or_zero];exact S1)
  rw [es];exact this
 ·rw [if_neg hem]
  refine wpAny_bind (set_room S1 (by rw [SEnt.size];exact len_ks hm2) fun h1 d' sb1 S1' hd'=>?_)
  have hd0:d'=0:=by rcases hd' with z | z<;>exact z
  subst hd0
  obtain⟨o1,ho1,hm1,_,h01,hx1,f1,ep1,t1,hd1,T1⟩:=id S1'
  have hf1:=T1.fits hm1 (by decide) h01 f1
  refine wpAny_bind (wpAny_setState_of ho1 hd1 hf1 ?_)
  dsimp only
  have z1:t1.fill=0->m1=0:=fun z=>by
   have hp:(ksOf m1).length=0:=by
    unfold SetTable.fill at z
    rw [T1.pl,List.size_toArray] at z;omega
   have:=bitsL_ks hm1
   rw [List.length_eq_zero_iff.mp hp] at this
   exact this.symm
  have hled:(t1.led && t2.led)=!byT w:=by rw [T1.led,T2.led];cases byT w<;>rfl
  have hpl:(t1.plain && t2.plain)=true:=by rw [T1.plain,T2.plain];rfl
  generalize hrd:t1.road t2=rd
  unfold SetTable.road at hrd
  by_cases hf0:(t1.fill != 0)=true
  ·rw [if_pos hf0] at hrd
   subst hrd
   dsimp only
   refine wpAny_bind (Q:=_) ((keepO sb1).unseen ?_)
   rw [←Array.forIn_toList]
   refine wpAny_bind (wp_forIn (fun l s'=>∃ h' m',s'={ s with heap:=h' }/\Heap.SameBut r s.heap h'/\SetAt w h' r m' 0/\m' ||| bitsL (keysL l)=m1 ||| m2/\EntL l) (fun x l s' hJ=>?_) _ _ _ ⟨h1,m1,rfl,sb1,S1',?_,ord_ent _ _ _ _ _⟩ fun s' hJ=>?_)
   ·obtain⟨h',m',rfl,sb,S',hbm,hE⟩:=hJ
    obtain⟨k,tk,hk,rfl⟩:=hE x List.mem_cons_self
    dsimp only
    refine wpAny_bind (wpAny_holding (set_add (s:={ s with heap:=h' }) S' hk (.inr (Nat.zero_testBit _)) fun h2 d' b sb2 S2' hd'=>?_))
    have hd0:d'=0:=by rcases hd' with z | z<;>exact z
    subst hd0
    have sb3:Heap.SameBut r s.heap h2:=sb.trans sb2
    refine wpAny_bind (he { s with heap:=h2 } _ (keepO sb3) ?_)
    refine wpAny_bind ((keepO sb3).state (s:={ s with heap:=h2 }) fun t T=>?_)
    simp only [bne_self_eq_false,Bool.false_eq_true,↓reduceIte]
    refine wpAny_pure ⟨rfl,h2,_,rfl,sb3,S2',?_,fun e he=>hE e (List.mem_cons_of_mem _ he)⟩
    rw [←hbm]
    show _=m' ||| bitsL ((k:Int).toNat::keysL l)
    rw [Int.toNat_natCast,bitsL_cons,Nat.or_assoc]
   ·rw [bitsL_perm (ord_keys ..),bitsL_ks hm2]
   ·obtain⟨h',m',rfl,sb,S',hbm,hE⟩:=hJ
    have e0:m'=m1 ||| m2:=by rw [←hbm];exact (Nat.or_zero m').symm
    rw [e0] at S'
    exact wpAny_pure (h h' sb S')
  ·rw [if_neg hf0] at hrd
   have hm10:m1=0:=z1 (by simpa using hf0)
   subst hm10
   rw [Nat.zero_or] at h
   split at hrd
   ·subst hrd
    dsimp only
    have T':STab (byT w) { t2 with finger:=t1.finger,led:=t1.led && t2.led,moves:=t1.moves,plain:=t1.plain && t2.plain } m2 0:=⟨T2.msk,T2.pl,T2.du,hled,hpl⟩
    obtain⟨o',ho',hx',hd',S'⟩:=set_store (w:=w) (f':=f) ho1 hx1 hd1 hm2 (by decide) (Nat.and_zero _) T'
    exact wpAny_storeSet_of ho1 hd1 (h _ (sb1.trans (Heap.SameBut.update ..)) S') (small_line hm2 f)
   ·subst hrd
    dsimp only
    refine wpAny_bind ?_
    rw [SEnt.hashes,laid_ks hm2 T1.msk]
    wp_delta
    have hs:((Array.range (ksOf m2).length).filterMap ((SEnt m2 f)[·]?))=SEnt m2 f:=by rw [←SEnt.size m2 f];exact order_id _
    simp only [hs,bne_self_eq_false,Bool.false_eq_true,↓reduceIte]
    refine wpAny_pure ?_
    dsimp only
    have T':STab (byT w) (⟨t1.mask,(ksOf m2).toArray,#[],t1.finger,t1.led && t2.led,t1.moves,t1.plain && t2.plain⟩:SetTable) m2 0:=⟨T1.msk,rfl,by simp [ksOf],hled,hpl⟩
    obtain⟨o',ho',hx',hd',S'⟩:=set_store (w:=w) (f':=f) ho1 hx1 hd1 hm2 (by decide) (Nat.and_zero _) T'
    exact wpAny_storeSet_of ho1 hd1 (h _ (sb1.trans (Heap.SameBut.update ..)) S') (small_line hm2 f)
end
end L2
namespace L2
open PySem PySem.Spec PyProof.Rows
theorem entry_set_or:entryFor table "set.__or__" = some Builtin.«frozenset.__or__»:=
 entryFor_alias (id':="frozenset.__or__") (by kernel_rfl) rfl (by decide +kernel) (by kernel_rfl)
theorem entry_set_xor:entryFor table "set.__xor__" = some Builtin.«frozenset.__xor__»:=
 entryFor_alias (id':="frozenset.__xor__") (by kernel_rfl) rfl (by decide +kernel) (by kernel_rfl)
theorem sub_set_set:isSubtype (.type "set") (.type "set")=pure true:=by rw [isSubtype_type];kernel_rfl
section
variable {prog:Program}{w:World}{A:Around}{E:Value->Shared->Prop}{s:Shared}{a b r o:Addr}{m m1 m2 d k ep:Nat}{f:Nat->Tok}
theorem any_set {Q:Bool->Shared->Prop} (hT:s.TypeIs (.ref a) "set") (h:Q true s):wpAny (model prog w) A (Builtin.Frozenset.isAnySet (.ref a)) Q E s:=by
 unfold Builtin.Frozenset.isAnySet orM
 refine wpAny_bind (wpAny_isInstance (T:="set") (b:=true) hT sub_set_set ?_)
 exact wpAny_pure h
theorem base_set {Q:Value->Shared->Prop} (hT:s.TypeIs (.ref a) "set") (h:Q (.type "set") s):wpAny (model prog w) A (Builtin.Frozenset.baseOf a) Q E s:=by
 unfold Builtin.Frozenset.baseOf
 refine wpAny_bind (wpAny_isInstance (T:="set") (b:=true) hT sub_set_set ?_)
 exact wpAny_pure h
theorem new_set {Q:Value->Shared->Prop} (h:SetAt w (s.heap.push { cls:=.type "set",dict:=none,data:=.set #[] 0 (.fresh 0 0 (!byT w)) }) s.heap.objs.size 0 0->Q (.ref s.heap.objs.size) { s with heap:=s.heap.push { cls:=.type "set",dict:=none,data:=.set #[] 0 (.fresh 0 0 (!byT w)) } }) :
  wpAny (model prog w) A (newSet (.type "set")) Q E s:=by
 unfold newSet
 refine wpAny_bind (wp_byText ?_)
 simp only [newObj]
 refine wpAny_bind (wpAny_alloc (wpAny_pure (h ⟨_,Heap.get?_push_size _ rfl,?_⟩)))
 exact⟨by decide,by decide,rfl,⟨rfl,rfl,rfl⟩,fun _=>0,0,.fresh 0 0 (!byT w),by simp [SEnt,ksOf],⟨by simp [SetTable.fresh,masks],by simp [SetTable.fresh,ksOf],by simp [SetTable.fresh,ksOf],rfl,rfl⟩⟩
theorem SetAt.keep {h h':Heap} (S:SetAt w h a m d) (hne:a≠r) (sb:Heap.SameBut r h h'):SetAt w h' a m d:=S.at' fun o q=>(sb.2 a hne).trans q
theorem SetDat.keep {h h':Heap} (S:SetDat w h a m d f ep) (hne:a≠r) (sb:Heap.SameBut r h h'):SetDat w h' a m d f ep:=S.at' fun o q=>(sb.2 a hne).trans q
theorem un_chk {id:String} (s':Shared) (Q':Unit->Shared->Prop) (S:SetDat w s'.heap o m 0 f ep) (h:Q' () s'):wpAny (model prog w) A (Builtin.Frozenset.unchanged id o ep) Q' E s':=by
 unfold Builtin.Frozenset.unchanged setEpoch
 refine wpAny_bind (wpAny_bind (S.state fun t T=>wpAny_pure ?_))
 simp only [bne_self_eq_false,Bool.false_eq_true,↓reduceIte]
 exact wpAny_pure h
theorem merge_set {id:String}{Q:Unit->Shared->Prop} (hne:r≠o) (S1:SetAt w s.heap r m1 0) (S2:SetAt w s.heap o m2 0)
  (h:∀ h',Heap.SameBut r s.heap h'->SetAt w h' r (m1 ||| m2) 0->Q () { s with heap:=h' }):wpAny (model prog w) A (Builtin.Frozenset.merge id r o) Q E s:=by
 obtain⟨f,ep,D⟩:=S2.dat
 unfold Builtin.Frozenset.merge setEpoch
 refine wpAny_bind (wpAny_bind (D.state fun t T=>wpAny_pure ?_))
 exact set_merge hne S1 D (fun s' Q' Sd hq=>un_chk s' Q' Sd hq) h
theorem update_set {id:String}{Q:Unit->Shared->Prop} (hne:r≠o) (S1:SetAt w s.heap r m1 0) (S2:SetAt w s.heap o m2 0)
  (h:∀ h',Heap.SameBut r s.heap h'->SetAt w h' r (m1 ||| m2) 0->Q () { s with heap:=h' }):wpAny (model prog w) A (Builtin.Frozenset.updateFrom id r (.ref o)) Q E s:=by
 unfold Builtin.Frozenset.updateFrom
 refine wpAny_bind (any_set S2.type ?_)
 rw [if_pos rfl]
 refine wpAny_bind (m:=pure o) (wpAny_pure ?_)
 exact merge_set hne S1 S2 h
theorem set_union {Q:Value->Shared->Prop} (S1:SetAt w s.heap a m1 0) (S2:SetAt w s.heap b m2 0) (hab:a≠b)
  (h:∀ h' p,(∀ c o,s.heap.get? c=some o->h'.get? c=some o)->s.heap.objs.size≤p->SetAt w h' p (m1 ||| m2) 0->Q (.ref p) { s with heap:=h' }) :
  wpAny (model prog w) A (binaryOp .BitOr (.ref a) (.ref b)) Q E s:=by
 refine wpAny_binaryOp_same (op:=.BitOr) (T:="set") S1.type S2.type PySem.F.fills_set_or PySem.F.slot_set_or (wpAny_call_entry PySem.F.slot_set_or S1.type entry_set_or ?_ (PySem.F.args_set_or_2 _ _))
 unfold Builtin.«frozenset.__or__»
 wp_delta
 unfold Builtin.Frozenset.slot1 slotArgs
 simp only [List.isEmpty_nil,Bool.not_true,Bool.false_eq_true,↓reduceIte,List.length_nil,List.length_cons,bne_self_eq_false]
 refine wpAny_bind (wpAny_bind (wpAny_pure (wpAny_pure ?_)))
 dsimp only
 refine wpAny_bind ?_
 unfold andM
 refine wpAny_bind (any_set S1.type ?_)
 show wpAny _ _ (Builtin.Frozenset.isAnySet (.ref b)) _ _ _
 refine any_set S2.type ?_
 simp only [Bool.not_true,Bool.false_eq_true,↓reduceIte]
 unfold Builtin.Frozenset.addrOf
 refine wpAny_bind (wpAny_pure ?_)
 try dsimp only
 refine wpAny_bind ?_
 wp_delta
 unfold Builtin.Frozenset.copyOf
 refine wpAny_bind (wpAny_bind (base_set S1.type ?_))
 refine wpAny_bind (new_set fun S0=>?_)
 have la:a < s.heap.objs.size:=let ⟨o,ho,_⟩:=S1;Heap.lt_size ho
 have lb:b < s.heap.objs.size:=let ⟨o,ho,_⟩:=S2;Heap.lt_size ho
 refine wpAny_bind (m:=pure s.heap.objs.size) (wpAny_pure ?_)
 have S1':SetAt w (s.heap.push { cls:=.type "set",dict:=none,data:=.set #[] 0 (.fresh 0 0 (!byT w)) }) a m1 0:=S1.at' fun o e=>Heap.get?_push_of_some _ e
 obtain⟨f1,ep1,D1⟩:=S1'.dat
 refine wpAny_bind (set_merge (s:={ s with heap:=s.heap.push { cls:=.type "set",dict:=none,data:=.set #[] 0 (.fresh 0 0 (!byT w)) } }) (Nat.ne_of_gt la) S0 D1 (fun s' Q' _ hq=>wpAny_pure hq) fun h1 sb1 T1=>?_)
 refine wpAny_pure ?_
 rw [Nat.zero_or] at T1
 have hb:(Value.ref b != Value.ref a)=true:=by simp [Ne.symm hab]
 rw [if_pos hb]
 have S2':SetAt w h1 b m2 0:=(S2.at' fun o e=>Heap.get?_push_of_some _ e).keep (Nat.ne_of_lt lb) sb1
 refine wpAny_bind (m:=pure s.heap.objs.size) (wpAny_pure ?_)
 refine wpAny_bind (wpAny_holding ?_)
 refine update_set (s:={ s with heap:=h1 }) (Nat.ne_of_gt lb) T1 S2' fun h2 sb2 T2=>?_
 refine wpAny_pure (wpAny_pure ⟨_,rfl,?_,h h2 _ (fun c o e=>?_) (Nat.le_refl _) T2⟩)
 ·exact fun e=>nomatch e
 ·have hc:c≠s.heap.objs.size:=Nat.ne_of_lt (Heap.lt_size e)
  exact (sb2.2 c hc).trans ((sb1.2 c hc).trans (Heap.get?_push_of_some _ e))
end
end L2
namespace L2
open PySem PySem.Spec PyProof.Rows
section
variable {prog:Program}{w:World}{A:Around}{E:Value->Shared->Prop}{s:Shared}{a b r o:Addr}{m m1 m2 d k ep:Nat}{f:Nat->Tok}
theorem disj_del (h0:m &&& d=0):(m ^^^ 1 <<< k) &&& (d ||| 1 <<< k)=0↔m.testBit k=true:=by
 constructor
 ·intro h
  have:=congrArg (fun x=>x.testBit k) h
  simp only [Nat.testBit_and,Nat.testBit_xor,Nat.testBit_or,tb_one,Nat.zero_testBit,decide_true,Bool.or_true,Bool.and_true] at this
  simpa using this
 ·intro h
  apply Nat.eq_of_testBit_eq
  intro j
  have hj:=congrArg (fun x=>x.testBit j) h0
  simp only [Nat.testBit_and,Nat.zero_testBit] at hj
  rw [Nat.testBit_and,Nat.testBit_xor,Nat.testBit_or,tb_one,Nat.zero_testBit]
  by_cases e:k=j
  ·subst e;rw [h];simp
  ·rw [decide_eq_false e,Bool.xor_false,Bool.or_false,hj]
theorem or_ins_xor (h:m.testBit k=false):m ||| 1 <<< k=m ^^^ 1 <<< k:=by
 apply Nat.eq_of_testBit_eq
 intro j
 rw [Nat.testBit_or,Nat.testBit_xor,tb_one]
 by_cases e:k=j
 ·subst e;rw [h];simp
 ·rw [decide_eq_false e];simp
theorem sent_del (hm:m < 64) (hk:k < 6) (h1:m.testBit k=true) (f:Nat->Tok):SetTable.eraseAt (SEnt m f) (SetTable.below (ksOf m).toArray k)=SEnt (m ^^^ 1 <<< k) f:=by
 apply Array.toList_inj.mp
 unfold SetTable.eraseAt
 rw [Array.toList_append,Array.toList_extract,Array.toList_extract,SEnt.toList,SEnt.toList,(del_ks hm hk h1).2,List.map_append,SEnt.size]
 simp only [List.extract_eq_take_drop,List.drop_zero,Nat.sub_zero,List.map_take,List.map_drop]
 congr 1
 rw [List.take_of_length_le (by simp)]
theorem tab_del {t:SetTable}{by_:Bool} (T:STab by_ t m d) (hm:m < 64) (hd:d < 64) (hk:k < 6) (h1:m.testBit k=true) (h2:d.testBit k=false):STab by_ (t.drop (SetTable.below (ksOf m).toArray k)) (m ^^^ 1 <<< k) (d ||| 1 <<< k):=by
 have e:t.place[SetTable.below (ksOf m).toArray k]?=some k:=by rw [T.pl];simpa using (del_ks hm hk h1).1
 unfold SetTable.drop
 rw [e]
 refine⟨T.msk,?_,?_,T.led,T.plain⟩
 ·apply Array.toList_inj.mp
  show (SetTable.eraseAt t.place (SetTable.below (ksOf m).toArray k)).toList=_
  unfold SetTable.eraseAt
  rw [T.pl,Array.toList_append,Array.toList_extract,Array.toList_extract,(del_ks hm hk h1).2]
  simp only [List.extract_eq_take_drop,List.drop_zero,Nat.sub_zero]
  congr 1
  rw [List.take_of_length_le (by simp)]
 ·apply Array.toList_inj.mp
  show (SetTable.insertAt t.dummies (SetTable.below t.dummies k) k).toList=_
  rw [SetTable.toList_insertAt,T.du,ins_ks hd hk h2]
theorem or_bits6 (hd:d < 64) (hk:k < 6):d ||| 1 <<< k < 64:=bits_or hd hk
theorem set_flip {tk:Tok}{Q:Unit->Shared->Prop} (S:SetAt w s.heap a m d) (hk:k < 6) (hdk:d.testBit k=false)
  (h:∀ h' d',Heap.SameBut a s.heap h'->SetAt w h' a (m ^^^ 1 <<< k) d'->(∀ j,j≠k->d.testBit j=false->d'.testBit j=false)->Q () { s with heap:=h' }) :
  wpAny (model prog w) A (holding [Value.int k tk] (do
   if !(←setDiscardHashed a (.int k tk) (k:Int)) then
    let _ ←setAddHashed a (.int k tk) (k:Int))) Q E s:=by
 obtain⟨ob,ho,hm,hd,h0,hx,f,ep,t,hdat,T⟩:=id S
 have hf:=T.fits hm hd h0 f
 have hel:=sent_el (prog:=prog) (w:=w) m f
 have es:s={ s with heap:=s.heap }:=by cases s;rfl
 have key:(intKind prog w).is (k:Int) (.int k tk)=true:=intKind_is _ _ _ _
 have hh:(k:Int)=(intKind prog w).hash (k:Int):=(hash_k hk).symm
 refine wpAny_holding (wpAny_bind ?_)
 unfold setDiscardHashed setFind setFindIn
 refine wpAny_bind (wpAny_bind (wpAny_setState_of ho hdat hf ?_))
 dsimp only
 rw [byScan_of (knd:=intKind prog w) rfl (sent_bound hm f) hel]
 simp only [↓reduceIte]
 refine wpAny_bind (wpAny_rule ?_)
 refine wpAny_bind ?_
 rw [show setScan a (Value.int k tk) (k:Int) false (SEnt m f)=setScan a (Value.int k tk) ((intKind prog w).hash (k:Int)) false (SEnt m f) from by rw [←hh]]
 refine wpAny_setScan_of (knd:=intKind prog w) key ho hdat hf hel ?_
 rw [idx_ks hm hk f]
 cases hb:m.testBit k with
 | true=>
  rw [if_pos rfl]
  dsimp only
  refine wpAny_pure ?_
  dsimp only
  refine wpAny_bind (wpAny_setState_of ho hdat hf ?_)
  dsimp only
  rw [Nat.zero_add,sent_del hm hk hb f]
  have T':=tab_del T hm hd hk hb hdk
  obtain⟨o1,ho1,hx1,hd1,S1⟩:=set_store (w:=w) (f':=f) ho hx hdat (bits_xor hm hk) (or_bits6 hd hk) ((disj_del h0).mpr hb) T'
  refine wpAny_bind (wpAny_storeSet_of ho hdat ?_ (small_line (bits_xor hm hk) f))
  refine wpAny_bind (wpAny_point (wpAny_pure ?_))
  simp only [Bool.not_true,Bool.false_eq_true,↓reduceIte]
  refine wpAny_pure (h _ _ (Heap.SameBut.update ..) S1 fun j hj hdj=>?_)
  rw [Nat.testBit_or,tb_one,hdj,decide_eq_false (Ne.symm hj)];rfl
 | false=>
  rw [if_neg Bool.false_ne_true]
  dsimp only
  refine wpAny_pure ?_
  dsimp only
  refine wpAny_pure ?_
  simp only [Bool.not_false,↓reduceIte]
  refine wpAny_bind (set_add S hk (.inr hdk) fun h' d' b sb S' hd'=>wpAny_pure ?_)
  rw [or_ins_xor hb] at S'
  refine h h' d' sb S' fun j hj hdj=>?_
  rcases hd' with z | z
  ·rw [z];exact hdj
  ·rw [z];exact Nat.zero_testBit _
noncomputable def xorL (l:List Nat):Nat:=l.foldl (fun m k=>m ^^^ 1 <<< k) 0
theorem xor_foldl:∀ (l:List Nat) (m:Nat),l.foldl (fun m k=>m ^^^ 1 <<< k) m=m ^^^ xorL l
 | [],m=>(Nat.xor_zero m).symm
 | k::l,m=>by
  unfold xorL
  rw [List.foldl_cons,List.foldl_cons,xor_foldl l,xor_foldl l (0 ^^^ 1 <<< k),Nat.zero_xor,Nat.xor_assoc]
theorem xorL_cons (k:Nat) (l:List Nat):xorL (k::l)=1 <<< k ^^^ xorL l:=by
 show (k::l).foldl (fun m k=>m ^^^ 1 <<< k) 0=_
 rw [List.foldl_cons,xor_foldl,Nat.zero_xor]
theorem xorL_test (j:Nat):∀ l:List Nat,l.Nodup->(xorL l).testBit j=decide (j ∈ l)
 | [],_=>by simp [xorL]
 | k::l,hn=>by
  have hn':=List.nodup_cons.mp hn
  rw [xorL_cons,Nat.testBit_xor,tb_one,xorL_test j l hn'.2]
  by_cases e:k=j
  ·subst e;simp [hn'.1]
  ·rw [decide_eq_false e,Bool.false_xor]
   simp [show ¬ j=k from fun z=>e z.symm]
theorem xorL_bits {l:List Nat} (h:l.Nodup):xorL l=bitsL l:=by
 apply Nat.eq_of_testBit_eq
 intro j
 rw [xorL_test j l h,bitsL_test]
theorem ks_nodup (m:Nat):(ksOf m).Nodup:=List.Pairwise.filter _ List.nodup_range
theorem set_xor {Q:Value->Shared->Prop} (S1:SetAt w s.heap a m1 0) (S2:SetAt w s.heap b m2 0) (hab:a≠b)
  (h:∀ h' p d,(∀ c o,s.heap.get? c=some o->h'.get? c=some o)->s.heap.objs.size≤p->SetAt w h' p (m2 ^^^ m1) d->Q (.ref p) { s with heap:=h' }) :
  wpAny (model prog w) A (binaryOp .BitXor (.ref a) (.ref b)) Q E s:=by
 refine wpAny_binaryOp_same (op:=.BitXor) (T:="set") S1.type S2.type PySem.F.fills_set_xor PySem.F.slot_set_xor (wpAny_call_entry PySem.F.slot_set_xor S1.type entry_set_xor ?_ (PySem.F.args_set_xor_2 _ _))
 unfold Builtin.«frozenset.__xor__»
 wp_delta
 unfold Builtin.Frozenset.slot1 slotArgs
 simp only [List.isEmpty_nil,Bool.not_true,Bool.false_eq_true,↓reduceIte,List.length_nil,List.length_cons,bne_self_eq_false]
 refine wpAny_bind (wpAny_bind (wpAny_pure (wpAny_pure ?_)))
 dsimp only
 refine wpAny_bind ?_
 unfold andM
 refine wpAny_bind (any_set S1.type ?_)
 show wpAny _ _ (Builtin.Frozenset.isAnySet (.ref b)) _ _ _
 refine any_set S2.type ?_
 simp only [Bool.not_true,Bool.false_eq_true,↓reduceIte]
 unfold Builtin.Frozenset.addrOf
 refine wpAny_bind (wpAny_pure ?_)
 try dsimp only
 refine wpAny_bind ?_
 wp_delta
 unfold Builtin.Frozenset.newFrom
 refine wpAny_bind (base_set S1.type ?_)
 refine wpAny_bind (wpAny_bind (new_set fun S0=>?_))
 have la:a < s.heap.objs.size:=let ⟨o,ho,_⟩:=S1;Heap.lt_size ho
 have lb:b < s.heap.objs.size:=let ⟨o,ho,_⟩:=S2;Heap.lt_size ho
 refine wpAny_bind (m:=pure s.heap.objs.size) (wpAny_pure ?_)
 refine wpAny_bind (wpAny_holding ?_)
 have S2':SetAt w (s.heap.push { cls:=.type "set",dict:=none,data:=.set #[] 0 (.fresh 0 0 (!byT w)) }) b m2 0:=S2.at' fun o e=>Heap.get?_push_of_some _ e
 refine update_set (s:={ s with heap:=s.heap.push { cls:=.type "set",dict:=none,data:=.set #[] 0 (.fresh 0 0 (!byT w)) } }) (Nat.ne_of_gt lb) S0 S2' fun h1 sb1 T1=>?_
 rw [Nat.zero_or] at T1
 refine wpAny_pure ?_
 refine wpAny_bind (m:=pure s.heap.objs.size) (wpAny_pure ?_)
 refine wpAny_bind (wpAny_holding ?_)
 have S1':SetAt w h1 a m1 0:=(S1.at' fun o e=>Heap.get?_push_of_some _ e).keep (Nat.ne_of_lt la) sb1
 obtain⟨f1,ep1,D1⟩:=S1'.dat
 unfold Builtin.Frozenset.symmetricDifferenceUpdate
 have hne:(Value.ref a==Value.ref s.heap.objs.size)=false:=by simp [Nat.ne_of_lt la]
 rw [if_neg (by rw [hne];exact Bool.false_ne_true)]
 dsimp only
 refine wpAny_bind (wpAny_typeOf (T:="set") (S1'.type (s:={ s with heap:=h1 })) ?_)
 rw [if_neg (by decide)]
 refine wpAny_bind (any_set (s:={ s with heap:=h1 }) S1'.type ?_)
 rw [if_pos rfl]
 refine wpAny_bind (wpAny_pure ?_)
 refine wpAny_bind (m:=pure a) (wpAny_pure ?_)
 unfold setEpoch
 refine wpAny_bind (wpAny_bind (D1.state (s:={ s with heap:=h1 }) fun t T=>wpAny_pure ?_))
 dsimp only
 refine wpAny_holding ?_
 refine wpAny_bind (D1.unseen (s:={ s with heap:=h1 }) ?_)
 rw [←Array.forIn_toList]
 have kp:∀ {h':Heap},Heap.SameBut s.heap.objs.size h1 h'->SetDat w h' a m1 0 f1 ep1:=fun sb=>D1.keep (Nat.ne_of_lt la) sb
 refine wpAny_bind (wp_forIn (fun l s'=>∃ h' m' d',s'={ s with heap:=h' }/\Heap.SameBut s.heap.objs.size h1 h'/\SetAt w h' s.heap.objs.size m' d'/\m' ^^^ xorL (keysL l)=m2 ^^^ m1/\EntL l/\(keysL l).Nodup/\∀ j ∈ keysL l,d'.testBit j=false) (fun x l s' hJ=>?_) _ _ _ ⟨h1,m2,0,rfl,Heap.SameBut.refl ..,T1,?_,ord_ent _ _ _ _ _,(ord_keys w a m1 f1 ep1).nodup_iff.mpr (ks_nodup m1),fun j _=>Nat.zero_testBit j⟩ fun s' hJ=>?_)
 ·obtain⟨h',m',d',rfl,sb,S',hbm,hE,hN,hD⟩:=hJ
  obtain⟨k,tk,hk,rfl⟩:=hE x List.mem_cons_self
  have eK:keysL (((k:Int),Value.int k tk)::l)=k::keysL l:=by show (k:Int).toNat::keysL l=_;rw [Int.toNat_natCast]
  rw [eK] at hbm hN hD
  dsimp only
  refine wpAny_bind (set_flip (s:={ s with heap:=h' }) S' hk (hD k List.mem_cons_self) fun h2 d2 sb2 S2' hd2=>?_)
  refine wpAny_bind (un_chk { s with heap:=h2 } _ (kp (sb.trans sb2)) (wpAny_pure ⟨rfl,h2,_,d2,rfl,sb.trans sb2,S2',?_,fun e he=>hE e (List.mem_cons_of_mem _ he),(List.nodup_cons.mp hN).2,fun j hj=>hd2 j (fun e=>(List.nodup_cons.mp hN).1 (e ▸ hj)) (hD j (List.mem_cons_of_mem _ hj))⟩))
  rw [←hbm,xorL_cons,Nat.xor_assoc]
 ·rw [xorL_bits ((ord_keys w a m1 f1 ep1).nodup_iff.mpr (ks_nodup m1)),bitsL_perm (ord_keys ..),bitsL_ks D1.1]
 ·obtain⟨h',m',d',rfl,sb,S',hbm,hE,hN,hD⟩:=hJ
  have e0:m'=m2 ^^^ m1:=by rw [←hbm];exact (Nat.xor_zero m').symm
  rw [e0] at S'
  refine wpAny_pure (wpAny_pure (wpAny_pure ⟨_,rfl,(fun e=>nomatch e),h h' _ d' (fun c o e=>?_) (Nat.le_refl _) S'⟩))
  have hc:c≠s.heap.objs.size:=Nat.ne_of_lt (Heap.lt_size e)
  exact (sb.2 c hc).trans ((sb1.2 c hc).trans (Heap.get?_push_of_some _ e))
end
end L2
namespace L2
open PySem PySem.Spec PyProof.Rows
section
variable {prog:Program}{w:World}{A:Around}{E:Value->Shared->Prop}{s:Shared}{a:Addr}{m d ep:Nat}{f:Nat->Tok}
theorem collect_set {Q:List Value->Shared->Prop} (S:SetDat w s.heap a m d f ep) (hh:A.handled=none)
  (h:∀ h' tk,(∀ b o,s.heap.get? b=some o->h'.get? b=some o)->s.heap.objs.size < h'.objs.size->Q ((ordS w a m f ep).toList.map (·.2)) { s with heap:=h',toks:=tk }) :
  wpAny (model prog w) A (collect (.ref a)) Q E s:=by
 have hlt:a < s.heap.objs.size:=let ⟨_,_,_,o,t,ho,_⟩:=S;Heap.lt_size ho
 have hn:(ksOf m).length≤sizeLine:=by have:=len_ks S.1;rw [sizeLine_eq];omega
 unfold collect
 refine wpAny_bind (wpAny_runValue (codeAny_builtin entry_proto_collect' ?_))
 show wpAny _ _ (do again (.builtin "list.__iadd__" ⟨[←newList [],.ref a],[]⟩)) _ _ s
 refine wpAny_bind (wpAny_newList (wpAny_pure ⟨Code.quiet_builtin _ (by decide +kernel),codeAny_builtin entry_list_iadd' ?_⟩))
 show wpAny _ _ (Builtin.List.listExtendWith (.ref s.heap.objs.size) (.ref a) (.ref s.heap.objs.size)) _ _ { s with heap:=s.heap.push (seqObj "list" #[] 0) }
 refine PySem.W.kdl_extend (A:=A) (R:=fun r s'=>match r with
   | .ok (.ret v)=>wpAny (model prog w) A (match v with
     | .ref a=>do
      let o ←load a
      match o.data with
      | .seq xs _=>pure xs.toList
      | _=>unsupported "internal:collect"
     | _=>unsupported "internal:collect") Q E s'
   | .ok _=>False
   | .error e=>E e s') (s:={ s with heap:=s.heap.push (seqObj "list" #[] 0) }) (src_set prog w a m d ep f) hh (S.at' fun o e=>Heap.get?_push_of_some _ e) s.heap.objs.size (Nat.ne_of_gt hlt) (Nat.ne_of_gt hlt) (.ref s.heap.objs.size) 0 (Heap.get?_push_size _ rfl) (fun h' tk acc c hk hS hI=>?_) hn
 show wpAny (model prog w) A (do
   let o ←load s.heap.objs.size
   match o.data with
   | .seq xs _=>pure xs.toList
   | _=>unsupported "internal:collect") Q E { s with heap:=h',toks:=tk }
 refine wpAny_bind (wpAny_load hS ?_)
 show wpAny _ _ (pure acc.toList) Q E _
 have e:acc.toList=(ordS w a m f ep).toList.map (·.2):=by
  apply List.ext_getElem?
  intro i
  rw [List.getElem?_map,Array.getElem?_toList,Array.getElem?_toList]
  by_cases hi:i < acc.size
  ·obtain⟨e,he,hv⟩:=hI.2 i acc[i] (Array.getElem?_eq_getElem hi)
   rw [he,Array.getElem?_eq_getElem hi,hv];rfl
  ·rw [Array.getElem?_eq_none (by omega),Array.getElem?_eq_none (by rw [ord_size,←hI.1];omega)];rfl
 rw [e]
 refine wpAny_pure (h h' tk (fun b o q=>?_) (Heap.lt_size hS))
 exact hk b o (Nat.ne_of_lt (Heap.lt_size q)) (Heap.get?_push_of_some _ q)
theorem ord_ints (w:World) (a:Addr) (m:Nat) (f:Nat->Tok) (ep:Nat):∀ {l:List (Int×Value)},EntL l->IntsAre (l.map (·.2)) (l.map (·.1))
 | [],_=>.nil
 | e::l,h=>by
  obtain⟨k,t,_,rfl⟩:=h e List.mem_cons_self
  exact .cons _ _ (ord_ints w a m f ep fun e he=>h e (List.mem_cons_of_mem _ he))
theorem ks_sorted (m:Nat):((ksOf m).map fun k=>((k:Nat):Int)).Pairwise (·≤·):=by
 rw [List.pairwise_map]
 have:(List.range 6).Pairwise (· < ·):=List.pairwise_lt_range
 exact (this.filter _).imp fun {a b} h=>by omega
theorem sorted_set {Q:Value->Shared->Prop} (S:SetAt w s.heap a m d) (hh:A.in1.handled=none)
  (h:∀ (h':Heap) (tk:Nat) (p:Addr) (ep:Nat) (out:List Value),(∀ b o,s.heap.get? b=some o->h'.get? b=some o)->s.heap.objs.size≤p->h'.get? p=some (seqObj "list" out.toArray ep)->Vals (((ksOf m).map fun k=>((k:Nat):Int)).map V.int) out->Q (.ref p) { s with heap:=h',toks:=tk }) :
  wpAny (model prog w) A (call (.builtin "sorted") [.ref a]) Q E s:=by
 obtain⟨f,ep,D⟩:=S.dat
 refine Calls.call_function_entry kind_sorted plain_sorted entry_sorted (args_sorted1 _) ?_
 unfold Builtin.«sorted»
 refine wpAny_bind (m:=checkCount "sorted" 1 1 _) (wpAny_pure ?_)
 refine wpAny_bind (collect_set D hh fun h1 tk hk hlt=>?_)
 have hI:=ord_ints w a m f ep (ord_ent w a m f ep)
 generalize hvs:(ordS w a m f ep).toList.map (·.2)=vs at hI ⊢
 have hv64:vs.length≤64:=by
  have:=len_ks D.1
  rw [←hvs,List.length_map,Array.length_toList,ord_size];omega
 refine wpAny_bind (wpAny_newList ?_ (by rw [sizeLine_eq];omega))
 have hoL:(h1.push (seqObj "list" vs.toArray 0)).get? h1.objs.size=some (seqObj "list" vs.toArray 0):=Heap.get?_push_size _ rfl
 show wpAny _ _ _ _ _ { s with heap:=h1.push (seqObj "list" vs.toArray 0),toks:=tk }
 refine wpAny_bind (wpAny_holding (wpAny_call_entry slot_list_sort ⟨_,hoL,rfl⟩ entry_list_sort (lsort_any (O:=OI) (rk:=fun p=>[intVal p.1]) (S:=fun p=>∃ n t,p.1=.int n t) (s:={ s with heap:=h1.push (seqObj "list" vs.toArray 0),toks:=tk }) hoL hv64 (fun h' _=>⟨oneType',kind_int (s:={ s with heap:=h',toks:=tk }) hI⟩) (fun v hv=>ints_mem hI v hv) fun out a1 a2=>⟨_,rfl,?_⟩) (args_list_sort _)))
 refine wpAny_pure ⟨_,rfl,?_⟩
 obtain⟨ep',he⟩:=sortedHeap_at (out:=out.toArray) hoL
 refine h _ tk h1.objs.size ep' out (fun b o q=>?_) (Nat.le_of_lt hlt) he ?_
 ·have q1:=hk b o q
  have hb:b < h1.objs.size:=Heap.lt_size q1
  show (sortedHeap (h1.push (seqObj "list" vs.toArray 0)) h1.objs.size vs out.toArray).get? b=some o
  rw [sortedHeap_old (Nat.ne_of_lt hb) (by rw [size_push'];exact Nat.lt_succ_of_lt hb),Heap.get?_push_ne _ _ _ (Nat.ne_of_lt hb)]
  exact q1
 ·have ho:∀ u ∈ out,∃ n t,u=.int n t:=fun u hu=>ints_mem hI u (a1.mem_iff.mp hu)
  have hpm:(out.map intVal).Perm ((ksOf m).map fun k=>((k:Nat):Int)):=by
   have z1:=a1.map intVal
   rw [ints_val hI] at z1
   have z2:=(ord_keys w a m f ep).map (fun k=>((k:Nat):Int))
   refine z1.trans (List.Perm.trans ?_ z2)
   unfold keysL
   rw [List.map_map]
   refine List.Perm.of_eq (List.map_congr_left fun e he=>?_)
   obtain⟨k,t,_,rfl⟩:=ord_ent w a m f ep e he
   simp
  have hs:(out.map intVal).Pairwise (·≤·):=by
   rw [List.pairwise_map]
   refine a2.imp fun {x y} q=>?_
   have q':lexI [intVal y] [intVal x]=false:=q
   by_cases e:intVal y=intVal x
   ·omega
   ·have:lexI [intVal y] [intVal x]=decide (intVal y < intVal x):=by show (if _ then _ else _)=_;rw [if_neg e]
    rw [this,decide_eq_false_iff_not] at q';omega
  have e:=sorted_uniq hpm hs (ks_sorted m)
  have hvv:=vals_of_ints (ints_back ho)
  rw [e] at hvv;exact hvv
end
noncomputable def PX (X:Cx) (z:Bool) (e:Expr) (t:St->Hp->(Nat->Hp->Prop)->Prop):Prop:=
 ∀ (pins:List (Addr×Obj)) (s:Shared) (σ:St) (H:Hp) (Q:Nat->Hp->Prop),Inv X pins σ H s->t σ H Q->wpAny (model X.prog X.w) X.A (eval e X.env)
  (fun u s'=>∃ a o m d H',u=.ref a/\s'.heap.get? a=some o/\SObj X.w o m d/\(z=true->d=0)/\H' a=none/\a≠X.env.locals/\a ∉ X.fs/\(∀ p ∈ pins,p.1≠a)/\Inv X pins σ H' s'/\Q m H') X.xe s
abbrev Xf:=Ev->Sto->Option (Nat×Sto)
noncomputable def tIX (K:PySem.W.Frag) (env:Ev) (st:Sto) (r:Nat×Sto):St->Hp->(Nat->Hp->Prop)->Prop:=fun σ H Q=>∃ φ,Er K H φ env σ/\Sr K H φ st/\∀ H' φ',Fw φ φ' H H'->Sr K H' φ' r.2->Q r.1 H'
structure IX (K:PySem.W.Frag) (X:Cx) (z:Bool) (e:Expr) (f:Xf):Prop where
 run:∀ env st r,f env st=some r->PX X z e (tIX K env st r)
noncomputable def iSetOf (fe:Ef):Xf
 | env,st=>(fe env st).bind fun x=>(seqD x.2 x.1).bind fun ds=>(intsOf ds).bind fun ns=>if in6 ns=true then some (bitsOf ns,x.2) else none
noncomputable def iSetOr (fa fb:Xf):Xf
 | env,st=>(fa env st).bind fun x=>(fb env x.2).map fun y=>(x.1 ||| y.1,y.2)
noncomputable def iSetXor (fa fb:Xf):Xf
 | env,st=>(fa env st).bind fun x=>(fb env x.2).map fun y=>(y.1 ^^^ x.1,y.2)
noncomputable def iSortS (fx:Xf):Lf
 | env,st=>(fx env st).map fun x=>((ksOf x.1).map fun k=>D.int (k:Nat),x.2)
section
variable {K:PySem.W.Frag}{X:Cx}{pos p:Pos}{e a b:Expr}{fe:Ef}{fa fb:Xf}
theorem ix_set (hg:Gl X "set") (hm:X.mg "set" = none) (ha:IE K X e fe) (hc:X.calm=true:=by rfl) (hs:notStar e=true:=by rfl) (hK:X.K=K:=by rfl):IX K X true (.Call (.Name "set" p) [e] [] pos) (iSetOf fe):=by
 subst hK
 refine⟨fun env st r hr=>?_⟩
 simp only [iSetOf,Option.bind_eq_some_iff] at hr
 obtain⟨⟨x,s1⟩,hx,ds,hds,ns,hns,hr⟩:=hr
 split at hr
 ·rename_i h6
  cases hr
  intro pins s σ H Q I h
  refine wpAny_Call_Name_kw (ld_blt I hg hm PyProof.Rows.boot_set ?_)
  refine PyProof.Rows.callWith_type1 ?_ (star_cons hs) (star_any (es:=[]) rfl)
  rw [star_cons hs]
  show wpAny _ _ (spliced ((false,eval e X.env)::backTo pos (starEach [] X.env))) _ _ s
  obtain⟨φ,hE,hS,q⟩:=h
  refine Calls.spliced_cons (thn ((ha.run _ _ _ hx) pins s σ H (fun v H'=>∃ φ',Sr X.K H' φ' s1/\Fw φ φ' H H'/\Rw X.K H' φ' x v) I ⟨φ,hE,hS,fun v H' φ' f1 S1 w1=>⟨φ',S1,f1,w1⟩⟩) fun u s2 ⟨v,H1,I1,r1,φ1,S1,f1,w1⟩=>?_)
  show wpAny _ _ (spliced []) _ _ s2
  refine Calls.spliced_nil ?_
  obtain⟨ad,vs,rfl,h1,h2⟩:=seq_rel S1 w1 hds
  cases r1
  cases intsOf_some hns
  cases h2.ints
  have fin:∀ (h':Heap) (tk:Nat),SetAt X.w h' s2.heap.objs.size (bitsOf ns) 0->(∀ b o,b < s2.heap.objs.size->s2.heap.get? b=some o->h'.get? b=some o)->
    ∃ a o m d H',Value.ref s2.heap.objs.size=.ref a/\(({ s2 with heap:=h',toks:=tk }:Shared)).heap.get? a=some o/\SObj X.w o m d/\(true=true->d=0)/\H' a=none/\a≠X.env.locals/\a ∉ X.fs/\(∀ p ∈ pins,p.1≠a)/\Inv X pins σ H' { s2 with heap:=h',toks:=tk }/\Q m H':=fun h' tk ⟨o,ho,so⟩ hk=>by
   refine⟨_,o,_,0,H1,rfl,ho,so,fun _=>rfl,I1.hok.fresh (Nat.le_refl _),Nat.ne_of_gt I1.lt,I1.nofs (Nat.le_refl _),fun p hp=>Nat.ne_of_lt (Heap.lt_size (I1.pin p (List.mem_append_right _ hp)).1),I1.kept (fun b u e=>hk b u (Heap.lt_size e) e),q H1 φ1 f1 S1⟩
  rcases h1 with h1 | h1
  ·obtain⟨its,rv,pl,_⟩:=I1.list h1
   exact call_set_list (items:=its.toArray) (ns:=ns) (I1.ok.hd hc) pl.isList (by simpa using intsAre_of rv) h6 fin
  ·obtain⟨its,rv,pl,_⟩:=I1.tuple h1
   exact call_set_tuple (items:=its.toArray) (ns:=ns) (I1.ok.hd hc) pl (by simpa using intsAre_of rv) h6 fin
 ·cases hr
theorem px_two {op:Operator}{g:Nat->Nat->Nat}{env:Ev}{st:Sto}{x y:Nat×Sto} (ha:PX X true a (tIX K env st x)) (hb:PX X true b (tIX K env x.2 y))
  (hop:∀ (s:Shared) (u v:Addr) (m1 m2:Nat) (Q:Value->Shared->Prop),SetAt X.w s.heap u m1 0->SetAt X.w s.heap v m2 0->u≠v->
    (∀ h' p d,(∀ c o,s.heap.get? c=some o->h'.get? c=some o)->s.heap.objs.size≤p->SetAt X.w h' p (g m1 m2) d->Q (.ref p) { s with heap:=h' })->wpAny (model X.prog X.w) X.A (binaryOp op (.ref u) (.ref v)) Q X.xe s) :
  PX X false (.BinOp a op b pos) (tIX K env st (g x.1 y.1,y.2)):=by
 intro pins s σ H Q I h
 obtain⟨φ,hE,hS,q⟩:=h
 refine wpAny_BinOp (thn (ha pins s σ H (fun m H'=>m=x.1/\∃ φ',Sr K H' φ' x.2/\Fw φ φ' H H') I ⟨φ,hE,hS,fun H' φ' f1 S1=>⟨rfl,φ',S1,f1⟩⟩) fun u s1 hu=>?_)
 obtain⟨a1,o1,m1,d1,H1,rfl,g1,so1,z1,n1,l1,fs1,pn1,I1,rfl,φ1,S1,f1⟩:=hu
 have cells:∀ v,o1.data≠.cell v:=fun v hv=>by obtain⟨_,_,_,_,f,ep,t,hd,_⟩:=so1;rw [hd] at hv;cases hv
 have I1':Inv X ((a1,o1)::pins) σ H1 s1:=I1.pins_of fun p hp=>by
  rcases List.mem_cons.mp hp with rfl | hp
  ·exact⟨g1,n1,l1,fs1,cells⟩
  ·exact I1.pin p (List.mem_append_right _ hp)
 refine thn (hb ((a1,o1)::pins) s1 σ H1 (fun m H'=>m=y.1/\∃ φ',Sr K H' φ' y.2/\Fw φ1 φ' H1 H') I1' ⟨φ1,hE.fw hS f1,S1,fun H' φ' f2 S2=>⟨rfl,φ',S2,f2⟩⟩) fun v s2 hv=>?_
 obtain⟨a2,o2,m2,d2,H2,rfl,g2,so2,z2,n2,l2,fs2,pn2,I2,rfl,φ2,S2,f2⟩:=hv
 cases z1 rfl
 cases z2 rfl
 have ga:=(I2.pin (a1,o1) (List.mem_append_right _ List.mem_cons_self)).1
 refine hop s2 a1 a2 x.1 y.1 _ ⟨o1,ga,so1⟩ ⟨o2,g2,so2⟩ (pn2 _ List.mem_cons_self) fun h' p d hk hp ⟨o3,g3,so3⟩=>?_
 have I2':Inv X pins σ H2 s2:=I2.pins_of fun p hp=>I2.pin p (List.mem_append_right _ (List.mem_cons_of_mem _ hp))
 have I3:Inv X pins σ H2 { s2 with heap:=h' }:=I2'.kept (t':=s2.toks) hk
 exact⟨p,o3,_,d,H2,rfl,g3,so3,(fun z=>nomatch z),I2.hok.fresh hp,Nat.ne_of_gt (Nat.lt_of_lt_of_le I2.lt hp),I2.nofs hp,fun p' hp'=>Nat.ne_of_lt (Nat.lt_of_lt_of_le (Heap.lt_size (I2'.pin p' (List.mem_append_right _ hp')).1) hp),I3,q H2 φ2 (f1.trans f2) S2⟩
theorem ix_or (ha:IX K X true a fa) (hb:IX K X true b fb):IX K X false (.BinOp a .BitOr b pos) (iSetOr fa fb):=by
 refine⟨fun env st r hr=>?_⟩
 simp only [iSetOr,Option.bind_eq_some_iff,Option.map_eq_some_iff] at hr
 obtain⟨x,hx,y,hy,rfl⟩:=hr
 exact px_two (g:=fun m1 m2=>m1 ||| m2) (ha.run _ _ _ hx) (hb.run _ _ _ hy) fun s u v m1 m2 Q S1 S2 hne h=>set_union S1 S2 hne fun h' p hk hp S=>h h' p 0 hk hp S
theorem ix_xor (ha:IX K X true a fa) (hb:IX K X true b fb):IX K X false (.BinOp a .BitXor b pos) (iSetXor fa fb):=by
 refine⟨fun env st r hr=>?_⟩
 simp only [iSetXor,Option.bind_eq_some_iff,Option.map_eq_some_iff] at hr
 obtain⟨x,hx,y,hy,rfl⟩:=hr
 exact px_two (g:=fun m1 m2=>m2 ^^^ m1) (ha.run _ _ _ hx) (hb.run _ _ _ hy) fun s u v m1 m2 Q S1 S2 hne h=>set_xor S1 S2 hne fun h' p d hk hp S=>h h' p d hk hp S
theorem il_sortS {z:Bool} (hg:Gl X "sorted") (hm:X.mg "sorted" = none) (ha:IX K X z e fa) (hc:X.calm=true:=by rfl) (hs:notStar e=true:=by rfl):IL K X (.Call (.Name "sorted" p) [e] [] pos) (iSortS fa):=by
 refine⟨fun env st r hr=>?_⟩
 simp only [iSortS,Option.map_eq_some_iff] at hr
 obtain⟨x,hx,rfl⟩:=hr
 intro pins s σ H Q I h
 obtain⟨φ,hE,hS,q⟩:=h
 refine wpAny_Call_Name_kw (ld_blt I hg hm PyProof.Rows.boot_sorted ?_)
 refine PyProof.Rows.callWith_builtin1 ?_ (star_cons hs) (star_any (es:=[]) rfl)
 rw [star_cons hs]
 show wpAny _ _ (spliced ((false,eval e X.env)::backTo pos (starEach [] X.env))) _ _ s
 refine Calls.spliced_cons (thn ((ha.run _ _ _ hx) pins s σ H (fun m H'=>m=x.1/\∃ φ',Sr K H' φ' x.2/\Fw φ φ' H H') I ⟨φ,hE,hS,fun H' φ' f1 S1=>⟨rfl,φ',S1,f1⟩⟩) fun u s1 hu=>?_)
 obtain⟨a1,o1,m1,d1,H1,rfl,g1,so1,z1,n1,l1,fs1,pn1,I1,rfl,φ1,S1,f1⟩:=hu
 show wpAny _ _ (spliced []) _ _ s1
 refine Calls.spliced_nil ?_
 refine sorted_set ⟨o1,g1,so1⟩ (I1.ok.hd hc) fun h' tk p' ep out hk hp he hv=>?_
 have hn:H1 p'=none:=I1.hok.fresh hp
 have hlen:out.length≤1000:=by
  have:=len_ks so1.1
  rw [←hv.length,List.length_map,List.length_map];omega
 have hlay:Inv X pins σ (upd H1 p' (.lst (((ksOf x.1).map fun k=>((k:Nat):Int)).map V.int))) { s1 with heap:=h',toks:=tk }:=by
  refine I1.laid (t':=tk) (a:=p') (o:=.lst (((ksOf x.1).map fun k=>((k:Nat):Int)).map V.int)) hk hp ⟨?_,out,ep,hv,by simpa [seqObj] using he⟩
  rw [hv.length];exact small16 hlen
 refine⟨.ref p',_,hlay,rfl,q p' _ H1 φ1 f1 S1 hn ?_⟩
 have:=Rls.of_ints (K:=K) (H:=H1) (φ:=φ1) ((ksOf x.1).map fun k=>((k:Nat):Int))
 rw [List.map_map] at this
 exact this
end
end L2
namespace L2
open PySem PySem.Spec PyProof.Rows
section
variable {κ:Type} [DecidableEq κ]
noncomputable def valV (kvs:List (κ×V)) (k:κ):Option V:=(kvs.find? fun kv=>decide (kv.1=k)).map (·.2)
noncomputable def putK (kvs:List (κ×V)) (k:κ) (v:V):List (κ×V):=
 if (kvs.any fun kv=>decide (kv.1=k))=true then kvs.map (fun kv=>if kv.1=k then (kv.1,v) else kv) else kvs++[(k,v)]
theorem valV_pos {p:κ×V}{r:List (κ×V)}{k:κ} (e:p.1=k):valV (p::r) k=some p.2:=by simp [valV,List.find?_cons,e]
theorem valV_neg {p:κ×V}{r:List (κ×V)}{k:κ} (e:¬ p.1=k):valV (p::r) k=valV r k:=by simp [valV,List.find?_cons,e]
theorem valV_any (k:κ):∀ kvs:List (κ×V),(kvs.any fun kv=>decide (kv.1=k))=(valV kvs k).isSome
 | []=>rfl
 | p::r=>by
  rw [List.any_cons]
  by_cases e:p.1=k
  ·simp only [valV_pos e,decide_eq_true e,Bool.true_or,Option.isSome_some]
  ·rw [valV_neg e,decide_eq_false e,Bool.false_or];exact valV_any k r
theorem length_putK (kvs:List (κ×V)) (k:κ) (v:V):(putK kvs k v).length≤kvs.length+1:=by
 unfold putK
 split
 ·rw [List.length_map];omega
 ·rw [List.length_append,List.length_cons,List.length_nil];omega
theorem RelO.isSome_eq {o:Option V}{u:Option Value} (r:RelO o u):o.isSome=u.isSome:=by
 cases o with
 | none=>cases u with
  | none=>rfl
  | some _=>exact (show False from r).elim
 | some _=>cases u with
  | none=>exact (show False from r).elim
  | some _=>rfl
theorem RelO.getD {o:Option V}{u:Option Value}{d:V}{d':Value} (r:RelO o u) (rd:RelV d d'):RelV (o.getD d) (u.getD d'):=by
 cases o with
 | none=>cases u with
  | none=>exact rd
  | some _=>exact (show False from r).elim
 | some _=>cases u with
  | none=>exact (show False from r).elim
  | some _=>exact r
theorem KV.val {kvs:List (κ×V)}{vs:List (κ×Value)} (r:KV kvs vs) (k:κ):RelO (valV kvs k) (valueAt vs k):=by
 unfold KV at r
 induction r with
 | nil=>exact True.intro
 | @cons p q ps qs h t ih=>
  obtain⟨h1,h2⟩:=h
  by_cases e:p.1=k
  ·have e':q.1=k:=h1.symm.trans e
   have b:valueAt (q::qs) k=some q.2:=by simp [valueAt,List.find?_cons,e']
   rw [valV_pos e,b];exact h2
  ·have e':¬ q.1=k:=fun z=>e (h1.trans z)
   have b:valueAt (q::qs) k=valueAt qs k:=by simp [valueAt,List.find?_cons,e']
   rw [valV_neg e,b];exact ih
theorem KV.any {kvs:List (κ×V)}{vs:List (κ×Value)} (r:KV kvs vs) (k:κ):(kvs.any fun kv=>decide (kv.1=k))=vs.any fun kv=>decide (kv.1=k):=by
 unfold KV at r
 induction r with
 | nil=>rfl
 | cons h t ih=>rw [List.any_cons,List.any_cons,ih,h.1]
theorem KV.repl {kvs:List (κ×V)}{vs:List (κ×Value)} (r:KV kvs vs) (k:κ) {y:V}{u:Value} (ry:RelV y u) :
  KV (kvs.map fun kv=>if kv.1=k then (kv.1,y) else kv) (vs.map fun kv=>if kv.1=k then (kv.1,u) else kv):=by
 unfold KV at r ⊢
 induction r with
 | nil=>exact .nil
 | @cons p q ps qs h t ih=>
  rw [List.map_cons,List.map_cons]
  refine .cons ?_ ih
  obtain⟨h1,h2⟩:=h
  by_cases e:p.1=k
  ·rw [if_pos e,if_pos (h1.symm.trans e)];exact⟨h1,ry⟩
  ·rw [if_neg e,if_neg (fun z=>e (h1.trans z))];exact⟨h1,h2⟩
theorem KV.put {kvs:List (κ×V)}{vs:List (κ×Value)} (r:KV kvs vs) (k:κ) {y:V}{u:Value} (ry:RelV y u):KV (putK kvs k y) (stored vs k u):=by
 unfold putK stored
 rw [r.any k]
 by_cases e:(vs.any fun kv=>decide (kv.1=k))=true
 ·rw [if_pos e,if_pos e];exact r.repl k ry
 ·rw [if_neg e,if_neg e];exact Paired.snoc r ⟨rfl,ry⟩
theorem KV.length {kvs:List (κ×V)}{vs:List (κ×Value)} (r:KV kvs vs):kvs.length=vs.length:=Paired.length r
end
theorem kV_is {P:Program}{w:World}{k:Key}{u:Value} (r:RelV (kV k) u):(mixKind P w).is k u=true:=by
 cases k with
 | inl i=>obtain⟨t,e⟩:=(show ∃ t,u=Value.int i t from r);subst e;exact mixKind_int P w i t
 | inr x=>obtain⟨t,e⟩:=(show ∃ t,u=Value.str x t from r);subst e;exact mixKind_str P w x t
theorem items_are {P:Program}{w:World}:∀ {ks:List Key}{us:List Value},Vals (ks.map kV) us->ItemsAre (mixKind P w) ks us
 | [],_,r=>by rw [List.map_nil] at r;cases r;exact .nil
 | k::ks,_,r=>by
  rw [List.map_cons] at r
  cases r with
  | cons h t=>exact .cons (kV_is h) (items_are t)
abbrev KT (H:Hp):List (List Key×V)->List (List Key×Addr×Value)->Prop:=Paired fun p q=>p.1=q.1/\H q.2.1=some (.tup (p.1.map kV))/\RelV p.2 q.2.2
theorem KT.val {H:Hp}{kvs:List (List Key×V)}{xs:List (List Key×Addr×Value)} (r:KT H kvs xs) (k:List Key):RelO (valV kvs k) ((atKey xs k).map (·.2)):=by
 induction r with
 | nil=>exact True.intro
 | @cons p q ps qs h t ih=>
  obtain⟨h1,_,h2⟩:=h
  by_cases e:p.1=k
  ·have e':q.1=k:=h1.symm.trans e
   have b:atKey (q::qs) k=some q.2:=by simp [atKey,List.find?_cons,e']
   rw [valV_pos e,b];exact h2
  ·have e':¬ q.1=k:=fun z=>e (h1.trans z)
   have b:atKey (q::qs) k=atKey qs k:=by simp [atKey,List.find?_cons,e']
   rw [valV_neg e,b];exact ih
theorem KT.repl {H:Hp}{kvs:List (List Key×V)}{xs:List (List Key×Addr×Value)} (r:KT H kvs xs) (k:List Key) {y:V}{u:Value} (ry:RelV y u) :
  KT H (kvs.map fun kv=>if kv.1=k then (kv.1,y) else kv) (xs.map (putAt k u)):=by
 induction r with
 | nil=>exact .nil
 | @cons p q ps qs h t ih=>
  rw [List.map_cons,List.map_cons]
  refine .cons ?_ ih
  obtain⟨h1,h2,h3⟩:=h
  unfold putAt
  by_cases e:p.1=k
  ·rw [if_pos e,if_pos (h1.symm.trans e)];exact⟨h1,h2,ry⟩
  ·rw [if_neg e,if_neg (fun z=>e (h1.trans z))];exact⟨h1,h2,h3⟩
theorem KT.put {H:Hp}{kvs:List (List Key×V)}{xs:List (List Key×Addr×Value)} (r:KT H kvs xs) (k:List Key) {b:Addr}{y:V}{u:Value} (hb:H b=some (.tup (k.map kV))) (ry:RelV y u) :
  KT H (putK kvs k y) (storedH xs k b u):=by
 have e:(kvs.any fun kv=>decide (kv.1=k))=(atKey xs k).isSome:=by
  rw [valV_any,(r.val k).isSome_eq,Option.isSome_map]
 unfold putK storedH
 rw [e]
 by_cases q:(atKey xs k).isSome=true
 ·rw [if_pos q,if_pos q];exact r.repl k ry
 ·rw [if_neg q,if_neg q];exact Paired.snoc r ⟨rfl,hb,ry⟩
theorem KT.keeps {H H':Hp}{kvs:List (List Key×V)}{xs:List (List Key×Addr×Value)} (r:KT H kvs xs) (ht:∀ b ys,H b=some (.tup ys)->H' b=some (.tup ys)):KT H' kvs xs:=
 Paired.mapP r fun _ _ z=>⟨z.1,ht _ _ z.2.1,z.2.2⟩
section
variable {P:Program}{w:World}{H:Hp}{h:Heap}{a:Addr}
theorem rd_of {u:HO} (ok:HOk P w H h) (e:Rd H a u):ObjOk P w H h a u:=e.ok ok
theorem dk_rd {kvs:List (Key×V)} (ok:HOk P w H h) (e:Rd H a (.dK kvs)):kvs.length≤sizeLine/\(a==sysModules)=false/\∃ vs,KV kvs vs/\h.DictOf (mixKind P w) a vs:=
 show ObjOk P w H h a (.dK kvs) from rd_of ok e
theorem dk_of {kvs:List (Key×V)} (ok:HOk P w H h) (e:H a=some (.dK kvs)):kvs.length≤sizeLine/\(a==sysModules)=false/\∃ vs,KV kvs vs/\h.DictOf (mixKind P w) a vs:=dk_rd ok (.inl e)
theorem key_of {ks:List Key} (ok:HOk P w H h) (e:H a=some (.tup (ks.map kV))):(tupleKind (mixKind P w)).is h ks a:=by
 obtain⟨_,its,r,o,h1,h2,⟨n,h3⟩,_⟩:=(show ObjOk P w H h a (.tup (ks.map kV)) from ok a _ e)
 exact⟨o,its.toArray,n,h1,h2,h3,by simpa using items_are r⟩
theorem dt_rd {kvs:List (List Key×V)} (ok:HOk P w H h) (e:Rd H a (.dT kvs)):kvs.length≤sizeLine/\(a==sysModules)=false/\
  ∃ xs,KT H kvs xs/\h.DictOfH (tupleKind (mixKind P w)) a xs:=by
 obtain⟨z,y,xs,r,o,es,ep,h1,h2,h3,h4,h5⟩:=(show ObjOk P w H h a (.dT kvs) from rd_of ok e)
 refine⟨z,y,xs,r,o,es,ep,h1,h2,h3,h4,fun x hx=>?_,h5⟩
 have all:∀ {l:List (List Key×V)}{m:List (List Key×Addr×Value)},KT H l m->∀ x ∈ m,(tupleKind (mixKind P w)).is h x.1 x.2.1:=by
  intro l m q
  induction q with
  | nil=>intro x hx;exact nomatch hx
  | @cons p q ps qs hq t ih=>
   intro x hx
   rcases List.mem_cons.mp hx with e | hx
   ·subst e
    exact key_of ok (by rw [←hq.1];exact hq.2.1)
   ·exact ih x hx
 exact all r x hx
theorem dt_of {kvs:List (List Key×V)} (ok:HOk P w H h) (e:H a=some (.dT kvs)):kvs.length≤sizeLine/\(a==sysModules)=false/\
  ∃ xs,KT H kvs xs/\h.DictOfH (tupleKind (mixKind P w)) a xs:=dt_rd ok (.inl e)
end
noncomputable def DGet (H:Hp) (a:Addr) (y:V) (r:Option V):Prop:=
 (∃ kvs k,Rd H a (.dK kvs)/\y=kV k/\r=valV kvs k)∨∃ kvs k b,Rd H a (.dT kvs)/\y=.ref b/\H b=some (.tup (k.map kV))/\r=valV kvs k
noncomputable def DPut (H:Hp) (a:Addr) (y v:V) (H':Hp):Prop:=
 (∃ kvs k,H a=some (.dK kvs)/\y=kV k/\kvs.length < sizeLine/\H'=upd H a (.dK (putK kvs k v)))∨
 ∃ kvs k b,H a=some (.dT kvs)/\y=.ref b/\H b=some (.tup (k.map kV))/\kvs.length < sizeLine/\H'=upd H a (.dT (putK kvs k v))
theorem DGet.t {H:Hp}{a b:Addr}{kvs:List (List Key×V)}{k:List Key} (e:H a=some (.dT kvs)) (eb:H b=some (.tup (k.map kV))):DGet H a (.ref b) (valV kvs k):=.inr ⟨kvs,k,b,.inl e,rfl,eb,rfl⟩
theorem DPut.t {H:Hp}{a b:Addr}{kvs:List (List Key×V)}{k:List Key}{v:V} (e:H a=some (.dT kvs)) (eb:H b=some (.tup (k.map kV))) (hl:kvs.length < sizeLine) :
  DPut H a (.ref b) v (upd H a (.dT (putK kvs k v))):=.inr ⟨kvs,k,b,e,rfl,eb,hl,rfl⟩
section
variable {X:Cx}{pins:List (Addr×Obj)}{σ:St}{H:Hp}{s:Shared}{a:Addr}{y v:V}{u r:Value}{o:Option V}{A:Around}{E:Value->Shared->Prop}
theorem Inv.big (I:Inv X pins σ H s):sysModules < s.heap.objs.size:=by
 have h:mainGlobals < s.heap.objs.size:=(I.mod.glob.keeps I.bk).lt
 exact Nat.lt_trans (by decide) h
theorem d_getItem {Q:Value->Shared->Prop} (hu:A.units+1 < cLine) (I:Inv X pins σ H s) (g:DGet H a y (some v)) (ry:RelV y u) (h:∀ w' s',Inv X pins σ H s'->RelV v w'->Q w' s') :
  wpAny (model X.prog X.w) A (getItem (.ref a) u) Q E s:=by
 rcases g with⟨kvs,k,e,ey,l⟩ | ⟨kvs,k,b,e,ey,eb,l⟩
 ·subst ey
  obtain⟨z,hd,vs,rel,dd⟩:=dk_rd I.hok e
  obtain⟨w',hw,rw'⟩:=RelO.some_of (v:=v) (o:=valueAt vs k) (by rw [l];exact rel.val k)
  exact wpAny_getItem_of (kV_is ry) dd.mapOf hw (h w' _ (I.tok _) rw')
 ·subst ey
  cases (show u=Value.ref b from ry)
  obtain⟨z,hd,xs,rel,dd⟩:=dt_rd I.hok e
  obtain⟨w',hw,rw'⟩:=RelO.some_of (v:=v) (o:=(atKey xs k).map (·.2)) (by rw [l];exact rel.val k)
  obtain⟨p,hp,hp2⟩:=Option.map_eq_some_iff.mp hw
  refine wpAny_getItem_heap (tupleKind_room_in1 hu) (key_of I.hok eb) dd hp ?_
  rw [hp2]
  exact h w' _ (I.tok _) rw'
theorem d_write {h':Heap}{t':Nat}{ob:HO} (I:Inv X pins σ H s) (mu:Mut (H a)) (hs:Heap.SameBut a s.heap h') (he:∃ q,h'.get? a=some q) (new:ObjOk X.prog X.w (upd H a ob) h' a ob) :
  Inv X pins σ (upd H a ob) { s with heap:=h',toks:=t' }:=
 I.write (x:=a) (e:=a) mu (.inl rfl) (fun b q hb z=>(hs.2 b hb).trans z) he new
theorem dk_new {P:Program}{w:World}{H':Hp}{h':Heap}{kvs:List (Key×V)}{vs:List (Key×Value)} (z:kvs.length≤sizeLine) (hd:(a==sysModules)=false) (rel:KV kvs vs) (dd:h'.DictOf (mixKind P w) a vs) :
  ObjOk P w H' h' a (.dK kvs):=⟨z,hd,vs,rel,dd⟩
theorem d_setItem {H':Hp}{Q:Unit->Shared->Prop} (hu:A.units+1 < cLine) (I:Inv X pins σ H s) (g:DPut H a y v H') (ry:RelV y u) (rv:RelV v r) (h:∀ s',Inv X pins σ H' s'->Q () s') :
  wpAny (model X.prog X.w) A (setItem (.ref a) u r) Q E s:=by
 rcases g with⟨kvs,k,e,ey,l,eH⟩ | ⟨kvs,k,b,e,ey,eb,l,eH⟩
 ·subst ey eH
  obtain⟨z,hd,vs,rel,dd⟩:=dk_of I.hok e
  have hz:vs.length≤sizeLine:=by rw [←rel.length];exact z
  have hl:(putK kvs k v).length≤sizeLine:=by have:=length_putK kvs k v;omega
  refine wpAny_setItem_pairs (hsz:=hz) (kV_is ry) dd fun h' dd' hs=>h _ ?_
  have he:∃ q,h'.get? a=some q:=let ⟨q,_,_,hq,_⟩:=dd';⟨q,hq⟩
  exact d_write I (by rw [e];exact True.intro) hs he (dk_new hl hd (rel.put k rv) dd')
 ·subst ey eH
  cases (show u=Value.ref b from ry)
  obtain⟨z,hd,xs,rel,dd⟩:=dt_of I.hok e
  have hz:xs.length≤sizeLine:=by rw [←Paired.length rel];exact z
  have hl:(putK kvs k v).length≤sizeLine:=by have:=length_putK kvs k v;omega
  refine wpAny_setItem_heap (hsz:=hz) (tupleKind_room_in1 hu) (key_of I.hok eb) dd fun h' dd' hs=>h _ ?_
  obtain⟨q,es,ep,hq,h2,h3,h4,_,h5⟩:=dd'
  refine d_write I (by rw [e];exact True.intro) hs ⟨q,hq⟩ ⟨hl,hd,_,(rel.put k eb rv).keeps fun c ys ec=>?_,q,es,ep,hq,h2,h3,h4,h5⟩
  rw [upd_ne (ne_of ec e (fun z=>nomatch z))]
  exact ec
end
section
variable {X:Cx}{pins:List (Addr×Obj)}{σ:St}{H:Hp}{s:Shared}{a:Addr}{kvs:List (Key×V)}{k:Key}{u:Value}{A:Around}{E:Value->Shared->Prop}
end
noncomputable def NoSl (i:Expr):Prop:=∀ ov iv,subscripted i false ov iv=operate [ov,iv] (getItem ov iv)
theorem subD_of {prog:Program}{w:World}{A:Around}{E:Value->Shared->Prop}{s:Shared}{env:Env}{value slice:Expr}{pos:Pos}{T id:String}{Q:Value->Shared->Prop}
  (hl:typeLookup (.type T) "__getitem__" = pure (some (.builtin id))) (hs:NoSl slice)
  (h:wpAny (model prog w) A (eval value env) (fun o s₁=>wpAny (model prog w) A (eval slice env) (fun i s₂=>s₂.TypeIs o T/\wpAny (model prog w) A (getItem o i) Q E s₂) E s₁) E s) :
  wpAny (model prog w) A (eval (.Subscript value slice pos) env) Q E s:=by
 refine Subscript_ (wpAny_mono h (fun o s₁ h₁=>wpAny_mono h₁ (fun i s₂ h₂=>?_) fun _ _ x=>x) fun _ _ x=>x)
 obtain⟨hT,h₂⟩:=h₂
 unfold subscriptTail
 refine wpAny_bind ?_
 rw [getitemInPython_of_ne hT.not_modules]
 refine wpAny_bind (wpAny_specialOf hT hl ?_)
 have fin:wpAny (model prog w) A (subscripted slice false o i) (fun r s₃=>wpAny (model prog w) A (letTemporaryGo value o r >>= fun _=>pure r) Q E s₃) E s₂:=by
  rw [hs o i]
  exact wpAny_operating (wpAny_mono h₂ (fun r s₃ h₃=>wpAny_bind (wpAny_letTemporaryGo (wpAny_pure h₃))) fun _ _ x=>x)
 first
  | exact wpAny_pure (wpAny_bind fin)
  | exact wpAny_bind (wpAny_pure (wpAny_bind fin))
  | exact wpAny_bind fin
theorem dict_typeIs {X:Cx}{pins:List (Addr×Obj)}{σ:St}{H:Hp}{s:Shared}{a:Addr}{y:V}{o:Option V} (I:Inv X pins σ H s) (g:DGet H a y o):s.TypeIs (.ref a) "dict":=by
 rcases g with⟨kvs,k,e,_,_⟩ | ⟨kvs,k,b,e,_,_,_⟩
 ·obtain⟨_,_,vs,_,dd⟩:=dk_rd I.hok e
  exact dd.typeIs
 ·obtain⟨_,_,xs,_,dd⟩:=dt_rd I.hok e
  exact dd.typeIs
noncomputable def tDGet (td ty:TE):TE:=fun σ H Q=>td σ H fun x H1=>ty σ H1 fun y H2=>∃ a v,x=.ref a/\DGet H2 a y (some v)/\Q v H2
noncomputable def sDPut (td ty tv:TE):TS:=fun D σ H=>tv σ H fun v H1=>td σ H1 fun x H2=>ty σ H2 fun y H3=>∃ a H4,x=.ref a/\DPut H3 a y v H4/\D.nx σ H4
section
variable {X:Cx}{o i e value:Expr}{pos pos' tpos:Pos}{td ty tv:TE}
theorem pe_dget (hu:X.A.units+1 < cLine) (ho:PE X o td) (hi:PE X i ty) (hs:NoSl i):PE X (.Subscript o i pos) (tDGet td ty):=by
 intro pins s σ H Q I h
 refine subD_of PySem.F.slot_dict_getitem.lookup hs (thn (ho pins s σ H _ I h) fun u s1 ⟨x,H1,I1,rx,q1⟩=>thn (hi pins s1 σ H1 _ I1 q1) fun iv s2 ⟨y,H2,I2,ry,a,v,ex,g,q2⟩=>?_)
 subst ex
 obtain rfl:u=Value.ref a:=rx
 exact⟨dict_typeIs I2 g,d_getItem hu I2 g ry fun w' s3 I3 rw'=>⟨v,H2,I3,rw',q2⟩⟩
theorem ps_dput (hu:X.A.units+1 < cLine) (ho:PE X o td) (hi:PE X i ty) (hv:PE X value tv) (hs:swapsWith value (some (.Subscript o i pos')) pos.line X.env=pure false) :
  PS X (.Assign [.Subscript o i pos'] value pos) (sDPut td ty tv):=by
 intro pins s σ H D I h
 refine wpAny_Assign_Subscript (thn (hv pins s σ H _ I h) fun r s1 ⟨v,H1,I1,rv,q1⟩=>thn (ho pins s1 σ H1 _ I1 q1) fun u s2 ⟨x,H2,I2,rx,q2⟩=>thn (hi pins s2 σ H2 _ I2 q2) fun iv s3 ⟨y,H3,I3,ry,a,H4,ex,g,q3⟩=>?_) hs
 subst ex
 obtain rfl:u=Value.ref a:=rx
 exact d_setItem hu I3 g ry rv fun s4 I4=>⟨σ,H4,I4,q3⟩
end
theorem dt_empty {P:Program}{w:World}{H:Hp} (h:Heap) (hb:sysModules < h.objs.size):ObjOk P w H (h.push { cls:=.type "dict",data:=.dict #[] }) h.objs.size (.dT []):=
 ⟨Nat.zero_le _,beq_eq_false_iff_ne.mpr (Ne.symm (Nat.ne_of_lt hb)),[],.nil,_,#[],0,Heap.get?_push_size _ rfl,⟨rfl,rfl,rfl⟩,rfl,rfl,List.nodup_nil⟩
noncomputable def tDNewT:TE:=fun _ H Q=>∀ p,H p=none->Q (.ref p) (upd H p (.dT []))
section
variable {X:Cx}{pos:Pos}
theorem pe_dnewT:PE X (.Dict [] [] pos) tDNewT:=fun pins s σ H Q I h=>
 wpAny_Dict_empty ⟨.ref s.heap.objs.size,_,I.laid (a:=s.heap.objs.size) (o:=.dT []) (t':=s.toks) (fun _ _ q=>Heap.get?_push_of_some _ q) (Nat.le_refl _) (dt_empty s.heap I.big),rfl,h _ (I.hok.fresh (Nat.le_refl _))⟩
end
structure M2 (X:Cx) (o:Expr) (m:Str) (apos:Pos) (e f:Expr) (cpos:Pos):Prop where
 base:attributeBase o m X.env (eval o X.env)=eval o X.env
 few:((backTo cpos (starEach [e,f] X.env)).all (fun x=>!x.1) && (backToKw cpos (keywordEach [] X.env)).all (fun x=>x.1.isSome)
  && decide (([e,f]:List Expr).length+([]:List Keyword).length+(if ([]:List Keyword).isEmpty then 0 else 1) < 30))=true
 line:(apos.endLine==cpos.line)=true
 trees:backTo cpos (starEach [e,f] X.env)=[(false,eval e X.env),(false,eval f X.env)]
noncomputable def IsD (H:Hp) (a:Addr):Prop:=(∃ kvs,Rd H a (.dK kvs))∨∃ kvs,Rd H a (.dT kvs)
theorem isD_at {X:Cx}{pins:List (Addr×Obj)}{σ:St}{H:Hp}{s:Shared}{a:Addr} (I:Inv X pins σ H s) (d:IsD H a) :
  s.TypeIs (.ref a) "dict"/\(∀ b,Value.ref a=.ref b->∃ ob,s.heap.get? b=some ob/\ob.dict=none)/\(a==sysModules)=false:=by
 rcases d with⟨kvs,e⟩ | ⟨kvs,e⟩
 ·obtain⟨_,hd,vs,_,dd⟩:=dk_rd I.hok e
  refine⟨dd.typeIs,fun b q=>?_,hd⟩
  cases q
  obtain⟨ob,_,_,h1,h2,_⟩:=dd
  exact⟨ob,h1,h2.2.1⟩
 ·obtain⟨_,hd,xs,_,dd⟩:=dt_rd I.hok e
  refine⟨dd.typeIs,fun b q=>?_,hd⟩
  cases q
  obtain⟨ob,_,_,h1,h2,_⟩:=dd
  exact⟨ob,h1,h2.2.1⟩
section
variable {X:Cx}{pins:List (Addr×Obj)}{σ:St}{H:Hp}{s:Shared}{a:Addr}{y d:V}{u r:Value}{o:Option V}{A:Around}{E:Value->Shared->Prop}
theorem d_get2 {Q:Value->Shared->Prop} (hu:A.units+1 < cLine) (I:Inv X pins σ H s) (g:DGet H a y o) (ry:RelV y u) (rd:RelV d r) (h:∀ w' s',Inv X pins σ H s'->RelV (o.getD d) w'->Q w' s') :
  wpAny (model X.prog X.w) A (call (.builtin "dict.get") [.ref a,u,r]) Q E s:=by
 rcases g with⟨kvs,k,e,ey,l⟩ | ⟨kvs,k,b,e,ey,eb,l⟩
 ·subst ey
  obtain⟨z,hd,vs,rel,dd⟩:=dk_rd I.hok e
  refine call_meetsIn PySem.F.slot_dict_get dd.typeIs PySem.F.entry_dict_get (PySem.F.args_dict_get_3 _ _ _) (meets_dict_get_default (mixKind X.prog X.w) a (kV_is ry) hd r) ⟨_,dd.mapOf,h _ _ (I.tok _) ?_⟩
  rw [l]
  exact (rel.val k).getD rd
 ·subst ey
  cases (show u=Value.ref b from ry)
  obtain⟨z,hd,xs,rel,dd⟩:=dt_rd I.hok e
  refine call_meetsIn PySem.F.slot_dict_get dd.typeIs PySem.F.entry_dict_get (PySem.F.args_dict_get_3 _ _ _) (meetsH_dict_get_default (tupleKind (mixKind X.prog X.w)) a b hd r) ⟨tupleKind_room_in1 hu,k,xs,key_of I.hok eb,dd,h _ _ (I.tok _) ?_⟩
  rw [l]
  exact (rel.val k).getD rd
end
noncomputable def tDGet2 (td ty tx:TE):TE:=fun σ H Q=>td σ H fun x H1=>∃ a,x=.ref a/\IsD H1 a/\ty σ H1 fun y H2=>tx σ H2 fun z H3=>∃ o,DGet H3 a y o/\Q (o.getD z) H3
section
variable {X:Cx}{o e f:Expr}{apos cpos:Pos}{td ty tx:TE}
theorem pe_dget2 (hu:X.A.units+1 < cLine) (ho:PE X o td) (he:PE X e ty) (hf:PE X f tx) (m:M2 X o "get" apos e f cpos):PE X (.Call (.Attribute o "get" apos) [e,f] [] cpos) (tDGet2 td ty tx):=by
 intro pins s σ H Q I h
 refine wpAny_Call_method m.base m.few m.line PySem.F.plainAttrs_dict PySem.F.slot_dict_get PySem.F.type_dict_get (thn (ho pins s σ H _ I h) fun u s1 ⟨x,H1,I1,rx,a,ex,d,q1⟩=>?_)
 subst ex
 obtain rfl:u=Value.ref a:=rx
 obtain⟨t1,t2,_⟩:=isD_at I1 d
 refine⟨t1,t2,?_⟩
 rw [m.trees]
 refine Calls.callWith_builtin rfl (Calls.evalArgs_plain (Calls.spliced_cons (thn (he pins s1 σ H1 _ I1 q1) fun iv s2 ⟨y,H2,I2,ry,q2⟩=>
  Calls.spliced_cons (thn (hf pins s2 σ H2 _ I2 q2) fun fv s3 ⟨z,H3,I3,rz,ov,g,q3⟩=>Calls.spliced_nil ?_))))
 exact d_get2 hu I3 g ry rz fun w' s4 I4 rw'=>⟨_,H3,I4,rw',q3⟩
end
section
variable {X:Cx}{pins:List (Addr×Obj)}{σ:St}{H:Hp}{s:Shared}{a:Addr}{kvs:List (Key×V)}{A:Around}{E:Value->Shared->Prop}
end
section
variable {X:Cx}{pins:List (Addr×Obj)}{σ:St}{H:Hp}{s:Shared}{a:Addr}{y:V}{u:Value}{A:Around}{E:Value->Shared->Prop}
end
end L2
namespace L2
open PySem PySem.Spec PyProof.Rows
section
variable {prog:Program}{w:World}{A:Around}{E:Value->Shared->Prop}{s:Shared}{κ:Type} [DecidableEq κ] {knd:KeyKind prog w κ}{a:Addr}{kvs:List (κ×Value)}
end
section
variable {X:Cx}{pins:List (Addr×Obj)}{σ:St}{H:Hp}{s:Shared}{a:Addr}{kvs:List (Key×V)}{k:Key}{u r:Value}{A:Around}{E:Value->Shared->Prop}{z:V}
end
section
variable {K:PySem.W.Frag}{X:Cx}{pos:Pos}{e a b o f:Expr}{fe fa fb fo ff:Ef}
end
section
variable {K:PySem.W.Frag}{X:Cx}
end
end L2
namespace L2
open PySem PySem.Spec PyProof.Rows
noncomputable def DRaw (h:Heap) (d:Addr) (es:Array DictEntry) (ep:Nat):Prop:=∃ o,h.get? d=some o/\o.ExactDict/\o.data=.dict es ep
theorem DRaw.at' {h h':Heap}{d:Addr}{es:Array DictEntry}{ep:Nat} (x:DRaw h d es ep) (e:∀ o,h.get? d=some o->h'.get? d=some o):DRaw h' d es ep:=let ⟨o,ho,r⟩:=x;⟨o,e o ho,r⟩
theorem DRaw.type {s:Shared}{d:Addr}{es:Array DictEntry}{ep:Nat} (x:DRaw s.heap d es ep):s.TypeIs (.ref d) "dict":=let ⟨o,ho,hc,_⟩:=x;⟨o,ho,hc.1⟩
theorem DRaw.lt {h:Heap}{d:Addr}{es:Array DictEntry}{ep:Nat} (x:DRaw h d es ep):d < h.objs.size:=let ⟨o,ho,_⟩:=x;Heap.lt_size ho
section
variable {prog:Program}{w:World}{A:Around}{E:Value->Shared->Prop}{s:Shared}{d it:Addr}{es:Array DictEntry}{i ep:Nat}
theorem raw_iter {Q:Value->Shared->Prop} (hd:(d==sysModules)=false) (hm:DRaw s.heap d es ep)
  (hQ:Q (.ref s.heap.objs.size) { s with heap:=s.heap.push { cls:=.type "dict_keyiterator",data:=.fields #[.ref d,.int 0 0,.int es.size 0,.int ep 0] } }) :
  wpAny (model prog w) A (pyIter (.ref d)) Q E s:=by
 have hT:=hm.type
 obtain⟨o,ho,hc,hdat⟩:=id hm
 refine wpAny_pyIter_slot hT PySem.F.slot_dict_iter (wpAny_call_entry PySem.F.slot_dict_iter hT PySem.F.entry_dict_iter ?_ (PySem.F.args_dict_iter_1 _))
 unfold Builtin.«dict.__iter__»
 refine wpAny_bind ?_
 unfold Builtin.Dict.dictSlotNone
 refine wpAny_bind (wpAny_notOrdered_dict hT ?_)
 show wpAny _ _ (pure (Value.ref d)) _ _ s
 refine wpAny_pure ?_
 show wpAny _ _ (Builtin.Dict.showsAll d >>= _) _ _ s
 unfold Builtin.Dict.showsAll
 rw [if_neg (by rw [hd];exact Bool.false_ne_true)]
 refine wpAny_bind (wpAny_pure ?_)
 refine wpAny_bind (wpAny_dictEntries ho hdat ?_)
 refine wpAny_bind (wpAny_dictEpoch ho hdat ?_)
 refine wpAny_bind (wpAny_newObj_type (wpAny_pure ⟨_,rfl,"dict_keyiterator",_,⟨_,Heap.get?_push_size _ rfl,rfl⟩,PySem.F.slot_dict_keyiterator_next.lookup,?_⟩))
 simpa [rawInt] using hQ
theorem raw_next {Q:Option Value->Shared->Prop} (hit:s.heap.IsKeyIter it d i es.size ep) (hm:DRaw s.heap d es ep) (hlt':i < es.size)
  (hQ:∀ h',h'.IsKeyIter it d (i+1) es.size ep->Heap.SameBut it s.heap h'->Q (some es[i].key) { s with heap:=h' }) :
  wpAny (model prog w) A (pyNext (.ref it)) Q E s:=by
 obtain⟨o,ho,hc,hd⟩:=id hit
 obtain⟨od,hod,hcd,hdd⟩:=id hm
 unfold pyNext
 refine wpAny_bind (wpAny_attempt (wpAny_callSpecial?_slot (name:=Str.ofString "__next__") hit.typeIs PySem.F.slot_dict_keyiterator_next
  (wpAny_call_entry PySem.F.slot_dict_keyiterator_next hit.typeIs PySem.F.entry_dict_keyiterator_next ?_ (PySem.F.args_dict_keyiterator_next_1 _))))
 refine wpAny_bind (wpAny_pure ?_)
 refine wpAny_bind ?_
 refine wpAny_bind ?_
 first | refine wpAny_bind (wpAny_typeNameOfWhole_keyiter hit.typeIs (wpAny_pure ?_)) | refine wpAny_bind (wpAny_typeNameOf_keyiter hit.typeIs (wpAny_pure ?_))
 refine wpAny_bind (wpAny_fieldsOf ho hd ?_)
 have hown:Builtin.Dict_items.ownsTuple "dict_keyiterator" = false:=by decide
 simp only [hown,Bool.false_eq_true,if_false]
 show wpAny _ _ (if (Value.ref d==Value.none)=true then _ else _) _ _ s
 rw [if_neg (show ¬ ((Value.ref d==Value.none)=true) from Bool.false_ne_true)]
 refine wpAny_bind (wpAny_pure ?_)
 refine wpAny_bind (wpAny_dictEntries hod hdd ?_)
 rw [if_neg (by simp)]
 refine wpAny_bind (wpAny_pure ?_)
 refine wpAny_bind (wpAny_dictEpoch hod hdd ?_)
 rw [if_neg (by simp)]
 refine wpAny_pure ?_
 simp only [show ¬ ((i:Int) < 0) from by omega,if_false,Int.toNat_natCast,Array.getElem?_eq_getElem hlt']
 refine wpAny_bind ?_
 first | refine wpAny_bind (wpAny_typeNameOfWhole_keyiter hit.typeIs (wpAny_pure ?_)) | refine wpAny_bind (wpAny_typeNameOf_keyiter hit.typeIs (wpAny_pure ?_))
 refine wpAny_bind (wpAny_isOneOf_keyiter hit.typeIs ?_)
 show wpAny _ _ (setField (.ref it) 1 (rawInt ((i:Int)+1)) >>= _) _ _ s
 refine wpAny_bind (wpAny_setField ho hd (by simp) ?_)
 have hit':(s.heap.update it (Obj.mapFields (·.setIfInBounds 1 (rawInt ((i:Int)+1))))).IsKeyIter it d (i+1) es.size ep:=
  ⟨_,Heap.get?_update_self _ ho (Obj.isFreed_of_fields (Obj.data_mapFields hd _)),(Obj.cls_mapFields ..).trans hc,by rw [Obj.data_mapFields hd];simp [rawInt]⟩
 refine wpAny_bind (wpAny_holding ?_)
 refine wpAny_bind (wpAny_isOneOf_keyiter (s:={ s with heap:=s.heap.update it (Obj.mapFields (·.setIfInBounds 1 (rawInt ((i:Int)+1)))) }) hit'.typeIs ?_)
 show wpAny _ _ (pure es[i].key) _ _ _
 exact wpAny_pure (wpAny_pure ⟨_,rfl,wpAny_pure (hQ _ hit' (Heap.SameBut.update ..))⟩)
theorem raw_end {Q:Option Value->Shared->Prop} (hh:A.handled=none) (hit:s.heap.IsKeyIter it d es.size es.size ep) (hm:DRaw s.heap d es ep)
  (hQ:∀ h',Heap.ExtBut it s.heap h'->Q none { s with heap:=h' }):wpAny (model prog w) A (pyNext (.ref it)) Q E s:=by
 obtain⟨o,ho,hc,hd⟩:=id hit
 obtain⟨od,hod,hcd,hdd⟩:=id hm
 unfold pyNext
 refine wpAny_bind (wpAny_attempt (wpAny_callSpecial?_slot (name:=Str.ofString "__next__") hit.typeIs PySem.F.slot_dict_keyiterator_next
  (wpAny_call_entry PySem.F.slot_dict_keyiterator_next hit.typeIs PySem.F.entry_dict_keyiterator_next ?_ (PySem.F.args_dict_keyiterator_next_1 _))))
 refine wpAny_bind (wpAny_pure ?_)
 refine wpAny_bind ?_
 refine wpAny_bind ?_
 first | refine wpAny_bind (wpAny_typeNameOfWhole_keyiter hit.typeIs (wpAny_pure ?_)) | refine wpAny_bind (wpAny_typeNameOf_keyiter hit.typeIs (wpAny_pure ?_))
 refine wpAny_bind (wpAny_fieldsOf ho hd ?_)
 have hown:Builtin.Dict_items.ownsTuple "dict_keyiterator" = false:=by decide
 simp only [hown,Bool.false_eq_true,if_false]
 show wpAny _ _ (if (Value.ref d==Value.none)=true then _ else _) _ _ s
 rw [if_neg (show ¬ ((Value.ref d==Value.none)=true) from Bool.false_ne_true)]
 refine wpAny_bind (wpAny_pure ?_)
 refine wpAny_bind (wpAny_dictEntries hod hdd ?_)
 rw [if_neg (by simp)]
 refine wpAny_bind (wpAny_pure ?_)
 refine wpAny_bind (wpAny_dictEpoch hod hdd ?_)
 rw [if_neg (by simp)]
 refine wpAny_pure ?_
 have hge:es.size≤es.size:=Nat.le_refl _
 simp only [show ¬ ((es.size:Int) < 0) from by omega,if_false,Int.toNat_natCast,Array.getElem?_eq_none hge]
 refine wpAny_bind ?_
 first | refine wpAny_bind (wpAny_typeNameOfWhole_keyiter hit.typeIs (wpAny_pure ?_)) | refine wpAny_bind (wpAny_typeNameOf_keyiter hit.typeIs (wpAny_pure ?_))
 show wpAny _ _ (setField (.ref it) 0 .none >>= _) _ _ s
 refine wpAny_bind (wpAny_setField ho hd (by simp) ?_)
 show wpAny _ _ (newExc (.type "StopIteration") [] >>= _) _ _ _
 refine wpAny_bind ?_
 simp only [newExc,newTuple]
 refine wpAny_bind (wpAny_newObj_type ?_ (by size_fits))
 refine wpAny_bind (m:=firstArgMember _ _) (wpAny_of_eq (a:=Value.none) (by first | rfl | (simp only [firstArgMember];rfl)) ?_)
 refine wpAny_newObj_type ?_ (by size_fits)
 simp only [raiseNew]
 refine wpAny_bind (wpAny_handled ?_)
 rw [show A.in1.handled=none from hh]
 refine wpAny_bind (wpAny_pure (wpAny_throw ?_))
 refine wpAny_bind (wpAny_isInstance (T:="StopIteration") (b:=true) ⟨_,Heap.get?_push_size _ rfl,rfl⟩ isSubtype_stop ?_)
 exact wpAny_pure (hQ _ (((Heap.SameBut.update ..).extBut.push _).push _))
theorem walks_raw (hh:A.handled=none) (I d:Addr) (hne:d≠I) (es:Array DictEntry) (ep:Nat) :
  Walks prog w A I [I,d] [I] es.size (fun i v=>∃ e,es[i]?=some e/\v=e.key) (fun i h=>h.IsKeyIter I d i es.size ep/\DRaw h d es ep) where
 sub:=fun b hb=>by simp at hb;simp [hb]
 frame:=fun _ _ _ st hk=>⟨st.1.at fun o e=>hk I (by simp) o e,st.2.at' fun o e=>hk d (by simp) o e⟩
 item:=fun i s Q E hi st hQ=>by
  refine raw_next st.1 st.2 hi fun h' hit' hs'=>?_
  exact hQ _ h' s.toks ⟨es[i],by simp [hi],rfl⟩ ⟨hit',st.2.at' fun o q=>hs'.extBut d o hne q⟩ fun b o hb q=>hs'.extBut b o (fun h=>hb (by simp [h])) q
 done:=fun s Q E st hQ=>raw_end hh st.1 st.2 fun h' he'=>hQ h' s.toks fun b o hb e=>he' b o (fun h=>hb (by simp [h])) e
 self:=fun _ _ _ _ st hQ=>wpAny_pyIter_keyiter st.1 hQ
theorem src_raw (prog:Program) (w:World) (d:Addr) (es:Array DictEntry) (ep:Nat) (lo:(d==sysModules)=false):PySem.W.KdlSrc prog w "dict" d d es.size (fun i v=>∃ e,es[i]?=some e/\v=e.key) (fun h=>DRaw h d es ep) where
 type:=fun s S=>S.type
 there:=fun h S=>⟨S.lt,S.lt⟩
 keep:=fun h h' S hk=>S.at' fun o e=>hk d (.inl rfl) o e
 notList:=by decide
 notTuple:=by decide
 hint:=fun A E s Q S h=>PySem.W.kdl_hint_dict S.type h
 iter:=fun A s hh S=>⟨_,_,fun E Q h=>raw_iter lo S h,walks_raw hh s.heap.objs.size d (Nat.ne_of_lt S.lt) es ep,
  ⟨⟨_,Heap.get?_push_size _ rfl,rfl,rfl⟩,S.at' fun o e=>Heap.get?_push_of_some _ e⟩⟩
end
end L2
namespace L2
open PySem PySem.Spec PyProof.Rows
section
variable {prog:Program}{w:World}{A:Around}{E:Value->Shared->Prop}{s:Shared}{d:Addr}{es:Array DictEntry}{ep:Nat}
theorem collect_raw {Q:List Value->Shared->Prop} (lo:(d==sysModules)=false) (S:DRaw s.heap d es ep) (hh:A.handled=none) (hn:es.size≤sizeLine)
  (h:∀ h' tk,(∀ b o,s.heap.get? b=some o->h'.get? b=some o)->s.heap.objs.size < h'.objs.size->Q (es.toList.map (·.key)) { s with heap:=h',toks:=tk }) :
  wpAny (model prog w) A (collect (.ref d)) Q E s:=by
 have hlt:d < s.heap.objs.size:=S.lt
 unfold collect
 refine wpAny_bind (wpAny_runValue (codeAny_builtin entry_proto_collect' ?_))
 show wpAny _ _ (do again (.builtin "list.__iadd__" ⟨[←newList [],.ref d],[]⟩)) _ _ s
 refine wpAny_bind (wpAny_newList (wpAny_pure ⟨Code.quiet_builtin _ (by decide +kernel),codeAny_builtin entry_list_iadd' ?_⟩))
 show wpAny _ _ (Builtin.List.listExtendWith (.ref s.heap.objs.size) (.ref d) (.ref s.heap.objs.size)) _ _ { s with heap:=s.heap.push (seqObj "list" #[] 0) }
 refine PySem.W.kdl_extend (A:=A) (R:=fun r s'=>match r with
   | .ok (.ret v)=>wpAny (model prog w) A (match v with
     | .ref a=>do
      let o ←load a
      match o.data with
      | .seq xs _=>pure xs.toList
      | _=>unsupported "internal:collect"
     | _=>unsupported "internal:collect") Q E s'
   | .ok _=>False
   | .error e=>E e s') (s:={ s with heap:=s.heap.push (seqObj "list" #[] 0) }) (src_raw prog w d es ep lo) hh (S.at' fun o e=>Heap.get?_push_of_some _ e) s.heap.objs.size (Nat.ne_of_gt hlt) (Nat.ne_of_gt hlt) (.ref s.heap.objs.size) 0 (Heap.get?_push_size _ rfl) (fun h' tk acc c hk hS hI=>?_) hn
 show wpAny (model prog w) A (do
   let o ←load s.heap.objs.size
   match o.data with
   | .seq xs _=>pure xs.toList
   | _=>unsupported "internal:collect") Q E { s with heap:=h',toks:=tk }
 refine wpAny_bind (wpAny_load hS ?_)
 show wpAny _ _ (pure acc.toList) Q E _
 have e:acc.toList=es.toList.map (·.key):=by
  apply List.ext_getElem?
  intro i
  rw [List.getElem?_map,Array.getElem?_toList,Array.getElem?_toList]
  by_cases hi:i < acc.size
  ·obtain⟨e,he,hv⟩:=hI.2 i acc[i] (Array.getElem?_eq_getElem hi)
   rw [he,Array.getElem?_eq_getElem hi,hv];rfl
  ·rw [Array.getElem?_eq_none (by omega),Array.getElem?_eq_none (by rw [←hI.1];omega)];rfl
 rw [e]
 refine wpAny_pure (h h' tk (fun b o q=>?_) (Heap.lt_size hS))
 exact hk b o (Nat.ne_of_lt (Heap.lt_size q)) (Heap.get?_push_of_some _ q)
theorem sorted_raw {Q:Value->Shared->Prop}{vs:List Value} (lo:(d==sysModules)=false) (S:DRaw s.heap d es ep) (hh:A.in1.handled=none) (hvs:es.toList.map (·.key)=vs) (h64:vs.length≤64) (hu:A.in1.in1.units < cLine)
  (t:∀ v ∈ vs,∃ l,TuI s.heap v l)
  (h:∀ (h':Heap) (tk:Nat) (p:Addr) (ep:Nat) (out:List Value),(∀ b o,s.heap.get? b=some o->h'.get? b=some o)->s.heap.objs.size≤p->h'.get? p=some (seqObj "list" out.toArray ep)->out.Perm vs->out.Pairwise (fun x y=>OI.kle (tuI s.heap x) (tuI s.heap y))->Q (.ref p) { s with heap:=h',toks:=tk }) :
  wpAny (model prog w) A (call (.builtin "sorted") [.ref d]) Q E s:=by
 refine Calls.call_function_entry kind_sorted plain_sorted entry_sorted (args_sorted1 _) ?_
 unfold Builtin.«sorted»
 refine wpAny_bind (m:=checkCount "sorted" 1 1 _) (wpAny_pure ?_)
 have hsz:es.size≤sizeLine:=by
  have:=congrArg List.length hvs
  rw [List.length_map,Array.length_toList] at this
  rw [sizeLine_eq];omega
 refine wpAny_bind (collect_raw lo S hh hsz fun h1 tk hk hlt=>?_)
 rw [hvs]
 refine wpAny_bind (wpAny_newList ?_ (by rw [sizeLine_eq];omega))
 have hoL:(h1.push (seqObj "list" vs.toArray 0)).get? h1.objs.size=some (seqObj "list" vs.toArray 0):=Heap.get?_push_size _ rfl
 show wpAny _ _ _ _ _ { s with heap:=h1.push (seqObj "list" vs.toArray 0),toks:=tk }
 refine wpAny_bind (wpAny_holding (wpAny_call_entry slot_list_sort ⟨_,hoL,rfl⟩ entry_list_sort (lsort_any (O:=OI) (rk:=fun p=>tuI s.heap p.1) (S:=fun p=>∃ l,TuI s.heap p.1 l) (s:={ s with heap:=h1.push (seqObj "list" vs.toArray 0),toks:=tk }) hoL h64 (fun h' hk'=>?_) (fun v hv=>t v hv) fun out a1 a2=>⟨_,rfl,?_⟩) (args_list_sort _)))
 ·have hk2:∀ b o,s.heap.get? b=some o->h'.get? b=some o:=fun b o q=>hk' b o (Nat.ne_of_lt (Heap.lt_size (hk b o q))) (Heap.get?_push_of_some _ (hk b o q))
  obtain⟨κ,k1,k2⟩:=kind_tup (prog:=prog) (w:=w) (s:={ s with heap:=h',toks:=tk }) (vs:=vs) (fun v hv=>let ⟨l,tl⟩:=t v hv;⟨l,tl.fit hk2⟩) hu
  refine⟨κ,k1,fun x y ⟨l,hx⟩ ⟨m,hy⟩ Q E hq=>k2 x y ⟨l,hx.fit hk2⟩ ⟨m,hy.fit hk2⟩ Q E ?_⟩
  have hx':=hx.fit hk2
  have hy':=hy.fit hk2
  have hq':Q (lexI (tuI s.heap x.1) (tuI s.heap y.1)) { s with heap:=h',toks:=tk }:=hq
  show Q (lexI (tuI h' x.1) (tuI h' y.1)) { s with heap:=h',toks:=tk }
  rw [hx'.is,hy'.is]
  rw [hx.is,hy.is] at hq'
  exact hq'
 ·refine wpAny_pure ⟨_,rfl,?_⟩
  obtain⟨ep',he⟩:=sortedHeap_at (out:=out.toArray) hoL
  refine h _ tk h1.objs.size ep' out (fun b o q=>?_) (Nat.le_of_lt hlt) he a1 (a2.imp fun {x y} q=>q)
  have q1:=hk b o q
  have hb:b < h1.objs.size:=Heap.lt_size q1
  show (sortedHeap (h1.push (seqObj "list" vs.toArray 0)) h1.objs.size vs out.toArray).get? b=some o
  rw [sortedHeap_old (Nat.ne_of_lt hb) (by rw [size_push'];exact Nat.lt_succ_of_lt hb),Heap.get?_push_ne _ _ _ (Nat.ne_of_lt hb)]
  exact q1
end
noncomputable def mgt (st:Sto) (n:Nat):Option (List (List Int×D)):=match st[n]? with
 | some (.m kvs)=>some kvs
 | _=>none
noncomputable def vM (kvs:List (List Int×D)) (k:List Int):Option D:=(kvs.find? fun p=>decide (p.1=k)).map (·.2)
noncomputable def putM (kvs:List (List Int×D)) (k:List Int) (d:D):List (List Int×D):=if (kvs.any fun p=>decide (p.1=k))=true then kvs.map fun p=>if p.1=k then (p.1,d) else p else kvs++[(k,d)]
noncomputable def iNewM:Ef
 | _,st=>some (.h st.length,st++[.m []])
noncomputable def iGetM (o k v:Ef):Ef
 | env,st=>(o env st).bind fun x=>(k env x.2).bind fun y=>(v env y.2).bind fun z=>match x.1,y.1,z.1 with
 | .h n,.d (.tup ds),.d d=>(mgt x.2 n).bind fun _=>(mgt z.2 n).bind fun kvs=>(intsOf ds).map fun l=>(.d ((vM kvs l).getD d),z.2)
 | _,_,_=>none
noncomputable def iMix (o k:Ef):Ef
 | env,st=>(o env st).bind fun x=>(k env x.2).bind fun y=>match x.1,y.1 with
 | .h n,.d (.tup ds)=>(mgt y.2 n).bind fun kvs=>(intsOf ds).bind fun l=>(vM kvs l).map fun d=>(.d d,y.2)
 | _,_=>none
noncomputable def iPutM (o k v:Ef):Sf
 | env,st=>(v env st).bind fun z=>(o env z.2).bind fun x=>(k env x.2).bind fun y=>match x.1,y.1,z.1 with
 | .h n,.d (.tup ds),.d d=>(mgt y.2 n).bind fun kvs=>(intsOf ds).bind fun l=>if kvs.length < 1000 then some (.nx env (y.2.set n (.m (putM kvs l d)))) else none
 | _,_,_=>none
noncomputable def iSortM (a:Ef):Lf
 | env,st=>(a env st).bind fun x=>match x.1 with
 | .h n=>(mgt x.2 n).bind fun kvs=>if kvs.length≤64 then some ((isortL (kvs.map (·.1))).map tupOf,x.2) else none
 | _=>none
section
variable {K:PySem.W.Frag}{X:Cx}{pos:Pos}{e a b o f:Expr}{fe fa fb fo ff:Ef}
theorem mgt_some {st:Sto}{n:Nat}{kvs:List (List Int×D)} (h:mgt st n=some kvs):st[n]?=some (.m kvs):=by
 unfold mgt at h
 split at h
 ·rename_i q;cases h;exact q
 ·cases h
theorem Sr.atm {H:Hp}{φ:List Addr}{st:Sto} (S:Sr K H φ st) {n:Nat}{p:Addr}{kvs:List (List Int×D)} (e1:φ[n]?=some p) (e2:mgt st n=some kvs):∃ vs,H p=some (.dT vs)/\Rkv K H φ kvs vs:=S.at_ n p _ e1 (mgt_some e2)
theorem Rkv.length {H:Hp}{φ:List Addr}:∀ {ds:List (List Int×D)}{vs:List (List Key×V)},Rkv K H φ ds vs->ds.length=vs.length
 | [],_,h=>by cases h;rfl
 | (k,d)::ds,_,h=>by
  obtain⟨v,r,rfl,h1,h2⟩:=h
  rw [List.length_cons,List.length_cons,Rkv.length h2]
theorem keyT_inj:∀ {a b:List Int},keyT a=keyT b->a=b
 | [],[],_=>rfl
 | [],_::_,h=>by cases h
 | _::_,[],h=>by cases h
 | x::a,y::b,h=>by
  have h':(Sum.inl x:Key)::keyT a=Sum.inl y::keyT b:=h
  injection h' with h1 h2
  injection h1 with h1
  rw [h1,keyT_inj h2]
theorem keyT_kV (l:List Int):(keyT l).map kV=l.map V.int:=by
 unfold keyT
 rw [List.map_map];rfl
theorem Rkv.val {H:Hp}{φ:List Addr}{i:List Int}:∀ {ds:List (List Int×D)}{vs:List (List Key×V)},Rkv K H φ ds vs->(∀ d,vM ds i=some d->∃ v,valV vs (keyT i)=some v/\Rl K H φ d v)/\(vM ds i=none->valV vs (keyT i)=none)
 | [],_,h=>by cases h;exact⟨(fun d e=>nomatch e),fun _=>rfl⟩
 | (k,d)::ds,_,h=>by
  obtain⟨v,r,rfl,h1,h2⟩:=h
  have ih:=Rkv.val (i:=i) h2
  by_cases e:k=i
  ·subst e
   have e1:vM ((k,d)::ds) k=some d:=by unfold vM;rw [List.find?_cons_of_pos (by simp)];rfl
   have e2:valV ((keyT k,v)::r) (keyT k)=some v:=by unfold valV;rw [List.find?_cons_of_pos (by simp)];rfl
   rw [e1,e2]
   exact⟨fun d' q=>⟨v,rfl,by cases q;exact h1⟩,fun q=>nomatch q⟩
  ·have e1:vM ((k,d)::ds) i=vM ds i:=by unfold vM;rw [List.find?_cons_of_neg (by simpa using e)]
   have e2:valV ((keyT k,v)::r) (keyT i)=valV r (keyT i):=by unfold valV;rw [List.find?_cons_of_neg (by simpa using fun z=>e (keyT_inj z))]
   rw [e1,e2]
   exact ih
theorem Rkv.any {H:Hp}{φ:List Addr}{i:List Int}:∀ {ds:List (List Int×D)}{vs:List (List Key×V)},Rkv K H φ ds vs->(vs.any fun p=>decide (p.1=keyT i))=ds.any fun p=>decide (p.1=i)
 | [],_,h=>by cases h;rfl
 | (k,d)::ds,_,h=>by
  obtain⟨v,r,rfl,h1,h2⟩:=h
  rw [List.any_cons,List.any_cons,Rkv.any h2]
  congr 1
  exact decide_eq_decide.mpr ⟨fun z=>keyT_inj z,fun z=>congrArg keyT z⟩
theorem Rkv.repl {H:Hp}{φ:List Addr}{i:List Int}{x:D}{y:V} (hx:Rl K H φ x y):∀ {ds:List (List Int×D)}{vs:List (List Key×V)},Rkv K H φ ds vs->Rkv K H φ (ds.map fun p=>if p.1=i then (p.1,x) else p) (vs.map fun p=>if p.1=keyT i then (p.1,y) else p)
 | [],_,h=>by cases h;exact rfl
 | (k,d)::ds,_,h=>by
  obtain⟨v,r,rfl,h1,h2⟩:=h
  rw [List.map_cons,List.map_cons]
  by_cases e:k=i
  ·rw [if_pos e,if_pos (by rw [e])]
   exact⟨y,_,rfl,hx,Rkv.repl hx h2⟩
  ·rw [if_neg e,if_neg (fun z=>e (keyT_inj z))]
   exact⟨v,_,rfl,h1,Rkv.repl hx h2⟩
theorem Rkv.snoc {H:Hp}{φ:List Addr}:∀ {ds:List (List Int×D)}{vs:List (List Key×V)}{k:List Int}{d:D}{v:V},Rkv K H φ ds vs->Rl K H φ d v->Rkv K H φ (ds++[(k,d)]) (vs++[(keyT k,v)])
 | [],_,_,_,_,h,hd=>by cases h;exact⟨_,[],rfl,hd,rfl⟩
 | (k,d)::ds,_,_,_,_,h,hd=>by
  obtain⟨v,r,rfl,h1,h2⟩:=h
  exact⟨v,_,rfl,h1,Rkv.snoc h2 hd⟩
theorem Rkv.put {H:Hp}{φ:List Addr}{ds:List (List Int×D)}{vs:List (List Key×V)}{k:List Int}{d:D}{v:V} (h:Rkv K H φ ds vs) (hd:Rl K H φ d v):Rkv K H φ (putM ds k d) (putK vs (keyT k) v):=by
 unfold putM putK
 rw [h.any]
 split
 ·exact h.repl hd
 ·exact h.snoc hd
theorem tup_key {H:Hp}{φ:List Addr}{ds:List D}{l:List Int}{v:V} (hl:intsOf ds=some l) (r:Rl K H φ (.tup ds) v):∃ p,v=.ref p/\H p=some (.tup ((keyT l).map kV)):=by
 obtain⟨p,vs,rfl,h1,h2⟩:=r
 cases intsOf_some hl
 cases h2.ints
 rw [keyT_kV]
 exact⟨p,rfl,h1⟩
theorem ie_newM:IE K X (.Dict [] [] pos) iNewM:=by
 refine⟨fun env st r hr=>?_⟩
 cases hr
 refine pe_dnewT.imp ?_
 rintro σ H Q ⟨φ,hE,hS,q⟩
 exact fun p hp=>q _ _ (φ++[p]) (Fw.moreO hp) (hS.moreC hp ⟨[],upd_same,rfl⟩) ⟨p,by rw [←hS.len];simp,rfl⟩
theorem ie_getM {k:Nat}{apos:Pos} (hr0:Room k X.A) (ho:IE K X o fo) (he:IE K X e fe) (hf:IE K X f ff) (m:M2 X o "get" apos e f pos):IE K X (.Call (.Attribute o "get" apos) [e,f] [] pos) (iGetM fo fe ff):=by
 refine⟨fun env st r hr=>?_⟩
 simp only [iGetM,Option.bind_eq_some_iff] at hr
 obtain⟨⟨x,s1⟩,hx,⟨y,s2⟩,hy,⟨z,s3⟩,hz,hr⟩:=hr
 dsimp only at hr
 split at hr
 next n ds d=>
  simp only [Option.bind_eq_some_iff,Option.map_eq_some_iff] at hr
  obtain⟨kv1,hk1,kvs,hk,l,hl,rfl⟩:=hr
  refine (pe_dget2 (hu_of hr0) (ho.run _ _ _ hx) (he.run _ _ _ hy) (hf.run _ _ _ hz) m).imp ?_
  rintro σ H Q ⟨φ,hE,hS,q⟩
  refine⟨φ,hE,hS,fun v H1 φ1 f1 S1 w1=>?_⟩
  obtain⟨p,ep,rfl⟩:=id w1
  obtain⟨vs1,hv1,_⟩:=S1.atm ep hk1
  refine⟨p,rfl,.inr ⟨vs1,.inl hv1⟩,φ1,hE.fw hS f1,S1,fun u H2 φ2 f2 S2 w2=>⟨φ2,(hE.fw hS f1).fw S1 f2,S2,fun z' H3 φ3 f3 S3 w3=>?_⟩⟩
  have ep3:=f3.get (f2.get ep)
  obtain⟨vs,hv,rl⟩:=S3.atm ep3 hk
  obtain⟨b,rfl,hb⟩:=tup_key hl (Rl.fw S2 f3 w2)
  refine⟨_,DGet.t hv hb,?_⟩
  cases hc:vM kvs l with
  | none=>
   rw [rl.val.2 hc]
   exact q _ H3 φ3 ((f1.trans f2).trans f3) S3 (by rw [hc];exact w3)
  | some d'=>
   obtain⟨v2,e2,r2⟩:=rl.val.1 d' hc
   rw [e2]
   exact q _ H3 φ3 ((f1.trans f2).trans f3) S3 (by rw [hc];exact r2)
 ·cases hr
theorem ie_mix {k:Nat} (hr0:Room k X.A) (ha:IE K X a fa) (hb:IE K X b fb) (hs:NoSl b):IE K X (.Subscript a b pos) (iMix fa fb):=by
 refine⟨fun env st r hr=>?_⟩
 simp only [iMix,Option.bind_eq_some_iff] at hr
 obtain⟨⟨x,s1⟩,hx,⟨y,s2⟩,hy,hr⟩:=hr
 dsimp only at hr
 split at hr
 next n ds=>
  simp only [Option.bind_eq_some_iff,Option.map_eq_some_iff] at hr
  obtain⟨kvs,hk,l,hl,d,hd,rfl⟩:=hr
  refine (pe_dget (hu_of hr0) (ha.run _ _ _ hx) (hb.run _ _ _ hy) hs).imp ?_
  rintro σ H Q ⟨φ,hE,hS,q⟩
  refine⟨φ,hE,hS,fun v H1 φ1 f1 S1 w1=>⟨φ1,hE.fw hS f1,S1,fun u H2 φ2 f2 S2 w2=>?_⟩⟩
  obtain⟨p,ep,rfl⟩:=w1.fw S1 f2
  obtain⟨vs,hv,rl⟩:=S2.atm ep hk
  obtain⟨v2,e2,r2⟩:=rl.val.1 d hd
  obtain⟨b',rfl,hb'⟩:=tup_key hl w2
  refine⟨p,v2,rfl,?_,q _ H2 φ2 (f1.trans f2) S2 r2⟩
  rw [←e2]
  exact DGet.t hv hb'
 ·cases hr
theorem is_putM {k:Nat}{tpos:Pos} (hr0:Room k X.A) (ho:IE K X a fa) (hi:IE K X b fb) (hv:IE K X e fe) (hs:swapsWith e (some (.Subscript a b tpos)) pos.line X.env=pure false:=by rfl) :
  IS K X (.Assign [.Subscript a b tpos] e pos) (iPutM fa fb fe):=by
 refine⟨fun env st r hr=>?_⟩
 simp only [iPutM,Option.bind_eq_some_iff] at hr
 obtain⟨⟨z,s1⟩,hz,⟨x,s2⟩,hx,⟨y,s3⟩,hy,hr⟩:=hr
 dsimp only at hr
 split at hr
 next n ds d=>
  simp only [Option.bind_eq_some_iff] at hr
  obtain⟨kvs,hk,l,hl,hr⟩:=hr
  split at hr
  ·rename_i hlen
   cases hr
   refine (ps_dput (hu_of hr0) (ho.run _ _ _ hx) (hi.run _ _ _ hy) (hv.run _ _ _ hz) hs).imp ?_
   rintro D σ H ⟨φ,hE,hS,q⟩
   refine⟨φ,hE,hS,fun v H1 φ1 f1 S1 w1=>⟨φ1,hE.fw hS f1,S1,fun u H2 φ2 f2 S2 w2=>⟨φ2,(hE.fw hS f1).fw S1 f2,S2,fun t H3 φ3 f3 S3 w3=>?_⟩⟩⟩
   obtain⟨p,ep,rfl⟩:=w2.fw S2 f3
   obtain⟨vs,hp,rl⟩:=S3.atm ep hk
   obtain⟨b',rfl,hb'⟩:=tup_key hl w3
   have w1':=Rl.fw S2 f3 (Rl.fw S1 f2 w1)
   obtain⟨f4,S4⟩:=S3.putC (o:=.dT (putK vs (keyT l) v)) (c:=.m (putM kvs l d)) ep fun f=>⟨_,upd_same,(rl.put w1').fw S3 f⟩
   refine⟨p,_,rfl,DPut.t hp hb' (by rw [←rl.length];exact Nat.lt_of_lt_of_le hlen (by rw [sizeLine_eq];decide)),?_⟩
   exact q _ _ φ3 (((f1.trans f2).trans f3).trans f4) (((((hE.fw hS f1).fw S1 f2).fw S2 f3)).fw S3 f4) S4
  ·cases hr
 ·cases hr
theorem kt_list {H:Hp}{φ:List Addr}:∀ {kvs:List (List Int×D)}{vs:List (List Key×V)}{xs:List (List Key×Addr×Value)},Rkv K H φ kvs vs->KT H vs xs->
  Rls K H φ ((kvs.map (·.1)).map tupOf) (xs.map fun x=>V.ref x.2.1)/\Vals (xs.map fun x=>V.ref x.2.1) (xs.map fun x=>Value.ref x.2.1)
 | [],_,_,h,t=>by cases h;cases t;exact⟨rfl,.nil⟩
 | (k,d)::kvs,_,_,h,t=>by
  obtain⟨v,r,rfl,h1,h2⟩:=h
  cases t with
  | cons q t=>
   rename_i x xs
   obtain⟨i1,i2⟩:=kt_list h2 t
   have e:H x.2.1=some (.tup (k.map V.int)):=by rw [←keyT_kV];exact q.2.1
   exact⟨⟨_,_,rfl,⟨x.2.1,k.map V.int,rfl,e,Rls.of_ints k⟩,i1⟩,.cons rfl i2⟩
theorem il_sortM {k:Nat}{p:Pos} (hr0:Room k X.A) (hg:Gl X "sorted") (hm:X.mg "sorted" = none) (ha:IE K X a fa) (hc:X.calm=true:=by rfl) (hs:notStar a=true:=by rfl) (hK:X.K=K:=by rfl):IL K X (.Call (.Name "sorted" p) [a] [] pos) (iSortM fa):=by
 subst hK
 refine⟨fun env st r hr=>?_⟩
 simp only [iSortM,Option.bind_eq_some_iff] at hr
 obtain⟨⟨x,s1⟩,hx,hr⟩:=hr
 match x,hr with
 | .h n,hr=>
  simp only [Option.bind_eq_some_iff] at hr
  obtain⟨kvs,hk,hr⟩:=hr
  split at hr
  ·rename_i hl
   cases hr
   have hA:=(ia_cons (K:=X.K) (X:=X) ha ia_nil hs).run env st ([.h n],s1) (by simp only [iCons,iNil,hx,Option.bind_some,Option.map_some])
   have hC:CallR X (.builtin "sorted") (fun xs H Q=>∃ φ q,Sr X.K H φ s1/\φ[n]?=some q/\xs=[.ref q]/\∀ l us,H l=none->Rls X.K H φ ((isortL (kvs.map (·.1))).map tupOf) us->Q (.ref l) (upd H l (.lst us))):=by
    intro pins s σ H xs us Q I rv q
    obtain⟨φ,ad,S,ead,rfl,q⟩:=q
    obtain⟨u,rfl,ru⟩:=vals1 rv
    cases ru
    obtain⟨vs,hv,rl⟩:=S.atm ead hk
    obtain⟨z',hd,xs,rel,o,es,ep,g1,g2,g3,g4,g5,g6⟩:=dt_of I.hok hv
    obtain⟨b1,b2⟩:=kt_list rl rel
    have hlen:xs.length≤64:=by
     have e1:=rel.length
     have e2:=rl.length
     omega
    have hkeys:es.toList.map (·.key)=xs.map fun x=>Value.ref x.2.1:=by rw [g4,List.map_map];rfl
    obtain⟨m1,m2⟩:=rls_tupI I b1 b2
    have hun:X.A.in1.in1.units < cLine:=by
     have:=hr0.un
     show X.A.units+1+1 < cLine
     omega
    refine sorted_raw hd ⟨o,g1,g2,g3⟩ (I.ok.hd hc) hkeys (by rw [List.length_map];exact hlen) hun (fun v hv=>⟨_,(m2 v hv).1⟩) fun h' tk p ep' out hkeep hp he a1 a2=>?_
    have hn:H p=none:=I.hok.fresh hp
    have ho:=fun u hu=>m2 u (a1.mem_iff.mp hu)
    obtain⟨c1,c2⟩:=rls_back (K:=X.K) (H:=H) (φ:=φ) ho
    have hpm:(out.map (tuI s.heap)).Perm (kvs.map (·.1)):=by
     have:=a1.map (tuI s.heap)
     rw [m1] at this;exact this
    have hsrt:(out.map (tuI s.heap)).Pairwise leL:=by
     rw [List.pairwise_map]
     exact a2.imp fun {x y} q=>q
    have e:out.map (tuI s.heap)=isortL (kvs.map (·.1)):=sortedL_uniq (hpm.trans (isortL_perm _).symm) hsrt (isortL_sorted _)
    have e2:(out.map fun u=>tupOf (tuI s.heap u))=(isortL (kvs.map (·.1))).map tupOf:=by rw [←e,List.map_map];rfl
    rw [e2] at c1
    have hlay:Inv X pins σ (upd H p (.lst (out.map toV))) { s with heap:=h',toks:=tk }:=by
     refine I.laid (t':=tk) (a:=p) (o:=.lst (out.map toV)) hkeep hp ⟨?_,out,ep',c2,by simpa [seqObj] using he⟩
     rw [List.length_map,a1.length_eq,List.length_map];exact small16 (by omega)
    exact⟨.ref p,_,hlay,rfl,q p _ hn c1⟩
   refine (pe_callB hC hg hm PyProof.Rows.boot_sorted hA (by decide) (by decide) (star_cons hs) (star_any (es:=[]) rfl)).imp ?_
   rintro σ H Q ⟨φ,hE,hS,q⟩
   refine⟨φ,hE,hS,fun vs H1 φ1 f1 S1 w1=>?_⟩
   obtain⟨v,r,rfl,⟨ad,ead,rfl⟩,rfl⟩:=w1
   exact⟨φ1,ad,S1,ead,rfl,fun l us hl' hr'=>q l _ H1 φ1 f1 S1 hl' hr'⟩
  ·cases hr
noncomputable def dLt2 (st:Sto):W->W->Option D
 | .d (.tup a),.d (.tup b)=>(intsOf a).bind fun ns=>(intsOf b).map fun ms=>.bl (lexI ns ms)
 | x,y=>dLt st x y
theorem lex_same:∀ (a b:List Int),HT.lexLt a b=lexI a b
 | [],[]=>rfl
 | [],_::_=>rfl
 | _::_,[]=>rfl
 | x::a,y::b=>by rw [HT.lexLt_cons,lexI,lex_same a b]
theorem od_lt2 {k:Nat} (hr:Room k X.A) (hK:X.K=K:=by rfl):OpD K X (compareOp .Lt) dLt2:=by
 subst hK
 refine⟨fun st x y d h=>?_⟩
 by_cases ht:∃ a b,x=.d (.tup a)/\y=.d (.tup b)
 ·obtain⟨a,b,rfl,rfl⟩:=ht
  simp only [dLt2,Option.bind_eq_some_iff,Option.map_eq_some_iff] at h
  obtain⟨ns,h1,ms,h2,rfl⟩:=h
  have hu:X.A.units < cLine:=by have:=hr.un;omega
  refine (op_ltT hu).imp ?_
  rintro vx vy H Q ⟨φ,S,⟨p,vs,rfl,g1,g2⟩,⟨p2,vs2,rfl,g3,g4⟩,q⟩
  cases intsOf_some h1
  cases intsOf_some h2
  cases g2.ints
  cases g4.ints
  refine⟨p,p2,ns,ms,rfl,rfl,SqT.of g1,SqT.of g3,?_⟩
  rw [lex_same]
  exact q _ H (Same.refl H) rfl
 ·have e:dLt2 st x y=dLt st x y:=by
   unfold dLt2
   split
   ·rename_i a b
    exact absurd ⟨a,b,rfl,rfl⟩ ht
   ·rfl
  rw [e] at h
  exact od_lt.run st x y d h
end
end L2
namespace L2
open PySem PySem.Spec PyProof.Rows
mutual
noncomputable def toP:D->PyData
 | .non=>.none
 | .bl b=>.bool b
 | .int i=>.int i
 | .str x=>.str x
 | .tup ds=>.tuple (toPs ds)
 | .lst ds=>.list (toPs ds)
 | _=>.none
noncomputable def toPs:List D->List PyData
 | []=>[]
 | d::ds=>toP d::toPs ds
end
mutual
noncomputable def rpD:D->Bool
 | .non=>true
 | .bl _=>true
 | .int i=>decide (i.natAbs.log2 < 1920)
 | .str _=>true
 | .tup ds=>rpDs ds
 | .lst ds=>rpDs ds
 | _=>false
noncomputable def rpDs:List D->Bool
 | []=>true
 | d::ds=>rpD d && rpDs ds
end
mutual
noncomputable def wtD:D->Nat
 | .non=>10
 | .bl _=>10
 | .int _=>2000
 | .str x=>(reprText x).length
 | .tup ds=>wtDs ds+5
 | .lst ds=>wtDs ds+5
 | _=>0
noncomputable def wtDs:List D->Nat
 | []=>0
 | d::ds=>wtD d+2+wtDs ds
end
mutual
noncomputable def dpD:D->Nat
 | .tup ds=>dpDs ds+1
 | .lst ds=>dpDs ds+1
 | _=>1
noncomputable def dpDs:List D->Nat
 | []=>0
 | d::ds=>max (dpD d) (dpDs ds)
end
noncomputable def dRepr3 (st:Sto):List W->Option D
 | [w]=>match w with
  | .d d=>if rpD d=true/\wtD d≤16000000/\dpD d≤50 then some (.str (toP d).shown) else none
  | .h _=>none
 | _=>none
theorem textFrom_up:∀ (ts:List Str) (k:Nat) (acc:Str),(textFrom k acc ts).length≤acc.length+piled ts
 | [],k,acc=>by show acc.length≤_;omega
 | t::r,k,acc=>by
  have h:=textFrom_up r (k+1) (acc++(if k > 0 then ", " else "" : String)++t)
  have e:(acc++(if k > 0 then ", " else "" : String)++t).length≤acc.length+2+t.length:=by
   rw [strLen_append,strLen_append]
   have:((if k > 0 then ", " else "" : String):Str).length≤2:=by split<;>decide
   omega
  rw [piled_cons]
  show (textFrom (k+1) _ r).length≤_
  omega
theorem tuple_up (ts:List Str):(tupleText ts).length≤piled ts+3:=by
 have hz:(Str.join ", " ts).length≤piled ts:=by
  cases ts with
  | nil=>exact Nat.zero_le _
  | cons x r=>
   have:=join_length_add (x::r) (by simp)
   omega
 unfold tupleText
 rw [strLen_append,strLen_append]
 have h2:((if ts.length==1 then ",)" else ")" : String):Str).length≤2:=by split<;>decide
 have h1:((("(" : String):Str)).length=1:=rfl
 omega
theorem list_up (ts:List Str):(listText ts).length≤piled ts+2:=by
 have h:=textFrom_up ts 0 "["
 unfold listText
 rw [strLen_append]
 have h1:((("[" : String):Str)).length=1:=rfl
 have h2:((("]" : String):Str)).length=1:=rfl
 omega
mutual
theorem shown_le:∀ d:D,rpD d=true->(toP d).shown.length≤wtD d
 | .non,_=>by rw [toP,wtD];decide
 | .bl b,_=>by rw [toP,wtD];cases b<;>decide
 | .int i,h=>by
  rw [rpD,decide_eq_true_eq] at h
  rw [toP,wtD,PyData.shown]
  have:=int_text_length_le (k:=1920) (by decide) h
  rw [PySem.ofString_length]
  omega
 | .str x,_=>by rw [toP,wtD,PyData.shown];exact Nat.le_refl _
 | .tup ds,h=>by
  rw [rpD] at h
  rw [toP,wtD,PyData.shown]
  have:=shown_les ds h
  have:=tuple_up (PyData.shownAll (toPs ds))
  omega
 | .lst ds,h=>by
  rw [rpD] at h
  rw [toP,wtD,PyData.shown]
  have:=shown_les ds h
  have:=list_up (PyData.shownAll (toPs ds))
  omega
 | .ty _,h=>by simp [rpD] at h
 | .dct,h=>by simp [rpD] at h
 | .scr _,h=>by simp [rpD] at h
theorem shown_les:∀ ds:List D,rpDs ds=true->piled (PyData.shownAll (toPs ds))≤wtDs ds
 | [],_=>by rw [toPs,wtDs,PyData.shownAll];exact Nat.le_refl _
 | d::ds,h=>by
  rw [rpDs,Bool.and_eq_true] at h
  rw [toPs,wtDs,PyData.shownAll,piled_cons]
  have:=shown_le d h.1
  have:=shown_les ds h.2
  omega
end
mutual
theorem able_of:∀ d:D,rpD d=true->(toP d).showable=true/\(toP d).hasDict=false/\(toP d).depth≤dpD d
 | .non,_=>⟨rfl,rfl,by decide⟩
 | .bl b,_=>⟨rfl,rfl,by rw [toP,PyData.depth];exact Nat.zero_le _⟩
 | .int i,h=>by
  rw [rpD] at h
  rw [toP]
  exact⟨h,rfl,by rw [PyData.depth];exact Nat.zero_le _⟩
 | .str x,_=>⟨rfl,rfl,by rw [toP,PyData.depth];exact Nat.zero_le _⟩
 | .tup ds,h=>by
  rw [rpD] at h
  rw [toP,dpD,PyData.showable,PyData.hasDict,PyData.depth]
  obtain⟨a,b,c⟩:=ables_of ds h
  exact⟨a,b,by omega⟩
 | .lst ds,h=>by
  rw [rpD] at h
  rw [toP,dpD,PyData.showable,PyData.hasDict,PyData.depth]
  obtain⟨a,b,c⟩:=ables_of ds h
  exact⟨a,b,by omega⟩
 | .ty _,h=>by simp [rpD] at h
 | .dct,h=>by simp [rpD] at h
 | .scr _,h=>by simp [rpD] at h
theorem ables_of:∀ ds:List D,rpDs ds=true->PyData.showableAll (toPs ds)=true/\PyData.hasDictAll (toPs ds)=false/\PyData.depthAll (toPs ds)≤dpDs ds
 | [],_=>by rw [toPs,dpDs];exact⟨rfl,rfl,by simp [PyData.depthAll]⟩
 | d::ds,h=>by
  rw [rpDs,Bool.and_eq_true] at h
  obtain⟨a,b,c⟩:=able_of d h.1
  obtain⟨a',b',c'⟩:=ables_of ds h.2
  rw [toPs,dpDs,PyData.showableAll,PyData.hasDictAll,PyData.depthAll,a,b,a',b']
  exact⟨rfl,rfl,by omega⟩
end
section
variable {K:PySem.W.Frag}{X:Cx}{pins:List (Addr×Obj)}{σ:St}{H:Hp}{s:Shared}{φ:List Addr}
mutual
theorem reads_of (I:Inv X pins σ H s):∀ (d:D) (v:V) (u:Value),rpD d=true->Rl X.K H φ d v->RelV v u->∃ as,Reads s.heap u (toP d) as
 | .non,v,u,_,r,q=>by cases (show v=.non from r);cases q;exact⟨_,by rw [toP];exact .none⟩
 | .bl b,v,u,_,r,q=>by cases (show v=.bl b from r);cases q;exact⟨_,by rw [toP];exact .bool b⟩
 | .int i,v,u,_,r,q=>by cases (show v=.int i from r);obtain⟨t,rfl⟩:=q;exact⟨_,by rw [toP];exact .int i t⟩
 | .str x,v,u,_,r,q=>by cases (show v=.str x from r);obtain⟨t,rfl⟩:=q;exact⟨_,by rw [toP];exact .str x t⟩
 | .tup ds,v,u,h,r,q=>by
  rw [rpD] at h
  obtain⟨a,vs,rfl,h1,h2⟩:=r
  cases q
  obtain⟨its,rv,⟨o,ho,hc,n,hd⟩,_⟩:=I.tuple (SqT.of h1)
  obtain⟨as,ra⟩:=reads_ofs I ds vs its h h2 rv
  exact⟨as,by rw [toP];exact .tuple ho hc hd (by simpa using ra)⟩
 | .lst ds,v,u,h,r,q=>by
  rw [rpD] at h
  obtain⟨a,vs,rfl,_,h1,h2⟩:=r
  cases q
  obtain⟨its,rv,⟨o,n,ho,hc,hdd,hd⟩,_⟩:=I.list (.inl h1)
  obtain⟨as,ra⟩:=reads_ofs I ds vs its h h2 rv
  exact⟨a::as,by rw [toP];exact .list ho hc hd (by simpa using ra)⟩
 | .ty _,_,_,h,_,_=>by simp [rpD] at h
 | .dct,_,_,h,_,_=>by simp [rpD] at h
 | .scr _,_,_,h,_,_=>by simp [rpD] at h
theorem reads_ofs (I:Inv X pins σ H s):∀ (ds:List D) (vs:List V) (us:List Value),rpDs ds=true->Rls X.K H φ ds vs->Vals vs us->∃ as,ReadsAll s.heap us (toPs ds) as
 | [],vs,us,_,r,q=>by cases r;cases q;exact⟨[],by rw [toPs];exact .nil⟩
 | d::ds,vs,us,h,r,q=>by
  rw [rpDs,Bool.and_eq_true] at h
  obtain⟨v,r',rfl,h1,h2⟩:=r
  cases q with
  | cons q1 q2=>
   obtain⟨as,a1⟩:=reads_of I d v _ h.1 h1 q1
   obtain⟨bs,a2⟩:=reads_ofs I ds r' _ h.2 h2 q2
   exact⟨as++bs,by rw [toPs];exact .cons a1 a2⟩
end
end
noncomputable def dReprN (st:Sto):List W->Option D
 | [.d (.tup ds)]=>dRepr3 st [.d (.tup ds)]
 | [.d (.lst ds)]=>dRepr3 st [.d (.lst ds)]
 | _=>none
theorem cd_reprN {K:PySem.W.Frag}{X:Cx}{k:Nat} (hr:Room k X.A) (hK:X.K=K:=by rfl):CallD K X (.builtin "repr") dReprN:=by
 subst hK
 refine⟨fun st ws d h=>?_⟩
 have key:∀ x:D,(∀ (H:Hp) (φ:List Addr) v,Rl X.K H φ x v->∃ a,v=.ref a)->dRepr3 st [.d x]=some d->CallR X (.builtin "repr") (rCD X.K st [.d x] d):=by
  intro x hx h
  simp only [dRepr3] at h
  split at h
  ·rename_i hc
   cases h
   intro pins s σ H xs us Q I rv q
   obtain⟨φ,S,⟨v,r,rfl,r1,rfl⟩,q⟩:=q
   obtain⟨u,rfl,ru⟩:=vals1 rv
   obtain⟨as,rd⟩:=reads_of I x v u hc.1 r1 ru
   obtain⟨a,rfl⟩:=hx H φ v r1
   cases ru
   obtain⟨b1,b2,b3⟩:=able_of x hc.1
   have hl:=shown_le x hc.1
   have hun:=hr.units
   refine repr_of_reads' rd b1 (PyData.noDict_hsm b2) hr.gd (by omega) (fun _ _ e=>e) (fun h' u tk hk=>⟨.str _,H,I.kept (t':=tk) hk,⟨u,rfl⟩,q _ H (Same.refl H) rfl⟩) ?_
   rw [sizeLine_eq];omega
  ·cases h
 match ws,h with
 | [.d (.tup ds)],h=>exact key (.tup ds) (fun H φ v ⟨a,vs,e,_⟩=>⟨a,e⟩) h
 | [.d (.lst ds)],h=>exact key (.lst ds) (fun H φ v ⟨a,vs,e,_⟩=>⟨a,e⟩) h
end L2
namespace L2
open PySem PySem.SeqAt MeetsSeq MeetsSeq2 MeetsSeq3
open AutoSeq1 (wpAny_loadPart')
end L2
namespace L2
open PySem PySem.Spec PyProof.Rows
section
variable {K:PySem.W.Frag}{X:Cx}{pos:Pos}{a e:Expr}{fa:Ef}{af:Af}
end
end L2
namespace L2
open PySem PySem.Spec PyProof.Rows
section
variable {K:PySem.W.Frag}{X:Cx}{pos:Pos}{a e:Expr}{fa:Ef}{af:Af}
end
end L2
namespace L2
open PySem PySem.Spec PyProof.Rows
open AutoSeq1 (wpAny_loadPart')
section
variable {K:PySem.W.Frag}{X:Cx}{pos:Pos}{a e:Expr}{es:List Expr}{fa:Ef}{af:Af}
end
end L2
namespace L2
open PySem PySem.Spec PyProof.Rows
open AutoSeq1 (wpAny_loadPart')
theorem list_extendL (l:Addr) (items:Array Value) (n:Nat) (b:Addr) (items2:Array Value) (n2:Nat) (dd:Option Addr) (sl:Array (Option Value)) (hs0:¬(!items.isEmpty && Builtin.List.listTooLong (items.size+items2.size))=true) (hs1:items.size≤sizeLine) (hs2:items.size+items2.size≤sizeLine+1) :
  Meets (Builtin.«list.extend» ⟨[.ref l,.ref b],[]⟩) (fun _ R s=>s.heap.get? l=some { cls:=.type "list",dict:=none,data:=.seq items n,slots:=#[] }/\s.heap.get? b=some { cls:=.type "list",dict:=dd,data:=.seq items2 n2,slots:=sl }/\R (.ok (.ret Value.none)) { s with heap:=s.heap.update l (Obj.mapSeq fun x=>x++items2),toks:=s.toks }):=
 .of_wp fun prog w A R s h=>by
  obtain⟨hp,g,d,tk,os⟩:=s;obtain⟨hl,hb,h⟩:=h;have f1:=AutoSeq1.idx_int;have f2:=AutoSeq1.sub_tuple_tuple;have f3:=AutoSeq1.sub_list_list;have f4:=AutoSeq1.sub_tuple_list;have f5:=AutoSeq1.sub_list_tuple
  have hz':(items++items2).size≤sizeLine+1:=by rw [Array.size_append];exact hs2
  wp_walk using (wpAny_updateSeq hl rfl (hz:=hs1) (_hz':=hz')),wpAny_loadPart' hl,wpAny_loadPart' hb
  exact⟨_,rfl,h⟩
section
variable {K:PySem.W.Frag}{X:Cx}{pos:Pos}{a e:Expr}{es:List Expr}{fa:Ef}{af:Af}
noncomputable def rExtL (X:Cx):V->List V->Hp->VK->Prop:=fun x vs H Q=>∃ l b xs zs,x=.ref l/\vs=[.ref b]/\H l=some (.lst xs)/\Rd H b (.lst zs)/\b≠l/\xs.length+zs.length≤sizeLine/\Q .non (upd H l (.lst (xs++zs)))
theorem mt_extL:MtR X "list.extend" (rExtL X):=by
 intro pins s σ H x vs v us Q I rx rv h
 obtain⟨l,b,xs,zs,rfl,rfl,hH,hB,hne,hz,q⟩:=h
 cases rx
 obtain⟨u,rfl,ru⟩:=rv.one
 cases ru
 obtain⟨z,its,n,r,hl,e⟩:=I.lstM hH
 obtain⟨its2,r2,⟨⟨c,dd,dt,sl⟩,n2,e2,hc,hdd,hd⟩,hz2⟩:=I.list (.inl hB)
 replace hc:c=.type "list":=hc
 replace hd:dt=.seq its2.toArray n2:=hd
 subst hc hd
 have hl2:=r2.length
 have hsz:its.toArray.size+its2.toArray.size≤sizeLine:=by rw [List.size_toArray,List.size_toArray];omega
 have hlong:¬ (!its.toArray.isEmpty && Builtin.List.listTooLong (its.toArray.size+its2.toArray.size))=true:=by
  rw [notLongL hsz,Bool.and_false]
  exact Bool.false_ne_true
 refine call_meets F.slot_list_extend ⟨_,e,rfl⟩ F.entry_list_extend (F.args_list_extend_2 _ _)
  (list_extendL l its.toArray n b its2.toArray n2 dd sl hlong (by rw [List.size_toArray];omega) (by omega)) ⟨e,e2,?_⟩
 refine⟨.non,_,I.lset (its':=its++its2) hH e (by simp) (r.append r2) ?_,rfl,q⟩
 rw [List.length_append]
 omega
noncomputable def mExtL (ds:List D):List W->Option (D×List D)
 | [.d (.lst xs)]=>if ds.length+xs.length≤1000000 then some (.non,ds++xs) else none
 | _=>none
theorem ie_extL {apos:Pos} (ho:IE K X a fa) (ha:IA K X (e::es) af) (hbase:attributeBase a "extend" X.env (eval a X.env)=eval a X.env:=by rfl)
  (hall:(e::es).all notStar=true:=by rfl) (hfl30:(e::es).length < 30:=by decide) (hline:(apos.endLine==pos.line)=true:=by rfl) (hK:X.K=K:=by rfl) :
  IE K X (.Call (.Attribute a "extend" apos) (e::es) [] pos) (iMeth mExtL fa af):=by
 subst hK
 refine im_gen PySem.F.slot_list_extend PySem.F.type_list_extend mt_extL (fun H φ st n ad ds vs ws us y Q S ea eds hv rl rw hy q=>?_) (fun ds ws y h=>?_) ho ha hbase hall hfl30 hline rfl
 ·match ws,hy with
  | [.d (.lst xs)],hy=>
   simp only [mExtL] at hy
   split at hy
   ·rename_i hl
    cases hy
    obtain⟨v,r,rfl,⟨b,zs,rfl,hnb,hq,hz⟩,rfl⟩:=rw
    exact⟨ad,b,vs,zs,rfl,rfl,hv,hq,(fun e=>hnb (by rw [e];exact List.mem_of_getElem? ea)),by rw [←rl.length,←hz.length];exact Nat.le_trans hl mil,q _ _ rfl (rl.append hz) (fun b z=>nomatch z)⟩
   ·cases hy
 ·match ws,h with
  | [.d (.lst xs)],h=>
   simp only [mExtL] at h
   split at h
   ·cases h;rfl
   ·cases h
end
end L2
namespace L2
open PySem PySem.Spec PyProof.Rows
open Classical in
noncomputable def lcH (n:Nat) (all:List D) (g:Tg) (tt:Tf) (te:Ef) (env:Ev):List D->Sto->Option (List D×Sto)
 | [],st=>if lg st n=some all then some ([],st) else none
 | d::ds,st=>if lg st n=some all then ((setT g (.d d) env).bind fun e=>(tt e st).bind fun b=>if b.1=true then (te e b.2).bind fun x=>(dsOf [x.1]).bind fun ys=>(lcH n all g tt te env ds x.2).map fun r=>(ys++r.1,r.2)
   else lcH n all g tt te env ds b.2) else none
section
variable {K:PySem.W.Frag}{X:Cx}{pos:Pos}{tg:Expr}
noncomputable def YlH (K:PySem.W.Frag) (φ0:List Addr) (H0:Hp) (J:It) (n:Nat) (ds:List D):Prop:=∀ (H:Hp) (φ:List Addr) (st:Sto) (i:Nat),Fw φ0 φ H0 H->Sr K H φ st->lg st n=some ds->
 (∀ d,ds[i]?=some d->J.go i H/\∀ x H',J.yld i H x H'->Same H H'/\Rl K H' φ d x)/\(ds.length=i->J.stop i H)
noncomputable def tIIH (K:PySem.W.Frag) (env:Ev) (st:Sto) (n:Nat) (ds:List D) (s1:Sto):TI:=fun σ H R=>∃ φ,Er K H φ env σ/\Sr K H φ st/\∀ J H' φ',Fw φ φ' H H'->Sr K H' φ' s1->YlH K φ' H' J n ds->R J H'
theorem pi_hand {e:Expr}{f:Ef}{env:Ev}{st s1:Sto}{n:Nat}{ds:List D} (h:IE K X e f) (hK:X.K=K) (hf:f env st=some (.h n,s1)) (hn:lg s1 n=some ds):PI X tg e (tIIH K env st n ds s1):=by
 subst hK
 refine (pi_list (h.run _ _ _ hf)).imp ?_
 rintro σ H R ⟨φ,hE,hS,q⟩
 refine⟨φ,hE,hS,fun v H1 φ1 f1 S1 w1=>?_⟩
 obtain⟨a,vs,rfl,hq,hr⟩:=ls_rel S1 w1 (show lsD s1 (.h n)=some ds from hn)
 refine⟨a,rfl,⟨vs,.inl hq⟩,q _ H1 φ1 f1 S1 fun H2 φ2 st2 i f2 S2 hn2=>?_⟩
 obtain⟨a2,vs2,ea,hq2,hr2⟩:=ls_rel S2 (Rw.fw S1 f2 w1) (show lsD st2 (.h n)=some ds from hn2)
 cases ea
 have hq3:SqL X.K H2 a vs2:=.inl hq2
 refine⟨fun d hd=>?_,fun hi=>⟨vs2,hq3,by rw [←hr2.length];exact Nat.le_of_eq hi⟩⟩
 obtain⟨v,ev,rv⟩:=hr2.get hd
 refine⟨⟨vs2,v,hq3,ev⟩,fun x H' y=>?_⟩
 obtain⟨rfl,y⟩:=y
 have:=y vs2 hq3
 rw [ev] at this
 cases this
 exact⟨Same.refl _,rv⟩
end
end L2
namespace L2
open PySem PySem.Spec PyProof.Rows
open Classical in
noncomputable def forH (n:Nat) (all:List D) (g:Tg) (body:Sf):List D->Ev->Sto->Option Fl
 | [],env,st=>if lg st n=some all then some (.nx env st) else none
 | d::ds,env,st=>if lg st n=some all then ((setT g (.d d) env).bind fun e=>(body e st).bind fun r=>match r with
  | .nx e s=>forH n all g body ds e s
  | .ct e s=>forH n all g body ds e s
  | .bk e s=>some (.nx e s)
  | .rt w s=>some (.rt w s)) else none
noncomputable def iForW (fe:Ef) (g:Tg) (body:Sf):Sf
 | env,st=>(fe env st).bind fun r=>match r.1 with
  | .h n=>(lg r.2 n).bind fun ds=>forH n ds g body ds env r.2
  | .d (.tup ds)=>forI g body ds env r.2
  | .d (.lst ds)=>forI g body ds env r.2
  | _=>none
section
variable {K:PySem.W.Frag}{X:Cx}{pos:Pos}{tg:Expr}
theorem is_forW {iter:Expr}{body:List Stmt}{fe:Ef}{g:Tg}{gb:Sf} (he:IE K X iter fe) (hii:II K X tg iter (iItems fe)) (hg:PG X tg (tG K g)) (hb:ISs K X body gb) (hp:PassesOwn (model X.prog X.w) X.A X.env X.xe) (hc:X.calm=true:=by rfl)
  (hs:∀ x,foldedSetIterable iter X.env x=pure x:=by intro _;rfl) (hK:X.K=K:=by rfl):IS K X (.For tg iter body [] pos) (iForW fe g gb):=by
 refine⟨fun env st r hr=>?_⟩
 simp only [iForW,Option.bind_eq_some_iff] at hr
 obtain⟨⟨x,s1⟩,hx,hr⟩:=hr
 cases x with
 | d x=>
  refine (is_for hii hg hb hp hc hs).run env st r ?_
  cases x with
  | tup ds=>simp only [iFor,iItems,hx,Option.bind_some];exact hr
  | lst ds=>simp only [iFor,iItems,hx,Option.bind_some];exact hr
  | _=>cases hr
 | h n=>
  simp only [Option.bind_eq_some_iff] at hr
  obtain⟨ds,hds,hr⟩:=hr
  refine (ps_for hp hc (pi_hand he hK hx hds) hg hb.any hs).imp ?_
  rintro D σ H ⟨φ,hE,hS,q⟩
  refine⟨φ,hE,hS,fun J H1 φ1 f1 S1 yl=>?_⟩
  refine⟨fun i m σ H=>m=ds.length - i/\i≤ds.length/\∃ env st φ2,Fw φ1 φ2 H1 H/\Er K H φ2 env σ/\Sr K H φ2 st/\forH n ds g gb (ds.drop i) env st=some r,⟨ds.length,by simp,Nat.zero_le _,env,s1,φ1,Fw.refl _ _,hE.fw hS f1,S1,hr⟩,?_⟩
  rintro i m σ H2 ⟨rfl,hi,env2,st2,φ2,f2,e2,S2,h2⟩
  by_cases hlt:i < ds.length
  ·rw [List.drop_eq_getElem_cons hlt] at h2
   rw [forH] at h2
   by_cases hg2:lg st2 n=some ds
   ·rw [if_pos hg2] at h2
    obtain⟨y1,y2⟩:=yl H2 φ2 st2 i f2 S2 hg2
    obtain⟨go,yld⟩:=y1 ds[i] (List.getElem?_eq_getElem hlt)
    simp only [Option.bind_eq_some_iff] at h2
    obtain⟨e3,he3,r3,hr3,h3⟩:=h2
    refine .inr ⟨go,fun σ' H'=>i+1≤ds.length/\∃ env st φ2,Fw φ1 φ2 H1 H'/\Er K H' φ2 env σ'/\Sr K H' φ2 st/\forH n ds g gb (ds.drop (i+1)) env st=some r,fun σ' H' ⟨hn,p'⟩=>⟨ds.length - (i+1),by omega,rfl,hn,p'⟩,fun x H' y=>?_⟩
    obtain⟨sm,rx⟩:=yld x H' y
    have S3:=S2.same sm
    have f3:=f2.trans (Fw.same (φ:=φ2) sm)
    refine⟨φ2,st2,env2,.d ds[i],e3,e2.fw S2 (Fw.same sm),S3,rx,he3,fun σ' e' _=>?_⟩
    refine⟨e3,st2,r3,hr3,φ2,e',S3,?_⟩
    cases r3 with
    | nx e4 s4=>exact fun σ4 H4 φ4 f4 e4' s4'=>⟨hlt,e4,s4,φ4,f3.trans f4,e4',s4',h3⟩
    | ct e4 s4=>exact fun σ4 H4 φ4 f4 e4' s4'=>⟨hlt,e4,s4,φ4,f3.trans f4,e4',s4',h3⟩
    | bk e4 s4=>
     cases h3
     exact fun σ4 H4 φ4 f4 e4' s4'=>q σ4 H4 φ4 (f1.trans (f3.trans f4)) e4' s4'
    | rt w s4=>
     cases h3
     exact fun v H4 φ4 f4 s4' w4=>q v H4 φ4 (f1.trans (f3.trans f4)) s4' w4
   ·rw [if_neg hg2] at h2;cases h2
  ·have hi':i=ds.length:=by omega
   subst hi'
   rw [List.drop_length,forH] at h2
   by_cases hg2:lg st2 n=some ds
   ·rw [if_pos hg2] at h2
    cases h2
    obtain⟨y1,y2⟩:=yl H2 φ2 st2 ds.length f2 S2 hg2
    exact .inl ⟨y2 rfl,q σ H2 φ2 (f1.trans f2) e2 S2⟩
   ·rw [if_neg hg2] at h2;cases h2
end
theorem forH_inv {n:Nat}{all:List D}{g:Tg}{body:Sf}:∀ {ds:List D} (Pv:Nat->Ev->Sto->Prop) {env:Ev}{st:Sto},Pv 0 env st->(∀ i env st,Pv i env st->lg st n=some all)->
  (∀ i d env st,ds[i]?=some d->Pv i env st->∃ e1 e2 s2,setT g (.d d) env=some e1/\(body e1 st=some (.nx e2 s2)∨body e1 st=some (.ct e2 s2))/\Pv (i+1) e2 s2)->
  ∃ env' st',forH n all g body ds env st=some (.nx env' st')/\Pv ds.length env' st'
 | [],Pv,env,st,h0,hk,_=>⟨env,st,by rw [forH,if_pos (hk _ _ _ h0)],h0⟩
 | d::ds,Pv,env,st,h0,hk,hs=>by
  obtain⟨e1,e2,s2,h1,h2,h3⟩:=hs 0 d env st rfl h0
  obtain⟨e',s',h4,h5⟩:=forH_inv (g:=g) (body:=body) (ds:=ds) (fun i=>Pv (i+1)) h3 (fun i=>hk (i+1)) fun i d' env' st' hd p=>hs (i+1) d' env' st' (by simpa using hd) p
  refine⟨e',s',?_,h5⟩
  rw [forH,if_pos (hk _ _ _ h0),h1,Option.bind_some]
  rcases h2 with h2 | h2<;>(rw [h2,Option.bind_some];exact h4)
end L2
namespace Own
open PySem L2
noncomputable section
noncomputable def e_poly_from_1:Ef:=(iTupD (iCons (iV 0) (iCons (iMix (iV 1) (iV 0)) iNil)))
noncomputable def t_poly_from_1:Tf:=(iOpT dNe (iMix (iV 1) (iV 0)) (iC (.int 0)))
noncomputable def b_poly_from:Sf:=(iRet (iTupD (iCons (iV 0) (iCons (iCB dTup (iCons (iPure (iLc 1 [1] (iItems (iPure (iSortM (iV 1)))) (.nm 0) t_poly_from_1 e_poly_from_1)) iNil)) iNil))))
noncomputable def m_poly_from:Fn:=runK 2 2 b_poly_from
noncomputable def l_gathered_1:Sf:=(iPutM (iV 2) (iV 3) (iOp dAdd (iGetM (iV 2) (iV 3) (iC (.int 0))) (iV 4)))
noncomputable def b_gathered:Sf:=(iSeqS (iSet (.nm 2) iNewM) (iSeqS (iForW (iV 1) (.tp [3,4]) l_gathered_1) (iRet (iCall m_poly_from (iCons (iV 0) (iCons (iV 2) iNil))))))
noncomputable def m_gathered:Fn:=runT 5 2 b_gathered
noncomputable def b_added:Sf:=(iRet (iCall m_gathered (iCons (iOp dIx (iV 0) (iC (.int 0))) (iCons (iOp dAdd (iOp dIx (iV 0) (iC (.int 1))) (iOp dIx (iV 1) (iC (.int 1)))) iNil))))
noncomputable def m_added:Fn:=runK 2 2 b_added
noncomputable def b_joined:Sf:=(iSeqS (iIfS (iOpT dEq (iV 0) (iC (.str "both"))) (iRet (iCB dTup (iCons (iPure (iSortS (iSetOr (iSetOf (iV 1)) (iSetOf (iV 2))))) iNil))) iSkip) (iRet (iCB dTup (iCons (iPure (iSortS (iSetXor (iSetOf (iV 1)) (iSetOf (iV 2))))) iNil))))
noncomputable def m_joined:Fn:=runK 3 3 b_joined
noncomputable def e_product_of_1:Ef:=(iTupD (iCons (iCall m_joined (iCons (iV 2) (iCons (iV 3) (iCons (iV 0) iNil)))) (iCons (iOp dMul (iV 4) (iV 1)) iNil)))
noncomputable def l_product_of_1:Sf:=(iDrop (iMeth mExtL (iV 3) (iCons (iPure (iLc 2 [2,4,5] (iItems (iOp dIx (iV 1) (iC (.int 1)))) (.tp [0,1]) iYes e_product_of_1)) iNil)))
noncomputable def b_product_of:Sf:=(iSeqS (iSet (.nm 2) (iOp dIx (iV 0) (iC (.int 0)))) (iSeqS (iSet (.nm 3) (iNew (iLst iNil))) (iSeqS (iFor (iItems (iOp dIx (iV 0) (iC (.int 1)))) (.tp [4,5]) l_product_of_1) (iRet (iCall m_gathered (iCons (iV 2) (iCons (iV 3) iNil)))))))
noncomputable def m_product_of:Fn:=runT 6 2 b_product_of
noncomputable def e_often_1:Ef:=(iTupD (iCons (iV 0) (iCons (iOp dMul (iV 2) (iV 1)) iNil)))
noncomputable def b_often:Sf:=(iRet (iCall m_gathered (iCons (iOp dIx (iV 0) (iC (.int 0))) (iCons (iPure (iLc 2 [1] (iItems (iOp dIx (iV 0) (iC (.int 1)))) (.tp [0,1]) iYes e_often_1)) iNil))))
noncomputable def m_often:Fn:=runK 2 2 b_often
noncomputable def b__law_hand:Sf:=(iSeqS (iSet (.nm 2) (iC (.int 0))) (iSeqS (iIfS (iOpT dLt (iV 1) (iCB dLen (iCons (iV 0) iNil))) (iSet (.nm 2) (iOp dIx (iV 0) (iV 1))) iSkip) (iRet (iNew (iLst (iCons (iOp dIx (iPure (iLst (iCons (iC (.int 0)) (iCons (iV 2) iNil)))) (iCB dInt (iCons (iOp dGe (iV 2) (iOp dPow (iC (.int 10)) (iC (.int 18)))) iNil))) (iCons (iOp dAdd (iOp dAdd (iOp dMod (iV 2) (iC (.int 2305843009213693951))) (iOp dMul (iC (.int 7919)) (iV 1))) (iC (.int 3))) (iCons (iC (.int 0)) iNil))))))))
noncomputable def m__law_hand:Fn:=runK 3 2 b__law_hand
noncomputable def r__law_take_1:Sf:=(iSeqS (iSet (.nm 5) (iOp dAdd (iOp dAdd (iOp dMod (iV 4) (iC (.int 1000003))) (iOp dMul (iV 3) (iC (.int 99991)))) (iC (.int 11)))) (iSeqS (iSet (.nm 4) (iOp dMod (iOp dMul (iV 4) (iV 5)) (iC (.int 2305843009213693907)))) (iRet (iOp dMod (iOp dAdd (iOp dFdiv (iV 4) (iC (.int 97))) (iOp dFdiv (iV 4) (iC (.int 1000033)))) (iV 1)))))
noncomputable def b__law_take:Sf:=(iSeqS (iIfS (iOpT dGt (iOp dIx (iV 0) (iC (.int 0))) (iC (.int 0))) (iSeqS (iSet (.nm 2) (iOp dMod (iOp dIx (iV 0) (iC (.int 0))) (iV 1))) (iSeqS (iSetIx (iV 0) (iC (.int 0)) (iOp dFdiv (iOp dIx (iV 0) (iC (.int 0))) (iV 1))) (iRet (iV 2)))) iSkip) (iSeqS (iSetIx (iV 0) (iC (.int 2)) (iOp dAdd (iOp dIx (iV 0) (iC (.int 2))) (iC (.int 1)))) (iSeqS (iSet (.nm 3) (iOp dIx (iV 0) (iC (.int 2)))) (iSeqS (iSet (.nm 4) (iOp dMod (iOp dMul (iOp dIx (iV 0) (iC (.int 1))) (iOp dAdd (iOp dAdd (iC (.int 48271)) (iOp dMul (iOp dMul (iC (.int 2)) (iV 3)) (iV 3))) (iOp dMul (iC (.int 65537)) (iV 3)))) (iC (.int 2305843009213693921)))) r__law_take_1))))
noncomputable def m__law_take:Fn:=runK 6 2 b__law_take
noncomputable def b__law_pick:Sf:=(iRet (iOp dIx (iV 1) (iCall m__law_take (iCons (iV 0) (iCons (iCB dLen (iCons (iV 1) iNil)) iNil)))))
noncomputable def m__law_pick:Fn:=runK 2 2 b__law_pick
noncomputable def l__law_term_value_1:Sf:=(iSeqS (iSet (.nm 5) (iOp dMod (iOp dShr (iV 2) (iV 4)) (iC (.int 2)))) (iSet (.nm 3) (iOp dMul (iV 3) (iOp dIx (iPure (iLst (iCons (iOp dSub (iC (.int 1)) (iOp dMul (iC (.int 2)) (iV 5))) (iCons (iV 5) iNil)))) (iCB dInt (iCons (iOp dEq (iV 0) (iC (.str "both"))) iNil))))))
noncomputable def b__law_term_value:Sf:=(iSeqS (iSet (.nm 3) (iC (.int 1))) (iSeqS (iFor (iItems (iV 1)) (.nm 4) l__law_term_value_1) (iRet (iV 3))))
noncomputable def m__law_term_value:Fn:=runK 6 3 b__law_term_value
noncomputable def e__law_value_1:Ef:=(iOp dMul (iV 1) (iCall m__law_term_value (iCons (iOp dIx (iV 2) (iC (.int 0))) (iCons (iV 0) (iCons (iV 3) iNil)))))
noncomputable def b__law_value:Sf:=(iRet (iCB dSum (iCons (iPure (iLc 2 [0,1] (iItems (iOp dIx (iV 0) (iC (.int 1)))) (.tp [0,1]) iYes e__law_value_1)) iNil)))
noncomputable def m__law_value:Fn:=runK 2 2 b__law_value
noncomputable def e__law_all_terms_1:Ef:=(iOp dAdd (iV 0) (iTupD (iCons (iV 1) iNil)))
noncomputable def l__law_all_terms_1:Sf:=(iSet (.nm 1) (iOp dAdd (iV 1) (iPure (iLc 1 [2] (iItems (iV 1)) (.nm 0) iYes e__law_all_terms_1))))
noncomputable def b__law_all_terms:Sf:=(iSeqS (iSet (.nm 1) (iPure (iLst (iCons (iTupD iNil) iNil)))) (iSeqS (iFor (iRng1D (iCons (iV 0) iNil)) (.nm 2) l__law_all_terms_1) (iRet (iPure (iCL lSort2 (iCons (iV 1) iNil))))))
noncomputable def m__law_all_terms:Fn:=runK 3 1 b__law_all_terms
noncomputable def b__law_number:Sf:=(iSeqS (iIfS (iOpT dEq (iCall m__law_take (iCons (iV 0) (iCons (iC (.int 8)) iNil))) (iC (.int 0))) (iRet (iOp dMul (iOp dIx (iPure (iLst (iCons (iC (.int 1)) (iCons (iUn dNeg (iC (.int 1))) iNil)))) (iCall m__law_take (iCons (iV 0) (iCons (iC (.int 2)) iNil)))) (iOp dSub (iOp dPow (iC (.int 10)) (iC (.int 18))) (iCall m__law_take (iCons (iV 0) (iCons (iC (.int 1000)) iNil)))))) iSkip) (iRet (iCall m__law_pick (iCons (iV 0) (iCons (iPure (iLst (iCons (iC (.int 1)) (iCons (iUn dNeg (iC (.int 1))) (iCons (iC (.int 2)) (iCons (iUn dNeg (iC (.int 2))) (iCons (iC (.int 3)) (iCons (iUn dNeg (iC (.int 3))) iNil)))))))) iNil)))))
noncomputable def m__law_number:Fn:=runK 1 1 b__law_number
noncomputable def e__law_poly_1:Ef:=(iTupD (iCons (iV 0) (iCons (iCall m__law_number (iCons (iV 1) iNil)) iNil)))
noncomputable def e__law_poly_3:Ef:=(iV 0)
noncomputable def t__law_poly_2:Tf:=(iOpT dEq (iCall m__law_take (iCons (iV 1) (iCons (iV 2) iNil))) (iC (.int 0)))
noncomputable def b__law_poly:Sf:=(iSeqS (iSet (.nm 3) (iOp dAdd (iC (.int 1)) (iCall m__law_take (iCons (iV 0) (iCons (iC (.int 5)) iNil))))) (iSeqS (iSet (.nm 4) (iPure (iLc 1 [0,3] (iItems (iCall m__law_all_terms (iCons (iV 2) iNil))) (.nm 0) t__law_poly_2 e__law_poly_3))) (iRet (iTupD (iCons (iV 1) (iCons (iCB dTup (iCons (iPure (iLc 1 [0] (iItems (iV 4)) (.nm 0) iYes e__law_poly_1)) iNil)) iNil))))))
noncomputable def m__law_poly:Fn:=runK 5 3 b__law_poly
noncomputable def b__law_is_whole:Sf:=(iRet (iAndV (iCB dIsi (iCons (iV 0) (iCons (iC (.ty "int")) iNil))) (iNotV (iCB dIsi (iCons (iV 0) (iCons (iC (.ty "bool")) iNil))))))
noncomputable def m__law_is_whole:Fn:=runK 1 1 b__law_is_whole
noncomputable def e__law_is_term_1:Ef:=(iOp dLt (iV 0) (iV 1))
noncomputable def e__law_is_term_2:Ef:=(iAndV (iCall m__law_is_whole (iCons (iV 0) iNil)) (iChain dLe dLt (iC (.int 0)) (iV 0) (iC (.int 6))))
noncomputable def b__law_is_term:Sf:=(iSeqS (iIfS (iOrT (iNotT (iTru truD (iCB dIsi (iCons (iV 0) (iCons (iC (.ty "tuple")) iNil))))) (iNotT (iTru truD (iCB dAll (iCons (iPure (iLc 1 [] (iItems (iV 0)) (.nm 0) iYes e__law_is_term_2)) iNil))))) (iRet (iC (.bl false))) iSkip) (iRet (iCB dAll (iCons (iPure (iLc 2 [] (iZipD (iCons (iV 0) (iCons (iSl (iV 0) (iPs (iC (.int 1))) iPn) iNil))) (.tp [0,1]) iYes e__law_is_term_1)) iNil))))
noncomputable def m__law_is_term:Fn:=runK 1 1 b__law_is_term
noncomputable def e__law_is_poly_1:Ef:=(iOp dLt2 (iOp dIx (iV 0) (iC (.int 0))) (iOp dIx (iV 1) (iC (.int 0))))
noncomputable def l__law_is_poly_1:Sf:=(iSeqS (iIfS (iOrT (iNotT (iTru truD (iCB dIsi (iCons (iV 1) (iCons (iC (.ty "tuple")) iNil))))) (iOrT (iOpT dNe (iCB dLen (iCons (iV 1) iNil)) (iC (.int 2))) (iNotT (iTru truD (iCall m__law_is_term (iCons (iOp dIx (iV 1) (iC (.int 0))) iNil)))))) (iRet (iC (.bl false))) iSkip) (iIfS (iOrT (iNotT (iTru truD (iCall m__law_is_whole (iCons (iOp dIx (iV 1) (iC (.int 1))) iNil)))) (iOpT dEq (iOp dIx (iV 1) (iC (.int 1))) (iC (.int 0)))) (iRet (iC (.bl false))) iSkip))
noncomputable def b__law_is_poly:Sf:=(iSeqS (iIfS (iOrT (iNotT (iTru truD (iCB dIsi (iCons (iV 0) (iCons (iC (.ty "tuple")) iNil))))) (iOrT (iOpT dNe (iCB dLen (iCons (iV 0) iNil)) (iC (.int 2))) (iNotT (iTru truD (iCB dIsi (iCons (iOp dIx (iV 0) (iC (.int 0))) (iCons (iC (.ty "str")) iNil))))))) (iRet (iC (.bl false))) iSkip) (iSeqS (iIfS (iOrT (iOpT dNotIn (iOp dIx (iV 0) (iC (.int 0))) (iTupD (iCons (iC (.str "both")) (iCons (iC (.str "odd")) iNil)))) (iNotT (iTru truD (iCB dIsi (iCons (iOp dIx (iV 0) (iC (.int 1))) (iCons (iC (.ty "tuple")) iNil)))))) (iRet (iC (.bl false))) iSkip) (iSeqS (iFor (iItems (iOp dIx (iV 0) (iC (.int 1)))) (.nm 1) l__law_is_poly_1) (iRet (iCB dAll (iCons (iPure (iLc 2 [] (iZipD (iCons (iOp dIx (iV 0) (iC (.int 1))) (iCons (iSl (iOp dIx (iV 0) (iC (.int 1))) (iPs (iC (.int 1))) iPn) iNil))) (.tp [0,1]) iYes e__law_is_poly_1)) iNil))))))
noncomputable def m__law_is_poly:Fn:=runK 2 1 b__law_is_poly
noncomputable def e__law_right_1:Ef:=(iCall m__law_value (iCons (iV 1) (iCons (iV 0) iNil)))
noncomputable def b__law_right:Sf:=(iSeqS (iIfS (iOrT (iNotT (iTru truD (iCall m__law_is_poly (iCons (iV 0) iNil)))) (iOpT dNe (iOp dIx (iV 0) (iC (.int 0))) (iV 1))) (iRet (iC (.bl false))) iSkip) (iRet (iOp dEq (iPure (iLc 1 [0] (iRng1D (iCons (iC (.int 64)) iNil)) (.nm 0) iYes e__law_right_1)) (iV 2))))
noncomputable def m__law_right:Fn:=runK 3 3 b__law_right
noncomputable def e__law_times_1:Ef:=(iTupD (iCons (iV 0) (iCons (iOp dMul (iV 1) (iV 2)) iNil)))
noncomputable def b__law_times:Sf:=(iRet (iTupD (iCons (iOp dIx (iV 0) (iC (.int 0))) (iCons (iCB dTup (iCons (iPure (iLc 2 [1] (iItems (iOp dIx (iV 0) (iC (.int 1)))) (.tp [0,1]) iYes e__law_times_1)) iNil)) iNil))))
noncomputable def m__law_times:Fn:=runK 2 2 b__law_times
noncomputable def r_law_1:Sf:=(iSeqS (iIfS (iNotT (iTru truD (iCall m__law_right (iCons (iCall m_added (iCons (iV 5) (iCons (iV 6) iNil))) (iCons (iV 4) (iCons (iV 11) iNil)))))) (iRet (iC (.bl false))) iSkip) (iSeqS (iIfS (iNotT (iTru truD (iCall m__law_right (iCons (iCall m_product_of (iCons (iV 5) (iCons (iV 6) iNil))) (iCons (iV 4) (iCons (iV 12) iNil)))))) (iRet (iC (.bl false))) iSkip) (iIfS (iOrT (iNotT (iTru truD (iCall m__law_right (iCons (iCall m_often (iCons (iV 5) (iCons (iV 7) iNil))) (iCons (iV 4) (iCons (iV 13) iNil)))))) (iOpT dNe (iCB dReprN (iCons (iPure (iLst (iCons (iV 5) (iCons (iV 6) iNil)))) iNil)) (iV 10))) (iRet (iC (.bl false))) iSkip)))
noncomputable def e_law_2:Ef:=(iOp dMul (iV 1) (iV 0))
noncomputable def e_law_4:Ef:=(iOp dMul (iV 0) (iV 1))
noncomputable def e_law_6:Ef:=(iOp dAdd (iV 0) (iV 1))
noncomputable def r_law_2:Sf:=(iSeqS (iSet (.nm 10) (iCB dReprN (iCons (iPure (iLst (iCons (iV 5) (iCons (iV 6) iNil)))) iNil))) (iSeqS (iSet (.nm 11) (iPure (iLc 2 [] (iZipD (iCons (iV 8) (iCons (iV 9) iNil))) (.tp [0,1]) iYes e_law_6))) (iSeqS (iSet (.nm 12) (iPure (iLc 2 [] (iZipD (iCons (iV 8) (iCons (iV 9) iNil))) (.tp [0,1]) iYes e_law_4))) (iSeqS (iSet (.nm 13) (iPure (iLc 1 [7] (iItems (iV 8)) (.nm 0) iYes e_law_2))) r_law_1))))
noncomputable def e_law_8:Ef:=(iCall m__law_value (iCons (iV 1) (iCons (iV 0) iNil)))
noncomputable def e_law_10:Ef:=(iCall m__law_value (iCons (iV 1) (iCons (iV 0) iNil)))
noncomputable def r_law_3:Sf:=(iSeqS (iIfS (iOpT dEq (iCall m__law_take (iCons (iV 2) (iCons (iC (.int 4)) iNil))) (iC (.int 0))) (iSet (.nm 6) (iCall m__law_times (iCons (iV 5) (iCons (iCall m__law_pick (iCons (iV 2) (iCons (iPure (iLst (iCons (iUn dNeg (iC (.int 1))) (iCons (iC (.int 1)) (iCons (iUn dNeg (iC (.int 2))) (iCons (iC (.int 3)) iNil)))))) iNil))) iNil)))) iSkip) (iSeqS (iSet (.nm 7) (iCall m__law_pick (iCons (iV 2) (iCons (iPure (iLst (iCons (iC (.int 0)) (iCons (iC (.int 1)) (iCons (iUn dNeg (iC (.int 1))) (iCons (iC (.int 7)) (iCons (iUn dNeg (iC (.int 3))) (iCons (iOp dPow (iC (.int 10)) (iC (.int 19))) (iCons (iOp dSub (iCall m__law_take (iCons (iV 2) (iCons (iC (.int 2001)) iNil))) (iC (.int 1000))) iNil))))))))) iNil)))) (iSeqS (iSet (.nm 8) (iPure (iLc 1 [5] (iRng1D (iCons (iC (.int 64)) iNil)) (.nm 0) iYes e_law_10))) (iSeqS (iSet (.nm 9) (iPure (iLc 1 [6] (iRng1D (iCons (iC (.int 64)) iNil)) (.nm 0) iYes e_law_8))) r_law_2))))
noncomputable def l_law_1:Sf:=(iSeqS (iSet (.nm 2) (iCall m__law_hand (iCons (iV 0) (iCons (iV 1) iNil)))) (iSeqS (iSet (.nm 3) (iOp dIx (iPure (iLst (iCons (iCall m__law_take (iCons (iV 2) (iCons (iC (.int 5)) iNil))) (iCons (iCall m__law_take (iCons (iV 2) (iCons (iC (.int 7)) iNil))) iNil)))) (iCB dInt (iCons (iOp dEq (iCall m__law_take (iCons (iV 2) (iCons (iC (.int 8)) iNil))) (iC (.int 0))) iNil)))) (iSeqS (iSet (.nm 4) (iCall m__law_pick (iCons (iV 2) (iCons (iPure (iLst (iCons (iC (.str "both")) (iCons (iC (.str "odd")) iNil)))) iNil)))) (iSeqS (iSet (.tp [5,6]) (iTupD (iCons (iCall m__law_poly (iCons (iV 2) (iCons (iV 4) (iCons (iV 3) iNil)))) (iCons (iCall m__law_poly (iCons (iV 2) (iCons (iV 4) (iCons (iV 3) iNil)))) iNil)))) r_law_3))))
noncomputable def b_law:Sf:=(iSeqS (iFor (iRng1D (iCons (iCB dMx (iCons (iC (.int 1)) (iCons (iCB dMin (iCons (iC (.int 3)) (iCons (iCB dLen (iCons (iV 0) iNil)) iNil))) iNil))) iNil)) (.nm 1) l_law_1) (iRet (iC (.bl true))))
noncomputable def m_law:Fn:=runT 14 1 b_law
end
end Own
section
set_option maxHeartbeats 2000000
namespace Own
open PySem L2
noncomputable def top (i:Nat):Stmt:=PySem.Challenge.pw_signpoly_k14_sums_and_products.main.body.getD i (.Pass ⟨0,0,0,0⟩)
abbrev s_poly_from:Stmt:=top 1
abbrev s_gathered:Stmt:=top 3
abbrev s_added:Stmt:=top 4
abbrev s_joined:Stmt:=top 5
abbrev s_product_of:Stmt:=top 6
abbrev s_often:Stmt:=top 7
abbrev s__law_hand:Stmt:=top 9
abbrev s__law_take:Stmt:=top 10
abbrev s__law_pick:Stmt:=top 11
abbrev s__law_term_value:Stmt:=top 12
abbrev s__law_value:Stmt:=top 13
abbrev s__law_all_terms:Stmt:=top 14
abbrev s__law_number:Stmt:=top 15
abbrev s__law_poly:Stmt:=top 16
abbrev s__law_is_whole:Stmt:=top 17
abbrev s__law_is_term:Stmt:=top 18
abbrev s__law_is_poly:Stmt:=top 19
abbrev s__law_right:Stmt:=top 20
abbrev s__law_times:Stmt:=top 21
abbrev s_law:Stmt:=top 22
theorem sc_poly_from:FnScope ["kind","numbers"] ["kind","numbers"] (defScope s_poly_from):=⟨rfl,rfl,rfl,by decide +kernel,rfl,by decide +kernel,by decide +kernel⟩
theorem sc_gathered:FnScope ["kind","parts","numbers","term","number"] ["kind","parts"] (defScope s_gathered):=⟨rfl,rfl,rfl,by decide +kernel,rfl,by decide +kernel,by decide +kernel⟩
theorem sc_added:FnScope ["one","other"] ["one","other"] (defScope s_added):=⟨rfl,rfl,rfl,by decide +kernel,rfl,by decide +kernel,by decide +kernel⟩
theorem sc_joined:FnScope ["kind","one","other"] ["kind","one","other"] (defScope s_joined):=⟨rfl,rfl,rfl,by decide +kernel,rfl,by decide +kernel,by decide +kernel⟩
theorem sc_product_of:FnScope ["one","other","kind","parts","term","number"] ["one","other"] (defScope s_product_of):=⟨rfl,rfl,rfl,by decide +kernel,rfl,by decide +kernel,by decide +kernel⟩
theorem sc_often:FnScope ["poly","number"] ["poly","number"] (defScope s_often):=⟨rfl,rfl,rfl,by decide +kernel,rfl,by decide +kernel,by decide +kernel⟩
theorem sc__law_hand:FnScope ["_law_script","_law_k","_law_cell"] ["_law_script","_law_k"] (defScope s__law_hand):=⟨rfl,rfl,rfl,by decide +kernel,rfl,by decide +kernel,by decide +kernel⟩
theorem sc__law_take:FnScope ["_law_hand_here","_law_many","_law_digit","_law_turn","_law_mixed","_law_other"] ["_law_hand_here","_law_many"] (defScope s__law_take):=⟨rfl,rfl,rfl,by decide +kernel,rfl,by decide +kernel,by decide +kernel⟩
theorem sc__law_pick:FnScope ["_law_hand_here","_law_some"] ["_law_hand_here","_law_some"] (defScope s__law_pick):=⟨rfl,rfl,rfl,by decide +kernel,rfl,by decide +kernel,by decide +kernel⟩
theorem sc__law_term_value:FnScope ["_law_kind","_law_term","_law_row","_law_value_here","_law_k","_law_on"] ["_law_kind","_law_term","_law_row"] (defScope s__law_term_value):=⟨rfl,rfl,rfl,by decide +kernel,rfl,by decide +kernel,by decide +kernel⟩
theorem sc__law_value:FnScope ["_law_poly_here","_law_row"] ["_law_poly_here","_law_row"] (defScope s__law_value):=⟨rfl,rfl,rfl,by decide +kernel,rfl,by decide +kernel,by decide +kernel⟩
theorem sc__law_all_terms:FnScope ["_law_n","_law_found","_law_k"] ["_law_n"] (defScope s__law_all_terms):=⟨rfl,rfl,rfl,by decide +kernel,rfl,by decide +kernel,by decide +kernel⟩
theorem sc__law_number:FnScope ["_law_hand_here"] ["_law_hand_here"] (defScope s__law_number):=⟨rfl,rfl,rfl,by decide +kernel,rfl,by decide +kernel,by decide +kernel⟩
theorem sc__law_poly:FnScope ["_law_hand_here","_law_kind","_law_n","_law_share","_law_some"] ["_law_hand_here","_law_kind","_law_n"] (defScope s__law_poly):=⟨rfl,rfl,rfl,by decide +kernel,rfl,by decide +kernel,by decide +kernel⟩
theorem sc__law_is_whole:FnScope ["_law_thing"] ["_law_thing"] (defScope s__law_is_whole):=⟨rfl,rfl,rfl,by decide +kernel,rfl,by decide +kernel,by decide +kernel⟩
theorem sc__law_is_term:FnScope ["_law_thing"] ["_law_thing"] (defScope s__law_is_term):=⟨rfl,rfl,rfl,by decide +kernel,rfl,by decide +kernel,by decide +kernel⟩
theorem sc__law_is_poly:FnScope ["_law_thing","_law_part"] ["_law_thing"] (defScope s__law_is_poly):=⟨rfl,rfl,rfl,by decide +kernel,rfl,by decide +kernel,by decide +kernel⟩
theorem sc__law_right:FnScope ["_law_found","_law_kind","_law_due"] ["_law_found","_law_kind","_law_due"] (defScope s__law_right):=⟨rfl,rfl,rfl,by decide +kernel,rfl,by decide +kernel,by decide +kernel⟩
theorem sc__law_times:FnScope ["_law_poly_here","_law_number_here"] ["_law_poly_here","_law_number_here"] (defScope s__law_times):=⟨rfl,rfl,rfl,by decide +kernel,rfl,by decide +kernel,by decide +kernel⟩
theorem sc_law:FnScope ["_law_script","_law_k","_law_hand_here","_law_n","_law_kind","_law_one","_law_other","_law_number_here","_law_values","_law_more","_law_text","_law_sums","_law_products","_law_times_here"] ["_law_script"] (defScope s_law):=⟨rfl,rfl,rfl,by decide +kernel,rfl,by decide +kernel,by decide +kernel⟩
set_option genSizeOf false in
set_option genInjectivity false in
structure Adr where
 f_poly_from:Addr
 fd_poly_from:FuncData
 f_gathered:Addr
 fd_gathered:FuncData
 f_added:Addr
 fd_added:FuncData
 f_joined:Addr
 fd_joined:FuncData
 f_product_of:Addr
 fd_product_of:FuncData
 f_often:Addr
 fd_often:FuncData
 f__law_hand:Addr
 fd__law_hand:FuncData
 f__law_take:Addr
 fd__law_take:FuncData
 f__law_pick:Addr
 fd__law_pick:FuncData
 f__law_term_value:Addr
 fd__law_term_value:FuncData
 f__law_value:Addr
 fd__law_value:FuncData
 f__law_all_terms:Addr
 fd__law_all_terms:FuncData
 f__law_number:Addr
 fd__law_number:FuncData
 f__law_poly:Addr
 fd__law_poly:FuncData
 f__law_is_whole:Addr
 fd__law_is_whole:FuncData
 f__law_is_term:Addr
 fd__law_is_term:FuncData
 f__law_is_poly:Addr
 fd__law_is_poly:FuncData
 f__law_right:Addr
 fd__law_right:FuncData
 f__law_times:Addr
 fd__law_times:FuncData
 f_law:Addr
 fd_law:FuncData
structure Txt (K:PySem.W.Frag) (mg:Str->Option Value) (t:Adr):Prop where
 F_poly_from:Fun K "poly_from" "poly_from" s_poly_from t.f_poly_from t.fd_poly_from
 m_poly_from:mg "poly_from" = some (.ref t.f_poly_from)
 b_poly_from:Binds K t.fd_poly_from ["kind","numbers"] []
 F_gathered:Fun K "gathered" "gathered" s_gathered t.f_gathered t.fd_gathered
 m_gathered:mg "gathered" = some (.ref t.f_gathered)
 b_gathered:Binds K t.fd_gathered ["kind","parts"] []
 F_added:Fun K "added" "added" s_added t.f_added t.fd_added
 m_added:mg "added" = some (.ref t.f_added)
 b_added:Binds K t.fd_added ["one","other"] []
 F_joined:Fun K "joined" "joined" s_joined t.f_joined t.fd_joined
 m_joined:mg "joined" = some (.ref t.f_joined)
 b_joined:Binds K t.fd_joined ["kind","one","other"] []
 F_product_of:Fun K "product_of" "product_of" s_product_of t.f_product_of t.fd_product_of
 m_product_of:mg "product_of" = some (.ref t.f_product_of)
 b_product_of:Binds K t.fd_product_of ["one","other"] []
 F_often:Fun K "often" "often" s_often t.f_often t.fd_often
 m_often:mg "often" = some (.ref t.f_often)
 b_often:Binds K t.fd_often ["poly","number"] []
 F__law_hand:Fun K "_law_hand" "_law_hand" s__law_hand t.f__law_hand t.fd__law_hand
 m__law_hand:mg "_law_hand" = some (.ref t.f__law_hand)
 b__law_hand:Binds K t.fd__law_hand ["_law_script","_law_k"] []
 F__law_take:Fun K "_law_take" "_law_take" s__law_take t.f__law_take t.fd__law_take
 m__law_take:mg "_law_take" = some (.ref t.f__law_take)
 b__law_take:Binds K t.fd__law_take ["_law_hand_here","_law_many"] []
 F__law_pick:Fun K "_law_pick" "_law_pick" s__law_pick t.f__law_pick t.fd__law_pick
 m__law_pick:mg "_law_pick" = some (.ref t.f__law_pick)
 b__law_pick:Binds K t.fd__law_pick ["_law_hand_here","_law_some"] []
 F__law_term_value:Fun K "_law_term_value" "_law_term_value" s__law_term_value t.f__law_term_value t.fd__law_term_value
 m__law_term_value:mg "_law_term_value" = some (.ref t.f__law_term_value)
 b__law_term_value:Binds K t.fd__law_term_value ["_law_kind","_law_term","_law_row"] []
 F__law_value:Fun K "_law_value" "_law_value" s__law_value t.f__law_value t.fd__law_value
 m__law_value:mg "_law_value" = some (.ref t.f__law_value)
 b__law_value:Binds K t.fd__law_value ["_law_poly_here","_law_row"] []
 F__law_all_terms:Fun K "_law_all_terms" "_law_all_terms" s__law_all_terms t.f__law_all_terms t.fd__law_all_terms
 m__law_all_terms:mg "_law_all_terms" = some (.ref t.f__law_all_terms)
 b__law_all_terms:Binds K t.fd__law_all_terms ["_law_n"] []
 F__law_number:Fun K "_law_number" "_law_number" s__law_number t.f__law_number t.fd__law_number
 m__law_number:mg "_law_number" = some (.ref t.f__law_number)
 b__law_number:Binds K t.fd__law_number ["_law_hand_here"] []
 F__law_poly:Fun K "_law_poly" "_law_poly" s__law_poly t.f__law_poly t.fd__law_poly
 m__law_poly:mg "_law_poly" = some (.ref t.f__law_poly)
 b__law_poly:Binds K t.fd__law_poly ["_law_hand_here","_law_kind","_law_n"] []
 F__law_is_whole:Fun K "_law_is_whole" "_law_is_whole" s__law_is_whole t.f__law_is_whole t.fd__law_is_whole
 m__law_is_whole:mg "_law_is_whole" = some (.ref t.f__law_is_whole)
 b__law_is_whole:Binds K t.fd__law_is_whole ["_law_thing"] []
 F__law_is_term:Fun K "_law_is_term" "_law_is_term" s__law_is_term t.f__law_is_term t.fd__law_is_term
 m__law_is_term:mg "_law_is_term" = some (.ref t.f__law_is_term)
 b__law_is_term:Binds K t.fd__law_is_term ["_law_thing"] []
 F__law_is_poly:Fun K "_law_is_poly" "_law_is_poly" s__law_is_poly t.f__law_is_poly t.fd__law_is_poly
 m__law_is_poly:mg "_law_is_poly" = some (.ref t.f__law_is_poly)
 b__law_is_poly:Binds K t.fd__law_is_poly ["_law_thing"] []
 F__law_right:Fun K "_law_right" "_law_right" s__law_right t.f__law_right t.fd__law_right
 m__law_right:mg "_law_right" = some (.ref t.f__law_right)
 b__law_right:Binds K t.fd__law_right ["_law_found","_law_kind","_law_due"] []
 F__law_times:Fun K "_law_times" "_law_times" s__law_times t.f__law_times t.fd__law_times
 m__law_times:mg "_law_times" = some (.ref t.f__law_times)
 b__law_times:Binds K t.fd__law_times ["_law_poly_here","_law_number_here"] []
 F_law:Fun K "law" "law" s_law t.f_law t.fd_law
 m_law:mg "law" = some (.ref t.f_law)
 b_law:Binds K t.fd_law ["_law_script"] []
 z_all:mg "all" = none
 z_bool:mg "bool" = none
 z_int:mg "int" = none
 z_isinstance:mg "isinstance" = none
 z_len:mg "len" = none
 z_max:mg "max" = none
 z_min:mg "min" = none
 z_range:mg "range" = none
 z_repr:mg "repr" = none
 z_set:mg "set" = none
 z_sorted:mg "sorted" = none
 z_str:mg "str" = none
 z_sum:mg "sum" = none
 z_tuple:mg "tuple" = none
 z_zip:mg "zip" = none
section
variable {P:Program}{w:World}{K:PySem.W.Frag}{mg:Str->Option Value}{base:Heap}{t:Adr}
theorem body_poly_from (T:Txt K mg t) (cdv:Value) (A:Around) (outer:List Env) (s:Shared) (H:Hp) (E:XK) (hr:Room (0) (A.deeper (PyProof.Rows.envOfC "poly_from" (defScope s_poly_from) s.heap.objs.size t.f_poly_from cdv))):ISs K (cxOf CX0 P w K mg base ["kind","numbers"] "poly_from" (defScope s_poly_from) t.f_poly_from cdv A outer s H E).nox (defBody s_poly_from) b_poly_from:=
 (iss_one (is_ret (ie_tup (ia_cons (iv 0) (ia_cons (ie_ct (cd_tup rfl) rfl T.z_tuple PyProof.Rows.boot_tuple (ia_cons (il_pure (il_lc (lc_mk (defScope s_poly_from).names ["kind","numbers"] ["term","numbers"] 1 [1] rfl rfl rfl (by decide +kernel)) rfl (by decide) (ii_seq (il_pure (il_sortM hr rfl T.z_sorted (iv 1) rfl rfl rfl)) rfl) (fun _ _ _ _ _=>(ig_name (pg_name (i:=0) (show List.Nodup (α:=Str) ["term","numbers"] by decide +kernel) rfl (by first | exact Or.inl rfl | exact Or.inr rfl)))) (fun _ _ _ _ _=>(its_one (it_cmp (od_ne hr rfl) (ie_mix hr (iv 1) (iv 0) (fun _ _=>rfl)) ie_int (nomark _)))) (fun _ _ _ _ _=>(ie_tup (ia_cons (iv 0) (ia_cons (ie_mix hr (iv 1) (iv 0) (fun _ _=>rfl)) ia_nil rfl) rfl))) (fun _=>rfl))) ia_nil rfl) (by decide) (by decide) rfl rfl) ia_nil rfl) rfl))))
theorem ok_poly_from (T:Txt K mg t):FnOk P w K mg base CX0 1 t.f_poly_from t.fd_poly_from ["kind","numbers"] (spI K m_poly_from):=
 show FnOk P w K mg base CX0 1 t.f_poly_from t.fd_poly_from ["kind","numbers"] (spI K (runK (List.length (α:=Str) ["kind","numbers"]) (List.length (α:=Str) ["kind","numbers"]) b_poly_from)) from fn_k (N:=["kind","numbers"]) (ps:=["kind","numbers"]) (b:=b_poly_from) T.F_poly_from sc_poly_from (fun cdv A outer s H E hr=>body_poly_from T cdv A outer s H E hr)
theorem body_gathered (T:Txt K mg t) (cdv:Value) (A:Around) (outer:List Env) (s:Shared) (H:Hp) (E:XK) (hr:Room (1) (A.deeper (PyProof.Rows.envOfC "gathered" (defScope s_gathered) s.heap.objs.size t.f_gathered cdv))):ISs K (cxOf CX0 P w K mg base ["kind","parts","numbers","term","number"] "gathered" (defScope s_gathered) t.f_gathered cdv A outer s H E).nox (defBody s_gathered) b_gathered:=
 (iss_cons (is_set (i:=2) sc_gathered.nd rfl (by first | exact Or.inl rfl | exact Or.inr rfl) ie_newM rfl (by first | exact .inl rfl | exact .inr rfl)) (iss_cons (is_forW (iv 1) (ii_seq (iv 1) rfl) (ig_tup (igs_cons (pg_name (i:=3) sc_gathered.nd rfl (by first | exact Or.inl rfl | exact Or.inr rfl)) (igs_cons (pg_name (i:=4) sc_gathered.nd rfl (by first | exact Or.inl rfl | exact Or.inr rfl)) igs_nil)) rfl rfl rfl rfl rfl) (iss_one (is_putM hr (iv 2) (iv 3) (ie_op (od_add rfl) (ie_getM hr (iv 2) (iv 3) ie_int ⟨rfl,rfl,rfl,rfl⟩) (iv 4)) rfl)) PassesOwn.never rfl (fun _=>rfl) rfl) (iss_one (is_ret (ie_call (ok_poly_from T) (by decide) hr rfl T.m_poly_from T.F_poly_from.kp T.b_poly_from (ia_cons (iv 0) (ia_cons (iv 2) ia_nil rfl) rfl) (by decide) rfl rfl)))))
theorem ok_gathered (T:Txt K mg t):FnOk P w K mg base CX0 2 t.f_gathered t.fd_gathered ["kind","parts"] (spI K m_gathered):=
 show FnOk P w K mg base CX0 2 t.f_gathered t.fd_gathered ["kind","parts"] (spI K (runT (List.length (α:=Str) ["kind","parts","numbers","term","number"]) (List.length (α:=Str) ["kind","parts"]) b_gathered)) from fn_t (N:=["kind","parts","numbers","term","number"]) (ps:=["kind","parts"]) (b:=b_gathered) T.F_gathered sc_gathered (fun cdv A outer s H E hr=>body_gathered T cdv A outer s H E hr)
theorem body_added (T:Txt K mg t) (cdv:Value) (A:Around) (outer:List Env) (s:Shared) (H:Hp) (E:XK) (hr:Room (2) (A.deeper (PyProof.Rows.envOfC "added" (defScope s_added) s.heap.objs.size t.f_added cdv))):ISs K (cxOf CX0 P w K mg base ["one","other"] "added" (defScope s_added) t.f_added cdv A outer s H E).nox (defBody s_added) b_added:=
 (iss_one (is_ret (ie_call (ok_gathered T) (by decide) hr rfl T.m_gathered T.F_gathered.kp T.b_gathered (ia_cons (ie_ix (iv 0) ie_int rfl rfl) (ia_cons (ie_op (od_add rfl) (ie_ix (iv 0) ie_int rfl rfl) (ie_ix (iv 1) ie_int rfl rfl)) ia_nil rfl) rfl) (by decide) rfl rfl)))
theorem ok_added (T:Txt K mg t):FnOk P w K mg base CX0 3 t.f_added t.fd_added ["one","other"] (spI K m_added):=
 show FnOk P w K mg base CX0 3 t.f_added t.fd_added ["one","other"] (spI K (runK (List.length (α:=Str) ["one","other"]) (List.length (α:=Str) ["one","other"]) b_added)) from fn_k (N:=["one","other"]) (ps:=["one","other"]) (b:=b_added) T.F_added sc_added (fun cdv A outer s H E hr=>body_added T cdv A outer s H E hr)
theorem body_joined (T:Txt K mg t) (cdv:Value) (A:Around) (outer:List Env) (s:Shared) (H:Hp) (E:XK) (hr:Room (0) (A.deeper (PyProof.Rows.envOfC "joined" (defScope s_joined) s.heap.objs.size t.f_joined cdv))):ISs K (cxOf CX0 P w K mg base ["kind","one","other"] "joined" (defScope s_joined) t.f_joined cdv A outer s H E).nox (defBody s_joined) b_joined:=
 (iss_cons (is_if (it_cmp (od_eq hr rfl) (iv 0) ie_str (nomark _)) (iss_one (is_ret (ie_ct (cd_tup rfl) rfl T.z_tuple PyProof.Rows.boot_tuple (ia_cons (il_pure (il_sortS rfl T.z_sorted (ix_or (ix_set rfl T.z_set (iv 1) rfl rfl rfl) (ix_set rfl T.z_set (iv 2) rfl rfl rfl)) rfl rfl)) ia_nil rfl) (by decide) (by decide) rfl rfl))) iss_nil) (iss_one (is_ret (ie_ct (cd_tup rfl) rfl T.z_tuple PyProof.Rows.boot_tuple (ia_cons (il_pure (il_sortS rfl T.z_sorted (ix_xor (ix_set rfl T.z_set (iv 1) rfl rfl rfl) (ix_set rfl T.z_set (iv 2) rfl rfl rfl)) rfl rfl)) ia_nil rfl) (by decide) (by decide) rfl rfl))))
theorem ok_joined (T:Txt K mg t):FnOk P w K mg base CX0 1 t.f_joined t.fd_joined ["kind","one","other"] (spI K m_joined):=
 show FnOk P w K mg base CX0 1 t.f_joined t.fd_joined ["kind","one","other"] (spI K (runK (List.length (α:=Str) ["kind","one","other"]) (List.length (α:=Str) ["kind","one","other"]) b_joined)) from fn_k (N:=["kind","one","other"]) (ps:=["kind","one","other"]) (b:=b_joined) T.F_joined sc_joined (fun cdv A outer s H E hr=>body_joined T cdv A outer s H E hr)
theorem body_product_of (T:Txt K mg t) (cdv:Value) (A:Around) (outer:List Env) (s:Shared) (H:Hp) (E:XK) (hr:Room (2) (A.deeper (PyProof.Rows.envOfC "product_of" (defScope s_product_of) s.heap.objs.size t.f_product_of cdv))):ISs K (cxOf CX0 P w K mg base ["one","other","kind","parts","term","number"] "product_of" (defScope s_product_of) t.f_product_of cdv A outer s H E).nox (defBody s_product_of) b_product_of:=
 (iss_cons (is_set (i:=2) sc_product_of.nd rfl (by first | exact Or.inl rfl | exact Or.inr rfl) (ie_ix (iv 0) ie_int rfl rfl) rfl (by first | exact .inl rfl | exact .inr rfl)) (iss_cons (is_set (i:=3) sc_product_of.nd rfl (by first | exact Or.inl rfl | exact Or.inr rfl) (il_new (il_lst ia_nil)) rfl (by first | exact .inl rfl | exact .inr rfl)) (iss_cons (is_for (ii_seq (ie_ix (iv 0) ie_int rfl rfl) rfl) (ig_tup (igs_cons (pg_name (i:=4) sc_product_of.nd rfl (by first | exact Or.inl rfl | exact Or.inr rfl)) (igs_cons (pg_name (i:=5) sc_product_of.nd rfl (by first | exact Or.inl rfl | exact Or.inr rfl)) igs_nil)) rfl rfl rfl rfl rfl) (iss_one (is_expr (ie_extL (iv 3) (ia_cons (il_pure (il_lc (lc_mk (defScope s_product_of).names ["one","other","kind","parts","term","number"] ["second","times","kind","term","number"] 2 [2,4,5] rfl rfl rfl (by decide +kernel)) rfl (by decide) (ii_seq (ie_ix (iv 1) ie_int rfl rfl) rfl) (fun _ _ _ _ _=>(ig_tup (igs_cons (pg_name (i:=0) (show List.Nodup (α:=Str) ["second","times","kind","term","number"] by decide +kernel) rfl (by first | exact Or.inl rfl | exact Or.inr rfl)) (igs_cons (pg_name (i:=1) (show List.Nodup (α:=Str) ["second","times","kind","term","number"] by decide +kernel) rfl (by first | exact Or.inl rfl | exact Or.inr rfl)) igs_nil)) rfl rfl rfl rfl rfl)) (fun _ _ _ _ _=>its_nil) (fun _ _ _ _ _=>(ie_tup (ia_cons (ie_call (ok_joined T) (by decide) hr rfl T.m_joined T.F_joined.kp T.b_joined (ia_cons (iv 2) (ia_cons (iv 3) (ia_cons (iv 0) ia_nil rfl) rfl) rfl) (by decide) rfl rfl) (ia_cons (ie_op (od_mul rfl) (iv 4) (iv 1)) ia_nil rfl) rfl))) (fun _=>rfl))) ia_nil rfl) rfl rfl (by decide) rfl rfl) rfl)) PassesOwn.never rfl (fun _=>rfl)) (iss_one (is_ret (ie_call (ok_gathered T) (by decide) hr rfl T.m_gathered T.F_gathered.kp T.b_gathered (ia_cons (iv 2) (ia_cons (iv 3) ia_nil rfl) rfl) (by decide) rfl rfl))))))
theorem ok_product_of (T:Txt K mg t):FnOk P w K mg base CX0 3 t.f_product_of t.fd_product_of ["one","other"] (spI K m_product_of):=
 show FnOk P w K mg base CX0 3 t.f_product_of t.fd_product_of ["one","other"] (spI K (runT (List.length (α:=Str) ["one","other","kind","parts","term","number"]) (List.length (α:=Str) ["one","other"]) b_product_of)) from fn_t (N:=["one","other","kind","parts","term","number"]) (ps:=["one","other"]) (b:=b_product_of) T.F_product_of sc_product_of (fun cdv A outer s H E hr=>body_product_of T cdv A outer s H E hr)
theorem body_often (T:Txt K mg t) (cdv:Value) (A:Around) (outer:List Env) (s:Shared) (H:Hp) (E:XK) (hr:Room (2) (A.deeper (PyProof.Rows.envOfC "often" (defScope s_often) s.heap.objs.size t.f_often cdv))):ISs K (cxOf CX0 P w K mg base ["poly","number"] "often" (defScope s_often) t.f_often cdv A outer s H E).nox (defBody s_often) b_often:=
 (iss_one (is_ret (ie_call (ok_gathered T) (by decide) hr rfl T.m_gathered T.F_gathered.kp T.b_gathered (ia_cons (ie_ix (iv 0) ie_int rfl rfl) (ia_cons (il_pure (il_lc (lc_mk (defScope s_often).names ["poly","number"] ["term","times","number"] 2 [1] rfl rfl rfl (by decide +kernel)) rfl (by decide) (ii_seq (ie_ix (iv 0) ie_int rfl rfl) rfl) (fun _ _ _ _ _=>(ig_tup (igs_cons (pg_name (i:=0) (show List.Nodup (α:=Str) ["term","times","number"] by decide +kernel) rfl (by first | exact Or.inl rfl | exact Or.inr rfl)) (igs_cons (pg_name (i:=1) (show List.Nodup (α:=Str) ["term","times","number"] by decide +kernel) rfl (by first | exact Or.inl rfl | exact Or.inr rfl)) igs_nil)) rfl rfl rfl rfl rfl)) (fun _ _ _ _ _=>its_nil) (fun _ _ _ _ _=>(ie_tup (ia_cons (iv 0) (ia_cons (ie_op (od_mul rfl) (iv 2) (iv 1)) ia_nil rfl) rfl))) (fun _=>rfl))) ia_nil rfl) rfl) (by decide) rfl rfl)))
theorem ok_often (T:Txt K mg t):FnOk P w K mg base CX0 3 t.f_often t.fd_often ["poly","number"] (spI K m_often):=
 show FnOk P w K mg base CX0 3 t.f_often t.fd_often ["poly","number"] (spI K (runK (List.length (α:=Str) ["poly","number"]) (List.length (α:=Str) ["poly","number"]) b_often)) from fn_k (N:=["poly","number"]) (ps:=["poly","number"]) (b:=b_often) T.F_often sc_often (fun cdv A outer s H E hr=>body_often T cdv A outer s H E hr)
theorem body__law_hand (T:Txt K mg t) (cdv:Value) (A:Around) (outer:List Env) (s:Shared) (H:Hp) (E:XK) (hr:Room (0) (A.deeper (PyProof.Rows.envOfC "_law_hand" (defScope s__law_hand) s.heap.objs.size t.f__law_hand cdv))):ISs K (cxOf CX0 P w K mg base ["_law_script","_law_k","_law_cell"] "_law_hand" (defScope s__law_hand) t.f__law_hand cdv A outer s H E).nox (defBody s__law_hand) b__law_hand:=
 (iss_cons (is_set (i:=2) sc__law_hand.nd rfl (by first | exact Or.inl rfl | exact Or.inr rfl) ie_int rfl (by first | exact .inl rfl | exact .inr rfl)) (iss_cons (is_if (it_cmp od_lt (iv 1) (ie_cb (cd_len rfl) rfl T.z_len PySem.boot_len (ia_cons (iv 0) ia_nil rfl) (by decide) (by decide) rfl rfl) (nomark _)) (iss_one (is_set (i:=2) sc__law_hand.nd rfl (by first | exact Or.inl rfl | exact Or.inr rfl) (ie_ix (iv 0) (iv 1) rfl rfl) rfl (by first | exact .inl rfl | exact .inr rfl))) iss_nil) (iss_one (is_ret (il_new (il_lst (ia_cons (ie_ix (il_pure (il_lst (ia_cons ie_int (ia_cons (iv 2) ia_nil rfl) rfl))) (ie_ct cd_int rfl T.z_int PyProof.Rows.boot_int (ia_cons (ie_cmp od_ge (iv 2) (ie_op od_pow ie_int ie_int) (nomark _)) ia_nil rfl) (by decide) (by decide) rfl rfl) rfl rfl) (ia_cons (ie_op (od_add rfl) (ie_op (od_add rfl) (ie_op od_mod (iv 2) ie_int) (ie_op (od_mul rfl) ie_int (iv 1))) ie_int) (ia_cons ie_int ia_nil rfl) rfl) rfl)))))))
theorem ok__law_hand (T:Txt K mg t):FnOk P w K mg base CX0 1 t.f__law_hand t.fd__law_hand ["_law_script","_law_k"] (spI K m__law_hand):=
 show FnOk P w K mg base CX0 1 t.f__law_hand t.fd__law_hand ["_law_script","_law_k"] (spI K (runK (List.length (α:=Str) ["_law_script","_law_k","_law_cell"]) (List.length (α:=Str) ["_law_script","_law_k"]) b__law_hand)) from fn_k (N:=["_law_script","_law_k","_law_cell"]) (ps:=["_law_script","_law_k"]) (b:=b__law_hand) T.F__law_hand sc__law_hand (fun cdv A outer s H E hr=>body__law_hand T cdv A outer s H E hr)
theorem body__law_take (T:Txt K mg t) (cdv:Value) (A:Around) (outer:List Env) (s:Shared) (H:Hp) (E:XK) (hr:Room (0) (A.deeper (PyProof.Rows.envOfC "_law_take" (defScope s__law_take) s.heap.objs.size t.f__law_take cdv))):ISs K (cxOf CX0 P w K mg base ["_law_hand_here","_law_many","_law_digit","_law_turn","_law_mixed","_law_other"] "_law_take" (defScope s__law_take) t.f__law_take cdv A outer s H E).nox (defBody s__law_take) b__law_take:=
 (iss_cons (is_if (it_cmp od_gt (ie_ix (iv 0) ie_int rfl rfl) ie_int (nomark _)) (iss_cons (is_set (i:=2) sc__law_take.nd rfl (by first | exact Or.inl rfl | exact Or.inr rfl) (ie_op od_mod (ie_ix (iv 0) ie_int rfl rfl) (iv 1)) rfl (by first | exact .inl rfl | exact .inr rfl)) (iss_cons (is_setIx (iv 0) ie_int (ie_op od_fdiv (ie_ix (iv 0) ie_int rfl rfl) (iv 1)) rfl rfl rfl) (iss_one (is_ret (iv 2))))) iss_nil) (iss_cons (is_setIx (iv 0) ie_int (ie_op (od_add rfl) (ie_ix (iv 0) ie_int rfl rfl) ie_int) rfl rfl rfl) (iss_cons (is_set (i:=3) sc__law_take.nd rfl (by first | exact Or.inl rfl | exact Or.inr rfl) (ie_ix (iv 0) ie_int rfl rfl) rfl (by first | exact .inl rfl | exact .inr rfl)) (iss_cons (is_set (i:=4) sc__law_take.nd rfl (by first | exact Or.inl rfl | exact Or.inr rfl) (ie_op od_mod (ie_op (od_mul rfl) (ie_ix (iv 0) ie_int rfl rfl) (ie_op (od_add rfl) (ie_op (od_add rfl) ie_int (ie_op (od_mul rfl) (ie_op (od_mul rfl) ie_int (iv 3)) (iv 3))) (ie_op (od_mul rfl) ie_int (iv 3)))) ie_int) rfl (by first | exact .inl rfl | exact .inr rfl)) (iss_cons (is_set (i:=5) sc__law_take.nd rfl (by first | exact Or.inl rfl | exact Or.inr rfl) (ie_op (od_add rfl) (ie_op (od_add rfl) (ie_op od_mod (iv 4) ie_int) (ie_op (od_mul rfl) (iv 3) ie_int)) ie_int) rfl (by first | exact .inl rfl | exact .inr rfl)) (iss_cons (is_set (i:=4) sc__law_take.nd rfl (by first | exact Or.inl rfl | exact Or.inr rfl) (ie_op od_mod (ie_op (od_mul rfl) (iv 4) (iv 5)) ie_int) rfl (by first | exact .inl rfl | exact .inr rfl)) (iss_one (is_ret (ie_op od_mod (ie_op (od_add rfl) (ie_op od_fdiv (iv 4) ie_int) (ie_op od_fdiv (iv 4) ie_int)) (iv 1))))))))))
theorem ok__law_take (T:Txt K mg t):FnOk P w K mg base CX0 1 t.f__law_take t.fd__law_take ["_law_hand_here","_law_many"] (spI K m__law_take):=
 show FnOk P w K mg base CX0 1 t.f__law_take t.fd__law_take ["_law_hand_here","_law_many"] (spI K (runK (List.length (α:=Str) ["_law_hand_here","_law_many","_law_digit","_law_turn","_law_mixed","_law_other"]) (List.length (α:=Str) ["_law_hand_here","_law_many"]) b__law_take)) from fn_k (N:=["_law_hand_here","_law_many","_law_digit","_law_turn","_law_mixed","_law_other"]) (ps:=["_law_hand_here","_law_many"]) (b:=b__law_take) T.F__law_take sc__law_take (fun cdv A outer s H E hr=>body__law_take T cdv A outer s H E hr)
theorem body__law_pick (T:Txt K mg t) (cdv:Value) (A:Around) (outer:List Env) (s:Shared) (H:Hp) (E:XK) (hr:Room (1) (A.deeper (PyProof.Rows.envOfC "_law_pick" (defScope s__law_pick) s.heap.objs.size t.f__law_pick cdv))):ISs K (cxOf CX0 P w K mg base ["_law_hand_here","_law_some"] "_law_pick" (defScope s__law_pick) t.f__law_pick cdv A outer s H E).nox (defBody s__law_pick) b__law_pick:=
 (iss_one (is_ret (ie_ix (iv 1) (ie_call (ok__law_take T) (by decide) hr rfl T.m__law_take T.F__law_take.kp T.b__law_take (ia_cons (iv 0) (ia_cons (ie_cb (cd_len rfl) rfl T.z_len PySem.boot_len (ia_cons (iv 1) ia_nil rfl) (by decide) (by decide) rfl rfl) ia_nil rfl) rfl) (by decide) rfl rfl) rfl rfl)))
theorem ok__law_pick (T:Txt K mg t):FnOk P w K mg base CX0 2 t.f__law_pick t.fd__law_pick ["_law_hand_here","_law_some"] (spI K m__law_pick):=
 show FnOk P w K mg base CX0 2 t.f__law_pick t.fd__law_pick ["_law_hand_here","_law_some"] (spI K (runK (List.length (α:=Str) ["_law_hand_here","_law_some"]) (List.length (α:=Str) ["_law_hand_here","_law_some"]) b__law_pick)) from fn_k (N:=["_law_hand_here","_law_some"]) (ps:=["_law_hand_here","_law_some"]) (b:=b__law_pick) T.F__law_pick sc__law_pick (fun cdv A outer s H E hr=>body__law_pick T cdv A outer s H E hr)
theorem body__law_term_value (T:Txt K mg t) (cdv:Value) (A:Around) (outer:List Env) (s:Shared) (H:Hp) (E:XK) (hr:Room (0) (A.deeper (PyProof.Rows.envOfC "_law_term_value" (defScope s__law_term_value) s.heap.objs.size t.f__law_term_value cdv))):ISs K (cxOf CX0 P w K mg base ["_law_kind","_law_term","_law_row","_law_value_here","_law_k","_law_on"] "_law_term_value" (defScope s__law_term_value) t.f__law_term_value cdv A outer s H E).nox (defBody s__law_term_value) b__law_term_value:=
 (iss_cons (is_set (i:=3) sc__law_term_value.nd rfl (by first | exact Or.inl rfl | exact Or.inr rfl) ie_int rfl (by first | exact .inl rfl | exact .inr rfl)) (iss_cons (is_for (ii_seq (iv 1) rfl) (ig_name (pg_name (i:=4) sc__law_term_value.nd rfl (by first | exact Or.inl rfl | exact Or.inr rfl))) (iss_cons (is_set (i:=5) sc__law_term_value.nd rfl (by first | exact Or.inl rfl | exact Or.inr rfl) (ie_op od_mod (ie_op od_shr (iv 2) (iv 4)) ie_int) rfl (by first | exact .inl rfl | exact .inr rfl)) (iss_one (is_set (i:=3) sc__law_term_value.nd rfl (by first | exact Or.inl rfl | exact Or.inr rfl) (ie_op (od_mul rfl) (iv 3) (ie_ix (il_pure (il_lst (ia_cons (ie_op od_sub ie_int (ie_op (od_mul rfl) ie_int (iv 5))) (ia_cons (iv 5) ia_nil rfl) rfl))) (ie_ct cd_int rfl T.z_int PyProof.Rows.boot_int (ia_cons (ie_cmp (od_eq hr rfl) (iv 0) ie_str (nomark _)) ia_nil rfl) (by decide) (by decide) rfl rfl) rfl rfl)) rfl (by first | exact .inl rfl | exact .inr rfl)))) PassesOwn.never rfl (fun _=>rfl)) (iss_one (is_ret (iv 3)))))
theorem ok__law_term_value (T:Txt K mg t):FnOk P w K mg base CX0 1 t.f__law_term_value t.fd__law_term_value ["_law_kind","_law_term","_law_row"] (spI K m__law_term_value):=
 show FnOk P w K mg base CX0 1 t.f__law_term_value t.fd__law_term_value ["_law_kind","_law_term","_law_row"] (spI K (runK (List.length (α:=Str) ["_law_kind","_law_term","_law_row","_law_value_here","_law_k","_law_on"]) (List.length (α:=Str) ["_law_kind","_law_term","_law_row"]) b__law_term_value)) from fn_k (N:=["_law_kind","_law_term","_law_row","_law_value_here","_law_k","_law_on"]) (ps:=["_law_kind","_law_term","_law_row"]) (b:=b__law_term_value) T.F__law_term_value sc__law_term_value (fun cdv A outer s H E hr=>body__law_term_value T cdv A outer s H E hr)
theorem body__law_value (T:Txt K mg t) (cdv:Value) (A:Around) (outer:List Env) (s:Shared) (H:Hp) (E:XK) (hr:Room (1) (A.deeper (PyProof.Rows.envOfC "_law_value" (defScope s__law_value) s.heap.objs.size t.f__law_value cdv))):ISs K (cxOf CX0 P w K mg base ["_law_poly_here","_law_row"] "_law_value" (defScope s__law_value) t.f__law_value cdv A outer s H E).nox (defBody s__law_value) b__law_value:=
 (iss_one (is_ret (ie_cb (cd_sum rfl rfl) rfl T.z_sum PyProof.Rows.boot_sum (ia_cons (il_pure (il_lc (lc_mk (defScope s__law_value).names ["_law_poly_here","_law_row"] ["_law_term","_law_number_here","_law_poly_here","_law_row"] 2 [0,1] rfl rfl rfl (by decide +kernel)) rfl (by decide) (ii_seq (ie_ix (iv 0) ie_int rfl rfl) rfl) (fun _ _ _ _ _=>(ig_tup (igs_cons (pg_name (i:=0) (show List.Nodup (α:=Str) ["_law_term","_law_number_here","_law_poly_here","_law_row"] by decide +kernel) rfl (by first | exact Or.inl rfl | exact Or.inr rfl)) (igs_cons (pg_name (i:=1) (show List.Nodup (α:=Str) ["_law_term","_law_number_here","_law_poly_here","_law_row"] by decide +kernel) rfl (by first | exact Or.inl rfl | exact Or.inr rfl)) igs_nil)) rfl rfl rfl rfl rfl)) (fun _ _ _ _ _=>its_nil) (fun _ _ _ _ _=>(ie_op (od_mul rfl) (iv 1) (ie_call (ok__law_term_value T) (by decide) hr rfl T.m__law_term_value T.F__law_term_value.kp T.b__law_term_value (ia_cons (ie_ix (iv 2) ie_int rfl rfl) (ia_cons (iv 0) (ia_cons (iv 3) ia_nil rfl) rfl) rfl) (by decide) rfl rfl))) (fun _=>rfl))) ia_nil rfl) (by decide) (by decide) rfl rfl)))
theorem ok__law_value (T:Txt K mg t):FnOk P w K mg base CX0 2 t.f__law_value t.fd__law_value ["_law_poly_here","_law_row"] (spI K m__law_value):=
 show FnOk P w K mg base CX0 2 t.f__law_value t.fd__law_value ["_law_poly_here","_law_row"] (spI K (runK (List.length (α:=Str) ["_law_poly_here","_law_row"]) (List.length (α:=Str) ["_law_poly_here","_law_row"]) b__law_value)) from fn_k (N:=["_law_poly_here","_law_row"]) (ps:=["_law_poly_here","_law_row"]) (b:=b__law_value) T.F__law_value sc__law_value (fun cdv A outer s H E hr=>body__law_value T cdv A outer s H E hr)
theorem body__law_all_terms (T:Txt K mg t) (cdv:Value) (A:Around) (outer:List Env) (s:Shared) (H:Hp) (E:XK) (hr:Room (0) (A.deeper (PyProof.Rows.envOfC "_law_all_terms" (defScope s__law_all_terms) s.heap.objs.size t.f__law_all_terms cdv))):ISs K (cxOf CX0 P w K mg base ["_law_n","_law_found","_law_k"] "_law_all_terms" (defScope s__law_all_terms) t.f__law_all_terms cdv A outer s H E).nox (defBody s__law_all_terms) b__law_all_terms:=
 (iss_cons (is_set (i:=1) sc__law_all_terms.nd rfl (by first | exact Or.inl rfl | exact Or.inr rfl) (il_pure (il_lst (ia_cons (ie_tup ia_nil) ia_nil rfl))) rfl (by first | exact .inl rfl | exact .inr rfl)) (iss_cons (is_for (ii_rng1 rfl T.z_range (ia_cons (iv 0) ia_nil rfl) rfl) (ig_name (pg_name (i:=2) sc__law_all_terms.nd rfl (by first | exact Or.inl rfl | exact Or.inr rfl))) (iss_one (is_set (i:=1) sc__law_all_terms.nd rfl (by first | exact Or.inl rfl | exact Or.inr rfl) (ie_op (od_add rfl) (iv 1) (il_pure (il_lc (lc_mk (defScope s__law_all_terms).names ["_law_n","_law_found","_law_k"] ["_law_term","_law_k"] 1 [2] rfl rfl rfl (by decide +kernel)) rfl (by decide) (ii_seq (iv 1) rfl) (fun _ _ _ _ _=>(ig_name (pg_name (i:=0) (show List.Nodup (α:=Str) ["_law_term","_law_k"] by decide +kernel) rfl (by first | exact Or.inl rfl | exact Or.inr rfl)))) (fun _ _ _ _ _=>its_nil) (fun _ _ _ _ _=>(ie_op (od_add rfl) (iv 0) (ie_tup (ia_cons (iv 1) ia_nil rfl)))) (fun _=>rfl)))) rfl (by first | exact .inl rfl | exact .inr rfl))) PassesOwn.never rfl (fun _=>rfl)) (iss_one (is_ret (il_pure (il_cb (cl_sort2 hr rfl) rfl T.z_sorted PyProof.Rows.boot_sorted (ia_cons (iv 1) ia_nil rfl) (by decide) (by decide) rfl rfl))))))
theorem ok__law_all_terms (T:Txt K mg t):FnOk P w K mg base CX0 1 t.f__law_all_terms t.fd__law_all_terms ["_law_n"] (spI K m__law_all_terms):=
 show FnOk P w K mg base CX0 1 t.f__law_all_terms t.fd__law_all_terms ["_law_n"] (spI K (runK (List.length (α:=Str) ["_law_n","_law_found","_law_k"]) (List.length (α:=Str) ["_law_n"]) b__law_all_terms)) from fn_k (N:=["_law_n","_law_found","_law_k"]) (ps:=["_law_n"]) (b:=b__law_all_terms) T.F__law_all_terms sc__law_all_terms (fun cdv A outer s H E hr=>body__law_all_terms T cdv A outer s H E hr)
theorem body__law_number (T:Txt K mg t) (cdv:Value) (A:Around) (outer:List Env) (s:Shared) (H:Hp) (E:XK) (hr:Room (2) (A.deeper (PyProof.Rows.envOfC "_law_number" (defScope s__law_number) s.heap.objs.size t.f__law_number cdv))):ISs K (cxOf CX0 P w K mg base ["_law_hand_here"] "_law_number" (defScope s__law_number) t.f__law_number cdv A outer s H E).nox (defBody s__law_number) b__law_number:=
 (iss_cons (is_if (it_cmp (od_eq hr rfl) (ie_call (ok__law_take T) (by decide) hr rfl T.m__law_take T.F__law_take.kp T.b__law_take (ia_cons (iv 0) (ia_cons ie_int ia_nil rfl) rfl) (by decide) rfl rfl) ie_int (nomark _)) (iss_one (is_ret (ie_op (od_mul rfl) (ie_ix (il_pure (il_lst (ia_cons ie_int (ia_cons (ie_neg ie_int) ia_nil rfl) rfl))) (ie_call (ok__law_take T) (by decide) hr rfl T.m__law_take T.F__law_take.kp T.b__law_take (ia_cons (iv 0) (ia_cons ie_int ia_nil rfl) rfl) (by decide) rfl rfl) rfl rfl) (ie_op od_sub (ie_op od_pow ie_int ie_int) (ie_call (ok__law_take T) (by decide) hr rfl T.m__law_take T.F__law_take.kp T.b__law_take (ia_cons (iv 0) (ia_cons ie_int ia_nil rfl) rfl) (by decide) rfl rfl))))) iss_nil) (iss_one (is_ret (ie_call (ok__law_pick T) (by decide) hr rfl T.m__law_pick T.F__law_pick.kp T.b__law_pick (ia_cons (iv 0) (ia_cons (il_pure (il_lst (ia_cons ie_int (ia_cons (ie_neg ie_int) (ia_cons ie_int (ia_cons (ie_neg ie_int) (ia_cons ie_int (ia_cons (ie_neg ie_int) ia_nil rfl) rfl) rfl) rfl) rfl) rfl))) ia_nil rfl) rfl) (by decide) rfl rfl))))
theorem ok__law_number (T:Txt K mg t):FnOk P w K mg base CX0 3 t.f__law_number t.fd__law_number ["_law_hand_here"] (spI K m__law_number):=
 show FnOk P w K mg base CX0 3 t.f__law_number t.fd__law_number ["_law_hand_here"] (spI K (runK (List.length (α:=Str) ["_law_hand_here"]) (List.length (α:=Str) ["_law_hand_here"]) b__law_number)) from fn_k (N:=["_law_hand_here"]) (ps:=["_law_hand_here"]) (b:=b__law_number) T.F__law_number sc__law_number (fun cdv A outer s H E hr=>body__law_number T cdv A outer s H E hr)
theorem body__law_poly (T:Txt K mg t) (cdv:Value) (A:Around) (outer:List Env) (s:Shared) (H:Hp) (E:XK) (hr:Room (3) (A.deeper (PyProof.Rows.envOfC "_law_poly" (defScope s__law_poly) s.heap.objs.size t.f__law_poly cdv))):ISs K (cxOf CX0 P w K mg base ["_law_hand_here","_law_kind","_law_n","_law_share","_law_some"] "_law_poly" (defScope s__law_poly) t.f__law_poly cdv A outer s H E).nox (defBody s__law_poly) b__law_poly:=
 (iss_cons (is_set (i:=3) sc__law_poly.nd rfl (by first | exact Or.inl rfl | exact Or.inr rfl) (ie_op (od_add rfl) ie_int (ie_call (ok__law_take T) (by decide) hr rfl T.m__law_take T.F__law_take.kp T.b__law_take (ia_cons (iv 0) (ia_cons ie_int ia_nil rfl) rfl) (by decide) rfl rfl)) rfl (by first | exact .inl rfl | exact .inr rfl)) (iss_cons (And.left (is_lc (i0:=4) sc__law_poly.nd rfl (by first | exact Or.inl rfl | exact Or.inr rfl) (lc_mk (defScope s__law_poly).names ["_law_hand_here","_law_kind","_law_n","_law_share","_law_some"] ["_law_term","_law_hand_here","_law_share"] 1 [0,3] rfl rfl rfl (by decide +kernel)) rfl (by decide) (ii_seq (ie_call (ok__law_all_terms T) (by decide) hr rfl T.m__law_all_terms T.F__law_all_terms.kp T.b__law_all_terms (ia_cons (iv 2) ia_nil rfl) (by decide) rfl rfl) rfl) (fun _ _ _ _ _=>(ig_name (pg_name (i:=0) (show List.Nodup (α:=Str) ["_law_term","_law_hand_here","_law_share"] by decide +kernel) rfl (by first | exact Or.inl rfl | exact Or.inr rfl)))) (fun _ _ _ _ _=>(its_one (it_cmp (od_eq hr rfl) (ie_call (ok__law_take T) (by decide) hr rfl T.m__law_take T.F__law_take.kp T.b__law_take (ia_cons (iv 1) (ia_cons (iv 2) ia_nil rfl) rfl) (by decide) rfl rfl) ie_int (nomark _)))) (fun _ _ _ _ _=>(iv 0)) rfl (by first | exact .inl rfl | exact .inr rfl) (fun _=>rfl))) (iss_one (is_ret (ie_tup (ia_cons (iv 1) (ia_cons (ie_ct (cd_tup rfl) rfl T.z_tuple PyProof.Rows.boot_tuple (ia_cons (il_pure (il_lc (lc_mk (defScope s__law_poly).names ["_law_hand_here","_law_kind","_law_n","_law_share","_law_some"] ["_law_term","_law_hand_here"] 1 [0] rfl rfl rfl (by decide +kernel)) rfl (by decide) (ii_seq (iv 4) rfl) (fun _ _ _ _ _=>(ig_name (pg_name (i:=0) (show List.Nodup (α:=Str) ["_law_term","_law_hand_here"] by decide +kernel) rfl (by first | exact Or.inl rfl | exact Or.inr rfl)))) (fun _ _ _ _ _=>its_nil) (fun _ _ _ _ _=>(ie_tup (ia_cons (iv 0) (ia_cons (ie_call (ok__law_number T) (by decide) hr rfl T.m__law_number T.F__law_number.kp T.b__law_number (ia_cons (iv 1) ia_nil rfl) (by decide) rfl rfl) ia_nil rfl) rfl))) (fun _=>rfl))) ia_nil rfl) (by decide) (by decide) rfl rfl) ia_nil rfl) rfl))))))
theorem ok__law_poly (T:Txt K mg t):FnOk P w K mg base CX0 4 t.f__law_poly t.fd__law_poly ["_law_hand_here","_law_kind","_law_n"] (spI K m__law_poly):=
 show FnOk P w K mg base CX0 4 t.f__law_poly t.fd__law_poly ["_law_hand_here","_law_kind","_law_n"] (spI K (runK (List.length (α:=Str) ["_law_hand_here","_law_kind","_law_n","_law_share","_law_some"]) (List.length (α:=Str) ["_law_hand_here","_law_kind","_law_n"]) b__law_poly)) from fn_k (N:=["_law_hand_here","_law_kind","_law_n","_law_share","_law_some"]) (ps:=["_law_hand_here","_law_kind","_law_n"]) (b:=b__law_poly) T.F__law_poly sc__law_poly (fun cdv A outer s H E hr=>body__law_poly T cdv A outer s H E hr)
theorem body__law_is_whole (T:Txt K mg t) (cdv:Value) (A:Around) (outer:List Env) (s:Shared) (H:Hp) (E:XK) (hr:Room (0) (A.deeper (PyProof.Rows.envOfC "_law_is_whole" (defScope s__law_is_whole) s.heap.objs.size t.f__law_is_whole cdv))):ISs K (cxOf CX0 P w K mg base ["_law_thing"] "_law_is_whole" (defScope s__law_is_whole) t.f__law_is_whole cdv A outer s H E).nox (defBody s__law_is_whole) b__law_is_whole:=
 (iss_one (is_ret (ie_and (ie_cb (cd_isi rfl) rfl T.z_isinstance PyProof.Rows.boot_isinstance (ia_cons (iv 0) (ia_cons (ie_ty rfl T.z_int PyProof.Rows.boot_int (by decide) (by decide)) ia_nil rfl) rfl) (by decide) (by decide) rfl rfl) (ie_one (ie_not (ie_cb (cd_isi rfl) rfl T.z_isinstance PyProof.Rows.boot_isinstance (ia_cons (iv 0) (ia_cons (ie_ty rfl T.z_bool PyProof.Rows.boot_bool (by decide) (by decide)) ia_nil rfl) rfl) (by decide) (by decide) rfl rfl))))))
theorem ok__law_is_whole (T:Txt K mg t):FnOk P w K mg base CX0 1 t.f__law_is_whole t.fd__law_is_whole ["_law_thing"] (spI K m__law_is_whole):=
 show FnOk P w K mg base CX0 1 t.f__law_is_whole t.fd__law_is_whole ["_law_thing"] (spI K (runK (List.length (α:=Str) ["_law_thing"]) (List.length (α:=Str) ["_law_thing"]) b__law_is_whole)) from fn_k (N:=["_law_thing"]) (ps:=["_law_thing"]) (b:=b__law_is_whole) T.F__law_is_whole sc__law_is_whole (fun cdv A outer s H E hr=>body__law_is_whole T cdv A outer s H E hr)
theorem body__law_is_term (T:Txt K mg t) (cdv:Value) (A:Around) (outer:List Env) (s:Shared) (H:Hp) (E:XK) (hr:Room (1) (A.deeper (PyProof.Rows.envOfC "_law_is_term" (defScope s__law_is_term) s.heap.objs.size t.f__law_is_term cdv))):ISs K (cxOf CX0 P w K mg base ["_law_thing"] "_law_is_term" (defScope s__law_is_term) t.f__law_is_term cdv A outer s H E).nox (defBody s__law_is_term) b__law_is_term:=
 (iss_cons (is_if (itw_pt (itw_or (it_not (it_tru (ie_cb (cd_isi rfl) rfl T.z_isinstance PyProof.Rows.boot_isinstance (ia_cons (iv 0) (ia_cons (ie_ty rfl T.z_tuple PyProof.Rows.boot_tuple (by decide) (by decide)) ia_nil rfl) rfl) (by decide) (by decide) rfl rfl) rfl rfl)) (itw_or1 (it_not (it_tru (ie_cb (cd_all rfl rfl) rfl T.z_all PyProof.Rows.boot_all (ia_cons (il_pure (il_lc (lc_mk (defScope s__law_is_term).names ["_law_thing"] ["_law_k"] 1 [] rfl rfl rfl (by decide +kernel)) rfl (by decide) (ii_seq (iv 0) rfl) (fun _ _ _ _ _=>(ig_name (pg_name (i:=0) (show List.Nodup (α:=Str) ["_law_k"] by decide +kernel) rfl (by first | exact Or.inl rfl | exact Or.inr rfl)))) (fun _ _ _ _ _=>its_nil) (fun _ _ _ _ _=>(ie_and (ie_call (ok__law_is_whole T) (by decide) hr rfl T.m__law_is_whole T.F__law_is_whole.kp T.b__law_is_whole (ia_cons (iv 0) ia_nil rfl) (by decide) rfl rfl) (ie_one (ie_chain od_le od_lt ie_int (iv 0) ie_int (by with_unfolding_all rfl))))) (fun _=>rfl))) ia_nil rfl) (by decide) (by decide) rfl rfl) rfl rfl))))) (iss_one (is_ret ie_bl)) iss_nil) (iss_one (is_ret (ie_cb (cd_all rfl rfl) rfl T.z_all PyProof.Rows.boot_all (ia_cons (il_pure (il_lc (lc_mk (defScope s__law_is_term).names ["_law_thing"] ["_law_one","_law_other"] 2 [] rfl rfl rfl (by decide +kernel)) rfl (by decide) (ii_zip rfl T.z_zip (ia_cons (iv 0) (ia_cons (ie_sl (iv 0) (io_some ie_int) io_none rfl) ia_nil rfl) rfl) rfl rfl rfl) (fun _ _ _ _ _=>(ig_tup (igs_cons (pg_name (i:=0) (show List.Nodup (α:=Str) ["_law_one","_law_other"] by decide +kernel) rfl (by first | exact Or.inl rfl | exact Or.inr rfl)) (igs_cons (pg_name (i:=1) (show List.Nodup (α:=Str) ["_law_one","_law_other"] by decide +kernel) rfl (by first | exact Or.inl rfl | exact Or.inr rfl)) igs_nil)) rfl rfl rfl rfl rfl)) (fun _ _ _ _ _=>its_nil) (fun _ _ _ _ _=>(ie_cmp od_lt (iv 0) (iv 1) (nomark _))) (fun _=>rfl))) ia_nil rfl) (by decide) (by decide) rfl rfl))))
theorem ok__law_is_term (T:Txt K mg t):FnOk P w K mg base CX0 2 t.f__law_is_term t.fd__law_is_term ["_law_thing"] (spI K m__law_is_term):=
 show FnOk P w K mg base CX0 2 t.f__law_is_term t.fd__law_is_term ["_law_thing"] (spI K (runK (List.length (α:=Str) ["_law_thing"]) (List.length (α:=Str) ["_law_thing"]) b__law_is_term)) from fn_k (N:=["_law_thing"]) (ps:=["_law_thing"]) (b:=b__law_is_term) T.F__law_is_term sc__law_is_term (fun cdv A outer s H E hr=>body__law_is_term T cdv A outer s H E hr)
theorem body__law_is_poly (T:Txt K mg t) (cdv:Value) (A:Around) (outer:List Env) (s:Shared) (H:Hp) (E:XK) (hr:Room (2) (A.deeper (PyProof.Rows.envOfC "_law_is_poly" (defScope s__law_is_poly) s.heap.objs.size t.f__law_is_poly cdv))):ISs K (cxOf CX0 P w K mg base ["_law_thing","_law_part"] "_law_is_poly" (defScope s__law_is_poly) t.f__law_is_poly cdv A outer s H E).nox (defBody s__law_is_poly) b__law_is_poly:=
 (iss_cons (is_if (itw_pt (itw_or (it_not (it_tru (ie_cb (cd_isi rfl) rfl T.z_isinstance PyProof.Rows.boot_isinstance (ia_cons (iv 0) (ia_cons (ie_ty rfl T.z_tuple PyProof.Rows.boot_tuple (by decide) (by decide)) ia_nil rfl) rfl) (by decide) (by decide) rfl rfl) rfl rfl)) (itw_or (it_cmp (od_ne hr rfl) (ie_cb (cd_len rfl) rfl T.z_len PySem.boot_len (ia_cons (iv 0) ia_nil rfl) (by decide) (by decide) rfl rfl) ie_int (nomark _)) (itw_or1 (it_not (it_tru (ie_cb (cd_isi rfl) rfl T.z_isinstance PyProof.Rows.boot_isinstance (ia_cons (ie_ix (iv 0) ie_int rfl rfl) (ia_cons (ie_ty rfl T.z_str PyProof.Rows.boot_str (by decide) (by decide)) ia_nil rfl) rfl) (by decide) (by decide) rfl rfl) rfl rfl)))))) (iss_one (is_ret ie_bl)) iss_nil) (iss_cons (is_if (itw_pt (itw_or (it_cmp (od_notIn rfl) (ie_ix (iv 0) ie_int rfl rfl) (ie_tup (ia_cons ie_str (ia_cons ie_str ia_nil rfl) rfl)) rfl) (itw_or1 (it_not (it_tru (ie_cb (cd_isi rfl) rfl T.z_isinstance PyProof.Rows.boot_isinstance (ia_cons (ie_ix (iv 0) ie_int rfl rfl) (ia_cons (ie_ty rfl T.z_tuple PyProof.Rows.boot_tuple (by decide) (by decide)) ia_nil rfl) rfl) (by decide) (by decide) rfl rfl) rfl rfl))))) (iss_one (is_ret ie_bl)) iss_nil) (iss_cons (is_for (ii_seq (ie_ix (iv 0) ie_int rfl rfl) rfl) (ig_name (pg_name (i:=1) sc__law_is_poly.nd rfl (by first | exact Or.inl rfl | exact Or.inr rfl))) (iss_cons (is_if (itw_pt (itw_or (it_not (it_tru (ie_cb (cd_isi rfl) rfl T.z_isinstance PyProof.Rows.boot_isinstance (ia_cons (iv 1) (ia_cons (ie_ty rfl T.z_tuple PyProof.Rows.boot_tuple (by decide) (by decide)) ia_nil rfl) rfl) (by decide) (by decide) rfl rfl) rfl rfl)) (itw_or (it_cmp (od_ne hr rfl) (ie_cb (cd_len rfl) rfl T.z_len PySem.boot_len (ia_cons (iv 1) ia_nil rfl) (by decide) (by decide) rfl rfl) ie_int (nomark _)) (itw_or1 (it_not (it_tru (ie_call (ok__law_is_term T) (by decide) hr rfl T.m__law_is_term T.F__law_is_term.kp T.b__law_is_term (ia_cons (ie_ix (iv 1) ie_int rfl rfl) ia_nil rfl) (by decide) rfl rfl) rfl rfl)))))) (iss_one (is_ret ie_bl)) iss_nil) (iss_one (is_if (itw_pt (itw_or (it_not (it_tru (ie_call (ok__law_is_whole T) (by decide) hr rfl T.m__law_is_whole T.F__law_is_whole.kp T.b__law_is_whole (ia_cons (ie_ix (iv 1) ie_int rfl rfl) ia_nil rfl) (by decide) rfl rfl) rfl rfl)) (itw_or1 (it_cmp (od_eq hr rfl) (ie_ix (iv 1) ie_int rfl rfl) ie_int (nomark _))))) (iss_one (is_ret ie_bl)) iss_nil))) PassesOwn.never rfl (fun _=>rfl)) (iss_one (is_ret (ie_cb (cd_all rfl rfl) rfl T.z_all PyProof.Rows.boot_all (ia_cons (il_pure (il_lc (lc_mk (defScope s__law_is_poly).names ["_law_thing","_law_part"] ["_law_one","_law_other"] 2 [] rfl rfl rfl (by decide +kernel)) rfl (by decide) (ii_zip rfl T.z_zip (ia_cons (ie_ix (iv 0) ie_int rfl rfl) (ia_cons (ie_sl (ie_ix (iv 0) ie_int rfl rfl) (io_some ie_int) io_none rfl) ia_nil rfl) rfl) rfl rfl rfl) (fun _ _ _ _ _=>(ig_tup (igs_cons (pg_name (i:=0) (show List.Nodup (α:=Str) ["_law_one","_law_other"] by decide +kernel) rfl (by first | exact Or.inl rfl | exact Or.inr rfl)) (igs_cons (pg_name (i:=1) (show List.Nodup (α:=Str) ["_law_one","_law_other"] by decide +kernel) rfl (by first | exact Or.inl rfl | exact Or.inr rfl)) igs_nil)) rfl rfl rfl rfl rfl)) (fun _ _ _ _ _=>its_nil) (fun _ _ _ _ _=>(ie_cmp (od_lt2 hr rfl) (ie_ix (iv 0) ie_int rfl rfl) (ie_ix (iv 1) ie_int rfl rfl) (nomark _))) (fun _=>rfl))) ia_nil rfl) (by decide) (by decide) rfl rfl))))))
theorem ok__law_is_poly (T:Txt K mg t):FnOk P w K mg base CX0 3 t.f__law_is_poly t.fd__law_is_poly ["_law_thing"] (spI K m__law_is_poly):=
 show FnOk P w K mg base CX0 3 t.f__law_is_poly t.fd__law_is_poly ["_law_thing"] (spI K (runK (List.length (α:=Str) ["_law_thing","_law_part"]) (List.length (α:=Str) ["_law_thing"]) b__law_is_poly)) from fn_k (N:=["_law_thing","_law_part"]) (ps:=["_law_thing"]) (b:=b__law_is_poly) T.F__law_is_poly sc__law_is_poly (fun cdv A outer s H E hr=>body__law_is_poly T cdv A outer s H E hr)
theorem body__law_right (T:Txt K mg t) (cdv:Value) (A:Around) (outer:List Env) (s:Shared) (H:Hp) (E:XK) (hr:Room (3) (A.deeper (PyProof.Rows.envOfC "_law_right" (defScope s__law_right) s.heap.objs.size t.f__law_right cdv))):ISs K (cxOf CX0 P w K mg base ["_law_found","_law_kind","_law_due"] "_law_right" (defScope s__law_right) t.f__law_right cdv A outer s H E).nox (defBody s__law_right) b__law_right:=
 (iss_cons (is_if (itw_pt (itw_or (it_not (it_tru (ie_call (ok__law_is_poly T) (by decide) hr rfl T.m__law_is_poly T.F__law_is_poly.kp T.b__law_is_poly (ia_cons (iv 0) ia_nil rfl) (by decide) rfl rfl) rfl rfl)) (itw_or1 (it_cmp (od_ne hr rfl) (ie_ix (iv 0) ie_int rfl rfl) (iv 1) (nomark _))))) (iss_one (is_ret ie_bl)) iss_nil) (iss_one (is_ret (ie_cmp (od_eq hr rfl) (il_pure (il_lc (lc_mk (defScope s__law_right).names ["_law_found","_law_kind","_law_due"] ["_law_row","_law_found"] 1 [0] rfl rfl rfl (by decide +kernel)) rfl (by decide) (ii_rng1 rfl T.z_range (ia_cons ie_int ia_nil rfl) rfl) (fun _ _ _ _ _=>(ig_name (pg_name (i:=0) (show List.Nodup (α:=Str) ["_law_row","_law_found"] by decide +kernel) rfl (by first | exact Or.inl rfl | exact Or.inr rfl)))) (fun _ _ _ _ _=>its_nil) (fun _ _ _ _ _=>(ie_call (ok__law_value T) (by decide) hr rfl T.m__law_value T.F__law_value.kp T.b__law_value (ia_cons (iv 1) (ia_cons (iv 0) ia_nil rfl) rfl) (by decide) rfl rfl)) (fun _=>rfl))) (iv 2) (nomark _)))))
theorem ok__law_right (T:Txt K mg t):FnOk P w K mg base CX0 4 t.f__law_right t.fd__law_right ["_law_found","_law_kind","_law_due"] (spI K m__law_right):=
 show FnOk P w K mg base CX0 4 t.f__law_right t.fd__law_right ["_law_found","_law_kind","_law_due"] (spI K (runK (List.length (α:=Str) ["_law_found","_law_kind","_law_due"]) (List.length (α:=Str) ["_law_found","_law_kind","_law_due"]) b__law_right)) from fn_k (N:=["_law_found","_law_kind","_law_due"]) (ps:=["_law_found","_law_kind","_law_due"]) (b:=b__law_right) T.F__law_right sc__law_right (fun cdv A outer s H E hr=>body__law_right T cdv A outer s H E hr)
theorem body__law_times (T:Txt K mg t) (cdv:Value) (A:Around) (outer:List Env) (s:Shared) (H:Hp) (E:XK) (hr:Room (0) (A.deeper (PyProof.Rows.envOfC "_law_times" (defScope s__law_times) s.heap.objs.size t.f__law_times cdv))):ISs K (cxOf CX0 P w K mg base ["_law_poly_here","_law_number_here"] "_law_times" (defScope s__law_times) t.f__law_times cdv A outer s H E).nox (defBody s__law_times) b__law_times:=
 (iss_one (is_ret (ie_tup (ia_cons (ie_ix (iv 0) ie_int rfl rfl) (ia_cons (ie_ct (cd_tup rfl) rfl T.z_tuple PyProof.Rows.boot_tuple (ia_cons (il_pure (il_lc (lc_mk (defScope s__law_times).names ["_law_poly_here","_law_number_here"] ["_law_term","_law_own","_law_number_here"] 2 [1] rfl rfl rfl (by decide +kernel)) rfl (by decide) (ii_seq (ie_ix (iv 0) ie_int rfl rfl) rfl) (fun _ _ _ _ _=>(ig_tup (igs_cons (pg_name (i:=0) (show List.Nodup (α:=Str) ["_law_term","_law_own","_law_number_here"] by decide +kernel) rfl (by first | exact Or.inl rfl | exact Or.inr rfl)) (igs_cons (pg_name (i:=1) (show List.Nodup (α:=Str) ["_law_term","_law_own","_law_number_here"] by decide +kernel) rfl (by first | exact Or.inl rfl | exact Or.inr rfl)) igs_nil)) rfl rfl rfl rfl rfl)) (fun _ _ _ _ _=>its_nil) (fun _ _ _ _ _=>(ie_tup (ia_cons (iv 0) (ia_cons (ie_op (od_mul rfl) (iv 1) (iv 2)) ia_nil rfl) rfl))) (fun _=>rfl))) ia_nil rfl) (by decide) (by decide) rfl rfl) ia_nil rfl) rfl))))
theorem ok__law_times (T:Txt K mg t):FnOk P w K mg base CX0 1 t.f__law_times t.fd__law_times ["_law_poly_here","_law_number_here"] (spI K m__law_times):=
 show FnOk P w K mg base CX0 1 t.f__law_times t.fd__law_times ["_law_poly_here","_law_number_here"] (spI K (runK (List.length (α:=Str) ["_law_poly_here","_law_number_here"]) (List.length (α:=Str) ["_law_poly_here","_law_number_here"]) b__law_times)) from fn_k (N:=["_law_poly_here","_law_number_here"]) (ps:=["_law_poly_here","_law_number_here"]) (b:=b__law_times) T.F__law_times sc__law_times (fun cdv A outer s H E hr=>body__law_times T cdv A outer s H E hr)
theorem body_law (T:Txt K mg t) (cdv:Value) (A:Around) (outer:List Env) (s:Shared) (H:Hp) (E:XK) (hr:Room (4) (A.deeper (PyProof.Rows.envOfC "law" (defScope s_law) s.heap.objs.size t.f_law cdv))):ISs K (cxOf CX0 P w K mg base ["_law_script","_law_k","_law_hand_here","_law_n","_law_kind","_law_one","_law_other","_law_number_here","_law_values","_law_more","_law_text","_law_sums","_law_products","_law_times_here"] "law" (defScope s_law) t.f_law cdv A outer s H E).nox (defBody s_law) b_law:=
 (iss_cons (is_for (ii_rng1 rfl T.z_range (ia_cons (ie_cb (cd_mx rfl) rfl T.z_max PyProof.Rows.boot_max (ia_cons ie_int (ia_cons (ie_cb (cd_min rfl) rfl T.z_min PyProof.Rows.boot_min (ia_cons ie_int (ia_cons (ie_cb (cd_len rfl) rfl T.z_len PySem.boot_len (ia_cons (iv 0) ia_nil rfl) (by decide) (by decide) rfl rfl) ia_nil rfl) rfl) (by decide) (by decide) rfl rfl) ia_nil rfl) rfl) (by decide) (by decide) rfl rfl) ia_nil rfl) rfl) (ig_name (pg_name (i:=1) sc_law.nd rfl (by first | exact Or.inl rfl | exact Or.inr rfl))) (iss_cons (is_set (i:=2) sc_law.nd rfl (by first | exact Or.inl rfl | exact Or.inr rfl) (ie_call (ok__law_hand T) (by decide) hr rfl T.m__law_hand T.F__law_hand.kp T.b__law_hand (ia_cons (iv 0) (ia_cons (iv 1) ia_nil rfl) rfl) (by decide) rfl rfl) rfl (by first | exact .inl rfl | exact .inr rfl)) (iss_cons (is_set (i:=3) sc_law.nd rfl (by first | exact Or.inl rfl | exact Or.inr rfl) (ie_ix (il_pure (il_lst (ia_cons (ie_call (ok__law_take T) (by decide) hr rfl T.m__law_take T.F__law_take.kp T.b__law_take (ia_cons (iv 2) (ia_cons ie_int ia_nil rfl) rfl) (by decide) rfl rfl) (ia_cons (ie_call (ok__law_take T) (by decide) hr rfl T.m__law_take T.F__law_take.kp T.b__law_take (ia_cons (iv 2) (ia_cons ie_int ia_nil rfl) rfl) (by decide) rfl rfl) ia_nil rfl) rfl))) (ie_ct cd_int rfl T.z_int PyProof.Rows.boot_int (ia_cons (ie_cmp (od_eq hr rfl) (ie_call (ok__law_take T) (by decide) hr rfl T.m__law_take T.F__law_take.kp T.b__law_take (ia_cons (iv 2) (ia_cons ie_int ia_nil rfl) rfl) (by decide) rfl rfl) ie_int (nomark _)) ia_nil rfl) (by decide) (by decide) rfl rfl) rfl rfl) rfl (by first | exact .inl rfl | exact .inr rfl)) (iss_cons (is_set (i:=4) sc_law.nd rfl (by first | exact Or.inl rfl | exact Or.inr rfl) (ie_call (ok__law_pick T) (by decide) hr rfl T.m__law_pick T.F__law_pick.kp T.b__law_pick (ia_cons (iv 2) (ia_cons (il_pure (il_lst (ia_cons ie_str (ia_cons ie_str ia_nil rfl) rfl))) ia_nil rfl) rfl) (by decide) rfl rfl) rfl (by first | exact .inl rfl | exact .inr rfl)) (iss_cons (is_asg (ie_tup (ia_cons (ie_call (ok__law_poly T) (by decide) hr rfl T.m__law_poly T.F__law_poly.kp T.b__law_poly (ia_cons (iv 2) (ia_cons (iv 4) (ia_cons (iv 3) ia_nil rfl) rfl) rfl) (by decide) rfl rfl) (ia_cons (ie_call (ok__law_poly T) (by decide) hr rfl T.m__law_poly T.F__law_poly.kp T.b__law_poly (ia_cons (iv 2) (ia_cons (iv 4) (ia_cons (iv 3) ia_nil rfl) rfl) rfl) (by decide) rfl rfl) ia_nil rfl) rfl)) (ig_tup (igs_cons (pg_name (i:=5) sc_law.nd rfl (by first | exact Or.inl rfl | exact Or.inr rfl)) (igs_cons (pg_name (i:=6) sc_law.nd rfl (by first | exact Or.inl rfl | exact Or.inr rfl)) igs_nil)) rfl rfl rfl rfl rfl) rfl rfl rfl) (iss_cons (is_if (it_cmp (od_eq hr rfl) (ie_call (ok__law_take T) (by decide) hr rfl T.m__law_take T.F__law_take.kp T.b__law_take (ia_cons (iv 2) (ia_cons ie_int ia_nil rfl) rfl) (by decide) rfl rfl) ie_int (nomark _)) (iss_one (is_set (i:=6) sc_law.nd rfl (by first | exact Or.inl rfl | exact Or.inr rfl) (ie_call (ok__law_times T) (by decide) hr rfl T.m__law_times T.F__law_times.kp T.b__law_times (ia_cons (iv 5) (ia_cons (ie_call (ok__law_pick T) (by decide) hr rfl T.m__law_pick T.F__law_pick.kp T.b__law_pick (ia_cons (iv 2) (ia_cons (il_pure (il_lst (ia_cons (ie_neg ie_int) (ia_cons ie_int (ia_cons (ie_neg ie_int) (ia_cons ie_int ia_nil rfl) rfl) rfl) rfl))) ia_nil rfl) rfl) (by decide) rfl rfl) ia_nil rfl) rfl) (by decide) rfl rfl) rfl (by first | exact .inl rfl | exact .inr rfl))) iss_nil) (iss_cons (is_set (i:=7) sc_law.nd rfl (by first | exact Or.inl rfl | exact Or.inr rfl) (ie_call (ok__law_pick T) (by decide) hr rfl T.m__law_pick T.F__law_pick.kp T.b__law_pick (ia_cons (iv 2) (ia_cons (il_pure (il_lst (ia_cons ie_int (ia_cons ie_int (ia_cons (ie_neg ie_int) (ia_cons ie_int (ia_cons (ie_neg ie_int) (ia_cons (ie_op od_pow ie_int ie_int) (ia_cons (ie_op od_sub (ie_call (ok__law_take T) (by decide) hr rfl T.m__law_take T.F__law_take.kp T.b__law_take (ia_cons (iv 2) (ia_cons ie_int ia_nil rfl) rfl) (by decide) rfl rfl) ie_int) ia_nil rfl) rfl) rfl) rfl) rfl) rfl) rfl))) ia_nil rfl) rfl) (by decide) rfl rfl) rfl (by first | exact .inl rfl | exact .inr rfl)) (iss_cons (And.left (is_lc (i0:=8) sc_law.nd rfl (by first | exact Or.inl rfl | exact Or.inr rfl) (lc_mk (defScope s_law).names ["_law_script","_law_k","_law_hand_here","_law_n","_law_kind","_law_one","_law_other","_law_number_here","_law_values","_law_more","_law_text","_law_sums","_law_products","_law_times_here"] ["_law_row","_law_one"] 1 [5] rfl rfl rfl (by decide +kernel)) rfl (by decide) (ii_rng1 rfl T.z_range (ia_cons ie_int ia_nil rfl) rfl) (fun _ _ _ _ _=>(ig_name (pg_name (i:=0) (show List.Nodup (α:=Str) ["_law_row","_law_one"] by decide +kernel) rfl (by first | exact Or.inl rfl | exact Or.inr rfl)))) (fun _ _ _ _ _=>its_nil) (fun _ _ _ _ _=>(ie_call (ok__law_value T) (by decide) hr rfl T.m__law_value T.F__law_value.kp T.b__law_value (ia_cons (iv 1) (ia_cons (iv 0) ia_nil rfl) rfl) (by decide) rfl rfl)) rfl (by first | exact .inl rfl | exact .inr rfl) (fun _=>rfl))) (iss_cons (And.left (is_lc (i0:=9) sc_law.nd rfl (by first | exact Or.inl rfl | exact Or.inr rfl) (lc_mk (defScope s_law).names ["_law_script","_law_k","_law_hand_here","_law_n","_law_kind","_law_one","_law_other","_law_number_here","_law_values","_law_more","_law_text","_law_sums","_law_products","_law_times_here"] ["_law_row","_law_other"] 1 [6] rfl rfl rfl (by decide +kernel)) rfl (by decide) (ii_rng1 rfl T.z_range (ia_cons ie_int ia_nil rfl) rfl) (fun _ _ _ _ _=>(ig_name (pg_name (i:=0) (show List.Nodup (α:=Str) ["_law_row","_law_other"] by decide +kernel) rfl (by first | exact Or.inl rfl | exact Or.inr rfl)))) (fun _ _ _ _ _=>its_nil) (fun _ _ _ _ _=>(ie_call (ok__law_value T) (by decide) hr rfl T.m__law_value T.F__law_value.kp T.b__law_value (ia_cons (iv 1) (ia_cons (iv 0) ia_nil rfl) rfl) (by decide) rfl rfl)) rfl (by first | exact .inl rfl | exact .inr rfl) (fun _=>rfl))) (iss_cons (is_set (i:=10) sc_law.nd rfl (by first | exact Or.inl rfl | exact Or.inr rfl) (ie_cb (cd_reprN hr rfl) rfl T.z_repr PyProof.Rows.boot_repr (ia_cons (il_pure (il_lst (ia_cons (iv 5) (ia_cons (iv 6) ia_nil rfl) rfl))) ia_nil rfl) (by decide) (by decide) rfl rfl) rfl (by first | exact .inl rfl | exact .inr rfl)) (iss_cons (And.left (is_lc (i0:=11) sc_law.nd rfl (by first | exact Or.inl rfl | exact Or.inr rfl) (lc_mk (defScope s_law).names ["_law_script","_law_k","_law_hand_here","_law_n","_law_kind","_law_one","_law_other","_law_number_here","_law_values","_law_more","_law_text","_law_sums","_law_products","_law_times_here"] ["_law_a","_law_b"] 2 [] rfl rfl rfl (by decide +kernel)) rfl (by decide) (ii_zip rfl T.z_zip (ia_cons (iv 8) (ia_cons (iv 9) ia_nil rfl) rfl) rfl rfl rfl) (fun _ _ _ _ _=>(ig_tup (igs_cons (pg_name (i:=0) (show List.Nodup (α:=Str) ["_law_a","_law_b"] by decide +kernel) rfl (by first | exact Or.inl rfl | exact Or.inr rfl)) (igs_cons (pg_name (i:=1) (show List.Nodup (α:=Str) ["_law_a","_law_b"] by decide +kernel) rfl (by first | exact Or.inl rfl | exact Or.inr rfl)) igs_nil)) rfl rfl rfl rfl rfl)) (fun _ _ _ _ _=>its_nil) (fun _ _ _ _ _=>(ie_op (od_add rfl) (iv 0) (iv 1))) rfl (by first | exact .inl rfl | exact .inr rfl) (fun _=>rfl))) (iss_cons (And.left (is_lc (i0:=12) sc_law.nd rfl (by first | exact Or.inl rfl | exact Or.inr rfl) (lc_mk (defScope s_law).names ["_law_script","_law_k","_law_hand_here","_law_n","_law_kind","_law_one","_law_other","_law_number_here","_law_values","_law_more","_law_text","_law_sums","_law_products","_law_times_here"] ["_law_a","_law_b"] 2 [] rfl rfl rfl (by decide +kernel)) rfl (by decide) (ii_zip rfl T.z_zip (ia_cons (iv 8) (ia_cons (iv 9) ia_nil rfl) rfl) rfl rfl rfl) (fun _ _ _ _ _=>(ig_tup (igs_cons (pg_name (i:=0) (show List.Nodup (α:=Str) ["_law_a","_law_b"] by decide +kernel) rfl (by first | exact Or.inl rfl | exact Or.inr rfl)) (igs_cons (pg_name (i:=1) (show List.Nodup (α:=Str) ["_law_a","_law_b"] by decide +kernel) rfl (by first | exact Or.inl rfl | exact Or.inr rfl)) igs_nil)) rfl rfl rfl rfl rfl)) (fun _ _ _ _ _=>its_nil) (fun _ _ _ _ _=>(ie_op (od_mul rfl) (iv 0) (iv 1))) rfl (by first | exact .inl rfl | exact .inr rfl) (fun _=>rfl))) (iss_cons (And.left (is_lc (i0:=13) sc_law.nd rfl (by first | exact Or.inl rfl | exact Or.inr rfl) (lc_mk (defScope s_law).names ["_law_script","_law_k","_law_hand_here","_law_n","_law_kind","_law_one","_law_other","_law_number_here","_law_values","_law_more","_law_text","_law_sums","_law_products","_law_times_here"] ["_law_a","_law_number_here"] 1 [7] rfl rfl rfl (by decide +kernel)) rfl (by decide) (ii_seq (iv 8) rfl) (fun _ _ _ _ _=>(ig_name (pg_name (i:=0) (show List.Nodup (α:=Str) ["_law_a","_law_number_here"] by decide +kernel) rfl (by first | exact Or.inl rfl | exact Or.inr rfl)))) (fun _ _ _ _ _=>its_nil) (fun _ _ _ _ _=>(ie_op (od_mul rfl) (iv 1) (iv 0))) rfl (by first | exact .inl rfl | exact .inr rfl) (fun _=>rfl))) (iss_cons (is_if (it_not (it_tru (ie_call (ok__law_right T) (by decide) hr rfl T.m__law_right T.F__law_right.kp T.b__law_right (ia_cons (ie_call (ok_added T) (by decide) hr rfl T.m_added T.F_added.kp T.b_added (ia_cons (iv 5) (ia_cons (iv 6) ia_nil rfl) rfl) (by decide) rfl rfl) (ia_cons (iv 4) (ia_cons (iv 11) ia_nil rfl) rfl) rfl) (by decide) rfl rfl) rfl rfl)) (iss_one (is_ret ie_bl)) iss_nil) (iss_cons (is_if (it_not (it_tru (ie_call (ok__law_right T) (by decide) hr rfl T.m__law_right T.F__law_right.kp T.b__law_right (ia_cons (ie_call (ok_product_of T) (by decide) hr rfl T.m_product_of T.F_product_of.kp T.b_product_of (ia_cons (iv 5) (ia_cons (iv 6) ia_nil rfl) rfl) (by decide) rfl rfl) (ia_cons (iv 4) (ia_cons (iv 12) ia_nil rfl) rfl) rfl) (by decide) rfl rfl) rfl rfl)) (iss_one (is_ret ie_bl)) iss_nil) (iss_one (is_if (itw_pt (itw_or (it_not (it_tru (ie_call (ok__law_right T) (by decide) hr rfl T.m__law_right T.F__law_right.kp T.b__law_right (ia_cons (ie_call (ok_often T) (by decide) hr rfl T.m_often T.F_often.kp T.b_often (ia_cons (iv 5) (ia_cons (iv 7) ia_nil rfl) rfl) (by decide) rfl rfl) (ia_cons (iv 4) (ia_cons (iv 13) ia_nil rfl) rfl) rfl) (by decide) rfl rfl) rfl rfl)) (itw_or1 (it_cmp (od_ne hr rfl) (ie_cb (cd_reprN hr rfl) rfl T.z_repr PyProof.Rows.boot_repr (ia_cons (il_pure (il_lst (ia_cons (iv 5) (ia_cons (iv 6) ia_nil rfl) rfl))) ia_nil rfl) (by decide) (by decide) rfl rfl) (iv 10) (nomark _))))) (iss_one (is_ret ie_bl)) iss_nil)))))))))))))))) PassesOwn.never rfl (fun _=>rfl)) (iss_one (is_ret ie_bl)))
theorem ok_law (T:Txt K mg t):FnOk P w K mg base CX0 5 t.f_law t.fd_law ["_law_script"] (spI K m_law):=
 show FnOk P w K mg base CX0 5 t.f_law t.fd_law ["_law_script"] (spI K (runT (List.length (α:=Str) ["_law_script","_law_k","_law_hand_here","_law_n","_law_kind","_law_one","_law_other","_law_number_here","_law_values","_law_more","_law_text","_law_sums","_law_products","_law_times_here"]) (List.length (α:=Str) ["_law_script"]) b_law)) from fn_t (N:=["_law_script","_law_k","_law_hand_here","_law_n","_law_kind","_law_one","_law_other","_law_number_here","_law_values","_law_more","_law_text","_law_sums","_law_products","_law_times_here"]) (ps:=["_law_script"]) (b:=b_law) T.F_law sc_law (fun cdv A outer s H E hr=>body_law T cdv A outer s H E hr)
end
end Own
end
namespace L2
open PySem
noncomputable def Hd (st:Sto) (n:Nat) (Z:Int):Prop:=∃ x y z:Int,0≤x/\0≤z/\z≤Z/\st[n]?=some (.l [.int x,.int y,.int z])
noncomputable def Stw (n:Nat) (st st':Sto):Prop:=∃ v,st'=st.set n v
theorem Hd.lt {st:Sto}{n:Nat}{Z:Int} (h:Hd st n Z):n < st.length:=by
 obtain⟨x,y,z,_,_,_,e⟩:=h
 exact (List.getElem?_eq_some_iff.mp e).1
theorem Hd.mono {st:Sto}{n:Nat}{Z Z':Int} (h:Hd st n Z) (hz:Z≤Z'):Hd st n Z':=by
 obtain⟨x,y,z,a,b,c,e⟩:=h
 exact⟨x,y,z,a,b,Int.le_trans c hz,e⟩
theorem Stw.refl {st:Sto}{n:Nat} (h:n < st.length):Stw n st st:=⟨st[n],(List.set_getElem_self h).symm⟩
theorem Stw.trans {n:Nat}{a b c:Sto} (h:Stw n a b) (h':Stw n b c):Stw n a c:=by
 obtain⟨v,rfl⟩:=h
 obtain⟨u,rfl⟩:=h'
 exact⟨u,by rw [List.set_set]⟩
end L2
namespace L2
noncomputable def genT:Nat->List (List Int)
 | 0=>[[]]
 | n+1=>genT n++(genT n).map fun t=>t++[(n:Int)]
noncomputable def allT (n:Nat):List (List Int):=isortL (genT n)
theorem genT_len:∀ n,(genT n).length=2 ^ n
 | 0=>rfl
 | n+1=>by rw [genT,List.length_append,List.length_map,genT_len n,Nat.pow_succ];omega
theorem allT_len (n:Nat):(allT n).length=2 ^ n:=by rw [allT,(isortL_perm _).length_eq,genT_len]
noncomputable def Trm (n:Nat) (t:List Int):Prop:=t.Pairwise (· < ·)/\∀ k ∈ t,0≤k/\k < n
theorem Trm.mono {n m:Nat}{t:List Int} (h:Trm n t) (hn:n≤m):Trm m t:=⟨h.1,fun k hk=>⟨(h.2 k hk).1,by have:=(h.2 k hk).2;omega⟩⟩
theorem genT_trm:∀ (n:Nat) {t:List Int},t ∈ genT n->Trm n t
 | 0,t,h=>by
  rw [genT,List.mem_singleton] at h
  subst h
  exact⟨List.Pairwise.nil,fun k hk=>by cases hk⟩
 | n+1,t,h=>by
  rcases List.mem_append.mp h with h | h
  ·exact (genT_trm n h).mono (Nat.le_succ n)
  ·obtain⟨u,hu,rfl⟩:=List.mem_map.mp h
   have:=genT_trm n hu
   refine⟨List.pairwise_append.mpr ⟨this.1,List.pairwise_singleton _ _,fun a ha b hb=>?_⟩,fun k hk=>?_⟩
   ·rw [List.mem_singleton.mp hb];exact (this.2 a ha).2
   ·rcases List.mem_append.mp hk with hk | hk
    ·exact⟨(this.2 k hk).1,by have:=(this.2 k hk).2;omega⟩
    ·rw [List.mem_singleton.mp hk];omega
theorem allT_trm {n:Nat}{t:List Int} (h:t ∈ allT n):Trm n t:=genT_trm n ((isortL_perm _).mem_iff.mp h)
theorem trm_len {n:Nat}{t:List Int} (h:Trm n t):t.length≤n:=by
 have key:∀ (t:List Int) (a:Int),t.Pairwise (· < ·)->(∀ k ∈ t,a≤k/\k < n)->(t.length:Int)≤max 0 ((n:Int) - a):=by
  intro t
  induction t with
  | nil=>intro a _ _;simp;omega
  | cons x t ih=>
   intro a hp hm
   have h1:=hm x List.mem_cons_self
   have:=ih (x+1) (List.pairwise_cons.mp hp).2 fun k hk=>⟨(List.pairwise_cons.mp hp).1 k hk,(hm k (List.mem_cons_of_mem _ hk)).2⟩
   rw [List.length_cons];push_cast;omega
 have:=key t 0 h.1 h.2
 omega
noncomputable def onI (row k:Int):Int:=row / 2 ^ k.toNat % 2
noncomputable def cntI (row:Int):List Int->Int
 | []=>0
 | k::t=>onI row k+cntI row t
theorem onI01 (row k:Int):onI row k=0∨onI row k=1:=by unfold onI;omega
theorem cntI_le (row:Int):∀ t:List Int,0≤cntI row t/\cntI row t≤t.length
 | []=>by simp [cntI]
 | k::t=>by
  have ih:=cntI_le row t
  rcases onI01 row k with e | e<;>(simp only [cntI,e,List.length_cons];push_cast;omega)
theorem sortD_tups:∀ (ls:List (List Int)),sortD (ls.map tupOf)=some ((isortL ls).map tupOf)
 | []=>rfl
 | t::r=>by
  have e:intsOf ((t::r).map tupOf)=none:=rfl
  unfold sortD
  rw [e,tupsOf_map];rfl
end L2
namespace L2
noncomputable def facI (b:Bool) (on:Int):Int:=if b=true then on else 1 - 2*on
end L2
namespace L2
open PySem
abbrev Prt:=List Int×Int
noncomputable def partD (p:Prt):D:=.tup [tupOf p.1,.int p.2]
noncomputable def polyD (kd:Str) (ps:List Prt):D:=.tup [.str kd,.tup (ps.map partD)]
noncomputable def fits (p:Prt):Prop:=Trm 6 p.1/\p.2≠0/\-1000000000000000000≤p.2/\p.2≤1000000000000000000
theorem parts_get {ps:List Prt}{i:Nat}{d:D} (h:(ps.map partD)[i]?=some d):∃ p,ps[i]?=some p/\d=.tup [tupOf p.1,.int p.2]:=by
 rw [List.getElem?_map,Option.map_eq_some_iff] at h
 obtain⟨p,hp,rfl⟩:=h
 exact⟨p,hp,rfl⟩
theorem lc_parts {te:Ef}{env:Ev}{st:Sto} (F:Prt->D):∀ {ps:List Prt},(∀ p ∈ ps,∃ e1,setT (.tp [0,1]) (.d (partD p)) env=some e1/\te e1 st=some (.d (F p),st))->lcI (.tp [0,1]) iYes te env (ps.map partD) st=some (ps.map F,st)
 | [],_=>rfl
 | p::ps,h=>by
  obtain⟨e1,h1,h2⟩:=h p List.mem_cons_self
  have ih:=lc_parts (te:=te) (env:=env) (st:=st) F (ps:=ps) fun x hx=>h x (List.mem_cons_of_mem _ hx)
  rw [List.map_cons,List.map_cons]
  unfold lcI
  rw [h1,Option.bind_some,show iYes e1 st=some (true,st) from rfl,Option.bind_some,if_pos rfl,h2,Option.bind_some,ih];rfl
end L2
namespace L2
open PySem
end L2
namespace L2
open PySem
theorem qop_eq {g:Sto->W->W->Option D}{a b:Ef}{env:Ev}{st s1 s2:Sto}{x y:W}{d:D} (ha:a env st=some (x,s1)) (hb:b env s1=some (y,s2)) (hg:g s2 x y=some d):iOp g a b env st=some (.d d,s2):=by
 simp only [iOp,ha,hb,hg,Option.bind_some,Option.map_some]
theorem qopT_eq {g:Sto->W->W->Option D}{a b:Ef}{env:Ev}{st s1 s2:Sto}{x y:W}{k:Bool} (ha:a env st=some (x,s1)) (hb:b env s1=some (y,s2)) (hg:g s2 x y=some (.bl k)):iOpT g a b env st=some (k,s2):=by
 simp only [iOpT,ha,hb,hg,Option.bind_some,blOf,Option.map_some]
theorem qseq_eq {a b:Sf}{env e:Ev}{st s:Sto}{r:Fl} (ha:a env st=some (.nx e s)) (hb:b e s=some r):iSeqS a b env st=some r:=by
 simp only [iSeqS,ha,hb,Option.bind_some]
theorem qseq_rt {a b:Sf}{env:Ev}{st s:Sto}{w:W} (ha:a env st=some (.rt w s)):iSeqS a b env st=some (.rt w s):=by
 simp only [iSeqS,ha,Option.bind_some]
theorem qset_eq {i:Nat}{f:Ef}{env:Ev}{st s:Sto}{w:W} (h:f env st=some (w,s)):iSet (.nm i) f env st=some (.nx (env.set i (some w)) s):=by
 simp only [iSet,h,Option.bind_some,setT,Option.map_some]
theorem qcall_eq {m:Fn}{a:Af}{env:Ev}{st s:Sto}{ws:List W}{r:W×Sto} (ha:a env st=some (ws,s)) (hm:m ws s=some r):iCall m a env st=some r:=by
 simp only [iCall,ha,hm,Option.bind_some]
theorem qcb_eq {g:Sto->List W->Option D}{a:Af}{env:Ev}{st s:Sto}{ws:List W}{d:D} (ha:a env st=some (ws,s)) (hm:g s ws=some d):iCB g a env st=some (.d d,s):=by
 simp only [iCB,ha,hm,Option.bind_some,Option.map_some]
theorem qcons_eq {a:Ef}{b:Af}{env:Ev}{st s1 s2:Sto}{x:W}{y:List W} (ha:a env st=some (x,s1)) (hb:b env s1=some (y,s2)):iCons a b env st=some (x::y,s2):=by
 simp only [iCons,ha,hb,Option.bind_some,Option.map_some]
theorem qfor_eq {fi:Lf}{g:Tg}{b:Sf}{env:Ev}{st s:Sto}{ds:List D}{r:Fl} (h:fi env st=some (ds,s)) (hf:forI g b ds env s=some r):iFor fi g b env st=some r:=by
 simp only [iFor,h,hf,Option.bind_some]
theorem qret_eq {f:Ef}{env:Ev}{st s:Sto}{w:W} (h:f env st=some (w,s)):iRet f env st=some (.rt w s):=by
 simp only [iRet,h,Option.map_some]
theorem qif_t {c:Tf}{a b:Sf}{env:Ev}{st s:Sto}{r:Option Fl} (h:c env st=some (true,s)) (ha:a env s=r):iIfS c a b env st=r:=by
 simp only [iIfS,h,Option.bind_some,if_true,ha]
theorem qif_f {c:Tf}{a b:Sf}{env:Ev}{st s:Sto}{r:Option Fl} (h:c env st=some (false,s)) (hb:b env s=r):iIfS c a b env st=r:=by
 simp only [iIfS,h,Option.bind_some,Bool.false_eq_true,if_false,hb]
theorem qlc_eq {k:Nat}{js:List Nat}{fi:Lf}{g:Tg}{tt:Tf}{te:Ef}{env:Ev}{st s s2:Sto}{ds ys:List D} (h:fi env st=some (ds,s)) (hl:ds.length≤1000000) (hc:lcI g tt te (embE k js env) ds s=some (ys,s2)):iLc k js fi g tt te env st=some (ys,s2):=by
 simp only [iLc,h,hc,hl,Option.bind_some,if_true]
theorem qpure_eq {a:Lf}{env:Ev}{st s:Sto}{ds:List D} (h:a env st=some (ds,s)):iPure a env st=some (.d (.lst ds),s):=by
 simp only [iPure,h,Option.map_some]
theorem qrunK_eq {n k:Nat}{b:Sf}{ws:List W}{st s:Sto}{w:W} (hl:ws.length=k) (h:b (ws.map some++List.replicate (n - k) none) st=some (.rt w s)):runK n k b ws st=some (w,s):=by
 simp only [runK,hl,if_true,h,Option.bind_some]
theorem qrunT_eq {n k:Nat}{b:Sf}{ws:List W}{st s:Sto}{x:D} (hl:ws.length=k) (h:b (ws.map some++List.replicate (n - k) none) st=some (.rt (.d x) s)):runT n k b ws st=some (.d x,s.take st.length):=by
 simp only [runT,hl,if_true,h,Option.bind_some,finT]
end L2
section
set_option maxHeartbeats 1000000
namespace Own
open PySem L2
theorem take_ok {st:Sto}{n:Nat}{m Z:Int} (h:Hd st n Z) (hZ:Z < 1000000000) (m0:0 < m) (m1:m < 1073741824):∃ r st',0≤r/\r < m/\Stw n st st'/\Hd st' n (Z+1)/\m__law_take [.h n,.d (.int m)] st=some (.d (.int r),st'):=by
 have hn:=h.lt
 obtain⟨x,y,z,h0,z0,z1,h⟩:=h
 by_cases hx:0 < x
 ·refine⟨x % m,st.set n (.l [.int (x / m),.int y,.int z]),Int.emod_nonneg _ (by omega),Int.emod_lt_of_pos _ m0,⟨_,rfl⟩,⟨_,_,_,Int.ediv_nonneg h0 (by omega),z0,by omega,get_set hn⟩,?_⟩
  simp only [m__law_take,b__law_take,iV,iC,iOp,iOpT,iSkip,iSeqS,iSet,setIx,iSetIx,iRet,iIfS,runK,setT,blOf,seqD,lsD,dIx,dAdd,dMul,dFdiv,dMod,dGt,Option.bind_some,Option.map_some,List.getD_cons_zero,List.getD_cons_succ,List.set_cons_zero,List.set_cons_succ,List.map_cons,List.map_nil,List.length_cons,List.length_nil,List.replicate_succ,List.replicate_zero,List.cons_append,List.nil_append,Nat.reduceAdd,Nat.reduceSub,if_true,atI0,ixN0,Nat.zero_add,and_self,decide_true,lg,Int.reduceNeg,h,hx,m0,m1,decide_true,and_self]
 ·obtain⟨u,hu⟩:∃ u,y*(48271+2*(z+1)*(z+1)+65537*(z+1)) % 2305843009213693921=u:=⟨_,rfl⟩
  have u0:0≤u:=by rw [←hu];exact Int.emod_nonneg _ (by decide)
  have u1:u < 2305843009213693921:=by rw [←hu];exact Int.emod_lt_of_pos _ (by decide)
  have k1:PySem.IntMulOk 2 (z+1):=mulOk_l (by decide)
  have k2:PySem.IntMulOk (2*(z+1)) (z+1):=mulOk_r ⟨by omega,by omega⟩
  have k3:PySem.IntMulOk 65537 (z+1):=mulOk_l (by decide)
  have hq:∃ Zq:Int,z+1=Zq/\0≤Zq/\Zq≤1000000000:=⟨_,rfl,by omega,by omega⟩
  obtain⟨Zq,eZ,q0,q1⟩:=hq
  have k4:PySem.IntMulOk y (48271+2*(z+1)*(z+1)+65537*(z+1)):=by
   have a1:0≤2*Zq*Zq:=Int.mul_nonneg (by omega) q0
   have a2:2*Zq*Zq≤2*Zq*1000000000:=Int.mul_le_mul_of_nonneg_left q1 (by omega)
   rw [eZ]
   exact mulOk_r ⟨by omega,by omega⟩
  have k5:PySem.IntMulOk (z+1) 99991:=mulOk_r (by decide)
  have k6:∀ q,PySem.IntMulOk u q:=fun q=>mulOk_l ⟨by omega,by omega⟩
  refine⟨(u*(u % 1000003+(z+1)*99991+11) % 2305843009213693907 / 97+u*(u % 1000003+(z+1)*99991+11) % 2305843009213693907 / 1000033) % m,st.set n (.l [.int x,.int y,.int (z+1)]),Int.emod_nonneg _ (by omega),Int.emod_lt_of_pos _ m0,⟨_,rfl⟩,⟨_,_,_,h0,by omega,by omega,get_set hn⟩,?_⟩
  simp only [m__law_take,b__law_take,r__law_take_1,iV,iC,iOp,iOpT,iSkip,iSeqS,iSet,setIx,iSetIx,iRet,iIfS,runK,setT,blOf,seqD,lsD,dIx,dAdd,dMul,dFdiv,dMod,dGt,Option.bind_some,Option.map_some,List.getD_cons_zero,List.getD_cons_succ,List.set_cons_zero,List.set_cons_succ,List.map_cons,List.map_nil,List.length_cons,List.length_nil,List.replicate_succ,List.replicate_zero,List.cons_append,List.nil_append,Nat.reduceAdd,Nat.reduceSub,if_true,if_false,Bool.false_eq_true,atI0,atI1,atI2,ixN0,ixN2,Nat.zero_add,and_self,decide_false,lg,Int.reduceNeg,h,hx,m0,m1,decide_false,and_self,get_set hn,k1,k2,k3,k4,k5,k6,hu,show (0:Int) < 2305843009213693921 by decide,show (0:Int) < 1000003 by decide,show (0:Int) < 2305843009213693907 by decide,show (0:Int) < 97 by decide,show (97:Int) < 1073741824 by decide,show (0:Int) < 1000033 by decide,show (1000033:Int) < 1073741824 by decide]
theorem hand_ok {st:Sto}{ns:List Int}{k:Nat}:∃ st',Hd st' st.length 0/\st'.length=st.length+1/\st'.take st.length=st/\m__law_hand [.d (.scr ns),.d (.int k)] st=some (.h st.length,st'):=by
 have p18':CPow 10 18:=p18
 have k1:∀ q,PySem.IntMulOk 7919 q:=fun q=>mulOk_l (by decide)
 have key:∀ c:Int,(∃ b,(if (k:Int) < ((ns.map D.int).length:Nat) then atI (ns.map D.int) (k:Int)=some (.int c) else c=0)/\decide (c≥10 ^ Int.toNat 18)=b)->∃ st',Hd st' st.length 0/\st'.length=st.length+1/\st'.take st.length=st/\m__law_hand [.d (.scr ns),.d (.int k)] st=some (.h st.length,st'):=fun c ⟨b,hc,hb⟩=>by
  have hx:∃ x:Int,0≤x/\atI [D.int 0,.int c] (if b=true then 1 else 0)=some (.int x):=by
   cases b with
   | false=>exact⟨0,by decide,atI0 _ _⟩
   | true=>
    have:c≥10 ^ Int.toNat 18:=of_decide_eq_true hb
    exact⟨c,by have:(0:Int)≤10 ^ Int.toNat 18:=by decide
               omega,atI1 _ _ _⟩
  obtain⟨x,x0,hx⟩:=hx
  refine⟨st++[.l [.int x,.int (c % 2305843009213693951+7919*(k:Int)+3),.int 0]],⟨x,c % 2305843009213693951+7919*(k:Int)+3,0,x0,by decide,by decide,?_⟩,by simp,by simp,?_⟩
  ·rw [List.getElem?_append_right (Nat.le_refl _)];simp
  ·by_cases hk:(k:Int) < ((ns.map D.int).length:Nat)
   ·rw [if_pos hk] at hc
    simp only [m__law_hand,b__law_hand,iV,iC,iOp,iOpT,iNil,iCons,iCB,iLst,iPure,iNew,iSkip,iSeqS,iSet,iRet,iIfS,runK,setT,dsOf,blOf,seqD,lsD,dIx,dAdd,dMul,dMod,dPow,dLt,dGe,dLen,dInt,Option.bind_some,Option.map_some,List.getD_cons_zero,List.getD_cons_succ,List.set_cons_zero,List.set_cons_succ,List.map_cons,List.map_nil,List.length_cons,List.length_nil,List.replicate_succ,List.replicate_zero,List.cons_append,List.nil_append,Nat.reduceAdd,Nat.reduceSub,if_true,Nat.zero_add,decide_true,lg,Int.reduceNeg,hk,hc,hb,hx,p18',k1,show (0:Int) < 2305843009213693951 by decide,show (3:Nat)≤1000 by decide,show (2:Nat)≤1000 by decide]
   ·rw [if_neg hk] at hc
    subst hc
    simp only [m__law_hand,b__law_hand,iV,iC,iOp,iOpT,iNil,iCons,iCB,iLst,iPure,iNew,iSkip,iSeqS,iSet,iRet,iIfS,runK,setT,dsOf,blOf,seqD,lsD,dIx,dAdd,dMul,dMod,dPow,dLt,dGe,dLen,dInt,Option.bind_some,Option.map_some,List.getD_cons_zero,List.getD_cons_succ,List.set_cons_zero,List.set_cons_succ,List.map_cons,List.map_nil,List.length_cons,List.length_nil,List.replicate_succ,List.replicate_zero,List.cons_append,List.nil_append,Nat.reduceAdd,Nat.reduceSub,if_true,if_false,Bool.false_eq_true,Nat.zero_add,decide_false,lg,Int.reduceNeg,hk,hb,hx,p18',k1,show (0:Int) < 2305843009213693951 by decide,show (3:Nat)≤1000 by decide,show (2:Nat)≤1000 by decide]
 by_cases hk:(k:Int) < ((ns.map D.int).length:Nat)
 ·have hk':k < ns.length:=by rw [List.length_map] at hk;omega
  exact key ns[k] ⟨_,by rw [if_pos hk];exact atI_nat (by rw [List.getElem?_map,List.getElem?_eq_getElem hk'];rfl),rfl⟩
 ·exact key 0 ⟨_,by rw [if_neg hk],rfl⟩
theorem pick_ok {st:Sto}{n:Nat}{ds:List D}{Z:Int} (h:Hd st n Z) (hZ:Z < 1000000000) (h0:ds≠[]) (h1:ds.length < 1000000):∃ d st',d ∈ ds/\Stw n st st'/\Hd st' n (Z+1)/\m__law_pick [.h n,.d (.lst ds)] st=some (.d d,st'):=by
 have hp:0 < ds.length:=List.length_pos_iff.mpr h0
 obtain⟨r,s1,r0,r1,t1,t2,e1⟩:=take_ok h hZ (m:=(ds.length:Int)) (by omega) (by omega)
 obtain⟨j,rfl⟩:=Int.eq_ofNat_of_zero_le r0
 have hj:j < ds.length:=by omega
 have e2:atI ds (j:Int)=some ds[j]:=atI_nat (List.getElem?_eq_getElem hj)
 refine⟨ds[j],s1,List.getElem_mem hj,t1,t2,?_⟩
 simp only [m__law_pick,b__law_pick,iV,iOp,iNil,iCons,iCB,iCall,iRet,runK,seqD,dIx,dLen,Option.bind_some,Option.map_some,List.getD_cons_zero,List.getD_cons_succ,List.map_cons,List.map_nil,List.length_cons,List.length_nil,List.replicate_zero,List.cons_append,List.nil_append,Nat.reduceAdd,Nat.reduceSub,if_true,Nat.zero_add,lg,e1,e2]
end Own
end
section
set_option maxHeartbeats 1000000
namespace Own
open PySem L2
noncomputable def valT (b:Bool) (t:List Int) (row:Int):Int:=if b=true then (if cntI row t=(t.length:Int) then 1 else 0) else (if cntI row t % 2=1 then -1 else 1)
noncomputable def kindS (b:Bool):Str:=if b=true then "both" else "odd"
theorem kind_both (b:Bool):(kindS b==("both" : Str))=b:=by cases b<;>decide
theorem allterms_ok {st:Sto}{n:Int} (n0:0≤n) (n1:n≤6):m__law_all_terms [.d (.int n)] st=some (.d (.lst ((allT n.toNat).map tupOf)),st):=by
 obtain⟨env',s2,e2,o,rfl,rfl⟩:=forI_inv (g:=.nm 2) (body:=l__law_all_terms_1) (ds:=rngD 0 n.toNat) (fun i env s=>∃ o,env=[some (.d (.int n)),some (.d (.lst ((genT i).map tupOf))),o]/\s=st) (env:=[some (.d (.int n)),some (.d (.lst [.tup []])),none]) (st:=st)
  ⟨none,rfl,rfl⟩ (fun i d env s hd ⟨o,e,es⟩=>by
   subst e es
   obtain⟨rfl,hi⟩:=rngD_at hd
   have hl:(genT i).length≤64:=by
    rw [genT_len]
    exact Nat.le_trans (Nat.pow_le_pow_right (by decide) (by omega:i≤6)) (by decide)
   have key:lcI (.nm 0) iYes e__law_all_terms_1 [none,some (.d (.int i))] ((genT i).map tupOf) s=some (((genT i).map tupOf).map fun d=>match d with | .tup ds=>.tup (ds++[.int i]) | d=>d,s):=lcI_map _ fun d hd=>by
    obtain⟨t,ht,rfl⟩:=List.mem_map.mp hd
    have htl:=trm_len (genT_trm i ht)
    have hk:(t.map D.int).length+1≤1000000:=by rw [List.length_map];omega
    exact⟨_,rfl,by simp only [e__law_all_terms_1,tupOf,iV,iOp,iNil,iCons,iTupD,dsOf,lsD,dAdd,Option.bind_some,Option.map_some,List.getD_cons_zero,List.getD_cons_succ,List.set_cons_zero,List.length_cons,List.length_nil,if_true,Nat.zero_add,lg,hk,show (1:Nat)≤1000 by decide]⟩
   have e1:(((genT i).map tupOf).map fun d=>match d with | .tup ds=>.tup (ds++[.int i]) | d=>d)=((genT i).map fun t=>t++[(i:Int)]).map tupOf:=by
    rw [List.map_map,List.map_map]
    refine List.map_congr_left fun t _=>?_
    show D.tup (t.map D.int++[.int i])=D.tup ((t++[(i:Int)]).map D.int)
    rw [List.map_append];rfl
   rw [e1] at key
   have e3:(genT (i+1)).map tupOf=(genT i).map tupOf++((genT i).map fun t=>t++[(i:Int)]).map tupOf:=by rw [genT,List.map_append]
   have h1:((genT i).map tupOf).length≤1000000:=by rw [List.length_map];omega
   have h2:((genT i).map tupOf).length+(((genT i).map fun t=>t++[(i:Int)]).map tupOf).length≤1000000:=by simp only [List.length_map];omega
   refine⟨_,[some (.d (.int n)),some (.d (.lst ((genT (i+1)).map tupOf))),some (.d (.int i))],s,rfl,.inl ?_,_,rfl,rfl⟩
   rw [e3]
   generalize ((genT i).map fun t=>t++[(i:Int)]).map tupOf=B at key h2 ⊢
   generalize (genT i).map tupOf=A at key h1 h2 ⊢
   simp only [l__law_all_terms_1,iV,iOp,iPure,iSet,iLc,iItems,setT,embE,lsD,dAdd,Option.bind_some,Option.map_some,List.getD_cons_zero,List.getD_cons_succ,List.set_cons_zero,List.set_cons_succ,List.map_cons,List.map_nil,List.replicate_succ,List.replicate_zero,List.cons_append,List.nil_append,if_true,lg,key,h1,h2])
 rw [rngD_len] at e2
 have hb:-(2 ^ 62)≤n/\n < 2 ^ 62:=by omega
 have hl:((genT n.toNat).map tupOf).length≤64:=by
  rw [List.length_map,genT_len]
  exact Nat.le_trans (Nat.pow_le_pow_right (by decide) (by omega:n.toNat≤6)) (by decide)
 have hs:sortD ((genT n.toNat).map tupOf)=some ((allT n.toNat).map tupOf):=sortD_tups _
 generalize (genT n.toNat).map tupOf=A at e2 hl hs
 generalize (allT n.toNat).map tupOf=B at hs ⊢
 simp only [m__law_all_terms,b__law_all_terms,lSort2,iV,iNil,iCons,iCL,iTupD,iLst,iPure,iSeqS,iSet,iRet,iFor,iRng1D,runK,setT,dsOf,lsD,lSort2,Option.bind_some,Option.map_some,List.getD_cons_zero,List.getD_cons_succ,List.set_cons_zero,List.set_cons_succ,List.map_cons,List.map_nil,List.length_cons,List.length_nil,List.replicate_succ,List.replicate_zero,List.cons_append,List.nil_append,Nat.reduceSub,if_true,Nat.zero_add,and_self,lg,hb,e2,hl,hs,show (1:Nat)≤1000 by decide,show (0:Nat)≤1000 by decide]
theorem number_ok {st:Sto}{h:Nat}{Z:Int} (hh:Hd st h Z) (hZ:Z+3≤1000000):∃ c st',c≠0/\-1000000000000000000≤c/\c≤1000000000000000000/\Stw h st st'/\Hd st' h (Z+3)/\m__law_number [.h h] st=some (.d (.int c),st'):=by
 have p18':CPow 10 18:=p18
 obtain⟨r,s1,r0,r1,w1,h1,e1⟩:=take_ok hh (m:=8) (by omega) (by decide) (by decide)
 by_cases b0:r=0
 ·subst b0
  obtain⟨g,s2,g0,g1,w2,h2,e2⟩:=take_ok h1 (m:=2) (by omega) (by decide) (by decide)
  obtain⟨k,s3,k0,k1,w3,h3,e3⟩:=take_ok h2 (m:=1000) (by omega) (by decide) (by decide)
  have hx:∃ x:Int,(x=1∨x=-1)/\atI [D.int 1,.int (-1)] g=some (.int x):=by
   have:g=0∨g=1:=by omega
   rcases this with rfl | rfl
   ·exact⟨1,.inl rfl,atI0 _ _⟩
   ·exact⟨-1,.inr rfl,atI1 _ _ _⟩
  obtain⟨x,x1,hx⟩:=hx
  have km:∀ q,PySem.IntMulOk x q:=fun q=>mulOk_l (by rcases x1 with rfl | rfl<;>decide)
  have e18:(10:Int) ^ Int.toNat 18=1000000000000000000:=by decide
  refine⟨x*(10 ^ Int.toNat 18 - k),s3,?_,?_,?_,(w1.trans w2).trans w3,h3.mono (by omega),?_⟩
  ·rw [e18];rcases x1 with rfl | rfl<;>omega
  ·rw [e18];rcases x1 with rfl | rfl<;>omega
  ·rw [e18];rcases x1 with rfl | rfl<;>omega
  ·simp only [m__law_number,b__law_number,iV,iC,iOp,iOpT,iUn,iNil,iCons,iCall,iLst,iPure,iSkip,iSeqS,iRet,iIfS,runK,dsOf,blOf,seqD,dIx,dSub,dMul,dPow,dEq,kinOf,eqK,eqD,dNeg,Option.bind_some,Option.map_some,List.getD_cons_zero,List.map_cons,List.map_nil,List.length_cons,List.length_nil,List.replicate_zero,List.cons_append,List.nil_append,Nat.reduceAdd,Nat.reduceSub,if_true,Nat.zero_add,lg,Nat.reduceLeDiff,Int.reduceNeg,e1,e2,e3,hx,km,p18',beq_self_eq_true,show (2:Nat)≤1000 by decide]
 ·have f0:(r==(0:Int))=false:=by simp [b0]
  obtain⟨d,s2,m2,w2,h2,e2⟩:=pick_ok (ds:=[.int 1,.int (-1),.int 2,.int (-2),.int 3,.int (-3)]) h1 (by omega) (by simp) (by simp)
  have hd:∃ c:Int,d=.int c/\c≠0/\-3≤c/\c≤3:=by
   simp only [List.mem_cons,List.not_mem_nil,or_false] at m2
   rcases m2 with rfl | rfl | rfl | rfl | rfl | rfl<;>exact⟨_,rfl,by decide,by decide,by decide⟩
  obtain⟨c,rfl,c0,c1,c2⟩:=hd
  refine⟨c,s2,c0,by omega,by omega,w1.trans w2,h2.mono (by omega),?_⟩
  simp only [m__law_number,b__law_number,iV,iC,iOp,iOpT,iUn,iNil,iCons,iCall,iLst,iPure,iSkip,iSeqS,iRet,iIfS,runK,dsOf,blOf,seqD,dIx,dSub,dMul,dPow,dEq,kinOf,eqK,eqD,dNeg,Option.bind_some,Option.map_some,List.getD_cons_zero,List.map_cons,List.map_nil,List.length_cons,List.length_nil,List.replicate_zero,List.cons_append,List.nil_append,Nat.reduceAdd,Nat.reduceSub,if_true,if_false,Bool.false_eq_true,Nat.zero_add,lg,Nat.reduceLeDiff,Int.reduceNeg,e1,e2,f0,show (6:Nat)≤1000 by decide]
theorem allT_le {n:Int} (n1:n≤6):(allT n.toNat).length≤64:=by
 rw [allT_len];exact Nat.le_trans (Nat.pow_le_pow_right (by decide) (by omega:n.toNat≤6)) (by decide)
theorem poly_ok {st:Sto}{h:Nat}{kd:Str}{n Z:Int} (hh:Hd st h Z) (hZ:Z+300≤1000000) (n0:0≤n) (n1:n≤6):∃ ps st',(∀ p ∈ ps,fits p)/\(ps.map Prod.fst).Sublist (allT n.toNat)/\Stw h st st'/\Hd st' h (Z+300)/\m__law_poly [.h h,.d (.str kd),.d (.int n)] st=some (.d (polyD kd ps),st'):=by
 obtain⟨r,s1,r0,r1,w1,h1,e1⟩:=take_ok hh (m:=5) (by omega) (by decide) (by decide)
 have ea:=allterms_ok (st:=s1) n0 n1
 have hl:=allT_le n1
 obtain⟨us,s2,e2,w2,h2,ts,et,hs⟩:=lcI_inv (g:=.nm 0) (tt:=t__law_poly_2) (te:=e__law_poly_3) (env:=[none,some (.h h),some (.d (.int (1+r)))]) (ds:=(allT n.toNat).map tupOf)
  (fun i ys s=>Stw h s1 s/\Hd s h (Z+1+i)/\∃ ts:List (List Int),ys=ts.map tupOf/\ts.Sublist ((allT n.toNat).take i)) (st:=s1) (ys0:=[]) ⟨Stw.refl h1.lt,h1.mono (by omega),[],rfl,List.Sublist.refl _⟩ (fun i d ys s hd ⟨p1,p2,ts,p3,p4⟩=>by
   rw [List.getElem?_map,Option.map_eq_some_iff] at hd
   obtain⟨t,ht,rfl⟩:=hd
   have hi:=(List.getElem?_eq_some_iff.mp ht)
   have hi':=hi.1
   obtain⟨k,s3,k0,k1,w3,h3,e3⟩:=take_ok p2 (m:=1+r) (by omega) (by omega) (by omega)
   have htk:(allT n.toNat).take (i+1)=(allT n.toNat).take i++[t]:=by rw [List.take_succ_eq_append_getElem hi.1,hi.2]
   refine⟨[some (.d (tupOf t)),some (.h h),some (.d (.int (1+r)))],rfl,?_⟩
   have et:t__law_poly_2 [some (.d (tupOf t)),some (.h h),some (.d (.int (1+r)))] s=some (k==(0:Int),s3):=by
    generalize tupOf t=tt
    simp only [t__law_poly_2,iV,iC,iOpT,iNil,iCons,iCall,blOf,dEq,kinOf,eqK,eqD,Option.bind_some,Option.map_some,List.getD_cons_zero,List.getD_cons_succ,lg,e3]
   by_cases b0:k=0
   ·subst b0
    exact .inl ⟨s3,tupOf t,s3,et,rfl,p1.trans w3,h3.mono (by push_cast;omega),ts++[t],by rw [p3,List.map_append];rfl,by rw [htk];exact p4.append (List.Sublist.refl _)⟩
   ·have f0:(k==(0:Int))=false:=by simp [b0]
    rw [f0] at et
    exact .inr ⟨s3,et,p1.trans w3,h3.mono (by push_cast;omega),ts,p3,by rw [htk];exact p4.trans (List.sublist_append_left _ _)⟩)
 rw [List.nil_append] at et
 rw [List.length_map] at hs h2
 rw [List.take_length] at hs
 have htl:ts.length≤64:=Nat.le_trans hs.length_le hl
 obtain⟨vs,s3,e3,w3,h3,ps,ep,hp1,hp2⟩:=lcI_inv (g:=.nm 0) (tt:=iYes) (te:=e__law_poly_1) (env:=[none,some (.h h)]) (ds:=ts.map tupOf)
  (fun i ys s=>Stw h s2 s/\Hd s h (Z+65+3*i)/\∃ ps:List Prt,ys=ps.map partD/\ps.map Prod.fst=ts.take i/\∀ p ∈ ps,fits p) (st:=s2) (ys0:=[]) ⟨Stw.refl h2.lt,h2.mono (by omega),[],rfl,rfl,fun _ h=>nomatch h⟩ (fun i d ys s hd ⟨p1,p2,ps,p3,p4,p5⟩=>by
   rw [List.getElem?_map,Option.map_eq_some_iff] at hd
   obtain⟨t,ht,rfl⟩:=hd
   have hi:=(List.getElem?_eq_some_iff.mp ht)
   have hi':=hi.1
   obtain⟨c,s4,c0,c1,c2,w4,h4,e4⟩:=number_ok p2 (by omega)
   have hfit:Trm 6 t:=(allT_trm (hs.subset (List.mem_of_getElem? ht))).mono (by omega)
   refine⟨[some (.d (tupOf t)),some (.h h)],rfl,.inl ⟨s,partD (t,c),s4,rfl,?_,p1.trans w4,h4.mono (by push_cast;omega),ps++[(t,c)],by rw [p3,List.map_append];rfl,by rw [List.map_append,p4,List.take_succ_eq_append_getElem hi.1,hi.2];rfl,fun p hp=>?_⟩⟩
   ·unfold partD
    generalize tupOf t=tt
    simp only [e__law_poly_1,iV,iNil,iCons,iCall,iTupD,dsOf,Option.bind_some,Option.map_some,List.getD_cons_zero,List.getD_cons_succ,List.length_cons,List.length_nil,Nat.reduceAdd,if_true,Nat.zero_add,e4,show (2:Nat)≤1000 by decide]
   ·rcases List.mem_append.mp hp with hp | hp
    ·exact p5 p hp
    ·rw [List.mem_singleton.mp hp];exact⟨hfit,c0,c1,c2⟩)
 rw [List.nil_append] at ep
 rw [List.length_map,List.take_length] at hp1
 rw [List.length_map] at h3
 refine⟨ps,s3,hp2,by rw [hp1];exact hs,(w1.trans w2).trans w3,h3.mono (by omega),?_⟩
 have hz1:((allT n.toNat).map tupOf).length≤1000000:=by rw [List.length_map];omega
 have hz2:(ts.map tupOf).length≤1000000:=by rw [List.length_map];omega
 rw [et] at e2
 rw [ep] at e3
 unfold polyD
 generalize ps.map partD=PP at e3 ⊢
 generalize ts.map tupOf=TT at e2 e3 hz2
 generalize (allT n.toNat).map tupOf=AA at e2 ea hz1
 simp only [m__law_poly,b__law_poly,iV,iC,iOp,iNil,iCons,iCB,iCall,iTupD,iPure,iSeqS,iSet,iRet,iLc,iItems,runK,setT,dsOf,embE,seqD,lsD,dAdd,dTup,Option.bind_some,Option.map_some,List.getD_cons_zero,List.getD_cons_succ,List.set_cons_zero,List.set_cons_succ,List.map_cons,List.map_nil,List.length_cons,List.length_nil,List.replicate_succ,List.replicate_zero,List.cons_append,List.nil_append,Nat.reduceAdd,Nat.reduceSub,if_true,Nat.zero_add,lg,e1,ea,hz1,e2,hz2,e3,show (2:Nat)≤1000 by decide]
theorem prod_val (b:Bool) (row:Int):∀ (t:List Int) (a:Int),(t.foldl (fun v k=>v*facI b (onI row k)) a)=a*valT b t row
 | [],a=>by cases b<;>simp [valT,cntI]
 | k::t,a=>by
  rw [List.foldl_cons,prod_val b row t]
  have hc:=cntI_le row t
  rw [Int.mul_assoc]
  congr 1
  cases b with
  | true=>
   simp only [facI,if_true,valT,cntI,List.length_cons]
   rcases onI01 row k with e | e
   ·simp only [e,Int.zero_mul]
    split
    ·push_cast at *;omega
    ·rfl
   ·simp only [e,Int.one_mul]
    split<;>split<;>first | rfl | (push_cast at *;omega)
  | false=>
   simp only [facI,Bool.false_eq_true,if_false,valT,cntI]
   rcases onI01 row k with e | e
   ·simp only [e,Int.zero_add]
    split<;>rfl
   ·simp only [e]
    split<;>split<;>first | rfl | omega
theorem valT_abs (b:Bool) (t:List Int) (row:Int):-1≤valT b t row/\valT b t row≤1:=by
 unfold valT
 split<;>split<;>omega
theorem tval_ok {st:Sto}{b:Bool}{t:List Int}{row:Int} (ht:∀ k ∈ t,0≤k/\k≤20):m__law_term_value [.d (.str (kindS b)),.d (tupOf t),.d (.int row)] st=some (.d (.int (valT b t row)),st):=by
 obtain⟨env',s2,e2,o4,o5,rfl,rfl⟩:=forI_inv (g:=.nm 4) (body:=l__law_term_value_1) (ds:=t.map D.int) (fun i env s=>∃ o4 o5,env=[some (.d (.str (kindS b))),some (.d (tupOf t)),some (.d (.int row)),some (.d (.int ((t.take i).foldl (fun v k=>v*facI b (onI row k)) 1))),o4,o5]/\s=st)
  (env:=[some (.d (.str (kindS b))),some (.d (tupOf t)),some (.d (.int row)),some (.d (.int 1)),none,none]) (st:=st) ⟨none,none,rfl,rfl⟩ (fun i d env s hd ⟨o4,o5,e,es⟩=>by
   subst e es
   rw [List.getElem?_map,Option.map_eq_some_iff] at hd
   obtain⟨k,hk,rfl⟩:=hd
   have hk0:=(ht k (List.mem_of_getElem? hk)).1
   obtain⟨hi,hk'⟩:=List.getElem?_eq_some_iff.mp hk
   have e1:(t.take (i+1)).foldl (fun v k=>v*facI b (onI row k)) 1=(t.take i).foldl (fun v k=>v*facI b (onI row k)) 1*facI b (onI row k):=by
    rw [List.take_succ_eq_append_getElem hi,List.foldl_append,hk'];rfl
   have hf:∃ x,atI [D.int (1 - 2*onI row k),.int (onI row k)] (if b=true then 1 else 0)=some (.int (facI b (onI row k)))/\x=facI b (onI row k):=by
    cases b with
    | true=>exact⟨_,atI1 _ _ _,rfl⟩
    | false=>exact⟨_,atI0 _ _,rfl⟩
   obtain⟨_,hf,_⟩:=hf
   have km:∀ q,PySem.IntMulOk q (facI b (onI row k)):=fun q=>mulOk_r (by rcases onI01 row k with e | e<;>(rw [e];cases b<;>decide))
   have k2:∀ q,PySem.IntMulOk 2 q:=fun q=>mulOk_l (by decide)
   refine⟨_,[some (.d (.str (kindS b))),some (.d (tupOf t)),some (.d (.int row)),some (.d (.int ((t.take (i+1)).foldl (fun v k=>v*facI b (onI row k)) 1))),some (.d (.int k)),some (.d (.int (onI row k)))],s,rfl,.inl ?_,_,_,rfl,rfl⟩
   rw [e1]
   have kb:=kind_both b
   have eo:row / 2 ^ k.toNat % 2=onI row k:=rfl
   generalize (t.take i).foldl (fun v k=>v*facI b (onI row k)) 1=p
   generalize kindS b=kd at kb ⊢
   generalize tupOf t=tt
   generalize facI b (onI row k)=q at hf km ⊢
   simp only [l__law_term_value_1,iV,iC,iOp,iNil,iCons,iCB,iLst,iPure,iSeqS,iSet,setT,dsOf,seqD,dIx,dSub,dMul,dMod,dShr,dEq,kinOf,eqK,eqD,dInt,Option.bind_some,Option.map_some,List.getD_cons_zero,List.getD_cons_succ,List.set_cons_zero,List.set_cons_succ,List.length_cons,List.length_nil,Nat.reduceAdd,if_true,Nat.zero_add,lg,Int.reduceNeg,hk0,eo,k2,kb,hf,km,show (0:Int) < 2 by decide,show (2:Nat)≤1000 by decide])
 rw [List.length_map,List.take_length,prod_val,Int.one_mul] at e2
 generalize valT b t row=v at e2 ⊢
 generalize kindS b=kd at e2 ⊢
 simp only [m__law_term_value,b__law_term_value,tupOf,iV,iC,iSeqS,iSet,iRet,iFor,iItems,runK,setT,Option.bind_some,Option.map_some,List.getD_cons_zero,List.getD_cons_succ,List.set_cons_zero,List.set_cons_succ,List.map_cons,List.map_nil,List.length_cons,List.length_nil,List.replicate_succ,List.replicate_zero,List.cons_append,List.nil_append,Nat.reduceAdd,Nat.reduceSub,if_true,Nat.zero_add] at e2 ⊢
 simp only [e2,Option.bind_some,Option.map_some,List.getD_cons_zero,List.getD_cons_succ]
noncomputable def valP (b:Bool) (ps:List Prt) (row:Int):Int:=(ps.map fun p=>p.2*valT b p.1 row).sum
noncomputable def fitt (p:Prt):Prop:=Trm 6 p.1
theorem trm20 {n:Nat}{t:List Int} (h:Trm n t) (hn:n≤6):∀ k ∈ t,0≤k/\k≤20:=fun k hk=>⟨(h.2 k hk).1,by have:=(h.2 k hk).2;omega⟩
theorem fitt_t {p:Prt} (h:fitt p):∀ k ∈ p.1,0≤k/\k≤20:=trm20 h (Nat.le_refl 6)
theorem mulV (b:Bool) (t:List Int) (row c:Int):PySem.IntMulOk c (valT b t row):=mulOk_r (by have:=valT_abs b t row;omega)
theorem lawvalue_ok {st:Sto}{b:Bool}{ps:List Prt}{row:Int} (hp:∀ p ∈ ps,fitt p) (hl:ps.length≤1000):m__law_value [.d (polyD (kindS b) ps),.d (.int row)] st=some (.d (.int (valP b ps row)),st):=by
 have key:lcI (.tp [0,1]) iYes e__law_value_1 [none,none,some (.d (polyD (kindS b) ps)),some (.d (.int row))] (ps.map partD) st=some (ps.map fun p=>.int (p.2*valT b p.1 row),st):=lc_parts _ fun p hm=>by
  refine⟨_,rfl,?_⟩
  have e:=tval_ok (st:=st) (b:=b) (row:=row) (fitt_t (hp p hm))
  have km:=mulV b p.1 row p.2
  unfold polyD
  generalize ps.map partD=PP
  generalize kindS b=kd at e ⊢
  generalize tupOf p.1=tt at e ⊢
  simp only [e__law_value_1,iV,iC,iOp,iNil,iCons,iCall,setNs,seqD,dIx,dMul,Option.bind_some,Option.map_some,List.getD_cons_zero,List.getD_cons_succ,List.set_cons_zero,List.set_cons_succ,if_true,atI0,lg,Int.reduceNeg,e,km]
 have hs:intsOf (ps.map fun p=>.int (p.2*valT b p.1 row))=some (ps.map fun p=>p.2*valT b p.1 row):=by
  have:=intsOf_map (ps.map fun p=>p.2*valT b p.1 row)
  rw [List.map_map] at this;exact this
 have hz:(ps.map partD).length≤1000000:=by rw [List.length_map];omega
 unfold valP
 generalize ps.map (fun p=>p.2*valT b p.1 row)=L at hs ⊢
 generalize (ps.map fun p=>D.int (p.2*valT b p.1 row))=LD at key hs
 unfold polyD at key ⊢
 generalize ps.map partD=PP at key hz ⊢
 generalize kindS b=kd at key ⊢
 simp only [m__law_value,b__law_value,iV,iC,iOp,iNil,iCons,iCB,iPure,iRet,iLc,iItems,runK,embE,seqD,dIx,dSum,Option.bind_some,Option.map_some,List.getD_cons_zero,List.getD_cons_succ,List.map_cons,List.map_nil,List.length_cons,List.length_nil,List.replicate_succ,List.replicate_zero,List.cons_append,List.nil_append,Nat.reduceAdd,Nat.reduceSub,if_true,atI1,Nat.zero_add,lg,hz,key,hs]
end Own
end
section
set_option maxHeartbeats 1000000
namespace Own
open PySem L2
theorem qtup_eq {a:Af}{env:Ev}{st s:Sto}{ws:List W}{ds:List D} (h:a env st=some (ws,s)) (hd:dsOf ws=some ds) (hl:ds.length≤1000:=by decide):iTupD a env st=some (.d (.tup ds),s):=by
 simp only [iTupD,h,hd,hl,Option.bind_some,if_true]
theorem qlst_eq {a:Af}{env:Ev}{st s:Sto}{ws:List W}{ds:List D} (h:a env st=some (ws,s)) (hd:dsOf ws=some ds) (hl:ds.length≤1000:=by decide):iLst a env st=some (ds,s):=by
 simp only [iLst,h,hd,hl,Option.bind_some,if_true]
theorem items_op {f:Ef}{env:Ev}{st s:Sto}{ds:List D} (h:f env st=some (.d (.tup ds),s)):iItems f env st=some (ds,s):=by
 simp only [iItems,h,Option.bind_some]
theorem vM_cons (k:List Int) (d:D) (r:List (List Int×D)) (t:List Int):vM ((k,d)::r) t=if k=t then some d else vM r t:=by
 unfold vM
 by_cases e:k=t
 ·rw [List.find?_cons_of_pos (by simpa using e),if_pos e];rfl
 ·rw [List.find?_cons_of_neg (by simpa using e),if_neg e]
theorem any_key (kvs:List (List Int×D)) (k:List Int):(kvs.any fun p=>decide (p.1=k))=decide (k ∈ kvs.map Prod.fst):=by
 induction kvs with
 | nil=>rfl
 | cons p r ih=>
  rw [List.any_cons,ih,List.map_cons]
  by_cases e:p.1=k
  ·simp [e]
  ·have:¬ k=p.1:=fun z=>e z.symm
   simp [e,this]
theorem keys_put (kvs:List (List Int×D)) (k:List Int) (d:D):(putM kvs k d).map Prod.fst=if k ∈ kvs.map Prod.fst then kvs.map Prod.fst else kvs.map Prod.fst++[k]:=by
 unfold putM
 rw [any_key]
 by_cases h:k ∈ kvs.map Prod.fst
 ·rw [if_pos (decide_eq_true h),if_pos h,List.map_map]
  refine List.map_congr_left fun p _=>?_
  show (if p.1=k then (p.1,d) else p).1=p.1
  split<;>rfl
 ·rw [if_neg (by simpa using h),if_neg h,List.map_append];rfl
theorem vM_repl (k:List Int) (d:D) (j:List Int):∀ kvs:List (List Int×D),k ∈ kvs.map Prod.fst->vM (kvs.map fun p=>if p.1=k then (p.1,d) else p) j=if j=k then some d else vM kvs j
 | [],h=>by cases h
 | (k',d')::r,h=>by
  rw [List.map_cons]
  by_cases e:k'=k
  ·rw [if_pos e,vM_cons,vM_cons]
   subst e
   by_cases ej:k'=j
   ·rw [if_pos ej,if_pos ej.symm]
   ·rw [if_neg ej,if_neg (fun z=>ej z.symm),if_neg ej]
    by_cases hm:k' ∈ r.map Prod.fst
    ·rw [vM_repl k' d j r hm,if_neg (fun z=>ej z.symm)]
    ·have:(r.map fun p=>if p.1=k' then (p.1,d) else p)=r:=by
      conv=>rhs;rw [←List.map_id r]
      refine List.map_congr_left fun p hp=>?_
      rw [if_neg (fun z=>hm (by rw [←z];exact List.mem_map_of_mem hp))];rfl
     rw [this]
  ·rw [if_neg e,vM_cons,vM_cons]
   rw [List.map_cons,List.mem_cons] at h
   have hm:k ∈ r.map Prod.fst:=h.resolve_left fun z=>e z.symm
   rw [vM_repl k d j r hm]
   by_cases ej:k'=j
   ·rw [if_pos ej,if_pos ej,if_neg (fun z=>e (ej.trans z))]
   ·rw [if_neg ej,if_neg ej]
theorem vM_app (k:List Int) (d:D) (j:List Int):∀ kvs:List (List Int×D),k ∉ kvs.map Prod.fst->vM (kvs++[(k,d)]) j=if j=k then some d else vM kvs j
 | [],_=>by
  show vM [(k,d)] j=_
  rw [vM_cons]
  by_cases e:k=j
  ·rw [if_pos e,if_pos e.symm]
  ·rw [if_neg e,if_neg (fun z=>e z.symm)]
 | (k',d')::r,h=>by
  rw [List.map_cons,List.mem_cons,not_or] at h
  rw [List.cons_append,vM_cons,vM_cons,vM_app k d j r h.2]
  by_cases ej:k'=j
  ·rw [if_pos ej,if_pos ej,if_neg (fun z=>h.1 (z.symm.trans ej.symm))]
  ·rw [if_neg ej,if_neg ej]
theorem vM_put (kvs:List (List Int×D)) (k:List Int) (d:D) (j:List Int):vM (putM kvs k d) j=if j=k then some d else vM kvs j:=by
 unfold putM
 rw [any_key]
 by_cases h:k ∈ kvs.map Prod.fst
 ·rw [if_pos (decide_eq_true h)];exact vM_repl k d j kvs h
 ·rw [if_neg (by simpa using h)];exact vM_app k d j kvs h
noncomputable def sumAt (L:List Prt) (t:List Int):Int:=((L.filter fun p=>decide (p.1=t)).map Prod.snd).sum
theorem sumAt_snoc (L:List Prt) (p:Prt) (t:List Int):sumAt (L++[p]) t=sumAt L t+if p.1=t then p.2 else 0:=by
 unfold sumAt
 rw [List.filter_append,List.map_append,List.sum_append]
 congr 1
 by_cases e:p.1=t<;>simp [e]
theorem sumAt_none {L:List Prt}{t:List Int} (h:t ∉ L.map Prod.fst):sumAt L t=0:=by
 unfold sumAt
 rw [List.filter_eq_nil_iff.mpr]
 ·rfl
 ·intro p hp e
  exact h (by rw [←of_decide_eq_true e];exact List.mem_map_of_mem hp)
structure GK (kvs:List (List Int×D)) (L:List Prt):Prop where
 nd:(kvs.map Prod.fst).Nodup
 mem:∀ t,t ∈ kvs.map Prod.fst↔t ∈ L.map Prod.fst
 val:∀ t,vM kvs t=if t ∈ L.map Prod.fst then some (.int (sumAt L t)) else none
theorem GK.nil:GK [] []:=⟨List.nodup_nil,fun t=>Iff.rfl,fun t=>by simp [vM]⟩
theorem GK.getD {kvs:List (List Int×D)}{L:List Prt} (G:GK kvs L) (t:List Int):(vM kvs t).getD (.int 0)=.int (sumAt L t):=by
 rw [G.val t]
 by_cases h:t ∈ L.map Prod.fst
 ·rw [if_pos h];rfl
 ·rw [if_neg h,sumAt_none h];rfl
theorem GK.put {kvs:List (List Int×D)}{L:List Prt} (G:GK kvs L) (p:Prt):GK (putM kvs p.1 (.int (sumAt L p.1+p.2))) (L++[p]):=by
 refine⟨?_,fun t=>?_,fun t=>?_⟩
 ·rw [keys_put]
  split
  ·exact G.nd
  ·rename_i h
   rw [List.nodup_append]
   exact⟨G.nd,by simp,fun a ha b hb e=>h (by rw [List.mem_singleton] at hb;rw [←hb,←e];exact ha)⟩
 ·rw [keys_put,List.map_append,List.mem_append]
  split
  ·rename_i h
   rw [G.mem t]
   refine⟨.inl,fun z=>z.elim id fun z=>?_⟩
   have:t=p.1:=by simpa using z
   rw [this];exact (G.mem p.1).mp h
  ·rw [List.mem_append,G.mem t];rfl
 ·rw [vM_put,sumAt_snoc,G.val t,List.map_append]
  by_cases e:t=p.1
  ·subst e
   rw [if_pos rfl,if_pos rfl,if_pos (List.mem_append_right _ (by simp))]
  ·have hs:(sumAt L t+if p.1=t then p.2 else 0)=sumAt L t:=by rw [if_neg (fun z=>e z.symm),Int.add_zero]
   rw [if_neg e,hs]
   have:(t ∈ List.map Prod.fst L++List.map Prod.fst [p])↔t ∈ L.map Prod.fst:=by simp [e]
   by_cases h:t ∈ L.map Prod.fst
   ·rw [if_pos h,if_pos (this.mpr h)]
   ·rw [if_neg h,if_neg (fun z=>h (this.mp z))]
theorem sub_len {α:Type} [DecidableEq α]:∀ {l m:List α},l.Nodup->(∀ x ∈ l,x ∈ m)->l.length≤m.length
 | [],m,_,_=>Nat.zero_le _
 | x::l,m,hn,hs=>by
  have hn':=List.nodup_cons.mp hn
  have hx:=hs x List.mem_cons_self
  have:=sub_len (l:=l) (m:=m.erase x) hn'.2 fun y hy=>(List.mem_erase_of_ne (fun e=>hn'.1 (by rw [←e];exact hy))).mpr (hs y (List.mem_cons_of_mem _ hy))
  rw [List.length_erase_of_mem hx] at this
  have hp:0 < m.length:=List.length_pos_of_mem hx
  rw [List.length_cons];omega
noncomputable def ksI (m:Nat):List Int:=(ksOf m).map fun k=>((k:Nat):Int)
theorem ksI_D (m:Nat):(ksOf m).map (fun k=>D.int ((k:Nat):Int))=(ksI m).map D.int:=by unfold ksI;rw [List.map_map];rfl
theorem mem_ksI {m:Nat}{z:Int}:z ∈ ksI m↔∃ k:Nat,z=k/\k < 6/\m.testBit k=true:=by
 unfold ksI
 rw [List.mem_map]
 exact⟨fun⟨k,h,e⟩=>⟨k,e.symm,(mem_ks.mp h).1,(mem_ks.mp h).2⟩,fun⟨k,e,h1,h2⟩=>⟨k,mem_ks.mpr ⟨h1,h2⟩,e.symm⟩⟩
theorem ksI_trm (m:Nat):Trm 6 (ksI m):=by
 refine⟨?_,fun k hk=>?_⟩
 ·unfold ksI ksOf
  rw [List.pairwise_map]
  have:(List.range 6).Pairwise (· < ·):=List.pairwise_lt_range
  exact (this.filter _).imp fun {a b} h=>by omega
 ·obtain⟨j,rfl,h,_⟩:=mem_ksI.mp hk
  omega
theorem bitsOf_L (l:List Int):bitsOf l=bitsL (l.map Int.toNat):=by unfold bitsOf bitsL;rw [List.foldl_map]
theorem bitsOf_test {t:List Int} (h:Trm 6 t) (j:Nat):(bitsOf t).testBit j=decide ((j:Int) ∈ t):=by
 rw [bitsOf_L,bitsL_test]
 apply decide_eq_decide.mpr
 rw [List.mem_map]
 constructor
 ·rintro⟨z,hz,e⟩
  have:=(h.2 z hz).1
  have:(j:Int)=z:=by omega
  rw [this];exact hz
 ·intro hj
  exact⟨j,hj,by simp⟩
theorem bitsOf_lt {t:List Int} (h:Trm 6 t):bitsOf t < 64:=by
 refine Nat.lt_pow_two_of_testBit (n:=6) _ fun j hj=>?_
 rw [bitsOf_test h,decide_eq_false_iff_not]
 intro z
 have:=(h.2 _ z).2
 omega
theorem trm_bits {t:List Int} (h:Trm 6 t):ksI (bitsOf t)=t:=by
 have hm:∀ z,z ∈ ksI (bitsOf t)↔z ∈ t:=fun z=>by
  rw [mem_ksI]
  constructor
  ·rintro⟨k,rfl,_,hk⟩
   rw [bitsOf_test h] at hk
   exact of_decide_eq_true hk
  ·intro hz
   have h1:=h.2 z hz
   obtain⟨k,rfl⟩:=Int.eq_ofNat_of_zero_le h1.1
   exact⟨k,rfl,by omega,by rw [bitsOf_test h];exact decide_eq_true hz⟩
 have hn:∀ {l:List Int},l.Pairwise (· < ·)->l.Nodup:=fun hl=>hl.imp fun {a b} hab e=>by omega
 refine List.Perm.eq_of_pairwise (le:=(· < ·)) (fun a b _ _ h1 h2=>by omega) (ksI_trm _).1 h.1 ?_
 exact (List.perm_ext_iff_of_nodup (hn (ksI_trm _).1) (hn h.1)).mpr hm
theorem trms_len {l:List (List Int)} (hn:l.Nodup) (h:∀ t ∈ l,Trm 6 t):l.length≤64:=by
 have:=sub_len (m:=(List.range 64).map ksI) hn fun t ht=>List.mem_map.mpr ⟨bitsOf t,List.mem_range.mpr (bitsOf_lt (h t ht)),trm_bits (h t ht)⟩
 rw [List.length_map,List.length_range] at this
 exact this
noncomputable def ltL (a b:List Int):Prop:=lexI a b=true
theorem ltL_of {a b:List Int} (h:leL a b) (hne:a≠b):ltL a b:=by
 unfold ltL
 cases e:lexI a b with
 | true=>rfl
 | false=>exact absurd (lexI_tot a b e h) hne
theorem isortL_lt {l:List (List Int)} (hn:l.Nodup):(isortL l).Pairwise ltL:=by
 have h2:(isortL l).Nodup:=(isortL_perm l).nodup_iff.mpr hn
 exact (isortL_sorted l).imp₂ (fun a b h1 h2=>ltL_of h1 h2) h2
noncomputable def gathP (ks:List (List Int)) (L:List Prt):List Prt:=(ks.filter fun t=>decide (sumAt L t≠0)).map fun t=>(t,sumAt L t)
theorem dne_int (s:Sto) (a:Int):dNe s (.d (.int a)) (.d (.int 0))=some (.bl (decide (a≠0))):=by
 show some (D.bl (!(a==0)))=_
 by_cases h:a=0<;>simp [h]
theorem from_ok {st:Sto}{kd:Str}{n:Nat}{kvs:List (List Int×D)}{L:List Prt} (hm:mgt st n=some kvs) (G:GK kvs L) (h6:∀ p ∈ L,Trm 6 p.1) :
  m_poly_from [.d (.str kd),.h n] st=some (.d (polyD kd (gathP (isortL (kvs.map Prod.fst)) L)),st):=by
 have htr:∀ t ∈ kvs.map Prod.fst,Trm 6 t:=fun t ht=>by
  obtain⟨p,hp,rfl⟩:=List.mem_map.mp ((G.mem t).mp ht)
  exact h6 p hp
 have hlen:kvs.length≤64:=by
  have:=trms_len G.nd htr
  rw [List.length_map] at this;exact this
 have hsl:(isortL (kvs.map Prod.fst)).length≤64:=by rw [(isortL_perm _).length_eq,List.length_map];exact hlen
 have hmem:∀ t ∈ isortL (kvs.map Prod.fst),vM kvs t=some (.int (sumAt L t)):=fun t ht=>by
  rw [G.val t,if_pos ((G.mem t).mp ((isortL_perm _).mem_iff.mp ht))]
 have mix:∀ t ∈ isortL (kvs.map Prod.fst),iMix (iV 1) (iV 0) [some (.d (tupOf t)),some (.h n)] st=some (.d (.int (sumAt L t)),st):=fun t ht=>by
  have e1:intsOf (t.map D.int)=some t:=intsOf_map t
  have e2:=hmem t ht
  simp only [iMix,iV,tupOf,List.getD_cons_zero,List.getD_cons_succ,Option.map_some,Option.bind_some,hm,e1,e2]
 have key:=lcI_filt (g:=.nm 0) (tt:=t_poly_from_1) (te:=e_poly_from_1) (env:=[none,some (.h n)]) (st:=st) (fun d=>match d with | .tup ds=>(match intsOf ds with | some t=>decide (sumAt L t≠0) | none=>false) | _=>false) (fun d=>match d with | .tup ds=>(match intsOf ds with | some t=>partD (t,sumAt L t) | none=>d) | d=>d) (ds:=(isortL (kvs.map Prod.fst)).map tupOf) fun d hd=>by
  obtain⟨t,ht,rfl⟩:=List.mem_map.mp hd
  have e1:intsOf (t.map D.int)=some t:=intsOf_map t
  refine⟨_,rfl,?_,fun _=>?_⟩
  ·show _=some ((match intsOf (t.map D.int) with | some t=>decide (sumAt L t≠0) | none=>false),st)
   rw [e1]
   exact qopT_eq (mix t ht) rfl (dne_int _ _)
  ·show _=some (W.d (match intsOf (t.map D.int) with | some t=>partD (t,sumAt L t) | none=>tupOf t),st)
   rw [e1]
   exact qtup_eq (qcons_eq rfl (qcons_eq (mix t ht) rfl)) rfl (by show 2≤1000;decide)
 have e:((((isortL (kvs.map Prod.fst)).map tupOf).filter (fun d=>match d with | .tup ds=>(match intsOf ds with | some t=>decide (sumAt L t≠0) | none=>false) | _=>false)).map (fun d=>match d with | .tup ds=>(match intsOf ds with | some t=>partD (t,sumAt L t) | none=>d) | d=>d))=(gathP (isortL (kvs.map Prod.fst)) L).map partD:=by
  unfold gathP
  rw [List.filter_map,List.map_map,List.map_map]
  have e1:∀ t:List Int,intsOf (t.map D.int)=some t:=intsOf_map
  congr 1
  ·funext t
   show (match intsOf (t.map D.int) with | some t=>partD (t,sumAt L t) | none=>tupOf t)=partD (t,sumAt L t)
   rw [e1]
  ·refine List.filter_congr fun t _=>?_
   show (match intsOf (t.map D.int) with | some t=>decide (sumAt L t≠0) | none=>false)=_
   rw [e1]
 rw [e] at key
 have hso:iSortM (iV 1) [some (.d (.str kd)),some (.h n)] st=some ((isortL (kvs.map Prod.fst)).map tupOf,st):=by
  simp only [iSortM,iV,List.getD_cons_zero,List.getD_cons_succ,Option.map_some,Option.bind_some,hm,hlen,if_true]
 have hit:iItems (iPure (iSortM (iV 1))) [some (.d (.str kd)),some (.h n)] st=some ((isortL (kvs.map Prod.fst)).map tupOf,st):=by
  simp only [iItems,iPure,hso,Option.map_some,Option.bind_some]
 have hz:((isortL (kvs.map Prod.fst)).map tupOf).length≤1000000:=by rw [List.length_map];omega
 unfold polyD
 exact qrunK_eq (n:=2) (k:=2) (b:=b_poly_from) rfl (qret_eq (qtup_eq (qcons_eq rfl (qcons_eq (qcb_eq (qcons_eq (qpure_eq (qlc_eq hit hz key)) rfl) rfl) rfl)) rfl (by show 2≤1000;decide)))
end Own
end
section
set_option maxHeartbeats 1000000
namespace Own
open PySem L2
theorem mgt_last (st:Sto) (kvs:List (List Int×D)):mgt (st++[.m kvs]) st.length=some kvs:=by
 unfold mgt
 rw [List.getElem?_append_right (Nat.le_refl _),Nat.sub_self];rfl
theorem lg_app {st:Sto}{n:Nat}{ds:List D} (h:lg st n=some ds) (u:Sto):lg (st++u) n=some ds:=by
 have hn:st[n]?=some (.l ds):=lg_some h
 have hlt:=(List.getElem?_eq_some_iff.mp hn).1
 unfold lg
 rw [List.getElem?_append_left hlt,hn]
theorem gbody_ok {st:Sto}{kvs:List (List Int×D)}{L:List Prt}{a0 a1:Option W}{p:Prt} (G:GK kvs L) (hl:kvs.length < 1000) :
  l_gathered_1 [a0,a1,some (.h st.length),some (.d (tupOf p.1)),some (.d (.int p.2))] (st++[.m kvs])=some (.nx [a0,a1,some (.h st.length),some (.d (tupOf p.1)),some (.d (.int p.2))] (st++[.m (putM kvs p.1 (.int (sumAt L p.1+p.2)))])):=by
 have e1:intsOf (p.1.map D.int)=some p.1:=intsOf_map p.1
 have e2:=mgt_last st kvs
 have e3:=G.getD p.1
 have e4:(st++[C.m kvs]).set st.length (.m (putM kvs p.1 (.int (sumAt L p.1+p.2))))=st++[.m (putM kvs p.1 (.int (sumAt L p.1+p.2)))]:=by
  rw [List.set_append_right _ _ (Nat.le_refl _),Nat.sub_self];rfl
 have g:iGetM (iV 2) (iV 3) (iC (.int 0)) [a0,a1,some (.h st.length),some (.d (tupOf p.1)),some (.d (.int p.2))] (st++[.m kvs])=some (.d (.int (sumAt L p.1)),st++[.m kvs]):=by
  simp only [iGetM,iV,iC,tupOf,List.getD_cons_zero,List.getD_cons_succ,Option.map_some,Option.bind_some,e1,e2,e3]
 have g2:=qop_eq (g:=dAdd) (b:=iV 4) (y:=.d (.int p.2)) (d:=.int (sumAt L p.1+p.2)) g rfl rfl
 simp only [tupOf] at g2 ⊢
 simp only [l_gathered_1,iPutM,g2,iV,List.getD_cons_zero,List.getD_cons_succ,Option.map_some,Option.bind_some,e1,e2,hl,if_true,e4]
noncomputable def PartsAt (st:Sto) (w:W) (L:List Prt):Prop:=w=.d (.tup (L.map partD))∨w=.d (.lst (L.map partD))∨∃ n,w=.h n/\lg st n=some (L.map partD)
theorem gk_len {kvs:List (List Int×D)}{L:List Prt} (G:GK kvs L) (h6:∀ p ∈ L,Trm 6 p.1):kvs.length≤64:=by
 have:=trms_len G.nd fun t ht=>by
  obtain⟨p,hp,rfl⟩:=List.mem_map.mp ((G.mem t).mp ht)
  exact h6 p hp
 rw [List.length_map] at this;exact this
theorem gath_ok {st:Sto}{kd:Str}{w:W}{L:List Prt} (hw:PartsAt st w L) (h6:∀ p ∈ L,Trm 6 p.1) :
  ∃ ks:List (List Int),ks.Pairwise ltL/\ks.Nodup/\(∀ t,t ∈ ks↔t ∈ L.map Prod.fst)/\m_gathered [.d (.str kd),w] st=some (.d (polyD kd (gathP ks L)),st):=by
 have step:∀ (i:Nat) (d:D) (env:Ev) (s:Sto),(L.map partD)[i]?=some d->(∃ o3 o4 kvs,env=[some (.d (.str kd)),some w,some (.h st.length),o3,o4]/\s=st++[.m kvs]/\GK kvs (L.take i))->
   ∃ e1 e2 s2,setT (.tp [3,4]) (.d d) env=some e1/\(l_gathered_1 e1 s=some (.nx e2 s2)∨l_gathered_1 e1 s=some (.ct e2 s2))/\∃ o3 o4 kvs,e2=[some (.d (.str kd)),some w,some (.h st.length),o3,o4]/\s2=st++[.m kvs]/\GK kvs (L.take (i+1)):=by
  rintro i d env s hd ⟨o3,o4,kvs,rfl,rfl,G⟩
  obtain⟨p,hp,rfl⟩:=parts_get hd
  have hlen:=gk_len G fun q hq=>h6 q (List.mem_of_mem_take hq)
  have htk:L.take (i+1)=L.take i++[p]:=by rw [List.take_add_one,hp];rfl
  exact⟨_,_,_,rfl,.inl (gbody_ok G (by omega)),_,_,_,rfl,rfl,by rw [htk];exact G.put p⟩
 have fin:∀ (kvs:List (List Int×D)) (o3 o4:Option W),GK kvs L->iForW (iV 1) (.tp [3,4]) l_gathered_1 [some (.d (.str kd)),some w,some (.h st.length),none,none] (st++[.m []])=some (.nx [some (.d (.str kd)),some w,some (.h st.length),o3,o4] (st++[.m kvs]))->
   ∃ ks:List (List Int),ks.Pairwise ltL/\ks.Nodup/\(∀ t,t ∈ ks↔t ∈ L.map Prod.fst)/\m_gathered [.d (.str kd),w] st=some (.d (polyD kd (gathP ks L)),st):=by
  intro kvs o3 o4 G hF
  refine⟨isortL (kvs.map Prod.fst),isortL_lt G.nd,(isortL_perm _).nodup_iff.mpr G.nd,fun t=>((isortL_perm _).mem_iff).trans (G.mem t),?_⟩
  have hf:=from_ok (st:=st++[.m kvs]) (kd:=kd) (mgt_last st kvs) G h6
  have hq:=qrunT_eq (n:=5) (k:=2) (b:=b_gathered) (ws:=[.d (.str kd),w]) (st:=st) (s:=st++[.m kvs]) (x:=polyD kd (gathP (isortL (kvs.map Prod.fst)) L)) rfl
   (qseq_eq (qset_eq (w:=.h st.length) (s:=st++[C.m []]) rfl) (qseq_eq hF (qret_eq (qcall_eq rfl hf))))
  have ht:(st++[C.m kvs]).take st.length=st:=by rw [List.take_left'];rfl
  rw [ht] at hq
  exact hq
 rcases hw with rfl | rfl | ⟨n,rfl,hn⟩
 ·obtain⟨e',s',hF,o3,o4,kvs,rfl,rfl,G⟩:=forI_inv (g:=.tp [3,4]) (body:=l_gathered_1) (ds:=L.map partD) (fun i env s=>∃ o3 o4 kvs,env=[some (.d (.str kd)),some (.d (.tup (L.map partD))),some (.h st.length),o3,o4]/\s=st++[.m kvs]/\GK kvs (L.take i)) (env:=[some (.d (.str kd)),some (.d (.tup (L.map partD))),some (.h st.length),none,none]) (st:=st++[.m []]) ⟨none,none,[],rfl,rfl,GK.nil⟩ step
  rw [List.length_map,List.take_length] at G
  exact fin kvs o3 o4 G hF
 ·obtain⟨e',s',hF,o3,o4,kvs,rfl,rfl,G⟩:=forI_inv (g:=.tp [3,4]) (body:=l_gathered_1) (ds:=L.map partD) (fun i env s=>∃ o3 o4 kvs,env=[some (.d (.str kd)),some (.d (.lst (L.map partD))),some (.h st.length),o3,o4]/\s=st++[.m kvs]/\GK kvs (L.take i)) (env:=[some (.d (.str kd)),some (.d (.lst (L.map partD))),some (.h st.length),none,none]) (st:=st++[.m []]) ⟨none,none,[],rfl,rfl,GK.nil⟩ step
  rw [List.length_map,List.take_length] at G
  exact fin kvs o3 o4 G hF
 ·obtain⟨e',s',hF,o3,o4,kvs,rfl,rfl,G⟩:=forH_inv (n:=n) (all:=L.map partD) (g:=.tp [3,4]) (body:=l_gathered_1) (ds:=L.map partD) (fun i env s=>∃ o3 o4 kvs,env=[some (.d (.str kd)),some (.h n),some (.h st.length),o3,o4]/\s=st++[.m kvs]/\GK kvs (L.take i)) (env:=[some (.d (.str kd)),some (.h n),some (.h st.length),none,none]) (st:=st++[.m []]) ⟨none,none,[],rfl,rfl,GK.nil⟩ (by
   rintro i env s ⟨o3,o4,kvs,rfl,rfl,G⟩
   exact lg_app hn _) step
  rw [List.length_map,List.take_length] at G
  refine fin kvs o3 o4 G ?_
  have:=lg_app hn [C.m []]
  simp only [iForW,iV,List.getD_cons_zero,List.getD_cons_succ,Option.map_some,Option.bind_some,this]
  exact hF
theorem sum_zero {α:Type}:∀ l:List α,(l.map fun _=>(0:Int)).sum=0
 | []=>rfl
 | x::l=>by rw [List.map_cons,List.sum_cons,sum_zero l];rfl
theorem sumAt_cons (p:Prt) (L:List Prt) (t:List Int):sumAt (p::L) t=(if p.1=t then p.2 else 0)+sumAt L t:=by
 unfold sumAt
 rw [List.filter_cons]
 by_cases e:p.1=t
 ·rw [if_pos (decide_eq_true e),if_pos e,List.map_cons,List.sum_cons]
 ·rw [if_neg (by simpa using e),if_neg e,Int.zero_add]
theorem sum_pick (f:List Int->Int) (c:Int) (t:List Int):∀ ks:List (List Int),ks.Nodup->t ∈ ks->(ks.map fun k=>(if t=k then c else 0)*f k).sum=c*f t
 | [],_,h=>by cases h
 | k::ks,hn,h=>by
  have hn':=List.nodup_cons.mp hn
  rw [List.map_cons,List.sum_cons]
  by_cases e:t=k
  ·subst e
   rw [if_pos rfl]
   have:(ks.map fun k=>(if t=k then c else 0)*f k).sum=0:=by
    have:(ks.map fun k=>(if t=k then c else 0)*f k)=ks.map fun _=>(0:Int):=List.map_congr_left fun k hk=>by
     rw [if_neg (fun z=>hn'.1 (by rw [z];exact hk)),Int.zero_mul]
    rw [this,sum_zero]
   rw [this,Int.add_zero]
  ·rw [if_neg e,Int.zero_mul,Int.zero_add]
   exact sum_pick f c t ks hn'.2 ((List.mem_cons.mp h).resolve_left e)
theorem sum_add {α:Type} (f g:α->Int):∀ l:List α,(l.map fun x=>f x+g x).sum=(l.map f).sum+(l.map g).sum
 | []=>rfl
 | x::l=>by rw [List.map_cons,List.map_cons,List.map_cons,List.sum_cons,List.sum_cons,List.sum_cons,sum_add f g l];omega
theorem gath_sum (f:List Int->Int) {ks:List (List Int)} (hn:ks.Nodup):∀ L:List Prt,(∀ p ∈ L,p.1 ∈ ks)->(ks.map fun t=>sumAt L t*f t).sum=(L.map fun p=>p.2*f p.1).sum
 | [],_=>by
  have:(ks.map fun t=>sumAt [] t*f t)=ks.map fun _=>(0:Int):=List.map_congr_left fun t _=>by show (0:Int)*_=0;rw [Int.zero_mul]
  rw [this,sum_zero];rfl
 | p::L,h=>by
  rw [List.map_cons,List.sum_cons,←gath_sum f hn L fun q hq=>h q (List.mem_cons_of_mem _ hq)]
  have e:(ks.map fun t=>sumAt (p::L) t*f t)=ks.map fun t=>(if p.1=t then p.2 else 0)*f t+sumAt L t*f t:=List.map_congr_left fun t _=>by
   rw [sumAt_cons,Int.add_mul]
  rw [e,sum_add,sum_pick f p.2 p.1 ks hn (h p List.mem_cons_self)]
theorem gathP_sum (f:List Int->Int) (ks:List (List Int)) (L:List Prt):((gathP ks L).map fun p=>p.2*f p.1).sum=(ks.map fun t=>sumAt L t*f t).sum:=by
 unfold gathP
 rw [List.map_map]
 induction ks with
 | nil=>rfl
 | cons t ks ih=>
  rw [List.filter_cons]
  by_cases h:sumAt L t=0
  ·rw [if_neg (by simp [h]),List.map_cons,List.sum_cons,h,Int.zero_mul,Int.zero_add];exact ih
  ·rw [if_pos (by simp [h]),List.map_cons,List.map_cons,List.sum_cons,List.sum_cons,ih];rfl
theorem gath_val {b:Bool}{row:Int}{ks:List (List Int)}{L:List Prt} (hn:ks.Nodup) (hm:∀ t,t ∈ ks↔t ∈ L.map Prod.fst):valP b (gathP ks L) row=valP b L row:=by
 unfold valP
 rw [gathP_sum (fun t=>valT b t row),gath_sum (fun t=>valT b t row) hn L fun p hp=>(hm p.1).mpr (List.mem_map_of_mem hp)]
noncomputable def PolyOk (ps:List Prt):Prop:=(∀ p ∈ ps,Trm 6 p.1/\p.2≠0)/\(ps.map Prod.fst).Pairwise ltL/\ps.length≤64
theorem gath_poly {ks:List (List Int)}{L:List Prt} (hs:ks.Pairwise ltL) (hn:ks.Nodup) (hm:∀ t,t ∈ ks↔t ∈ L.map Prod.fst) (h6:∀ p ∈ L,Trm 6 p.1):PolyOk (gathP ks L):=by
 have htr:∀ t ∈ ks,Trm 6 t:=fun t ht=>by
  obtain⟨p,hp,rfl⟩:=List.mem_map.mp ((hm t).mp ht)
  exact h6 p hp
 refine⟨fun p hp=>?_,?_,?_⟩
 ·unfold gathP at hp
  obtain⟨t,ht,rfl⟩:=List.mem_map.mp hp
  have:=List.mem_filter.mp ht
  exact⟨htr t this.1,of_decide_eq_true this.2⟩
 ·unfold gathP
  rw [List.map_map]
  have:(Prod.fst ∘ fun t=>(t,sumAt L t))=(id:List Int->List Int):=rfl
  rw [this,List.map_id]
  exact hs.filter _
 ·unfold gathP
  rw [List.length_map]
  exact Nat.le_trans (List.length_filter_le _ _) (trms_len hn htr)
end Own
end
section
set_option maxHeartbeats 1000000
namespace Own
open PySem L2
theorem cut_drop (ds:List D) (j:Nat):cutD ds (some (j:Int)) none=ds.drop j:=by
 unfold cutD
 rw [HT.sIx_nat,HT.sIx_none]
 by_cases h:j≤ds.length
 ·rw [Nat.min_eq_left h,List.take_of_length_le (by rw [List.length_drop];exact Nat.le_refl _)]
 ·rw [Nat.min_eq_right (by omega),List.drop_eq_nil_of_le (Nat.le_refl _),List.drop_eq_nil_of_le (by omega),List.take_nil]
theorem ix0 (s:Sto) (a:D) (l:List D):dIx s (.d (.tup (a::l))) (.d (.int 0))=some a:=by simp only [dIx,seqD,Option.bind_some,atI0]
theorem ix1 (s:Sto) (a b:D) (l:List D):dIx s (.d (.tup (a::b::l))) (.d (.int 1))=some b:=by simp only [dIx,seqD,Option.bind_some,atI1]
theorem whole_ok {st:Sto} (i:Int):m__law_is_whole [.d (.int i)] st=some (.d (.bl true),st):=by
 simp only [m__law_is_whole,b__law_is_whole,iV,iC,iNotV,iAndV,iNil,iCons,iCB,iRet,runK,blW,dIsi,tyName,isi_int_int,isi_int_bool,Option.bind_some,Option.map_some,List.getD_cons_zero,List.map_cons,List.map_nil,List.length_cons,List.length_nil,List.replicate_zero,List.cons_append,List.nil_append,Nat.reduceSub,if_true,Bool.not_false,Nat.zero_add,lg]
theorem qtru {f:Ef}{env:Ev}{st s:Sto}{k:Bool} (h:f env st=some (.d (.bl k),s)):iTru truD f env st=some (k,s):=by
 simp only [iTru,h,Option.bind_some,truD,Option.map_some]
theorem qnott {f:Tf}{env:Ev}{st s:Sto}{k:Bool} (h:f env st=some (k,s)):iNotT f env st=some (!k,s):=by
 simp only [iNotT,h,Option.map_some]
theorem qor_f {a b:Tf}{env:Ev}{st s s':Sto}{k:Bool} (ha:a env st=some (false,s)) (hb:b env s=some (k,s')):iOrT a b env st=some (k,s'):=by
 simp only [iOrT,ha,hb,Option.bind_some,Bool.false_eq_true,if_false]
theorem qall {a:Af}{env:Ev}{st s:Sto}{bs:List Bool} (h:a env st=some ([.d (.lst (bs.map D.bl))],s)):iCB dAll a env st=some (.d (.bl (bs.all id)),s):=by
 refine qcb_eq h ?_
 show (bolsOf (bs.map D.bl)).map (fun ns=>D.bl (ns.all id))=_
 rw [bolsOf_map];rfl
noncomputable def ups {α:Type} (R:α->α->Bool):List α->Bool
 | x::y::r=>R x y && ups R (y::r)
 | _=>true
theorem ups_of {α:Type}{R:α->α->Bool}:∀ {l:List α},l.Pairwise (fun a b=>R a b=true)->ups R l=true
 | [],_=>rfl
 | [x],_=>rfl
 | x::y::r,h=>by
  have h':=List.pairwise_cons.mp h
  rw [ups,h'.1 y List.mem_cons_self,Bool.true_and]
  exact ups_of h'.2
theorem lc_zip {α:Type}{te:Ef}{env:Ev}{st:Sto} (F:α->D) (R:α->α->Bool) (h:∀ a b,∃ e1,setT (.tp [0,1]) (.d (.tup [F a,F b])) env=some e1/\te e1 st=some (.d (.bl (R a b)),st)) :
  ∀ l:List α,∃ bs:List Bool,lcI (.tp [0,1]) iYes te env (zipD (l.map F) ((l.map F).drop 1)) st=some (bs.map D.bl,st)/\bs.all id=ups R l
 | []=>⟨[],rfl,rfl⟩
 | [x]=>⟨[],rfl,rfl⟩
 | x::y::r=>by
  obtain⟨bs,h1,h2⟩:=lc_zip F R h (y::r)
  obtain⟨e1,g1,g2⟩:=h x y
  refine⟨R x y::bs,?_,by rw [List.all_cons,h2,ups];rfl⟩
  have e:zipD ((x::y::r).map F) (((x::y::r).map F).drop 1)=.tup [F x,F y]::zipD ((y::r).map F) (((y::r).map F).drop 1):=rfl
  rw [e]
  unfold lcI
  rw [g1,Option.bind_some,show iYes e1 st=some (true,st) from rfl,Option.bind_some,if_pos rfl,g2,Option.bind_some,h1];rfl
theorem zip_len:∀ (a b:List D),(zipD a b).length≤a.length
 | [],_=>Nat.le_refl _
 | _::_,[]=>Nat.zero_le _
 | x::a,y::b=>by rw [zipD,List.length_cons,List.length_cons];have:=zip_len a b;omega
theorem isterm_ok {st:Sto}{t:List Int} (h:Trm 6 t):m__law_is_term [.d (tupOf t)] st=some (.d (.bl true),st):=by
 have hl:=trm_len h
 have k1:lcI (.nm 0) iYes e__law_is_term_2 [none] (t.map D.int) st=some ((t.map fun _=>true).map D.bl,st):=by
  rw [List.map_map]
  have:t.map (D.bl ∘ fun _=>true)=(t.map D.int).map fun _=>D.bl true:=by rw [List.map_map];rfl
  rw [this]
  refine lcI_map _ fun d hd=>?_
  obtain⟨k,hk,rfl⟩:=List.mem_map.mp hd
  have h1:=h.2 k hk
  refine⟨_,rfl,?_⟩
  have e:=whole_ok (st:=st) k
  have c1:decide (0≤k)=true:=decide_eq_true h1.1
  have c2:decide (k < 6)=true:=decide_eq_true h1.2
  simp only [e__law_is_term_2,iV,iC,iChain,iAndV,iNil,iCons,iCall,blOf,blW,dLt,dLe,Option.bind_some,Option.map_some,List.getD_cons_zero,List.set_cons_zero,if_true,e,c1,c2]
 obtain⟨bs,k2,k3⟩:=lc_zip (te:=e__law_is_term_1) (env:=[none,none]) (st:=st) D.int (fun a b=>decide (a < b)) (fun a b=>⟨_,rfl,rfl⟩) t
 have a1:(t.map fun _=>true).all id=true:=by rw [List.all_map];exact List.all_eq_true.mpr fun _ _=>rfl
 have a2:bs.all id=true:=by rw [k3];exact ups_of (h.1.imp fun {a b} hab=>decide_eq_true hab)
 have hz1:(t.map D.int).length≤1000000:=by rw [List.length_map];omega
 have hz2:(zipD (t.map D.int) ((t.map D.int).drop 1)).length≤1000000:=by
  have:=zip_len (t.map D.int) ((t.map D.int).drop 1)
  omega
 have s1:iSl (iV 0) (iPs (iC (.int 1))) iPn [some (.d (tupOf t))] st=some (.d (.tup ((t.map D.int).drop 1)),st):=by
  show some (W.d (.tup (cutD (t.map D.int) (some (1:Int)) none)),st)=_
  rw [show (1:Int)=((1:Nat):Int) from rfl,cut_drop]
 have z1:iZipD (iCons (iV 0) (iCons (iSl (iV 0) (iPs (iC (.int 1))) iPn) iNil)) [some (.d (tupOf t))] st=some (zipD (t.map D.int) ((t.map D.int).drop 1),st):=by
  have:=qcons_eq (a:=iV 0) (b:=iCons (iSl (iV 0) (iPs (iC (.int 1))) iPn) iNil) (env:=[some (.d (tupOf t))]) (st:=st) rfl (qcons_eq s1 rfl)
  simp only [iZipD,this,Option.bind_some]
  rfl
 have q1:=qall (bs:=t.map fun _=>true) (qcons_eq (b:=iNil) (qpure_eq (qlc_eq (k:=1) (js:=[]) (env:=[some (.d (tupOf t))]) (items_op (f:=iV 0) rfl) hz1 k1)) rfl)
 have q2:=qall (bs:=bs) (qcons_eq (b:=iNil) (qpure_eq (qlc_eq (k:=2) (js:=[]) (env:=[some (.d (tupOf t))]) z1 hz2 k2)) rfl)
 rw [a1] at q1
 rw [a2] at q2
 have i1:iCB dIsi (iCons (iV 0) (iCons (iC (.ty "tuple")) iNil)) [some (.d (tupOf t))] st=some (.d (.bl true),st):=rfl
 exact qrunK_eq (n:=1) (k:=1) (b:=b__law_is_term) rfl (qseq_eq (qif_f (qor_f (qnott (qtru i1)) (qnott (qtru q1))) rfl) (qret_eq q2))
theorem str_eq (s:Sto) (a b:Str):dEq s (.d (.str a)) (.d (.str b))=some (.bl (a==b)):=by
 simp only [dEq,kinOf,eqK,eqD,Option.bind_some,Option.map_some]
theorem str_ne (s:Sto) (a b:Str):dNe s (.d (.str a)) (.d (.str b))=some (.bl (!(a==b))):=by
 simp only [dNe,kinOf,eqK,eqD,Option.bind_some,Option.map_some]
theorem int_eq (s:Sto) (a b:Int):dEq s (.d (.int a)) (.d (.int b))=some (.bl (a==b)):=by
 simp only [dEq,kinOf,eqK,eqD,Option.bind_some,Option.map_some]
theorem int_ne (s:Sto) (a b:Int):dNe s (.d (.int a)) (.d (.int b))=some (.bl (!(a==b))):=by
 simp only [dNe,kinOf,eqK,eqD,Option.bind_some,Option.map_some]
theorem ispart_ok {st:Sto}{a0:Option W}{p:Prt} (h:Trm 6 p.1) (h0:p.2≠0):l__law_is_poly_1 [a0,some (.d (partD p))] st=some (.nx [a0,some (.d (partD p))] st):=by
 have e1:=isterm_ok (st:=st) h
 have e2:=whole_ok (st:=st) p.2
 have f0:(p.2==(0:Int))=false:=by simp [h0]
 unfold partD
 generalize tupOf p.1=tt at e1 ⊢
 have i1:iCB dIsi (iCons (iV 1) (iCons (iC (.ty "tuple")) iNil)) [a0,some (.d (.tup [tt,.int p.2]))] st=some (.d (.bl true),st):=rfl
 have n2:iOpT dNe (iCB dLen (iCons (iV 1) iNil)) (iC (.int 2)) [a0,some (.d (.tup [tt,.int p.2]))] st=some (false,st):=qopT_eq (x:=.d (.int 2)) (y:=.d (.int 2)) rfl rfl (by rw [int_ne];rfl)
 exact qseq_eq (qif_f (qor_f (qnott (qtru i1)) (qor_f n2 (qnott (qtru (qcall_eq (qcons_eq (qop_eq rfl rfl (ix0 _ _ _)) rfl) e1))))) rfl) (qif_f (qor_f (qnott (qtru (qcall_eq (qcons_eq (qop_eq rfl rfl (ix1 _ _ _ _)) rfl) e2))) (qopT_eq (qop_eq rfl rfl (ix1 _ _ _ _)) rfl (by rw [int_eq,f0]))) rfl)
theorem ispoly_ok {st:Sto}{b:Bool}{ps:List Prt} (h:PolyOk ps):m__law_is_poly [.d (polyD (kindS b) ps)] st=some (.d (.bl true),st):=by
 obtain⟨h1,h2,h3⟩:=h
 obtain⟨e',s',hF,o,rfl,rfl⟩:=forI_inv (g:=.nm 1) (body:=l__law_is_poly_1) (ds:=ps.map partD) (fun i env s=>∃ o,env=[some (.d (polyD (kindS b) ps)),o]/\s=st) (env:=[some (.d (polyD (kindS b) ps)),none]) (st:=st) ⟨none,rfl,rfl⟩ (by
  rintro i d env s hd ⟨o,rfl,rfl⟩
  rw [List.getElem?_map,Option.map_eq_some_iff] at hd
  obtain⟨p,hp,rfl⟩:=hd
  have:=h1 p (List.mem_of_getElem? hp)
  exact⟨_,_,_,rfl,.inl (ispart_ok this.1 this.2),_,rfl,rfl⟩)
 obtain⟨bs,k2,k3⟩:=lc_zip (te:=e__law_is_poly_1) (env:=[none,none]) (st:=s') partD (fun a b=>lexI a.1 b.1) (fun a b=>⟨_,rfl,qop_eq (qop_eq rfl rfl (ix0 _ _ _)) (qop_eq rfl rfl (ix0 _ _ _)) (by
  show (intsOf (a.1.map D.int)).bind (fun ns=>(intsOf (b.1.map D.int)).map fun ms=>D.bl (lexI ns ms))=_
  rw [intsOf_map,intsOf_map];rfl)⟩) ps
 have a2:bs.all id=true:=by
  rw [k3]
  refine ups_of ?_
  rw [List.pairwise_map] at h2
  exact h2
 have hz2:(zipD (ps.map partD) ((ps.map partD).drop 1)).length≤1000000:=by
  have:=zip_len (ps.map partD) ((ps.map partD).drop 1)
  rw [List.length_map] at this
  omega
 unfold polyD at hF ⊢
 generalize ps.map partD=PP at *
 have s1:iSl (iOp dIx (iV 0) (iC (.int 1))) (iPs (iC (.int 1))) iPn [some (.d (.tup [.str (kindS b),.tup PP])),o] s'=some (.d (.tup (PP.drop 1)),s'):=by
  have e0:iOp dIx (iV 0) (iC (.int 1)) [some (.d (.tup [.str (kindS b),.tup PP])),o] s'=some (.d (.tup PP),s'):=qop_eq rfl rfl (ix1 _ _ _ _)
  simp only [iSl,e0,Option.bind_some,iPs,iPn,iC]
  show (dSl s' (.d (.tup PP)) (some (1:Int)) none).map (fun d=>(W.d d,s'))=_
  show some (W.d (.tup (cutD PP (some (1:Int)) none)),s')=_
  rw [show (1:Int)=((1:Nat):Int) from rfl,cut_drop]
 have z1:iZipD (iCons (iOp dIx (iV 0) (iC (.int 1))) (iCons (iSl (iOp dIx (iV 0) (iC (.int 1))) (iPs (iC (.int 1))) iPn) iNil)) [some (.d (.tup [.str (kindS b),.tup PP])),o] s'=some (zipD PP (PP.drop 1),s'):=by
  have:=qcons_eq (a:=iOp dIx (iV 0) (iC (.int 1))) (b:=iCons (iSl (iOp dIx (iV 0) (iC (.int 1))) (iPs (iC (.int 1))) iPn) iNil) (env:=[some (.d (.tup [.str (kindS b),.tup PP])),o]) (st:=s') (qop_eq rfl rfl (ix1 _ _ _ _)) (qcons_eq s1 rfl)
  simp only [iZipD,this,Option.bind_some,sqkD,Option.map_some]
 have q2:=qall (bs:=bs) (qcons_eq (b:=iNil) (qpure_eq (qlc_eq (k:=2) (js:=[]) (env:=[some (.d (.tup [.str (kindS b),.tup PP])),o]) z1 hz2 k2)) rfl)
 rw [a2] at q2
 have i1:iCB dIsi (iCons (iV 0) (iCons (iC (.ty "tuple")) iNil)) [some (.d (.tup [.str (kindS b),.tup PP])),none] s'=some (.d (.bl true),s'):=rfl
 have n2:iOpT dNe (iCB dLen (iCons (iV 0) iNil)) (iC (.int 2)) [some (.d (.tup [.str (kindS b),.tup PP])),none] s'=some (false,s'):=qopT_eq (x:=.d (.int 2)) (y:=.d (.int 2)) rfl rfl (by rw [int_ne];rfl)
 have i2:iCB dIsi (iCons (iOp dIx (iV 0) (iC (.int 0))) (iCons (iC (.ty "str")) iNil)) [some (.d (.tup [.str (kindS b),.tup PP])),none] s'=some (.d (.bl true),s'):=qcb_eq (qcons_eq (qop_eq rfl rfl (ix0 _ _ _)) rfl) rfl
 have i3:iCB dIsi (iCons (iOp dIx (iV 0) (iC (.int 1))) (iCons (iC (.ty "tuple")) iNil)) [some (.d (.tup [.str (kindS b),.tup PP])),none] s'=some (.d (.bl true),s'):=qcb_eq (qcons_eq (qop_eq rfl rfl (ix1 _ _ _ _)) rfl) rfl
 have n3:iOpT dNotIn (iOp dIx (iV 0) (iC (.int 0))) (iTupD (iCons (iC (.str "both")) (iCons (iC (.str "odd")) iNil))) [some (.d (.tup [.str (kindS b),.tup PP])),none] s'=some (false,s'):=by
  refine qopT_eq (qop_eq rfl rfl (ix0 _ _ _)) (qtup_eq (ds:=[.str "both",.str "odd"]) rfl rfl (by decide)) ?_
  have hin:inD (.str (kindS b)) [.str "both",.str "odd"]=true:=by cases b<;>decide
  show (if flatD (.str (kindS b))=true/\[D.str "both",.str "odd"].all flatD=true then some (D.bl (!inD (.str (kindS b)) [.str "both",.str "odd"])) else none)=_
  rw [if_pos ⟨rfl,rfl⟩,hin];rfl
 exact qrunK_eq (n:=2) (k:=1) (b:=b__law_is_poly) rfl (qseq_eq (qif_f (qor_f (qnott (qtru i1)) (qor_f n2 (qnott (qtru i2)))) rfl) (qseq_eq (qif_f (qor_f n3 (qnott (qtru i3))) rfl)
  (qseq_eq (qfor_eq (items_op (qop_eq rfl rfl (ix1 _ _ _ _))) hF) (qret_eq q2))))
end Own
end
section
set_option maxHeartbeats 1000000
namespace Own
open PySem L2
theorem qextL {o:Ef}{a:Af}{env:Ev}{st s1 s2:Sto}{n:Nat}{ds ds0 xs:List D} (ho:o env st=some (.h n,s1)) (ha:a env s1=some ([.d (.lst xs)],s2)) (h0:lg s1 n=some ds0) (hg:lg s2 n=some ds) (hz:ds.length+xs.length≤1000000):iDrop (iMeth mExtL o a) env st=some (.nx env (s2.set n (.l (ds++xs)))):=by
 simp only [iDrop,iMeth,ho,ha,h0,hg,mExtL,hz,if_true,Option.bind_some,Option.map_some]
theorem mulOk_k {a b:Int}{k:Nat} (ha:a.natAbs < 2 ^ k) (hb:b.natAbs < 2 ^ k) (hk:k≤1000):PySem.IntMulOk a b:=by
 have key:∀ x:Int,x.natAbs < 2 ^ k->Builtin.Int.intBits x≤1001:=fun x hx=>by
  unfold Builtin.Int.intBits
  split
  ·exact Nat.zero_le _
  ·have:x.natAbs.log2 < k+1:=by
    rcases Nat.eq_zero_or_pos x.natAbs with h0 | hp
    ·rw [h0];exact Nat.succ_pos _
    ·exact Nat.lt_succ_of_lt ((Nat.log2_lt (Nat.ne_of_gt hp)).mpr hx)
   omega
 have h1:=key a ha
 have h2:=key b hb
 have hT:Builtin.Int.intTooBig ((Builtin.Int.intBits a:Int)+(Builtin.Int.intBits b:Int))=false:=by
  unfold Builtin.Int.intTooBig
  refine decide_eq_false ?_
  have:bitsLine≥3000:=by decide
  omega
 unfold PySem.IntMulOk
 rw [hT,Bool.and_false]
 exact Bool.false_ne_true
theorem cnt_all (row:Int):∀ t:List Int,cntI row t=(t.length:Int)↔∀ k ∈ t,onI row k=1
 | []=>by simp [cntI]
 | k::t=>by
  have ih:=cnt_all row t
  have hc:=cntI_le row t
  rw [cntI,List.length_cons]
  constructor
  ·intro h j hj
   rcases onI01 row k with e | e
   ·rw [e] at h;push_cast at h;omega
   ·rcases List.mem_cons.mp hj with rfl | hj
    ·exact e
    ·exact ih.mp (by rw [e] at h;push_cast at h;omega) j hj
  ·intro h
   rw [h k List.mem_cons_self,ih.mpr fun j hj=>h j (List.mem_cons_of_mem _ hj)];push_cast;omega
noncomputable def cB (row:Int) (m:Nat) (l:List Nat):Int:=(l.map fun k=>if m.testBit k=true then onI row (k:Int) else 0).sum
theorem cnt_bits (row:Int) (m:Nat):∀ l:List Nat,cntI row ((l.filter fun k=>m.testBit k).map fun k=>((k:Nat):Int))=cB row m l
 | []=>rfl
 | k::l=>by
  have ih:=cnt_bits row m l
  unfold cB at *
  rw [List.filter_cons,List.map_cons,List.sum_cons,←ih]
  by_cases h:m.testBit k=true
  ·rw [if_pos h,if_pos h];rfl
  ·rw [if_neg h,if_neg h,Int.zero_add]
theorem par_xor (row:Int) (m1 m2:Nat):∀ l:List Nat,cB row (m2 ^^^ m1) l % 2=(cB row m1 l+cB row m2 l) % 2
 | []=>rfl
 | k::l=>by
  have ih:=par_xor row m1 m2 l
  unfold cB at *
  rw [List.map_cons,List.map_cons,List.map_cons,List.sum_cons,List.sum_cons,List.sum_cons,Nat.testBit_xor]
  have h:=onI01 row (k:Int)
  cases m1.testBit k<;>cases m2.testBit k<;>simp only [Bool.xor_false,Bool.xor_true,Bool.not_true,Bool.not_false,Bool.false_eq_true,if_true,if_false]<;>omega
noncomputable def jn (b:Bool) (t u:List Int):List Int:=if b=true then ksI (bitsOf t ||| bitsOf u) else ksI (bitsOf u ^^^ bitsOf t)
theorem jn_trm (b:Bool) (t u:List Int):Trm 6 (jn b t u):=by unfold jn;split<;>exact ksI_trm _
theorem jn_val {b:Bool}{t u:List Int} (row:Int) (ht:Trm 6 t) (hu:Trm 6 u):valT b (jn b t u) row=valT b t row*valT b u row:=by
 cases b with
 | true=>
  simp only [valT,jn,if_true]
  have hm:(∀ k ∈ ksI (bitsOf t ||| bitsOf u),onI row k=1)↔(∀ k ∈ t,onI row k=1)/\∀ k ∈ u,onI row k=1:=by
   have mem:∀ z,z ∈ ksI (bitsOf t ||| bitsOf u)↔z ∈ t∨z ∈ u:=fun z=>by
    rw [mem_ksI]
    constructor
    ·rintro⟨k,rfl,_,h⟩
     rw [Nat.testBit_or,bitsOf_test ht,bitsOf_test hu,Bool.or_eq_true,decide_eq_true_eq,decide_eq_true_eq] at h
     exact h
    ·intro h
     have hz:0≤z/\z < 6:=h.elim (fun h=>ht.2 z h) fun h=>hu.2 z h
     obtain⟨k,rfl⟩:=Int.eq_ofNat_of_zero_le hz.1
     refine⟨k,rfl,by omega,?_⟩
     rw [Nat.testBit_or,bitsOf_test ht,bitsOf_test hu,Bool.or_eq_true,decide_eq_true_eq,decide_eq_true_eq]
     exact h
   exact⟨fun h=>⟨fun k hk=>h k ((mem k).mpr (.inl hk)),fun k hk=>h k ((mem k).mpr (.inr hk))⟩,fun h k hk=>((mem k).mp hk).elim (h.1 k) (h.2 k)⟩
  rw [←cnt_all,←cnt_all,←cnt_all] at hm
  by_cases h1:cntI row t=(t.length:Int)<;>by_cases h2:cntI row u=(u.length:Int)
  ·rw [if_pos h1,if_pos h2,if_pos (hm.mpr ⟨h1,h2⟩)];rfl
  ·rw [if_pos h1,if_neg h2,if_neg (fun z=>h2 (hm.mp z).2)];rfl
  ·rw [if_neg h1,if_pos h2,if_neg (fun z=>h1 (hm.mp z).1)];rfl
  ·rw [if_neg h1,if_neg h2,if_neg (fun z=>h1 (hm.mp z).1)];rfl
 | false=>
  simp only [valT,jn,Bool.false_eq_true,if_false]
  have e1:cntI row t=cB row (bitsOf t) (List.range 6):=by rw [←cnt_bits];exact congrArg _ (trm_bits ht).symm
  have e2:cntI row u=cB row (bitsOf u) (List.range 6):=by rw [←cnt_bits];exact congrArg _ (trm_bits hu).symm
  have e3:cntI row (ksI (bitsOf u ^^^ bitsOf t))=cB row (bitsOf u ^^^ bitsOf t) (List.range 6):=cnt_bits row _ _
  have hx:=par_xor row (bitsOf t) (bitsOf u) (List.range 6)
  rw [←e1,←e2,←e3] at hx
  by_cases h1:cntI row t % 2=1<;>by_cases h2:cntI row u % 2=1
  ·rw [if_pos h1,if_pos h2,if_neg (by omega)];rfl
  ·rw [if_pos h1,if_neg h2,if_pos (by omega)];rfl
  ·rw [if_neg h1,if_pos h2,if_pos (by omega)];rfl
  ·rw [if_neg h1,if_neg h2,if_neg (by omega)];rfl
theorem in6_trm {t:List Int} (h:Trm 6 t):in6 t=true:=by
 unfold in6
 refine List.all_eq_true.mpr fun k hk=>?_
 exact decide_eq_true (h.2 k hk)
theorem joined_ok {st:Sto}{b:Bool}{t u:List Int} (ht:Trm 6 t) (hu:Trm 6 u):m_joined [.d (.str (kindS b)),.d (tupOf t),.d (tupOf u)] st=some (.d (tupOf (jn b t u)),st):=by
 have s1:iSetOf (iV 1) [some (.d (.str (kindS b))),some (.d (tupOf t)),some (.d (tupOf u))] st=some (bitsOf t,st):=by
  simp only [iSetOf,iV,tupOf,List.getD_cons_zero,List.getD_cons_succ,Option.map_some,Option.bind_some,seqD,intsOf_map,in6_trm ht,if_true]
 have s2:iSetOf (iV 2) [some (.d (.str (kindS b))),some (.d (tupOf t)),some (.d (tupOf u))] st=some (bitsOf u,st):=by
  simp only [iSetOf,iV,tupOf,List.getD_cons_zero,List.getD_cons_succ,Option.map_some,Option.bind_some,seqD,intsOf_map,in6_trm hu,if_true]
 have kb:=kind_both b
 cases b with
 | true=>
  have e:iSortS (iSetOr (iSetOf (iV 1)) (iSetOf (iV 2))) [some (.d (.str (kindS true))),some (.d (tupOf t)),some (.d (tupOf u))] st=some ((jn true t u).map D.int,st):=by
   simp only [iSortS,iSetOr,s1,s2,Option.bind_some,Option.map_some,ksI_D,jn,if_true]
  exact qrunK_eq (n:=3) (k:=3) (b:=b_joined) rfl (qseq_rt (qif_t (qopT_eq (x:=.d (.str (kindS true))) rfl rfl (by rw [str_eq,kb])) (qret_eq (qcb_eq (qcons_eq (qpure_eq e) rfl) rfl))))
 | false=>
  have e:iSortS (iSetXor (iSetOf (iV 1)) (iSetOf (iV 2))) [some (.d (.str (kindS false))),some (.d (tupOf t)),some (.d (tupOf u))] st=some ((jn false t u).map D.int,st):=by
   simp only [iSortS,iSetXor,s1,s2,Option.bind_some,Option.map_some,ksI_D,jn,Bool.false_eq_true,if_false]
  exact qrunK_eq (n:=3) (k:=3) (b:=b_joined) rfl (qseq_eq (qif_f (qopT_eq (x:=.d (.str (kindS false))) rfl rfl (by rw [str_eq,kb])) rfl) (qret_eq (qcb_eq (qcons_eq (qpure_eq e) rfl) rfl)))
noncomputable def rowL (b:Bool) (p:Prt) (qs:List Prt):List Prt:=qs.map fun q=>(jn b p.1 q.1,p.2*q.2)
noncomputable def prodL (b:Bool) (ps qs:List Prt):List Prt:=(ps.map fun p=>rowL b p qs).flatten
theorem valP_app (b:Bool) (row:Int) (a c:List Prt):valP b (a++c) row=valP b a row+valP b c row:=by unfold valP;rw [List.map_append,List.sum_append]
theorem rowL_val {b:Bool}{row:Int}{p:Prt} (hp:Trm 6 p.1):∀ {qs:List Prt},(∀ q ∈ qs,Trm 6 q.1)->valP b (rowL b p qs) row=p.2*valT b p.1 row*valP b qs row
 | [],_=>by show (0:Int)=_*(0:Int);rw [Int.mul_zero]
 | q::qs,h=>by
  have ih:=rowL_val (b:=b) (row:=row) hp fun x hx=>h x (List.mem_cons_of_mem _ hx)
  have e:rowL b p (q::qs)=[(jn b p.1 q.1,p.2*q.2)]++rowL b p qs:=rfl
  have e2:valP b (q::qs) row=q.2*valT b q.1 row+valP b qs row:=by unfold valP;rw [List.map_cons,List.sum_cons]
  rw [e,valP_app,ih,e2]
  have e3:valP b [(jn b p.1 q.1,p.2*q.2)] row=p.2*q.2*valT b (jn b p.1 q.1) row:=by unfold valP;simp
  rw [e3,jn_val row hp (h q List.mem_cons_self),Int.mul_add]
  congr 1
  rw [Int.mul_assoc,Int.mul_assoc]
  congr 1
  rw [←Int.mul_assoc,Int.mul_comm q.2,Int.mul_assoc]
theorem prodL_val {b:Bool}{row:Int}{qs:List Prt} (hq:∀ q ∈ qs,Trm 6 q.1):∀ {ps:List Prt},(∀ p ∈ ps,Trm 6 p.1)->valP b (prodL b ps qs) row=valP b ps row*valP b qs row
 | [],_=>by show (0:Int)=(0:Int)*_;rw [Int.zero_mul]
 | p::ps,h=>by
  have ih:=prodL_val (b:=b) (row:=row) hq (ps:=ps) fun x hx=>h x (List.mem_cons_of_mem _ hx)
  have e:prodL b (p::ps) qs=rowL b p qs++prodL b ps qs:=by unfold prodL;rw [List.map_cons,List.flatten_cons]
  have e2:valP b (p::ps) row=p.2*valT b p.1 row+valP b ps row:=by unfold valP;rw [List.map_cons,List.sum_cons]
  rw [e,valP_app,ih,rowL_val (h p List.mem_cons_self) hq,e2,Int.add_mul]
theorem prodL_trm {b:Bool}{ps qs:List Prt}:∀ p ∈ prodL b ps qs,Trm 6 p.1:=fun p hp=>by
 unfold prodL at hp
 obtain⟨l,hl,hp⟩:=List.mem_flatten.mp hp
 obtain⟨x,_,rfl⟩:=List.mem_map.mp hl
 unfold rowL at hp
 obtain⟨y,_,rfl⟩:=List.mem_map.mp hp
 exact jn_trm _ _ _
theorem prodL_len (b:Bool) (qs:List Prt):∀ ps:List Prt,(prodL b ps qs).length=ps.length*qs.length
 | []=>by simp [prodL]
 | p::ps=>by
  have e:prodL b (p::ps) qs=rowL b p qs++prodL b ps qs:=by unfold prodL;rw [List.map_cons,List.flatten_cons]
  rw [e,List.length_append,prodL_len b qs ps,List.length_cons,Nat.add_mul]
  unfold rowL
  rw [List.length_map];omega
theorem prodL_take {b:Bool}{ps qs:List Prt}{i:Nat}{p:Prt} (h:ps[i]?=some p):prodL b (ps.take (i+1)) qs=prodL b (ps.take i) qs++rowL b p qs:=by
 unfold prodL
 rw [List.take_add_one,h,List.map_append,List.flatten_append]
 simp
theorem prod_ok {st:Sto}{b:Bool}{ps qs:List Prt} (hp:∀ p ∈ ps,Trm 6 p.1) (hq:∀ q ∈ qs,Trm 6 q.1) (lp:ps.length≤64) (lq:qs.length≤64) (hb:∀ p ∈ ps,-(2 ^ 64) < p.2/\p.2 < 2 ^ 64) :
  ∃ rs:List Prt,PolyOk rs/\(∀ row,valP b rs row=valP b ps row*valP b qs row)/\m_product_of [.d (polyD (kindS b) ps),.d (polyD (kindS b) qs)] st=some (.d (polyD (kindS b) rs),st):=by
 have hlc:∀ (p:Prt),Trm 6 p.1->(-(2 ^ 64) < p.2/\p.2 < 2 ^ 64)->∀ s,lcI (.tp [0,1]) iYes e_product_of_1 [none,none,some (.d (.str (kindS b))),some (.d (tupOf p.1)),some (.d (.int p.2))] (qs.map partD) s=some ((rowL b p qs).map partD,s):=fun p h1 h2 s=>by
  unfold rowL
  rw [List.map_map]
  refine lc_parts _ fun q hm=>⟨_,rfl,?_⟩
  have e:=joined_ok (st:=s) (b:=b) h1 (hq q hm)
  exact qtup_eq (qcons_eq (qcall_eq rfl e) (qcons_eq (qop_eq (x:=.d (.int p.2)) (y:=.d (.int q.2)) (d:=.int (p.2*q.2)) rfl rfl (by
   show (if PySem.IntMulOk p.2 q.2 then some (D.int (p.2*q.2)) else none)=_
   rw [if_pos (mulOk_l h2)])) rfl)) rfl (by show 2≤1000;decide)
 obtain⟨e',s',hF,o4,o5,rfl,rfl⟩:=forI_inv (g:=.tp [4,5]) (body:=l_product_of_1) (ds:=ps.map partD) (fun i env s=>∃ o4 o5,env=[some (.d (polyD (kindS b) ps)),some (.d (polyD (kindS b) qs)),some (.d (.str (kindS b))),some (.h st.length),o4,o5]/\s=st++[.l ((prodL b (ps.take i) qs).map partD)])
  (env:=[some (.d (polyD (kindS b) ps)),some (.d (polyD (kindS b) qs)),some (.d (.str (kindS b))),some (.h st.length),none,none]) (st:=st++[.l []]) ⟨none,none,rfl,rfl⟩ (by
  rintro i d env s hd ⟨o4,o5,rfl,rfl⟩
  obtain⟨p,hpi,rfl⟩:=parts_get hd
  have hmem:=List.mem_of_getElem? hpi
  have hl:=hlc p (hp p hmem) (hb p hmem) (st++[.l ((prodL b (ps.take i) qs).map partD)])
  have hg2:lg (st++[C.l ((prodL b (ps.take i) qs).map partD)]) st.length=some ((prodL b (ps.take i) qs).map partD):=by
   unfold lg
   rw [List.getElem?_append_right (Nat.le_refl _),Nat.sub_self];rfl
  have hln:(prodL b (ps.take i) qs).length≤64*64:=by
   rw [prodL_len]
   exact Nat.mul_le_mul (Nat.le_trans (List.length_take_le _ _) (by have:=(List.getElem?_eq_some_iff.mp hpi).1;omega)) lq
  have hz:((prodL b (ps.take i) qs).map partD).length+((rowL b p qs).map partD).length≤1000000:=by
   unfold rowL
   rw [List.length_map,List.length_map,List.length_map];omega
  have hset:(st++[C.l ((prodL b (ps.take i) qs).map partD)]).set st.length (.l ((prodL b (ps.take i) qs).map partD++(rowL b p qs).map partD))=st++[.l ((prodL b (ps.take (i+1)) qs).map partD)]:=by
   rw [List.set_append_right _ _ (Nat.le_refl _),Nat.sub_self,prodL_take hpi,List.map_append];rfl
  refine⟨_,_,_,rfl,.inl ?_,some (.d (tupOf p.1)),some (.d (.int p.2)),rfl,rfl⟩
  rw [←hset]
  have hz2:(qs.map partD).length≤1000000:=by rw [List.length_map];omega
  unfold polyD
  generalize (rowL b p qs).map partD=RL at hl hz
  generalize (prodL b (ps.take i) qs).map partD=AC at hl hg2 hz
  generalize qs.map partD=QQ at hl hz2
  generalize ps.map partD=PP
  have q1:=qpure_eq (qlc_eq (k:=2) (js:=[2,4,5]) (env:=[some (.d (.tup [.str (kindS b),.tup PP])),some (.d (.tup [.str (kindS b),.tup QQ])),some (.d (.str (kindS b))),some (.h st.length),some (.d (tupOf p.1)),some (.d (.int p.2))]) (items_op (f:=iOp dIx (iV 1) (iC (.int 1))) (qop_eq rfl rfl (ix1 _ _ _ _))) hz2 hl)
  have q2:=qcons_eq (b:=iNil) q1 rfl
  exact qextL (o:=iV 3) rfl q2 hg2 hg2 hz)
 rw [List.length_map,List.take_length] at hF
 have hw:PartsAt (st++[C.l ((prodL b ps qs).map partD)]) (.h st.length) (prodL b ps qs):=.inr (.inr ⟨_,rfl,by
  unfold lg
  rw [List.getElem?_append_right (Nat.le_refl _),Nat.sub_self];rfl⟩)
 obtain⟨ks,k1,k2,k3,k4⟩:=gath_ok (kd:=kindS b) hw prodL_trm
 refine⟨gathP ks (prodL b ps qs),gath_poly k1 k2 k3 prodL_trm,fun row=>by rw [gath_val k2 k3,prodL_val hq hp],?_⟩
 generalize gathP ks (prodL b ps qs)=R at k4 ⊢
 have hq2:=qrunT_eq (n:=6) (k:=2) (b:=b_product_of) (ws:=[.d (polyD (kindS b) ps),.d (polyD (kindS b) qs)]) (st:=st) (s:=st++[C.l ((prodL b ps qs).map partD)]) (x:=polyD (kindS b) R) rfl
  (qseq_eq (qset_eq (w:=.d (.str (kindS b))) (s:=st) (qop_eq rfl rfl (ix0 _ _ _))) (qseq_eq (qset_eq (w:=.h st.length) (s:=st++[C.l []]) rfl) (qseq_eq (qfor_eq (items_op (qop_eq rfl rfl (ix1 _ _ _ _))) hF) (qret_eq (qcall_eq rfl k4)))))
 have ht:(st++[C.l ((prodL b ps qs).map partD)]).take st.length=st:=by rw [List.take_left'];rfl
 rw [ht] at hq2
 exact hq2
end Own
end
section
set_option maxHeartbeats 1000000
namespace Own
open PySem L2
noncomputable def rowsV (F:Int->Int):List D:=((List.range 64).map fun i:Nat=>F ((i:Nat):Int)).map D.int
theorem rows_lc {te:Ef}{l:Ev}{st:Sto}{F:Int->Int} (h:∀ i:Nat,i < 64->te (some (.d (.int (i:Int)))::l) st=some (.d (.int (F i)),st)):lcI (.nm 0) iYes te (none::l) (rngD 0 64) st=some (rowsV F,st):=by
 have e:rowsV F=(rngD 0 64).map fun d=>match d with | .int j=>.int (F j) | d=>d:=by
  unfold rowsV rngD
  rw [List.map_map,List.map_map]
  refine List.map_congr_left fun k _=>?_
  show D.int (F k)=.int (F ((0:Int)+k))
  rw [Int.zero_add]
 rw [e]
 exact lcI_map _ fun d hd=>by
  obtain⟨i,hi⟩:=List.mem_iff_getElem?.mp hd
  obtain⟨rfl,hi'⟩:=rngD_at hi
  exact⟨_,rfl,h i hi'⟩
theorem rows_rng {env:Ev}{st:Sto}:iRng1D (iCons (iC (.int 64)) iNil) env st=some (rngD 0 64,st):=by
 have hb:-(2 ^ 62)≤(64:Int)/\(64:Int) < 2 ^ 62:=by decide
 simp only [iRng1D,iCons,iC,iNil,Option.bind_some,Option.map_some,hb,and_self,if_true]
 rfl
theorem rows_z:(rngD 0 64).length≤1000000:=by rw [rngD_len];decide
theorem eqDs_tab:∀ L:List Int,eqDs (L.map D.int) (L.map D.int)=true
 | []=>rfl
 | x::L=>by rw [List.map_cons,eqDs,eqDs_tab L];simp [eqD]
theorem ok_tab:∀ L:List Int,(L.map D.int).all (okD 60)=true
 | []=>rfl
 | x::L=>by rw [List.map_cons,List.all_cons,ok_tab L];rfl
theorem eq_rows (s:Sto) (L:List Int):dEq s (.d (.lst (L.map D.int))) (.d (.lst (L.map D.int)))=some (.bl true):=by
 show (eqK (.ls (L.map D.int)) (.ls (L.map D.int))).map (fun k=>D.bl k)=_
 rw [eqK,if_pos rfl,if_pos ⟨ok_tab _,ok_tab _⟩,eqDs_tab];rfl
theorem kind_self (s:Sto) (b:Bool):dNe s (.d (.str (kindS b))) (.d (.str (kindS b)))=some (.bl false):=by rw [str_ne,beq_self_eq_true];rfl
theorem right_ok {st:Sto}{b:Bool}{ps:List Prt}{F:Int->Int} (h:PolyOk ps) (hv:∀ i:Nat,i < 64->F i=valP b ps i):m__law_right [.d (polyD (kindS b) ps),.d (.str (kindS b)),.d (.lst (rowsV F))] st=some (.d (.bl true),st):=by
 have e1:=ispoly_ok (st:=st) (b:=b) h
 have key:lcI (.nm 0) iYes e__law_right_1 [none,some (.d (polyD (kindS b) ps))] (rngD 0 64) st=some (rowsV F,st):=rows_lc fun i hi=>by
  rw [hv i hi]
  exact qcall_eq rfl (lawvalue_ok (fun p hp=>(h.1 p hp).1) (by have:=h.2.2;omega))
 have eq:=eq_rows st ((List.range 64).map fun i:Nat=>F ((i:Nat):Int))
 have e0:iOp dIx (iV 0) (iC (.int 0)) [some (.d (polyD (kindS b) ps)),some (.d (.str (kindS b))),some (.d (.lst (rowsV F)))] st=some (.d (.str (kindS b)),st):=qop_eq rfl rfl (ix0 _ _ _)
 exact qrunK_eq (n:=3) (k:=3) (b:=b__law_right) rfl (qseq_eq (qif_f (qor_f (qnott (qtru (qcall_eq rfl e1))) (qopT_eq e0 rfl (kind_self st b))) rfl) (qret_eq (qop_eq (qpure_eq (qlc_eq rows_rng rows_z key)) rfl eq)))
theorem added_ok {st:Sto}{b:Bool}{ps qs:List Prt} (hp:∀ p ∈ ps,Trm 6 p.1) (hq:∀ q ∈ qs,Trm 6 q.1) (lp:ps.length≤64) (lq:qs.length≤64) :
  ∃ rs:List Prt,PolyOk rs/\(∀ row,valP b rs row=valP b ps row+valP b qs row)/\m_added [.d (polyD (kindS b) ps),.d (polyD (kindS b) qs)] st=some (.d (polyD (kindS b) rs),st):=by
 have h6:∀ p ∈ ps++qs,Trm 6 p.1:=fun p hm=>(List.mem_append.mp hm).elim (hp p) (hq p)
 obtain⟨ks,k1,k2,k3,k4⟩:=gath_ok (st:=st) (kd:=kindS b) (w:=.d (.tup ((ps++qs).map partD))) (L:=ps++qs) (.inl rfl) h6
 refine⟨gathP ks (ps++qs),gath_poly k1 k2 k3 h6,fun row=>by rw [gath_val k2 k3,valP_app],?_⟩
 generalize gathP ks (ps++qs)=R at k4 ⊢
 rw [List.map_append] at k4
 have hz:(ps.map partD).length+(qs.map partD).length≤1000000:=by rw [List.length_map,List.length_map];omega
 unfold polyD at k4 ⊢
 generalize ps.map partD=PP at *
 generalize qs.map partD=QQ at *
 have a1:dAdd st (.d (.tup PP)) (.d (.tup QQ))=some (.tup (PP++QQ)):=by
  show (if PP.length+QQ.length≤1000000 then some (D.tup (PP++QQ)) else none)=_
  rw [if_pos hz]
 exact qrunK_eq (n:=2) (k:=2) (b:=b_added) rfl (qret_eq (qcall_eq (qcons_eq (qop_eq rfl rfl (ix0 _ _ _)) (qcons_eq (qop_eq (qop_eq rfl rfl (ix1 _ _ _ _)) (qop_eq rfl rfl (ix1 _ _ _ _)) a1) rfl)) k4))
theorem valP_times (b:Bool) (row c:Int):∀ ps:List Prt,valP b (ps.map fun p=>(p.1,c*p.2)) row=c*valP b ps row
 | []=>by show (0:Int)=c*0;rw [Int.mul_zero]
 | p::ps=>by
  have ih:=valP_times b row c ps
  have e2:valP b (p::ps) row=p.2*valT b p.1 row+valP b ps row:=by unfold valP;rw [List.map_cons,List.sum_cons]
  have e3:valP b ((p::ps).map fun p=>(p.1,c*p.2)) row=c*p.2*valT b p.1 row+valP b (ps.map fun p=>(p.1,c*p.2)) row:=by unfold valP;rw [List.map_cons,List.map_cons,List.sum_cons]
  rw [e2,e3,ih,Int.mul_add,Int.mul_assoc]
theorem often_ok {st:Sto}{b:Bool}{ps:List Prt}{c:Int} (hp:∀ p ∈ ps,Trm 6 p.1) (lp:ps.length≤64) (hb:∀ p ∈ ps,-(2 ^ 64) < p.2/\p.2 < 2 ^ 64) :
  ∃ rs:List Prt,PolyOk rs/\(∀ row,valP b rs row=c*valP b ps row)/\m_often [.d (polyD (kindS b) ps),.d (.int c)] st=some (.d (polyD (kindS b) rs),st):=by
 have h6:∀ p ∈ ps.map (fun p:Prt=>((p.1,c*p.2):Prt)),Trm 6 p.1:=fun p hm=>by
  obtain⟨q,hq,rfl⟩:=List.mem_map.mp hm
  exact hp q hq
 have key:lcI (.tp [0,1]) iYes e_often_1 [none,none,some (.d (.int c))] (ps.map partD) st=some ((ps.map fun p:Prt=>((p.1,c*p.2):Prt)).map partD,st):=by
  rw [List.map_map]
  refine lc_parts _ fun q hm=>⟨_,rfl,?_⟩
  exact qtup_eq (qcons_eq rfl (qcons_eq (qop_eq (x:=.d (.int c)) (y:=.d (.int q.2)) (d:=.int (c*q.2)) rfl rfl (by
   show (if PySem.IntMulOk c q.2 then some (D.int (c*q.2)) else none)=_
   rw [if_pos (mulOk_r (hb q hm))])) rfl)) rfl (by show 2≤1000;decide)
 obtain⟨ks,k1,k2,k3,k4⟩:=gath_ok (st:=st) (kd:=kindS b) (w:=.d (.lst ((ps.map fun p:Prt=>((p.1,c*p.2):Prt)).map partD))) (.inr (.inl rfl)) h6
 refine⟨gathP ks (ps.map fun p:Prt=>((p.1,c*p.2):Prt)),gath_poly k1 k2 k3 h6,fun row=>by rw [gath_val k2 k3,valP_times],?_⟩
 generalize gathP ks (ps.map fun p:Prt=>((p.1,c*p.2):Prt))=R at k4 ⊢
 have hz:(ps.map partD).length≤1000000:=by rw [List.length_map];omega
 generalize (ps.map fun p:Prt=>((p.1,c*p.2):Prt)).map partD=LL at *
 unfold polyD at k4 ⊢
 generalize ps.map partD=PP at *
 exact qrunK_eq (n:=2) (k:=2) (b:=b_often) rfl (qret_eq (qcall_eq (qcons_eq (qop_eq rfl rfl (ix0 _ _ _)) (qcons_eq (qpure_eq (qlc_eq (items_op (qop_eq rfl rfl (ix1 _ _ _ _))) hz key)) rfl)) k4))
theorem ltimes_ok {st:Sto}{kd:Str}{ps:List Prt}{c:Int} (lp:ps.length≤64) (hc:-(2 ^ 64) < c/\c < 2 ^ 64):m__law_times [.d (polyD kd ps),.d (.int c)] st=some (.d (polyD kd (ps.map fun p:Prt=>((p.1,p.2*c):Prt))),st):=by
 have key:lcI (.tp [0,1]) iYes e__law_times_1 [none,none,some (.d (.int c))] (ps.map partD) st=some ((ps.map fun p:Prt=>((p.1,p.2*c):Prt)).map partD,st):=by
  rw [List.map_map]
  refine lc_parts _ fun q hm=>⟨_,rfl,?_⟩
  exact qtup_eq (qcons_eq rfl (qcons_eq (qop_eq (x:=.d (.int q.2)) (y:=.d (.int c)) (d:=.int (q.2*c)) rfl rfl (by
   show (if PySem.IntMulOk q.2 c then some (D.int (q.2*c)) else none)=_
   rw [if_pos (mulOk_r hc)])) rfl)) rfl (by show 2≤1000;decide)
 have hz:(ps.map partD).length≤1000000:=by rw [List.length_map];omega
 unfold polyD
 generalize (ps.map fun p:Prt=>((p.1,p.2*c):Prt)).map partD=LL at *
 generalize ps.map partD=PP at *
 exact qrunK_eq (n:=2) (k:=2) (b:=b__law_times) rfl (qret_eq (qtup_eq (qcons_eq (qop_eq rfl rfl (ix0 _ _ _)) (qcons_eq (qcb_eq (qcons_eq (qpure_eq (qlc_eq (items_op (qop_eq rfl rfl (ix1 _ _ _ _))) hz key)) rfl) rfl) rfl)) rfl (by show 2≤1000;decide)))
theorem log_small {i:Int} (h:i.natAbs < 2 ^ 100):decide (i.natAbs.log2 < 1920)=true:=by
 refine decide_eq_true ?_
 rcases Nat.eq_zero_or_pos i.natAbs with h0 | hp
 ·rw [h0];decide
 ·exact Nat.lt_trans ((Nat.log2_lt (Nat.ne_of_gt hp)).mpr h) (by decide)
theorem ints_rp:∀ {t:List Int},(∀ k ∈ t,k.natAbs < 2 ^ 100)->rpDs (t.map D.int)=true/\wtDs (t.map D.int)≤2002*t.length/\dpDs (t.map D.int)≤1
 | [],_=>by rw [List.map_nil,rpDs,wtDs,dpDs];exact⟨rfl,Nat.zero_le _,Nat.zero_le _⟩
 | k::t,h=>by
  obtain⟨a,b,c⟩:=ints_rp (t:=t) fun x hx=>h x (List.mem_cons_of_mem _ hx)
  rw [List.map_cons,rpDs,wtDs,dpDs,rpD,wtD,dpD,log_small (h k List.mem_cons_self),a,List.length_cons]
  ·exact⟨rfl,by omega,by omega⟩
  all_goals (intro _ e;cases e)
theorem parts_rp:∀ {ps:List Prt},(∀ p ∈ ps,Trm 6 p.1/\p.2.natAbs < 2 ^ 100)->rpDs (ps.map partD)=true/\wtDs (ps.map partD)≤20000*ps.length/\dpDs (ps.map partD)≤3
 | [],_=>by rw [List.map_nil,rpDs,wtDs,dpDs];exact⟨rfl,Nat.zero_le _,Nat.zero_le _⟩
 | p::ps,h=>by
  obtain⟨a,b,c⟩:=parts_rp (ps:=ps) fun x hx=>h x (List.mem_cons_of_mem _ hx)
  obtain⟨h1,h2⟩:=h p List.mem_cons_self
  have hl:=trm_len h1
  obtain⟨a1,b1,c1⟩:=ints_rp (t:=p.1) fun k hk=>by
   have:=h1.2 k hk
   exact Nat.lt_of_lt_of_le (show k.natAbs < 6 by omega) (by decide)
  have r1:rpD (partD p)=true:=by
   unfold partD tupOf
   rw [rpD,rpDs,rpD,rpDs,rpDs,rpD,log_small h2,a1];rfl
  have w1:wtD (partD p)≤19998:=by
   unfold partD tupOf
   rw [wtD,wtDs,wtD,wtDs,wtDs,wtD];omega
  have d1:dpD (partD p)≤3:=by
   unfold partD tupOf
   rw [dpD,dpDs,dpD,dpDs,dpDs,dpD]
   ·omega
   all_goals (intro _ e;cases e)
  rw [List.map_cons,rpDs,wtDs,dpDs,r1,a,List.length_cons]
  exact⟨rfl,by omega,by omega⟩
theorem poly_rp {b:Bool}{ps:List Prt} (h:∀ p ∈ ps,Trm 6 p.1/\p.2.natAbs < 2 ^ 100) (lp:ps.length≤64):rpD (polyD (kindS b) ps)=true/\wtD (polyD (kindS b) ps)≤2000000/\dpD (polyD (kindS b) ps)≤5:=by
 obtain⟨a,w,d⟩:=parts_rp h
 have hk:(reprText (kindS b)).length≤100:=by cases b<;>decide +kernel
 unfold polyD
 refine⟨?_,?_,?_⟩
 ·rw [rpD,rpDs,rpD,rpDs,rpD,rpDs,a];rfl
 ·rw [wtD,wtDs,wtD,wtDs,wtD,wtDs];omega
 ·rw [dpD,dpDs,dpD,dpDs,dpD,dpDs]
  ·omega
  all_goals (intro _ e;cases e)
theorem repr2_ok (s:Sto) {b:Bool}{ps qs:List Prt} (hp:∀ p ∈ ps,Trm 6 p.1/\p.2.natAbs < 2 ^ 100) (hq:∀ p ∈ qs,Trm 6 p.1/\p.2.natAbs < 2 ^ 100) (lp:ps.length≤64) (lq:qs.length≤64):∃ x:Str,dReprN s [.d (.lst [polyD (kindS b) ps,polyD (kindS b) qs])]=some (.str x):=by
 obtain⟨a1,w1,d1⟩:=poly_rp (b:=b) hp lp
 obtain⟨a2,w2,d2⟩:=poly_rp (b:=b) hq lq
 refine⟨(toP (.lst [polyD (kindS b) ps,polyD (kindS b) qs])).shown,?_⟩
 show (if rpD (.lst [polyD (kindS b) ps,polyD (kindS b) qs])=true/\wtD (.lst [polyD (kindS b) ps,polyD (kindS b) qs])≤16000000/\dpD (.lst [polyD (kindS b) ps,polyD (kindS b) qs])≤50 then some (D.str (toP (.lst [polyD (kindS b) ps,polyD (kindS b) qs])).shown) else none)=_
 rw [if_pos]
 refine⟨?_,?_,?_⟩
 ·rw [rpD,rpDs,rpDs,rpDs,a1,a2];rfl
 ·rw [wtD,wtDs,wtDs,wtDs];omega
 ·rw [dpD,dpDs,dpDs,dpDs];omega
theorem valP_abs {b:Bool}{row:Int}{B:Nat}:∀ {ps:List Prt},(∀ p ∈ ps,p.2.natAbs≤B)->(valP b ps row).natAbs≤ps.length*B
 | [],_=>Nat.zero_le _
 | p::ps,h=>by
  have ih:=valP_abs (b:=b) (row:=row) (ps:=ps) fun x hx=>h x (List.mem_cons_of_mem _ hx)
  have e2:valP b (p::ps) row=p.2*valT b p.1 row+valP b ps row:=by unfold valP;rw [List.map_cons,List.sum_cons]
  have h1:=h p List.mem_cons_self
  have h2:=valT_abs b p.1 row
  have h3:(p.2*valT b p.1 row).natAbs≤B:=by
   rw [Int.natAbs_mul]
   have:(valT b p.1 row).natAbs≤1:=by omega
   calc p.2.natAbs*(valT b p.1 row).natAbs≤p.2.natAbs*1:=Nat.mul_le_mul_left _ this
    _≤B:=by omega
  rw [e2,List.length_cons,Nat.add_mul]
  have:=Int.natAbs_add_le (p.2*valT b p.1 row) (valP b ps row)
  omega
end Own
end
section
set_option maxHeartbeats 1000000
namespace Own
open PySem L2
theorem zip_map {α:Type} (f g:α->D):∀ l:List α,zipD (l.map f) (l.map g)=l.map fun a=>.tup [f a,g a]
 | []=>rfl
 | a::l=>by rw [List.map_cons,List.map_cons,zipD,zip_map f g l];rfl
theorem rows_zip {te:Ef}{st:Sto}{F G R:Int->Int} (h:∀ i:Nat,i < 64->te [some (.d (.int (F i))),some (.d (.int (G i)))] st=some (.d (.int (R i)),st)) :
  lcI (.tp [0,1]) iYes te [none,none] (zipD (rowsV F) (rowsV G)) st=some (rowsV R,st):=by
 have e:∀ l:List Nat,(∀ i ∈ l,i < 64)->lcI (.tp [0,1]) iYes te [none,none] (l.map fun i:Nat=>D.tup [.int (F i),.int (G i)]) st=some (l.map fun i:Nat=>D.int (R i),st):=by
  intro l
  induction l with
  | nil=>intro _;rfl
  | cons i l ih=>
   intro hl
   have h1:=h i (hl i List.mem_cons_self)
   have h2:=ih fun j hj=>hl j (List.mem_cons_of_mem _ hj)
   rw [List.map_cons,List.map_cons]
   unfold lcI
   rw [show setT (.tp [0,1]) (.d (.tup [.int (F i),.int (G i)])) [none,none]=some [some (.d (.int (F i))),some (.d (.int (G i)))] from rfl,Option.bind_some,show iYes [some (W.d (.int (F i))),some (.d (.int (G i)))] st=some (true,st) from rfl,Option.bind_some,if_pos rfl,h1,Option.bind_some,h2];rfl
 unfold rowsV
 rw [List.map_map,List.map_map,List.map_map,zip_map]
 exact e (List.range 64) fun i hi=>List.mem_range.mp hi
theorem zips_z (F G:Int->Int):(zipD (rowsV F) (rowsV G)).length≤1000000:=by
 have:=zip_len (rowsV F) (rowsV G)
 unfold rowsV at *
 rw [List.length_map,List.length_map,List.length_range] at this
 omega
theorem rowsV_len (F:Int->Int):(rowsV F).length≤1000000:=by unfold rowsV;rw [List.length_map,List.length_map,List.length_range];decide
theorem rows_map {te:Ef}{st:Sto}{c:Int}{F:Int->Int} (h:∀ x:Int,te [some (.d (.int x)),some (.d (.int c))] st=some (.d (.int (c*x)),st)):lcI (.nm 0) iYes te [none,some (.d (.int c))] (rowsV F) st=some (rowsV fun r=>c*F r,st):=by
 have e:rowsV (fun r=>c*F r)=(rowsV F).map fun d=>match d with | .int x=>.int (c*x) | d=>d:=by
  unfold rowsV
  rw [List.map_map,List.map_map,List.map_map];rfl
 rw [e]
 refine lcI_map _ fun d hd=>?_
 unfold rowsV at hd
 obtain⟨x,_,rfl⟩:=List.mem_map.mp hd
 exact⟨_,rfl,h x⟩
noncomputable def Drn (ps:List Prt):Prop:=(∀ p ∈ ps,Trm 6 p.1/\p.2≠0/\-3000000000000000000≤p.2/\p.2≤3000000000000000000)/\ps.length≤64
theorem Drn.t {ps:List Prt} (h:Drn ps):∀ p ∈ ps,Trm 6 p.1:=fun p hp=>(h.1 p hp).1
theorem Drn.b {ps:List Prt} (h:Drn ps):∀ p ∈ ps,-(2 ^ 64) < p.2/\p.2 < 2 ^ 64:=fun p hp=>by have:=(h.1 p hp).2.2;omega
theorem Drn.r {ps:List Prt} (h:Drn ps):∀ p ∈ ps,Trm 6 p.1/\p.2.natAbs < 2 ^ 100:=fun p hp=>⟨(h.1 p hp).1,by
 have:=(h.1 p hp).2.2
 have h2:p.2.natAbs < 3000000000000000001:=by omega
 exact Nat.lt_of_lt_of_le h2 (by decide)⟩
theorem Drn.v {b:Bool}{ps:List Prt} (h:Drn ps) (row:Int):(valP b ps row).natAbs < 2 ^ 70:=by
 have:=valP_abs (b:=b) (row:=row) (B:=3000000000000000000) (ps:=ps) fun p hp=>by have:=(h.1 p hp).2.2;omega
 have h2:ps.length*3000000000000000000≤64*3000000000000000000:=Nat.mul_le_mul_right _ h.2
 exact Nat.lt_of_le_of_lt (Nat.le_trans this h2) (by decide)
theorem held_ok {st:Sto}{b:Bool}{ps qs:List Prt}{c:Int}{a0 a1 a2 a3 x10 x11 x12 x13:Option W} (hp:Drn ps) (hq:Drn qs) (hc:-(2 ^ 64) < c/\c < 2 ^ 64) :
  ∃ y10 y11 y12 y13,r_law_2 [a0,a1,a2,a3,some (.d (.str (kindS b))),some (.d (polyD (kindS b) ps)),some (.d (polyD (kindS b) qs)),some (.d (.int c)),some (.d (.lst (rowsV fun r=>valP b ps r))),some (.d (.lst (rowsV fun r=>valP b qs r))),x10,x11,x12,x13] st
   = some (.nx [a0,a1,a2,a3,some (.d (.str (kindS b))),some (.d (polyD (kindS b) ps)),some (.d (polyD (kindS b) qs)),some (.d (.int c)),some (.d (.lst (rowsV fun r=>valP b ps r))),some (.d (.lst (rowsV fun r=>valP b qs r))),y10,y11,y12,y13] st):=by
 obtain⟨tx,e10⟩:=repr2_ok st (b:=b) hp.r hq.r hp.2 hq.2
 have k6:lcI (.tp [0,1]) iYes e_law_6 [none,none] (zipD (rowsV fun r=>valP b ps r) (rowsV fun r=>valP b qs r)) st=some (rowsV fun r=>valP b ps r+valP b qs r,st):=rows_zip fun i hi=>rfl
 have k4:lcI (.tp [0,1]) iYes e_law_4 [none,none] (zipD (rowsV fun r=>valP b ps r) (rowsV fun r=>valP b qs r)) st=some (rowsV fun r=>valP b ps r*valP b qs r,st):=rows_zip fun i hi=>qop_eq rfl rfl (by
  show (if PySem.IntMulOk (valP b ps i) (valP b qs i) then some (D.int (valP b ps i*valP b qs i)) else none)=_
  rw [if_pos (mulOk_k (hp.v _) (hq.v _) (by decide))])
 have k2:lcI (.nm 0) iYes e_law_2 [none,some (.d (.int c))] (rowsV fun r=>valP b ps r) st=some (rowsV fun r=>c*valP b ps r,st):=rows_map fun x=>qop_eq rfl rfl (by
  show (if PySem.IntMulOk c x then some (D.int (c*x)) else none)=_
  rw [if_pos (mulOk_l hc)])
 obtain⟨r1,o1,v1,e1⟩:=added_ok (st:=st) (b:=b) hp.t hq.t hp.2 hq.2
 obtain⟨r2,o2,v2,e2⟩:=prod_ok (st:=st) (b:=b) hp.t hq.t hp.2 hq.2 hp.b
 obtain⟨r3,o3,v3,e3⟩:=often_ok (st:=st) (b:=b) (c:=c) hp.t hp.2 hp.b
 have g1:=right_ok (st:=st) (b:=b) (F:=fun r=>valP b ps r+valP b qs r) o1 fun i _=>(v1 i).symm
 have g2:=right_ok (st:=st) (b:=b) (F:=fun r=>valP b ps r*valP b qs r) o2 fun i _=>(v2 i).symm
 have g3:=right_ok (st:=st) (b:=b) (F:=fun r=>c*valP b ps r) o3 fun i _=>(v3 i).symm
 have z1:=zips_z (fun r=>valP b ps r) (fun r=>valP b qs r)
 have z2:=rowsV_len (fun r=>valP b ps r)
 have nt:dNe st (.d (.str tx)) (.d (.str tx))=some (.bl false):=by rw [str_ne,beq_self_eq_true];rfl
 generalize (rowsV fun r=>valP b ps r+valP b qs r)=R6 at *
 generalize (rowsV fun r=>valP b ps r*valP b qs r)=R4 at *
 generalize (rowsV fun r=>c*valP b ps r)=R2 at *
 generalize (rowsV fun r=>valP b ps r)=VA at *
 generalize (rowsV fun r=>valP b qs r)=VB at *
 generalize polyD (kindS b) r1=Q1 at *
 generalize polyD (kindS b) r2=Q2 at *
 generalize polyD (kindS b) r3=Q3 at *
 generalize polyD (kindS b) ps=PA at *
 generalize polyD (kindS b) qs=PB at *
 generalize kindS b=kd at *
 have ez:∀ env:Ev,env.getD 8 none=some (.d (.lst VA))->env.getD 9 none=some (.d (.lst VB))->iZipD (iCons (iV 8) (iCons (iV 9) iNil)) env st=some (zipD VA VB,st):=fun env h8 h9=>by
  simp only [iZipD,iCons,iV,h8,h9,iNil,Option.map_some,Option.bind_some,sqkD]
 have el:∀ env:Ev,env.getD 5 none=some (.d PA)->env.getD 6 none=some (.d PB)->iPure (iLst (iCons (iV 5) (iCons (iV 6) iNil))) env st=some (.d (.lst [PA,PB]),st):=fun env h5 h6=>by
  refine qpure_eq (qlst_eq (ws:=[.d PA,.d PB]) ?_ rfl (by show 2≤1000;decide))
  simp only [iCons,iV,h5,h6,iNil,Option.map_some,Option.bind_some]
 refine⟨some (.d (.str tx)),some (.d (.lst R6)),some (.d (.lst R4)),some (.d (.lst R2)),qseq_eq (qset_eq (i:=10) (qcb_eq (qcons_eq (el _ rfl rfl) rfl) e10)) (qseq_eq (qset_eq (i:=11) (qpure_eq (qlc_eq (ez _ rfl rfl) z1 k6))) (qseq_eq (qset_eq (i:=12) (qpure_eq (qlc_eq (ez _ rfl rfl) z1 k4))) (qseq_eq (qset_eq (i:=13) (qpure_eq (qlc_eq (ds:=VA) rfl z2 k2))) ?_)))⟩
 refine qseq_eq (qif_f (qnott (qtru (qcall_eq (qcons_eq (qcall_eq rfl e1) rfl) g1))) rfl) (qseq_eq (qif_f (qnott (qtru (qcall_eq (qcons_eq (qcall_eq rfl e2) rfl) g2))) rfl) (qif_f (qor_f (qnott (qtru (qcall_eq (qcons_eq (qcall_eq rfl e3) rfl) g3))) (qopT_eq (qcb_eq (qcons_eq (el _ rfl rfl) rfl) e10) rfl nt)) rfl))
end Own
end
section
set_option maxHeartbeats 1000000
namespace Own
open PySem L2
theorem draw_ok {st:Sto}{h:Nat}{Z:Int}{a0 a1 a3 a8 a9 x10 x11 x12 x13 x14:Option W}{b:Bool}{ps qs:List Prt} (hh:Hd st h Z) (hZ:Z+10≤1000000) (hp:∀ p ∈ ps,fits p) (hq:∀ p ∈ qs,fits p) (lp:ps.length≤64) (lq:qs.length≤64) :
  ∃ y2 y6 y7 y8 y9 y10 y11 y12 y13 st',r_law_3 [a0,a1,some (.h h),a3,some (.d (.str (kindS b))),some (.d (polyD (kindS b) ps)),some (.d (polyD (kindS b) qs)),a8,a9,x10,x11,x12,x13,x14] st
   = some (.nx [a0,a1,y2,a3,some (.d (.str (kindS b))),some (.d (polyD (kindS b) ps)),y6,y7,y8,y9,y10,y11,y12,y13] st'):=by
 have dp:Drn ps:=⟨fun p hm=>by obtain⟨a,b,c,d⟩:=hp p hm;exact⟨a,b,by omega,by omega⟩,lp⟩
 obtain⟨r4,s1,r0,r1,w1,h1,e1⟩:=take_ok hh (m:=4) (by omega) (by decide) (by decide)
 -- the other one
 have ho:∃ (us:List Prt) (s2:Sto),Drn us/\Hd s2 h (Z+2)/\(iIfS (iOpT dEq (iCall m__law_take (iCons (iV 2) (iCons (iC (.int 4)) iNil))) (iC (.int 0))) (iSet (.nm 6) (iCall m__law_times (iCons (iV 5) (iCons (iCall m__law_pick (iCons (iV 2) (iCons (iPure (iLst (iCons (iUn dNeg (iC (.int 1))) (iCons (iC (.int 1)) (iCons (iUn dNeg (iC (.int 2))) (iCons (iC (.int 3)) iNil)))))) iNil))) iNil)))) iSkip) [a0,a1,some (.h h),a3,some (.d (.str (kindS b))),some (.d (polyD (kindS b) ps)),some (.d (polyD (kindS b) qs)),a8,a9,x10,x11,x12,x13,x14] st
   = some (.nx [a0,a1,some (.h h),a3,some (.d (.str (kindS b))),some (.d (polyD (kindS b) ps)),some (.d (polyD (kindS b) us)),a8,a9,x10,x11,x12,x13,x14] s2):=by
  by_cases hz:r4=0
  ·obtain⟨d,s2,m2,w2,h2,e2⟩:=pick_ok (ds:=[.int (-1),.int 1,.int (-2),.int 3]) h1 (by omega) (by simp) (by simp)
   have hd:∃ c:Int,d=.int c/\c≠0/\-3≤c/\c≤3:=by
    simp only [List.mem_cons,List.not_mem_nil,or_false] at m2
    rcases m2 with rfl | rfl | rfl | rfl<;>exact⟨_,rfl,by decide,by decide,by decide⟩
   obtain⟨c,rfl,c0,c1,c2⟩:=hd
   have et:=ltimes_ok (st:=s2) (kd:=kindS b) (ps:=ps) (c:=c) lp (by omega)
   refine⟨ps.map fun p:Prt=>((p.1,p.2*c):Prt),s2,⟨fun p hm=>?_,by rw [List.length_map];exact lp⟩,h2.mono (by omega),?_⟩
   ·obtain⟨q,hq',rfl⟩:=List.mem_map.mp hm
    obtain⟨f1,f2,f3,f4⟩:=hp q hq'
    have hc:c=-3∨c=-2∨c=-1∨c=1∨c=2∨c=3:=by omega
    refine⟨f1,Int.mul_ne_zero f2 c0,?_,?_⟩<;>(show _≤_)<;>dsimp only<;>rcases hc with rfl | rfl | rfl | rfl | rfl | rfl<;>omega
   ·generalize polyD (kindS b) (ps.map fun p:Prt=>((p.1,p.2*c):Prt))=PT at *
    generalize polyD (kindS b) ps=PA at *
    generalize polyD (kindS b) qs=PB at *
    refine qif_t (qopT_eq (qcall_eq rfl e1) rfl (by rw [int_eq,hz];rfl)) (qset_eq (i:=6) (qcall_eq (qcons_eq rfl (qcons_eq (qcall_eq (qcons_eq rfl (qcons_eq (qpure_eq (qlst_eq (ds:=[.int (-1),.int 1,.int (-2),.int 3]) (s:=s1) rfl rfl (by decide))) rfl)) e2) rfl)) et))
  ·refine⟨qs,s1,⟨fun p hm=>by obtain⟨a,b,c,d⟩:=hq p hm;exact⟨a,b,by omega,by omega⟩,lq⟩,h1.mono (by omega),?_⟩
   exact qif_f (qopT_eq (qcall_eq rfl e1) rfl (by rw [int_eq,show (r4==(0:Int))=false by simp [hz]])) rfl
 obtain⟨us,s2,du,h2,e2⟩:=ho
 obtain⟨r5,s3,q0,q1,w3,h3,e3⟩:=take_ok h2 (m:=2001) (by omega) (by decide) (by decide)
 have p19':CPow 10 19:=⟨by decide,by decide,by decide⟩
 obtain⟨d,s4,m4,w4,h4,e4⟩:=pick_ok (ds:=[.int 0,.int 1,.int (-1),.int 7,.int (-3),.int (10 ^ Int.toNat 19),.int (r5 - 1000)]) h3 (by omega) (by simp) (by simp)
 have hd:∃ c:Int,d=.int c/\-(2 ^ 64) < c/\c < 2 ^ 64:=by
  simp only [List.mem_cons,List.not_mem_nil,or_false] at m4
  rcases m4 with rfl | rfl | rfl | rfl | rfl | rfl | rfl
  ·exact⟨_,rfl,by decide,by decide⟩
  ·exact⟨_,rfl,by decide,by decide⟩
  ·exact⟨_,rfl,by decide,by decide⟩
  ·exact⟨_,rfl,by decide,by decide⟩
  ·exact⟨_,rfl,by decide,by decide⟩
  ·exact⟨_,rfl,by decide,by decide⟩
  ·exact⟨_,rfl,by omega,by omega⟩
 obtain⟨c,rfl,hc⟩:=hd
 have k10:lcI (.nm 0) iYes e_law_10 [none,some (.d (polyD (kindS b) ps))] (rngD 0 64) s4=some (rowsV fun r=>valP b ps r,s4):=rows_lc fun i hi=>qcall_eq rfl (lawvalue_ok dp.t (by have:=dp.2;omega))
 have k8:lcI (.nm 0) iYes e_law_8 [none,some (.d (polyD (kindS b) us))] (rngD 0 64) s4=some (rowsV fun r=>valP b us r,s4):=rows_lc fun i hi=>qcall_eq rfl (lawvalue_ok du.t (by have:=du.2;omega))
 obtain⟨y10,y11,y12,y13,e5⟩:=held_ok (st:=s4) (b:=b) (c:=c) (a0:=a0) (a1:=a1) (a2:=some (.h h)) (a3:=a3) (x10:=x11) (x11:=x12) (x12:=x13) (x13:=x14) dp du hc
 refine⟨some (.h h),some (.d (polyD (kindS b) us)),some (.d (.int c)),some (.d (.lst (rowsV fun r=>valP b ps r))),some (.d (.lst (rowsV fun r=>valP b us r))),y10,y11,y12,y13,s4,?_⟩
 have hpow:dPow s2 (.d (.int 10)) (.d (.int 19))=some (.int (10 ^ Int.toNat 19)):=by
  show (if CPow 10 19 then some (D.int (10 ^ Int.toNat 19)) else none)=_
  rw [if_pos p19']
 have hl:∀ env:Ev,env.getD 2 none=some (.h h)->iPure (iLst (iCons (iC (.int 0)) (iCons (iC (.int 1)) (iCons (iUn dNeg (iC (.int 1))) (iCons (iC (.int 7)) (iCons (iUn dNeg (iC (.int 3))) (iCons (iOp dPow (iC (.int 10)) (iC (.int 19))) (iCons (iOp dSub (iCall m__law_take (iCons (iV 2) (iCons (iC (.int 2001)) iNil))) (iC (.int 1000))) iNil)))))))) env s2=some (.d (.lst [.int 0,.int 1,.int (-1),.int 7,.int (-3),.int (10 ^ Int.toNat 19),.int (r5 - 1000)]),s3):=fun env he=>by
  have ht:iCall m__law_take (iCons (iV 2) (iCons (iC (.int 2001)) iNil)) env s2=some (.d (.int r5),s3):=qcall_eq (ws:=[.h h,.d (.int 2001)]) (s:=s2) (by simp only [iCons,iV,iC,iNil,he,Option.map_some,Option.bind_some]) e3
  exact qpure_eq (qlst_eq (qcons_eq rfl (qcons_eq rfl (qcons_eq rfl (qcons_eq rfl (qcons_eq rfl (qcons_eq (qop_eq rfl rfl hpow) (qcons_eq (qop_eq ht rfl rfl) rfl))))))) rfl (by show 7≤1000;decide))
 generalize (rowsV fun r=>valP b ps r)=VA at *
 generalize (rowsV fun r=>valP b us r)=VB at *
 generalize polyD (kindS b) ps=PA at *
 generalize polyD (kindS b) us=PU at *
 generalize polyD (kindS b) qs=PB at *
 generalize (10 ^ Int.toNat 19:Int)=TT at *
 exact qseq_eq e2 (qseq_eq (qset_eq (i:=7) (qcall_eq (qcons_eq rfl (qcons_eq (hl _ rfl) rfl)) e4)) (qseq_eq (qset_eq (i:=8) (qpure_eq (qlc_eq rows_rng rows_z k10))) (qseq_eq (qset_eq (i:=9) (qpure_eq (qlc_eq rows_rng rows_z k8))) e5)))
theorem qsetp {i j:Nat}{f:Ef}{env:Ev}{st s:Sto}{x y:D} (h:f env st=some (.d (.tup [x,y]),s)):iSet (.tp [i,j]) f env st=some (.nx ((env.set i (some (.d x))).set j (some (.d y))) s):=by
 simp only [iSet,h,Option.bind_some,setT,setNs,List.length_cons,List.length_nil,if_true,Option.map_some]
theorem cell_ok {st:Sto}{ns:List Int}{k:Nat}{a2 a3 a4 a5 a6 a7 a8 a9 x10 x11 x12 x13:Option W}:∃ b2 b3 b4 b5 b6 b7 b8 b9 y10 y11 y12 y13 st',l_law_1 [some (.d (.scr ns)),some (.d (.int k)),a2,a3,a4,a5,a6,a7,a8,a9,x10,x11,x12,x13] st=some (.nx [some (.d (.scr ns)),some (.d (.int k)),b2,b3,b4,b5,b6,b7,b8,b9,y10,y11,y12,y13] st'):=by
 obtain⟨s1,h1,l1,_,e1⟩:=hand_ok (st:=st) (ns:=ns) (k:=k)
 generalize st.length=h at *
 obtain⟨r5,s2,p0,p1,w2,h2,e2⟩:=take_ok h1 (m:=5) (by decide) (by decide) (by decide)
 obtain⟨r7,s3,q0,q1,w3,h3,e3⟩:=take_ok h2 (m:=7) (by decide) (by decide) (by decide)
 obtain⟨r8,s4,u0,u1,w4,h4,e4⟩:=take_ok h3 (m:=8) (by decide) (by decide) (by decide)
 obtain⟨n,n0,n1,hn⟩:∃ n:Int,0≤n/\n≤6/\atI [D.int r5,.int r7] (if (r8==(0:Int))=true then 1 else 0)=some (.int n):=by
  cases (r8==(0:Int)) with
  | true=>exact⟨r7,q0,by omega,atI1 _ _ _⟩
  | false=>exact⟨r5,p0,by omega,atI0 _ _⟩
 obtain⟨d,s5,m5,w5,h5,e5⟩:=pick_ok (ds:=[.str "both",.str "odd"]) h4 (by decide) (by simp) (by simp)
 obtain⟨b,rfl⟩:∃ b,d=.str (kindS b):=by
  simp only [List.mem_cons,List.not_mem_nil,or_false] at m5
  rcases m5 with rfl | rfl
  ·exact⟨true,rfl⟩
  ·exact⟨false,rfl⟩
 obtain⟨ps,s6,f6,t6,w6,h6,e6⟩:=poly_ok (kd:=kindS b) (n:=n) h5 (by decide) n0 n1
 obtain⟨qs,s7,f7,t7,w7,h7,e7⟩:=poly_ok (kd:=kindS b) (n:=n) h6 (by decide) n0 n1
 have lp:ps.length≤64:=by
  have:=t6.length_le
  rw [List.length_map] at this
  exact Nat.le_trans this (allT_le n1)
 have lq:qs.length≤64:=by
  have:=t7.length_le
  rw [List.length_map] at this
  exact Nat.le_trans this (allT_le n1)
 obtain⟨y2,y6,y7,y8,y9,y10,y11,y12,y13,s8,e8⟩:=draw_ok (a0:=some (.d (.scr ns))) (a1:=some (.d (.int k))) (a3:=some (.d (.int n))) (a8:=a7) (a9:=a8) (x10:=a9) (x11:=x10) (x12:=x11) (x13:=x12) (x14:=x13) h7 (by decide) f6 f7 lp lq
 refine⟨y2,some (.d (.int n)),some (.d (.str (kindS b))),some (.d (polyD (kindS b) ps)),y6,y7,y8,y9,y10,y11,y12,y13,s8,?_⟩
 generalize polyD (kindS b) ps=PA at *
 generalize polyD (kindS b) qs=PB at *
 refine qseq_eq (qset_eq (i:=2) (qcall_eq rfl e1)) (qseq_eq (qset_eq (i:=3) (w:=.d (.int n)) (s:=s4) (qop_eq (qpure_eq (qlst_eq (qcons_eq (qcall_eq rfl e2) (qcons_eq (qcall_eq rfl e3) rfl)) rfl (by show 2≤1000;decide))) (qcb_eq (d:=.int (if (r8==(0:Int))=true then 1 else 0)) (qcons_eq (qop_eq (qcall_eq rfl e4) rfl (int_eq _ _ _)) rfl) rfl) ?_))
  (qseq_eq (qset_eq (i:=4) (qcall_eq (qcons_eq rfl (qcons_eq (qpure_eq (qlst_eq (ds:=[.str "both",.str "odd"]) (s:=s4) rfl rfl (by decide))) rfl)) e5)) (qseq_eq (qsetp (i:=5) (j:=6) (qtup_eq (qcons_eq (qcall_eq rfl e6) (qcons_eq (qcall_eq rfl e7) rfl)) rfl (by show 2≤1000;decide))) e8)))
 exact hn
theorem law_true (ns:List Int) (hl:ns.length≤63):∃ st,m_law [.d (.scr ns)] []=some (.d (.bl true),st):=by
 obtain⟨q,hq,q0,q1⟩:∃ q:Int,(if (if (ns.length:Int) < 3 then (ns.length:Int) else 3) > 1 then (if (ns.length:Int) < 3 then (ns.length:Int) else 3) else 1)=q/\0≤q/\q≤3:=⟨_,rfl,by split<;>split<;>omega,by split<;>split<;>omega⟩
 obtain⟨e',s',hF,x1,x2,x3,x4,x5,x6,x7,x8,x9,x10,x11,x12,x13,rfl⟩:=forI_inv (g:=.nm 1) (body:=l_law_1) (ds:=rngD 0 q.toNat) (fun i env s=>∃ x1 x2 x3 x4 x5 x6 x7 x8 x9 x10 x11 x12 x13,env=[some (.d (.scr ns)),x1,x2,x3,x4,x5,x6,x7,x8,x9,x10,x11,x12,x13])
  (env:=[some (.d (.scr ns)),none,none,none,none,none,none,none,none,none,none,none,none,none]) (st:=[]) ⟨_,_,_,_,_,_,_,_,_,_,_,_,_,rfl⟩ (by
  rintro i d env s hd ⟨x1,x2,x3,x4,x5,x6,x7,x8,x9,x10,x11,x12,x13,rfl⟩
  obtain⟨rfl,hi⟩:=rngD_at hd
  obtain⟨b2,b3,b4,b5,b6,b7,b8,b9,y10,y11,y12,y13,s',e⟩:=cell_ok (st:=s) (ns:=ns) (k:=i) (a2:=x2) (a3:=x3) (a4:=x4) (a5:=x5) (a6:=x6) (a7:=x7) (a8:=x8) (a9:=x9) (x10:=x10) (x11:=x11) (x12:=x12) (x13:=x13)
  exact⟨_,_,_,rfl,.inl e,_,_,_,_,_,_,_,_,_,_,_,_,_,rfl⟩)
 have hb:-(2 ^ 62)≤q/\q < 2 ^ 62:=⟨Int.le_trans (by decide) q0,Int.lt_of_le_of_lt q1 (by decide)⟩
 have h1:iCB dMx (iCons (iC (.int 1)) (iCons (iCB dMin (iCons (iC (.int 3)) (iCons (iCB dLen (iCons (iV 0) iNil)) iNil))) iNil)) [some (.d (.scr ns)),none,none,none,none,none,none,none,none,none,none,none,none,none] []=some (.d (.int q),[]):=by
  refine qcb_eq (qcons_eq rfl (qcons_eq (x:=.d (.int (if (ns.length:Int) < 3 then (ns.length:Int) else 3))) (qcb_eq rfl ?_) rfl)) ?_
  ·show some (D.int (if (((ns.map D.int).length:Nat):Int) < 3 then (((ns.map D.int).length:Nat):Int) else 3))=_
   rw [List.length_map]
  ·show some (D.int _)=_
   rw [hq]
 have hrg:iRng1D (iCons (iCB dMx (iCons (iC (.int 1)) (iCons (iCB dMin (iCons (iC (.int 3)) (iCons (iCB dLen (iCons (iV 0) iNil)) iNil))) iNil))) iNil) [some (.d (.scr ns)),none,none,none,none,none,none,none,none,none,none,none,none,none] []=some (rngD 0 q.toNat,[]):=by
  have:=qcons_eq (b:=iNil) h1 rfl
  simp only [iRng1D,this,Option.bind_some,hb,and_self,if_true]
 exact⟨_,qrunT_eq (n:=14) (k:=1) (b:=b_law) (ws:=[.d (.scr ns)]) (st:=[]) (x:=.bl true) rfl (qseq_eq (qfor_eq hrg hF) (qret_eq rfl))⟩
end Own
end
namespace Own
open PySem L2
theorem len1 {us:List Value} (h:us.length=1):∃ a0,us=[a0]:=match us,h with | [a0],_=>⟨a0,rfl⟩
theorem len2 {us:List Value} (h:us.length=2):∃ a0 a1,us=[a0,a1]:=match us,h with | [a0,a1],_=>⟨a0,a1,rfl⟩
theorem len3 {us:List Value} (h:us.length=3):∃ a0 a1 a2,us=[a0,a1,a2]:=match us,h with | [a0,a1,a2],_=>⟨a0,a1,a2,rfl⟩
theorem txt_mk {K:PySem.W.Frag}{h:Heap}{mg:Str->Option Value} (X:K.In h) (G:h.Ns mainGlobals mg)
  {f0:Addr}{od0 an0:Option Addr}{sl0:Array (Option Value)}{oc0 kV0 dc0 pm0 cd0 ct0:Value}
  (a0:PySem.W.nsIn K mainGlobals "poly_from" = some (some (.ref f0))) (l0:K.lookup f0=some ⟨oc0,od0,.func (PySem.W.fnOf "poly_from" "poly_from" (defArgs s_poly_from) (defBody s_poly_from) (defScope s_poly_from) .none kV0 dc0 pm0 an0 cd0 ct0),sl0⟩) (c0:PySem.W.codeIn K cd0 "poly_from" = true) (k0:PySem.W.keepIn K (.ref f0)=true)
  {f1:Addr}{od1 an1:Option Addr}{sl1:Array (Option Value)}{oc1 kV1 dc1 pm1 cd1 ct1:Value}
  (a1:PySem.W.nsIn K mainGlobals "gathered" = some (some (.ref f1))) (l1:K.lookup f1=some ⟨oc1,od1,.func (PySem.W.fnOf "gathered" "gathered" (defArgs s_gathered) (defBody s_gathered) (defScope s_gathered) .none kV1 dc1 pm1 an1 cd1 ct1),sl1⟩) (c1:PySem.W.codeIn K cd1 "gathered" = true) (k1:PySem.W.keepIn K (.ref f1)=true)
  {f2:Addr}{od2 an2:Option Addr}{sl2:Array (Option Value)}{oc2 kV2 dc2 pm2 cd2 ct2:Value}
  (a2:PySem.W.nsIn K mainGlobals "added" = some (some (.ref f2))) (l2:K.lookup f2=some ⟨oc2,od2,.func (PySem.W.fnOf "added" "added" (defArgs s_added) (defBody s_added) (defScope s_added) .none kV2 dc2 pm2 an2 cd2 ct2),sl2⟩) (c2:PySem.W.codeIn K cd2 "added" = true) (k2:PySem.W.keepIn K (.ref f2)=true)
  {f3:Addr}{od3 an3:Option Addr}{sl3:Array (Option Value)}{oc3 kV3 dc3 pm3 cd3 ct3:Value}
  (a3:PySem.W.nsIn K mainGlobals "joined" = some (some (.ref f3))) (l3:K.lookup f3=some ⟨oc3,od3,.func (PySem.W.fnOf "joined" "joined" (defArgs s_joined) (defBody s_joined) (defScope s_joined) .none kV3 dc3 pm3 an3 cd3 ct3),sl3⟩) (c3:PySem.W.codeIn K cd3 "joined" = true) (k3:PySem.W.keepIn K (.ref f3)=true)
  {f4:Addr}{od4 an4:Option Addr}{sl4:Array (Option Value)}{oc4 kV4 dc4 pm4 cd4 ct4:Value}
  (a4:PySem.W.nsIn K mainGlobals "product_of" = some (some (.ref f4))) (l4:K.lookup f4=some ⟨oc4,od4,.func (PySem.W.fnOf "product_of" "product_of" (defArgs s_product_of) (defBody s_product_of) (defScope s_product_of) .none kV4 dc4 pm4 an4 cd4 ct4),sl4⟩) (c4:PySem.W.codeIn K cd4 "product_of" = true) (k4:PySem.W.keepIn K (.ref f4)=true)
  {f5:Addr}{od5 an5:Option Addr}{sl5:Array (Option Value)}{oc5 kV5 dc5 pm5 cd5 ct5:Value}
  (a5:PySem.W.nsIn K mainGlobals "often" = some (some (.ref f5))) (l5:K.lookup f5=some ⟨oc5,od5,.func (PySem.W.fnOf "often" "often" (defArgs s_often) (defBody s_often) (defScope s_often) .none kV5 dc5 pm5 an5 cd5 ct5),sl5⟩) (c5:PySem.W.codeIn K cd5 "often" = true) (k5:PySem.W.keepIn K (.ref f5)=true)
  {f6:Addr}{od6 an6:Option Addr}{sl6:Array (Option Value)}{oc6 kV6 dc6 pm6 cd6 ct6:Value}
  (a6:PySem.W.nsIn K mainGlobals "_law_hand" = some (some (.ref f6))) (l6:K.lookup f6=some ⟨oc6,od6,.func (PySem.W.fnOf "_law_hand" "_law_hand" (defArgs s__law_hand) (defBody s__law_hand) (defScope s__law_hand) .none kV6 dc6 pm6 an6 cd6 ct6),sl6⟩) (c6:PySem.W.codeIn K cd6 "_law_hand" = true) (k6:PySem.W.keepIn K (.ref f6)=true)
  {f7:Addr}{od7 an7:Option Addr}{sl7:Array (Option Value)}{oc7 kV7 dc7 pm7 cd7 ct7:Value}
  (a7:PySem.W.nsIn K mainGlobals "_law_take" = some (some (.ref f7))) (l7:K.lookup f7=some ⟨oc7,od7,.func (PySem.W.fnOf "_law_take" "_law_take" (defArgs s__law_take) (defBody s__law_take) (defScope s__law_take) .none kV7 dc7 pm7 an7 cd7 ct7),sl7⟩) (c7:PySem.W.codeIn K cd7 "_law_take" = true) (k7:PySem.W.keepIn K (.ref f7)=true)
  {f8:Addr}{od8 an8:Option Addr}{sl8:Array (Option Value)}{oc8 kV8 dc8 pm8 cd8 ct8:Value}
  (a8:PySem.W.nsIn K mainGlobals "_law_pick" = some (some (.ref f8))) (l8:K.lookup f8=some ⟨oc8,od8,.func (PySem.W.fnOf "_law_pick" "_law_pick" (defArgs s__law_pick) (defBody s__law_pick) (defScope s__law_pick) .none kV8 dc8 pm8 an8 cd8 ct8),sl8⟩) (c8:PySem.W.codeIn K cd8 "_law_pick" = true) (k8:PySem.W.keepIn K (.ref f8)=true)
  {f9:Addr}{od9 an9:Option Addr}{sl9:Array (Option Value)}{oc9 kV9 dc9 pm9 cd9 ct9:Value}
  (a9:PySem.W.nsIn K mainGlobals "_law_term_value" = some (some (.ref f9))) (l9:K.lookup f9=some ⟨oc9,od9,.func (PySem.W.fnOf "_law_term_value" "_law_term_value" (defArgs s__law_term_value) (defBody s__law_term_value) (defScope s__law_term_value) .none kV9 dc9 pm9 an9 cd9 ct9),sl9⟩) (c9:PySem.W.codeIn K cd9 "_law_term_value" = true) (k9:PySem.W.keepIn K (.ref f9)=true)
  {f10:Addr}{od10 an10:Option Addr}{sl10:Array (Option Value)}{oc10 kV10 dc10 pm10 cd10 ct10:Value}
  (a10:PySem.W.nsIn K mainGlobals "_law_value" = some (some (.ref f10))) (l10:K.lookup f10=some ⟨oc10,od10,.func (PySem.W.fnOf "_law_value" "_law_value" (defArgs s__law_value) (defBody s__law_value) (defScope s__law_value) .none kV10 dc10 pm10 an10 cd10 ct10),sl10⟩) (c10:PySem.W.codeIn K cd10 "_law_value" = true) (k10:PySem.W.keepIn K (.ref f10)=true)
  {f11:Addr}{od11 an11:Option Addr}{sl11:Array (Option Value)}{oc11 kV11 dc11 pm11 cd11 ct11:Value}
  (a11:PySem.W.nsIn K mainGlobals "_law_all_terms" = some (some (.ref f11))) (l11:K.lookup f11=some ⟨oc11,od11,.func (PySem.W.fnOf "_law_all_terms" "_law_all_terms" (defArgs s__law_all_terms) (defBody s__law_all_terms) (defScope s__law_all_terms) .none kV11 dc11 pm11 an11 cd11 ct11),sl11⟩) (c11:PySem.W.codeIn K cd11 "_law_all_terms" = true) (k11:PySem.W.keepIn K (.ref f11)=true)
  {f12:Addr}{od12 an12:Option Addr}{sl12:Array (Option Value)}{oc12 kV12 dc12 pm12 cd12 ct12:Value}
  (a12:PySem.W.nsIn K mainGlobals "_law_number" = some (some (.ref f12))) (l12:K.lookup f12=some ⟨oc12,od12,.func (PySem.W.fnOf "_law_number" "_law_number" (defArgs s__law_number) (defBody s__law_number) (defScope s__law_number) .none kV12 dc12 pm12 an12 cd12 ct12),sl12⟩) (c12:PySem.W.codeIn K cd12 "_law_number" = true) (k12:PySem.W.keepIn K (.ref f12)=true)
  {f13:Addr}{od13 an13:Option Addr}{sl13:Array (Option Value)}{oc13 kV13 dc13 pm13 cd13 ct13:Value}
  (a13:PySem.W.nsIn K mainGlobals "_law_poly" = some (some (.ref f13))) (l13:K.lookup f13=some ⟨oc13,od13,.func (PySem.W.fnOf "_law_poly" "_law_poly" (defArgs s__law_poly) (defBody s__law_poly) (defScope s__law_poly) .none kV13 dc13 pm13 an13 cd13 ct13),sl13⟩) (c13:PySem.W.codeIn K cd13 "_law_poly" = true) (k13:PySem.W.keepIn K (.ref f13)=true)
  {f14:Addr}{od14 an14:Option Addr}{sl14:Array (Option Value)}{oc14 kV14 dc14 pm14 cd14 ct14:Value}
  (a14:PySem.W.nsIn K mainGlobals "_law_is_whole" = some (some (.ref f14))) (l14:K.lookup f14=some ⟨oc14,od14,.func (PySem.W.fnOf "_law_is_whole" "_law_is_whole" (defArgs s__law_is_whole) (defBody s__law_is_whole) (defScope s__law_is_whole) .none kV14 dc14 pm14 an14 cd14 ct14),sl14⟩) (c14:PySem.W.codeIn K cd14 "_law_is_whole" = true) (k14:PySem.W.keepIn K (.ref f14)=true)
  {f15:Addr}{od15 an15:Option Addr}{sl15:Array (Option Value)}{oc15 kV15 dc15 pm15 cd15 ct15:Value}
  (a15:PySem.W.nsIn K mainGlobals "_law_is_term" = some (some (.ref f15))) (l15:K.lookup f15=some ⟨oc15,od15,.func (PySem.W.fnOf "_law_is_term" "_law_is_term" (defArgs s__law_is_term) (defBody s__law_is_term) (defScope s__law_is_term) .none kV15 dc15 pm15 an15 cd15 ct15),sl15⟩) (c15:PySem.W.codeIn K cd15 "_law_is_term" = true) (k15:PySem.W.keepIn K (.ref f15)=true)
  {f16:Addr}{od16 an16:Option Addr}{sl16:Array (Option Value)}{oc16 kV16 dc16 pm16 cd16 ct16:Value}
  (a16:PySem.W.nsIn K mainGlobals "_law_is_poly" = some (some (.ref f16))) (l16:K.lookup f16=some ⟨oc16,od16,.func (PySem.W.fnOf "_law_is_poly" "_law_is_poly" (defArgs s__law_is_poly) (defBody s__law_is_poly) (defScope s__law_is_poly) .none kV16 dc16 pm16 an16 cd16 ct16),sl16⟩) (c16:PySem.W.codeIn K cd16 "_law_is_poly" = true) (k16:PySem.W.keepIn K (.ref f16)=true)
  {f17:Addr}{od17 an17:Option Addr}{sl17:Array (Option Value)}{oc17 kV17 dc17 pm17 cd17 ct17:Value}
  (a17:PySem.W.nsIn K mainGlobals "_law_right" = some (some (.ref f17))) (l17:K.lookup f17=some ⟨oc17,od17,.func (PySem.W.fnOf "_law_right" "_law_right" (defArgs s__law_right) (defBody s__law_right) (defScope s__law_right) .none kV17 dc17 pm17 an17 cd17 ct17),sl17⟩) (c17:PySem.W.codeIn K cd17 "_law_right" = true) (k17:PySem.W.keepIn K (.ref f17)=true)
  {f18:Addr}{od18 an18:Option Addr}{sl18:Array (Option Value)}{oc18 kV18 dc18 pm18 cd18 ct18:Value}
  (a18:PySem.W.nsIn K mainGlobals "_law_times" = some (some (.ref f18))) (l18:K.lookup f18=some ⟨oc18,od18,.func (PySem.W.fnOf "_law_times" "_law_times" (defArgs s__law_times) (defBody s__law_times) (defScope s__law_times) .none kV18 dc18 pm18 an18 cd18 ct18),sl18⟩) (c18:PySem.W.codeIn K cd18 "_law_times" = true) (k18:PySem.W.keepIn K (.ref f18)=true)
  {f19:Addr}{od19 an19:Option Addr}{sl19:Array (Option Value)}{oc19 kV19 dc19 pm19 cd19 ct19:Value}
  (a19:PySem.W.nsIn K mainGlobals "law" = some (some (.ref f19))) (l19:K.lookup f19=some ⟨oc19,od19,.func (PySem.W.fnOf "law" "law" (defArgs s_law) (defBody s_law) (defScope s_law) .none kV19 dc19 pm19 an19 cd19 ct19),sl19⟩) (c19:PySem.W.codeIn K cd19 "law" = true) (k19:PySem.W.keepIn K (.ref f19)=true)
  (z_all:PySem.W.nsIn K mainGlobals "all" = some none)
  (z_bool:PySem.W.nsIn K mainGlobals "bool" = some none)
  (z_int:PySem.W.nsIn K mainGlobals "int" = some none)
  (z_isinstance:PySem.W.nsIn K mainGlobals "isinstance" = some none)
  (z_len:PySem.W.nsIn K mainGlobals "len" = some none)
  (z_max:PySem.W.nsIn K mainGlobals "max" = some none)
  (z_min:PySem.W.nsIn K mainGlobals "min" = some none)
  (z_range:PySem.W.nsIn K mainGlobals "range" = some none)
  (z_repr:PySem.W.nsIn K mainGlobals "repr" = some none)
  (z_set:PySem.W.nsIn K mainGlobals "set" = some none)
  (z_sorted:PySem.W.nsIn K mainGlobals "sorted" = some none)
  (z_str:PySem.W.nsIn K mainGlobals "str" = some none)
  (z_sum:PySem.W.nsIn K mainGlobals "sum" = some none)
  (z_tuple:PySem.W.nsIn K mainGlobals "tuple" = some none)
  (z_zip:PySem.W.nsIn K mainGlobals "zip" = some none)
  : ∃ t,Txt K mg t/\t.f_law=f19:=by
 have F0:=fun_mk (st:=s_poly_from) l0 c0 k0
 have F1:=fun_mk (st:=s_gathered) l1 c1 k1
 have F2:=fun_mk (st:=s_added) l2 c2 k2
 have F3:=fun_mk (st:=s_joined) l3 c3 k3
 have F4:=fun_mk (st:=s_product_of) l4 c4 k4
 have F5:=fun_mk (st:=s_often) l5 c5 k5
 have F6:=fun_mk (st:=s__law_hand) l6 c6 k6
 have F7:=fun_mk (st:=s__law_take) l7 c7 k7
 have F8:=fun_mk (st:=s__law_pick) l8 c8 k8
 have F9:=fun_mk (st:=s__law_term_value) l9 c9 k9
 have F10:=fun_mk (st:=s__law_value) l10 c10 k10
 have F11:=fun_mk (st:=s__law_all_terms) l11 c11 k11
 have F12:=fun_mk (st:=s__law_number) l12 c12 k12
 have F13:=fun_mk (st:=s__law_poly) l13 c13 k13
 have F14:=fun_mk (st:=s__law_is_whole) l14 c14 k14
 have F15:=fun_mk (st:=s__law_is_term) l15 c15 k15
 have F16:=fun_mk (st:=s__law_is_poly) l16 c16 k16
 have F17:=fun_mk (st:=s__law_right) l17 c17 k17
 have F18:=fun_mk (st:=s__law_times) l18 c18 k18
 have F19:=fun_mk (st:=s_law) l19 c19 k19
 refine⟨⟨f0,_,f1,_,f2,_,f3,_,f4,_,f5,_,f6,_,f7,_,f8,_,f9,_,f10,_,f11,_,f12,_,f13,_,f14,_,f15,_,f16,_,f17,_,f18,_,f19,_⟩,⟨F0,PySem.W.mg_of X G a0,F0.binds fun _ _ _ _ _ _ us hl=>(by obtain⟨_,_,rfl⟩:=len2 hl;rfl),F1,PySem.W.mg_of X G a1,F1.binds fun _ _ _ _ _ _ us hl=>(by obtain⟨_,_,rfl⟩:=len2 hl;rfl),F2,PySem.W.mg_of X G a2,F2.binds fun _ _ _ _ _ _ us hl=>(by obtain⟨_,_,rfl⟩:=len2 hl;rfl),F3,PySem.W.mg_of X G a3,F3.binds fun _ _ _ _ _ _ us hl=>(by obtain⟨_,_,_,rfl⟩:=len3 hl;rfl),F4,PySem.W.mg_of X G a4,F4.binds fun _ _ _ _ _ _ us hl=>(by obtain⟨_,_,rfl⟩:=len2 hl;rfl),F5,PySem.W.mg_of X G a5,F5.binds fun _ _ _ _ _ _ us hl=>(by obtain⟨_,_,rfl⟩:=len2 hl;rfl),F6,PySem.W.mg_of X G a6,F6.binds fun _ _ _ _ _ _ us hl=>(by obtain⟨_,_,rfl⟩:=len2 hl;rfl),F7,PySem.W.mg_of X G a7,F7.binds fun _ _ _ _ _ _ us hl=>(by obtain⟨_,_,rfl⟩:=len2 hl;rfl),F8,PySem.W.mg_of X G a8,F8.binds fun _ _ _ _ _ _ us hl=>(by obtain⟨_,_,rfl⟩:=len2 hl;rfl),F9,PySem.W.mg_of X G a9,F9.binds fun _ _ _ _ _ _ us hl=>(by obtain⟨_,_,_,rfl⟩:=len3 hl;rfl),F10,PySem.W.mg_of X G a10,F10.binds fun _ _ _ _ _ _ us hl=>(by obtain⟨_,_,rfl⟩:=len2 hl;rfl),F11,PySem.W.mg_of X G a11,F11.binds fun _ _ _ _ _ _ us hl=>(by obtain⟨_,rfl⟩:=len1 hl;rfl),F12,PySem.W.mg_of X G a12,F12.binds fun _ _ _ _ _ _ us hl=>(by obtain⟨_,rfl⟩:=len1 hl;rfl),F13,PySem.W.mg_of X G a13,F13.binds fun _ _ _ _ _ _ us hl=>(by obtain⟨_,_,_,rfl⟩:=len3 hl;rfl),F14,PySem.W.mg_of X G a14,F14.binds fun _ _ _ _ _ _ us hl=>(by obtain⟨_,rfl⟩:=len1 hl;rfl),F15,PySem.W.mg_of X G a15,F15.binds fun _ _ _ _ _ _ us hl=>(by obtain⟨_,rfl⟩:=len1 hl;rfl),F16,PySem.W.mg_of X G a16,F16.binds fun _ _ _ _ _ _ us hl=>(by obtain⟨_,rfl⟩:=len1 hl;rfl),F17,PySem.W.mg_of X G a17,F17.binds fun _ _ _ _ _ _ us hl=>(by obtain⟨_,_,_,rfl⟩:=len3 hl;rfl),F18,PySem.W.mg_of X G a18,F18.binds fun _ _ _ _ _ _ us hl=>(by obtain⟨_,_,rfl⟩:=len2 hl;rfl),F19,PySem.W.mg_of X G a19,F19.binds fun _ _ _ _ _ _ us hl=>(by obtain⟨_,rfl⟩:=len1 hl;rfl),PySem.W.mg_none_of X G z_all,PySem.W.mg_none_of X G z_bool,PySem.W.mg_none_of X G z_int,PySem.W.mg_none_of X G z_isinstance,PySem.W.mg_none_of X G z_len,PySem.W.mg_none_of X G z_max,PySem.W.mg_none_of X G z_min,PySem.W.mg_none_of X G z_range,PySem.W.mg_none_of X G z_repr,PySem.W.mg_none_of X G z_set,PySem.W.mg_none_of X G z_sorted,PySem.W.mg_none_of X G z_str,PySem.W.mg_none_of X G z_sum,PySem.W.mg_none_of X G z_tuple,PySem.W.mg_none_of X G z_zip⟩,rfl⟩
theorem txt_ex {K:PySem.W.Frag}{mg:Str->Option Value}{f:Addr} (h:∃ t,Txt K mg t/\t.f_law=f):∃ t,Txt K mg t:=let ⟨t,a,_⟩:=h;⟨t,a⟩
theorem walk {l:PySem.W.OpenLaw}{q:Program}{loose:List Str}{XP:(Str->Option Value)->Heap->Prop}{YP:World->Heap->Prop}{d:DefRec}{K:Params->PySem.W.Frag} (hn:l.most=some 63) (hdf:d.params.defaults=[])
  (hY:∀ (w:World) (h:Heap),YP w h->(K w.params).In h)
  (F:∀ (w:World) (mg:Str->Option Value) (fa:Addr) (h:Heap),(K w.params).In h->h.Ns mainGlobals mg->mg d.name=some (.ref fa)->
    ∃ fd:FuncData,(∀ (s:Shared) (u:Value),BindsTo s fd ⟨[u],[]⟩ [("_law_script",u)])/\∀ base:Heap,(K w.params).In base->base.Ns mainGlobals mg->FnOk l.prog w (K w.params) mg base CX0 5 fa fd ["_law_script"] (spI (K w.params) m_law)) :
  PySem.W.WalkO q loose XP YP l.row.toRowW d [] (fun f vs=>PySem.call f vs):=
 L2.walk_of (n:=63) (k:=5) (x:="_law_script") (CX:=fun _=>CX0) (sp:=fun w=>spI (K w.params) m_law) hn (by decide) hdf ⟨rfl,by decide,by decide,rfl⟩ hY F (fun _ _ a ns hl hO hS=>spI_law hO hS (law_true ns hl)) fun _ _ _ _ _ z=>z
theorem law_mk {l:PySem.W.OpenLaw}{w:World}{K:PySem.W.Frag}{h:Heap}{mg:Str->Option Value}{fa:Addr} (hfa:mg "law" = some (.ref fa)) (T0:∃ t,Txt K mg t) :
  ∃ fd:FuncData,(∀ (s:Shared) (v:Value),BindsTo s fd ⟨[v],[]⟩ [("_law_script",v)])/\∀ base:Heap,K.In base->base.Ns mainGlobals mg->FnOk l.prog w K mg base CX0 5 fa fd ["_law_script"] (spI K m_law):=by
 obtain⟨t,T⟩:=T0
 have e:=hfa.symm.trans T.m_law
 cases e
 refine⟨t.fd_law,fun s v=>?_,fun base _ _=>ok_law T⟩
 obtain⟨oc,od,kV,doc,pm,an,cdv,ct,osl,e,_⟩:=T.F_law.ex
 rw [e]
 exact .of_eq rfl
end Own
open PySem PySem.W PyProof.Rows
set_option maxRecDepth 100000 in
set_option maxHeartbeats 0 in
theorem PySem.Challenge.cw_signpoly_k14_sums_and_products_holds : PySem.Challenge.rw_signpoly_k14_sums_and_products.Holds := by
 w_on;o_law;k_head;(case hw=>w_witness2)
 k_fill
 refine Own.walk (l:=PySem.Challenge.rw_signpoly_k14_sums_and_products) rfl rfl (fun w h Y=>PySem.W.kIn_of Y) ?F
 case F=>
  intro w mg fa h KX G hmg
  refine Own.law_mk (h:=h) hmg ?T
  case T=>
   refine' Own.txt_ex (Own.txt_mk KX G ?a0 ?l0 ?c0 ?k0 ?a1 ?l1 ?c1 ?k1 ?a2 ?l2 ?c2 ?k2 ?a3 ?l3 ?c3 ?k3 ?a4 ?l4 ?c4 ?k4 ?a5 ?l5 ?c5 ?k5 ?a6 ?l6 ?c6 ?k6 ?a7 ?l7 ?c7 ?k7 ?a8 ?l8 ?c8 ?k8 ?a9 ?l9 ?c9 ?k9 ?a10 ?l10 ?c10 ?k10 ?a11 ?l11 ?c11 ?k11 ?a12 ?l12 ?c12 ?k12 ?a13 ?l13 ?c13 ?k13 ?a14 ?l14 ?c14 ?k14 ?a15 ?l15 ?c15 ?k15 ?a16 ?l16 ?c16 ?k16 ?a17 ?l17 ?c17 ?k17 ?a18 ?l18 ?c18 ?k18 ?a19 ?l19 ?c19 ?k19 ?z_all ?z_bool ?z_int ?z_isinstance ?z_len ?z_max ?z_min ?z_range ?z_repr ?z_set ?z_sorted ?z_str ?z_sum ?z_tuple ?z_zip)
   (case a0=>k_is)
   (case l0=>k_is)
   (case c0=>k_is)
   (case k0=>k_is)
   (case a1=>k_is)
   (case l1=>k_is)
   (case c1=>k_is)
   (case k1=>k_is)
   (case a2=>k_is)
   (case l2=>k_is)
   (case c2=>k_is)
   (case k2=>k_is)
   (case a3=>k_is)
   (case l3=>k_is)
   (case c3=>k_is)
   (case k3=>k_is)
   (case a4=>k_is)
   (case l4=>k_is)
   (case c4=>k_is)
   (case k4=>k_is)
   (case a5=>k_is)
   (case l5=>k_is)
   (case c5=>k_is)
   (case k5=>k_is)
   (case a6=>k_is)
   (case l6=>k_is)
   (case c6=>k_is)
   (case k6=>k_is)
   (case a7=>k_is)
   (case l7=>k_is)
   (case c7=>k_is)
   (case k7=>k_is)
   (case a8=>k_is)
   (case l8=>k_is)
   (case c8=>k_is)
   (case k8=>k_is)
   (case a9=>k_is)
   (case l9=>k_is)
   (case c9=>k_is)
   (case k9=>k_is)
   (case a10=>k_is)
   (case l10=>k_is)
   (case c10=>k_is)
   (case k10=>k_is)
   (case a11=>k_is)
   (case l11=>k_is)
   (case c11=>k_is)
   (case k11=>k_is)
   (case a12=>k_is)
   (case l12=>k_is)
   (case c12=>k_is)
   (case k12=>k_is)
   (case a13=>k_is)
   (case l13=>k_is)
   (case c13=>k_is)
   (case k13=>k_is)
   (case a14=>k_is)
   (case l14=>k_is)
   (case c14=>k_is)
   (case k14=>k_is)
   (case a15=>k_is)
   (case l15=>k_is)
   (case c15=>k_is)
   (case k15=>k_is)
   (case a16=>k_is)
   (case l16=>k_is)
   (case c16=>k_is)
   (case k16=>k_is)
   (case a17=>k_is)
   (case l17=>k_is)
   (case c17=>k_is)
   (case k17=>k_is)
   (case a18=>k_is)
   (case l18=>k_is)
   (case c18=>k_is)
   (case k18=>k_is)
   (case a19=>k_is)
   (case l19=>k_is)
   (case c19=>k_is)
   (case k19=>k_is)
   (case z_all=>k_is)
   (case z_bool=>k_is)
   (case z_int=>k_is)
   (case z_isinstance=>k_is)
   (case z_len=>k_is)
   (case z_max=>k_is)
   (case z_min=>k_is)
   (case z_range=>k_is)
   (case z_repr=>k_is)
   (case z_set=>k_is)
   (case z_sorted=>k_is)
   (case z_str=>k_is)
   (case z_sum=>k_is)
   (case z_tuple=>k_is)
   (case z_zip=>k_is)
