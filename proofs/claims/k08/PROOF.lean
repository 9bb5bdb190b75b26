import PyProof.Rows.All
import Wide.All
import OpenK.AllK
import Wide.FinOn
import Lean
import PyProof.EqAt
import PyProof.EqKinds
import PyProof.TupleCall
import PyProof.ListRange
import PyProof.NeKinds
import KE.KSortTup
import PyProof.ZipIter
import PyProof.Rows.CallKwBuiltin
import PyProof.FactsAll.tuple_0
import PyProof.FactsAll.tuple_2
import PyProof.FactsAll.tuple_3
import PyProof.FactsAll.list_3
import PyProof.Rows.SeqMore
import PyProof.AutoSeq1
import PyProof.SetKind
import PyProof.SetRoads
import KE.KDictList
import PyProof.Rows.SetFrom
import PyProof.WalksMore
import PySem.Challenge.RW_signpoly_k08_rules_tabled
set_option Elab.async false
set_option linter.all false
set_option maxRecDepth 100000
namespace L2
open PySem PySem.Spec PyProof.Rows

/-- a key: an int or a str -/
abbrev Key := Sum Int Str
def keyIs : Key → Value → Bool
  | .inl k, v => Value.isInt k v
  | .inr x, v => Value.isStrOf x v
def keyH (w : World) : Key → Int
  | .inl k => hashInt k
  | .inr x => hashStr w x
theorem keyIs_shape : ∀ {k : Key} {v : Value}, keyIs k v = true → (∃ i t, k = Sum.inl i ∧ v = Value.int i t) ∨ (∃ x t, k = Sum.inr x ∧ v = Value.str x t)
  | .inl i, v, h => by
    obtain ⟨t, e⟩ := Value.isInt_shape (k := i) (v := v) h
    exact .inl ⟨i, t, rfl, e⟩
  | .inr x, v, h => by
    obtain ⟨t, e⟩ := Value.isStrOf_shape (x := x) (v := v) h
    exact .inr ⟨x, t, rfl, e⟩
theorem key_ll (a b : Int) : decide ((Sum.inl a : Key) = Sum.inl b) = (a == b) := by
  by_cases e : a = b
  · subst e; simp
  · have h : ¬ (Sum.inl a : Key) = Sum.inl b := fun q => e (Sum.inl.inj q)
    rw [decide_eq_false h]
    exact (beq_eq_false_iff_ne.mpr e).symm
theorem key_rr (a b : Str) : decide ((Sum.inr a : Key) = Sum.inr b) = decide (a = b) := by
  by_cases e : a = b
  · subst e; simp
  · have h : ¬ (Sum.inr a : Key) = Sum.inr b := fun q => e (Sum.inr.inj q)
    rw [decide_eq_false h, decide_eq_false e]
theorem key_lr (a : Int) (b : Str) : decide ((Sum.inl a : Key) = Sum.inr b) = false := decide_eq_false (fun q => nomatch q)
theorem key_rl (a : Str) (b : Int) : decide ((Sum.inr a : Key) = Sum.inl b) = false := decide_eq_false (fun q => nomatch q)

def mixKind (prog : Program) (w : World) : PySem.KeyKind prog w Key where
  is := keyIs
  hash := keyH w
  inj := fun v a b ha hb => by
    rcases keyIs_shape ha with ⟨i, t, rfl, rfl⟩ | ⟨x, t, rfl, rfl⟩
    · rcases keyIs_shape hb with ⟨j, u, rfl, e⟩ | ⟨y, u, rfl, e⟩
      · injection e with e1 _; rw [e1]
      · exact nomatch e
    · rcases keyIs_shape hb with ⟨j, u, rfl, e⟩ | ⟨y, u, rfl, e⟩
      · exact nomatch e
      · injection e with e1 _; rw [e1]
  byValue := fun k v h => by
    rcases keyIs_shape h with ⟨i, t, rfl, rfl⟩ | ⟨x, t, rfl, rfl⟩ <;> rfl
  pyHash := fun hv h => by
    rcases keyIs_shape hv with ⟨i, t, rfl, rfl⟩ | ⟨x, t, rfl, rfl⟩
    · exact wpAny_pyHash_int h
    · exact wpAny_pyHash_str h
  eqBool := fun hu hv h => by
    rcases keyIs_shape hu with ⟨i, t, rfl, rfl⟩ | ⟨x, t, rfl, rfl⟩
    · rcases keyIs_shape hv with ⟨j, u, rfl, rfl⟩ | ⟨y, u, rfl, rfl⟩
      · rw [key_ll] at h; exact wpAny_eqBool_int h
      · rw [key_lr] at h; exact SeqAt.EqAt.int_str i t y u _ _ _ _ h
    · rcases keyIs_shape hv with ⟨j, u, rfl, rfl⟩ | ⟨y, u, rfl, rfl⟩
      · rw [key_rl] at h; exact SeqAt.EqAt.str_int x t j u _ _ _ _ h
      · rw [key_rr] at h; exact wpAny_eqBool_str h
  «strs» := fun k x t v h => by
    rcases keyIs_shape h with ⟨i, u, rfl, e⟩ | ⟨y, u, rfl, e⟩
    · exact nomatch e
    · injection e with e1 _
      subst e1
      cases v <;> rfl

end L2

namespace L2
open PySem PySem.Spec PyProof.Rows

/-- a value, without the heap -/
inductive V where
  | non | bl (b : Bool) | int (i : Int) | str (x : Str) | byt (b : Array UInt8) | flt (b : UInt64) | ref (a : Addr) | ty (n : String)
  deriving DecidableEq

def RelV : V → Value → Prop
  | .non, u => u = Value.none
  | .bl b, u => u = Value.bool b
  | .int i, u => ∃ t, u = Value.int i t
  | .str x, u => ∃ t, u = Value.str x t
  | .byt b, u => ∃ t, u = Value.bytes b t
  | .flt b, u => ∃ t, u = Value.float b t
  | .ref a, u => u = Value.ref a
  | .ty n, u => u = Value.type n

abbrev Vals : List V → List Value → Prop := Paired RelV
theorem Vals.length {xs : List V} {us : List Value} (r : Vals xs us) : xs.length = us.length := Paired.length r
theorem Vals.get : ∀ {xs : List V} {us : List Value} {i : Nat} {x : V}, Vals xs us → xs[i]? = some x → ∃ u, us[i]? = some u ∧ RelV x u
  | _, _, _, _, .nil, e => by simp at e
  | _, _, 0, _, .cons r _, e => by simp at e; subst e; exact ⟨_, rfl, r⟩
  | _, _, i + 1, x, .cons _ t, e => by
    obtain ⟨u, h1, h2⟩ := Vals.get (i := i) (x := x) t (by simpa using e)
    exact ⟨u, by simpa using h1, h2⟩
theorem Vals.set {x : V} {u : Value} (r : RelV x u) : ∀ {xs : List V} {us : List Value} (i : Nat), Vals xs us → Vals (xs.set i x) (us.set i u)
  | _, _, _, .nil => .nil
  | _, _, 0, .cons _ t => .cons r t
  | _, _, i + 1, .cons q t => .cons q (Vals.set r i t)
theorem Vals.append : ∀ {xs ys : List V} {us ws : List Value}, Vals xs us → Vals ys ws → Vals (xs ++ ys) (us ++ ws)
  | _, _, _, _, .nil, s => s
  | _, _, _, _, .cons r t, s => .cons r (Vals.append t s)
theorem Vals.take : ∀ {xs : List V} {us : List Value} (n : Nat), Vals xs us → Vals (xs.take n) (us.take n)
  | _, _, 0, _ => .nil
  | _, _, _ + 1, .nil => .nil
  | _, _, n + 1, .cons r t => .cons r (Vals.take n t)
theorem Vals.drop : ∀ {xs : List V} {us : List Value} (n : Nat), Vals xs us → Vals (xs.drop n) (us.drop n)
  | _, _, 0, r => r
  | _, _, _ + 1, .nil => .nil
  | _, _, n + 1, .cons _ t => Vals.drop n t
def RelO : Option V → Option Value → Prop
  | some v, some u => RelV v u
  | none, none => True
  | _, _ => False
def KV {κ : Type} : List (κ × V) → List (κ × Value) → Prop := Paired fun (p : κ × V) (q : κ × Value) => p.1 = q.1 ∧ RelV p.2 q.2

/-- a key of a dict (00_mix): an int or a text -/
def kV : Key → V
  | .inl i => .int i
  | .inr x => .str x

/-- what stands at a tracked address -/
inductive HO where
  /-- a list -/
  | lst (xs : List V)
  /-- a tuple (never changes) -/
  | tup (xs : List V)
  /-- a dict whose keys are ints and texts; one whose keys are tuples of ints and texts (the empty one is both) -/
  | dK (kvs : List (Key × V)) | dT (kvs : List (List Key × V))
  /-- a set of ints: its members, its size -/
  | set (S : Int → Bool) (n : Nat)
  /-- an instance of the class at C, its dict at dx, its attributes -/
  | ins (C dx : Addr) (fs : List (Str × V))
  /-- the dict of the instance at x -/
  | own (x : Addr)
  /-- the dict of an exception -/
  | xd (fs : List (Str × V))
  /-- a bound method, f of x -/
  | met (f x : Addr)
  /-- a range object lo, lo + 1, .. below hi -/
  | rng (lo hi : Int)
  /-- a thing that is known to the object (the script; a dict while a loop walks it): read, never written while it is so -/
  | frz (o : Obj) (u : HO)
  /-- a code object's table -/
  | tbl (ps : Array Value)
  /-- any other thing, by what is true of its one object (a def of one's own: SetO a S n := HO.ext fun h => ..) -/
  | ext (φ : Heap → Prop)

abbrev Hp := Addr → Option HO
def upd (H : Hp) (a : Addr) (o : HO) : Hp := fun b => if b = a then some o else H b
theorem upd_same {H : Hp} {a : Addr} {o : HO} : upd H a o a = some o := by unfold upd; rw [if_pos rfl]
theorem upd_ne {H : Hp} {a b : Addr} {o : HO} (h : b ≠ a) : upd H a o b = H b := by unfold upd; rw [if_neg h]
theorem ne_of_none {H : Hp} {a b : Addr} {o : HO} (h : H a = some o) (h' : H b = none) : a ≠ b := by
  intro e; subst e; rw [h] at h'; cases h'

/-- a plain tuple: it has no dict -/
def IsTup1 (h : Heap) (a : Addr) (its : Array Value) : Prop := ∃ o : Obj, h.get? a = some o ∧ o.cls = .type "tuple" ∧ (∃ n, o.data = .seq its n) ∧ o.dict = none
theorem IsTup1.tup {h : Heap} {a : Addr} {its : Array Value} (x : IsTup1 h a its) : IsTup h a its := let ⟨o, e, c, n, _⟩ := x; ⟨o, e, c, n⟩
theorem IsTup1.new (h : Heap) (its : Array Value) : IsTup1 (h.push { cls := .type "tuple", data := .seq its }) h.objs.size its := ⟨_, Heap.get?_push_size _ rfl, rfl, ⟨_, rfl⟩, rfl⟩
section
variable (P : Program) (w : World)
def ObjOk (H : Hp) (h : Heap) (a : Addr) : HO → Prop
  | .lst xs => xs.length ≤ sizeLine ∧ ∃ (its : List Value) (n : Nat), Vals xs its ∧ h.get? a = some { cls := .type "list", data := .seq its.toArray n }
  | .tup xs => xs.length ≤ sizeLine ∧ ∃ its : List Value, Vals xs its ∧ IsTup1 h a its.toArray
  | .dK kvs => kvs.length ≤ sizeLine ∧ (a == sysModules) = false ∧ ∃ vs, KV kvs vs ∧ h.DictOf (mixKind P w) a vs
  | .dT kvs => kvs.length ≤ sizeLine ∧ (a == sysModules) = false ∧ ∃ xs : List (List Key × Addr × Value),
      Paired (fun (p : List Key × V) (q : List Key × Addr × Value) => p.1 = q.1 ∧ H q.2.1 = some (.tup (p.1.map kV)) ∧ RelV p.2 q.2.2) kvs xs ∧
      ∃ o es ep, h.get? a = some o ∧ o.ExactDict ∧ o.data = .dict es ep ∧ es.toList = xs.map (entryOfKey (tupleKind (mixKind P w))) ∧ (xs.map (·.1)).Nodup
  | .set S n => h.SetOf (intKind P w) a S n
  | .ins C dx fs => H dx = some (.own a) ∧ fs.length ≤ 1000 ∧ dx ≠ a ∧ h.get? a = some (PySem.W.instObj C dx) ∧
      ∃ mA, h.Ns1 dx mA ∧ (∀ f, RelO (fs.lookup f) (mA f)) ∧ PySem.Within mA (fs.map (·.1))
  | .own _ => ∃ o, h.get? a = some o
  | .xd fs => ∃ mA, h.Ns1 a mA ∧ ∀ f, RelO (fs.lookup f) (mA f)
  | .rng lo hi => ∃ t u v, h.get? a = some { cls := .type "range", data := .fields #[.int lo t, .int hi u, .int 1 v] }
  | .frz o u => h.get? a = some o ∧ ObjOk H h a u
  | .tbl ps => h.get? a = some { cls := .none, data := .fields ps }
  | .met f x => h.get? a = some (PySem.W.methodObj (.ref f) (.ref x))
  | .ext φ => φ h ∧ (∃ o, h.get? a = some o) ∧ ∀ h1 h2 : Heap, φ h1 → (∀ o, h1.get? a = some o → h2.get? a = some o) → φ h2
/-- the abstract heap is held -/
def HOk (H : Hp) (h : Heap) : Prop := ∀ a o, H a = some o → ObjOk P w H h a o
end

section
variable {P : Program} {w : World} {H H' : Hp} {h h' : Heap} {a : Addr} {o : HO}
theorem ObjOk.lt (x : ObjOk P w H h a o) : a < h.objs.size := by
  cases o with
  | lst xs => obtain ⟨_, _, _, _, e⟩ := x; exact Heap.lt_size e
  | tup xs => obtain ⟨_, _, _, p⟩ := x; exact p.tup.lt
  | dK kvs => obtain ⟨_, _, _, _, o, _, _, e, _⟩ := x; exact Heap.lt_size e
  | dT kvs => obtain ⟨_, _, _, _, o, _, _, e, _⟩ := x; exact Heap.lt_size e
  | set S n => obtain ⟨o, _, _, _, e, _⟩ := x; exact Heap.lt_size e
  | ins C dx fs => obtain ⟨_, _, _, e, _⟩ := x; exact Heap.lt_size e
  | own y => obtain ⟨_, e⟩ := x; exact Heap.lt_size e
  | xd fs => obtain ⟨_, ⟨_, _, _, e, _⟩, _⟩ := x; exact Heap.lt_size e
  | rng lo hi => obtain ⟨_, _, _, e⟩ := x; exact Heap.lt_size e
  | frz ob u => obtain ⟨e, _⟩ := x; exact Heap.lt_size e
  | tbl ps => exact Heap.lt_size (show h.get? a = some _ from x)
  | met f y => exact Heap.lt_size (show h.get? a = some _ from x)
  | ext φ => obtain ⟨_, ⟨_, e⟩, _⟩ := x; exact Heap.lt_size e
theorem Paired.mapP {α β : Type} {F G : α → β → Prop} : ∀ {l₁ : List α} {l₂ : List β}, Paired F l₁ l₂ → (∀ a b, F a b → G a b) → Paired G l₁ l₂
  | _, _, .nil, _ => .nil
  | _, _, .cons r t, f => .cons (f _ _ r) (Paired.mapP t f)
/-- what an object's description leans on: its own object, its own dict, the tuples -/
theorem ObjOk.stay (x : ObjOk P w H h a o) (k : ∀ b u, (b = a ∨ H b = some (.own a)) → h.get? b = some u → h'.get? b = some u)
    (ho : ∀ b, H b = some (.own a) → H' b = some (.own a)) (ht : ∀ b xs, H b = some (.tup xs) → H' b = some (.tup xs)) : ObjOk P w H' h' a o := by
  induction o with
  | lst xs => obtain ⟨z, its, n, r, e⟩ := x; exact ⟨z, its, n, r, k _ _ (.inl rfl) e⟩
  | tup xs => obtain ⟨z, its, r, ob, e, c⟩ := x; exact ⟨z, its, r, ob, k _ _ (.inl rfl) e, c⟩
  | dK kvs => obtain ⟨z, y, vs, r, ob, es, ep, e, c⟩ := x; exact ⟨z, y, vs, r, ob, es, ep, k _ _ (.inl rfl) e, c⟩
  | dT kvs =>
    obtain ⟨z, y, xs, r, ob, es, ep, e, c⟩ := x
    exact ⟨z, y, xs, Paired.mapP r fun p q z => ⟨z.1, ht _ _ z.2.1, z.2.2⟩, ob, es, ep, k _ _ (.inl rfl) e, c⟩
  | set S n => obtain ⟨ob, es, ep, t, e, c⟩ := x; exact ⟨ob, es, ep, t, k _ _ (.inl rfl) e, c⟩
  | ins C dx fs =>
    obtain ⟨d, z, ne, e, mA, ⟨od, es, ep, e2, c⟩, r⟩ := x
    exact ⟨ho _ d, z, ne, k _ _ (.inl rfl) e, mA, ⟨od, es, ep, k _ _ (.inr d) e2, c⟩, r⟩
  | own y => obtain ⟨ob, e⟩ := x; exact ⟨ob, k _ _ (.inl rfl) e⟩
  | xd fs => obtain ⟨mA, ⟨od, es, ep, e, c⟩, r⟩ := x; exact ⟨mA, ⟨od, es, ep, k _ _ (.inl rfl) e, c⟩, r⟩
  | rng lo hi => obtain ⟨t, u, v, e⟩ := x; exact ⟨t, u, v, k _ _ (.inl rfl) e⟩
  | frz ob u ih => obtain ⟨e, q⟩ := x; exact ⟨k _ _ (.inl rfl) e, ih q⟩
  | tbl ps =>
    have e : h.get? a = some { cls := .none, data := .fields ps } := x
    show h'.get? a = some { cls := .none, data := .fields ps }
    exact k a _ (.inl rfl) e
  | met f y =>
    have e : h.get? a = some (PySem.W.methodObj (.ref f) (.ref y)) := x
    show h'.get? a = some (PySem.W.methodObj (.ref f) (.ref y))
    exact k a _ (.inl rfl) e
  | ext φ => obtain ⟨p, ⟨o, e⟩, st⟩ := x; exact ⟨st _ _ p fun o q => k _ _ (.inl rfl) q, ⟨o, k _ _ (.inl rfl) e⟩, st⟩
theorem HOk.lt (x : HOk P w H h) (e : H a = some o) : a < h.objs.size := (x a o e).lt
theorem HOk.fresh (x : HOk P w H h) (e : h.objs.size ≤ a) : H a = none := by
  cases q : H a with
  | none => rfl
  | some u => exact absurd (Nat.lt_of_lt_of_le (x.lt q) e) (Nat.lt_irrefl _)
/-- every object of the heap is kept -/
theorem HOk.kept (x : HOk P w H h) (k : ∀ b u, h.get? b = some u → h'.get? b = some u) : HOk P w H h' := fun a o e =>
  (x a o e).stay (fun b u _ q => k b u q) (fun _ q => q) fun _ _ q => q
/-- a new object is laid and tracked -/
theorem HOk.laid (x : HOk P w H h) (k : ∀ b u, h.get? b = some u → h'.get? b = some u) (hp : h.objs.size ≤ a) (new : ObjOk P w (upd H a o) h' a o) : HOk P w (upd H a o) h' := fun b u e => by
  have hn := x.fresh hp
  by_cases hb : b = a
  · subst hb; rw [upd_same] at e; cases e; exact new
  · rw [upd_ne hb] at e
    exact (x b u e).stay (fun c v _ q => k c v q) (fun c q => by rw [upd_ne (ne_of_none q hn)]; exact q) fun c xs q => by rw [upd_ne (ne_of_none q hn)]; exact q
end

/-- what may be read as u: it is u, or a known u -/
def Rd (H : Hp) (a : Addr) (u : HO) : Prop := H a = some u ∨ ∃ o, H a = some (.frz o u)
theorem Rd.of {H : Hp} {a : Addr} {u : HO} (h : H a = some u) : Rd H a u := .inl h
theorem Rd.ok {P : Program} {w : World} {H : Hp} {h : Heap} {a : Addr} {u : HO} (r : Rd H a u) (x : HOk P w H h) : ObjOk P w H h a u := by
  rcases r with r | ⟨o, r⟩
  · exact x a u r
  · obtain ⟨_, q⟩ := x a _ r
    exact q
/-- what may be written -/
def Mut : Option HO → Prop
  | some (.lst _) => True
  | some (.dK _) => True
  | some (.dT _) => True
  | some (.set _ _) => True
  | some (.ins _ _ _) => True
  | some (.ext _) => True
  | _ => False
section
variable {P : Program} {w : World} {H : Hp} {h h' : Heap} {x e : Addr} {o' : HO}
/-- the object at e is changed: x itself, or the dict of the instance x -/
theorem HOk.write (ok : HOk P w H h) (mu : Mut (H x)) (he : e = x ∨ H e = some (.own x)) (k : ∀ b u, b ≠ e → h.get? b = some u → h'.get? b = some u) (heo : ∃ u, h'.get? e = some u)
    (new : ObjOk P w (upd H x o') h' x o') : HOk P w (upd H x o') h' := fun b u q => by
  have nown : ∀ c y, H c = some (.own y) → c ≠ x := fun c y r z => by subst z; rw [r] at mu; exact mu
  have ntup : ∀ c xs, H c = some (.tup xs) → c ≠ x := fun c xs r z => by subst z; rw [r] at mu; exact mu
  by_cases hb : b = x
  · subst hb; rw [upd_same] at q; cases q; exact new
  · rw [upd_ne hb] at q
    by_cases hbe : b = e
    · have q' : H b = some (.own x) := by
        rcases he with z | z
        · exact absurd (hbe.trans z) hb
        · rw [hbe]; exact z
      rw [q] at q'; cases q'
      obtain ⟨v, hv⟩ := heo
      exact ⟨v, by rw [hbe]; exact hv⟩
    · refine (ok b u q).stay (fun c v hc r => k c v ?_ r) (fun c r => by rw [upd_ne (nown c b r)]; exact r) fun c xs r => by rw [upd_ne (ntup c xs r)]; exact r
      rcases hc with rfl | hc
      · exact hbe
      · rintro rfl
        rcases he with z | z
        · exact nown c b hc z
        · rw [hc] at z; cases z; exact hb rfl
end

structure Un (fs ex : List Addr) (H H' : Hp) (h h' : Heap) : Prop where
  keep : ∀ b o, h.get? b = some o → H b = none → b ∉ fs → b ∉ ex → h'.get? b = some o
  slot : ∀ b o, h.get? b = some o → H b = none → b ∈ fs → b ∉ ex → ∃ sl, h'.get? b = some { o with slots := sl }
  free : ∀ b o, h.get? b = some o → H b = none → b ∉ ex → H' b = none
  there : ∀ b o, h.get? b = some o → b ∉ ex → ∃ o', h'.get? b = some o'
  tups : ∀ b xs, H b = some (.tup xs) → H' b = some (.tup xs)
  frzs : ∀ b o u, H b = some (.frz o u) → H' b = some (.frz o u)
  tbls : ∀ b ps, H b = some (.tbl ps) → ∃ more, H' b = some (.tbl (ps ++ more))
section
variable {fs fs' ex ex' : List Addr} {H H1 H2 : Hp} {h h1 h2 h' : Heap} {a x e : Addr} {o : HO}
theorem Un.any (u : Un fs ex H H1 h h1) {b : Addr} {ob : Obj} (q : h.get? b = some ob) (n : H b = none) (hx : b ∉ ex) : ∃ sl, h1.get? b = some { ob with slots := sl } := by
  by_cases hb : b ∈ fs
  · exact u.slot b ob q n hb hx
  · exact ⟨ob.slots, u.keep b ob q n hb hx⟩
theorem Un.trans (a : Un fs ex H H1 h h1) (b : Un fs ex H1 H2 h1 h2) : Un fs ex H H2 h h2 where
  keep := fun c ob q n hc hx => b.keep c ob (a.keep c ob q n hc hx) (a.free c ob q n hx) hc hx
  slot := fun c ob q n hc hx => by
    obtain ⟨sl, e1⟩ := a.slot c ob q n hc hx
    obtain ⟨sl', e2⟩ := b.slot c _ e1 (a.free c ob q n hx) hc hx
    exact ⟨sl', e2⟩
  free := fun c ob q n hx => by
    obtain ⟨o', e1⟩ := a.there c ob q hx
    exact b.free c o' e1 (a.free c ob q n hx) hx
  there := fun c ob q hx => by
    obtain ⟨o', e1⟩ := a.there c ob q hx
    exact b.there c o' e1 hx
  tups := fun c xs q => b.tups c xs (a.tups c xs q)
  frzs := fun c ob xs q => b.frzs c ob xs (a.frzs c ob xs q)
  tbls := fun c ps q => by
    obtain ⟨m1, e1⟩ := a.tbls c ps q
    obtain ⟨m2, e2⟩ := b.tbls c _ e1
    exact ⟨m1 ++ m2, by rw [e2, Array.append_assoc]⟩
theorem Un.kept (k : ∀ b u, h.get? b = some u → h'.get? b = some u) : Un fs ex H H h h' :=
  ⟨fun b ob q _ _ _ => k b ob q, fun b ob q _ _ _ => ⟨ob.slots, k b ob q⟩, fun _ _ _ n _ => n, fun b ob q _ => ⟨ob, k b ob q⟩, fun _ _ q => q, fun _ _ _ q => q, fun _ ps q => ⟨#[], by rw [q]; simp⟩⟩
theorem Un.refl : Un fs ex H H h h := Un.kept fun _ _ q => q
theorem Un.laid (k : ∀ b u, h.get? b = some u → h'.get? b = some u) (hp : h.objs.size ≤ a) (hn : H a = none) : Un fs ex H (upd H a o) h h' where
  keep := fun b u q _ _ _ => k b u q
  slot := fun b u q _ _ _ => ⟨u.slots, k b u q⟩
  free := fun b u q n _ => by rw [upd_ne (Nat.ne_of_lt (Nat.lt_of_lt_of_le (Heap.lt_size q) hp))]; exact n
  there := fun b u q _ => ⟨u, k b u q⟩
  tups := fun b xs q => by rw [upd_ne (ne_of_none q hn)]; exact q
  frzs := fun b u xs q => by rw [upd_ne (ne_of_none q hn)]; exact q
  tbls := fun b ps q => ⟨#[], by rw [upd_ne (ne_of_none q hn), q]; simp⟩
theorem Un.write (mu : Mut (H x)) (he : e = x ∨ H e = some (.own x)) (k : ∀ b u, b ≠ e → h.get? b = some u → h'.get? b = some u) (heo : ∃ u, h'.get? e = some u) : Un fs ex H (upd H x o) h h' := by
  have hx : ∀ b, H b = none → b ≠ x := fun b n z => by subst z; rw [n] at mu; exact mu
  have hb : ∀ b, H b = none → b ≠ e := fun b n z => by
    subst z
    rcases he with r | r
    · exact hx b n r
    · rw [n] at r; cases r
  have hm : ∀ b u, H b = some u → ¬ Mut (some u) → b ≠ x := fun b u q nm z => by subst z; rw [q] at mu; exact nm mu
  refine ⟨fun b u q n _ _ => k b u (hb b n) q, fun b u q n _ _ => ⟨u.slots, k b u (hb b n) q⟩, fun b u q n _ => by rw [upd_ne (hx b n)]; exact n, fun b u q _ => ?_,
    fun b xs q => by rw [upd_ne (hm b _ q fun z => z)]; exact q, fun b u xs q => by rw [upd_ne (hm b _ q fun z => z)]; exact q, fun b ps q => ⟨#[], by rw [upd_ne (hm b _ q fun z => z), q]; simp⟩⟩
  by_cases hbe : b = e
  · subst hbe; exact heo
  · exact ⟨u, k b u hbe q⟩
theorem Un.mono (u : Un fs ex H H1 h h1) (hs : ∀ b ∈ fs, b ∈ fs') (hx : ∀ b ∈ ex, b ∈ ex') : Un fs' ex' H H1 h h1 :=
  ⟨fun b ob q n hb he => u.keep b ob q n (fun z => hb (hs b z)) fun z => he (hx b z), fun _ _ q n _ he => u.any q n fun z => he (hx _ z), fun b ob q n he => u.free b ob q n fun z => he (hx b z), fun b ob q he => u.there b ob q fun z => he (hx b z), u.tups, u.frzs, u.tbls⟩
end

def trk (h : Heap) (H : Hp) : List Addr := (List.range h.objs.size).filter fun a => (H a).isSome
def hidT (h : Heap) (H : Hp) : Heap := PySem.W.hideAll h (trk h H)
theorem hidT_size (h : Heap) (H : Hp) : (hidT h H).objs.size = h.objs.size := PySem.W.hideAll_size _ _
theorem hidT_get {h : Heap} {H : Hp} {b : Addr} {o : Obj} (e : h.get? b = some o) (n : H b = none) : (hidT h H).get? b = some o :=
  PySem.W.hideAll_get _ e fun hm => by
    have q : (H b).isSome = true := (List.mem_filter.mp hm).2
    rw [n] at q; simp at q
theorem of_hidT {h : Heap} {H : Hp} {b : Addr} {o : Obj} (e : (hidT h H).get? b = some o) : h.get? b = some o ∧ H b = none := by
  have e' : h.get? b = some o := PySem.W.of_hideAll (trk h H) e
  refine ⟨e', ?_⟩
  cases q : H b with
  | none => rfl
  | some x =>
    have hm : b ∈ trk h H := List.mem_filter.mpr ⟨List.mem_range.mpr (Heap.lt_size e'), by simp [q]⟩
    have z : (hidT h H).get? b = none := PySem.W.hideAll_none (trk h H) hm
    rw [z] at e; cases e

def allNews (g h : Heap) (L : Addr) : List (Addr × Obj) := (List.range h.objs.size).filterMap fun a => if a = L ∨ (g.get? a).isSome = true then none else (h.get? a).map fun o => (a, o)
def rest (g h : Heap) (L d : Addr) : List (Addr × Obj) := (allNews g h L).filter fun p => decide (p.1 ≠ d)
end L2

namespace L2
open PySem PySem.Spec PyProof.Rows

/-- the module's facts, over the base: the heap at the law's entry without what is tracked there -/
structure Mod (K : PySem.W.Frag) (mg : Str → Option Value) (base : Heap) : Prop where
  kin : K.In base
  glob : base.Ns mainGlobals mg
  blt : ∃ mb, base.Ns builtinsNs mb ∧ ∀ x : Str, x ≠ "__name__" → mb x = bootBuiltins x
  nolimit : base.NoLimit

/-- the context: a def's body (or a comprehension's block) running. base: fixed through the whole law; s₀, H₀: the entry; outer: the frames whose slots others may change (a def's callers); stack: all frames that run;
   ex: iterators that were made ahead of the entry and are walked here (a comprehension's); fn: the names whose cells were made at the entry (a def: all; a comprehension's block: its own); calm: not within an except suite; pn: pins that every state bears; xe: what is wanted of an exception that leaves the code -/
structure Cx where
  prog : Program
  w : World
  K : PySem.W.Frag
  mg : Str → Option Value
  base : Heap
  A : Around
  N : List Str
  s₀ : Shared
  H₀ : Hp
  env : Env
  outer : List Env
  stack : List Env
  ex : List Addr
  fn : Str → Bool
  calm : Bool
  pn : List (Addr × Obj)
  xe : Value → Shared → Prop
/-- the callers' frames -/
def frs (l : List Env) : List Addr := l.filterMap (·.frame)
abbrev Cx.fs (X : Cx) : List Addr := frs X.outer

def Vis (sc : Scope) (x : Str) : Prop := sc.names.lookup x = some .local ∨ sc.names.lookup x = some .cell ∨ sc.names.lookup x = some .free
def Loc (sc : Scope) (x : Str) : Prop := sc.names.lookup x = some .local ∨ sc.names.lookup x = some .cell
def Look (env : Env) (h : Heap) (m : Str → Option Value) (x : Str) (u : Value) : Prop :=
  (env.kindOf x = some .local ∧ m x = some u) ∨ ((env.kindOf x = some .cell ∨ env.kindOf x = some .free) ∧ ∃ c, env.cells.lookup x = some c ∧ h.IsCell c (some u))

structure Cx.Ok (X : Cx) : Prop where
  mod : Mod X.K X.mg X.base
  kind : X.env.scope.kind = .function
  glob : X.env.globals = mainGlobals
  blt : X.env.builtins = builtinsNs
  above : X.s₀.heap.objs.size ≤ X.env.locals
  inj : ∀ x y c, X.env.cells.lookup x = some c → X.env.cells.lookup y = some c → x = y
  has : ∀ x, (X.env.kindOf x = some .cell ∨ X.env.kindOf x = some .free) → ∃ c, X.env.cells.lookup x = some c
  cab : ∀ x c, X.fn x = true → X.env.cells.lookup x = some c → X.s₀.heap.objs.size ≤ c
  hd : X.calm = true → X.A.handled = none
  frames : X.A.frames = some X.stack
  stk : X.stack = X.outer ∨ (X.stack = X.env :: X.outer ∧ X.env.frame = some X.env.locals)
  exf : ∀ b ∈ X.ex, b ≠ X.env.locals ∧ ∀ x c, X.env.cells.lookup x = some c → c ≠ b
  bs : ∀ b o, X.base.get? b = some o → X.s₀.heap.get? b = some o ∧ X.H₀ b = none
  bsz : X.base.objs.size ≤ X.s₀.heap.objs.size
  noex : ∀ b o, X.base.get? b = some o → b ∉ X.ex
  exfs : ∀ b ∈ X.ex, b ∉ X.fs
  funs : X.s₀.heap.FunFrames X.base X.outer
  frf : ∀ b ∈ X.fs, X.H₀ b = none

structure Inv (X : Cx) (pins : List (Addr × Obj)) (σ : List (Option V)) (H : Hp) (s : Shared) : Prop where
  ok : X.Ok
  os : s.os = X.s₀.os
  bare : AllBare s.gens
  base : Un X.fs X.ex X.H₀ H X.s₀.heap s.heap
  loc : ∃ m, s.heap.Ns X.env.locals m ∧ ∀ (i : Nat) (x : Str) (v : V), X.N[i]? = some x → σ[i]? = some (some v) → Vis X.env.scope x → ∃ u, RelV v u ∧ Look X.env s.heap m x u
  cell : ∀ x c, X.env.cells.lookup x = some c → ∃ v, s.heap.IsCell c v
  free : H X.env.locals = none
  freeC : ∀ x c, X.env.cells.lookup x = some c → H c = none
  pin : ∀ p ∈ X.pn ++ pins, s.heap.get? p.1 = some p.2 ∧ H p.1 = none ∧ p.1 ≠ X.env.locals ∧ p.1 ∉ X.fs ∧ ∀ v, p.2.data ≠ .cell v
  hok : HOk X.prog X.w H s.heap
  len : σ.length = X.N.length

section
variable {X : Cx} {pins : List (Addr × Obj)} {σ : List (Option V)} {H H' : Hp} {s : Shared} {h' : Heap}

theorem Cx.Ok.nofr (ok : X.Ok) {b : Addr} {o : Obj} (e : X.base.get? b = some o) : b ∉ X.fs := fun hb => by
  have := (ok.funs.mem hb).1
  rw [e] at this; cases this
theorem Inv.bs (I : Inv X pins σ H s) : ∀ b o, X.base.get? b = some o → s.heap.get? b = some o ∧ H b = none := fun b o e =>
  ⟨I.base.keep b o (I.ok.bs b o e).1 (I.ok.bs b o e).2 (I.ok.nofr e) (I.ok.noex b o e), I.base.free b o (I.ok.bs b o e).1 (I.ok.bs b o e).2 (I.ok.noex b o e)⟩
theorem Inv.bk (I : Inv X pins σ H s) : ∀ b o, X.base.get? b = some o → s.heap.get? b = some o := fun b o e => (I.bs b o e).1
theorem Inv.mod (I : Inv X pins σ H s) : Mod X.K X.mg X.base := I.ok.mod
theorem Inv.kIn (I : Inv X pins σ H s) : X.K.In s.heap := I.ok.mod.kin.keeps I.bk
theorem Inv.nolimit (I : Inv X pins σ H s) : s.heap.NoLimit := I.ok.mod.nolimit.keeps I.bk
theorem Inv.lt (I : Inv X pins σ H s) : X.env.locals < s.heap.objs.size := let ⟨_, hn, _⟩ := I.loc; hn.lt
theorem Inv.sz (I : Inv X pins σ H s) : X.s₀.heap.objs.size ≤ s.heap.objs.size := Nat.le_trans I.ok.above (Nat.le_of_lt I.lt)
theorem Inv.nofs (I : Inv X pins σ H s) {a : Addr} (h : s.heap.objs.size ≤ a) : a ∉ X.fs := fun hb => by
  obtain ⟨_, o, ho, _⟩ := I.ok.funs.mem hb
  exact absurd (Nat.lt_of_lt_of_le (Heap.lt_size ho) (Nat.le_trans I.sz h)) (Nat.lt_irrefl _)
theorem Inv.cne (I : Inv X pins σ H s) : ∀ x c, X.env.cells.lookup x = some c → c ≠ X.env.locals := fun x c e z => by
  obtain ⟨v, o, ho, hd⟩ := I.cell x c e
  obtain ⟨m, ⟨o', es, ep, ho', hd', _⟩, _⟩ := I.loc
  rw [z, ho'] at ho; cases ho; rw [hd'] at hd; cases hd
theorem Inv.funs (I : Inv X pins σ H s) : s.heap.FunFrames X.base X.outer := by
  have all : ∀ (l : List Env), (∀ b ∈ frs l, b ∈ X.fs) → X.s₀.heap.FunFrames X.base l → s.heap.FunFrames X.base l := by
    intro l
    induction l with
    | nil => intro _ _; trivial
    | cons env r ih =>
      intro hs hl
      obtain ⟨hk, ⟨L, o, hf, hn, ho, hd⟩, hr⟩ := hl
      have hL : L ∈ X.fs := hs L (by unfold frs; rw [List.filterMap_cons, hf]; exact List.mem_cons_self)
      obtain ⟨sl, e⟩ := I.base.slot L o ho (I.ok.frf L hL) hL fun z => I.ok.exfs L z hL
      exact ⟨hk, ⟨L, _, hf, hn, e, hd⟩, ih (fun b hb => hs b (by unfold frs; rw [List.filterMap_cons, hf]; exact List.mem_cons_of_mem _ hb)) hr⟩
  exact all X.outer (fun _ hb => hb) I.ok.funs

/-- the frames that run, for a call -/
theorem Inv.stack (I : Inv X pins σ H s) : s.heap.FunFrames X.base X.stack := by
  rcases I.ok.stk with e | ⟨e, hf⟩
  · rw [e]; exact I.funs
  · rw [e]
    obtain ⟨m, hn, _⟩ := I.loc
    refine .cons (by rw [I.ok.kind]; decide) hf hn ?_ I.funs
    exact Heap.get?_none_of_le (Nat.le_trans I.ok.bsz I.ok.above)
theorem Inv.stkSub (I : Inv X pins σ H s) : ∀ b ∈ frs X.stack, b ∈ X.env.locals :: X.fs := fun b hb => by
  rcases I.ok.stk with e | ⟨e, hf⟩
  · rw [e] at hb; exact List.mem_cons_of_mem _ hb
  · rw [e] at hb
    unfold frs at hb
    rw [List.filterMap_cons, hf] at hb
    exact hb
theorem Inv.stkFree (I : Inv X pins σ H s) : ∀ b ∈ frs X.stack, H b = none := fun b hb => by
  rcases List.mem_cons.mp (I.stkSub b hb) with e | hb
  · rw [e]; exact I.free
  · obtain ⟨_, o, ho, _⟩ := I.ok.funs.mem hb
    exact I.base.free b o ho (I.ok.frf b hb) fun z => I.ok.exfs b z hb

/-- THE STEP: the untracked objects but the frame and the records at ch are kept (the callers' frames up to slots), the frame's map is kept, the new abstract heap is held -/
theorem Inv.step {g' : Array GenState} {t' : Nat} {d' : Drawn} {ch : List Addr} (I : Inv X pins σ H s)
    (hch : ∀ b ∈ ch, (b ∈ X.ex ∨ X.s₀.heap.objs.size ≤ b) ∧ b ≠ X.env.locals ∧ (∀ x c, X.env.cells.lookup x = some c → c ≠ b) ∧ ∀ p ∈ X.pn ++ pins, p.1 ≠ b)
    (keep : ∀ b o, b ≠ X.env.locals → b ∉ X.fs → b ∉ ch → s.heap.get? b = some o → H b = none → h'.get? b = some o)
    (slot : ∀ b o, b ≠ X.env.locals → b ∈ X.fs → b ∉ ch → s.heap.get? b = some o → H b = none → ∃ sl, h'.get? b = some { o with slots := sl }) (free : ∀ b o, b ∉ ch → s.heap.get? b = some o → H b = none → H' b = none)
    (there : ∀ b o, b ∉ ch → s.heap.get? b = some o → ∃ o', h'.get? b = some o')
    (tups : ∀ b xs, H b = some (.tup xs) → H' b = some (.tup xs)) (frzs : ∀ b o u, H b = some (.frz o u) → H' b = some (.frz o u)) (tbls : ∀ b ps, H b = some (.tbl ps) → ∃ more, H' b = some (.tbl (ps ++ more)))
    (ns : ∀ m, s.heap.Ns X.env.locals m → h'.Ns X.env.locals m) (hok : HOk X.prog X.w H' h') (hg : AllBare g') :
    Inv X pins σ H' { s with heap := h', gens := g', drawn := d', toks := t' } := by
  have neL : ∀ b o, X.s₀.heap.get? b = some o → b ≠ X.env.locals := fun b o e => Nat.ne_of_lt (Nat.lt_of_lt_of_le (Heap.lt_size e) I.ok.above)
  have neC : ∀ b o, X.s₀.heap.get? b = some o → b ∉ X.ex → b ∉ ch := fun b o e hx hb => by
    rcases (hch b hb).1 with z | z
    · exact hx z
    · exact absurd (Nat.lt_of_lt_of_le (Heap.lt_size e) z) (Nat.lt_irrefl _)
  have cellK : ∀ x c, X.env.cells.lookup x = some c → ∀ v, s.heap.IsCell c v → h'.IsCell c v := fun x c e v ⟨o, ho, hd⟩ => by
    have nch : c ∉ ch := fun z => (hch c z).2.2.1 x c e rfl
    by_cases hc : c ∈ X.fs
    · obtain ⟨sl, q⟩ := slot c o (I.cne x c e) hc nch ho (I.freeC x c e)
      exact ⟨_, q, hd⟩
    · exact ⟨o, keep c o (I.cne x c e) hc nch ho (I.freeC x c e), hd⟩
  refine ⟨I.ok, I.os, hg, ⟨fun b o e n hb hx => ?_, fun b o e n hb hx => ?_, fun b o e n hx => ?_, fun b o e hx => ?_, fun b xs e => tups b xs (I.base.tups b xs e), fun b o xs e => frzs b o xs (I.base.frzs b o xs e), fun b ps e => ?_⟩, ?_, fun x c e => ?_, ?_, fun x c e => ?_, fun p hp => ?_, hok, I.len⟩
  · exact keep b o (neL b o e) hb (neC b o e hx) (I.base.keep b o e n hb hx) (I.base.free b o e n hx)
  · obtain ⟨sl, e1⟩ := I.base.slot b o e n hb hx
    obtain ⟨sl', e2⟩ := slot b _ (neL b o e) hb (neC b o e hx) e1 (I.base.free b o e n hx)
    exact ⟨sl', e2⟩
  · obtain ⟨o', e1⟩ := I.base.there b o e hx
    exact free b o' (neC b o e hx) e1 (I.base.free b o e n hx)
  · obtain ⟨o', e1⟩ := I.base.there b o e hx
    exact there b o' (neC b o e hx) e1
  · obtain ⟨m1, e1⟩ := I.base.tbls b ps e
    obtain ⟨m2, e2⟩ := tbls b _ e1
    exact ⟨m1 ++ m2, by rw [e2, Array.append_assoc]⟩
  · obtain ⟨m, hn, hl⟩ := I.loc
    refine ⟨m, ns m hn, fun i x v e1 e2 e3 => ?_⟩
    obtain ⟨u, r, l⟩ := hl i x v e1 e2 e3
    refine ⟨u, r, ?_⟩
    rcases l with l | ⟨k, c, e, z⟩
    · exact .inl l
    · exact .inr ⟨k, c, e, cellK x c e _ z⟩
  · obtain ⟨v, z⟩ := I.cell x c e
    exact ⟨v, cellK x c e v z⟩
  · obtain ⟨m, ⟨o, _, _, ho, _⟩, _⟩ := I.loc
    exact free _ o (fun z => (hch _ z).2.1 rfl) ho I.free
  · obtain ⟨v, o, ho, hd⟩ := I.cell x c e
    exact free c o (fun z => (hch c z).2.2.1 x c e rfl) ho (I.freeC x c e)
  · obtain ⟨e, n, ne, nf, d⟩ := I.pin p hp
    have nch : p.1 ∉ ch := fun z => (hch p.1 z).2.2.2 p hp rfl
    exact ⟨keep p.1 p.2 ne nf nch e n, free p.1 p.2 nch e n, ne, nf, d⟩
/-- .. where the frame's own object is kept too -/
theorem Inv.un {t' : Nat} (I : Inv X pins σ H s) (u : Un X.fs [] H H' s.heap h') (hok : HOk X.prog X.w H' h') : Inv X pins σ H' { s with heap := h', toks := t' } := by
  obtain ⟨m, ⟨o, es, ep, ho, r⟩, _⟩ := id I.loc
  obtain ⟨sl, hL⟩ := u.any ho I.free (by simp)
  exact I.step (g' := s.gens) (d' := s.drawn) (ch := []) (fun _ z => nomatch z) (fun b o _ hb _ e n => u.keep b o e n hb (by simp)) (fun b o _ hb _ e n => u.slot b o e n hb (by simp)) (fun b o _ e n => u.free b o e n (by simp)) (fun b o _ e => u.there b o e (by simp)) u.tups u.frzs u.tbls (fun m' hm => by
    obtain ⟨o', es', ep', ho', r'⟩ := hm
    rw [ho] at ho'; cases ho'
    exact ⟨_, es', ep', hL, r'⟩) hok I.bare
/-- behind a call (or a comprehension's block): the slots of this frame may have changed too, the records at ch may have turned -/
theorem Inv.call {g' : Array GenState} {t' : Nat} {d' : Drawn} {ch : List Addr} (I : Inv X pins σ H s) (u : Un (frs X.stack) ch H H' s.heap h') (hok : HOk X.prog X.w H' h') (hg : AllBare g')
    (hch : ∀ b ∈ ch, (b ∈ X.ex ∨ X.s₀.heap.objs.size ≤ b) ∧ b ≠ X.env.locals ∧ (∀ x c, X.env.cells.lookup x = some c → c ≠ b) ∧ ∀ p ∈ X.pn ++ pins, p.1 ≠ b) :
    Inv X pins σ H' { s with heap := h', gens := g', drawn := d', toks := t' } := by
  obtain ⟨m, ⟨o, es, ep, ho, r⟩, _⟩ := id I.loc
  obtain ⟨sl, hL⟩ := u.any ho I.free fun z => (hch _ z).2.1 rfl
  exact I.step (ch := ch) hch (fun b o hL hb hc e n => u.keep b o e n (fun z => (List.mem_cons.mp (I.stkSub b z)).elim hL hb) hc) (fun b o _ _ hc e n => u.any e n hc) (fun b o hc e n => u.free b o e n hc) (fun b o hc e => u.there b o e hc) u.tups u.frzs u.tbls (fun m' hm => by
    obtain ⟨o', es', ep', ho', r'⟩ := hm
    rw [ho] at ho'; cases ho'
    exact ⟨_, es', ep', hL, r'⟩) hok hg
/-- an untracked record of ours (an iterator) has turned -/
theorem Inv.turned {t' : Nat} {it : Addr} (I : Inv X pins σ H s) (k : ∀ b o, b ≠ it → s.heap.get? b = some o → h'.get? b = some o) (hn : H it = none) (hL : it ≠ X.env.locals)
    (h1 : it ∈ X.ex ∨ X.s₀.heap.objs.size ≤ it) (h2 : ∀ x c, X.env.cells.lookup x = some c → c ≠ it) (h3 : ∀ p ∈ X.pn ++ pins, p.1 ≠ it) : Inv X pins σ H { s with heap := h', toks := t' } := by
  have nit : ∀ b u, H b = some u → b ≠ it := fun b u e z => by rw [z, hn] at e; cases e
  refine I.step (g' := s.gens) (d' := s.drawn) (ch := [it]) (fun b hb => ?_) (fun b o _ _ hc e _ => k b o (fun z => hc (by simp [z])) e) (fun b o _ _ hc e _ => ⟨o.slots, k b o (fun z => hc (by simp [z])) e⟩) (fun _ _ _ _ n => n)
    (fun b o hc e => ⟨o, k b o (fun z => hc (by simp [z])) e⟩) (fun _ _ e => e) (fun _ _ _ e => e) (fun b ps e => ⟨#[], by rw [e]; simp⟩) (fun m hm => ?_) (fun b u e => ?_) I.bare
  · have e : b = it := by simpa using hb
    subst e
    exact ⟨h1, hL, h2, h3⟩
  · obtain ⟨o, es, ep, ho, r⟩ := hm
    exact ⟨o, es, ep, k _ o (Ne.symm hL) ho, r⟩
  · refine (I.hok b u e).stay (fun c v hc q => k c v ?_ q) (fun _ q => q) fun _ _ q => q
    rcases hc with z | z
    · rw [z]; exact nit b u e
    · exact nit c _ z
theorem Inv.tok (I : Inv X pins σ H s) (t : Nat) : Inv X pins σ H { s with toks := t } := I.un (h' := s.heap) (t' := t) Un.refl I.hok
/-- all objects kept -/
theorem Inv.kept {t' : Nat} (I : Inv X pins σ H s) (k : ∀ b u, s.heap.get? b = some u → h'.get? b = some u) : Inv X pins σ H { s with heap := h', toks := t' } := I.un (Un.kept k) (I.hok.kept k)
/-- a new object laid and tracked -/
theorem Inv.laid {a : Addr} {o : HO} {t' : Nat} (I : Inv X pins σ H s) (k : ∀ b u, s.heap.get? b = some u → h'.get? b = some u) (hp : s.heap.objs.size ≤ a) (new : ObjOk X.prog X.w (upd H a o) h' a o) :
    Inv X pins σ (upd H a o) { s with heap := h', toks := t' } := I.un (Un.laid k hp (I.hok.fresh hp)) (I.hok.laid k hp new)
/-- an object written -/
theorem Inv.write {x e : Addr} {o : HO} {t' : Nat} (I : Inv X pins σ H s) (mu : Mut (H x)) (he : e = x ∨ H e = some (.own x)) (k : ∀ b u, b ≠ e → s.heap.get? b = some u → h'.get? b = some u) (heo : ∃ u, h'.get? e = some u)
    (new : ObjOk X.prog X.w (upd H x o) h' x o) : Inv X pins σ (upd H x o) { s with heap := h', toks := t' } := I.un (Un.write mu he k heo) (I.hok.write mu he k heo new)
/-- forgetting slots, pins -/
theorem Inv.weak {σ' : List (Option V)} (I : Inv X pins σ H s) (hl : σ'.length = σ.length) (w : ∀ (i : Nat) v, σ'[i]? = some (some v) → σ[i]? = some (some v)) : Inv X pins σ' H s :=
  ⟨I.ok, I.os, I.bare, I.base, let ⟨m, hn, hl'⟩ := I.loc; ⟨m, hn, fun i x v e1 e2 e3 => hl' i x v e1 (w i v e2) e3⟩, I.cell, I.free, I.freeC, I.pin, I.hok, hl.trans I.len⟩
theorem Inv.pins_of {pins' : List (Addr × Obj)} (I : Inv X pins σ H s) (h : ∀ p ∈ pins', s.heap.get? p.1 = some p.2 ∧ H p.1 = none ∧ p.1 ≠ X.env.locals ∧ p.1 ∉ X.fs ∧ ∀ v, p.2.data ≠ .cell v) : Inv X pins' σ H s :=
  ⟨I.ok, I.os, I.bare, I.base, I.loc, I.cell, I.free, I.freeC, fun p hp => (List.mem_append.mp hp).elim (fun z => I.pin p (List.mem_append_left _ z)) (h p), I.hok, I.len⟩

theorem nodup_ix {N : List Str} (hN : N.Nodup) {i j : Nat} {x : Str} (a : N[i]? = some x) (b : N[j]? = some x) : i = j := by
  obtain ⟨h1, e1⟩ := List.getElem?_eq_some_iff.mp a
  obtain ⟨h2, e2⟩ := List.getElem?_eq_some_iff.mp b
  exact (List.getElem_inj hN).mp (e1.trans e2.symm)

/-- a name is stored; what changed -/
theorem store_ok2 {M : Model} {A : Around} {E : Value → Shared → Prop} {i : Nat} {x : Str} {v : V} {u : Value} {Q : Unit → Shared → Prop} (I : Inv X pins σ H s) (hN : X.N.Nodup) (hi : X.N[i]? = some x) (hx : Loc X.env.scope x) (r : RelV v u)
    (h : ∀ s', Inv X pins (σ.set i (some v)) H s' → (∃ a, Heap.SameBut a s.heap s'.heap ∧ (a = X.env.locals ∨ X.env.cells.lookup x = some a)) → Q () s') (hf : X.fn x = true ∨ X.env.scope.names.lookup x = some .local := by first | exact .inl rfl | exact .inr rfl | assumption) : wpAny M A (storeName X.env x u) Q E s := by
  obtain ⟨m, hn, hl⟩ := id I.loc
  have hcls : (X.env.scope.kind == .class || (X.env.scope.kind == .module && X.env.locals != X.env.globals)) = false := by rw [I.ok.kind]; rfl
  have hiσ : i < σ.length := by rw [I.len]; exact (List.getElem?_eq_some_iff.mp hi).1
  have cne := I.cne
  have tracked : ∀ {a : Addr} {h' : Heap}, (∃ o, s.heap.get? a = some o ∧ H a = none) → Heap.SameBut a s.heap h' → HOk X.prog X.w H h' := fun {a h'} ha hs b ob e => by
    obtain ⟨_, _, hfree⟩ := ha
    refine (I.hok b ob e).stay (fun c w' hc q => (hs.2 c ?_).trans q) (fun _ q => q) fun _ _ q => q
    rintro rfl
    rcases hc with rfl | hc
    · rw [hfree] at e; cases e
    · rw [hfree] at hc; cases hc
  rcases hx with hk | hk
  · refine wpAny_storeName_local hk hn (fun h' hn' hs => ?_) hcls
    obtain ⟨oL, _, _, hoL, _⟩ := id hn
    refine h _ ⟨I.ok, I.os, I.bare, ⟨fun b o e n hb hx => ?_, fun b o e n hb hx => ?_, I.base.free, fun b o e hx => ?_, I.base.tups, I.base.frzs, I.base.tbls⟩, ⟨_, hn', fun j y v' e1 e2 e3 => ?_⟩, fun y c e => ?_, I.free, I.freeC, fun p hp => ?_, tracked ⟨oL, hoL, I.free⟩ hs, by simpa using I.len⟩ ⟨_, hs, .inl rfl⟩
    · exact (hs.2 b (Nat.ne_of_lt (Nat.lt_of_lt_of_le (Heap.lt_size e) I.ok.above))).trans (I.base.keep b o e n hb hx)
    · obtain ⟨sl, e1⟩ := I.base.slot b o e n hb hx
      exact ⟨sl, (hs.2 b (Nat.ne_of_lt (Nat.lt_of_lt_of_le (Heap.lt_size e) I.ok.above))).trans e1⟩
    · obtain ⟨o', e1⟩ := I.base.there b o e hx
      exact ⟨o', (hs.2 b (Nat.ne_of_lt (Nat.lt_of_lt_of_le (Heap.lt_size e) I.ok.above))).trans e1⟩
    · by_cases hj : j = i
      · subst hj
        rw [hi] at e1; cases e1
        rw [List.getElem?_set_self hiσ] at e2
        cases e2
        exact ⟨u, r, .inl ⟨hk, by simp⟩⟩
      · rw [List.getElem?_set_ne (Ne.symm hj)] at e2
        obtain ⟨u', r', q⟩ := hl j y v' e1 e2 e3
        refine ⟨u', r', ?_⟩
        rcases q with ⟨k, e⟩ | ⟨k, c, e, z⟩
        · refine .inl ⟨k, ?_⟩
          have : y ≠ x := fun e => hj (nodup_ix hN e1 (e ▸ hi))
          simp [this, e]
        · exact .inr ⟨k, c, e, z.sameBut hs (cne y c e)⟩
    · obtain ⟨w', z⟩ := I.cell y c e
      exact ⟨w', z.sameBut hs (cne y c e)⟩
    · obtain ⟨e, n, ne, nf, d⟩ := I.pin p hp
      exact ⟨(hs.2 p.1 ne).trans e, n, ne, nf, d⟩
  · have hfn : X.fn x = true := by
      rcases hf with z | z
      · exact z
      · rw [z] at hk; cases hk
    obtain ⟨c, hc⟩ := I.ok.has x (.inl hk)
    obtain ⟨w', z⟩ := I.cell x c hc
    refine wpAny_storeName_cell I.ok.kind hk hc z (fun h' hc' hs => ?_)
    obtain ⟨oc, hoc, hocd⟩ := id z
    refine h { s with heap := h' } ⟨I.ok, I.os, I.bare, ⟨fun b o e n hb hx => ?_, fun b o e n hb hx => ?_, I.base.free, fun b o e hx => ?_, I.base.tups, I.base.frzs, I.base.tbls⟩, ⟨m, hn.sameBut hs (Ne.symm (cne x c hc)), fun j y v' e1 e2 e3 => ?_⟩, fun y c' e => ?_, I.free, I.freeC, fun p hp => ?_, tracked ⟨oc, hoc, I.freeC x c hc⟩ hs, by simpa using I.len⟩ ⟨c, hs, .inr hc⟩
    · exact (hs.2 b (Nat.ne_of_lt (Nat.lt_of_lt_of_le (Heap.lt_size e) (I.ok.cab x c hfn hc)))).trans (I.base.keep b o e n hb hx)
    · obtain ⟨sl, e1⟩ := I.base.slot b o e n hb hx
      exact ⟨sl, (hs.2 b (Nat.ne_of_lt (Nat.lt_of_lt_of_le (Heap.lt_size e) (I.ok.cab x c hfn hc)))).trans e1⟩
    · obtain ⟨o', e1⟩ := I.base.there b o e hx
      exact ⟨o', (hs.2 b (Nat.ne_of_lt (Nat.lt_of_lt_of_le (Heap.lt_size e) (I.ok.cab x c hfn hc)))).trans e1⟩
    · by_cases hj : j = i
      · subst hj
        rw [hi] at e1; cases e1
        rw [List.getElem?_set_self hiσ] at e2
        cases e2
        exact ⟨u, r, .inr ⟨.inl hk, c, hc, hc'⟩⟩
      · rw [List.getElem?_set_ne (Ne.symm hj)] at e2
        obtain ⟨u', r', q⟩ := hl j y v' e1 e2 e3
        refine ⟨u', r', ?_⟩
        rcases q with q | ⟨k, c', e, z'⟩
        · exact .inl q
        · refine .inr ⟨k, c', e, z'.sameBut hs ?_⟩
          rintro rfl
          exact hj (nodup_ix hN e1 (I.ok.inj _ _ _ e hc ▸ hi))
    · by_cases hcc : c' = c
      · subst hcc; exact ⟨_, hc'⟩
      · obtain ⟨w2, z2⟩ := I.cell y c' e
        exact ⟨w2, z2.sameBut hs hcc⟩
    · obtain ⟨e, n, ne, nf, d⟩ := I.pin p hp
      refine ⟨(hs.2 p.1 ?_).trans e, n, ne, nf, d⟩
      intro q
      rw [q, hoc] at e
      have q' : oc = p.2 := Option.some.inj e
      exact d w' (by rw [← q']; exact hocd)
theorem store_ok {M : Model} {A : Around} {E : Value → Shared → Prop} {i : Nat} {x : Str} {v : V} {u : Value} {Q : Unit → Shared → Prop} (I : Inv X pins σ H s) (hN : X.N.Nodup) (hi : X.N[i]? = some x) (hx : Loc X.env.scope x) (r : RelV v u)
    (h : ∀ s', Inv X pins (σ.set i (some v)) H s' → Q () s') (hf : X.fn x = true ∨ X.env.scope.names.lookup x = some .local := by first | exact .inl rfl | exact .inr rfl | assumption) : wpAny M A (storeName X.env x u) Q E s :=
  store_ok2 I hN hi hx r (fun s' I' _ => h s' I') hf
/-- behind a call or a block, the state as it is -/
theorem Inv.call' {s' : Shared} {ch : List Addr} (I : Inv X pins σ H s) (ho : s'.os = s.os) (u : Un (frs X.stack) ch H H' s.heap s'.heap) (hok : HOk X.prog X.w H' s'.heap) (hg : AllBare s'.gens)
    (hch : ∀ b ∈ ch, (b ∈ X.ex ∨ X.s₀.heap.objs.size ≤ b) ∧ b ≠ X.env.locals ∧ (∀ x c, X.env.cells.lookup x = some c → c ≠ b) ∧ ∀ p ∈ X.pn ++ pins, p.1 ≠ b) : Inv X pins σ H' s' := by
  obtain ⟨h', g', d', t', o'⟩ := s'
  have e : o' = s.os := ho
  subst e
  exact I.call (g' := g') (t' := t') (d' := d') u hok hg hch
end

/-- an exception: its class, its own dict's address (where it has one), the abstract heap behind it -/
abbrev XK := Value → Option Addr → Hp → Prop
abbrev St := List (Option V)
abbrev VK := V → Hp → Prop
/-- an expression's reading; a test's; an argument list's -/
abbrev TE := St → Hp → VK → Prop
abbrev TT := St → Hp → (Bool → Hp → Prop) → Prop
abbrev TA := St → Hp → (List V → Hp → Prop) → Prop
/-- what is wanted behind a statement -/
structure Ends where
  nx : St → Hp → Prop
  rt : VK
  bk : St → Hp → Prop := fun _ _ => False
  ct : St → Hp → Prop := fun _ _ => False
abbrev TS := Ends → St → Hp → Prop

def EP (X : Cx) (pins : List (Addr × Obj)) (σ : St) (Q : VK) (u : Value) (s' : Shared) : Prop := ∃ v H', Inv X pins σ H' s' ∧ RelV v u ∧ Q v H'
def TP (X : Cx) (pins : List (Addr × Obj)) (σ : St) (Q : Bool → Hp → Prop) (b : Bool) (s' : Shared) : Prop := ∃ H', Inv X pins σ H' s' ∧ Q b H'
def AP (X : Cx) (pins : List (Addr × Obj)) (σ : St) (Q : List V → Hp → Prop) (us : List Value) (s' : Shared) : Prop := ∃ vs H', Inv X pins σ H' s' ∧ Vals vs us ∧ Q vs H'
def SP (X : Cx) (pins : List (Addr × Obj)) (D : Ends) (f : Flow) (s' : Shared) : Prop :=
  match f with
  | .next => ∃ σ' H', Inv X pins σ' H' s' ∧ D.nx σ' H'
  | .brk => ∃ σ' H', Inv X pins σ' H' s' ∧ D.bk σ' H'
  | .cont => ∃ σ' H', Inv X pins σ' H' s' ∧ D.ct σ' H'
  | .ret u => ∃ v σ' H', Inv X pins σ' H' s' ∧ RelV v u ∧ D.rt v H'

def PE (X : Cx) (e : Expr) (t : TE) : Prop :=
  ∀ (pins : List (Addr × Obj)) (s : Shared) (σ : St) (H : Hp) (Q : VK), Inv X pins σ H s → t σ H Q → wpAny (model X.prog X.w) X.A (eval e X.env) (EP X pins σ Q) X.xe s
def PT (X : Cx) (e : Expr) (t : TT) : Prop :=
  ∀ (pins : List (Addr × Obj)) (s : Shared) (σ : St) (H : Hp) (Q : Bool → Hp → Prop), Inv X pins σ H s → t σ H Q → wpAny (model X.prog X.w) X.A (isTrue e X.env (eval e X.env)) (TP X pins σ Q) X.xe s
/-- a test whatever its 'whole' is (and, or) -/
def PW (X : Cx) (e : Expr) (t : TT) : Prop :=
  ∀ (whole : Sem Value) (pins : List (Addr × Obj)) (s : Shared) (σ : St) (H : Hp) (Q : Bool → Hp → Prop), Inv X pins σ H s → t σ H Q → wpAny (model X.prog X.w) X.A (isTrue e X.env whole) (TP X pins σ Q) X.xe s
theorem PW.pt {X : Cx} {e : Expr} {t : TT} (h : PW X e t) : PT X e t := h _
/-- an argument list (no star), from the left -/
def PA (X : Cx) (es : List Expr) (t : TA) : Prop :=
  ∀ (pos : Pos) (pins : List (Addr × Obj)) (s : Shared) (σ : St) (H : Hp) (Q : List V → Hp → Prop), Inv X pins σ H s → t σ H Q → wpAny (model X.prog X.w) X.A (spliced (backTo pos (starEach es X.env))) (AP X pins σ Q) X.xe s
def PS (X : Cx) (st : Stmt) (t : TS) : Prop :=
  ∀ (pins : List (Addr × Obj)) (s : Shared) (σ : St) (H : Hp) (D : Ends), Inv X pins σ H s → t D σ H → wpAny (model X.prog X.w) X.A (exec st X.env) (SP X pins D) X.xe s
def PSs (X : Cx) (st : List Stmt) (t : TS) : Prop :=
  ∀ (pins : List (Addr × Obj)) (s : Shared) (σ : St) (H : Hp) (D : Ends), Inv X pins σ H s → t D σ H → wpAny (model X.prog X.w) X.A (execs st X.env) (SP X pins D) X.xe s
/-- weaken the end -/
theorem thn {α : Type} {t : Sem α} {Q Q' : α → Shared → Prop} {M : Model} {A : Around} {E : Value → Shared → Prop} {s : Shared} (h : wpAny M A t Q E s) (hQ : ∀ a s, Q a s → Q' a s) : wpAny M A t Q' E s := wpAny_mono h hQ fun _ _ x => x
end L2

namespace L2
open PySem PySem.Spec PyProof.Rows
section
variable {X : Cx}

/-- two expressions in a row -/
theorem bin {a b : Expr} {ta tb : TE} (ha : PE X a ta) (hb : PE X b tb) {pins : List (Addr × Obj)} {s : Shared} {σ : St} {H : Hp} {R : V → V → Hp → Prop} (I : Inv X pins σ H s) (h : ta σ H fun x H1 => tb σ H1 fun y H2 => R x y H2)
    {α : Type} {Q : α → Shared → Prop} {f : Value → Value → Sem α}
    (hf : ∀ v u s2 x y H2, Inv X pins σ H2 s2 → RelV x v → RelV y u → R x y H2 → wpAny (model X.prog X.w) X.A (f v u) Q X.xe s2) :
    wpAny (model X.prog X.w) X.A (eval a X.env) (fun v s₁ => wpAny (model X.prog X.w) X.A (eval b X.env) (fun u s₂ => wpAny (model X.prog X.w) X.A (f v u) Q X.xe s₂) X.xe s₁) X.xe s := by
  refine thn (ha pins s σ H _ I h) fun v s1 ⟨x, H1, I1, r1, q1⟩ => ?_
  refine thn (hb pins s1 σ H1 _ I1 q1) fun u s2 ⟨y, H2, I2, r2, q2⟩ => ?_
  exact hf v u s2 x y H2 I2 r1 r2 q2

def tVar (i : Nat) : TE := fun σ H Q => ∃ v, σ[i]? = some (some v) ∧ Q v H
def tC (v : V) : TE := fun _ H Q => Q v H
theorem pe_var {i : Nat} {x : Str} {pos : Pos} (hN : X.N[i]? = some x) (hv : Vis X.env.scope x) (hd : (x == ("__debug__" : Str)) = false := by decide) (hcd : (x == ("__classdict__" : Str)) = false := by decide) : PE X (.Name x pos) (tVar i) := by
  intro pins s σ H Q I h
  obtain ⟨v, e, h⟩ := h
  obtain ⟨m, hn, hl⟩ := I.loc
  obtain ⟨u, r, l⟩ := hl i x v hN e hv
  have fin : EP X pins σ Q u s := ⟨v, H, I, r, h⟩
  rcases l with ⟨hk, hm⟩ | ⟨hk, c, hc, hcell⟩
  · exact wpAny_Name (wpAny_loadName_local I.ok.kind hk hn hm fin) hd
  · rcases hk with hk | hk
    · exact wpAny_Name (wpAny_loadName_cell I.ok.kind hk hc hcell fin) hd
    · exact wpAny_Name (wpAny_loadName_free I.ok.kind hk hc hcell fin hcd) hd
theorem pe_int {i j pos} : PE X (.Constant (.int i) j pos) (tC (.int i)) := fun _ _ _ H _ I h => wpAny_Constant_int ⟨.int i, H, I.tok _, ⟨_, rfl⟩, h⟩
theorem pe_bl {b j pos} : PE X (.Constant (.bool b) j pos) (tC (.bl b)) := fun _ _ _ H _ I h => Constant_bool ⟨.bl b, H, I, rfl, h⟩
theorem pe_str {x j pos} : PE X (.Constant (.str x) j pos) (tC (.str x)) := fun _ _ _ H _ I h => Calls.Constant_str ⟨.str x, H, I.tok _, ⟨_, rfl⟩, h⟩

/-- a global name of the def -/
def Gl (X : Cx) (x : Str) : Prop := X.env.kindOf x = some .globalImplicit
theorem ld_glob {E : Value → Shared → Prop} {pins : List (Addr × Obj)} {s : Shared} {σ : St} {H : Hp} {x : Str} {u : Value} {pos : Pos} {Q : Value → Shared → Prop} (I : Inv X pins σ H s) (hg : Gl X x) (hm : X.mg x = some u) (h : Q u s)
    (hd : (x == ("__debug__" : Str)) = false := by decide) : wpAny (model X.prog X.w) X.A (eval (.Name x pos) X.env) Q E s :=
  Calls.Name_function_global I.ok.kind hg (Calls.loadGlobal_global (by rw [I.ok.glob]; exact I.mod.glob.keeps I.bk) hm h) hd
theorem ld_blt {E : Value → Shared → Prop} {pins : List (Addr × Obj)} {s : Shared} {σ : St} {H : Hp} {x : Str} {u : Value} {pos : Pos} {Q : Value → Shared → Prop} (I : Inv X pins σ H s) (hg : Gl X x) (hm : X.mg x = none) (hv : bootBuiltins x = some u) (h : Q u s)
    (hn : x ≠ "__name__" := by decide) (hd : (x == ("__debug__" : Str)) = false := by decide) : wpAny (model X.prog X.w) X.A (eval (.Name x pos) X.env) Q E s := by
  obtain ⟨mb, h1, h2⟩ := I.mod.blt
  exact Calls.Name_function_global I.ok.kind hg (Calls.loadGlobal_builtin (by rw [I.ok.glob]; exact I.mod.glob.keeps I.bk) hm (by rw [I.ok.blt]; exact h1.keeps I.bk) ((h2 x hn).trans hv) h) hd
variable {a b : Expr} {ta tb : TE} {pos : Pos}
variable {tA tB' : TT} {rest : List Expr}
def tOr (t u : TT) : TT := fun σ H Q => t σ H fun c H1 => if c = true then Q true H1 else u σ H1 Q
def tNot (t : TT) : TT := fun σ H Q => t σ H fun c H1 => Q (!c) H1
theorem pw_or1 (ha : PT X a tA) : PW X (.BoolOp .Or [a] pos) tA := by
  intro wh pins s σ H Q I h
  refine isTrue_or (thn (ha pins s σ H Q I h) fun c s1 e => ?_)
  cases c with
  | false => exact isTrue_or_nil e
  | true => exact e
theorem pw_or (ha : PT X a tA) (hb : PW X (.BoolOp .Or (b :: rest) pos) tB') : PW X (.BoolOp .Or (a :: b :: rest) pos) (tOr tA tB') := by
  intro wh pins s σ H Q I h
  refine isTrue_or (thn (ha pins s σ H _ I h) fun c s1 ⟨H1, I1, q1⟩ => ?_)
  cases c with
  | true => exact ⟨H1, I1, q1⟩
  | false => exact hb wh pins s1 σ H1 Q I1 q1
theorem pt_not (ha : PT X a tA) : PT X (.UnaryOp .Not a pos) (tNot tA) := by
  intro pins s σ H Q I h
  exact isTrue_not (ha pins s σ H (fun c H1 => Q (!c) H1) I h)
/-- a if t else b -/
def tIf (t : TT) (ta tb : TE) : TE := fun σ H Q => t σ H fun c H1 => if c = true then ta σ H1 Q else tb σ H1 Q
theorem pe_ifExp {c : Expr} (hc : PT X c tA) (ha : PE X a ta) (hb : PE X b tb) : PE X (.IfExp c a b pos) (tIf tA ta tb) := by
  intro pins s σ H Q I h
  refine wpAny_IfExp (thn (hc pins s σ H _ I h) fun d s1 ⟨H1, I1, q1⟩ => ?_)
  cases d with
  | true => exact ha pins s1 σ H1 Q I1 q1
  | false => exact hb pins s1 σ H1 Q I1 q1
end
end L2

namespace L2
open PySem PySem.Spec PyProof.Rows

def SqL (K : PySem.W.Frag) (H : Hp) (a : Addr) (xs : List V) : Prop :=
  Rd H a (.lst xs) ∨
    ∃ (o : Obj) (its : Array Value) (n : Nat), K.lookup a = some o ∧ o.cls = .type "list" ∧ o.dict = none ∧ o.data = .seq its n ∧ its.size ≤ sizeLine ∧ Vals xs its.toList
def SqT (K : PySem.W.Frag) (H : Hp) (a : Addr) (xs : List V) : Prop :=
  Rd H a (.tup xs) ∨
    ∃ (o : Obj) (its : Array Value) (n : Nat), K.lookup a = some o ∧ o.cls = .type "tuple" ∧ o.data = .seq its n ∧ its.size ≤ sizeLine ∧ Vals xs its.toList ∧ o.dict = none
def absV : Value → Option V
  | .none => some .non
  | .bool b => some (.bl b)
  | .int i _ => some (.int i)
  | .str x _ => some (.str x)
  | .bytes b _ => some (.byt b)
  | .float b _ => some (.flt b)
  | .ref a => some (.ref a)
  | .type n => some (.ty n)
  | _ => none
theorem RelV.abs {x : V} {u : Value} (r : RelV x u) : absV u = some x := by
  cases x with
  | non => cases r; rfl
  | bl _ => cases r; rfl
  | int _ => obtain ⟨t, rfl⟩ := r; rfl
  | str _ => obtain ⟨t, rfl⟩ := r; rfl
  | byt _ => obtain ⟨t, rfl⟩ := r; rfl
  | flt _ => obtain ⟨t, rfl⟩ := r; rfl
  | ref _ => cases r; rfl
  | ty _ => cases r; rfl
theorem RelV.inj {x y : V} {u : Value} (r : RelV x u) (q : RelV y u) : x = y := Option.some.inj (r.abs.symm.trans q.abs)
theorem Vals.inj : ∀ {xs ys : List V} {us : List Value}, Vals xs us → Vals ys us → xs = ys
  | _, _, _, .nil, .nil => rfl
  | _, _, _, .cons r t, .cons r' t' => by rw [r.inj r', Vals.inj t t']
section
variable {X : Cx} {pins : List (Addr × Obj)} {σ : St} {H : Hp} {s : Shared} {a : Addr} {xs ys : List V}
theorem SqL.of {K : PySem.W.Frag} (h : H a = some (.lst xs)) : SqL K H a xs := .inl (.inl h)
theorem SqT.of {K : PySem.W.Frag} (h : H a = some (.tup xs)) : SqT K H a xs := .inl (.inl h)
theorem Inv.list (I : Inv X pins σ H s) (h : SqL X.K H a xs) : ∃ its : List Value, Vals xs its ∧ PlainL s.heap a its.toArray ∧ xs.length ≤ sizeLine := by
  rcases h with h | ⟨o, its, n, hk, hc, hd, hs, hz, r⟩
  · obtain ⟨z, its, n, r, e⟩ := h.ok I.hok
    exact ⟨its, r, ⟨_, n, e, rfl, rfl, rfl⟩, z⟩
  · refine ⟨its.toList, r, ⟨o, n, I.kIn a o hk, hc, hd, by simpa using hs⟩, ?_⟩
    have e := r.length
    simp only [Array.length_toList] at e
    omega
theorem Inv.tuple (I : Inv X pins σ H s) (h : SqT X.K H a xs) : ∃ its : List Value, Vals xs its ∧ IsTup s.heap a its.toArray ∧ xs.length ≤ sizeLine := by
  rcases h with h | ⟨o, its, n, hk, hc, hs, hz, r, _⟩
  · obtain ⟨z, its, r, p⟩ := h.ok I.hok
    exact ⟨its, r, p.tup, z⟩
  · refine ⟨its.toList, r, ⟨o, I.kIn a o hk, hc, n, by simpa using hs⟩, ?_⟩
    have e := r.length
    simp only [Array.length_toList] at e
    omega
theorem Inv.tuple1 (I : Inv X pins σ H s) (h : SqT X.K H a xs) : ∃ o : Obj, s.heap.get? a = some o ∧ o.cls = .type "tuple" ∧ o.dict = none := by
  rcases h with h | ⟨o, its, n, hk, hc, hs, hz, r, hd⟩
  · obtain ⟨z, its, r, o, e, c, _, hd⟩ := h.ok I.hok
    exact ⟨o, e, c, hd⟩
  · exact ⟨o, I.kIn a o hk, hc, hd⟩
theorem Inv.list_inj (I : Inv X pins σ H s) (h : SqL X.K H a xs) (h' : SqL X.K H a ys) : xs = ys := by
  obtain ⟨its, r, ⟨o, n, e, _, _, d⟩, _⟩ := I.list h
  obtain ⟨its', r', ⟨o', n', e', _, _, d'⟩, _⟩ := I.list h'
  rw [e] at e'; cases e'
  rw [d] at d'
  injection d' with d1 _
  have : its = its' := by simpa using congrArg Array.toList d1
  subst this
  exact r.inj r'
theorem Inv.tuple_inj (I : Inv X pins σ H s) (h : SqT X.K H a xs) (h' : SqT X.K H a ys) : xs = ys := by
  obtain ⟨its, r, ⟨o, e, _, n, d⟩, _⟩ := I.tuple h
  obtain ⟨its', r', ⟨o', e', _, n', d'⟩, _⟩ := I.tuple h'
  rw [e] at e'; cases e'
  rw [d] at d'
  injection d' with d1 _
  have : its = its' := by simpa using congrArg Array.toList d1
  subst this
  exact r.inj r'
end

abbrev Cx.wish (X : Cx) (E : Value → Shared → Prop) : Cx := { X with xe := E }
/-- no exception leaves -/
abbrev Cx.nox (X : Cx) : Cx := X.wish fun _ _ => False
theorem Cx.Ok.wish {X : Cx} (ok : X.Ok) (E : Value → Shared → Prop) : (X.wish E).Ok :=
  ⟨ok.mod, ok.kind, ok.glob, ok.blt, ok.above, ok.inj, ok.has, ok.cab, ok.hd, ok.frames, ok.stk, ok.exf, ok.bs, ok.bsz, ok.noex, ok.exfs, ok.funs, ok.frf⟩
theorem Cx.Ok.unwish {X : Cx} {E : Value → Shared → Prop} (ok : (X.wish E).Ok) : X.Ok :=
  ⟨ok.mod, ok.kind, ok.glob, ok.blt, ok.above, ok.inj, ok.has, ok.cab, ok.hd, ok.frames, ok.stk, ok.exf, ok.bs, ok.bsz, ok.noex, ok.exfs, ok.funs, ok.frf⟩
section
variable {X : Cx} {pins : List (Addr × Obj)} {σ : St} {H : Hp} {s : Shared} {E : Value → Shared → Prop}
theorem Inv.wish (I : Inv X pins σ H s) (E : Value → Shared → Prop) : Inv (X.wish E) pins σ H s := ⟨I.ok.wish E, I.os, I.bare, I.base, I.loc, I.cell, I.free, I.freeC, I.pin, I.hok, I.len⟩
theorem Inv.unwish (I : Inv (X.wish E) pins σ H s) : Inv X pins σ H s := ⟨I.ok.unwish, I.os, I.bare, I.base, I.loc, I.cell, I.free, I.freeC, I.pin, I.hok, I.len⟩
theorem SP.unwish {D : Ends} {f : Flow} {s' : Shared} (h : SP (X.wish E) pins D f s') : SP X pins D f s' := by
  cases f with
  | next => obtain ⟨σ', H', I, q⟩ := h; exact ⟨σ', H', I.unwish, q⟩
  | brk => obtain ⟨σ', H', I, q⟩ := h; exact ⟨σ', H', I.unwish, q⟩
  | cont => obtain ⟨σ', H', I, q⟩ := h; exact ⟨σ', H', I.unwish, q⟩
  | ret u => obtain ⟨v, σ', H', I, r, q⟩ := h; exact ⟨v, σ', H', I.unwish, r, q⟩
theorem PE.nox {e : Expr} {t : TE} (h : PE X.nox e t) : PE X e t := fun pins s σ H Q I hw =>
  wpAny_mono (h pins s σ H Q (I.wish _) hw) (fun _ _ ⟨v, H', I', r, q⟩ => ⟨v, H', I'.unwish, r, q⟩) fun _ _ z => False.elim z
theorem PT.nox {e : Expr} {t : TT} (h : PT X.nox e t) : PT X e t := fun pins s σ H Q I hw =>
  wpAny_mono (h pins s σ H Q (I.wish _) hw) (fun _ _ ⟨H', I', q⟩ => ⟨H', I'.unwish, q⟩) fun _ _ z => False.elim z
theorem PSs.nox {st : List Stmt} {t : TS} (h : PSs X.nox st t) : PSs X st t := fun pins s σ H D I hw =>
  wpAny_mono (h pins s σ H D (I.wish _) hw) (fun _ _ q => q.unwish) fun _ _ z => False.elim z
end

section
variable {X : Cx} {st : Stmt} {rest : List Stmt} {t u : TS} {e : Expr} {te : TE} {pos : Pos}
def tNext : TS := fun D σ H => D.nx σ H
def tSeq (t u : TS) : TS := fun D σ H => t { D with nx := u D } σ H
theorem pss_nil : PSs X [] tNext := fun _ _ σ H _ I h => wpAny_execs_nil ⟨σ, H, I, h⟩
theorem pss_cons (h1 : PS X st t) (h2 : PSs X rest u) : PSs X (st :: rest) (tSeq t u) := by
  intro pins s σ H D I h
  refine wpAny_execs_cons (thn (h1 pins s σ H { D with nx := u D } I h) fun f s1 q => ?_)
  cases f with
  | next =>
    obtain ⟨σ', H', I', q⟩ := q
    exact h2 pins s1 σ' H' D I' q
  | ret v => exact q
  | brk => exact q
  | cont => exact q
theorem pss_one (h1 : PS X st t) : PSs X [st] t := by
  intro pins s σ H D I h
  refine wpAny_execs_cons (thn (h1 pins s σ H D I h) fun f s1 q => ?_)
  cases f with
  | next => exact wpAny_execs_nil q
  | ret v => exact q
  | brk => exact q
  | cont => exact q
/-- in a def's body nothing is shown -/
theorem Inv.quiet {pins : List (Addr × Obj)} {σ : St} {H : Hp} {s : Shared} (I : Inv X pins σ H s) : interactive X.env = false := by simp [interactive, I.ok.kind]
/-- an expression whose value is dropped -/
def tDrop (te : TE) : TS := fun D σ H => te σ H fun _ H1 => D.nx σ H1
theorem ps_expr (he : PE X e te) (hs : swapsWith e none pos.line X.env = pure false := by rfl) : PS X (.Expr e pos) (tDrop te) := by
  intro pins s σ H D I h
  exact wpAny_Expr_any (thn (he pins s σ H _ I h) fun v s1 ⟨x, H1, I1, r1, q1⟩ => ⟨σ, H1, I1, q1⟩) I.quiet hs
def tRet (te : TE) : TS := fun D σ H => te σ H D.rt
theorem ps_ret (he : PE X e te) : PS X (.Return (some e) pos) (tRet te) := by
  intro pins s σ H D I h
  exact wpAny_Return_some (thn (he pins s σ H _ I h) fun v s1 ⟨x, H1, I1, r1, q1⟩ => ⟨x, σ, H1, I1, r1, q1⟩)
def tIfS (c : TT) (t u : TS) : TS := fun D σ H => c σ H fun b H1 => if b = true then t D σ H1 else u D σ H1
theorem ps_if {c : Expr} {a b : List Stmt} {tc : TT} (hc : PT X c tc) (ha : PSs X a t) (hb : PSs X b u) : PS X (.If c a b pos) (tIfS tc t u) := by
  intro pins s σ H D I h
  refine wpAny_If (thn (hc pins s σ H _ I h) fun d s1 ⟨H1, I1, q1⟩ => ?_)
  cases d with
  | true => exact ha pins s1 σ H1 D I1 q1
  | false => exact hb pins s1 σ H1 D I1 q1
/-- code that the proof never comes to -/
def tNever : TS := fun _ _ _ => False
theorem pss_never {sts : List Stmt} : PSs X sts tNever := fun _ _ _ _ _ _ h => h.elim
end

abbrev TG := V → St → Hp → (St → Hp → Prop) → Prop
def PG (X : Cx) (target : Expr) (t : TG) : Prop :=
  ∀ (pins : List (Addr × Obj)) (s : Shared) (σ : St) (H : Hp) (v : V) (u : Value) (Q : St → Hp → Prop), Inv X pins σ H s → RelV v u → t v σ H Q →
    wpAny (model X.prog X.w) X.A (assign target X.env u) (fun _ s' => ∃ σ' H', Inv X pins σ' H' s' ∧ Q σ' H') X.xe s
/-- o[i] = v, by values -/
abbrev TSet := V → V → V → Hp → (Hp → Prop) → Prop
def PSet (X : Cx) (t : TSet) : Prop :=
  ∀ (pins : List (Addr × Obj)) (s : Shared) (σ : St) (H : Hp) (o i v : V) (ov iv u : Value) (Q : Hp → Prop), Inv X pins σ H s → RelV o ov → RelV i iv → RelV v u → t o i v H Q →
    wpAny (model X.prog X.w) X.A (setItem ov iv u) (fun _ s' => ∃ H', Inv X pins σ H' s' ∧ Q H') X.xe s
section
variable {X : Cx} {pos : Pos}
def gName (i : Nat) : TG := fun v σ H Q => Q (σ.set i (some v)) H
theorem pg_name {i : Nat} {x : Str} (hN : X.N.Nodup) (hi : X.N[i]? = some x) (hx : Loc X.env.scope x) (hf : X.fn x = true ∨ X.env.scope.names.lookup x = some .local := by first | exact .inl rfl | exact .inr rfl | assumption) : PG X (.Name x pos) (gName i) := by
  intro pins s σ H v u Q I r h
  exact wpAny_assign_Name (store_ok I hN hi hx r (fun s' I' => ⟨_, H, I', h⟩) hf)
/-- o[i] = .. -/
def gSub (to ti : TE) (t : TSet) : TG := fun v σ H Q => to σ H fun o H1 => ti σ H1 fun i H2 => t o i v H2 fun H3 => Q σ H3
theorem pg_sub {o i : Expr} {to ti : TE} {t : TSet} (ho : PE X o to) (hi : PE X i ti) (hs : PSet X t)
    (ha : ∀ v, assign (.Subscript o i pos) X.env v = (do
      let ov ← holding [v] (eval o X.env)
      let iv ← holding [v, ov] (eval i X.env)
      standAt pos
      holding [v, ov, iv] (setItem ov iv v)
      release [v, ov, iv] []) := by intro _; rfl) : PG X (.Subscript o i pos) (gSub to ti t) := by
  intro pins s σ H v u Q I r h
  rw [ha]
  refine wpAny_bind (wpAny_holding (thn (ho pins s σ H _ I h) fun ov s1 ⟨x, H1, I1, r1, q1⟩ => ?_))
  refine wpAny_bind (wpAny_holding (thn (hi pins s1 σ H1 _ I1 q1) fun iv s2 ⟨y, H2, I2, r2, q2⟩ => ?_))
  refine wpAny_bind (wpAny_standAt (wpAny_bind (wpAny_holding (thn (hs pins s2 σ H2 x y v ov iv u _ I2 r1 r2 r q2) fun _ s3 ⟨H3, I3, q3⟩ => ?_))))
  exact wpAny_release ⟨σ, H3, I3, q3⟩
/-- target = value -/
def tAsg (te : TE) (g : TG) : TS := fun D σ H => te σ H fun x H1 => g x σ H1 D.nx
theorem ps_asg {tg e : Expr} {te : TE} {g : TG} (he : PE X e te) (hg : PG X tg g) (hs : swapsWithSole [tg] e pos.line X.env = pure false := by rfl) (hw : swappedStores [tg] e X.env = pure none := by rfl)
    (h1 : (assignEach [tg] X.env).map (·.2) = [assign tg X.env] := by rfl) : PS X (.Assign [tg] e pos) (tAsg te g) := by
  intro pins s σ H D I h
  refine wpAny_Assign_stores (thn (he pins s σ H _ I h) fun v s1 ⟨x, H1, I1, r1, q1⟩ => ?_) hs hw
  rw [h1]
  exact thn (hg pins s1 σ H1 x v _ I1 r1 q1) fun _ s2 q => q
/-- name = value -/
theorem ps_set {i : Nat} {x : Str} {e : Expr} {te : TE} {pos' : Pos} (hN : X.N.Nodup) (hi : X.N[i]? = some x) (hx : Loc X.env.scope x) (he : PE X e te) (hs : swapsWith e (some (.Name x pos')) pos.line X.env = pure false := by rfl) (hf : X.fn x = true ∨ X.env.scope.names.lookup x = some .local := by first | exact .inl rfl | exact .inr rfl | assumption) :
    PS X (.Assign [.Name x pos'] e pos) (tAsg te (gName i)) := by
  intro pins s σ H D I h
  refine wpAny_Assign_Name (thn (he pins s σ H _ I h) fun v s1 ⟨y, H1, I1, r1, q1⟩ => ?_) hs
  exact store_ok I1 hN hi hx r1 (fun s2 I2 => ⟨_, H1, I2, q1⟩) hf
end

section
variable {X : Cx} {pos : Pos}
end

/-- at turn i: it yields x (the heap may grow), or it stops -/
structure It where
  go : Nat → Hp → Prop
  yld : Nat → Hp → V → Hp → Prop
  stop : Nat → Hp → Prop
/-- the iterator's own objects may turn: they are not the frame's, not pinned, younger than the entry (or a comprehension's own) -/
def FpOk (X : Cx) (pins : List (Addr × Obj)) (H : Hp) (b : Addr) : Prop :=
  H b = none ∧ b ≠ X.env.locals ∧ b ∉ X.fs ∧ (b ∈ X.ex ∨ X.s₀.heap.objs.size ≤ b) ∧ (∀ x c, X.env.cells.lookup x = some c → c ≠ b) ∧ ∀ p ∈ X.pn ++ pins, p.1 ≠ b
theorem Inv.fpOk {X : Cx} {pins : List (Addr × Obj)} {σ : St} {H H' : Hp} {s : Shared} {b : Addr} (I : Inv X pins σ H s) (hb : s.heap.objs.size ≤ b) (hn : H' b = none) : FpOk X pins H' b := by
  refine ⟨hn, Nat.ne_of_gt (Nat.lt_of_lt_of_le I.lt hb), I.nofs hb, .inr (Nat.le_trans I.sz hb), fun x c e z => ?_, fun p hp z => ?_⟩
  · obtain ⟨v, q⟩ := I.cell x c e
    exact absurd (Nat.lt_of_lt_of_le q.lt (by rw [z]; exact hb)) (Nat.lt_irrefl _)
  · exact absurd (Nat.lt_of_lt_of_le (Heap.lt_size (I.pin p hp).1) (by rw [z]; exact hb)) (Nat.lt_irrefl _)
structure Turn (P : Program) (w : World) (K : PySem.W.Frag) (tg : Expr) (J : It) (fp : List Addr) (it : Addr) (tn : Nat → Heap → Prop) : Prop where
  mem : it ∈ fp
  obj : ∀ i h, tn i h → ∀ b ∈ fp, ∃ o, h.get? b = some o ∧ ∀ v, o.data ≠ .cell v
  keep : ∀ i h h', tn i h → (∀ b ∈ fp, ∀ o, h.get? b = some o → h'.get? b = some o) → tn i h'
  item : ∀ (X : Cx), X.prog = P → X.w = w → X.K = K → X.calm = true → ∀ (i : Nat) (pins : List (Addr × Obj)) (s : Shared) (σ : St) (H : Hp) (E : Value → Shared → Prop), Inv X pins σ H s → (∀ b ∈ fp, FpOk X pins H b) → tn i s.heap → J.go i H →
    wpAny (model P w) X.A (pyNext (.ref it)) (fun r s1 => ∃ u, r = some u ∧
      wpAny (model P w) X.A (letOwnedTupleGo tg (.ref it) u) (fun _ s2 => ∃ x H', Inv X pins σ H' s2 ∧ RelV x u ∧ J.yld i H x H' ∧ tn (i + 1) s2.heap ∧ ∀ b ∈ fp, H' b = none) E s1) E s
  done : ∀ (X : Cx), X.prog = P → X.w = w → X.K = K → X.calm = true → ∀ (i : Nat) (pins : List (Addr × Obj)) (s : Shared) (σ : St) (H : Hp) (E : Value → Shared → Prop), Inv X pins σ H s → (∀ b ∈ fp, FpOk X pins H b) → tn i s.heap → J.stop i H →
    wpAny (model P w) X.A (pyNext (.ref it)) (fun r s1 => r = none ∧ Inv X pins σ H s1) E s
  self : ∀ (A : Around) (i : Nat) (s : Shared) (Q : Value → Shared → Prop) (E : Value → Shared → Prop), tn i s.heap → Q (.ref it) s → wpAny (model P w) A (pyIter (.ref it)) Q E s
abbrev TI := St → Hp → (It → Hp → Prop) → Prop
/-- an iterator has come -/
def PIE (X : Cx) (pins : List (Addr × Obj)) (σ : St) (tg : Expr) (R : It → Hp → Prop) (itv : Value) (s2 : Shared) : Prop :=
  ∃ (it : Addr) (fp : List Addr) (tn : Nat → Heap → Prop) (J : It) (H' : Hp), itv = .ref it ∧ Inv X pins σ H' s2 ∧ Turn X.prog X.w X.K tg J fp it tn ∧ tn 0 s2.heap ∧ (∀ b ∈ fp, FpOk X pins H' b) ∧ R J H'
def PI (X : Cx) (tg iter : Expr) (wi : TI) : Prop :=
  ∀ (pins : List (Addr × Obj)) (s : Shared) (σ : St) (H : Hp) (R : It → Hp → Prop), Inv X pins σ H s → wi σ H R →
    wpAny (model X.prog X.w) X.A (eval iter X.env) (fun v s1 => wpAny (model X.prog X.w) X.A (pyIter v) (PIE X pins σ tg R) X.xe s1) X.xe s

/-- the step ahead of the store is nothing for an iterator that keeps no tuple -/
theorem go_of {M : Model} {A : Around} {E : Value → Shared → Prop} {s : Shared} {tg : Expr} {it : Addr} {u : Value} {o : Obj} {n : String} {vs : Array Value} {Q : Unit → Shared → Prop} (ho : s.heap.get? it = some o) (hc : o.cls = .type n) (hd : o.data = .fields vs)
    (hn : ["enumerate", "zip", "dict_itemiterator", "dict_reverseitemiterator", "odict_iterator", "itertools.zip_longest", "itertools.pairwise"].contains n = false) (hQ : Q () s) : wpAny M A (letOwnedTupleGo tg (.ref it) u) Q E s := by
  unfold letOwnedTupleGo
  cases tg <;> first
    | exact wpAny_pure hQ
    | (cases u <;> first
        | exact wpAny_pure hQ
        | (refine wpAny_bind (wpAny_load ho ?_)
           rw [hc, hd]
           show wpAny M A (if (["enumerate", "zip", "dict_itemiterator", "dict_reverseitemiterator", "odict_iterator", "itertools.zip_longest", "itertools.pairwise"].contains n && vs[0]? == some (rawInt _)) = true then _ else _) Q E s
           rw [if_neg (by intro h; rw [hn, Bool.false_and] at h; cases h)]
           exact wpAny_pure hQ))

/-- the list at a, as it stands at each turn (a loop may append to it) -/
def Itl (K : PySem.W.Frag) (a : Addr) : It :=
  ⟨fun i H => ∃ xs x, SqL K H a xs ∧ xs[i]? = some x, fun i H x H' => H' = H ∧ ∀ xs, SqL K H a xs → xs[i]? = some x, fun i H => ∃ xs, SqL K H a xs ∧ xs.length ≤ i⟩
def Itt (K : PySem.W.Frag) (a : Addr) : It :=
  ⟨fun i H => ∃ xs x, SqT K H a xs ∧ xs[i]? = some x, fun i H x H' => H' = H ∧ ∀ xs, SqT K H a xs → xs[i]? = some x, fun i H => ∃ xs, SqT K H a xs ∧ xs.length ≤ i⟩
/-- lo, lo + 1, .. (n of them) -/
def Itr (lo : Int) (n : Nat) : It := ⟨fun i _ => i < n, fun i H x H' => H' = H ∧ x = .int (lo + i), fun i _ => n ≤ i⟩
theorem turn_list {P : Program} {w : World} {K : PySem.W.Frag} {tg : Expr} (a it : Addr) : Turn P w K tg (Itl K a) [it] it (fun i h => h.IsListIter it a i) where
  mem := by simp
  obj := fun i h st b hb => by
    have e : b = it := by simpa using hb
    subst e
    obtain ⟨o, e, c, d⟩ := st
    exact ⟨o, e, fun v z => by rw [d] at z; cases z⟩
  keep := fun i h h' st k => st.at fun o e => k it (by simp) o e
  item := by
    intro X hP hw hK hc i pins s σ H E I hf st hg
    subst hP hw hK
    obtain ⟨xs, x, hq, hx⟩ := hg
    obtain ⟨its, rv, p, hz⟩ := I.list hq
    obtain ⟨u, hu, ru⟩ := rv.get hx
    obtain ⟨f0, f1, f2, f3, f4, f5⟩ := hf it (by simp)
    refine wpAny_pyNext_list_item st p.isList (x := u) (by simpa using hu) fun h' st' sb => ?_
    have I1 : Inv X pins σ H { s with heap := h' } := I.turned (t' := s.toks) (fun b o hb e => (sb.2 b hb).trans e) f0 f1 f3 f4 f5
    obtain ⟨o, e, c, d⟩ := id st'
    exact ⟨u, rfl, go_of (s := { s with heap := h' }) e c d (by decide) ⟨x, H, I1, ru, ⟨rfl, fun ys hy => by rw [I.list_inj hy hq]; exact hx⟩, st', fun b hb => (hf b hb).1⟩⟩
  done := by
    intro X hP hw hK hc i pins s σ H E I hf st hg
    subst hP hw hK
    obtain ⟨xs, hq, hx⟩ := hg
    obtain ⟨its, rv, p, hz⟩ := I.list hq
    obtain ⟨f0, f1, f2, f3, f4, f5⟩ := hf it (by simp)
    have hl := rv.length
    exact wpAny_pyNext_list_end (I.ok.hd hc) st p.isList (by simp; omega) fun h' eb => ⟨rfl, I.turned (t' := s.toks) (fun b o hb e => eb b o hb e) f0 f1 f3 f4 f5⟩
  self := fun _ _ _ _ _ st h => wpAny_pyIter_listiter st h
theorem turn_tuple {P : Program} {w : World} {K : PySem.W.Frag} {tg : Expr} (a it : Addr) : Turn P w K tg (Itt K a) [it] it (fun i h => h.IsTupleIter it a i) where
  mem := by simp
  obj := fun i h st b hb => by
    have e : b = it := by simpa using hb
    subst e
    obtain ⟨o, e, c, d⟩ := st
    exact ⟨o, e, fun v z => by rw [d] at z; cases z⟩
  keep := fun i h h' st k => st.at fun o e => k it (by simp) o e
  item := by
    intro X hP hw hK hc i pins s σ H E I hf st hg
    subst hP hw hK
    obtain ⟨xs, x, hq, hx⟩ := hg
    obtain ⟨its, rv, p, hz⟩ := I.tuple hq
    obtain ⟨u, hu, ru⟩ := rv.get hx
    obtain ⟨f0, f1, f2, f3, f4, f5⟩ := hf it (by simp)
    refine wpAny_pyNext_tuple_item st (show s.heap.IsTuple a its.toArray from p) (x := u) (by simpa using hu) fun h' st' sb => ?_
    have I1 : Inv X pins σ H { s with heap := h' } := I.turned (t' := s.toks) (fun b o hb e => (sb.2 b hb).trans e) f0 f1 f3 f4 f5
    obtain ⟨o, e, c, d⟩ := id st'
    exact ⟨u, rfl, go_of (s := { s with heap := h' }) e c d (by decide) ⟨x, H, I1, ru, ⟨rfl, fun ys hy => by rw [I.tuple_inj hy hq]; exact hx⟩, st', fun b hb => (hf b hb).1⟩⟩
  done := by
    intro X hP hw hK hc i pins s σ H E I hf st hg
    subst hP hw hK
    obtain ⟨xs, hq, hx⟩ := hg
    obtain ⟨its, rv, p, hz⟩ := I.tuple hq
    obtain ⟨f0, f1, f2, f3, f4, f5⟩ := hf it (by simp)
    have hl := rv.length
    exact wpAny_pyNext_tuple_end (I.ok.hd hc) st (show s.heap.IsTuple a its.toArray from p) (by simp; omega) fun h' eb => ⟨rfl, I.turned (t' := s.toks) (fun b o hb e => eb b o hb e) f0 f1 f3 f4 f5⟩
  self := fun _ _ _ _ _ st h => wpAny_pyIter_tupleiter st h
theorem turn_range {P : Program} {w : World} {K : PySem.W.Frag} {tg : Expr} (it : Addr) (lo : Int) (n : Nat) : Turn P w K tg (Itr lo n) [it] it (fun i h => IsRangeIter h it (lo + (i : Nat) * 1) ((n : Int) - (i : Nat)) 1) where
  mem := by simp
  obj := fun i h st b hb => by
    have e : b = it := by simpa using hb
    subst e
    exact ⟨_, st, fun v z => by
      have z' : Data.fields _ = Data.cell v := z
      cases z'⟩
  keep := fun i h h' st k => k it (by simp) _ st
  item := by
    intro X hP hw hK hc i pins s σ H E I hf st hg
    subst hP hw hK
    obtain ⟨f0, f1, f2, f3, f4, f5⟩ := hf it (by simp)
    have W := Walks.range (prog := X.prog) (w := X.w) (I.ok.hd hc) it lo 1 n
    refine W.item i s _ _ hg st fun v h' tk hv st' kk => ?_
    obtain ⟨t, rfl⟩ := hv
    have I1 : Inv X pins σ H { s with heap := h', toks := tk } := I.turned (fun b o hb e => kk b o (by simpa using hb) e) f0 f1 f3 f4 f5
    refine ⟨_, rfl, go_of (s := { s with heap := h', toks := tk }) (n := "range_iterator") st' rfl rfl (by decide) ⟨.int (lo + i), H, I1, ⟨t, ?_⟩, ⟨rfl, rfl⟩, st', fun b hb => (hf b hb).1⟩⟩
    rw [Int.mul_one]
  done := by
    intro X hP hw hK hc i pins s σ H E I hf st hg
    subst hP hw hK
    obtain ⟨f0, f1, f2, f3, f4, f5⟩ := hf it (by simp)
    exact wpAny_pyNext_range_end (I.ok.hd hc) st (by have : n ≤ i := hg; omega) fun h' eb => ⟨rfl, I.turned (t' := s.toks) (fun b o hb e => eb b o hb e) f0 f1 f3 f4 f5⟩
  self := fun _ _ _ _ _ st h => wpAny_pyIter_rangeiter st h
end L2

namespace L2
open PySem PySem.Spec PyProof.Rows
section
variable {X : Cx} {tg : Expr}
def iList (K : PySem.W.Frag) (tl : TE) : TI := fun σ H R => tl σ H fun x H1 => ∃ a, x = .ref a ∧ (∃ xs, SqL K H1 a xs) ∧ R (Itl K a) H1
def iTup (K : PySem.W.Frag) (tl : TE) : TI := fun σ H R => tl σ H fun x H1 => ∃ a, x = .ref a ∧ (∃ xs, SqT K H1 a xs) ∧ R (Itt K a) H1
theorem pi_list {l : Expr} {tl : TE} (hl : PE X l tl) : PI X tg l (iList X.K tl) := by
  intro pins s σ H R I h
  refine thn (hl pins s σ H _ I h) fun v s1 ⟨x, H1, I1, r1, q1⟩ => ?_
  obtain ⟨a, e, ⟨xs, hq⟩, q⟩ := q1
  subst e
  cases r1
  obtain ⟨its, rv, p, hz⟩ := I1.list hq
  refine wpAny_pyIter_list p.isList ?_
  refine ⟨s1.heap.objs.size, [s1.heap.objs.size], _, _, H1, rfl, I1.kept (t' := s1.toks) fun b o e => Heap.get?_push_of_some _ e, turn_list a _, ⟨_, Heap.get?_push_size _ rfl, rfl, rfl⟩, fun b hb => ?_, q⟩
  have e : b = s1.heap.objs.size := by simpa using hb
  subst e
  exact I1.fpOk (Nat.le_refl _) (I1.hok.fresh (Nat.le_refl _))
theorem pi_tup {l : Expr} {tl : TE} (hl : PE X l tl) : PI X tg l (iTup X.K tl) := by
  intro pins s σ H R I h
  refine thn (hl pins s σ H _ I h) fun v s1 ⟨x, H1, I1, r1, q1⟩ => ?_
  obtain ⟨a, e, ⟨xs, hq⟩, q⟩ := q1
  subst e
  cases r1
  obtain ⟨its, rv, p, hz⟩ := I1.tuple hq
  refine wpAny_pyIter_tuple (show s1.heap.IsTuple a its.toArray from p) ?_
  refine ⟨s1.heap.objs.size, [s1.heap.objs.size], _, _, H1, rfl, I1.kept (t' := s1.toks) fun b o e => Heap.get?_push_of_some _ e, turn_tuple a _, ⟨_, Heap.get?_push_size _ rfl, rfl, rfl⟩, fun b hb => ?_, q⟩
  have e : b = s1.heap.objs.size := by simpa using hb
  subst e
  exact I1.fpOk (Nat.le_refl _) (I1.hok.fresh (Nat.le_refl _))
/-- a range object just made, walked -/
theorem range_it {pins : List (Addr × Obj)} {σ : St} {H : Hp} {s : Shared} {R : It → Hp → Prop} {E : Value → Shared → Prop} {lo hi : Int} {t u v : Tok} {tk : Nat} (I : Inv X pins σ H s) (h1 : -(2 ^ 62) ≤ lo) (h2 : lo < 2 ^ 62) (h3 : -(2 ^ 62) ≤ hi) (h4 : hi < 2 ^ 62)
    (q : R (Itr lo (hi - lo).toNat) H) : wpAny (model X.prog X.w) X.A (pyIter (.ref s.heap.objs.size)) (PIE X pins σ tg R) E { s with heap := s.heap.push { cls := .type "range", data := .fields #[.int lo t, .int hi u, .int 1 v] }, toks := tk } := by
  refine wpAny_pyIter_range (IsRange.new ..) (small_one h1 h2 h3 h4) ?_
  have I1 : Inv X pins σ H { s with heap := s.heap.push { cls := .type "range", data := .fields #[.int lo t, .int hi u, .int 1 v] }, toks := tk } := I.kept fun b o e => Heap.get?_push_of_some _ e
  refine ⟨(s.heap.push { cls := .type "range", data := .fields #[.int lo t, .int hi u, .int 1 v] }).objs.size, [(s.heap.push { cls := .type "range", data := .fields #[.int lo t, .int hi u, .int 1 v] }).objs.size], _, _, H, rfl,
    I1.kept (t' := tk) fun b o e => Heap.get?_push_of_some _ e, turn_range _ lo (hi - lo).toNat, ?_, fun b hb => ?_, q⟩
  · have e1 : lo + ((0 : Nat) : Int) * 1 = lo := by simp
    have e2 : (((hi - lo).toNat : Nat) : Int) - ((0 : Nat) : Int) = Builtin.Range.rangeSize lo hi 1 := by rw [rangeSize_one]; split <;> omega
    show IsRangeIter _ _ (lo + ((0 : Nat) : Int) * 1) ((((hi - lo).toNat : Nat) : Int) - ((0 : Nat) : Int)) 1
    rw [e1, e2]
    exact Heap.get?_push_size _ rfl
  · have e : b = (s.heap.push { cls := .type "range", data := .fields #[.int lo t, .int hi u, .int 1 v] }).objs.size := by simpa using hb
    subst e
    exact I1.fpOk (Nat.le_refl _) (I1.hok.fresh (Nat.le_refl _))
def iRng1 (ta : TA) : TI := fun σ H R => ta σ H fun vs H1 => ∃ j : Int, vs = [.int j] ∧ -(2 ^ 62) ≤ j ∧ j < 2 ^ 62 ∧ R (Itr 0 j.toNat) H1
theorem pi_range1 {a : Expr} {ta : TA} {p pos : Pos} (hg : Gl X "range") (hm : X.mg "range" = none) (ha : PA X [a] ta) (hs : starEach [a] X.env = [(false, eval a X.env)] := by rfl) : PI X tg (.Call (.Name "range" p) [a] [] pos) (iRng1 ta) := by
  intro pins s σ H R I h
  refine Call_ (ld_blt I hg hm boot_range (PyProof.Rows.callWith_type1 (thn (ha pos pins s σ H _ I h) fun us s1 ⟨vs, H1, I1, r1, q1⟩ => ?_) hs rfl))
  obtain ⟨j, e, q1, q2, q⟩ := q1
  subst e
  cases r1 with
  | cons r rr =>
    cases rr
    obtain ⟨t, rfl⟩ := r
    exact call_range_1 (range_it I1 (by omega) (by omega) q1 q2 (by simpa using q))
/-- W: the invariant by the turn and a measure; N: what the body is to reach -/
def tFor (wi : TI) (g : TG) (tb : TS) : TS := fun D σ H => wi σ H fun J H1 => ∃ W : Nat → Nat → St → Hp → Prop, (∃ m, W 0 m σ H1) ∧ ∀ i m σ H, W i m σ H →
  (J.stop i H ∧ D.nx σ H) ∨ (J.go i H ∧ ∃ N : St → Hp → Prop, (∀ σ' H', N σ' H' → ∃ m', m' < m ∧ W (i + 1) m' σ' H') ∧ ∀ x H', J.yld i H x H' → g x σ H' fun σ2 H2 => tb { D with nx := N, ct := N, bk := D.nx } σ2 H2)
/-- the records at fp as they stand -/
def pinsAt (fp : List Addr) (h : Heap) : List (Addr × Obj) := fp.filterMap fun b => (h.get? b).map fun o => (b, o)
theorem mem_pinsAt {fp : List Addr} {h : Heap} {b : Addr} {o : Obj} (hb : b ∈ fp) (e : h.get? b = some o) : (b, o) ∈ pinsAt fp h := List.mem_filterMap.mpr ⟨b, hb, by rw [e]; rfl⟩
theorem of_pinsAt {fp : List Addr} {h : Heap} {p : Addr × Obj} (hp : p ∈ pinsAt fp h) : p.1 ∈ fp ∧ h.get? p.1 = some p.2 := by
  obtain ⟨b, hb, e⟩ := List.mem_filterMap.mp hp
  cases q : h.get? b with
  | none => rw [q] at e; cases e
  | some o =>
    rw [q] at e
    have e' : (b, o) = p := Option.some.inj e
    subst e'
    exact ⟨hb, q⟩
theorem Inv.pinned {pins : List (Addr × Obj)} {σ : St} {H : Hp} {s : Shared} {fp : List Addr} (I : Inv X pins σ H s) (hf : ∀ b ∈ fp, FpOk X pins H b) (ho : ∀ b ∈ fp, ∃ o, s.heap.get? b = some o ∧ ∀ v, o.data ≠ .cell v) : Inv X (pins ++ pinsAt fp s.heap) σ H s :=
  I.pins_of fun p hp => (List.mem_append.mp hp).elim (fun z => I.pin p (List.mem_append_right _ z)) fun z => by
    obtain ⟨hb, e⟩ := of_pinsAt z
    obtain ⟨f0, f1, f2, _⟩ := hf p.1 hb
    obtain ⟨o, e', d⟩ := ho p.1 hb
    rw [e] at e'; cases e'
    exact ⟨e, f0, f1, f2, d⟩
theorem Inv.unpinned {pins pl : List (Addr × Obj)} {σ : St} {H : Hp} {s : Shared} (I : Inv X (pins ++ pl) σ H s) : Inv X pins σ H s := I.pins_of fun p hp => I.pin p (List.mem_append_right _ (List.mem_append_left _ hp))
theorem ps_for {iter : Expr} {body : List Stmt} {wi : TI} {g : TG} {tb : TS} {pos : Pos} (hp : PassesOwn (model X.prog X.w) X.A X.env X.xe) (hc : X.calm = true) (hi : PI X tg iter wi) (hg : PG X tg g) (hb : PSs X body tb)
    (hs : ∀ x, foldedSetIterable iter X.env x = pure x := by intro _; rfl) : PS X (.For tg iter body [] pos) (tFor wi g tb) := by
  intro pins s σ H D I h
  refine wpAny_For (thn (hi pins s σ H _ I h) fun v s1 h1 => thn h1 fun itv s2 h2 => ?_) hs
  obtain ⟨it, fp, tn, J, H2, e, I2, T, st2, f2, W, ⟨m0, w0⟩, turn⟩ := h2
  subst e
  -- what stays true of the iterator's objects through the loop
  have stat : ∀ {H' : Hp}, (∀ b ∈ fp, H' b = none) → ∀ b ∈ fp, FpOk X pins H' b := fun hn b hb => ⟨hn b hb, (f2 b hb).2⟩
  refine codeAny_forLoop_any (fun n s' => ∃ i σ' H', Inv X pins σ' H' s' ∧ tn i s'.heap ∧ (∀ b ∈ fp, H' b = none) ∧ W i n σ' H') ?_ m0 ⟨0, σ, H2, I2, st2, fun b hb => (f2 b hb).1, w0⟩
  rintro n s3 ⟨i, σ3, H3, I3, st3, fr3, w3⟩
  rcases turn i n σ3 H3 w3 with ⟨stop, qn⟩ | ⟨go, N, hN, step⟩
  · refine wpAny_passesOwn hp (thn (T.done X rfl rfl rfl hc i pins s3 σ3 H3 X.xe I3 (stat fr3) st3 stop) fun r s4 ⟨hr, I4⟩ => ?_)
    subst hr
    exact wpAny_execs_nil ⟨σ3, H3, I4, qn⟩
  · refine wpAny_passesOwn hp (thn (T.item X rfl rfl rfl hc i pins s3 σ3 H3 X.xe I3 (stat fr3) st3 go) fun r s4 ⟨u, hr, h4⟩ => ?_)
    subst hr
    refine wpAny_passesOwn hp (thn h4 fun _ s5 ⟨x, H5, I5, r5, y5, st5, fr5⟩ => ?_)
    have I5' := I5.pinned (stat fr5) (T.obj _ _ st5)
    refine wpAny_passesOwn hp (thn (hg _ s5 σ3 H5 x u _ I5' r5 (step x H5 y5)) fun _ s6 ⟨σ6, H6, I6, q6⟩ => ?_)
    refine wpAny_passesOwn hp (thn (hb _ s6 σ6 H6 _ I6 q6) fun f s7 q7 => ?_)
    have again : ∀ {σ7 : St} {H7 : Hp}, Inv X (pins ++ pinsAt fp s5.heap) σ7 H7 s7 → N σ7 H7 → ∃ m, m < n ∧ ∃ i σ' H', Inv X pins σ' H' s7 ∧ tn i s7.heap ∧ (∀ b ∈ fp, H' b = none) ∧ W i m σ' H' := fun {σ7 H7} I7 n7 => by
      obtain ⟨m', hm, w7⟩ := hN σ7 H7 n7
      refine ⟨m', hm, i + 1, σ7, H7, I7.unpinned, T.keep _ _ _ st5 fun b hb o e => (I7.pin (b, o) (List.mem_append_right _ (List.mem_append_right _ (mem_pinsAt hb e)))).1, fun b hb => ?_, w7⟩
      obtain ⟨o, e, d⟩ := T.obj _ _ st5 b hb
      exact (I7.pin (b, o) (List.mem_append_right _ (List.mem_append_right _ (mem_pinsAt hb e)))).2.1
    cases f with
    | next => obtain ⟨σ7, H7, I7, n7⟩ := q7; exact again I7 n7
    | cont => obtain ⟨σ7, H7, I7, n7⟩ := q7; exact again I7 n7
    | brk => obtain ⟨σ7, H7, I7, q7⟩ := q7; exact ⟨σ7, H7, I7.unpinned, q7⟩
    | ret v => obtain ⟨x7, σ7, H7, I7, r7, q7⟩ := q7; exact ⟨x7, σ7, H7, I7.unpinned, r7, q7⟩
end

end L2

namespace L2
open PySem PySem.Spec PyProof.Rows

abbrev R2 := V → V → Hp → VK → Prop
/-- a two-place operation on values: f is binaryOp op, inplaceOp op or compareOp op -/
def OpR (X : Cx) (f : Value → Value → Sem Value) (r : R2) : Prop :=
  ∀ (pins : List (Addr × Obj)) (s : Shared) (σ : St) (H : Hp) (x y : V) (v u : Value) (Q : VK), Inv X pins σ H s → RelV x v → RelV y u → r x y H Q →
    wpAny (model X.prog X.w) X.A (f v u) (EP X pins σ Q) X.xe s
/-- a one-place operation -/
def UnR (X : Cx) (f : Value → Sem Value) (r : V → Hp → VK → Prop) : Prop :=
  ∀ (pins : List (Addr × Obj)) (s : Shared) (σ : St) (H : Hp) (x : V) (v : Value) (Q : VK), Inv X pins σ H s → RelV x v → r x H Q →
    wpAny (model X.prog X.w) X.A (f v) (EP X pins σ Q) X.xe s
/-- a call of a value that is known (a builtin, a type) with values -/
def CallR (X : Cx) (f : Value) (r : List V → Hp → VK → Prop) : Prop :=
  ∀ (pins : List (Addr × Obj)) (s : Shared) (σ : St) (H : Hp) (xs : List V) (us : List Value) (Q : VK), Inv X pins σ H s → Vals xs us → r xs H Q →
    wpAny (model X.prog X.w) X.A (call f us) (EP X pins σ Q) X.xe s
/-- a value's truth -/
def TruR (X : Cx) (r : V → Hp → (Bool → Hp → Prop) → Prop) : Prop :=
  ∀ (pins : List (Addr × Obj)) (s : Shared) (σ : St) (H : Hp) (x : V) (v : Value) (Q : Bool → Hp → Prop), Inv X pins σ H s → RelV x v → r x H Q →
    wpAny (model X.prog X.w) X.A (truthy v) (TP X pins σ Q) X.xe s

def tOp (r : R2) (ta tb : TE) : TE := fun σ H Q => ta σ H fun x H1 => tb σ H1 fun y H2 => r x y H2 Q
def tUn (r : V → Hp → VK → Prop) (ta : TE) : TE := fun σ H Q => ta σ H fun x H1 => r x H1 Q
/-- ints in, under C, and a value out -/
def rI (C : Int → Int → Prop) (g : Int → Int → V) : R2 := fun x y H Q => ∃ i j, x = .int i ∧ y = .int j ∧ C i j ∧ Q (g i j) H
def rI0 (g : Int → Int → V) : R2 := fun x y H Q => ∃ i j, x = .int i ∧ y = .int j ∧ Q (g i j) H
def rU (g : Int → V) : V → Hp → VK → Prop := fun x H Q => ∃ i, x = .int i ∧ Q (g i) H

section
variable {X : Cx} {a b c : Expr} {ta tb tc : TE} {pos : Pos}

theorem binT (ha : PE X a ta) (hb : PE X b tb) {pins : List (Addr × Obj)} {s : Shared} {σ : St} {H : Hp} {R : V → V → Hp → Prop} (I : Inv X pins σ H s)
    (h : ta σ H fun x H1 => tb σ H1 fun y H2 => R x y H2) {Q : Value → Shared → Prop} {f : Value → Value → Sem Value}
    (hf : ∀ v u s2 x y H2, Inv X pins σ H2 s2 → RelV x v → RelV y u → R x y H2 → wpAny (model X.prog X.w) X.A (f v u) Q X.xe s2) :
    wpAny (model X.prog X.w) X.A (eval a X.env) (fun v s₁ => wpAny (model X.prog X.w) X.A (eval b X.env) (fun u s₂ => wpAny (model X.prog X.w) X.A (f v u) Q X.xe s₂) X.xe s₁) X.xe s := by
  refine thn (ha pins s σ H _ I h) fun v s1 ⟨x, H1, I1, r1, q1⟩ => ?_
  refine thn (hb pins s1 σ H1 _ I1 q1) fun u s2 ⟨y, H2, I2, r2, q2⟩ => ?_
  exact hf v u s2 x y H2 I2 r1 r2 q2

theorem pe_op {op : Operator} {r : R2} (ho : OpR X (binaryOp op) r) (ha : PE X a ta) (hb : PE X b tb) : PE X (.BinOp a op b pos) (tOp r ta tb) := by
  intro pins s σ H Q I h
  exact wpAny_BinOp (binT ha hb I h fun v u s2 x y H2 I2 rx ry q => ho pins s2 σ H2 x y v u Q I2 rx ry q)
theorem pe_un {op : UnaryOp} {r : V → Hp → VK → Prop} (ho : UnR X (unaryOp op) r) (ha : PE X a ta) : PE X (.UnaryOp op a pos) (tUn r ta) := by
  intro pins s σ H Q I h
  exact UnaryOp_ (thn (ha pins s σ H _ I h) fun v s1 ⟨x, H1, I1, r1, q1⟩ => ho pins s1 σ H1 x v Q I1 r1 q1)
theorem opI {f : Value → Value → Sem Value} {C : Int → Int → Prop} {g : Int → Int → Int}
    (rule : ∀ (i j : Int) (t u : Tok) (s : Shared) (Q : Value → Shared → Prop) (E : Value → Shared → Prop), C i j → Q (.int (g i j) s.toks) { s with toks := s.toks + 1 } → wpAny (model X.prog X.w) X.A (f (.int i t) (.int j u)) Q E s) :
    OpR X f (rI C fun i j => .int (g i j)) := by
  intro pins s σ H x y v u Q I rx ry h
  obtain ⟨i, j, rfl, rfl, hc, q⟩ := h
  obtain ⟨t, rfl⟩ := rx
  obtain ⟨t', rfl⟩ := ry
  exact rule i j t t' s _ _ hc ⟨.int (g i j), H, I.tok _, ⟨_, rfl⟩, q⟩
theorem opI0 {f : Value → Value → Sem Value} {g : Int → Int → Int}
    (rule : ∀ (i j : Int) (t u : Tok) (s : Shared) (Q : Value → Shared → Prop) (E : Value → Shared → Prop), Q (.int (g i j) s.toks) { s with toks := s.toks + 1 } → wpAny (model X.prog X.w) X.A (f (.int i t) (.int j u)) Q E s) :
    OpR X f (rI0 fun i j => .int (g i j)) := by
  intro pins s σ H x y v u Q I rx ry h
  obtain ⟨i, j, rfl, rfl, q⟩ := h
  obtain ⟨t, rfl⟩ := rx
  obtain ⟨t', rfl⟩ := ry
  exact rule i j t t' s _ _ ⟨.int (g i j), H, I.tok _, ⟨_, rfl⟩, q⟩
theorem opB0 {f : Value → Value → Sem Value} {g : Int → Int → Bool}
    (rule : ∀ (i j : Int) (t u : Tok) (s : Shared) (Q : Value → Shared → Prop) (E : Value → Shared → Prop), Q (.bool (g i j)) s → wpAny (model X.prog X.w) X.A (f (.int i t) (.int j u)) Q E s) :
    OpR X f (rI0 fun i j => .bl (g i j)) := by
  intro pins s σ H x y v u Q I rx ry h
  obtain ⟨i, j, rfl, rfl, q⟩ := h
  obtain ⟨t, rfl⟩ := rx
  obtain ⟨t', rfl⟩ := ry
  exact rule i j t t' s _ _ ⟨.bl (g i j), H, I, rfl, q⟩

def CDiv (i j : Int) : Prop := 0 < j ∧ j < 1073741824
def CPow (i j : Int) : Prop := 0 ≤ j ∧ j ≤ 1000000 ∧ i.natAbs < 2 ^ 64
def CMul (i j : Int) : Prop := (-(2 ^ 64) < i ∧ i < 2 ^ 64) ∨ (-(2 ^ 64) < j ∧ j < 2 ^ 64)
theorem CMul.ok {i j : Int} (h : CMul i j) : IntMulOk i j := by
  rcases h with ⟨h1, h2⟩ | ⟨h1, h2⟩
  · exact .of_left (intBits_le_64 h1 h2)
  · exact .of_right (intBits_le_64 h1 h2)
theorem op_add : OpR X (binaryOp .Add) (rI0 fun i j => .int (i + j)) := opI0 fun _ _ _ _ _ _ _ q => add_int q
theorem op_sub : OpR X (binaryOp .Sub) (rI0 fun i j => .int (i - j)) := opI0 fun _ _ _ _ _ _ _ q => sub_int q
/-- // by a positive divisor -/
theorem op_fdiv : OpR X (binaryOp .FloorDiv) (rI CDiv fun i j => .int (i / j)) := opI fun i j _ _ _ _ _ hc q => by
  have h1 : (0 : Int) < j := hc.1
  have h2 : j < 1073741824 := hc.2
  exact floordiv_int (by omega) (by rw [Int.fdiv_eq_ediv_of_nonneg i (by omega)]; exact q) (.inl (PyProof.noPylong_small (by omega)))
/-- % by a positive divisor of any size -/
theorem op_mod : OpR X (binaryOp .Mod) (rI (fun _ j => 0 < j) fun i j => .int (i % j)) := opI fun i j _ _ _ _ _ hc q => by
  have h1 : (0 : Int) < j := hc
  exact mod_int' (by omega) (by rw [Int.fmod_eq_emod_of_nonneg i (by omega)]; exact q)
theorem op_pow : OpR X (binaryOp .Pow) (rI CPow fun i j => .int (i ^ j.toNat)) := opI fun _ _ _ _ _ _ _ hc q => pow_int_small hc.1 hc.2.1 hc.2.2 q
theorem op_shl : OpR X (binaryOp .LShift) (rI CPow fun i j => .int (i * 2 ^ j.toNat)) := opI fun _ _ _ _ _ _ _ hc q => lshift_int_small hc.1 hc.2.1 hc.2.2 q
theorem unI {f : Value → Sem Value} {g : Int → Int}
    (rule : ∀ (i : Int) (t : Tok) (s : Shared) (Q : Value → Shared → Prop) (E : Value → Shared → Prop), Q (.int (g i) s.toks) { s with toks := s.toks + 1 } → wpAny (model X.prog X.w) X.A (f (.int i t)) Q E s) :
    UnR X f (rU fun i => .int (g i)) := by
  intro pins s σ H x v Q I rx h
  obtain ⟨i, rfl, q⟩ := h
  obtain ⟨t, rfl⟩ := rx
  exact rule i t s _ _ ⟨.int (g i), H, I.tok _, ⟨_, rfl⟩, q⟩
theorem un_neg : UnR X (unaryOp .USub) (rU fun i => .int (-i)) := unI fun _ _ _ _ _ q => neg_int q
end

section
variable {X : Cx} {a b c : Expr} {ta tb tc : TE} {pos : Pos}
theorem op_lt : OpR X (compareOp .Lt) (rI0 fun i j => .bl (decide (i < j))) := opB0 fun _ _ _ _ _ _ _ q => lt_int q
theorem op_gt : OpR X (compareOp .Gt) (rI0 fun i j => .bl (decide (j < i))) := opB0 fun _ _ _ _ _ _ _ q => gt_int q
theorem op_ge : OpR X (compareOp .GtE) (rI0 fun i j => .bl (decide (j ≤ i))) := opB0 fun _ _ _ _ _ _ _ q => ge_int q
/-- two rules for one operation: by cases -/
theorem OpR.or {f : Value → Value → Sem Value} {r r' : R2} (h : OpR X f r) (h' : OpR X f r') : OpR X f (fun x y H Q => r x y H Q ∨ r' x y H Q) := by
  intro pins s σ H x y v u Q I rx ry q
  rcases q with q | q
  · exact h pins s σ H x y v u Q I rx ry q
  · exact h' pins s σ H x y v u Q I rx ry q

theorem nomark (b : Expr) {op : CmpOp} (h : op ≠ .In := by decide) (h2 : op ≠ .NotIn := by decide) : behindInMarks op b = false := by
  have e1 : (op == CmpOp.In) = false := by cases op <;> first | rfl | exact absurd rfl h
  have e2 : (op == CmpOp.NotIn) = false := by cases op <;> first | rfl | exact absurd rfl h2
  cases b <;> simp [behindInMarks, e1, e2]
/-- a comparison as a value; hm: nomark b, or (for in, not in) by with_unfolding_all rfl -/
theorem pe_cmpR {op : CmpOp} {r : R2} (ho : OpR X (compareOp op) r) (ha : PE X a ta) (hb : PE X b tb) (hm : behindInMarks op b = false) : PE X (.Compare a [op] [b] pos) (tOp r ta tb) := by
  intro pins s σ H Q I h
  exact wpAny_Compare1 (binT ha hb I h fun v u s2 x y H2 I2 rx ry q => ho pins s2 σ H2 x y v u Q I2 rx ry q) hm
/-- a reading of a value as a test -/
def tTest (t : TE) : TT := fun σ H Q => t σ H fun x H' => ∃ k, x = .bl k ∧ Q k H'
theorem pt_cmpR {op : CmpOp} {r : R2} (ho : OpR X (compareOp op) r) (ha : PE X a ta) (hb : PE X b tb) (hm : behindInMarks op b = false) : PT X (.Compare a [op] [b] pos) (tTest (tOp r ta tb)) := by
  intro pins s σ H Q I h
  refine wpAny_isTrue_Compare1 (thn (ha pins s σ H _ I h) fun v s1 ⟨x, H1, I1, r1, q1⟩ => thn (hb pins s1 σ H1 _ I1 q1) fun u s2 ⟨y, H2, I2, r2, q2⟩ =>
    thn (ho pins s2 σ H2 x y v u _ I2 r1 r2 q2) fun c s3 ⟨z, H3, I3, r3, k, e, q3⟩ => ?_) hm
  subst e
  cases r3
  exact wpAny_truthy_bool ⟨H3, I3, q3⟩
/-- a value's truth by the abstract heap -/
def TruV (K : PySem.W.Frag) (x : V) (H : Hp) (k : Bool) : Prop :=
  match x with
  | .non => k = false
  | .bl b => k = b
  | .int i => k = (i != 0)
  | .str y => y.length ≤ sizeLine ∧ k = ((y.length : Int) != 0)
  | .byt y => y.size ≤ sizeLine ∧ k = ((y.size : Int) != 0)
  | .ref p => (∃ xs, SqL K H p xs ∧ k = !xs.isEmpty) ∨ (∃ xs, SqT K H p xs ∧ k = !xs.isEmpty) ∨ ∃ kvs, H p = some (.dK kvs) ∧ k = !kvs.isEmpty
  | _ => False
theorem isEmpty_kv {κ : Type} {kvs : List (κ × V)} {vs : List (κ × Value)} (r : KV kvs vs) : (!vs.isEmpty) = !kvs.isEmpty := by
  cases r <;> rfl
theorem isEmpty_of {xs : List V} {its : List Value} (r : Vals xs its) : (!its.toArray.isEmpty) = !xs.isEmpty := by
  cases r <;> simp
theorem line63 : (sizeLine : Nat) < 2 ^ 63 := by rw [sizeLine_eq]; decide
theorem tru_ok : TruR X (fun x H Q => ∃ k, TruV X.K x H k ∧ Q k H) := by
  intro pins s σ H x v Q I rx h
  obtain ⟨k, e, q⟩ := h
  have hl := line63
  have hs : sizeLine = 16777216 := sizeLine_eq
  cases x with
  | non =>
    cases rx
    have e' : k = false := e
    subst e'
    exact truthy_none ⟨H, I, q⟩
  | bl b =>
    cases rx
    have e' : k = b := e
    subst e'
    exact wpAny_truthy_bool ⟨H, I, q⟩
  | int i =>
    obtain ⟨t, rfl⟩ := rx
    have e' : k = (i != 0) := e
    subst e'
    exact PySem.P.truthy_int ⟨H, I, q⟩
  | str y =>
    obtain ⟨t, rfl⟩ := rx
    obtain ⟨hy, e'⟩ : y.length ≤ sizeLine ∧ k = ((y.length : Int) != 0) := e
    subst e'
    exact PySem.P.truthy_str (by omega) ⟨H, I.tok _, q⟩
  | byt y =>
    obtain ⟨t, rfl⟩ := rx
    obtain ⟨hy, e'⟩ : y.size ≤ sizeLine ∧ k = ((y.size : Int) != 0) := e
    subst e'
    exact PySem.W.truthy_bytes (by omega) ⟨H, I.tok _, q⟩
  | ref p =>
    cases rx
    have e' : (∃ xs, SqL X.K H p xs ∧ k = !xs.isEmpty) ∨ (∃ xs, SqT X.K H p xs ∧ k = !xs.isEmpty) ∨ ∃ kvs, H p = some (.dK kvs) ∧ k = !kvs.isEmpty := e
    rcases e' with ⟨xs, hx, e'⟩ | ⟨xs, hx, e'⟩ | ⟨kvs, hx, e'⟩
    · subst e'
      obtain ⟨its, r, pl, hz⟩ := I.list hx
      have hlen := r.length
      exact wpAny_truthy_list pl.isList (by simp only [List.size_toArray]; omega) ⟨H, I.tok _, by rw [isEmpty_of r]; exact q⟩
    · subst e'
      obtain ⟨its, r, pl, hz⟩ := I.tuple hx
      have hlen := r.length
      exact truthy_tuple pl (by simp only [List.size_toArray]; omega) ⟨H, I.tok _, by rw [isEmpty_of r]; exact q⟩
    · subst e'
      obtain ⟨hz, hS, vs, r, m⟩ : kvs.length ≤ sizeLine ∧ (p == sysModules) = false ∧ ∃ vs, KV kvs vs ∧ s.heap.DictOf (mixKind X.prog X.w) p vs := I.hok p _ hx
      have hlen : kvs.length = vs.length := Paired.length r
      exact wpAny_truthy_dict hS m (by omega) ⟨H, I.tok _, by rw [isEmpty_kv r]; exact q⟩
  | _ => exact (show False from e).elim
/-- any expression whose test is its value's truth (a name, a call, a subscript, a field ..: he by fun _ => rfl) -/
theorem pt_truth (ha : PE X a ta) (he : ∀ whole, isTrue a X.env whole = (do let v ← whole; standAt a.pos; holding [v] (truthy v))) :
    PT X a (fun σ H Q => ta σ H fun x H' => ∃ k, TruV X.K x H' k ∧ Q k H') := by
  intro pins s σ H Q I h
  exact isTrue_plain (thn (ha pins s σ H _ I h) fun v s1 ⟨x, H1, I1, r1, q1⟩ => tru_ok pins s1 σ H1 x v Q I1 r1 q1) (he _)

theorem op_add_str : OpR X (binaryOp .Add) (fun x y H Q => ∃ i j, x = .str i ∧ y = .str j ∧ i.length + j.length ≤ sizeLine ∧ Q (.str (i ++ j)) H) := by
  intro pins s σ H x y v u Q I rx ry h
  obtain ⟨i, j, rfl, rfl, hz, q⟩ := h
  obtain ⟨t, rfl⟩ := rx
  obtain ⟨t', rfl⟩ := ry
  exact add_str (fun t' tk => ⟨.str (i ++ j), H, I.tok _, ⟨_, rfl⟩, q⟩) hz
theorem vals1 {x : V} {us : List Value} (r : Vals [x] us) : ∃ u, us = [u] ∧ RelV x u := by
  cases r with
  | cons r1 r2 => cases r2; exact ⟨_, rfl, r1⟩
theorem vals2 {x y : V} {us : List Value} (r : Vals [x, y] us) : ∃ u w', us = [u, w'] ∧ RelV x u ∧ RelV y w' := by
  cases r with
  | cons r1 r2 =>
    cases r2 with
    | cons r3 r4 => cases r4; exact ⟨_, _, rfl, r1, r3⟩
theorem call_abs : CallR X (.builtin "abs") (fun xs H Q => ∃ i, xs = [.int i] ∧ Q (.int (if i < 0 then -i else i)) H) := by
  intro pins s σ H xs us Q I r h
  obtain ⟨i, rfl, q⟩ := h
  obtain ⟨u, rfl, t, rfl⟩ := vals1 r
  exact call_abs_int fun u tk => ⟨.int (if i < 0 then -i else i), H, I.tok _, ⟨_, rfl⟩, q⟩
theorem call_min2 (hc : X.calm = true) : CallR X (.builtin "min") (fun xs H Q => ∃ i j, xs = [.int i, .int j] ∧ Q (.int (if j < i then j else i)) H) := by
  intro pins s σ H xs us Q I r h
  obtain ⟨i, j, rfl, q⟩ := h
  obtain ⟨u, w', rfl, ⟨t, rfl⟩, ⟨t', rfl⟩⟩ := vals2 r
  refine min_two_ints (I.ok.hd hc) fun h' tk k => ⟨_, H, I.kept k, ?_, q⟩
  by_cases hj : j < i
  · rw [if_pos hj, if_pos hj]; exact ⟨_, rfl⟩
  · rw [if_neg hj, if_neg hj]; exact ⟨_, rfl⟩
theorem call_int1 : CallR X (.type "int") (fun xs H Q => (∃ i, xs = [.int i] ∧ Q (.int i) H) ∨ ∃ k, xs = [.bl k] ∧ Q (.int (if k then 1 else 0)) H) := by
  intro pins s σ H xs us Q I r h
  rcases h with ⟨i, rfl, q⟩ | ⟨k, rfl, q⟩
  · obtain ⟨u, rfl, t, rfl⟩ := vals1 r
    exact call_int_int ⟨.int i, H, I, ⟨_, rfl⟩, q⟩
  · obtain ⟨u, rfl, r1⟩ := vals1 r
    cases r1
    exact call_int_bool ⟨.int (if k then 1 else 0), H, I.tok _, ⟨_, rfl⟩, q⟩
end
end L2

namespace L2
open PySem PySem.Spec PyProof.Rows

structure ObjM (h : Heap) (x dx C : Addr) (mA : Str → Option Value) : Prop where
  obj : h.get? x = some (PySem.W.instObj C dx)
  ns : h.Ns1 dx mA
  ne : dx ≠ x

theorem lookIn_ns {h : Heap} {dx : Addr} {mA : Str → Option Value} (n : h.Ns1 dx mA) : ∃ od, h.get? dx = some od ∧ ∀ name, PySem.W.lookIn name od = some (mA name) := by
  obtain ⟨o, es, ep, ho, hd, hk, _, hm⟩ := n
  refine ⟨o, ho, fun name => ?_⟩
  have e := hm name
  unfold nsFind findBy at e
  rw [← Array.find?_toList] at e
  unfold PySem.W.lookIn
  rw [hd]
  dsimp only
  split
  · rename_i y q
    rw [q] at e
    exact congrArg some e
  · rename_i q
    rw [q] at e
    have a : es.toList.any (·.refKey) = false := by
      rw [List.any_eq_false]
      intro y hy
      obtain ⟨z, t, hkey⟩ := hk y (Array.mem_toList_iff.mp hy)
      simp [DictEntry.refKey, hkey]
    have a' : ¬ es.toList.any (·.refKey) = true := by rw [a]; exact Bool.false_ne_true
    rw [if_neg a']
    exact congrArg some e

theorem ObjM.look {h : Heap} {x dx C : Addr} {mA : Str → Option Value} (I : ObjM h x dx C mA) : ∃ od, PySem.W.InstAt h x (PySem.W.instObj C dx) C (some od) ∧ ∀ name, PySem.W.lookIn name od = some (mA name) :=
  let ⟨od, ho, hl⟩ := lookIn_ns I.ns
  ⟨od, ⟨I.obj, rfl, rfl, ho⟩, hl⟩

section
variable {prog : Program} {w : World} {A : Around} {E : Value → Shared → Prop} {s : Shared} {K : PySem.W.Frag} {x dx C f : Addr} {mA : Str → Option Value} {name : Str} {v : Value}

end

section
variable {P : Program} {w : World} {H H' : Hp} {h h' : Heap} {a C dx : Addr} {fs fs' : List (Str × V)}
end

structure Cls (K : PySem.W.Frag) (C : Addr) : Prop where
  pg : PySem.W.plainGet K C Str.empty = true
  hd : PySem.W.hasDictIn K C = true
  po : PySem.W.plainOver K C = true
  sa : PySem.W.findIn K (.ref C) "__setattr__" = some (some (.builtin "object.__setattr__"))
theorem Cls.get {K : PySem.W.Frag} {C : Addr} (c : Cls K C) (f : Str) : PySem.W.plainGet K C f = true := c.pg
section
variable {X : Cx} {pins : List (Addr × Obj)} {σ : St} {H : Hp} {s : Shared} {a C dx : Addr} {fs : List (Str × V)} {f : Str} {v : V} {A : Around} {E : Value → Shared → Prop}

/-- a new instance, tracked, without attributes -/
theorem Inv.made (I : Inv X pins σ H s) : Inv X pins σ (upd (upd H s.heap.objs.size (.own (s.heap.objs.size + 1))) (s.heap.objs.size + 1) (.ins C s.heap.objs.size []))
    { s with heap := (s.heap.push PySem.W.emptyDict).push (PySem.W.instObj C s.heap.objs.size) } := by
  have e1 : (s.heap.push PySem.W.emptyDict).get? s.heap.objs.size = some PySem.W.emptyDict := Heap.get?_push_size s.heap rfl
  have e2 : ((s.heap.push PySem.W.emptyDict).push (PySem.W.instObj C s.heap.objs.size)).get? (s.heap.objs.size + 1) = some (PySem.W.instObj C s.heap.objs.size) := by
    have := Heap.get?_push_size (s.heap.push PySem.W.emptyDict) (o := PySem.W.instObj C s.heap.objs.size) rfl
    rwa [Heap.size_push] at this
  have e3 : (s.heap.push PySem.W.emptyDict).Ns s.heap.objs.size (fun _ => none) := ⟨PySem.W.emptyDict, #[], _, e1, rfl, (fun e he => absurd he (by simp)), fun _ => rfl⟩
  have I1 := I.laid (a := s.heap.objs.size) (o := .own (s.heap.objs.size + 1)) (h' := s.heap.push PySem.W.emptyDict) (t' := s.toks) (fun b u q => Heap.get?_push_of_some _ q) (Nat.le_refl _) ⟨_, e1⟩
  refine I1.laid (a := s.heap.objs.size + 1) (o := .ins C s.heap.objs.size []) (t' := s.toks) (fun b u q => Heap.get?_push_of_some _ q) (Nat.le_of_eq (Heap.size_push _ _)) ?_
  have ne : s.heap.objs.size ≠ s.heap.objs.size + 1 := Nat.ne_of_lt (Nat.lt_succ_self _)
  refine ⟨by rw [upd_ne ne, upd_same], Nat.zero_le _, ne, e2, fun _ => none, (Heap.Ns1.of_empty e3).at fun o q => Heap.get?_push_of_some _ q, fun _ => True.intro, fun y hy => absurd rfl hy⟩

end

section
variable {X : Cx} {o e value : Expr} {f : Str} {pos pos' tpos : Pos} {ta tv : TE}
end

section
variable {X : Cx} {pins : List (Addr × Obj)} {σ : St} {H : Hp} {s : Shared} {A : Around} {E : Value → Shared → Prop} {Q : Value → Shared → Prop} {c : Value} {b : Bool}
end
end L2

namespace L2
open PySem PySem.Spec PyProof.Rows

structure Room (k : Nat) (A : Around) : Prop where
  hd : A.handled = none
  dp : A.depth + 3 * k + 5 < recursionLimit
  un : A.units + 16 * k + 200 < cLine
  gd : A.guards = some []
theorem Room.mono {j k : Nat} {A : Around} (r : Room k A) (h : j ≤ k) : Room j A := ⟨r.hd, by have := r.dp; omega, by have := r.un; omega, r.gd⟩
theorem Room.deeper {k : Nat} {A : Around} (r : Room (k + 1) A) (env : Env) : Room k (A.deeper env) :=
  ⟨r.hd, by have := r.dp; show A.depth + 1 + 3 * k + 5 < _; omega, by have := r.un; show A.units + 3 + 16 * k + 200 < _; omega, r.gd⟩
theorem Room.in1 {k : Nat} {A : Around} (r : Room (k + 1) A) : Room k A.in1 :=
  ⟨r.hd, by have := r.dp; show A.depth + 3 * k + 5 < _; omega, by have := r.un; show A.units + 1 + 16 * k + 200 < _; omega, r.gd⟩
theorem Room.depth {k : Nat} {A : Around} (r : Room k A) : A.depth < recursionLimit := by have := r.dp; omega
theorem Room.units {k : Nat} {A : Around} (r : Room k A) : A.units + 64 < cLine := by have := r.un; omega
theorem Room.units0 {k : Nat} {A : Around} (r : Room k A) : A.units < cLine := by have := r.un; omega

def tNil : TA := fun _ H Q => Q [] H
def tCons (ta : TE) (tr : TA) : TA := fun σ H Q => ta σ H fun x H1 => tr σ H1 fun xs H2 => Q (x :: xs) H2
section
variable {X : Cx} {e : Expr} {es : List Expr} {te : TE} {t : TA} {pos : Pos}
theorem pa_nil : PA X [] tNil := fun _ _ _ _ H Q I h => Calls.spliced_nil ⟨[], H, I, .nil, h⟩
theorem pa_cons (ha : PE X e te) (hr : PA X es t) (hs : starEach (e :: es) X.env = (false, eval e X.env) :: starEach es X.env := by rfl) : PA X (e :: es) (tCons te t) := by
  intro pos pins s σ H Q I h
  rw [hs]
  show wpAny _ _ (spliced ((false, eval e X.env) :: backTo pos (starEach es X.env))) _ _ s
  refine Calls.spliced_cons (thn (ha pins s σ H _ I h) fun u s1 ⟨x, H1, I1, r1, q1⟩ => ?_)
  exact thn (hr pos pins s1 σ H1 _ I1 q1) fun us s2 ⟨xs, H2, I2, r2, q2⟩ => ⟨x :: xs, H2, I2, .cons r1 r2, q2⟩

/-- a tuple, a list of written items -/
def tTup (t : TA) : TE := fun σ H Q => t σ H fun xs H1 => xs.length ≤ sizeLine ∧ ∀ p, H1 p = none → Q (.ref p) (upd H1 p (.tup xs))
def tLst (t : TA) : TE := fun σ H Q => t σ H fun xs H1 => xs.length ≤ sizeLine ∧ ∀ p, H1 p = none → Q (.ref p) (upd H1 p (.lst xs))
theorem pe_tup {x1} (h : PA X es t) : PE X (.Tuple es x1 pos) (tTup t) := by
  intro pins s σ H Q I hq
  refine wpAny_Tuple_spliced (thn (h pos pins s σ H _ I hq) fun us s1 ⟨xs, H1, I1, r, z, q⟩ => ⟨by rw [← r.length]; exact z, ?_⟩)
  have hf : H1 s1.heap.objs.size = none := I1.hok.fresh (Nat.le_refl _)
  refine ⟨.ref s1.heap.objs.size, upd H1 s1.heap.objs.size (.tup xs), I1.laid (t' := s1.toks) (fun b u e => Heap.get?_push_of_some _ e) (Nat.le_refl _) ?_, rfl, q _ hf⟩
  exact ⟨z, us, r, IsTup1.new _ _⟩
theorem pe_lst (h : PA X es t) : PE X (.List es pos) (tLst t) := by
  intro pins s σ H Q I hq
  refine wpAny_List_spliced (thn (h pos pins s σ H _ I hq) fun us s1 ⟨xs, H1, I1, r, z, q⟩ => ⟨by rw [← r.length]; exact z, ?_⟩)
  have hf : H1 s1.heap.objs.size = none := I1.hok.fresh (Nat.le_refl _)
  refine ⟨.ref s1.heap.objs.size, upd H1 s1.heap.objs.size (.lst xs), I1.laid (t' := s1.toks) (fun b u e => Heap.get?_push_of_some _ e) (Nat.le_refl _) ?_, rfl, q _ hf⟩
  exact ⟨z, us, 0, r, Heap.get?_push_size _ rfl⟩
end

/-- a def's promise: the bound arguments in the parameters' order, the heap, the wanted end, the wanted exception -/
abbrev Sp := List V → Hp → VK → XK → Prop
/-- how an exception lies behind a call (file 08 gives it): the callers' frames, abstract heap and state ahead of the call, the wish, the exception, the state -/
abbrev CXT := List Env → Hp → Shared → XK → Value → Shared → Prop

/-- the state at a call -/
structure Env0 (P : Program) (w : World) (K : PySem.W.Frag) (mg : Str → Option Value) (base : Heap) (A : Around) (outer : List Env) (s : Shared) (H : Hp) : Prop where
  frames : A.frames = some outer
  mod : Mod K mg base
  bs : ∀ b o, base.get? b = some o → s.heap.get? b = some o ∧ H b = none
  bsz : base.objs.size ≤ s.heap.objs.size
  funs : s.heap.FunFrames base outer
  frf : ∀ b ∈ frs outer, H b = none
  hok : HOk P w H s.heap
  bare : AllBare s.gens
/-- a call's end -/
def CE (outer : List Env) (P : Program) (w : World) (H : Hp) (s : Shared) (Q : VK) (u : Value) (s' : Shared) : Prop :=
  ∃ v H', s'.os = s.os ∧ AllBare s'.gens ∧ Un (frs outer) [] H H' s.heap s'.heap ∧ HOk P w H' s'.heap ∧ RelV v u ∧ Q v H'
def CR (CX : CXT) (outer : List Env) (P : Program) (w : World) (H : Hp) (s : Shared) (Q : VK) (E : XK) (r : Result) (s' : Shared) : Prop :=
  match r with
  | .ok (.ret u) => CE outer P w H s Q u s'
  | .ok _ => False
  | .error e => CX outer H s E e s'
structure FnOk (P : Program) (w : World) (K : PySem.W.Frag) (mg : Str → Option Value) (base : Heap) (CX : CXT) (k : Nat) (f : Addr) (fd : FuncData) (ps : List Str) (sp : Sp) : Prop where
  len : ∀ vs H Q E, sp vs H Q E → vs.length = ps.length
  run : ∀ (A : Around) (outer : List Env) (s : Shared) (H : Hp) (args : Args) (us : List Value) (vs : List V) (Q : VK) (E : XK), Room k A → Env0 P w K mg base A outer s H → BindsTo s fd args (ps.zip us) → Vals vs us → sp vs H Q E →
    codeAny (model P w) A (.call (.ref f) args) (CR CX outer P w H s Q E) s
theorem FnOk.mono {P : Program} {w : World} {K : PySem.W.Frag} {mg : Str → Option Value} {base : Heap} {CX : CXT} {j k : Nat} {f : Addr} {fd : FuncData} {ps : List Str} {sp : Sp} (F : FnOk P w K mg base CX j f fd ps sp) (h : j ≤ k) :
    FnOk P w K mg base CX k f fd ps sp := ⟨F.len, fun A outer s H args us vs Q E hr => F.run A outer s H args us vs Q E (hr.mono h)⟩
/-- a weaker promise -/
theorem FnOk.imp {P : Program} {w : World} {K : PySem.W.Frag} {mg : Str → Option Value} {base : Heap} {CX : CXT} {k : Nat} {f : Addr} {fd : FuncData} {ps : List Str} {sp sp' : Sp} (F : FnOk P w K mg base CX k f fd ps sp)
    (h : ∀ vs H Q E, sp' vs H Q E → sp vs H Q E) : FnOk P w K mg base CX k f fd ps sp' :=
  ⟨fun vs H Q E q => F.len vs H Q E (h _ _ _ _ q), fun A outer s H args us vs Q E hr he hb hv hs => F.run A outer s H args us vs Q E hr he hb hv (h _ _ _ _ hs)⟩

theorem Env0.in1 {P : Program} {w : World} {K : PySem.W.Frag} {mg : Str → Option Value} {base : Heap} {A : Around} {outer : List Env} {s : Shared} {H : Hp} (e : Env0 P w K mg base A outer s H) :
    Env0 P w K mg base A.in1 outer s H := ⟨e.frames, e.mod, e.bs, e.bsz, e.funs, e.frf, e.hok, e.bare⟩

section
variable {X : Cx} {pins : List (Addr × Obj)} {σ : St} {H : Hp} {s s' : Shared}
/-- from a body: what a callee wants -/
theorem Inv.env0 (I : Inv X pins σ H s) : Env0 X.prog X.w X.K X.mg X.base X.A X.stack s H :=
  ⟨I.ok.frames, I.ok.mod, I.bs, Nat.le_trans I.ok.bsz I.sz, I.stack, I.stkFree, I.hok, I.bare⟩
/-- behind a call -/
theorem Inv.after {Q : VK} {u : Value} (I : Inv X pins σ H s) (h : CE X.stack X.prog X.w H s Q u s') : EP X pins σ Q u s' := by
  obtain ⟨v, H', os, bare, un, hok, r, q⟩ := h
  obtain ⟨hh, g, d, t, os'⟩ := s'
  obtain rfl : os' = s.os := os
  exact ⟨v, H', I.call (h' := hh) (g' := g) (d' := d) (t' := t) (ch := []) un hok bare (fun b z => absurd z (by simp)), r, q⟩
end

/-- f(..): the written arguments, then the defaults dvs; E: what is wanted of an exception -/
def tCall (sp : Sp) (dvs : List V) (E : XK) (t : TA) : TE := fun σ H Q => t σ H fun vs H1 => sp (vs ++ dvs) H1 Q E
/-- how the parameters are bound: us the positional arguments, kw the keywords' values by name, ds the defaults that fill up -/
def Binds (K : PySem.W.Frag) (fd : FuncData) (ps : List Str) (ds : List Value) : Prop :=
  ∀ (s : Shared) (us : List Value), K.In s.heap → (us ++ ds).length = ps.length → BindsTo s fd ⟨us, []⟩ (ps.zip (us ++ ds))
/-- every parameter is given -/
theorem Binds.all {K : PySem.W.Frag} {fd : FuncData} {ps : List Str} (h : ∀ us : List Value, us.length = ps.length → bindArgs fd ⟨us, []⟩ = pure (ps.zip us)) : Binds K fd ps [] := fun s us _ hl => by
  rw [List.append_nil] at hl ⊢
  exact .of_eq (h us hl)

/-- an exception of a callee reaches what this body wants of exceptions -/
def Passes (CX : CXT) (X : Cx) (E : XK) : Prop := ∀ (pins : List (Addr × Obj)) (σ : St) (H : Hp) (s : Shared) (e : Value) (s' : Shared), Inv X pins σ H s → CX X.stack H s E e s' → X.xe e s'

section
variable {X : Cx} {CX : CXT} {k : Nat} {f C : Addr} {fd : FuncData} {ps : List Str} {sp : Sp} {dvs : List V} {ds : List Value} {E : XK} {x m : Str} {p pos apos : Pos} {e o : Expr} {es : List Expr} {ta : TE} {t : TA}

/-- the callee runs -/
theorem run_fn {pins : List (Addr × Obj)} {σ : St} {H : Hp} {s : Shared} {Q : VK} {us : List Value} {vs : List V} (F : FnOk X.prog X.w X.K X.mg X.base CX k f fd ps sp) (hr : Room k X.A) (hb : Binds X.K fd ps ds) (hd : Vals dvs ds) (hx : Passes CX X E)
    (I : Inv X pins σ H s) (r : Vals vs us) (h : sp (vs ++ dvs) H Q E) : wpAny (model X.prog X.w) X.A (call (.ref f) us) (EP X pins σ Q) X.xe s := by
  have r2 : Vals (vs ++ dvs) (us ++ ds) := r.append hd
  have hl : (us ++ ds).length = ps.length := by rw [← r2.length]; exact F.len _ _ _ _ h
  refine wpAny_call (codeAny_mono (F.run X.A X.stack s H ⟨us, []⟩ (us ++ ds) (vs ++ dvs) Q E hr I.env0 (hb s us I.kIn hl) r2 h) fun r s' hq => ?_)
  cases r with
  | error e => exact hx pins σ H s e s' I hq
  | ok fl =>
    cases fl with
    | ret u => exact I.after hq
    | next => exact False.elim hq
    | brk => exact False.elim hq
    | cont => exact False.elim hq

theorem pe_call (F : FnOk X.prog X.w X.K X.mg X.base CX k f fd ps sp) (hr : Room k X.A) (hg : Gl X x) (hm : X.mg x = some (.ref f)) (hk : PySem.W.keepIn X.K (.ref f) = true) (hb : Binds X.K fd ps ds) (hd : Vals dvs ds) (hx : Passes CX X E)
    (ha : PA X (e :: es) t) (hdb : (x == ("__debug__" : Str)) = false := by decide) (he : starEach (e :: es) X.env = (false, eval e X.env) :: starEach es X.env := by rfl) (hpl : (backTo pos (starEach es X.env)).any (·.1) = false := by rfl) :
    PE X (.Call (.Name x p) (e :: es) [] pos) (tCall sp dvs E t) := by
  intro pins s σ H Q I h
  refine wpAny_Call_Name_kw (ld_glob I hg hm ?_ hdb)
  refine PySem.W.callWith_K (h₀ := X.base) I.ok.mod.kin hk (thn (ha pos pins s σ H _ I h) fun us s1 ⟨vs, H1, I1, r, q⟩ => ⟨I1.kIn, ?_⟩) he hpl
  exact run_fn F hr hb hd hx I1 r q
end

section
variable {X : Cx} {CX : CXT} {k : Nat} {f C : Addr} {fd : FuncData} {ps ks : List Str} {sp : Sp} {E : XK} {x m : Str} {p pos apos kpos : Pos} {e o : Expr} {es : List Expr} {kws : List Keyword} {te ta : TE} {t tk : TA} {nm : Option Str}
variable {g : List Value → List Value → List Value} {gV : List V → List V → List V}
end

/-- names: the parameters first -/
structure FnScope (N P : List Str) (sc : Scope) : Prop where
  kind : sc.kind = .function
  co : sc.isCoroutine = false
  gen : sc.isGenerator = false
  nd : N.Nodup
  pre : N.take P.length = P
  par : ∀ x ∈ P, sc.names.lookup x = some .local ∨ sc.names.lookup x = some .cell
  nofree : ∀ y ∈ sc.names, y.2 ≠ .free

theorem bindL_out {kindOf : Str → Option NameKind} {x : Str} : ∀ {binds : List (Str × Value)} {m : Str → Option Value}, (∀ v, (x, v) ∉ binds) → bindL kindOf binds m x = m x
  | [], _, _ => rfl
  | (n, v) :: r, m, h => by
    unfold bindL
    rw [bindL_out fun w hw => h w (List.mem_cons_of_mem _ hw)]
    split
    · have : x ≠ n := by rintro rfl; exact h v List.mem_cons_self
      simp [this]
    · rfl
theorem bindC_out {kindOf : Str → Option NameKind} {x : Str} : ∀ {binds : List (Str × Value)} {m : Str → Option Value}, (∀ v, (x, v) ∉ binds) → bindC kindOf binds m x = m x
  | [], _, _ => rfl
  | (n, v) :: r, m, h => by
    unfold bindC
    rw [bindC_out fun w hw => h w (List.mem_cons_of_mem _ hw)]
    split
    · rfl
    · have : x ≠ n := by rintro rfl; exact h v List.mem_cons_self
      simp [this]
theorem bindL_get {kindOf : Str → Option NameKind} {x : Str} {v : Value} : ∀ {P : List Str} {vs : List Value} {i : Nat} {m : Str → Option Value}, P.Nodup → P[i]? = some x → vs[i]? = some v → kindOf x = some .local →
    bindL kindOf (P.zip vs) m x = some v
  | [], _, _, _, _, h, _, _ => by simp at h
  | _ :: _, [], _, _, _, _, h, _ => by simp at h
  | p :: P, w :: vs, 0, m, nd, h1, h2, hk => by
    simp at h1 h2; subst h1; subst h2
    show bindL kindOf ((p, w) :: P.zip vs) m p = _
    unfold bindL
    rw [bindL_out fun v hv => (List.nodup_cons.mp nd).1 (List.of_mem_zip hv).1, if_pos hk]
    simp
  | p :: P, w :: vs, i + 1, m, nd, h1, h2, hk => by
    show bindL kindOf ((p, w) :: P.zip vs) m x = _
    unfold bindL
    exact bindL_get (i := i) (List.nodup_cons.mp nd).2 (by simpa using h1) (by simpa using h2) hk
theorem bindC_get {kindOf : Str → Option NameKind} {x : Str} {v : Value} : ∀ {P : List Str} {vs : List Value} {i : Nat} {m : Str → Option Value}, P.Nodup → P[i]? = some x → vs[i]? = some v → kindOf x ≠ some .local →
    bindC kindOf (P.zip vs) m x = some v
  | [], _, _, _, _, h, _, _ => by simp at h
  | _ :: _, [], _, _, _, _, h, _ => by simp at h
  | p :: P, w :: vs, 0, m, nd, h1, h2, hk => by
    simp at h1 h2; subst h1; subst h2
    show bindC kindOf ((p, w) :: P.zip vs) m p = _
    unfold bindC
    rw [bindC_out fun v hv => (List.nodup_cons.mp nd).1 (List.of_mem_zip hv).1, if_neg hk]
    simp
  | p :: P, w :: vs, i + 1, m, nd, h1, h2, hk => by
    show bindC kindOf ((p, w) :: P.zip vs) m x = _
    unfold bindC
    exact bindC_get (i := i) (List.nodup_cons.mp nd).2 (by simpa using h1) (by simpa using h2) hk

/-- the names' values at the entry -/
def start (N : List Str) (vs : List V) : St := vs.map some ++ List.replicate (N.length - vs.length) none

/-- the context of a def's body, at its entry; an exception leaves the frame, then lies as CX says -/
def cxOf (CX : CXT) (P : Program) (w : World) (K : PySem.W.Frag) (mg : Str → Option Value) (base : Heap) (N : List Str) (qual : Str) (scope : Scope) (f : Addr) (cd : Value) (A : Around) (outer : List Env) (s : Shared) (H : Hp) (E : XK) : Cx where
  prog := P
  w := w
  K := K
  mg := mg
  base := base
  A := A.deeper (envOfC qual scope s.heap.objs.size f cd)
  N := N
  s₀ := s
  H₀ := H
  env := envOfC qual scope s.heap.objs.size f cd
  outer := outer
  stack := envOfC qual scope s.heap.objs.size f cd :: outer
  ex := []
  calm := true
  fn := fun _ => true
  pn := []
  xe := fun e s' => wpAny (model P w) (A.deeper (envOfC qual scope s.heap.objs.size f cd)) (leaving (envOfC qual scope s.heap.objs.size f cd) e) (fun _ s'' => CX outer H s E e s'') (fun e' s'' => CX outer H s E e' s'') s'

theorem cell_has {sc : Scope} {n : Nat} {x : Str} (h : sc.names.lookup x = some .cell) : ∃ c, (cellsFrom n sc.names []).lookup x = some c := by
  have q := PySem.W.cellsFrom_some sc.names n [] (.inl h)
  exact Option.isSome_iff_exists.mp q

theorem inv_start {CX : CXT} {P : Program} {w : World} {K : PySem.W.Frag} {mg : Str → Option Value} {base : Heap} {N ps : List Str} {qual : Str} {scope : Scope} {f : Addr} {cd : Value} {A : Around} {outer : List Env} {s s1 : Shared} {H : Hp} {E : XK} {us : List Value} {vs : List V}
    (S : FnScope N ps scope) (hd : A.handled = none) (e0 : Env0 P w K mg base A outer s H) (hl : vs.length = ps.length) (r : Vals vs us)
    (x : InCallC s s.heap.objs.size (bindL (envOfC qual scope s.heap.objs.size f cd).kindOf (ps.zip us) fun _ => none) (cellsFrom (s.heap.objs.size + 1) scope.names []) (bindC (envOfC qual scope s.heap.objs.size f cd).kindOf (ps.zip us) fun _ => none) s1) :
    Inv (cxOf CX P w K mg base N qual scope f cd A outer s H E) [] (start N vs) H s1 := by
  have hpl : ps.length ≤ N.length := by have := congrArg List.length S.pre; rw [List.length_take] at this; omega
  obtain ⟨h1, tk, rfl, hk⟩ := x.done
  have noA : ∀ b : Addr, b ∉ (cxOf CX P w K mg base N qual scope f cd A outer s H E).ex := fun b z => absurd (show b ∈ ([] : List Addr) from z) (by simp)
  refine ⟨⟨e0.mod, S.kind, rfl, rfl, Nat.le_refl _, fun y z c h1 h2 => ?_, fun y hy => ?_, fun y c _ h => ?_, fun _ => hd, Around.frames_deeper e0.frames, .inr ⟨rfl, rfl⟩, fun b z => absurd z (noA b), e0.bs, e0.bsz, fun b _ _ => noA b, fun b z => absurd z (noA b), e0.funs, e0.frf⟩,
    rfl, e0.bare, Un.kept hk, ⟨_, x.toInCall.ns, fun i y v h1 h2 h3 => ?_⟩, fun y c h => ⟨_, x.cell y c h⟩, e0.hok.fresh (Nat.le_refl _), fun y c h => ?_, fun p hp => absurd (show p ∈ ([] : List (Addr × Obj)) from hp) (by simp), e0.hok.kept hk, ?_⟩
  · exact name_of_addr x.apart (PySem.mem_of_lookup h1) (PySem.mem_of_lookup h2)
  · have hy : scope.names.lookup y = some .cell ∨ scope.names.lookup y = some .free := hy
    rcases hy with hy | hy
    · exact cell_has hy
    · exact absurd rfl (S.nofree _ (PySem.mem_of_lookup hy))
  · exact Nat.le_of_lt (x.above y c (PySem.mem_of_lookup h))
  · have hi : i < vs.length := by
      unfold start at h2
      by_cases hi : i < vs.length
      · exact hi
      · rw [List.getElem?_append_right (by simpa using hi)] at h2
        rw [List.getElem?_replicate] at h2
        split at h2 <;> cases h2
    have ha : vs[i]? = some v := by
      unfold start at h2
      rw [List.getElem?_append_left (by simpa using hi), List.getElem?_map] at h2
      cases e : vs[i]? with
      | none => rw [e] at h2; cases h2
      | some a => rw [e] at h2; cases h2; rfl
    obtain ⟨u, hu, rv⟩ := r.get ha
    have hp : ps[i]? = some y := by
      rw [← S.pre, List.getElem?_take_of_lt (by omega)]; exact h1
    have ndP : ps.Nodup := by rw [← S.pre]; exact S.nd.sublist (List.take_sublist _ _)
    refine ⟨u, rv, ?_⟩
    rcases S.par y (List.mem_of_getElem? hp) with k | k
    · exact .inl ⟨k, bindL_get ndP hp hu k⟩
    · obtain ⟨c, e⟩ := cell_has (n := s.heap.objs.size + 1) k
      refine .inr ⟨.inl k, c, e, ?_⟩
      have q := x.cell y c e
      rw [bindC_get ndP hp hu (by show scope.names.lookup y ≠ _; rw [k]; decide)] at q
      exact q
  · exact e0.hok.fresh (Nat.le_of_lt (x.above y c (PySem.mem_of_lookup h)))
  · unfold start
    show _ = N.length
    rw [List.length_append, List.length_map, List.length_replicate]
    omega

/-- THE RULE: a def (or a method) of the text, by its body. The body's reading t is chosen for each entry; it is run at the parameters' values -/
theorem fn_of {CX : CXT} {P : Program} {w : World} {K : PySem.W.Frag} {mg : Str → Option Value} {base : Heap} {k : Nat} {f : Addr} {name qual : Str} {params : Arguments} {body : List Stmt} {scope : Scope} {dV kV doc pm cdv ct oc : Value} {an od : Option Addr}
    {osl : Array (Option Value)} {N ps : List Str} {sp : Sp} (lk : K.lookup f = some ⟨oc, od, .func (PySem.W.fnOf name qual params body scope dV kV doc pm an cdv ct), osl⟩) (hcd : PySem.W.codeIn K cdv qual = true) (S : FnScope N ps scope)
    (len : ∀ vs H Q E, sp vs H Q E → vs.length = ps.length)
    (hbody : ∀ (A : Around) (outer : List Env) (s : Shared) (H : Hp) (vs : List V) (Q : VK) (E : XK), Room k (A.deeper (envOfC qual scope s.heap.objs.size f cdv)) → sp vs H Q E →
      ∃ t, PSs (cxOf CX P w K mg base N qual scope f cdv A outer s H E) body t ∧ t { nx := fun _ H' => Q .non H', rt := Q } (start N vs) H) :
    FnOk P w K mg base CX (k + 1) f (PySem.W.fnOf name qual params body scope dV kV doc pm an cdv ct) ps sp := by
  refine ⟨len, fun A outer s H args us vs Q E hr e0 hb r hsp => ?_⟩
  have hl := len _ _ _ _ hsp
  have KX : K.In s.heap := e0.mod.kin.keeps fun b o e => (e0.bs b o e).1
  have lim : s.heap.NoLimit := e0.mod.nolimit.keeps fun b o e => (e0.bs b o e).1
  have hkind : ∀ y ∈ ps.zip us, scope.names.lookup y.1 = some .local ∨ (scope.names.lookup y.1 = some .cell ∧ ((cellsFrom (s.heap.objs.size + 1) scope.names []).lookup y.1).isSome = true) := fun ⟨n, v⟩ hy => by
    rcases S.par n (List.of_mem_zip hy).1 with q | q
    · exact .inl q
    · exact .inr ⟨q, PySem.W.cellsFrom_some _ _ _ (.inl q)⟩
  refine codeAny_call_function hr.depth (KX _ _ lk) rfl S.co S.gen rfl (PySem.W.codeRec_of KX hcd) (hb _ _ _ _ ?_)
  refine wpAny_newFunctionEnv_cells S.kind hkind fun env he s1 x => ?_
  subst he
  refine ⟨lim.keeps x.toInCall.keep, codeAny_func ?_⟩
  obtain ⟨t, ht, hq⟩ := hbody A outer s H vs Q E (hr.deeper _) hsp
  have I : Inv (cxOf CX P w K mg base N qual scope f cdv A outer s H E) [] (start N vs) H s1 := inv_start S hr.hd e0 hl r x
  refine wpAny_mono (ht [] s1 (start N vs) H _ I hq) (fun fl s' hs => ?_) fun e s' hs => hs
  have fin : ∀ {σ' : St} {H' : Hp} {v : V} {u : Value}, Inv (cxOf CX P w K mg base N qual scope f cdv A outer s H E) [] σ' H' s' → RelV v u → Q v H' → CE outer P w H s Q u s' :=
    fun {σ' H' v u} J rv q => ⟨v, H', J.os, J.bare, J.base, J.hok, rv, q⟩
  cases fl with
  | ret u =>
    obtain ⟨v, σ', H', J, rv, q⟩ := hs
    exact fin J rv q
  | next =>
    obtain ⟨σ', H', J, q⟩ := hs
    exact fin (v := V.non) (u := Value.none) J rfl q
  | brk =>
    obtain ⟨_, _, _, q⟩ := hs
    exact False.elim q
  | cont =>
    obtain ⟨_, _, _, q⟩ := hs
    exact False.elim q
end L2

namespace L2
open PySem PySem.Spec PyProof.Rows
section
variable {X : Cx} {x : Str} {p pos : Pos} {e : Expr} {es : List Expr} {t : TA} {id T : String} {r : List V → Hp → VK → Prop}

def tCB (r : List V → Hp → VK → Prop) (t : TA) : TE := fun σ H Q => t σ H fun vs H1 => r vs H1 Q
/-- f(e, ..), f a built-in function -/
theorem pe_callB (hc : CallR X (.builtin id) r) (hg : Gl X x) (hm : X.mg x = none) (hv : bootBuiltins x = some (.builtin id)) (ha : PA X (e :: es) t) (hn : x ≠ "__name__" := by decide) (hdb : (x == ("__debug__" : Str)) = false := by decide)
    (he : starEach (e :: es) X.env = (false, eval e X.env) :: starEach es X.env := by rfl) (hpl : (backTo pos (starEach es X.env)).any (·.1) = false := by rfl) : PE X (.Call (.Name x p) (e :: es) [] pos) (tCB r t) := by
  intro pins s σ H Q I h
  refine wpAny_Call_Name_kw (ld_blt I hg hm hv ?_ hn hdb)
  exact PyProof.Rows.callWith_builtin1 (thn (ha pos pins s σ H _ I h) fun us s1 ⟨vs, H1, I1, r1, q1⟩ => hc pins s1 σ H1 vs us Q I1 r1 q1) he hpl
/-- T(e, ..), T a built-in type -/
theorem pe_callTy (hc : CallR X (.type T) r) (hg : Gl X x) (hm : X.mg x = none) (hv : bootBuiltins x = some (.type T)) (ha : PA X (e :: es) t) (hn : x ≠ "__name__" := by decide) (hdb : (x == ("__debug__" : Str)) = false := by decide)
    (he : starEach (e :: es) X.env = (false, eval e X.env) :: starEach es X.env := by rfl) (hpl : (backTo pos (starEach es X.env)).any (·.1) = false := by rfl) : PE X (.Call (.Name x p) (e :: es) [] pos) (tCB r t) := by
  intro pins s σ H Q I h
  refine wpAny_Call_Name_kw (ld_blt I hg hm hv ?_ hn hdb)
  exact PyProof.Rows.callWith_type1 (thn (ha pos pins s σ H _ I h) fun us s1 ⟨vs, H1, I1, r1, q1⟩ => hc pins s1 σ H1 vs us Q I1 r1 q1) he hpl
end
end L2

namespace HT
open PySem PyProof.Rows

section
open PySem.SeqAt
open PySem.AutoSeq1 (wpAny_loadPart')
open PySem.MeetsSeq PySem.MeetsSeq2 PySem.MeetsSeq3

end

section
variable {prog : Program} {w : World} {A : Around} {E : Value → Shared → Prop} {s : Shared}

/-- t + u, t not empty -/
theorem cat_tup {t b : Addr} {vs ws : List Value} {Q : Value → Shared → Prop} (ht : IsTup s.heap t vs.toArray) (hb : IsTup s.heap b ws.toArray) (hv : vs ≠ [])
    (h1 : ws = [] → Q (.ref t) s) (h2 : ws ≠ [] → Q (.ref s.heap.objs.size) { s with heap := s.heap.push { cls := .type "tuple", data := .seq (vs ++ ws).toArray } })
    (hsz : vs.length + ws.length ≤ sizeLine) : wpAny (model prog w) A (binaryOp .Add (.ref t) (.ref b)) Q E s := by
  obtain ⟨⟨cls, dd, data, sl⟩, ho, hc, n, hd⟩ := id ht
  obtain ⟨⟨cls2, dd2, data2, sl2⟩, ho2, hc2, n2, hd2⟩ := id hb
  simp only at hc hd hc2 hd2
  subst hc hd hc2 hd2
  have e : vs.toArray ++ ws.toArray = (vs ++ ws).toArray := by simp
  by_cases hw : ws = []
  · exact concat_meets ⟨_, ho, rfl⟩ ⟨_, ho2, rfl⟩ noFill_tuple_add seq_tuple_add PySem.F.slot_tuple_add PySem.F.entry_tuple_add (PySem.F.args_tuple_add_2 _ _)
      (tuple_addW1 t b vs.toArray ws.toArray n n2 dd dd2 sl sl2 (by simpa using hv) (by simp [hw])) ⟨ho, ho2, h1 hw⟩
  · refine concat_meets ⟨_, ho, rfl⟩ ⟨_, ho2, rfl⟩ noFill_tuple_add seq_tuple_add PySem.F.slot_tuple_add PySem.F.entry_tuple_add (PySem.F.args_tuple_add_2 _ _)
      (tuple_addW2 t b vs.toArray ws.toArray n n2 dd dd2 sl sl2 (by simpa using hv) (by simpa using hw) (by rw [List.size_toArray, List.size_toArray]; exact hsz)) ⟨ho, ho2, ?_⟩
    rw [e]
    exact h2 hw

end
end HT

namespace L2
open PySem PySem.Spec PyProof.Rows

abbrev TO := St → Hp → (Option Int → Hp → Prop) → Prop
/-- a slice's part (left out, or an int) -/
def PO (X : Cx) (e : Option Expr) (t : TO) : Prop :=
  ∀ (pins : List (Addr × Obj)) (s : Shared) (σ : St) (H : Hp) (Q : Option Int → Hp → Prop), Inv X pins σ H s → t σ H Q →
    wpAny (model X.prog X.w) X.A (evalPart e X.env) (fun u s' => ∃ o H', Inv X pins σ H' s' ∧ IsPart u o ∧ Q o H') X.xe s
theorem intsAre_of {ns : List Int} : ∀ {us : List Value}, Vals (ns.map V.int) us → IntsAre us ns := by
  induction ns with
  | nil => intro us r; rw [List.map_nil] at r; cases r; exact .nil
  | cons n ns ih =>
    intro us r
    rw [List.map_cons] at r
    cases r with
    | cons r1 r2 =>
      obtain ⟨t, e⟩ := r1
      subst e
      exact .cons n t (ih r2)

section
variable {X : Cx} {e : Expr} {te : TE} {lo hi : Option Expr} {tl th : TO} {pos p2 : Pos}

/-- what a slice of a value is, by values: the slice object stands at sl -/
def SlR (X : Cx) (r : V → Option Int → Option Int → Hp → VK → Prop) : Prop :=
  ∀ (pins : List (Addr × Obj)) (s : Shared) (σ : St) (H : Hp) (x : V) (v vl vu : Value) (lo hi : Option Int) (sl : Addr) (Q : VK), Inv X pins σ H s → RelV x v → s.heap.IsSliceOf sl vl vu .none → IsPart vl lo → IsPart vu hi → r x lo hi H Q →
    ∃ T id, typeLookup (.type T) "__getitem__" = pure (some (.builtin id)) ∧ s.TypeIs v T ∧ wpAny (model X.prog X.w) X.A (getItem v (.ref sl)) (EP X pins σ Q) X.xe s
theorem SlR.or {r r' : V → Option Int → Option Int → Hp → VK → Prop} (h : SlR X r) (h' : SlR X r') : SlR X (fun x lo hi H Q => r x lo hi H Q ∨ r' x lo hi H Q) := by
  intro pins s σ H x v vl vu lo hi sl Q I rx hs pl pu q
  rcases q with q | q
  · exact h pins s σ H x v vl vu lo hi sl Q I rx hs pl pu q
  · exact h' pins s σ H x v vl vu lo hi sl Q I rx hs pl pu q
/-- t + u, t not empty: u empty gives t itself -/
def rCatT (K : PySem.W.Frag) : R2 := fun x y H Q => ∃ a b xs ys, x = .ref a ∧ y = .ref b ∧ SqT K H a xs ∧ SqT K H b ys ∧ xs ≠ [] ∧ xs.length + ys.length ≤ sizeLine ∧
  (ys = [] → Q (.ref a) H) ∧ (ys ≠ [] → ∀ p, H p = none → Q (.ref p) (upd H p (.tup (xs ++ ys))))
theorem Vals.nil_iff {xs : List V} {us : List Value} (r : Vals xs us) : us = [] ↔ xs = [] := by
  cases r with
  | nil => simp
  | cons _ _ => simp
theorem op_catT : OpR X (binaryOp .Add) (rCatT X.K) := by
  intro pins s σ H x y v u Q I rx ry h
  obtain ⟨a, b, xs, ys, rfl, rfl, ha, hb, hx, hz, q1, q2⟩ := h
  cases rx
  cases ry
  obtain ⟨its, r1, p1, _⟩ := I.tuple ha
  obtain ⟨its2, r2, p2, _⟩ := I.tuple hb
  refine HT.cat_tup p1 p2 (fun z => hx (r1.nil_iff.mp z)) (fun z => ⟨.ref a, H, I, rfl, q1 (r2.nil_iff.mp z)⟩) (fun z => ?_) (by rw [← r1.length, ← r2.length]; exact hz)
  refine ⟨.ref s.heap.objs.size, _, I.laid (t' := s.toks) (o := .tup (xs ++ ys)) (fun b ob q => Heap.get?_push_of_some _ q) (Nat.le_refl _) ?_, rfl, q2 (fun w => z (r2.nil_iff.mpr w)) _ (I.hok.fresh (Nat.le_refl _))⟩
  exact ⟨by rw [List.length_append]; exact hz, _, r1.append r2, IsTup1.new _ _⟩
end
end L2

namespace L2
open PySem PySem.Spec PyProof.Rows

/-- the place that an index of any sign means -/
def ixN (n : Nat) (i : Int) : Option Nat := if 0 ≤ i then (if i < n then some i.toNat else none) else if -(n : Int) ≤ i then some (i + n).toNat else none
def atI {α : Type} (xs : List α) (i : Int) : Option α := (ixN xs.length i).bind fun j => xs[j]?
theorem ixN_seq {n : Nat} {i : Int} {j : Nat} (h : ixN n i = some j) : seqIndex? i n = some j ∧ j < n ∧ -(n : Int) ≤ i ∧ i < n := by
  unfold ixN at h
  by_cases h0 : 0 ≤ i
  · rw [if_pos h0] at h
    by_cases h1 : i < n
    · rw [if_pos h1] at h
      have e : i.toNat = j := Option.some.inj h
      exact ⟨by rw [seqIndex_of h0 h1, e], by omega, by omega, h1⟩
    · rw [if_neg h1] at h; cases h
  · rw [if_neg h0] at h
    by_cases h1 : -(n : Int) ≤ i
    · rw [if_pos h1] at h
      have e : (i + n).toNat = j := Option.some.inj h
      exact ⟨by rw [seqIndex_neg (by omega) h1, e], by omega, h1, by omega⟩
    · rw [if_neg h1] at h; cases h
theorem atI_get {α : Type} {xs : List α} {i : Int} {v : α} (h : atI xs i = some v) : ∃ j, seqIndex? i xs.length = some j ∧ xs[j]? = some v ∧ j < xs.length ∧ -(xs.length : Int) ≤ i ∧ i < xs.length := by
  unfold atI at h
  cases e : ixN xs.length i with
  | none => rw [e] at h; cases h
  | some j =>
    rw [e] at h
    obtain ⟨h1, h2, h3, h4⟩ := ixN_seq e
    exact ⟨j, h1, h, h2, h3, h4⟩
theorem atI_nat {α : Type} {xs : List α} {j : Nat} {v : α} (h : xs[j]? = some v) : atI xs (j : Int) = some v := by
  have hj : j < xs.length := (List.getElem?_eq_some_iff.mp h).1
  have e : ixN xs.length (j : Int) = some j := by
    unfold ixN
    rw [if_pos (by omega), if_pos (by omega)]; simp
  unfold atI; rw [e]; exact h
theorem atI_last {α : Type} (xs : List α) (v : α) : atI (xs ++ [v]) (-1) = some v := by
  have hl : (xs ++ [v]).length = xs.length + 1 := by simp
  have e : ixN (xs ++ [v]).length (-1) = some xs.length := by
    unfold ixN
    rw [hl, if_neg (by decide), if_pos (by omega)]
    congr 1
    omega
  unfold atI
  rw [e]
  show (xs ++ [v])[xs.length]? = some v
  simp

/-- what stands as an index of a plain subscript -/
def PlainIx (b : Expr) : Prop := ∀ o i, subscripted b false o i = operate [o, i] (getItem o i)
/-- a subscript by values -/
def IxR (X : Cx) (r : R2) : Prop :=
  ∀ (value slice : Expr) (pins : List (Addr × Obj)) (s : Shared) (σ : St) (H : Hp) (x y : V) (v u : Value) (Q : VK), Inv X pins σ H s → RelV x v → RelV y u → r x y H Q →
    subscripted slice false v u = operate [v, u] (getItem v u) → wpAny (model X.prog X.w) X.A (subscriptTail value slice v u) (EP X pins σ Q) X.xe s
/-- a call of a builtin's method by values: the receiver, the arguments -/
def MtR (X : Cx) (id : String) (r : V → List V → Hp → VK → Prop) : Prop :=
  ∀ (pins : List (Addr × Obj)) (s : Shared) (σ : St) (H : Hp) (x : V) (xs : List V) (v : Value) (us : List Value) (Q : VK), Inv X pins σ H s → RelV x v → Vals xs us → r x xs H Q →
    wpAny (model X.prog X.w) X.A (call (.builtin id) (v :: us)) (EP X pins σ Q) X.xe s
section
variable {X : Cx} {a b : Expr} {ta tb : TE} {pos : Pos}
theorem IxR.or {r r' : R2} (h : IxR X r) (h' : IxR X r') : IxR X (fun x y H Q => r x y H Q ∨ r' x y H Q) := by
  intro value slice pins s σ H x y v u Q I rx ry q hs
  rcases q with q | q
  · exact h value slice pins s σ H x y v u Q I rx ry q hs
  · exact h' value slice pins s σ H x y v u Q I rx ry q hs
theorem MtR.or {id : String} {r r' : V → List V → Hp → VK → Prop} (h : MtR X id r) (h' : MtR X id r') : MtR X id (fun x xs H Q => r x xs H Q ∨ r' x xs H Q) := by
  intro pins s σ H x xs v us Q I rx rs q
  rcases q with q | q
  · exact h pins s σ H x xs v us Q I rx rs q
  · exact h' pins s σ H x xs v us Q I rx rs q
/-- a[b] -/
theorem pe_ix {r : R2} (hr : IxR X r) (ha : PE X a ta) (hb : PE X b tb) (hs : PlainIx b) : PE X (.Subscript a b pos) (tOp r ta tb) := by
  intro pins s σ H Q I h
  exact Subscript_ (binT ha hb I h fun v u s2 x y H2 I2 rx ry q => hr a b pins s2 σ H2 x y v u Q I2 rx ry q (hs _ _))

def rIxL (K : PySem.W.Frag) : R2 := fun x y H Q => ∃ p xs i v, x = .ref p ∧ y = .int i ∧ SqL K H p xs ∧ atI xs i = some v ∧ Q v H
def rIxT (K : PySem.W.Frag) : R2 := fun x y H Q => ∃ p xs i v, x = .ref p ∧ y = .int i ∧ SqT K H p xs ∧ atI xs i = some v ∧ Q v H
def rIxS : R2 := fun x y H Q => ∃ z i c, x = .str z ∧ y = .int i ∧ z.length ≤ sizeLine ∧ atI z.cps.toList i = some c ∧ Q (.str ⟨#[c]⟩) H
theorem ix_list : IxR X (rIxL X.K) := by
  intro value slice pins s σ H x y v u Q I rx ry h hs
  obtain ⟨p, xs, i, z, rfl, rfl, hq, he, q⟩ := h
  cases rx
  obtain ⟨t, rfl⟩ := ry
  obtain ⟨its, r, pl, hz⟩ := I.list hq
  obtain ⟨j, h1, h2, h3, h4, h5⟩ := atI_get he
  obtain ⟨w, ew, rw'⟩ := r.get h2
  have hl := r.length
  have hn := line63
  have fin : EP X pins σ Q w s := ⟨z, H, I, rw', q⟩
  by_cases h0 : 0 ≤ i
  · have hj : i.toNat = j := by
      rw [seqIndex_of h0 h5] at h1
      exact Option.some.inj h1
    exact item_listR pl.isList h0 (by omega) (by rw [hj]; simpa using ew) fin hs
  · have hj : (i + (its.toArray.size : Int)).toNat = j := by
      rw [seqIndex_neg (by omega) h4] at h1
      rw [List.size_toArray, ← hl]
      exact Option.some.inj h1
    exact subscriptTail_builtinR (x := w) pl.isList.typeIs slot_list_getitem.lookup
      (wpAny_getItem_list_neg (Q := fun r s' => r = w ∧ EP X pins σ Q r s') pl.isList (by omega) (by rw [List.size_toArray] <;> omega) (by omega) (by rw [hj]; simpa using ew) ⟨rfl, fin⟩) hs
theorem ix_tup : IxR X (rIxT X.K) := by
  intro value slice pins s σ H x y v u Q I rx ry h hs
  obtain ⟨p, xs, i, z, rfl, rfl, hq, he, q⟩ := h
  cases rx
  obtain ⟨t, rfl⟩ := ry
  obtain ⟨its, r, pl, hz⟩ := I.tuple hq
  obtain ⟨j, h1, h2, h3, h4, h5⟩ := atI_get he
  obtain ⟨w, ew, rw'⟩ := r.get h2
  have hl := r.length
  have hn := line63
  have fin : EP X pins σ Q w s := ⟨z, H, I, rw', q⟩
  exact subscriptTail_builtinR (x := w) pl.typeIs slot_tuple_getitem.lookup
    (getItem_tuple (j := j) (Q := fun r s' => r = w ∧ EP X pins σ Q r s') pl (by omega) (by omega) (by rw [List.size_toArray, ← hl]; exact h1) (by simpa using ew) ⟨rfl, fin⟩) hs
theorem ix_str : IxR X rIxS := by
  intro value slice pins s σ H x y v u Q I rx ry h hs
  obtain ⟨z, i, c, rfl, rfl, hz, he, q⟩ := h
  obtain ⟨t, rfl⟩ := rx
  obtain ⟨t', rfl⟩ := ry
  obtain ⟨j, h1, h2, h3, h4, h5⟩ := atI_get he
  have hl : z.cps.toList.length = z.length := by simp [Str.length]
  rw [hl] at h1 h4 h5
  have hn := line63
  exact tail_any (typeIs_str s z t) slot_str_getitem.lookup (getItem_str (c := c) (by
    have e1 : decide (i < -(2 ^ 63 : Int)) = false := decide_eq_false (by omega)
    have e2 : decide (i ≥ 2 ^ 63) = false := decide_eq_false (by omega)
    rw [e1, e2, Bool.or_false]) (by rw [h1]; simpa using h2) ⟨.str ⟨#[c]⟩, H, I.tok _, ⟨_, rfl⟩, q⟩) hs
/-- list, tuple or str -/
def rIx (K : PySem.W.Frag) : R2 := fun x y H Q => rIxL K x y H Q ∨ rIxT K x y H Q ∨ rIxS x y H Q
theorem ix_seq : IxR X (rIx X.K) := ix_list.or (ix_tup.or ix_str)

/-- the list's object behind a store -/
theorem mapSeq_set (its : List Value) (n j : Nat) (u : Value) : Obj.mapSeq (·.setIfInBounds j u) { cls := .type "list", data := .seq its.toArray n } = { cls := .type "list", data := .seq (its.set j u).toArray n } := by
  simp [Obj.mapSeq]
theorem Inv.lst {pins : List (Addr × Obj)} {σ : St} {H : Hp} {s : Shared} {p : Addr} {xs : List V} (I : Inv X pins σ H s) (h : H p = some (.lst xs)) :
    ∃ (its : List Value) (n : Nat), Vals xs its ∧ s.heap.get? p = some { cls := .type "list", data := .seq its.toArray n } ∧ xs.length ≤ sizeLine := by
  obtain ⟨z, its, n, r, e⟩ := I.hok p _ h
  exact ⟨its, n, r, e, z⟩
/-- the list at p is written by an update of its object -/
theorem Inv.lstUpd {pins : List (Addr × Obj)} {σ : St} {H : Hp} {s : Shared} {p : Addr} {xs ys : List V} {its its' : List Value} {n n' : Nat} {f : Obj → Obj} (I : Inv X pins σ H s) (h : H p = some (.lst xs))
    (ho : s.heap.get? p = some { cls := .type "list", data := .seq its.toArray n }) (hf : f { cls := .type "list", data := .seq its.toArray n } = { cls := .type "list", data := .seq its'.toArray n' }) (r : Vals ys its') (hz : ys.length ≤ sizeLine) (t : Nat) :
    Inv X pins σ (upd H p (.lst ys)) { s with heap := s.heap.update p f, toks := t } := by
  have e : (s.heap.update p f).get? p = some { cls := .type "list", data := .seq its'.toArray n' } := by
    rw [Heap.get?_update_self f ho (by rw [hf] <;> rfl), hf]
  refine I.write (x := p) (e := p) (by rw [h]; trivial) (.inl rfl) (fun b u hb q => (Heap.get?_update_other _ _ (Ne.symm hb)).trans q) ⟨_, e⟩ ?_
  exact ⟨hz, its', n', r, e⟩
def rSetL : V → V → V → Hp → (Hp → Prop) → Prop := fun o i v H Q => ∃ p xs k j, o = .ref p ∧ i = .int k ∧ H p = some (.lst xs) ∧ ixN xs.length k = some j ∧ Q (upd H p (.lst (xs.set j v)))
theorem set_list : PSet X rSetL := by
  intro pins s σ H o i v ov iv u Q I ro ri rv h
  obtain ⟨p, xs, k, j, rfl, rfl, hp, hj, q⟩ := h
  cases ro
  obtain ⟨t, rfl⟩ := ri
  obtain ⟨its, n, r, ho, hz⟩ := I.lst hp
  obtain ⟨h1, h2, h3, h4⟩ := ixN_seq hj
  have hl := r.length
  have hn := line63
  have I' : Inv X pins σ (upd H p (.lst (xs.set j v))) { s with heap := s.heap.update p (Obj.mapSeq (·.setIfInBounds j u)) } :=
    I.lstUpd hp ho (mapSeq_set its n j u) (r.set rv j) (by rw [List.length_set]; exact hz) s.toks
  by_cases h0 : 0 ≤ k
  · have hk : k.toNat = j := by
      rw [seqIndex_of h0 h4] at h1
      exact Option.some.inj h1
    exact PySem.W.ki_setAt ho h0 (by omega) (by rw [List.size_toArray, ← hl]; exact h4) (by rw [hk]; exact ⟨_, I', q⟩)
  · have hk : (k + (its.toArray.size : Int)).toNat = j := by
      rw [seqIndex_neg (by omega) h3] at h1
      rw [List.size_toArray, ← hl]
      exact Option.some.inj h1
    exact PySem.W.ki_setBack ho (by omega) (by rw [List.size_toArray, ← hl]; exact h3) (by omega) (by rw [hk]; exact ⟨_, I', q⟩)

def flatV : V → Bool
  | .non => true
  | .bl _ => true
  | .int _ => true
  | .str _ => true
  | _ => false
/-- == of flat values -/
def eqV : V → V → Bool
  | .non, .non => true
  | .bl a, .bl b => a == b
  | .bl a, .int b => (if a then 1 else 0) == b
  | .int a, .bl b => a == (if b then 1 else 0)
  | .int a, .int b => a == b
  | .str a, .str b => a == b
  | _, _ => false
theorem eqAt_V {A : Around} {s : Shared} {y x : V} {u v : Value} (ry : RelV y u) (rx : RelV x v) (fy : flatV y = true) (fx : flatV x = true) : SeqAt.EqAt A s u v (eqV y x) := by
  cases y with
  | non =>
    cases ry
    cases x with
    | non => cases rx; exact SeqAt.EqAt.same _
    | bl b => cases rx; exact SeqAt.EqAt.none_bool b
    | int b => obtain ⟨t, rfl⟩ := rx; exact SeqAt.EqAt.none_int b t
    | str b => obtain ⟨t, rfl⟩ := rx; exact SeqAt.EqAt.none_str b t
    | _ => exact absurd (show false = true from fx) Bool.false_ne_true
  | bl a =>
    cases ry
    cases x with
    | non => cases rx; exact SeqAt.EqAt.bool_none a
    | bl b => cases rx; exact SeqAt.EqAt.bool_bool a b
    | int b => obtain ⟨t, rfl⟩ := rx; exact SeqAt.EqAt.bool_int a b t
    | str b => obtain ⟨t, rfl⟩ := rx; exact SeqAt.EqAt.bool_str a b t
    | _ => exact absurd (show false = true from fx) Bool.false_ne_true
  | int a =>
    obtain ⟨t', rfl⟩ := ry
    cases x with
    | non => cases rx; exact SeqAt.EqAt.int_none a t'
    | bl b => cases rx; exact SeqAt.EqAt.int_bool a t' b
    | int b => obtain ⟨t, rfl⟩ := rx; exact SeqAt.EqAt.int_int a t' b t
    | str b => obtain ⟨t, rfl⟩ := rx; exact SeqAt.EqAt.int_str a t' b t
    | _ => exact absurd (show false = true from fx) Bool.false_ne_true
  | str a =>
    obtain ⟨t', rfl⟩ := ry
    cases x with
    | non => cases rx; exact SeqAt.EqAt.str_none a t'
    | bl b => cases rx; exact SeqAt.EqAt.str_bool a t' b
    | int b => obtain ⟨t, rfl⟩ := rx; exact SeqAt.EqAt.str_int a t' b t
    | str b => obtain ⟨t, rfl⟩ := rx; exact SeqAt.EqAt.str_str a t' b t
    | _ => exact absurd (show false = true from fx) Bool.false_ne_true
  | _ => exact absurd (show false = true from fy) Bool.false_ne_true
/-- the items' answers, read off the values (a value's own answer does not lean on its token) -/
def eqU (x : V) (u : Value) : Bool := match u with
  | .none => eqV .non x
  | .bool b => eqV (.bl b) x
  | .int i _ => eqV (.int i) x
  | .str z _ => eqV (.str z) x
  | _ => false
theorem eqU_of {x y : V} {u : Value} (r : RelV y u) (f : flatV y = true) : eqU x u = eqV y x := by
  cases y with
  | non => cases r; rfl
  | bl b => cases r; rfl
  | int i => obtain ⟨t, rfl⟩ := r; rfl
  | str z => obtain ⟨t, rfl⟩ := r; rfl
  | _ => exact absurd (show false = true from f) Bool.false_ne_true
theorem any_eqU {x : V} : ∀ {xs : List V} {us : List Value}, Vals xs us → xs.all flatV = true → us.any (eqU x) = xs.any fun y => eqV y x
  | _, _, .nil, _ => rfl
  | y :: xs, u :: us, .cons r t, f => by
    rw [List.all_cons, Bool.and_eq_true] at f
    rw [List.any_cons, List.any_cons, eqU_of r f.1, any_eqU t f.2]
theorem mem_eqAt {A : Around} {s : Shared} {x : V} {v : Value} (rx : RelV x v) (fx : flatV x = true) : ∀ {xs : List V} {us : List Value}, Vals xs us → xs.all flatV = true → ∀ u ∈ us, SeqAt.EqAt A s u v (eqU x u)
  | _, _, .nil, _ => fun u hu => by cases hu
  | y :: xs, u :: us, .cons r t, f => fun u' hu => by
    rw [List.all_cons, Bool.and_eq_true] at f
    rcases List.mem_cons.mp hu with rfl | hu
    · rw [eqU_of r f.1]; exact eqAt_V r rx f.1 fx
    · exact mem_eqAt rx fx t f.2 u' hu
def inV (x : V) (xs : List V) : Bool := xs.any fun y => eqV y x
/-- x in a list or tuple of flat items -/
def rIn (K : PySem.W.Frag) (neg : Bool) : R2 := fun x y H Q => ∃ p xs, y = .ref p ∧ (SqL K H p xs ∨ SqT K H p xs) ∧ flatV x = true ∧ xs.all flatV = true ∧ Q (.bl (if neg then !inV x xs else inV x xs)) H
theorem op_in_seq : OpR X (compareOp .In) (rIn X.K false) := by
  intro pins s σ H x y v u Q I rx ry h
  obtain ⟨p, xs, rfl, hq, fx, fs, q⟩ := h
  cases ry
  rcases hq with hq | hq
  · obtain ⟨its, r, pl, hz⟩ := I.list hq
    refine SeqAt.in_listAt (eqU x) pl.isList (fun w hw => mem_eqAt rx fx r fs w (by simpa using hw)) ⟨.bl _, H, I, rfl, ?_⟩
    rw [show its.toArray.any (eqU x) = its.any (eqU x) by simp, any_eqU r fs]
    exact q
  · obtain ⟨its, r, pl, hz⟩ := I.tuple hq
    refine SeqAt.in_tupleAt (eqU x) pl (fun w hw => mem_eqAt rx fx r fs w (by simpa using hw)) ⟨.bl _, H, I, rfl, ?_⟩
    rw [show its.toArray.any (eqU x) = its.any (eqU x) by simp, any_eqU r fs]
    exact q
theorem op_notIn_seq : OpR X (compareOp .NotIn) (rIn X.K true) := by
  intro pins s σ H x y v u Q I rx ry h
  obtain ⟨p, xs, rfl, hq, fx, fs, q⟩ := h
  cases ry
  rcases hq with hq | hq
  · obtain ⟨its, r, pl, hz⟩ := I.list hq
    refine SeqAt.notIn_listAt (eqU x) pl.isList (fun w hw => mem_eqAt rx fx r fs w (by simpa using hw)) ⟨.bl _, H, I, rfl, ?_⟩
    rw [show its.toArray.any (eqU x) = its.any (eqU x) by simp, any_eqU r fs]
    exact q
  · obtain ⟨its, r, pl, hz⟩ := I.tuple hq
    refine SeqAt.notIn_tupleAt (eqU x) pl (fun w hw => mem_eqAt rx fx r fs w (by simpa using hw)) ⟨.bl _, H, I, rfl, ?_⟩
    rw [show its.toArray.any (eqU x) = its.any (eqU x) by simp, any_eqU r fs]
    exact q
theorem call_len_seq : CallR X (.builtin "len") (fun xs H Q => ∃ p ys, xs = [.ref p] ∧ (SqL X.K H p ys ∨ SqT X.K H p ys) ∧ Q (.int ys.length) H) := by
  intro pins s σ H xs us Q I r h
  obtain ⟨p, ys, rfl, hq, q⟩ := h
  obtain ⟨u, rfl, rx⟩ := vals1 r
  cases rx
  have hn := line63
  rcases hq with hq | hq
  · obtain ⟨its, r', pl, hz⟩ := I.list hq
    have hlen := r'.length
    exact Calls.call_len_list pl.isList (by simp only [List.size_toArray] <;> omega) ⟨.int ys.length, H, I.tok _, ⟨s.toks + 1, by rw [List.size_toArray, hlen]⟩, q⟩
  · obtain ⟨its, r', pl, hz⟩ := I.tuple hq
    have hlen := r'.length
    exact len_tuple pl (by simp only [List.size_toArray] <;> omega) ⟨.int ys.length, H, I.tok _, ⟨s.toks + 1, by rw [List.size_toArray, hlen]⟩, q⟩
theorem call_len_str : CallR X (.builtin "len") (fun xs H Q => ∃ z, xs = [.str z] ∧ z.length ≤ sizeLine ∧ Q (.int z.length) H) := by
  intro pins s σ H xs us Q I r h
  obtain ⟨z, rfl, hz, q⟩ := h
  obtain ⟨u, rfl, t, rfl⟩ := vals1 r
  have hn := line63
  exact len_str (by omega) ⟨.int z.length, H, I.tok _, ⟨_, rfl⟩, q⟩
theorem CallR.or {f : Value} {r r' : List V → Hp → VK → Prop} (h : CallR X f r) (h' : CallR X f r') : CallR X f (fun xs H Q => r xs H Q ∨ r' xs H Q) := by
  intro pins s σ H xs us Q I rs q
  rcases q with q | q
  · exact h pins s σ H xs us Q I rs q
  · exact h' pins s σ H xs us Q I rs q
theorem call_tuple_of : CallR X (.type "tuple") (fun xs H Q => ∃ p ys, xs = [.ref p] ∧ ((SqL X.K H p ys ∧ ∀ l, H l = none → Q (.ref l) (upd H l (.tup ys))) ∨ (SqT X.K H p ys ∧ Q (.ref p) H))) := by
  intro pins s σ H xs us Q I r h
  obtain ⟨p, ys, rfl, h⟩ := h
  obtain ⟨u, rfl, rx⟩ := vals1 r
  cases rx
  rcases h with ⟨hq, q⟩ | ⟨hq, q⟩
  · obtain ⟨its, r', pl, hz⟩ := I.list hq
    have hlen := r'.length
    refine call_tuple_list pl.isList (fun h' kp => ?_) (by simp only [List.size_toArray] <;> omega)
    have I1 : Inv X pins σ H { s with heap := h' } := I.kept (t' := s.toks) kp
    have I2 : Inv X pins σ (upd H h'.objs.size (.tup ys)) { s with heap := h'.push { cls := .type "tuple", data := .seq its.toArray } } :=
      I1.laid (t' := s.toks) (fun b o e => Heap.get?_push_of_some _ e) (Nat.le_refl _) (show ObjOk X.prog X.w _ _ _ (.tup ys) from ⟨hz, its, r', IsTup1.new _ _⟩)
    exact ⟨.ref h'.objs.size, _, I2, rfl, q _ (I1.hok.fresh (Nat.le_refl _))⟩
  · obtain ⟨its, r', pl, hz⟩ := I.tuple hq
    exact call_tuple_same pl ⟨.ref p, H, I, rfl, q⟩

/-- the value is of that builtin type -/
def tyV (K : PySem.W.Frag) (T : String) (x : V) (H : Hp) : Prop := match x with
  | .str _ => T = "str"
  | .int _ => T = "int"
  | .ref p => (T = "list" ∧ ∃ xs, SqL K H p xs) ∨ (T = "tuple" ∧ ((∃ o, K.lookup p = some o ∧ o.cls = .type "tuple" ∧ o.dict = none) ∨ ∃ xs, SqT K H p xs)) ∨
      (T = "dict" ∧ ((∃ kvs, H p = some (.dK kvs)) ∨ ∃ kvs, H p = some (.dT kvs))) ∨ (T = "set" ∧ ∃ S n, H p = some (.set S n))
  | _ => False
theorem tyV_is {pins : List (Addr × Obj)} {σ : St} {H : Hp} {s : Shared} {T : String} {x : V} {v : Value} (I : Inv X pins σ H s) (r : RelV x v) (ty : tyV X.K T x H) :
    s.TypeIs v T ∧ ∀ a, v = .ref a → ∃ ob, s.heap.get? a = some ob ∧ ob.dict = none := by
  cases x with
  | str z =>
    obtain ⟨t, rfl⟩ := r
    cases (show T = "str" from ty)
    exact ⟨typeIs_str s z t, fun _ e => nomatch e⟩
  | int i =>
    obtain ⟨t, rfl⟩ := r
    cases (show T = "int" from ty)
    exact ⟨typeIs_int s i t, fun _ e => nomatch e⟩
  | ref p =>
    cases r
    rcases ty with ⟨rfl, xs, hq⟩ | ⟨rfl, ht⟩ | ⟨rfl, hk⟩ | ⟨rfl, S, n, hk⟩
    · obtain ⟨its, _, pl, _⟩ := I.list hq
      refine ⟨pl.isList.typeIs, fun a e => ?_⟩
      cases e
      obtain ⟨o, n, e, c, hd, _⟩ := pl
      exact ⟨o, e, hd⟩
    · have z : ∃ o : Obj, s.heap.get? p = some o ∧ o.cls = .type "tuple" ∧ o.dict = none := by
        rcases ht with ⟨o, hk, hc, hd⟩ | ⟨xs, hq⟩
        · exact ⟨o, I.kIn p o hk, hc, hd⟩
        · exact I.tuple1 hq
      obtain ⟨o, e1, hc, hd⟩ := z
      refine ⟨⟨o, e1, hc⟩, fun a e => ?_⟩
      cases e
      exact ⟨o, e1, hd⟩
    · have z : ∃ o, s.heap.get? p = some o ∧ o.ExactDict := by
        rcases hk with ⟨kvs, hk⟩ | ⟨kvs, hk⟩
        · obtain ⟨_, _, _, _, o, _, _, e, ex, _⟩ := I.hok p _ hk
          exact ⟨o, e, ex⟩
        · obtain ⟨_, _, _, _, o, _, _, e, ex, _⟩ := I.hok p _ hk
          exact ⟨o, e, ex⟩
      obtain ⟨o, e, ex⟩ := z
      refine ⟨⟨o, e, ex.1⟩, fun a e2 => ?_⟩
      cases e2
      exact ⟨o, e, ex.2.1⟩
    · obtain ⟨o, _, _, _, e, ex, _⟩ := I.hok p _ hk
      refine ⟨⟨o, e, ex.1⟩, fun a e2 => ?_⟩
      cases e2
      exact ⟨o, e, ex.2.1⟩
  | _ => exact False.elim ty
def tBM (K : PySem.W.Frag) (T : String) (r : V → List V → Hp → VK → Prop) (to : TE) (t : TA) : TE := fun σ H Q => to σ H fun x H1 => tyV K T x H1 ∧ t σ H1 fun xs H2 => r x xs H2 Q
variable {o e : Expr} {es : List Expr} {to : TE} {t : TA} {name : Str} {apos cpos : Pos} {T id : String} {r : V → List V → Hp → VK → Prop}
theorem pe_bm (pa : PlainAttrs T) (slot : Slot T name id) (hty : typeOf (.builtin id) = pure (.type "method_descriptor")) (hm : MtR X id r) (ho : PE X o to) (ha : PA X (e :: es) t)
    (hbase : attributeBase o name X.env (eval o X.env) = eval o X.env := by rfl)
    (hfew : ((backTo cpos (starEach (e :: es) X.env)).all (fun x => !x.1) && (backToKw cpos (keywordEach [] X.env)).all (fun x => x.1.isSome)
      && decide ((e :: es).length + ([] : List Keyword).length + (if ([] : List Keyword).isEmpty then 0 else 1) < 30)) = true := by rfl)
    (hline : (apos.endLine == cpos.line) = true := by rfl) (hs : starEach (e :: es) X.env = (false, eval e X.env) :: starEach es X.env := by rfl) (hplain : (backTo cpos (starEach es X.env)).any (·.1) = false := by rfl) :
    PE X (.Call (.Attribute o name apos) (e :: es) [] cpos) (tBM X.K T r to t) := by
  intro pins s σ H Q I h
  refine wpAny_Call_method_late hbase hfew hline rfl (thn (ho pins s σ H _ I h) fun v s1 ⟨x, H1, I1, r1, ty, q1⟩ => ?_)
  obtain ⟨h1, h2⟩ := tyV_is I1 r1 ty
  refine ⟨T, id, pa, slot, hty, h1, h2, ?_⟩
  have hA := ha cpos pins s1 σ H1 _ I1 q1
  rw [hs] at hA ⊢
  refine Calls.callWith_builtin (by show (false || (backTo cpos (starEach es X.env)).any (·.1)) = false; rw [hplain] <;> rfl) (Calls.evalArgs_plain ?_)
  exact thn hA fun us s2 ⟨vs, H2, I2, r2, q2⟩ => hm pins s2 σ H2 x vs v us Q I2 r1 r2 q2
/- xs.append(e), list.index on a module's tuple .. are MtR facts of 06m -/
end
end L2

namespace L2
open PySem PySem.Spec PyProof.Rows

def MtM (X : Cx) (id : String) (r : V → List V → Hp → VK → Prop) : Prop :=
  ∀ (pins : List (Addr × Obj)) (s : Shared) (σ : St) (H : Hp) (x : V) (xs : List V) (v : Value) (us : List Value) (Q : VK), Inv X pins σ H s → RelV x v → Vals xs us → r x xs H Q →
    wpAny (model X.prog X.w) X.A (call (.builtin id) (v :: us)) (EP X pins σ Q) X.xe s

theorem Vals.one : ∀ {x : V} {us : List Value}, Vals [x] us → ∃ u, us = [u] ∧ RelV x u
  | _, _, .cons r .nil => ⟨_, rfl, r⟩
theorem Vals.two {x y : V} {us : List Value} (h : Vals [x, y] us) : ∃ u v, us = [u, v] ∧ RelV x u ∧ RelV y v := by
  cases h with
  | cons r t => cases t with
    | cons q t2 => cases t2; exact ⟨_, _, rfl, r, q⟩
theorem Vals.zero : ∀ {us : List Value}, Vals [] us → us = []
  | _, .nil => rfl
theorem Vals.dropLast {xs : List V} {us : List Value} (h : Vals xs us) : Vals xs.dropLast us.dropLast := by
  induction h with
  | nil => exact .nil
  | cons r t ih =>
    cases t with
    | nil => exact .nil
    | cons q t' => exact .cons r ih
theorem Vals.eraseIdx : ∀ {xs : List V} {us : List Value} (i : Nat), Vals xs us → Vals (xs.eraseIdx i) (us.eraseIdx i)
  | _, _, _, .nil => .nil
  | _, _, 0, .cons _ t => t
  | _, _, i + 1, .cons r t => .cons r (Vals.eraseIdx i t)
theorem Vals.reverse {xs : List V} {us : List Value} (h : Vals xs us) : Vals xs.reverse us.reverse := by
  induction h with
  | nil => exact .nil
  | cons r t ih => rw [List.reverse_cons, List.reverse_cons]; exact Vals.append ih (.cons r .nil)
theorem Vals.rep {xs : List V} {us : List Value} (h : Vals xs us) : ∀ k : Nat, Vals (List.replicate k xs).flatten (List.replicate k us).flatten
  | 0 => .nil
  | k + 1 => by
    rw [List.replicate_succ, List.replicate_succ, List.flatten_cons, List.flatten_cons]
    exact Vals.append h (Vals.rep h k)
theorem foldl_rep (its : List Value) : ∀ (k : Nat) (acc : List Value),
    List.foldl (fun x1 x2 => x1 ++ x2) acc.toArray (List.replicate k its.toArray) = (acc ++ (List.replicate k its).flatten).toArray
  | 0, acc => by simp
  | k + 1, acc => by
    have e : acc.toArray ++ its.toArray = (acc ++ its).toArray := by simp
    have e2 : (acc ++ its) ++ (List.replicate k its).flatten = acc ++ (List.replicate (k + 1) its).flatten := by
      rw [List.replicate_succ, List.flatten_cons, List.append_assoc]
    rw [← e2, ← foldl_rep its k (acc ++ its), ← e, List.replicate_succ, List.foldl_cons]

section
variable {X : Cx} {pins : List (Addr × Obj)} {σ : St} {H : Hp} {s : Shared} {l b : Addr} {xs ys zs : List V}

theorem Inv.lset {its its' : List Value} {n : Nat} {f : Array Value → Array Value} {t' : Nat} (I : Inv X pins σ H s) (hH : H l = some (.lst xs))
    (e : s.heap.get? l = some { cls := .type "list", data := .seq its.toArray n }) (hf : f its.toArray = its'.toArray) (hv : Vals ys its') (hz : ys.length ≤ sizeLine) :
    Inv X pins σ (upd H l (.lst ys)) { s with heap := s.heap.update l (Obj.mapSeq f), toks := t' } := by
  have q := PySem.IsL.update e f
  rw [hf] at q
  refine I.write (x := l) (e := l) (by rw [hH]; exact trivial) (.inl rfl) (fun b' u hb hu => (Heap.get?_update_other s.heap (Obj.mapSeq f) (Ne.symm hb)).trans hu) ⟨_, q⟩ ?_
  exact ⟨hz, its', _, hv, q⟩
theorem Inv.lnew {its : List Value} {t' : Nat} (I : Inv X pins σ H s) (hv : Vals ys its) (hz : ys.length ≤ sizeLine) :
    Inv X pins σ (upd H s.heap.objs.size (.lst ys)) { s with heap := s.heap.push { cls := .type "list", data := .seq its.toArray }, toks := t' } :=
  I.laid (fun _ _ q => Heap.get?_push_of_some _ q) (Nat.le_refl _) ⟨hz, its, 0, hv, Heap.get?_push_size _ rfl⟩
theorem Inv.fresh (I : Inv X pins σ H s) : H s.heap.objs.size = none := I.hok.fresh (Nat.le_refl _)
theorem Inv.lstM (I : Inv X pins σ H s) (hH : H l = some (.lst xs)) : xs.length ≤ sizeLine ∧ ∃ (its : List Value) (n : Nat), Vals xs its ∧ xs.length = its.length ∧ s.heap.get? l = some { cls := .type "list", data := .seq its.toArray n } := by
  obtain ⟨z, its, n, r, e⟩ := I.hok l _ hH
  exact ⟨z, its, n, r, r.length, e⟩

theorem notLongL {n : Nat} (h : n ≤ sizeLine) : Builtin.List.listTooLong n = false := by
  unfold Builtin.List.listTooLong
  exact decide_eq_false (by omega)
end

section
variable {X : Cx}

def rAppend : V → List V → Hp → VK → Prop := fun x vs H Q => ∃ l xs y, x = .ref l ∧ vs = [y] ∧ H l = some (.lst xs) ∧ xs.length < sizeLine ∧ Q .non (upd H l (.lst (xs ++ [y])))
theorem mt_append : MtM X "list.append" rAppend := by
  intro pins s σ H x vs v us Q I rx rv h
  obtain ⟨l, xs, y, rfl, rfl, hH, hz, q⟩ := h
  cases rx
  obtain ⟨u, rfl, ru⟩ := rv.one
  obtain ⟨z, its, n, r, hl, e⟩ := I.lstM hH
  refine call_meets F.slot_list_append ⟨_, e, rfl⟩ F.entry_list_append (F.args_list_append_2 _ _) (PySem.list_append l its.toArray n u (by rw [List.size_toArray]; omega)) ⟨e, ?_⟩
  refine ⟨.non, _, I.lset (its' := its ++ [u]) hH e (by simp) (r.append (.cons ru .nil)) ?_, rfl, q⟩
  rw [List.length_append, List.length_singleton]
  omega

theorem len_rep {α : Type} (xs : List α) (k : Nat) : (List.replicate k xs).flatten.length = k * xs.length := by
  induction k with
  | zero => simp
  | succ k ih => rw [List.replicate_succ, List.flatten_cons, List.length_append, ih, Nat.succ_mul, Nat.add_comm]
end

section
variable {prog : Program} {w : World} {A : Around} {E : Value → Shared → Prop} {s : Shared}
end

section
variable {X : Cx}
end
end L2

namespace Att
open PySem PySem.W PySem.Calls PyProof.Rows

theorem ints_of_wellAll {P : Params} {h : Heap} : ∀ (ns : List Int) (vs : List Value), WellAll P h vs (ns.map WData.int) → IntsAre vs ns := by
  intro ns
  induction ns with
  | nil =>
    intro vs w
    rw [List.map_nil] at w
    cases w
    exact .nil
  | cons n ns ih =>
    intro vs w
    rw [List.map_cons] at w
    cases w with
    | cons a b =>
      cases a
      exact .cons _ _ (ih _ b)

theorem script_of {l : OpenLaw} {n : Nat} (hn : l.most = some n) {P : Params} {h : Heap} {args : List WData} {vals : List Value}
    (hpre : l.row.toRowW.claim.pre args = true) (hwl : WellAll P h vals args) :
    ∃ a vs ns, vals = [Value.ref a] ∧ args = [WData.list (ns.map WData.int)] ∧ h.get? a = some { cls := .type "list", data := .seq vs.toArray } ∧ IntsAre vs ns ∧ ns.length ≤ n := by
  have hsh : WShape.hasAll [] args [.list .int] = true := (pre_splitW hpre).1
  have hc : l.pre.holds [] { args := args } = true := (pre_splitW hpre).2
  obtain ⟨d, r, rfl, h1, h2⟩ := hasAllW_cons hsh
  obtain rfl := hasAllW_nil h2
  obtain ⟨xs, rfl, h3⟩ := hasW_list h1
  obtain ⟨ns, rfl⟩ := items_int h3
  have hlen : ns.length ≤ n := by
    unfold OpenLaw.pre at hc
    have h4 : (WTm.not (.lt (.lit (.int (n : Int))) (.len (.arg 0)))).holds [] { args := [.list (ns.map .int)] } = true := by
      have h4 := (holds_andW hc).1
      rw [hn] at h4
      exact h4
    have h5 := condW_of h4 (w_not (w_lt w_lit (w_len_list (w_arg rfl))))
    rw [List.length_map] at h5
    refine Nat.le_of_not_lt fun q => ?_
    have q' : (n : Int) < ((ns.length : Nat) : Int) := by omega
    first
      | (rw [decide_eq_true q'] at h5; exact absurd h5 (by decide))
      | (simp at h5; omega)
  cases hwl with
  | cons w1 w2 =>
    cases w2
    cases w1 with
    | list ho hall => exact ⟨_, _, ns, rfl, rfl, ho, ints_of_wellAll ns _ hall, hlen⟩

theorem post_true (l : OpenLaw) (args : List WData) : l.row.toRowW.claim.post args (.bool true) args = true :=
  postW_of (r := l.row.toRowW) (X := (true == true))
    (show WShape.has [] (.bool true) .bool = true by first | rfl | decide | simp [WShape.has, WShape.arms, WShape.armsAll])
    (show (WTm.eq .res (.lit (.bool true))).value [] { args := args, res := some (.bool true), after := args } = some (.bool (true == true)) from w_eq_bool (w_res rfl) w_lit) rfl

/-- the same from a codeAny of the CALL (for a layer whose function contracts speak of calls) -/
theorem attach_call {l : OpenLaw} {n : Nat} {q : Program} {loose : List Str} {XP : (Str → Option Value) → Heap → Prop} {YP : World → Heap → Prop} {d : DefRec}
    (hn : l.most = some n) (hdf : d.params.defaults = [])
    (call : ∀ (w : World) (s₀ s₁ : Shared) (mg mb : Str → Option Value) (fa : Addr) (o : Obj) (pm cd doc : Value) (a : Addr) (vs : List Value) (ns : List Int),
      Ground q loose [] XP w s₀ mg mb s₁.heap → YP w s₁.heap →
      s₁.heap.get? fa = some o → o.data = .func (docDef d.name d.params d.body d.scope pm cd doc) → s₁.heap.CodeRec cd d.name → mg d.name = some (.ref fa) →
      s₁.heap.get? a = some { cls := .type "list", data := .seq vs.toArray } → IntsAre vs ns → ns.length ≤ n → s₁.gens = #[] →
      codeAny (model l.prog w) callerA (.call (.ref fa) ⟨[.ref a], []⟩) (fun r s' => r = .ok (.ret (.bool true)) ∧ OldK s₁.heap s'.heap ∧ s'.os = s₁.os ∧ AllBare s'.gens) s₁) :
    WalkO q loose XP YP l.row.toRowW d [] (fun f vs => PySem.call f vs) := by
  intro w s₀ s₁ mg mb G Y fa o pm cd doc dV kV ho hd hcd hD hmg hg args vals as hpre hlay hrd hwl hlo
  obtain rfl : dV = .none := Dflts.none hD hdf
  obtain rfl : kV = .none := Dflts.noKw hD
  obtain ⟨a, vs, ns, rfl, rfl, hobj, hints, hlen⟩ := script_of hn hpre hwl
  refine enter_call (codeAny_mono (call w s₀ s₁ mg mb fa o pm cd doc a vs ns G Y ho (fd_plain hd) hcd hmg hobj hints hlen hg) fun r s' hq => ?_)
  obtain ⟨rfl, h2, h3, h4⟩ := hq
  exact ⟨.inl ⟨.bool true, .bool true, [], rfl, fun _ => rfl, .bool true, post_true l _, fun _ => ⟨List.Pairwise.nil, fun _ hm => (nomatch hm)⟩⟩, h2, h3, h4⟩

section
variable {prog : Program} {w : World} {A : Around} {E : Value → Shared → Prop} {s : Shared} {K : Frag}

def ledger (h : Heap) (L d : Addr) : List (Addr × Obj) := (List.range h.objs.size).filterMap fun a => if a = L ∨ a = d then none else (h.get? a).map fun o => (a, o)
end
end Att

namespace L2
open PySem PySem.Spec PyProof.Rows

theorem vals_ints : ∀ {vs : List Value} {ns : List Int}, IntsAre vs ns → Vals (ns.map V.int) vs
  | _, _, .nil => .nil
  | _, _, .cons n t h => .cons ⟨t, rfl⟩ (vals_ints h)

/-- nothing is tracked but the script, known to the object (or it is an object of the module) -/
def Only (H : Hp) : Prop := ∀ b, H b = none ∨ ∃ o xs, H b = some (.frz o (.lst xs))

/-- THE HEAD: the law's promise, at the heap behind the top. F, the promise of the law's def, may use that base is part of the heap (so K.In base, base.Ns mainGlobals mg stand in Mod) -/
theorem law_call {P : Program} {w : World} {K : PySem.W.Frag} {mg mb : Str → Option Value} {CX : CXT} {k : Nat} {fa a : Addr} {fd : FuncData} {x : Str} {sp : Sp} {s₁ : Shared} {vs : List Value} {ns : List Int}
    (KX : K.In s₁.heap) (hns : s₁.heap.Ns mainGlobals mg) (hb : s₁.heap.Ns builtinsNs mb) (hbb : ∀ x : Str, x ≠ "__name__" → mb x = bootBuiltins x) (hlim : s₁.heap.NoLimit) (hg : s₁.gens = #[])
    (ha : s₁.heap.get? a = some { cls := .type "list", data := .seq vs.toArray }) (hi : IntsAre vs ns) (hl : ns.length ≤ sizeLine) (hr : Room k callerA)
    (F : ∀ base : Heap, K.In base → base.Ns mainGlobals mg → FnOk P w K mg base CX k fa fd [x] sp) (hbind : ∀ (s : Shared) (u : Value), BindsTo s fd ⟨[u], []⟩ [(x, u)])
    (hsp : ∀ H : Hp, Only H → SqL K H a (ns.map V.int) → sp [.ref a] H (fun v _ => v = .bl true) fun _ _ _ => False)
    (hCX : ∀ H e s', CX [] H s₁ (fun _ _ _ => False) e s' → False) :
    codeAny (model P w) callerA (.call (.ref fa) ⟨[.ref a], []⟩) (fun r s' => r = .ok (.ret (.bool true)) ∧ OldK s₁.heap s'.heap ∧ s'.os = s₁.os ∧ AllBare s'.gens) s₁ := by
  have rv := vals_ints hi
  have lenV := hi.length
  -- from an abstract heap in which nothing but the script may be tracked
  have core : ∀ H : Hp, Only H → SqL K H a (ns.map V.int) → HOk P w H s₁.heap → (∀ b, H b ≠ none → b = a) → (H a ≠ none → K.lookup a = none) →
      codeAny (model P w) callerA (.call (.ref fa) ⟨[.ref a], []⟩) (fun r s' => r = .ok (.ret (.bool true)) ∧ OldK s₁.heap s'.heap ∧ s'.os = s₁.os ∧ AllBare s'.gens) s₁ := by
    intro H hO hS hok hA hK
    have base_of : ∀ {b : Addr} {o : Obj}, s₁.heap.get? b = some o → H b = none → (hidT s₁.heap H).get? b = some o := fun e n => hidT_get e n
    have noA : ∀ {b : Addr} {o : Obj} {es : Array DictEntry} {ep : Nat}, s₁.heap.get? b = some o → o.data = .dict es ep → H b = none := fun {b o es ep} e d => by
      cases q : H b with
      | none => rfl
      | some u =>
        have e' : b = a := hA b (by rw [q]; simp)
        subst e'
        rw [ha] at e; cases e
        have d' : Data.seq vs.toArray _ = Data.dict es ep := d
        cases d'
    have nsK : ∀ {b : Addr} {m : Str → Option Value}, s₁.heap.Ns b m → (hidT s₁.heap H).Ns b m := fun {b m} ⟨o, es, ep, e, d, r⟩ => ⟨o, es, ep, base_of e (noA e d), d, r⟩
    have hKb : K.In (hidT s₁.heap H) := fun b o e => base_of (KX b o e) (by
      cases q : H b with
      | none => rfl
      | some u =>
        have e' : b = a := hA b (by rw [q]; simp)
        subst e'
        rw [hK (by rw [q]; simp)] at e; cases e)
    have hM : Mod K mg (hidT s₁.heap H) := ⟨hKb, nsK hns, ⟨mb, nsK hb, hbb⟩, let ⟨mc, h1, h2⟩ := hlim; ⟨mc, nsK h1, h2⟩⟩
    have e0 : Env0 P w K mg (hidT s₁.heap H) callerA [] s₁ H := ⟨rfl, hM, fun b o e => of_hidT e, Nat.le_of_eq (hidT_size _ _), trivial, fun b hb => absurd (show b ∈ ([] : List Addr) from hb) (by simp), hok, .of_eq hg⟩
    refine codeAny_mono ((F _ hKb (nsK hns)).run callerA [] s₁ H ⟨[.ref a], []⟩ [.ref a] [.ref a] _ _ hr e0 (hbind s₁ (.ref a)) (.cons rfl .nil) (hsp H hO hS)) fun r s' h => ?_
    cases r with
    | error e => exact (hCX H e s' h).elim
    | ok fl =>
      cases fl with
      | next => exact False.elim h
      | brk => exact False.elim h
      | cont => exact False.elim h
      | ret u =>
        obtain ⟨v, H', os, bare, un, hok', r', q⟩ := h
        have q' : v = .bl true := q
        subst q'
        obtain rfl : u = Value.bool true := r'
        refine ⟨rfl, OldK.of_keep fun b o e => ?_, os, bare⟩
        cases q : H b with
        | none => exact un.keep b o e q (by intro z; exact absurd (show b ∈ ([] : List Addr) from z) (by simp)) (by simp)
        | some u =>
          rcases hO b with z | ⟨ob, xs, z⟩
          · rw [q] at z; cases z
          · have z2 := un.frzs b ob _ z
            obtain ⟨e1, _⟩ := hok b _ z
            obtain ⟨e2, _⟩ := hok' b _ z2
            rw [e] at e1; cases e1
            exact e2
  cases hk : K.lookup a with
  | some o =>
    -- the script is one of the module's own objects
    have e := KX a o hk
    rw [ha] at e
    cases e
    refine core (fun _ => none) (fun _ => .inl rfl) (.inr ⟨_, vs.toArray, _, hk, rfl, rfl, rfl, by rw [List.size_toArray, lenV]; exact hl, by simpa using rv⟩) (fun b u z => by have z' : (none : Option HO) = some u := z; cases z') (fun b z => absurd rfl z) fun z => absurd rfl z
  | none =>
    refine core (fun b => if b = a then some (.frz { cls := .type "list", data := .seq vs.toArray } (.lst (ns.map V.int))) else none) (fun b => ?_) (.inl (.inr ⟨{ cls := .type "list", data := .seq vs.toArray }, if_pos rfl⟩)) (fun b u z => ?_) (fun b z => ?_) fun _ => hk
    · by_cases hb : b = a
      · exact .inr ⟨_, _, if_pos hb⟩
      · exact .inl (if_neg hb)
    · by_cases hb : b = a
      · have z' := (if_pos hb).symm.trans z
        cases z'
        subst hb
        exact ⟨ha, by rw [List.length_map]; exact hl, vs, _, rv, ha⟩
      · have z' := (if_neg hb).symm.trans z
        cases z'
    · by_cases hb : b = a
      · exact hb
      · exact absurd (if_neg hb) z
end L2

namespace L2
open PySem PySem.Spec PyProof.Rows

/-- the goal that k_head leaves (case hc), from the law's promise. F gives the function object fd (K's own) once, then the promise over every base -/
theorem walk_of {l : PySem.W.OpenLaw} {n k : Nat} {q : Program} {loose : List Str} {XP : (Str → Option Value) → Heap → Prop} {YP : World → Heap → Prop} {d : DefRec} {K : Params → PySem.W.Frag} {CX : World → CXT} {sp : World → Sp} {x : Str}
    (hn : l.most = some n) (hn2 : n ≤ sizeLine) (hdf : d.params.defaults = []) (hr : Room k callerA)
    (hY : ∀ (w : World) (h : Heap), YP w h → (K w.params).In h)
    (F : ∀ (w : World) (mg : Str → Option Value) (fa : Addr) (h : Heap), (K w.params).In h → h.Ns mainGlobals mg → mg d.name = some (.ref fa) →
      ∃ fd : FuncData, (∀ (s : Shared) (u : Value), BindsTo s fd ⟨[u], []⟩ [(x, u)]) ∧
        ∀ base : Heap, (K w.params).In base → base.Ns mainGlobals mg → FnOk l.prog w (K w.params) mg base (CX w) k fa fd [x] (sp w))
    (hsp : ∀ (w : World) (H : Hp) (a : Addr) (ns : List Int), ns.length ≤ n → Only H → SqL (K w.params) H a (ns.map V.int) → sp w [.ref a] H (fun v _ => v = .bl true) fun _ _ _ => False)
    (hCX : ∀ (w : World) (H : Hp) (s : Shared) (e : Value) (s' : Shared), CX w [] H s (fun _ _ _ => False) e s' → False) :
    PySem.W.WalkO q loose XP YP l.row.toRowW d [] (fun f vs => PySem.call f vs) := by
  refine Att.attach_call hn hdf fun w s₀ s₁ mg mb fa o pm cd doc a vs ns G Y ho hd hcd hmg hobj hints hlen hg => ?_
  have KX := hY w _ Y
  obtain ⟨fd, hb, hF⟩ := F w mg fa _ KX G.T.g hmg
  exact law_call KX G.T.g G.T.b G.T.builtins G.T.nolimit hg hobj hints (Nat.le_trans hlen hn2) hr hF hb (fun H hO hS => hsp w H a ns hlen hO hS) fun H e s' => hCX w H s₁ e s'
end L2


namespace L2
open PySem PySem.Spec PyProof.Rows

def defArgs (s : Stmt) : Arguments := match s with
  | .FunctionDef _ a _ _ _ _ _ _ _ _ => a
  | _ => { posonlyargs := [], args := [], vararg := none, kwonlyargs := [], kw_defaults := [], kwarg := none, defaults := [] }
def defBody (s : Stmt) : List Stmt := match s with
  | .FunctionDef _ _ b _ _ _ _ _ _ _ => b
  | _ => []
def defScope (s : Stmt) : Scope := match s with
  | .FunctionDef _ _ _ _ _ _ sc _ _ _ => sc
  | _ => { kind := .function, names := [], isGenerator := false, isCoroutine := false }

abbrev CX0 : CXT := fun _ _ _ _ _ _ => False
abbrev E0 : XK := fun _ _ _ => False
theorem pass0 {X : Cx} : Passes CX0 X E0 := fun _ _ _ _ _ _ _ h => h.elim

structure Fun (K : PySem.W.Frag) (x qual : Str) (st : Stmt) (f : Addr) (fd : FuncData) : Prop where
  ex : ∃ (oc : Value) (od : Option Addr) (kV doc pm : Value) (an : Option Addr) (cdv ct : Value) (osl : Array (Option Value)),
    fd = PySem.W.fnOf x qual (defArgs st) (defBody st) (defScope st) .none kV doc pm an cdv ct ∧ K.lookup f = some ⟨oc, od, .func fd, osl⟩ ∧ PySem.W.codeIn K cdv qual = true
  kp : PySem.W.keepIn K (.ref f) = true
section
variable {P : Program} {w : World} {K : PySem.W.Frag} {mg : Str → Option Value} {base : Heap}
/-- THE RULE for a def: its body as a term of rules, and the reading of that term -/
theorem Fun.ok {x qual : Str} {st : Stmt} {f : Addr} {fd : FuncData} {N ps : List Str} {k : Nat} {sp : Sp} (F : Fun K x qual st f fd) (S : FnScope N ps (defScope st)) (len : ∀ vs H Q E, sp vs H Q E → vs.length = ps.length)
    (hbody : ∀ (cdv : Value) (A : Around) (outer : List Env) (s : Shared) (H : Hp) (vs : List V) (Q : VK) (E : XK), Room k (A.deeper (envOfC qual (defScope st) s.heap.objs.size f cdv)) → sp vs H Q E →
      ∃ t, PSs (cxOf CX0 P w K mg base N qual (defScope st) f cdv A outer s H E).nox (defBody st) t ∧ t { nx := fun _ H' => Q .non H', rt := Q } (start N vs) H) : FnOk P w K mg base CX0 (k + 1) f fd ps sp := by
  obtain ⟨oc, od, kV, doc, pm, an, cdv, ct, osl, rfl, lk, hcd⟩ := F.ex
  refine fn_of lk hcd S len fun A outer s H vs Q E hr hsp => ?_
  obtain ⟨t, h, q⟩ := hbody cdv A outer s H vs Q E hr hsp
  exact ⟨t, h.nox, q⟩
/-- how its arguments bind (no defaults): h is «fun _ _ _ _ _ _ us hl => match us, hl with | [_, _], _ => rfl», one _ a parameter -/
theorem Fun.binds {x qual : Str} {st : Stmt} {f : Addr} {fd : FuncData} {ps : List Str} (F : Fun K x qual st f fd)
    (h : ∀ (kV doc pm : Value) (an : Option Addr) (cdv ct : Value) (us : List Value), us.length = ps.length → bindArgs (PySem.W.fnOf x qual (defArgs st) (defBody st) (defScope st) .none kV doc pm an cdv ct) ⟨us, []⟩ = pure (ps.zip us)) : Binds K fd ps [] := by
  obtain ⟨oc, od, kV, doc, pm, an, cdv, ct, osl, rfl, lk, hcd⟩ := F.ex
  exact .all (h kV doc pm an cdv ct)
theorem fun_mk {x qual : Str} {st : Stmt} {f : Addr} {oc : Value} {od an : Option Addr} {osl : Array (Option Value)} {kV doc pm cdv ct : Value} (l : K.lookup f = some ⟨oc, od, .func (PySem.W.fnOf x qual (defArgs st) (defBody st) (defScope st) .none kV doc pm an cdv ct), osl⟩)
    (c : PySem.W.codeIn K cdv qual = true) (k : PySem.W.keepIn K (.ref f) = true) : Fun K x qual st f (PySem.W.fnOf x qual (defArgs st) (defBody st) (defScope st) .none kV doc pm an cdv ct) := ⟨⟨oc, od, kV, doc, pm, an, cdv, ct, osl, rfl, l, c⟩, k⟩
end
theorem small1000 {n : Nat} (h : n ≤ 1000) : n < sizeLine := Nat.lt_of_le_of_lt h (by decide)

/-! ### expressions in short: the name that stands in the i-th slot -/
section
variable {X : Cx}
end

theorem iteF {A B : Prop} (h : B) : if false = true then A else B := by
  rw [if_neg Bool.false_ne_true]
  exact h
theorem iteT {A B : Prop} (h : A) : if true = true then A else B := by
  rw [if_pos rfl]
  exact h
/-- all that was tracked is as it was -/
def Same (H H' : Hp) : Prop := ∀ b o, H b = some o → H' b = some o
theorem Same.refl (H : Hp) : Same H H := fun _ _ h => h
theorem Same.trans {H H1 H2 : Hp} (a : Same H H1) (b : Same H1 H2) : Same H H2 := fun c o h => b c o (a c o h)
theorem Same.free {H H' : Hp} (e : Same H H') {l : Addr} (h : H' l = Option.none) : H l = Option.none := by
  cases q : H l with
  | none => rfl
  | some o =>
    rw [e l o q] at h
    cases h
theorem Same.seq {K : PySem.W.Frag} {H H' : Hp} {a : Addr} {xs : List V} (e : Same H H') (h : SqL K H a xs) : SqL K H' a xs := by
  rcases h with (h | ⟨o, h⟩) | h
  · exact .inl (.inl (e _ _ h))
  · exact .inl (.inr ⟨o, e _ _ h⟩)
  · exact .inr h

end L2


namespace L2
open PySem PySem.Spec PyProof.Rows

def closOf (cells : List (Str × Addr)) : List (Str × NameKind) → List (Str × Addr) → List (Str × Addr)
  | [], acc => acc
  | (n, k) :: r, acc => if k == .free then closOf cells r ((n, (cells.lookup n).getD 0) :: acc) else closOf cells r acc

theorem clos_forIn {env : Env} (f : Str × NameKind → List (Str × Addr) → Sem (ForInStep (List (Str × Addr))))
    (hf : ∀ n k cs, f (n, k) cs = if k == .free then (do let c ← cellOf env n; pure (.yield ((n, c) :: cs))) else pure (.yield cs)) :
    ∀ (names : List (Str × NameKind)) (acc : List (Str × Addr)), (∀ x ∈ names, x.2 = .free → ∃ c, env.cells.lookup x.1 = some c) →
      forIn names acc f = pure (closOf env.cells names acc)
  | [], acc, _ => by rw [List.forIn_nil]; rfl
  | (n, k) :: r, acc, h => by
    rw [List.forIn_cons, hf]
    unfold closOf
    by_cases hk : (k == .free) = true
    · obtain ⟨c, hc⟩ := h (n, k) List.mem_cons_self (beq_iff_eq.mp hk)
      have hc' : env.cells.lookup n = some c := hc
      rw [if_pos hk, if_pos hk]
      have : cellOf env n = pure c := by unfold cellOf; rw [hc']
      rw [this, hc']
      simp only [pure_bind, Option.getD_some]
      exact clos_forIn f hf r _ fun x hx => h x (List.mem_cons_of_mem _ hx)
    · rw [if_neg hk, if_neg hk]
      simp only [pure_bind]
      exact clos_forIn f hf r _ fun x hx => h x (List.mem_cons_of_mem _ hx)

theorem closureFor_eq {scope : Scope} {env : Env} (h : ∀ x ∈ scope.names, x.2 = .free → ∃ c, env.cells.lookup x.1 = some c) :
    closureFor scope env = pure (closOf env.cells scope.names []) := by
  simp only [closureFor]
  rw [clos_forIn (env := env) _ (fun n k cs => by cases hk : k == NameKind.free <;> simp [hk]) scope.names [] h]
  simp

theorem closOf_lookup {cells : List (Str × Addr)} : ∀ (names : List (Str × NameKind)) (acc : List (Str × Addr)) {x : Str} {c : Addr}, (closOf cells names acc).lookup x = some c →
    acc.lookup x = some c ∨ ((x, NameKind.free) ∈ names ∧ c = (cells.lookup x).getD 0)
  | [], _, _, _, h => .inl h
  | (n, k) :: r, acc, x, c, h => by
    unfold closOf at h
    by_cases hk : (k == .free) = true
    · rw [if_pos hk] at h
      rcases closOf_lookup r _ h with q | ⟨q1, q2⟩
      · rw [List.lookup_cons] at q
        cases hx : x == n with
        | true =>
          rw [hx] at q
          have e := beq_iff_eq.mp hx
          subst e
          exact .inr ⟨by rw [← beq_iff_eq.mp hk]; exact List.mem_cons_self, (Option.some.inj q).symm⟩
        | false => rw [hx] at q; exact .inl q
      · exact .inr ⟨List.mem_cons_of_mem _ q1, q2⟩
    · rw [if_neg hk] at h
      rcases closOf_lookup r _ h with q | ⟨q1, q2⟩
      · exact .inl q
      · exact .inr ⟨List.mem_cons_of_mem _ q1, q2⟩
theorem closOf_some {cells : List (Str × Addr)} {x : Str} : ∀ (names : List (Str × NameKind)) (acc : List (Str × Addr)), ((x, NameKind.free) ∈ names ∨ (acc.lookup x).isSome = true) → ((closOf cells names acc).lookup x).isSome = true
  | [], _, h => h.elim (fun z => nomatch z) id
  | (n, k) :: r, acc, h => by
    unfold closOf
    by_cases hk : (k == .free) = true
    · rw [if_pos hk]
      refine closOf_some r _ ?_
      rcases h with h | h
      · rcases List.mem_cons.mp h with e | h
        · cases e
          exact .inr (by rw [List.lookup_cons, beq_self_eq_true]; rfl)
        · exact .inl h
      · refine .inr ?_
        rw [List.lookup_cons]
        cases x == n
        · exact h
        · rfl
    · rw [if_neg hk]
      refine closOf_some r _ ?_
      rcases h with h | h
      · rcases List.mem_cons.mp h with e | h
        · cases e; exact absurd rfl hk
        · exact .inl h
      · exact .inr h
theorem cellsFrom_lookup : ∀ (names : List (Str × NameKind)) (n : Nat) (acc : List (Str × Addr)) {x : Str} {c : Addr}, (cellsFrom n names acc).lookup x = some c → acc.lookup x = some c ∨ ((x, NameKind.cell) ∈ names ∧ n ≤ c)
  | [], _, _, _, _, h => .inl h
  | (m, k) :: r, n, acc, x, c, h => by
    unfold cellsFrom at h
    by_cases hk : (k == .cell) = true
    · rw [if_pos hk] at h
      rcases cellsFrom_lookup r _ _ h with q | ⟨q1, q2⟩
      · rw [List.lookup_cons] at q
        cases hx : x == m with
        | true =>
          rw [hx] at q
          have e := beq_iff_eq.mp hx
          subst e
          exact .inr ⟨by rw [← beq_iff_eq.mp hk]; exact List.mem_cons_self, by rw [Option.some.inj q]; exact Nat.le_refl _⟩
        | false => rw [hx] at q; exact .inl q
      · exact .inr ⟨List.mem_cons_of_mem _ q1, Nat.le_of_succ_le q2⟩
    · rw [if_neg hk] at h
      rcases cellsFrom_lookup r _ _ h with q | ⟨q1, q2⟩
      · exact .inl q
      · exact .inr ⟨List.mem_cons_of_mem _ q1, q2⟩
/-- own cells of one address have one name -/
theorem cellsFrom_own : ∀ (names : List (Str × NameKind)) (n : Nat) (acc : List (Str × Addr)), (∀ p ∈ acc, p.2 < n) → ∀ {x y : Str} {c : Addr}, (cellsFrom n names acc).lookup x = some c → (cellsFrom n names acc).lookup y = some c → n ≤ c → x = y := by
  have key : ∀ (names : List (Str × NameKind)) (n : Nat) (acc : List (Str × Addr)) (lo : Nat), lo ≤ n → (∀ p ∈ acc, p.2 < n) → (∀ p ∈ acc, ∀ q ∈ acc, lo ≤ p.2 → p.2 = q.2 → p.1 = q.1) →
      ∀ p ∈ cellsFrom n names acc, ∀ q ∈ cellsFrom n names acc, lo ≤ p.2 → p.2 = q.2 → p.1 = q.1 := by
    intro names
    induction names with
    | nil => intro n acc lo _ _ h; exact h
    | cons z r ih =>
      intro n acc lo hlo hlt h
      obtain ⟨m, k⟩ := z
      unfold cellsFrom
      by_cases hk : (k == .cell) = true
      · rw [if_pos hk]
        refine ih _ _ lo (Nat.le_succ_of_le hlo) (fun p hp => ?_) (fun p hp q hq l e => ?_)
        · rcases List.mem_cons.mp hp with e | hp
          · rw [e]; exact Nat.lt_succ_self _
          · exact Nat.lt_succ_of_lt (hlt p hp)
        · rcases List.mem_cons.mp hp with e1 | hp <;> rcases List.mem_cons.mp hq with e2 | hq
          · rw [e1, e2]
          · rw [e1] at e; exact absurd (hlt q hq) (by rw [← e]; exact Nat.lt_irrefl _)
          · rw [e2] at e; exact absurd (hlt p hp) (by rw [e]; exact Nat.lt_irrefl _)
          · exact h p hp q hq l e
      · rw [if_neg hk]
        exact ih _ _ lo hlo hlt h
  intro names n acc hlt x y c hx hy hc
  exact key names n acc n (Nat.le_refl _) hlt (fun p hp q hq l _ => absurd (hlt p hp) (Nat.not_lt.mpr l)) _ (PySem.mem_of_lookup hx) _ (PySem.mem_of_lookup hy) hc rfl
theorem pushCells_cells : ∀ (names : List (Str × NameKind)) (h : Heap) (acc : List (Str × Addr)), (∀ p ∈ acc, ∃ v, h.IsCell p.2 v) → ∀ p ∈ cellsFrom h.objs.size names acc, ∃ v, (pushCells h names).IsCell p.2 v
  | [], _, _, h => h
  | (m, k) :: r, h, acc, hc => by
    unfold cellsFrom pushCells
    by_cases hk : (k == .cell) = true
    · rw [if_pos hk, if_pos hk]
      have := pushCells_cells r (h.push { cls := .type "cell", data := .cell none }) ((m, h.objs.size) :: acc) (fun p hp => by
        rcases List.mem_cons.mp hp with e | hp
        · rw [e]; exact ⟨none, _, Heap.get?_push_size _ rfl, rfl⟩
        · obtain ⟨v, z⟩ := hc p hp
          exact ⟨v, z.keeps fun b o e => Heap.get?_push_of_some _ e⟩)
      rwa [Heap.size_push] at this
    · rw [if_neg hk, if_neg hk]
      exact pushCells_cells r h acc hc
theorem nodup_lookup {names : List (Str × NameKind)} (nd : (names.map (·.1)).Nodup) : ∀ {x : Str} {k : NameKind}, (x, k) ∈ names → names.lookup x = some k := by
  induction names with
  | nil => intro x k h; cases h
  | cons z r ih =>
    intro x k h
    obtain ⟨m, k'⟩ := z
    rw [List.map_cons, List.nodup_cons] at nd
    rw [List.lookup_cons]
    rcases List.mem_cons.mp h with e | h
    · cases e; rw [beq_self_eq_true]
    · have : (x == m) = false := beq_eq_false_iff_ne.mpr fun e => nd.1 (e ▸ List.mem_map.mpr ⟨(x, k), by assumption, rfl⟩)
      rw [this]
      exact ih nd.2 h

theorem relabel_lookup {env : Env} : ∀ {names : List (Str × NameKind)} {x : Str} {k : NameKind},
    (names.map fun (n, k) => if (k == NameKind.free && env.scope.kind == .function && env.kindOf n == some .cell) then (n, NameKind.cell) else (n, k)).lookup x = some k →
    ∃ k0, names.lookup x = some k0 ∧ (k = k0 ∨ (k0 = .free ∧ k = .cell))
  | [], _, _, h => by cases h
  | (n, k0) :: r, x, k, h => by
    rw [List.map_cons] at h
    dsimp only at h
    rw [List.lookup_cons]
    by_cases hc : (k0 == NameKind.free && env.scope.kind == .function && env.kindOf n == some .cell) = true
    · rw [if_pos hc, List.lookup_cons] at h
      cases hx : x == n with
      | true =>
        rw [hx] at h
        refine ⟨k0, rfl, .inr ⟨?_, (Option.some.inj h).symm⟩⟩
        simp only [Bool.and_eq_true] at hc
        exact beq_iff_eq.mp hc.1.1
      | false => rw [hx] at h; exact relabel_lookup h
    · rw [if_neg hc, List.lookup_cons] at h
      cases hx : x == n with
      | true => rw [hx] at h; exact ⟨k0, rfl, .inl (Option.some.inj h).symm⟩
      | false => rw [hx] at h; exact relabel_lookup h
theorem relabel_free {env : Env} : ∀ {names : List (Str × NameKind)} {x : Str}, names.lookup x = some .free →
    (names.map fun (n, k) => if (k == NameKind.free && env.scope.kind == .function && env.kindOf n == some .cell) then (n, NameKind.cell) else (n, k)).lookup x = some .free ∨
    (names.map fun (n, k) => if (k == NameKind.free && env.scope.kind == .function && env.kindOf n == some .cell) then (n, NameKind.cell) else (n, k)).lookup x = some .cell
  | [], _, h => by cases h
  | (n, k0) :: r, x, h => by
    rw [List.map_cons]
    dsimp only
    rw [List.lookup_cons] at h
    by_cases hc : (k0 == NameKind.free && env.scope.kind == .function && env.kindOf n == some .cell) = true
    · rw [if_pos hc, List.lookup_cons]
      cases hx : x == n with
      | true => exact .inr rfl
      | false => rw [hx] at h; exact relabel_free h
    · rw [if_neg hc, List.lookup_cons]
      cases hx : x == n with
      | true => rw [hx] at h; exact .inl h
      | false => rw [hx] at h; exact relabel_free h

theorem newEnv_block {M : Model} {A : Around} {E : Value → Shared → Prop} {s : Shared} {scope : Scope} {env : Env} {cl : List (Str × Addr)} {Q : Env → Shared → Prop}
    (hQ : Q (newEnv scope s.heap.objs.size env.globals (cellsFrom (s.heap.objs.size + 1) scope.names cl) env.qual none .none (some env) builtinsNs)
      { s with heap := pushCells (s.heap.push { cls := .type "dict", data := .dict #[] }) scope.names }) :
    wpAny M A (newFunctionEnv scope env.globals cl [] env.qual none .none (some env)) Q E s := by
  simp only [newFunctionEnv, Option.isSome_some, if_true]
  refine wpAny_bind (wpAny_alloc ?_)
  refine wpAny_bind (wpAny_layCells _ (fun name kind cells => by cases hkc : kind == NameKind.cell <;> simp [hkc]) _ _ _ _ ?_)
  rw [show ({ s with heap := s.heap.push { cls := .type "dict", data := .dict #[] } } : Shared).heap.objs.size = s.heap.objs.size + 1 from Heap.size_push ..]
  refine wpAny_bind ?_
  rw [List.forIn_nil]
  exact wpAny_pure (wpAny_pure hQ)

/-- one turn after another of a block's loop; the step ahead of the store is asked -/
theorem codeAny_compLoop_own {prog : Program} {w : World} {A : Around} {R : Result → Shared → Prop} {s : Shared} {elt target iter : Expr} {ifs : List Expr} {scope : Scope} {pos : Pos} {it acc : Value} {env : Env} (I : Nat → Shared → Prop)
    (turn : ∀ n s, I n s → wpAny (model prog w) A (pyNext it) (fun r s₁ => match r with
      | none => R (.ok .next) s₁
      | some v => wpAny (model prog w) A (letOwnedTupleGo target it v) (fun _ s₁' => wpAny (model prog w) A (assign target env v) (fun _ s₂ =>
          wpAny (model prog w) A (forIn ifs true fun c r => if r = true then do let ok ← isTrue c env (eval c env); pure (ForInStep.yield ok) else pure (ForInStep.yield r)) (fun ok s₃ =>
            if ok = true then wpAny (model prog w) A (eval elt env) (fun x s₄ =>
              wpAny (model prog w) A (call (.builtin "list.append") [acc, x]) (fun _ s₅ => ∃ m, m < n ∧ I m s₅) (fun _ _ => False) s₄) (fun _ _ => False) s₃
            else ∃ m, m < n ∧ I m s₃) (fun _ _ => False) s₂) (fun _ _ => False) s₁') (fun _ _ => False) s₁) (fun _ _ => False) s)
    (n : Nat) (h : I n s) :
    codeAny (model prog w) A (.compLoop (.ListComp elt [⟨target, iter, ifs, 0⟩] scope pos) 0 it acc env) R s := by
  refine codeAny_loop rfl I (fun n s hI => ?_) n h
  show wpAny _ A ((compTurn (.ListComp elt [⟨target, iter, ifs, 0⟩] scope pos) 0 it acc env).onRaise (fun x => do noteFrame x env; theTreesLotGoes x)) _ _ s
  refine wpAny_noted ?_
  rw [compTurn_list]
  refine wpAny_bind (wpAny_standAt (wpAny_bind (wpAny_mono (turn n s hI) (fun r s₁ h₁ => ?_) fun _ _ h' => h'.elim)))
  cases r with
  | none => exact wpAny_pure h₁
  | some v =>
    refine wpAny_bind (wpAny_mono h₁ (fun _ s₁' h₁' => ?_) fun _ _ h' => h'.elim)
    refine wpAny_bind (wpAny_mono h₁' (fun _ s₂ h₂ => wpAny_bind (wpAny_mono h₂ (fun ok s₃ h₃ => ?_) fun _ _ h' => h'.elim)) fun _ _ h' => h'.elim)
    cases ok with
    | false => exact wpAny_pure ⟨rfl, h₃⟩
    | true =>
      exact wpAny_bind (wpAny_bind (wpAny_mono h₃ (fun x s₄ h₄ => wpAny_bind (wpAny_mono h₄ (fun _ s₅ h₅ => wpAny_pure (wpAny_pure ⟨rfl, h₅⟩)) fun _ _ h' => h'.elim)) fun _ _ h' => h'.elim))

def lcX (X : Cx) (scope : Scope) (cells : List (Str × Addr)) (Nc : List Str) (s : Shared) (H : Hp) (C : Addr) (fp : List Addr) : Cx where
  prog := X.prog
  w := X.w
  K := X.K
  mg := X.mg
  base := X.base
  A := X.A
  N := Nc
  s₀ := s
  H₀ := H
  env := compEnvC scope cells C X.env
  outer := X.stack
  stack := X.stack
  ex := fp
  fn := fun x => scope.names.lookup x == some .cell
  calm := X.calm
  pn := []
  xe := fun _ _ => False

/-- what a block's table says: read off the text -/
structure LcScope (X : Cx) (scope : Scope) (Nc : List Str) (emb : St → St) : Prop where
  kind : scope.kind = .function
  nd : (scope.names.map (·.1)).Nodup
  nN : Nc.Nodup
  free : ∀ x ∈ scope.names, x.2 = .free → X.env.kindOf x.1 = some .cell ∨ X.env.kindOf x.1 = some .free
  len : ∀ σ : St, σ.length = X.N.length → (emb σ).length = Nc.length
  emb : ∀ σ : St, σ.length = X.N.length → ∀ (i : Nat) (x : Str) (v : V), Nc[i]? = some x → (emb σ)[i]? = some (some v) → ∃ j : Nat, X.N[j]? = some x ∧ σ[j]? = some (some v) ∧ scope.names.lookup x = some .free

section
variable {X : Cx} {pins : List (Addr × Obj)} {σ : St} {H : Hp} {s : Shared} {scope : Scope} {Nc : List Str} {emb : St → St}

theorem LcScope.clos (S : LcScope X scope Nc emb) (ok : X.Ok) : ∀ x ∈ scope.names, x.2 = .free → ∃ c, X.env.cells.lookup x.1 = some c := fun x hx h => ok.has x.1 (S.free x hx h)

theorem lc_start (S : LcScope X scope Nc emb) (I : Inv X pins σ H s) {fp : List Addr} (hf : ∀ b ∈ fp, FpOk X pins H b) (hfo : ∀ b ∈ fp, ∃ o, s.heap.get? b = some o) {lo : Obj} (hlo : ∀ v, lo.data ≠ .cell v) (hfr : lo.isFreed = false) :
    Inv (lcX X scope (cellsFrom (s.heap.objs.size + 2) scope.names (closOf X.env.cells scope.names [])) Nc s H (s.heap.objs.size + 1) fp) [(s.heap.objs.size, lo)] (emb σ) H
      { s with heap := pushCells ((s.heap.push lo).push { cls := .type "dict", data := .dict #[] }) scope.names } := by
  have hsz2 : ((s.heap.push lo).push { cls := .type "dict", data := .dict #[] }).objs.size = s.heap.objs.size + 2 := by rw [Heap.size_push, Heap.size_push]
  have hsz1 : (s.heap.push lo).objs.size = s.heap.objs.size + 1 := by rw [Heap.size_push]
  have hk : ∀ b o, s.heap.get? b = some o → (pushCells ((s.heap.push lo).push { cls := .type "dict", data := .dict #[] }) scope.names).get? b = some o := fun b o e =>
    pushCells_keeps _ _ b o (Heap.get?_push_of_some _ (Heap.get?_push_of_some _ e))
  have has := S.clos I.ok
  have cl_old : ∀ {x : Str} {c : Addr}, (closOf X.env.cells scope.names []).lookup x = some c → X.env.cells.lookup x = some c ∧ (x, NameKind.free) ∈ scope.names := fun {x c} h => by
    rcases closOf_lookup _ _ h with q | ⟨q1, q2⟩
    · cases q
    · obtain ⟨c', hc'⟩ := has _ q1 rfl
      have hc'' : X.env.cells.lookup x = some c' := hc'
      rw [hc''] at q2
      exact ⟨by rw [hc'', q2]; rfl, q1⟩
  have cells_cases : ∀ {x : Str} {c : Addr}, (cellsFrom (s.heap.objs.size + 2) scope.names (closOf X.env.cells scope.names [])).lookup x = some c →
      (X.env.cells.lookup x = some c ∧ (x, NameKind.free) ∈ scope.names) ∨ ((x, NameKind.cell) ∈ scope.names ∧ s.heap.objs.size + 2 ≤ c) := fun {x c} h => by
    rcases cellsFrom_lookup _ _ _ h with q | q
    · exact .inl (cl_old q)
    · exact .inr q
  have oldlt : ∀ {x : Str} {c : Addr}, X.env.cells.lookup x = some c → c < s.heap.objs.size := fun {x c} h => by
    obtain ⟨v, z⟩ := I.cell x c h
    exact z.lt
  have fplt : ∀ b ∈ fp, b < s.heap.objs.size := fun b hb => by obtain ⟨o, e⟩ := hfo b hb; exact Heap.lt_size e
  have accmem : ∀ p ∈ closOf X.env.cells scope.names [], ∃ x, X.env.cells.lookup x = some p.2 := by
    have key : ∀ (names : List (Str × NameKind)) (acc : List (Str × Addr)), (∀ x ∈ names, x.2 = .free → ∃ c, X.env.cells.lookup x.1 = some c) → (∀ p ∈ acc, ∃ x, X.env.cells.lookup x = some p.2) → ∀ p ∈ closOf X.env.cells names acc, ∃ x, X.env.cells.lookup x = some p.2 := by
      intro names
      induction names with
      | nil => intro acc _ h; exact h
      | cons z r ih =>
        intro acc hn h
        obtain ⟨m, k⟩ := z
        unfold closOf
        by_cases hk : (k == .free) = true
        · rw [if_pos hk]
          refine ih _ (fun x hx => hn x (List.mem_cons_of_mem _ hx)) fun p hp => ?_
          rcases List.mem_cons.mp hp with e | hp
          · obtain ⟨c, hc⟩ := hn _ List.mem_cons_self (beq_iff_eq.mp hk)
            have hc' : X.env.cells.lookup m = some c := hc
            exact ⟨m, by rw [e, hc']; rfl⟩
          · exact h p hp
        · rw [if_neg hk]
          exact ih _ (fun x hx => hn x (List.mem_cons_of_mem _ hx)) h
    exact key _ _ has fun p hp => nomatch hp
  refine ⟨⟨I.ok.mod, S.kind, I.ok.glob, I.ok.blt, Nat.le_succ _, fun x y c h1 h2 => ?_, fun x hx => ?_, fun x c hx h => ?_, I.ok.hd, I.ok.frames, .inl rfl, fun b hb => ?_, I.bs, Nat.le_trans I.ok.bsz I.sz, fun b o e hb => ?_, fun b hb => ?_, I.stack, I.stkFree⟩,
    rfl, I.bare, Un.kept hk, ⟨_, (Heap.Ns.new (s.heap.push lo) (.type "dict")).keeps (pushCells_keeps _ _) |> fun q => by rw [hsz1] at q; exact q, fun i x v h1 h2 _ => ?_⟩, fun x c h => ?_, I.hok.fresh (Nat.le_succ _), fun x c h => ?_, fun p hp => ?_, I.hok.kept hk, S.len σ I.len⟩
  · -- inj
    have h1' : (cellsFrom (s.heap.objs.size + 2) scope.names (closOf X.env.cells scope.names [])).lookup x = some c := h1
    have h2' : (cellsFrom (s.heap.objs.size + 2) scope.names (closOf X.env.cells scope.names [])).lookup y = some c := h2
    rcases cells_cases h1' with ⟨q1, _⟩ | ⟨_, q1⟩
    · rcases cells_cases h2' with ⟨q2, _⟩ | ⟨_, q2⟩
      · exact I.ok.inj x y c q1 q2
      · exact absurd (Nat.lt_of_lt_of_le (Nat.lt_succ_of_lt (Nat.lt_succ_of_lt (oldlt q1))) q2) (Nat.lt_irrefl _)
    · refine cellsFrom_own scope.names _ _ (fun p hp => ?_) h1' h2' q1
      obtain ⟨z, hz⟩ := accmem p hp
      exact Nat.lt_succ_of_lt (Nat.lt_succ_of_lt (oldlt hz))
  · -- has
    have hx' : (relabel scope X.env).names.lookup x = some .cell ∨ (relabel scope X.env).names.lookup x = some .free := hx
    have : ∃ k0, scope.names.lookup x = some k0 ∧ (k0 = .cell ∨ k0 = .free) := by
      rcases hx' with q | q
      · obtain ⟨k0, h1, h2⟩ := relabel_lookup q
        exact ⟨k0, h1, h2.elim (fun e => .inl e.symm) fun e => .inr e.1⟩
      · obtain ⟨k0, h1, h2⟩ := relabel_lookup q
        exact ⟨k0, h1, h2.elim (fun e => .inr e.symm) fun e => by cases e.2⟩
    obtain ⟨k0, h1, h2⟩ := this
    refine Option.isSome_iff_exists.mp (PySem.W.cellsFrom_some scope.names _ _ ?_)
    rcases h2 with rfl | rfl
    · exact .inl h1
    · exact .inr (closOf_some _ _ (.inl (PySem.mem_of_lookup h1)))
  · -- cab
    have hx' : scope.names.lookup x = some .cell := beq_iff_eq.mp hx
    rcases cells_cases h with ⟨_, q⟩ | ⟨_, q⟩
    · have := nodup_lookup S.nd q
      rw [hx'] at this; cases this
    · exact Nat.le_trans (Nat.le_add_right _ 2) q
  · -- exf
    refine ⟨Nat.ne_of_lt (Nat.lt_succ_of_lt (fplt b hb)), fun x c h => ?_⟩
    rcases cells_cases h with ⟨q, _⟩ | ⟨_, q⟩
    · exact (hf b hb).2.2.2.2.1 x c q
    · intro e
      exact absurd (Nat.lt_of_lt_of_le (Nat.lt_succ_of_lt (Nat.lt_succ_of_lt (fplt b hb))) (e ▸ q)) (Nat.lt_irrefl _)
  · -- noex
    have hb' : b ∈ fp := hb
    rcases (hf b hb').2.2.2.1 with q | q
    · exact I.ok.noex b o e q
    · exact absurd (Nat.lt_of_lt_of_le (Heap.lt_size (I.ok.bs b o e).1) q) (Nat.lt_irrefl _)
  · -- exfs
    intro hb2
    rcases List.mem_cons.mp (I.stkSub b hb2) with q | q
    · exact (hf b hb).2.1 q
    · exact (hf b hb).2.2.1 q
  · -- loc
    obtain ⟨j, e1, e2, e3⟩ := S.emb σ I.len i x v h1 h2
    have kx := S.free (x, .free) (PySem.mem_of_lookup e3) rfl
    have kx' : X.env.kindOf x = some .cell ∨ X.env.kindOf x = some .free := kx
    obtain ⟨m, hn, hl⟩ := I.loc
    obtain ⟨u, ru, lk⟩ := hl j x v e1 e2 (.inr kx')
    refine ⟨u, ru, .inr ⟨?_, ?_⟩⟩
    · rcases relabel_free (env := X.env) e3 with q | q
      · exact .inr q
      · exact .inl q
    · rcases lk with ⟨z, _⟩ | ⟨_, c, hc, hcell⟩
      · rcases kx' with q | q <;> (rw [z] at q; cases q)
      · obtain ⟨c', hc'⟩ := Option.isSome_iff_exists.mp (PySem.W.cellsFrom_some scope.names (s.heap.objs.size + 2) (closOf X.env.cells scope.names []) (x := x) (.inr (closOf_some _ _ (.inl (PySem.mem_of_lookup e3)))))
        rcases cells_cases hc' with ⟨q, _⟩ | ⟨q, _⟩
        · rw [hc] at q
          cases q
          exact ⟨c, hc', hcell.keeps hk⟩
        · have := nodup_lookup S.nd q
          rw [e3] at this; cases this
  · -- cell
    have h' : (cellsFrom (s.heap.objs.size + 2) scope.names (closOf X.env.cells scope.names [])).lookup x = some c := h
    have := pushCells_cells scope.names ((s.heap.push lo).push { cls := .type "dict", data := .dict #[] }) (closOf X.env.cells scope.names []) (fun p hp => by
      obtain ⟨z, hz⟩ := accmem p hp
      obtain ⟨v, q⟩ := I.cell z p.2 hz
      exact ⟨v, q.keeps fun b o e => Heap.get?_push_of_some _ (Heap.get?_push_of_some _ e)⟩) (x, c) (by rw [hsz2]; exact PySem.mem_of_lookup h')
    exact this
  · -- freeC
    rcases cells_cases h with ⟨q, _⟩ | ⟨_, q⟩
    · exact I.freeC x c q
    · exact I.hok.fresh (Nat.le_trans (Nat.le_add_right _ 2) q)
  · -- pin
    have hp' : p = (s.heap.objs.size, lo) := by
      have : p ∈ ([] : List (Addr × Obj)) ++ [(s.heap.objs.size, lo)] := hp
      simpa using this
    subst hp'
    refine ⟨pushCells_keeps _ _ _ _ (Heap.get?_push_of_some _ (Heap.get?_push_size _ hfr)), I.hok.fresh (Nat.le_refl _), Nat.ne_of_lt (Nat.lt_succ_self _), fun hb => ?_, hlo⟩
    rcases List.mem_cons.mp (I.stkSub _ hb) with q | q
    · exact absurd I.lt (by rw [← q]; exact Nat.lt_irrefl _)
    · exact I.nofs (Nat.le_refl _) q
end
end L2

namespace L2
open PySem PySem.Spec PyProof.Rows

/-- the tests of a block -/
def PTs (X : Cx) (ifs : List Expr) (t : TT) : Prop :=
  ∀ (pins : List (Addr × Obj)) (s : Shared) (σ : St) (H : Hp) (Q : Bool → Hp → Prop), Inv X pins σ H s → t σ H Q →
    wpAny (model X.prog X.w) X.A (forIn ifs true fun c r => if r = true then do let ok ← isTrue c X.env (eval c X.env); pure (ForInStep.yield ok) else pure (ForInStep.yield r)) (TP X pins σ Q) X.xe s
def tYes : TT := fun _ H Q => Q true H
theorem pts_nil {X : Cx} : PTs X [] tYes := fun _ _ _ H _ I h => wpAny_tests_nil ⟨H, I, h⟩
theorem pts_one {X : Cx} {c : Expr} {t : TT} (hc : PT X c t) : PTs X [c] t := fun pins s σ H Q I h => wpAny_tests_one (hc pins s σ H Q I h)

/-- what is known of the names stays known -/
def Sub (σ σ' : St) : Prop := σ.length = σ'.length ∧ ∀ (i : Nat) (v : V), σ[i]? = some (some v) → σ'[i]? = some (some v)
/-- a list of the elements: W by the turn, a measure, what is gathered -/
def LcEnd (J : It) (σe : St) (g : TG) (tt : TT) (te : TE) (H1 : Hp) (Q : VK) : Prop := ∃ W : Nat → Nat → List V → Hp → Prop, (∃ m, W 0 m [] H1) ∧ ∀ i m ys H, W i m ys H →
  (J.stop i H ∧ ∀ D, H D = none → Q (.ref D) (upd H D (.lst ys))) ∨
  (J.go i H ∧ ys.length < sizeLine ∧ ∃ N : List V → Hp → Prop, (∀ ys' H', N ys' H' → ∃ m', m' < m ∧ W (i + 1) m' ys' H') ∧ ∀ x H', J.yld i H x H' → g x σe H' fun σ2 H2 => Sub σe σ2 ∧ tt σ2 H2 fun b H3 => if b = true then te σ2 H3 fun v H4 => N (ys ++ [v]) H4 else N ys H3)
def tLc (emb : St → St) (wi : TI) (g : TG) (tt : TT) (te : TE) : TE := fun σ H Q => wi σ H fun J H1 => LcEnd J (emb σ) g tt te H1 Q

section
variable {X : Cx} {scope : Scope} {Nc : List Str} {emb : St → St} {elt iter tg : Expr} {ifs : List Expr} {pos : Pos} {wi : TI} {g : TG} {tt : TT} {te : TE}

theorem pe_lc (S : LcScope X scope Nc emb) (hc : X.calm = true) (hi : PI X tg iter wi)
    (hg : ∀ cells s H C fp, PG (lcX X scope cells Nc s H C fp) tg g) (ht : ∀ cells s H C fp, PTs (lcX X scope cells Nc s H C fp) ifs tt) (he : ∀ cells s H C fp, PE (lcX X scope cells Nc s H C fp) elt te)
    (hs : ∀ x, foldedSetIterable iter X.env x = pure x := by intro _; rfl) : PE X (.ListComp elt [⟨tg, iter, ifs, 0⟩] scope pos) (tLc emb wi g tt te) := by
  intro pins s σ H Q I h
  rw [eval_ListComp]
  refine wpAny_comprehension_free (use := none) rfl hs (closureFor_eq (S.clos I.ok)) S.kind (fun x hx hl => nodup_lookup S.nd (by rw [← hl]; exact hx)) ?_
  refine thn (hi pins s σ H _ I h) fun v s1 h1 => thn h1 fun itv s2 h2 => ?_
  obtain ⟨it, fp, tn, J, H2, e, I2, T, st2, f2, W, ⟨m0, w0⟩, turn⟩ := h2
  subst e
  refine wpAny_newObj_type (newEnv_block ?_)
  rw [show (s2.heap.push { cls := .type "list", dict := none, data := .seq ([] : List Value).toArray }).objs.size = s2.heap.objs.size + 1 from Heap.size_push ..]
  generalize hD : s2.heap.objs.size = D
  generalize hlo : ({ cls := .type "list", dict := none, data := .seq ([] : List Value).toArray } : Obj) = lo
  have fplt : ∀ b ∈ fp, b < s2.heap.objs.size := fun b hb => by obtain ⟨o, e, _⟩ := T.obj _ _ st2 b hb; exact Heap.lt_size e
  have I3 := lc_start (lo := lo) S I2 f2 (fun b hb => by obtain ⟨o, e, _⟩ := T.obj _ _ st2 b hb; exact ⟨o, e⟩) (by rw [← hlo]; intro v z; cases z) (by rw [← hlo]; rfl)
  rw [hD] at I3
  generalize hcells : cellsFrom (D + 2) scope.names (closOf X.env.cells scope.names []) = cells at I3
  generalize hX' : lcX X scope cells Nc s2 H2 (D + 1) fp = X' at I3
  have hfpX : ∀ {H' : Hp} {ps : List (Addr × Obj)}, (∀ b ∈ fp, H' b = none) → (∀ p ∈ ps, p.1 = D) → ∀ b ∈ fp, FpOk X' ps H' b := fun {H' ps} hn hps b hb => by
    have ok := I3.ok
    refine ⟨hn b hb, ?_, ?_, .inl (by rw [← hX']; exact hb), ?_, fun p hp => ?_⟩
    · exact (ok.exf b (by rw [← hX']; exact hb)).1
    · exact ok.exfs b (by rw [← hX']; exact hb)
    · exact (ok.exf b (by rw [← hX']; exact hb)).2
    · have hp' : p ∈ ([] : List (Addr × Obj)) ++ ps := by rw [← hX'] at hp; exact hp
      have e : p.1 = D := hps p (by simpa using hp')
      rw [e, ← hD]
      exact Nat.ne_of_gt (fplt b hb)
  have Dex : D ∈ X'.ex ∨ X'.s₀.heap.objs.size ≤ D := .inr (by rw [← hX', ← hD]; exact Nat.le_refl _)
  have Dloc : D ≠ X'.env.locals := by rw [← hX']; exact Nat.ne_of_lt (Nat.lt_succ_self _)
  have pD := I3.pin (D, lo) (by rw [← hX']; exact List.mem_append_right _ List.mem_cons_self)
  have Dfs : D ∉ X'.fs := pD.2.2.2.1
  have Dcell : ∀ x c, X'.env.cells.lookup x = some c → c ≠ D := fun x c hc' e => by
    obtain ⟨v, o, ho, hd⟩ := I3.cell x c hc'
    rw [e, pD.1] at ho
    cases ho
    exact pD.2.2.2.2 v hd
  -- the loop
  have loop : ∀ s3 : Shared, s3 = { s2 with heap := pushCells ((s2.heap.push lo).push { cls := .type "dict", data := .dict #[] }) scope.names } →
      codeAny (model X.prog X.w) X.A (.compLoop (.ListComp elt [⟨tg, iter, ifs, 0⟩] scope pos) 0 (.ref it) (.ref D) (compEnvC scope cells (D + 1) X.env))
        (compPost (model X.prog X.w) X.A X.xe none (EP X pins σ Q) (.ref D) (D + 1)) s3 := by
    rintro s3 rfl
    refine codeAny_compLoop_own (fun n s' => ∃ i ys its k H', Inv X' [(D, { cls := .type "list", data := .seq its.toArray k })] (emb σ) H' s' ∧ Vals ys its ∧ tn i s'.heap ∧ (∀ b ∈ fp, H' b = none) ∧ ys.length ≤ sizeLine ∧ W i n ys H') ?_ m0
      ⟨0, [], [], 0, H2, ?_, .nil, ?_, fun b hb => (f2 b hb).1, Nat.zero_le _, w0⟩
    · rintro n s4 ⟨i, ys, its, k, H4, I4, rv, st4, fr4, hlen, w4⟩
      have hps : ∀ p ∈ [(D, ({ cls := .type "list", data := .seq its.toArray k } : Obj))], p.1 = D := fun p hp => by
        have := List.mem_singleton.mp hp
        rw [this]
      rcases turn i n ys H4 w4 with ⟨stop, qn⟩ | ⟨go, hlt, N, hN, step⟩
      · -- the end
        have TD := T.done X' (by rw [← hX']; rfl) (by rw [← hX']; rfl) (by rw [← hX']; rfl) (by rw [← hX']; exact hc) i _ s4 (emb σ) H4 (fun _ _ => False) I4 (hfpX fr4 hps) st4 stop
        rw [show X'.A = X.A by rw [← hX']; rfl] at TD
        refine thn TD fun r s5 ⟨hr, I5⟩ => ?_
        subst hr
        obtain ⟨m5, hn5, _⟩ := id I5.loc
        have eC : X'.env.locals = D + 1 := by rw [← hX']; rfl
        rw [eC] at hn5
        refine ⟨m5, hn5, fun h' hsb => ?_⟩
        have pD5 := I5.pin (D, { cls := .type "list", data := .seq its.toArray k }) (by rw [← hX']; exact List.mem_append_right _ List.mem_cons_self)
        have neC : ∀ b u, H4 b = some u → b ≠ D + 1 := fun b u e z => by
          have := I5.free
          rw [eC, ← z, e] at this
          cases this
        have hD4 : H4 D = none := pD5.2.1
        have un := I5.base
        have un' : Un (frs X.stack) fp H2 H4 s2.heap s5.heap := by rw [← hX'] at un; exact un
        have old_ne : ∀ b o, s2.heap.get? b = some o → b ≠ D ∧ b ≠ D + 1 := fun b o e => by
          have q := Heap.lt_size e
          rw [hD] at q
          exact ⟨Nat.ne_of_lt q, Nat.ne_of_lt (Nat.lt_succ_of_lt q)⟩
        have h2D : H2 D = none := by rw [← hD]; exact I2.fresh
        have hok' : HOk X.prog X.w H4 h' := fun b u e => by
          have ob : ObjOk X.prog X.w H4 s5.heap b u := by have := I5.hok b u e; rw [← hX'] at this; exact this
          refine ob.stay (fun c v hcv q => (hsb.2 c ?_).trans q) (fun _ q => q) fun _ _ q => q
          rcases hcv with z | z
          · rw [z]; exact neC b u e
          · exact neC c _ z
        have hokD : HOk X.prog X.w (upd H4 D (.lst ys)) h' := fun b u e => by
          by_cases hb : b = D
          · subst hb
            rw [upd_same] at e
            cases e
            exact ⟨hlen, its, k, rv, (hsb.2 b (Nat.ne_of_lt (Nat.lt_succ_self _))).trans pD5.1⟩
          · rw [upd_ne hb] at e
            refine (hok' b u e).stay (fun _ _ _ q => q) (fun c q => ?_) fun c z q => ?_
            all_goals first
              | (rw [upd_ne (ne_of_none q hD4)]; exact q)
              | (rw [upd_ne (ne_of_none z hD4)]; exact z)
        refine ⟨.ref D, upd H4 D (.lst ys), ?_, rfl, qn D hD4⟩
        refine I2.call' (s' := { s5 with heap := h' }) (ch := fp) ?_ ⟨fun b o e nb hb hx => ?_, fun b o e nb hb hx => ?_, fun b o e nb hx => ?_, fun b o e hx => ?_, fun b xs e => ?_, fun b o u e => ?_, fun b ps e => ?_⟩ hokD I5.bare (fun b hb => ?_)
        · have := I5.os
          rw [← hX'] at this
          exact this
        · exact (hsb.2 b (old_ne b o e).2).trans (un'.keep b o e nb hb hx)
        · obtain ⟨sl, q⟩ := un'.slot b o e nb hb hx
          exact ⟨sl, (hsb.2 b (old_ne b o e).2).trans q⟩
        · rw [upd_ne (old_ne b o e).1]
          exact un'.free b o e nb hx
        · obtain ⟨o', q⟩ := un'.there b o e hx
          exact ⟨o', (hsb.2 b (old_ne b o e).2).trans q⟩
        · rw [upd_ne (ne_of_none e h2D)]
          exact un'.tups b xs e
        · rw [upd_ne (ne_of_none e h2D)]
          exact un'.frzs b o u e
        · obtain ⟨m, q⟩ := un'.tbls b ps e
          exact ⟨m, by rw [upd_ne (ne_of_none e h2D)]; exact q⟩
        · obtain ⟨q0, q1, q2, q3, q4, q5⟩ := f2 b hb
          exact ⟨q3, q1, q4, q5⟩
      · -- a turn
        have hA : X'.A = X.A := by rw [← hX']; rfl
        have hP : X'.prog = X.prog := by rw [← hX']; rfl
        have hw : X'.w = X.w := by rw [← hX']; rfl
        have hE : X'.env = compEnvC scope cells (D + 1) X.env := by rw [← hX']; rfl
        have hxe : X'.xe = fun _ _ => False := by rw [← hX']; rfl
        have TI' := T.item X' hP hw (by rw [← hX']; rfl) (by rw [← hX']; exact hc) i _ s4 (emb σ) H4 (fun _ _ => False) I4 (hfpX fr4 hps) st4 go
        rw [hA] at TI'
        refine thn TI' fun r s5 ⟨u, hr, h5⟩ => ?_
        subst hr
        refine thn h5 fun _ s6 ⟨x, H6, I6, r6, y6, st6, fr6⟩ => ?_
        have I6' := I6.pinned (hfpX fr6 hps) (T.obj _ _ st6)
        have G := hg cells s2 H2 (D + 1) fp
        have TT' := ht cells s2 H2 (D + 1) fp
        have EE := he cells s2 H2 (D + 1) fp
        rw [hX'] at G TT' EE
        have G' := G _ s6 (emb σ) H6 x u _ I6' r6 (step x H6 y6)
        rw [hA, hP, hw, hE, hxe] at G'
        refine thn G' fun _ s7 ⟨σ7, H7, I7, sb7, q7⟩ => ?_
        have T' := TT' _ s7 σ7 H7 _ I7 q7
        rw [hA, hP, hw, hE, hxe] at T'
        refine thn T' fun ok s8 ⟨H8, I8, q8⟩ => ?_
        -- what is pinned
        have pin_fp : ∀ {σ9 : St} {H9 : Hp} {s9 : Shared}, Inv X' ([(D, ({ cls := .type "list", data := .seq its.toArray k } : Obj))] ++ pinsAt fp s6.heap) σ9 H9 s9 → tn (i + 1) s9.heap ∧ ∀ b ∈ fp, H9 b = none := fun {σ9 H9 s9} I9 =>
          ⟨T.keep _ _ _ st6 fun b hb o e => (I9.pin (b, o) (List.mem_append_right _ (List.mem_append_right _ (mem_pinsAt hb e)))).1, fun b hb => by
            obtain ⟨o, e, _⟩ := T.obj _ _ st6 b hb
            exact (I9.pin (b, o) (List.mem_append_right _ (List.mem_append_right _ (mem_pinsAt hb e)))).2.1⟩
        cases ok with
        | false =>
          rw [if_neg (by decide)] at q8
          rw [if_neg (by decide)]
          obtain ⟨m', hm, w8⟩ := hN _ _ q8
          exact ⟨m', hm, i + 1, ys, its, k, H8, I8.unpinned.weak sb7.1 sb7.2, rv, (pin_fp I8).1, (pin_fp I8).2, hlen, w8⟩
        | true =>
          rw [if_pos rfl] at q8
          rw [if_pos rfl]
          have E' := EE _ s8 σ7 H8 _ I8 q8
          rw [hA, hP, hw, hE, hxe] at E'
          refine thn E' fun y s9 ⟨v9, H9, I9, r9, n9⟩ => ?_
          obtain ⟨m', hm, w9⟩ := hN _ _ n9
          have pD9 := I9.pin (D, { cls := .type "list", data := .seq its.toArray k }) (List.mem_append_right _ (List.mem_append_left _ List.mem_cons_self))
          have hl := rv.length
          have I9n : Inv X' [] σ7 H9 s9 := I9.pins_of fun p hp => nomatch hp
          refine call_meets F.slot_list_append ⟨_, pD9.1, rfl⟩ F.entry_list_append (F.args_list_append_2 _ _) (PySem.list_append D its.toArray k y (by rw [List.size_toArray]; omega)) ⟨pD9.1, ?_⟩
          have up : ∃ k' : Nat, (s9.heap.update D (Obj.mapSeq fun xs => xs.push y)).get? D = some { cls := .type "list", data := .seq (its ++ [y]).toArray k' } := by
            have q := PySem.IsL.update pD9.1 (fun xs : Array Value => xs.push y)
            simp only [List.push_toArray] at q
            exact ⟨_, q⟩
          obtain ⟨k', up⟩ := up
          have hoth : ∀ b o, b ≠ D → s9.heap.get? b = some o → (s9.heap.update D (Obj.mapSeq fun xs => xs.push y)).get? b = some o := fun b o hb e => (Heap.get?_update_other s9.heap _ (Ne.symm hb)).trans e
          have I10 := I9n.turned (t' := s9.toks) hoth pD9.2.1 Dloc Dex Dcell (fun p hp => absurd (show p ∈ ([] : List (Addr × Obj)) by rw [← hX'] at hp; exact hp) (by simp))
          refine ⟨m', hm, i + 1, ys ++ [v9], its ++ [y], k', H9, (I10.weak sb7.1 sb7.2).pins_of (fun p hp => ?_), rv.append (.cons r9 .nil), T.keep _ _ _ (pin_fp I9).1 (fun b hb o e => hoth b o (by rw [← hD]; exact Nat.ne_of_lt (fplt b hb)) e), (pin_fp I9).2, ?_, w9⟩
          · have := List.mem_singleton.mp hp
            subst this
            exact ⟨up, pD9.2.1, Dloc, Dfs, fun v z => by cases z⟩
          · rw [List.length_append, List.length_singleton]
            omega
    · have q : lo = { cls := .type "list", data := .seq ([] : List Value).toArray 0 } := hlo.symm
      rw [← q]
      exact I3
    · exact T.keep _ _ _ st2 fun b hb o e => pushCells_keeps _ _ b o (Heap.get?_push_of_some _ (Heap.get?_push_of_some _ e))
  refine codeAny_compStart_list ?_ ?_
  · exact loop _ rfl
  · refine T.self X.A 0 _ _ _ (T.keep _ _ _ st2 fun b hb o e => pushCells_keeps _ _ b o (Heap.get?_push_of_some _ (Heap.get?_push_of_some _ e))) ?_
    exact loop _ rfl
end
end L2

namespace L2
open PySem PySem.Spec PyProof.Rows
open PySem.AutoSeq1 (wpAny_loadPart')

section
variable {prog : Program} {w : World} {A : Around} {E : Value → Shared → Prop} {s : Shared}
end

section
variable {X : Cx} {pins : List (Addr × Obj)} {σ : St} {H : Hp} {s : Shared} {h' : Heap} {fp : List Addr}
theorem FpOk.ch (hf : ∀ b ∈ fp, FpOk X pins H b) : ∀ b ∈ fp, (b ∈ X.ex ∨ X.s₀.heap.objs.size ≤ b) ∧ b ≠ X.env.locals ∧ (∀ x c, X.env.cells.lookup x = some c → c ≠ b) ∧ ∀ p ∈ X.pn ++ pins, p.1 ≠ b := fun b hb =>
  let ⟨_, f1, _, f3, f4, f5⟩ := hf b hb
  ⟨f3, f1, f4, f5⟩
theorem Inv.turns {t' : Nat} (I : Inv X pins σ H s) (hf : ∀ b ∈ fp, FpOk X pins H b) (k : ∀ b o, b ∉ fp → s.heap.get? b = some o → h'.get? b = some o) : Inv X pins σ H { s with heap := h', toks := t' } := by
  have nit : ∀ b u, H b = some u → b ∉ fp := fun b u e z => by have := (hf b z).1; rw [e] at this; cases this
  refine I.step (g' := s.gens) (d' := s.drawn) (ch := fp) (FpOk.ch hf) (fun b o _ _ hc e _ => k b o hc e) (fun b o _ _ hc e _ => ⟨o.slots, k b o hc e⟩) (fun _ _ _ _ n => n)
    (fun b o hc e => ⟨o, k b o hc e⟩) (fun _ _ e => e) (fun _ _ _ e => e) (fun b ps e => ⟨#[], by rw [e]; simp⟩) (fun m hm => ?_) (fun b u e => ?_) I.bare
  · obtain ⟨o, es, ep, ho, r⟩ := hm
    exact ⟨o, es, ep, k _ o (fun z => (hf _ z).2.1 rfl) ho, r⟩
  · refine (I.hok b u e).stay (fun c v hc q => k c v ?_ q) (fun _ q => q) fun _ _ q => q
    rcases hc with z | z
    · rw [z]; exact nit b u e
    · exact nit c _ z
end

end L2

namespace L2
open PySem PySem.Spec PyProof.Rows

section
variable {X : Cx}
theorem vals_intsA {ns : List Int} : ∀ {us : List Value}, Vals (ns.map V.int) us → ∃ xs : Array (Int × Tok), us.toArray = intItems xs ∧ xs.toList.map (·.1) = ns := by
  induction ns with
  | nil => intro us r; cases r; exact ⟨#[], by simp [intItems], rfl⟩
  | cons n ns ih =>
    intro us r
    rw [List.map_cons] at r
    cases r with
    | cons r rr =>
      obtain ⟨t, rfl⟩ := r
      obtain ⟨xs, e, e2⟩ := ih rr
      refine ⟨#[(n, t)] ++ xs, ?_, by simp [e2]⟩
      apply Array.toList_inj.mp
      have e' := congrArg Array.toList e
      simp [intItems] at e' ⊢
      exact e'
theorem call_sum : CallR X (.builtin "sum") (fun xs H Q => X.calm = true ∧ ∃ (a : Addr) (ns : List Int), xs = [.ref a] ∧ SqL X.K H a (ns.map V.int) ∧ Q (.int ns.sum) H) := by
  intro pins s σ H xs us Q I rv h
  obtain ⟨hc, a, ns, rfl, hq, q⟩ := h
  cases rv with
  | cons r rr =>
    cases rr
    cases r
    obtain ⟨its, rv, p, hz⟩ := I.list hq
    obtain ⟨ps, e1, e2⟩ := vals_intsA rv
    have hl := p.isList
    rw [e1] at hl
    refine sum_intListG (I.ok.hd hc) hl fun h' tk t' hk => ?_
    refine ⟨.int ns.sum, H, I.kept (t' := tk) hk, ⟨t', ?_⟩, q⟩
    rw [preSum_eq, List.take_of_length_le (by simp), e2]
def dataV : V → PyData
  | .non => .none
  | .bl b => .bool b
  | .int i => .int i
  | .str x => .str x
  | _ => .none
def shownT (ys : List V) : Str := (PyData.tuple (ys.map dataV)).shown
def Plain1 (y : V) : Prop := y = .non ∨ ∃ i : Int, y = .int i ∧ 0 ≤ i ∧ i < 1024
theorem call_reprI : CallR X (.builtin "repr") (fun xs H Q => ∃ i : Int, xs = [.int i] ∧ i.natAbs.log2 < 1920 ∧ Q (.str (toString i)) H) := by
  intro pins s σ H xs us Q I rv h
  obtain ⟨i, rfl, hi, q⟩ := h
  cases rv with
  | cons r rr =>
    cases rr
    obtain ⟨t, rfl⟩ := r
    exact call_repr_gives (typeIs_int s i t) F.slot_int_repr F.entry_int_repr (F.args_int_repr_1 _) (gives_int_repr i t hi) ⟨.str _, H, I.tok _, ⟨_, rfl⟩, q⟩ (hx := int_text_fits hi)
theorem readsAll_plain {h : Heap} : ∀ {ys : List V} {us : List Value}, Vals ys us → (∀ y ∈ ys, Plain1 y) → ReadsAll h us (ys.map dataV) []
  | _, _, .nil, _ => .nil
  | _, _, .cons (a := y) r rr, hp => by
    have hr := readsAll_plain (h := h) rr fun z hz => hp z (List.mem_cons_of_mem _ hz)
    rcases hp y List.mem_cons_self with e | ⟨i, e, _⟩
    · subst e; cases r; exact .cons (as := []) (bs := []) .none hr
    · subst e; obtain ⟨t, rfl⟩ := r; exact .cons (as := []) (bs := []) (.int i t) hr
theorem int_short {i : Int} (h0 : 0 ≤ i) (h1 : i < 1024) : ((toString i : String) : Str).length ≤ 10 := by
  obtain ⟨n, rfl⟩ := Int.eq_ofNat_of_zero_le h0
  have hn : n < 2 ^ 10 := by have : (1024 : Int) = ((2 ^ 10 : Nat) : Int) := by decide
                             omega
  have e : (toString (n : Int)) = Nat.repr n := rfl
  have := nat_repr_length_le (k := 10) (by decide) hn
  rw [e, PySem.ofString_length]
  exact this
theorem shown_short : ∀ {ys : List V}, (∀ y ∈ ys, Plain1 y) → piled (PyData.shownAll (ys.map dataV)) ≤ 12 * ys.length
  | [], _ => by simp [PyData.shownAll, piled]
  | y :: ys, hp => by
    have ih := shown_short (ys := ys) fun z hz => hp z (List.mem_cons_of_mem _ hz)
    rw [List.map_cons, PyData.shownAll, piled_cons, List.length_cons]
    have : (dataV y).shown.length ≤ 10 := by
      rcases hp y List.mem_cons_self with e | ⟨i, e, h0, h1⟩
      · subst e; decide
      · subst e; exact int_short h0 h1
    omega
theorem showable_plain : ∀ {ys : List V}, (∀ y ∈ ys, Plain1 y) → PyData.showableAll (ys.map dataV) = true
  | [], _ => rfl
  | y :: ys, hp => by
    have ih := showable_plain (ys := ys) fun z hz => hp z (List.mem_cons_of_mem _ hz)
    rw [List.map_cons, PyData.showableAll, ih, Bool.and_true]
    rcases hp y List.mem_cons_self with e | ⟨i, e, h0, h1⟩
    · subst e; rfl
    · subst e
      show decide (i.natAbs.log2 < 1920) = true
      refine decide_eq_true ?_
      have hn0 : i.natAbs < 1024 := by omega
      have hn : i.natAbs < 2 ^ 1920 := Nat.lt_of_lt_of_le (show i.natAbs < 2 ^ 10 from hn0) (Nat.pow_le_pow_right (by decide) (by decide))
      by_cases hz : i.natAbs = 0
      · rw [hz]; decide
      · exact (Nat.log2_lt hz).mpr hn
theorem noDict_plain : ∀ {ys : List V}, (∀ y ∈ ys, Plain1 y) → PyData.hasDictAll (ys.map dataV) = false
  | [], _ => rfl
  | y :: ys, hp => by
    have ih := noDict_plain (ys := ys) fun z hz => hp z (List.mem_cons_of_mem _ hz)
    rw [List.map_cons, PyData.hasDictAll, ih, Bool.or_false]
    rcases hp y List.mem_cons_self with e | ⟨i, e, _⟩ <;> subst e <;> rfl
theorem depth_plain : ∀ {ys : List V}, (∀ y ∈ ys, Plain1 y) → (PyData.tuple (ys.map dataV)).depth ≤ 2 := by
  intro ys hp
  have : ∀ {ys : List V}, (∀ y ∈ ys, Plain1 y) → PyData.depthAll (ys.map dataV) ≤ 1 := by
    intro ys
    induction ys with
    | nil => intro _; simp [PyData.depthAll]
    | cons y ys ih =>
      intro hp
      have := ih fun z hz => hp z (List.mem_cons_of_mem _ hz)
      rw [List.map_cons, PyData.depthAll]
      have : (dataV y).depth ≤ 1 := by
        rcases hp y List.mem_cons_self with e | ⟨i, e, _⟩ <;> subst e <;> simp [dataV, PyData.depth]
      omega
  have := this hp
  simp only [PyData.depth]
  omega
theorem call_reprT (hg : X.A.guards = some []) (hu : X.A.units + 64 < cLine) : CallR X (.builtin "repr") (fun xs H Q => ∃ a ys, xs = [.ref a] ∧ SqT X.K H a ys ∧ (∀ y ∈ ys, Plain1 y) ∧ ys.length ≤ 1000 ∧ Q (.str (shownT ys)) H) := by
  intro pins s σ H xs us Q I rv h
  obtain ⟨a, ys, rfl, hq, hp, hl, q⟩ := h
  cases rv with
  | cons r rr =>
    cases rr
    cases r
    obtain ⟨its, rv, p, hz⟩ := I.tuple hq
    obtain ⟨o, ho, hc, n, hd⟩ := p
    have rd : Reads s.heap (.ref a) (.tuple (ys.map dataV)) [] := .tuple ho hc hd (by simpa using readsAll_plain rv hp)
    refine repr_of_reads' rd (showable_plain hp) (PyData.noDict_hsm (noDict_plain hp)) hg (by have := depth_plain hp; omega) (fun _ _ e => e) (fun h' u tk hk => ⟨.str _, H, I.kept (t' := tk) hk, ⟨u, rfl⟩, q⟩) ?_
    show (tupleText (PyData.shownAll (ys.map dataV))).length ≤ sizeLine
    have hs := shown_short hp
    have hz2 : (Str.join ", " (PyData.shownAll (ys.map dataV))).length ≤ 12 * ys.length := by
      cases e : PyData.shownAll (ys.map dataV) with
      | nil => exact Nat.zero_le _
      | cons x r =>
        have := join_length_add (PyData.shownAll (ys.map dataV)) (by rw [e]; simp)
        rw [e] at this
        rw [e] at hs
        omega
    unfold tupleText
    rw [strLen_append, strLen_append]
    have h2 : ((if (PyData.shownAll (ys.map dataV)).length == 1 then ",)" else ")" : String) : Str).length ≤ 2 := by split <;> decide
    have h1 : ((("(" : String) : Str)).length = 1 := rfl
    have hsz : sizeLine = 16777216 := rfl
    have h1' : (("(" : Str)).length = 1 := rfl
    omega
end
end L2

namespace L2
open PySem PySem.Spec PyProof.Rows

def embOf (k : Nat) (js : List Nat) (σ : St) : St := List.replicate k none ++ js.map fun j => (σ[j]?).getD none
def lcOk (scope : Scope) (ns : List (Str × NameKind)) (N Nc : List Str) (k : Nat) (js : List Nat) : Bool :=
  decide ((scope.names.map (·.1)).Nodup) && decide Nc.Nodup && decide (Nc.length = k + js.length) &&
  (scope.names.all fun x => x.2 != .free || ns.lookup x.1 == some .cell || ns.lookup x.1 == some .free) &&
  ((List.range js.length).all fun i => match Nc[k + i]?, js[i]? with | some x, some j => N[j]? == some x && scope.names.lookup x == some .free | _, _ => false)
theorem lc_mk {X : Cx} {scope : Scope} (ns : List (Str × NameKind)) (N Nc : List Str) (k : Nat) (js : List Nat) (hns : X.env.scope.names = ns) (hN : X.N = N) (hk : scope.kind = .function) (h : lcOk scope ns N Nc k js = true) : LcScope X scope Nc (embOf k js) := by
  unfold lcOk at h
  simp only [Bool.and_eq_true, decide_eq_true_eq] at h
  obtain ⟨⟨⟨⟨h1, h2⟩, h3⟩, h4⟩, h5⟩ := h
  refine ⟨hk, h1, h2, fun x hx hf => ?_, fun σ _ => ?_, fun σ _ i x v e1 e2 => ?_⟩
  · have := List.all_eq_true.mp h4 x hx
    rw [hf] at this
    simp only [Bool.or_eq_true, beq_iff_eq, bne_self_eq_false, Bool.false_eq_true, false_or] at this
    unfold Env.kindOf
    rw [hns]
    exact this
  · unfold embOf
    rw [List.length_append, List.length_replicate, List.length_map, h3]
  · unfold embOf at e2
    by_cases hi : i < k
    · rw [List.getElem?_append_left (by simpa using hi), List.getElem?_replicate, if_pos hi] at e2
      cases e2
    · rw [List.getElem?_append_right (by simpa using hi), List.length_replicate, List.getElem?_map] at e2
      cases ej : js[i - k]? with
      | none => rw [ej] at e2; cases e2
      | some j =>
        rw [ej] at e2
        have hlt := (List.getElem?_eq_some_iff.mp ej).1
        have := List.all_eq_true.mp h5 (i - k) (List.mem_range.mpr hlt)
        rw [show k + (i - k) = i by omega, e1, ej] at this
        simp only [Bool.and_eq_true, beq_iff_eq] at this
        refine ⟨j, by rw [hN]; exact this.1, ?_, this.2⟩
        have e3 : (σ[j]?).getD none = some v := Option.some.inj e2
        cases eq : σ[j]? with
        | none => rw [eq] at e3; cases e3
        | some o => rw [eq] at e3; rw [show o = some v from e3]
theorem Sub.one (x : V) (tl : St) : Sub (none :: tl) (some x :: tl) := ⟨rfl, fun i v h => by
  cases i with
  | zero => cases h
  | succ i => exact h⟩
theorem Sub.two (x y : V) (tl : St) : Sub (none :: none :: tl) (some x :: some y :: tl) := ⟨rfl, fun i v h => by
  match i with
  | 0 => cases h
  | 1 => cases h
  | i + 2 => exact h⟩
section
variable {σe tl : St} {tt : TT} {te : TE} {H : Hp} {Q : VK}
end

section
variable {X : Cx}
theorem op_mulG : OpR X (binaryOp .Mult) (rI IntMulOk fun i j => .int (i * j)) := opI fun _ _ _ _ _ _ _ hc q => mul_int q hc
end

theorem Same.new {H : Hp} {p : Addr} (h : H p = none) (o : HO) : Same H (upd H p o) := fun b u q => by rw [upd_ne (ne_of_none q h)]; exact q
/-- the hand at l: three numbers, the first from nought -/
def Hand (l : Addr) (H : Hp) : Prop := ∃ x y z : Int, 0 ≤ x ∧ H l = some (.lst [.int x, .int y, .int z])
/-- all but the hand stays, the hand stays a hand -/
def Fr1 (l : Addr) (H H' : Hp) : Prop := (∀ b o, b ≠ l → H b = some o → H' b = some o) ∧ Hand l H'
theorem Fr1.refl {l : Addr} {H : Hp} (h : Hand l H) : Fr1 l H H := ⟨fun _ _ _ h => h, h⟩
theorem Fr1.trans {l : Addr} {H H1 H2 : Hp} (a : Fr1 l H H1) (b : Fr1 l H1 H2) : Fr1 l H H2 := ⟨fun c o n h => b.1 c o n (a.1 c o n h), b.2⟩
theorem Fr1.same {l : Addr} {H H1 H2 : Hp} (a : Fr1 l H H1) (b : Same H1 H2) : Fr1 l H H2 := ⟨fun c o n h => b c o (a.1 c o n h), let ⟨x, y, z, h0, h⟩ := a.2; ⟨x, y, z, h0, b _ _ h⟩⟩
theorem Fr1.upd {l : Addr} {H : Hp} {x y z : Int} (h0 : 0 ≤ x) : Fr1 l H (upd H l (.lst [.int x, .int y, .int z])) := ⟨fun b o n h => by rw [upd_ne n]; exact h, x, y, z, h0, upd_same⟩
theorem Fr1.tup {l : Addr} {H H' : Hp} {a : Addr} {xs : List V} (e : Fr1 l H H') (hl : Hand l H) (h : H a = some (.tup xs)) : H' a = some (.tup xs) :=
  e.1 a _ (by rintro rfl; obtain ⟨x, y, z, _, q⟩ := hl; rw [q] at h; cases h) h
theorem Fr1.free {l : Addr} {H H' : Hp} (e : Fr1 l H H') (hl : Hand l H) {a : Addr} (h : H' a = none) : H a = none := by
  cases q : H a with
  | none => rfl
  | some o =>
    by_cases z : a = l
    · subst z
      obtain ⟨x, y, w, _, q'⟩ := e.2
      rw [q'] at h; cases h
    · rw [e.1 a o z q] at h; cases h
end L2

namespace L2
open PySem PySem.Spec PyProof.Rows
theorem call_repr {X : Cx} (hg : X.A.guards = some []) (hu : X.A.units + 64 < cLine) : CallR X (.builtin "repr") (fun xs H Q => (∃ i : Int, xs = [.int i] ∧ i.natAbs.log2 < 1920 ∧ Q (.str (toString i)) H) ∨
    (∃ a ys, xs = [.ref a] ∧ SqT X.K H a ys ∧ (∀ y ∈ ys, Plain1 y) ∧ ys.length ≤ 1000 ∧ Q (.str (shownT ys)) H)) := CallR.or call_reprI (call_reprT hg hu)
/-- a value of a function: 1, 0, None -/
def Val1 (v : V) : Prop := v = .non ∨ v = .int 0 ∨ v = .int 1
theorem Val1.plain {v : V} (h : Val1 v) : Plain1 v := by
  rcases h with h | h | h
  · exact .inl h
  · exact .inr ⟨0, h, by decide, by decide⟩
  · exact .inr ⟨1, h, by decide, by decide⟩
theorem small16 {n : Nat} (h : n ≤ 1000) : n ≤ sizeLine := Nat.le_of_lt (small1000 h)
theorem SqT.inj {K : PySem.W.Frag} {H : Hp} {a : Addr} {xs ys : List V} (h : H a = some (.tup xs)) (hk : ∀ o, K.lookup a = some o → False) (h' : SqT K H a ys) : ys = xs := by
  rcases h' with (h' | ⟨o, h'⟩) | ⟨o, its, n, hk', _⟩
  · rw [h] at h'; cases h'; rfl
  · rw [h] at h'; cases h'
  · exact (hk o hk').elim
end L2
namespace L2
open PySem PySem.Spec PyProof.Rows
theorem m60a : IntMulOk (10 ^ Int.toNat 60) (10 ^ Int.toNat 60) := by unfold IntMulOk; decide +kernel
theorem m60b : IntMulOk (10 ^ Int.toNat 60 * 10 ^ Int.toNat 60) (10 ^ Int.toNat 60) := by unfold IntMulOk; decide +kernel
theorem m60c : IntMulOk (10 ^ Int.toNat 60 * 10 ^ Int.toNat 60 * 10 ^ Int.toNat 60) (10 ^ Int.toNat 60) := by unfold IntMulOk; decide +kernel
theorem far_pos : (0 : Int) < 10 ^ Int.toNat 60 * 10 ^ Int.toNat 60 * 10 ^ Int.toNat 60 * 10 ^ Int.toNat 60 := by decide +kernel
theorem b01lo (b : Bool) : -(2 ^ 64) < (if b = true then (1 : Int) else 0) := by cases b <;> decide
theorem b01hi (b : Bool) : (if b = true then (1 : Int) else 0) < 2 ^ 64 := by cases b <;> decide
theorem b01nn (b : Bool) : 0 ≤ (if b = true then (1 : Int) else 0) := by cases b <;> decide
theorem p60 : CPow 10 60 := ⟨by decide, by decide, by decide⟩
theorem p18 : CPow 10 18 := ⟨by decide, by decide, by decide⟩
end L2

namespace L2
open PySem PySem.Spec PyProof.Rows
open PySem.AutoSeq1 (wpAny_loadPart')
theorem tmul_one (l : Addr) (items : Array Value) (n : Nat) (dct : Option Addr) (sl : Array (Option Value)) (u : Tok) :
    Meets (Builtin.«tuple.__mul__» ⟨[.ref l, .int 1 u], []⟩) (fun _ R s => s.heap.get? l = some { cls := .type "tuple", dict := dct, data := .seq items n, slots := sl } ∧ R (.ok (.ret (.ref l))) s) :=
  .of_wp fun prog w A R s h => by
    obtain ⟨hp, g, d, tk, os⟩ := s; obtain ⟨hl, h⟩ := h
    wp_walk using wpAny_loadPart' hl
    exact ⟨_, rfl, h⟩
theorem tmul_many (l : Addr) (items : Array Value) (n : Nat) (dct : Option Addr) (sl : Array (Option Value)) (x : Int) (u : Tok) (h2 : 2 ≤ x) (h3 : x < 1000) (he : items.isEmpty = false) (hz : items.size ≤ 1000)
    (hsz : ((List.replicate x.toNat items).foldl (fun x1 x2 => x1 ++ x2) #[]).size ≤ sizeLine) :
    Meets (Builtin.«tuple.__mul__» ⟨[.ref l, .int x u], []⟩) (fun _ R s => s.heap.get? l = some { cls := .type "tuple", dict := dct, data := .seq items n, slots := sl } ∧
      R (.ok (.ret (.ref s.heap.objs.size))) { s with heap := s.heap.push { cls := .type "tuple", data := .seq ((List.replicate x.toNat items).foldl (fun x1 x2 => x1 ++ x2) #[]) } }) :=
  .of_wp fun prog w A R s h => by
    obtain ⟨hp, g, d, tk, os⟩ := s; obtain ⟨hl, h⟩ := h
    have c1 : (x < -(2 ^ 63) || x ≥ 2 ^ 63) = false := by simp; omega
    have c2 : (items.isEmpty || x == 1) = false := by rw [he]; simp; omega
    have c3 : (x ≤ 0 || items.isEmpty) = false := by rw [he]; simp; omega
    have hpr : (items.size : Int) * x ≤ 1000000 := by
      have a1 : (items.size : Int) * x ≤ 1000 * x := Int.mul_le_mul_of_nonneg_right (by omega) (by omega)
      omega
    have c4 : ¬ ((items.size : Int) * x > (2 ^ 63 - 1) / 8) := by omega
    have c5 : Builtin.Tuple.tupleTooMany ((items.size : Int) * x) = false := by
      unfold Builtin.Tuple.tupleTooMany
      exact decide_eq_false (by have : (sizeLine : Nat) = 16777216 := rfl
                                omega)
    wp_walk using wpAny_loadPart' hl
    refine wpAny_ite_false (decide_eq_false (by rw [c1]; exact Bool.false_ne_true)) ?_
    wp_walk using wpAny_loadPart' hl
    refine wpAny_ite_false (decide_eq_false (by rw [c2]; exact Bool.false_ne_true)) ?_
    wp_walk using wpAny_loadPart' hl
    refine wpAny_ite_false (decide_eq_false (by rw [c3]; exact Bool.false_ne_true)) ?_
    wp_walk using wpAny_loadPart' hl
    refine wpAny_ite_false (decide_eq_false c4) ?_
    wp_walk using wpAny_loadPart' hl
    exact ⟨_, rfl, h⟩
theorem noFill_tuple_mul : fillsNumberSlot (.type "tuple") "mul" = pure false :=
  PySem.fillsNumberSlot_seq (id := "tuple.__mul__") (r := some (.builtin "tuple.__rmul__")) F.slot_tuple_mul.lookup (by decide +kernel) F.slot_tuple_rmul.lookup (by decide +kernel)
theorem repeat_tuple : seqRepeat? (.type "tuple") = pure (some (.builtin "tuple.__mul__")) := by
  unfold seqRepeat?
  rw [PySem.seqSlot_of (T := "tuple") (name := "__mul__") (id := "tuple.__mul__") F.slot_tuple_mul.lookup (by decide +kernel), PySem.seqSlot_of (T := "tuple") (name := "__rmul__") (id := "tuple.__rmul__") F.slot_tuple_rmul.lookup (by decide +kernel)]
  rfl
theorem int_rmul_tuple (a : Int) (t : Tok) (l : Addr) (items : Array Value) (n : Nat) (dct : Option Addr) (sl : Array (Option Value)) :
    Meets (Builtin.«int.__rmul__» ⟨[.int a t, .ref l], []⟩) (fun _ R s => s.heap.get? l = some { cls := .type "tuple", dict := dct, data := .seq items n, slots := sl } ∧ R (.ok (.ret Value.notImplemented)) s) :=
  .of_wp fun prog w A R s h => by obtain ⟨hp, g, d, tk, os⟩ := s; obtain ⟨hl, h⟩ := h; wp_walk using wpAny_loadPart' hl; exact ⟨_, rfl, h⟩
section
variable {X : Cx}
def rRepT (K : PySem.W.Frag) : R2 := fun x y H Q => ∃ l k xs, x = .ref l ∧ y = .int k ∧ SqT K H l xs ∧ xs ≠ [] ∧ xs.length ≤ 1000 ∧ 1 ≤ k ∧ k < 1000 ∧ (k = 1 → Q (.ref l) H) ∧
  (k ≠ 1 → ∀ p, H p = none → Q (.ref p) (upd H p (.tup (List.replicate k.toNat xs).flatten)))
theorem op_repT : OpR X (binaryOp .Mult) (rRepT X.K) := by
  intro pins s σ H x y v u Q I rx ry h
  obtain ⟨l, k, xs, rfl, rfl, hq, hne, hl1, h1, h2, q1, q2⟩ := h
  cases rx
  obtain ⟨t, rfl⟩ := ry
  obtain ⟨its, rv, p, hz⟩ := I.tuple hq
  obtain ⟨⟨c, dct, dt, sl⟩, e, hc, n, hd⟩ := p
  replace hc : c = .type "tuple" := hc
  replace hd : dt = .seq its.toArray n := hd
  subst hc hd
  have hlen := rv.length
  refine wpAny_binaryOp_repeat_ref (T := "tuple") (U := "int") (by decide) ⟨_, e, rfl⟩ (fun s' => typeIs_int s' k t) noFill_tuple_mul F.fills_int_mul F.slot_int_rmul repeat_tuple F.slot_int_index.lookup
    (call_meets F.slot_int_rmul (typeIs_int s k t) F.entry_int_rmul (F.args_int_rmul_2 _ _) (int_rmul_tuple k t l its.toArray n dct sl) ⟨e, rfl, ⟨_, e, rfl⟩, ?_⟩)
  by_cases hk : k = 1
  · subst hk
    exact call_meets F.slot_tuple_mul ⟨_, e, rfl⟩ F.entry_tuple_mul (F.args_tuple_mul_2 _ _) (tmul_one l its.toArray n dct sl t) ⟨e, .ref l, H, I, rfl, q1 rfl⟩
  · have f0 : List.foldl (fun x1 x2 => x1 ++ x2) #[] (List.replicate k.toNat its.toArray) = (List.replicate k.toNat its).flatten.toArray := by
      have := foldl_rep its k.toNat []
      rw [List.nil_append] at this
      exact this
    have hsz : (List.replicate k.toNat xs).flatten.length ≤ sizeLine := by
      rw [len_rep]
      have : k.toNat * xs.length ≤ 1000 * 1000 := Nat.mul_le_mul (by omega) hl1
      have hs : sizeLine = 16777216 := rfl
      omega
    have hsz2 : (List.replicate k.toNat its).flatten.length ≤ sizeLine := by
      rw [len_rep] at hsz ⊢
      rw [← hlen]; exact hsz
    refine call_meets F.slot_tuple_mul ⟨_, e, rfl⟩ F.entry_tuple_mul (F.args_tuple_mul_2 _ _) (tmul_many l its.toArray n dct sl k t (by omega) h2 ?_ (by rw [List.size_toArray]; omega) (by rw [f0, List.size_toArray]; exact hsz2)) ⟨e, ?_⟩
    · cases its with
      | nil => cases xs with
        | nil => exact absurd rfl hne
        | cons _ _ => cases hlen
      | cons _ _ => rfl
    · rw [f0]
      refine ⟨.ref _, _, I.laid (t' := s.toks) (o := .tup (List.replicate k.toNat xs).flatten) (fun _ _ q => Heap.get?_push_of_some _ q) (Nat.le_refl _) ⟨hsz, (List.replicate k.toNat its).flatten, rv.rep k.toNat, ⟨_, Heap.get?_push_size _ rfl, rfl, ⟨0, rfl⟩, rfl⟩⟩, rfl, q2 hk _ I.fresh⟩
end
end L2

namespace L2
open PySem PySem.Spec PyProof.Rows
theorem Hand.ne {l p : Addr} {H : Hp} (h : Hand l H) (hp : H p = none) : p ≠ l := by
  rintro rfl
  obtain ⟨x, y, z, _, q⟩ := h
  rw [q] at hp; cases hp
theorem Hand.new {l p : Addr} {H : Hp} (h : Hand l H) (hp : H p = none) (o : HO) : Hand l (upd H p o) := let ⟨x, y, z, h0, q⟩ := h; ⟨x, y, z, h0, by rw [upd_ne (Ne.symm (h.ne hp))]; exact q⟩
theorem Fr1.new {l p : Addr} {H H' : Hp} (e : Fr1 l H H') (hp : H' p = none) (o : HO) : Fr1 l H (L2.upd H' p o) := e.same (Same.new hp o)
end L2

namespace L2
open PySem PySem.Spec PyProof.Rows
section
variable {X : Cx} {K : PySem.W.Frag}
theorem k_sum (hc : X.calm = true := by rfl) (hK : X.K = K := by rfl) : CallR X (.builtin "sum") (fun xs H Q => ∃ (a : Addr) (ns : List Int), xs = [.ref a] ∧ SqL K H a (ns.map V.int) ∧ Q (.int ns.sum) H) := by
  subst hK
  intro pins s σ H xs us Q I rv h
  exact call_sum pins s σ H xs us Q I rv ⟨hc, h⟩
theorem k_repr {k : Nat} (hr : Room k X.A) (hK : X.K = K := by rfl) : CallR X (.builtin "repr") (fun xs H Q => (∃ i : Int, xs = [.int i] ∧ i.natAbs.log2 < 1920 ∧ Q (.str (toString i)) H) ∨
    (∃ a ys, xs = [.ref a] ∧ SqT K H a ys ∧ (∀ y ∈ ys, Plain1 y) ∧ ys.length ≤ 1000 ∧ Q (.str (shownT ys)) H)) := by subst hK; exact call_repr hr.gd hr.units
end
end L2

namespace L2
open PySem PySem.Spec PyProof.Rows
section
variable {X : Cx}
end
end L2

namespace L2
open PySem PySem.Spec PyProof.Rows
theorem Fr1.own {l L : Addr} {H H' : Hp} (e : Fr1 l H H') (hh : Hand l H) (hL : H L = none) (o : HO) : Fr1 l H (L2.upd H' L o) :=
  ⟨fun b u n q => by rw [upd_ne (ne_of_none q hL)]; exact e.1 b u n q, let ⟨x, y, z, h0, q⟩ := e.2; ⟨x, y, z, h0, by rw [upd_ne (Ne.symm (hh.ne hL))]; exact q⟩⟩
theorem Same.own {L : Addr} {H H' : Hp} (e : Same H H') (hL : H L = none) (o : HO) : Same H (L2.upd H' L o) := fun b u q => by rw [upd_ne (ne_of_none q hL)]; exact e b u q
theorem ixN_nat {n j : Nat} (h : j < n) : ixN n (j : Int) = some j := by
  unfold ixN
  rw [if_pos (by omega), if_pos (by omega), Int.toNat_natCast]
end L2

namespace L2
open PySem PySem.Spec PyProof.Rows
section
variable {X : Cx} {e : Expr} {ty : TE} {p1 p2 p3 p4 dpos apos cpos : Pos} {j1 j2 j3 j4 : Nat}
end
end L2

namespace L2
open PySem PySem.Spec PyProof.Rows
end L2

namespace L2
open PySem PySem.Spec PyProof.Rows
open PySem.AutoSeq1 (wpAny_loadPart')
section
variable {prog : Program} {w : World} {A : Around} {E : Value → Shared → Prop} {s : Shared}
end
section
variable {X : Cx}
end
/-! ### t[::-1] -/
section
variable {prog : Program} {w : World} {A : Around} {E : Value → Shared → Prop} {s : Shared}
end
section
variable {X : Cx} {e : Expr} {te : TE} {p1 p2 p3 pos : Pos} {j : Nat}
theorem Vals.rev : ∀ {xs : List V} {us : List Value}, Vals xs us → Vals xs.reverse us.reverse
  | _, _, .nil => .nil
  | _, _, .cons r t => by rw [List.reverse_cons, List.reverse_cons]; exact Vals.append (Vals.rev t) (.cons r .nil)
end
end L2

namespace L2
open PySem PySem.Spec PyProof.Rows
end L2

namespace L2
open PySem PySem.Spec PyProof.Rows
theorem Vals.at {xs : List V} {us : List Value} (r : Vals xs us) : ∀ (j : Nat) (h : j < us.length) , ∃ h' : j < xs.length, RelV xs[j] us[j] := by
  induction r with
  | nil => intro j h; exact absurd h (Nat.not_lt_zero j)
  | cons a t ih =>
    intro j h
    cases j with
    | zero => exact ⟨Nat.zero_lt_succ _, a⟩
    | succ j =>
      obtain ⟨h1, r1⟩ := ih j (Nat.lt_of_succ_lt_succ h)
      exact ⟨Nat.succ_lt_succ h1, r1⟩
theorem all_range_succ (e : Nat → Bool) (n : Nat) : (List.range (n + 1)).all e = (e 0 && (List.range n).all fun j => e (j + 1)) := by
  rw [List.range_succ_eq_map, List.all_cons, List.all_map]; rfl
section
variable {X : Cx} {K : PySem.W.Frag} {pins : List (Addr × Obj)} {σ : St} {H : Hp} {s : Shared} {A : Around} {a b : Addr} {xs ys : List V}
end
end L2

namespace L2
open PySem PySem.Spec PyProof.Rows
section
variable {X : Cx} {pos p1 p2 : Pos} {j1 j2 : Nat}
end
section
variable {K : PySem.W.Frag} {H : Hp}
end
/-- a thing of a known kind -/
def Kd (H : Hp) : V → Prop
  | .non => True
  | .bl _ => True
  | .int _ => True
  | .str _ => True
  | .ref a => (∃ xs, H a = some (.lst xs)) ∨ (∃ xs, H a = some (.tup xs)) ∨ (∃ d, H a = some (.dK d)) ∨ ∃ d, H a = some (.dT d)
  | _ => False
section
variable {X : Cx} {K : PySem.W.Frag}
end
theorem Kd.same {H H' : Hp} {x : V} (s : Same H H') (h : Kd H x) : Kd H' x := by
  cases x with
  | ref a =>
    rcases h with ⟨xs, e⟩ | ⟨xs, e⟩ | ⟨d, e⟩ | ⟨d, e⟩
    · exact .inl ⟨xs, s _ _ e⟩
    · exact .inr (.inl ⟨xs, s _ _ e⟩)
    · exact .inr (.inr (.inl ⟨d, s _ _ e⟩))
    · exact .inr (.inr (.inr ⟨d, s _ _ e⟩))
  | _ => exact h
def lenV : List V := [.int 1, .int 2, .int 4, .int 8, .int 16, .int 32, .int 64]
/-- a thing, what it holds if it is a tuple -/
def Th (H : Hp) (x : V) : Prop := Kd H x ∧ ∀ a xs, x = .ref a → H a = some (.tup xs) → xs.length ≤ 1000 ∧ ∀ y ∈ xs, Kd H y
theorem Th.same {H H' : Hp} {x : V} (s : Same H H') (h : Th H x) : Th H' x := by
  refine ⟨h.1.same s, fun a xs e q => ?_⟩
  subst e
  rcases h.1 with ⟨ys, e⟩ | ⟨ys, e⟩ | ⟨d, e⟩ | ⟨d, e⟩
  · rw [s _ _ e] at q; cases q
  · have := s _ _ e
    rw [this] at q
    cases q
    obtain ⟨h1, h2⟩ := h.2 a _ rfl e
    exact ⟨h1, fun y hy => (h2 y hy).same s⟩
  · rw [s _ _ e] at q; cases q
  · rw [s _ _ e] at q; cases q
end L2

namespace HT
open PySem PySem.Spec PyProof.Rows L2
section
variable {prog : Program} {w : World} {A : Around} {E : Value → Shared → Prop} {s : Shared}
end
end HT
namespace L2
open PySem PySem.Spec PyProof.Rows
theorem Kd.own {D : Addr} {H : Hp} {x : V} {ys : List V} (h : Kd H x) (e : ∃ zs, H D = some (.lst zs)) : Kd (upd H D (.lst ys)) x := by
  cases x with
  | ref a =>
    by_cases q : a = D
    · subst q; exact .inl ⟨ys, upd_same⟩
    · show (∃ xs, upd H D (.lst ys) a = some (.lst xs)) ∨ _
      rw [upd_ne q]
      exact h
  | _ => exact h
theorem Th.flat {H : Hp} {x : V} (h : flatV x = true) : Th H x := by
  cases x <;> first | exact ⟨trivial, fun a xs e => nomatch e⟩ | cases h
theorem Th.lst {H : Hp} {a : Addr} {xs : List V} (h : H a = some (.lst xs)) : Th H (.ref a) :=
  ⟨.inl ⟨xs, h⟩, fun b ys e q => by cases e; rw [h] at q; cases q⟩
theorem Th.tup {H : Hp} {a : Addr} {xs : List V} (h : H a = some (.tup xs)) (hl : xs.length ≤ 1000) (hk : ∀ y ∈ xs, Kd H y) : Th H (.ref a) :=
  ⟨.inr (.inl ⟨xs, h⟩), fun b ys e q => by cases e; rw [h] at q; cases q; exact ⟨hl, hk⟩⟩
theorem Th.dK {H : Hp} {a : Addr} {d} (h : H a = some (.dK d)) : Th H (.ref a) :=
  ⟨.inr (.inr (.inl ⟨d, h⟩)), fun b ys e q => by cases e; rw [h] at q; cases q⟩
theorem Th.dT {H : Hp} {a : Addr} {d} (h : H a = some (.dT d)) : Th H (.ref a) :=
  ⟨.inr (.inr (.inr ⟨d, h⟩)), fun b ys e q => by cases e; rw [h] at q; cases q⟩
theorem Val1.kd {H : Hp} {v : V} (h : Val1 v) : Kd H v := by
  rcases h with rfl | rfl | rfl <;> exact trivial
end L2

namespace L2
open PySem PySem.Spec PyProof.Rows
section
variable {X : Cx} {scope : Scope} {Nc : List Str} {emb : St → St} {elt iter tg : Expr} {ifs : List Expr} {pos : Pos} {wi : TI} {g : TG} {tt : TT} {te : TE}
theorem ps_lc {i0 : Nat} {x0 : Str} {py spos : Pos} (hN0 : X.N.Nodup) (hi0 : X.N[i0]? = some x0) (hx0 : Loc X.env.scope x0) (S : LcScope X scope Nc emb) (hc : X.calm = true) (hi : PI X tg iter wi)
    (hg : ∀ cells s H C fp, PG (lcX X scope cells Nc s H C fp) tg g) (ht : ∀ cells s H C fp, PTs (lcX X scope cells Nc s H C fp) ifs tt) (he : ∀ cells s H C fp, PE (lcX X scope cells Nc s H C fp) elt te)
    (hsw : swapsWith (.ListComp elt [⟨tg, iter, ifs, 0⟩] scope pos) (some (.Name x0 py)) spos.line X.env = pure true := by rfl)
    (hf0 : X.fn x0 = true ∨ X.env.scope.names.lookup x0 = some .local := by first | exact .inl rfl | exact .inr rfl | assumption)
    (hs : ∀ x, foldedSetIterable iter X.env x = pure x := by intro _; rfl) : PS X (.Assign [.Name x0 py] (.ListComp elt [⟨tg, iter, ifs, 0⟩] scope pos) spos) (tAsg (tLc emb wi g tt te) (gName i0)) := by
  intro pins s σ H DD I h
  rw [exec_Assign_Name_used _ _ _ _ hsw]
  refine wpAny_bind (wpAny_standAt (wpAny_bind ?_))
  show wpAny _ X.A (do let _ ← comprehension (.ListComp elt [⟨tg, iter, ifs, 0⟩] scope pos) scope X.env _ (newList []) false (eval iter X.env) (some (assign (.Name x0 py) X.env))) _ _ s
  refine wpAny_bind (wpAny_mono (wpAny_comprehension_free (use := some (assign (.Name x0 py) X.env)) (Q := fun _ s' => SP X pins DD .next s') rfl hs (closureFor_eq (S.clos I.ok)) S.kind (fun x hx hl => nodup_lookup S.nd (by rw [← hl]; exact hx)) ?_) (fun _ s' hq => wpAny_pure (wpAny_pure hq)) fun _ _ e => e)
  refine thn (hi pins s σ H _ I h) fun v s1 h1 => thn h1 fun itv s2 h2 => ?_
  obtain ⟨it, fp, tn, J, H2, e, I2, T, st2, f2, W, ⟨m0, w0⟩, turn⟩ := h2
  subst e
  refine wpAny_newObj_type (newEnv_block ?_)
  rw [show (s2.heap.push { cls := .type "list", dict := none, data := .seq ([] : List Value).toArray }).objs.size = s2.heap.objs.size + 1 from Heap.size_push ..]
  generalize hD : s2.heap.objs.size = D
  generalize hlo : ({ cls := .type "list", dict := none, data := .seq ([] : List Value).toArray } : Obj) = lo
  have fplt : ∀ b ∈ fp, b < s2.heap.objs.size := fun b hb => by obtain ⟨o, e, _⟩ := T.obj _ _ st2 b hb; exact Heap.lt_size e
  have I3 := lc_start (lo := lo) S I2 f2 (fun b hb => by obtain ⟨o, e, _⟩ := T.obj _ _ st2 b hb; exact ⟨o, e⟩) (by rw [← hlo]; intro v z; cases z) (by rw [← hlo]; rfl)
  rw [hD] at I3
  generalize hcells : cellsFrom (D + 2) scope.names (closOf X.env.cells scope.names []) = cells at I3
  generalize hX' : lcX X scope cells Nc s2 H2 (D + 1) fp = X' at I3
  have hfpX : ∀ {H' : Hp} {ps : List (Addr × Obj)}, (∀ b ∈ fp, H' b = none) → (∀ p ∈ ps, p.1 = D) → ∀ b ∈ fp, FpOk X' ps H' b := fun {H' ps} hn hps b hb => by
    have ok := I3.ok
    refine ⟨hn b hb, ?_, ?_, .inl (by rw [← hX']; exact hb), ?_, fun p hp => ?_⟩
    · exact (ok.exf b (by rw [← hX']; exact hb)).1
    · exact ok.exfs b (by rw [← hX']; exact hb)
    · exact (ok.exf b (by rw [← hX']; exact hb)).2
    · have hp' : p ∈ ([] : List (Addr × Obj)) ++ ps := by rw [← hX'] at hp; exact hp
      have e : p.1 = D := hps p (by simpa using hp')
      rw [e, ← hD]
      exact Nat.ne_of_gt (fplt b hb)
  have Dex : D ∈ X'.ex ∨ X'.s₀.heap.objs.size ≤ D := .inr (by rw [← hX', ← hD]; exact Nat.le_refl _)
  have Dloc : D ≠ X'.env.locals := by rw [← hX']; exact Nat.ne_of_lt (Nat.lt_succ_self _)
  have pD := I3.pin (D, lo) (by rw [← hX']; exact List.mem_append_right _ List.mem_cons_self)
  have Dfs : D ∉ X'.fs := pD.2.2.2.1
  have Dcell : ∀ x c, X'.env.cells.lookup x = some c → c ≠ D := fun x c hc' e => by
    obtain ⟨v, o, ho, hd⟩ := I3.cell x c hc'
    rw [e, pD.1] at ho
    cases ho
    exact pD.2.2.2.2 v hd
  -- the loop
  have loop : ∀ s3 : Shared, s3 = { s2 with heap := pushCells ((s2.heap.push lo).push { cls := .type "dict", data := .dict #[] }) scope.names } →
      codeAny (model X.prog X.w) X.A (.compLoop (.ListComp elt [⟨tg, iter, ifs, 0⟩] scope pos) 0 (.ref it) (.ref D) (compEnvC scope cells (D + 1) X.env))
        (compPost (model X.prog X.w) X.A X.xe (some (assign (.Name x0 py) X.env)) (fun _ s' => SP X pins DD .next s') (.ref D) (D + 1)) s3 := by
    rintro s3 rfl
    refine codeAny_compLoop_own (fun n s' => ∃ i ys its k H', Inv X' [(D, { cls := .type "list", data := .seq its.toArray k })] (emb σ) H' s' ∧ Vals ys its ∧ tn i s'.heap ∧ (∀ b ∈ fp, H' b = none) ∧ ys.length ≤ sizeLine ∧ W i n ys H') ?_ m0
      ⟨0, [], [], 0, H2, ?_, .nil, ?_, fun b hb => (f2 b hb).1, Nat.zero_le _, w0⟩
    · rintro n s4 ⟨i, ys, its, k, H4, I4, rv, st4, fr4, hlen, w4⟩
      have hps : ∀ p ∈ [(D, ({ cls := .type "list", data := .seq its.toArray k } : Obj))], p.1 = D := fun p hp => by
        have := List.mem_singleton.mp hp
        rw [this]
      rcases turn i n ys H4 w4 with ⟨stop, qn⟩ | ⟨go, hlt, N, hN, step⟩
      · -- the end
        have TD := T.done X' (by rw [← hX']; rfl) (by rw [← hX']; rfl) (by rw [← hX']; rfl) (by rw [← hX']; exact hc) i _ s4 (emb σ) H4 (fun _ _ => False) I4 (hfpX fr4 hps) st4 stop
        rw [show X'.A = X.A by rw [← hX']; rfl] at TD
        refine thn TD fun r s5 ⟨hr, I5⟩ => ?_
        subst hr
        obtain ⟨m5, hn5, _⟩ := id I5.loc
        have eC : X'.env.locals = D + 1 := by rw [← hX']; rfl
        rw [eC] at hn5
        suffices inv5 : ∀ h', Heap.SameBut (D + 1) s5.heap h' → Inv X pins σ (upd H4 D (.lst ys)) { s5 with heap := h' } by
          have I5X : Inv X pins σ (upd H4 D (.lst ys)) s5 := inv5 s5.heap ⟨rfl, fun _ _ => rfl⟩
          have hD4' : H4 D = none := (I5.pin (D, { cls := .type "list", data := .seq its.toArray k }) (by rw [← hX']; exact List.mem_append_right _ List.mem_cons_self)).2.1
          have hC4 : upd H4 D (.lst ys) (D + 1) = none := by
            have := I5.free
            rw [eC] at this
            rw [upd_ne (Nat.ne_of_gt (Nat.lt_succ_self D))]
            exact this
          have fpC : ∀ b ∈ [D + 1], FpOk X pins (upd H4 D (.lst ys)) b := fun b hb => by
            have e := List.mem_singleton.mp hb
            subst e
            exact I2.fpOk (by rw [hD]; exact Nat.le_succ D) hC4
          obtain ⟨oC, esC, epC, getC, datC, relC⟩ := id hn5
          have I5p := I5X.pinned fpC fun b hb => by
            have e := List.mem_singleton.mp hb
            subst e
            exact ⟨oC, getC, fun v z => by rw [datC] at z; cases z⟩
          refine wpAny_assign_Name (store_ok I5p hN0 hi0 hx0 (v := .ref D) rfl (fun s6 I6 => ?_) hf0)
          have pC := (I6.pin (D + 1, oC) (List.mem_append_right _ (List.mem_append_right _ (mem_pinsAt List.mem_cons_self getC)))).1
          refine ⟨m5, ⟨oC, esC, epC, pC, datC, relC⟩, fun h' hsb => ?_⟩
          have I6u := I6.unpinned
          exact ⟨_, _, I6u.turns (t' := s6.toks) fpC (fun b o hb e => (hsb.2 b (fun z => hb (by rw [z]; exact List.mem_cons_self))).trans e), qn D hD4'⟩
        intro h' hsb
        have pD5 := I5.pin (D, { cls := .type "list", data := .seq its.toArray k }) (by rw [← hX']; exact List.mem_append_right _ List.mem_cons_self)
        have neC : ∀ b u, H4 b = some u → b ≠ D + 1 := fun b u e z => by
          have := I5.free
          rw [eC, ← z, e] at this
          cases this
        have hD4 : H4 D = none := pD5.2.1
        have un := I5.base
        have un' : Un (frs X.stack) fp H2 H4 s2.heap s5.heap := by rw [← hX'] at un; exact un
        have old_ne : ∀ b o, s2.heap.get? b = some o → b ≠ D ∧ b ≠ D + 1 := fun b o e => by
          have q := Heap.lt_size e
          rw [hD] at q
          exact ⟨Nat.ne_of_lt q, Nat.ne_of_lt (Nat.lt_succ_of_lt q)⟩
        have h2D : H2 D = none := by rw [← hD]; exact I2.fresh
        have hok' : HOk X.prog X.w H4 h' := fun b u e => by
          have ob : ObjOk X.prog X.w H4 s5.heap b u := by have := I5.hok b u e; rw [← hX'] at this; exact this
          refine ob.stay (fun c v hcv q => (hsb.2 c ?_).trans q) (fun _ q => q) fun _ _ q => q
          rcases hcv with z | z
          · rw [z]; exact neC b u e
          · exact neC c _ z
        have hokD : HOk X.prog X.w (upd H4 D (.lst ys)) h' := fun b u e => by
          by_cases hb : b = D
          · subst hb
            rw [upd_same] at e
            cases e
            exact ⟨hlen, its, k, rv, (hsb.2 b (Nat.ne_of_lt (Nat.lt_succ_self _))).trans pD5.1⟩
          · rw [upd_ne hb] at e
            refine (hok' b u e).stay (fun _ _ _ q => q) (fun c q => ?_) fun c z q => ?_
            all_goals first
              | (rw [upd_ne (ne_of_none q hD4)]; exact q)
              | (rw [upd_ne (ne_of_none z hD4)]; exact z)
        refine I2.call' (s' := { s5 with heap := h' }) (ch := fp) ?_ ⟨fun b o e nb hb hx => ?_, fun b o e nb hb hx => ?_, fun b o e nb hx => ?_, fun b o e hx => ?_, fun b xs e => ?_, fun b o u e => ?_, fun b ps e => ?_⟩ hokD I5.bare (fun b hb => ?_)
        · have := I5.os
          rw [← hX'] at this
          exact this
        · exact (hsb.2 b (old_ne b o e).2).trans (un'.keep b o e nb hb hx)
        · obtain ⟨sl, q⟩ := un'.slot b o e nb hb hx
          exact ⟨sl, (hsb.2 b (old_ne b o e).2).trans q⟩
        · rw [upd_ne (old_ne b o e).1]
          exact un'.free b o e nb hx
        · obtain ⟨o', q⟩ := un'.there b o e hx
          exact ⟨o', (hsb.2 b (old_ne b o e).2).trans q⟩
        · rw [upd_ne (ne_of_none e h2D)]
          exact un'.tups b xs e
        · rw [upd_ne (ne_of_none e h2D)]
          exact un'.frzs b o u e
        · obtain ⟨m, q⟩ := un'.tbls b ps e
          exact ⟨m, by rw [upd_ne (ne_of_none e h2D)]; exact q⟩
        · obtain ⟨q0, q1, q2, q3, q4, q5⟩ := f2 b hb
          exact ⟨q3, q1, q4, q5⟩
      · -- a turn
        have hA : X'.A = X.A := by rw [← hX']; rfl
        have hP : X'.prog = X.prog := by rw [← hX']; rfl
        have hw : X'.w = X.w := by rw [← hX']; rfl
        have hE : X'.env = compEnvC scope cells (D + 1) X.env := by rw [← hX']; rfl
        have hxe : X'.xe = fun _ _ => False := by rw [← hX']; rfl
        have TI' := T.item X' hP hw (by rw [← hX']; rfl) (by rw [← hX']; exact hc) i _ s4 (emb σ) H4 (fun _ _ => False) I4 (hfpX fr4 hps) st4 go
        rw [hA] at TI'
        refine thn TI' fun r s5 ⟨u, hr, h5⟩ => ?_
        subst hr
        refine thn h5 fun _ s6 ⟨x, H6, I6, r6, y6, st6, fr6⟩ => ?_
        have I6' := I6.pinned (hfpX fr6 hps) (T.obj _ _ st6)
        have G := hg cells s2 H2 (D + 1) fp
        have TT' := ht cells s2 H2 (D + 1) fp
        have EE := he cells s2 H2 (D + 1) fp
        rw [hX'] at G TT' EE
        have G' := G _ s6 (emb σ) H6 x u _ I6' r6 (step x H6 y6)
        rw [hA, hP, hw, hE, hxe] at G'
        refine thn G' fun _ s7 ⟨σ7, H7, I7, sb7, q7⟩ => ?_
        have T' := TT' _ s7 σ7 H7 _ I7 q7
        rw [hA, hP, hw, hE, hxe] at T'
        refine thn T' fun ok s8 ⟨H8, I8, q8⟩ => ?_
        -- what is pinned
        have pin_fp : ∀ {σ9 : St} {H9 : Hp} {s9 : Shared}, Inv X' ([(D, ({ cls := .type "list", data := .seq its.toArray k } : Obj))] ++ pinsAt fp s6.heap) σ9 H9 s9 → tn (i + 1) s9.heap ∧ ∀ b ∈ fp, H9 b = none := fun {σ9 H9 s9} I9 =>
          ⟨T.keep _ _ _ st6 fun b hb o e => (I9.pin (b, o) (List.mem_append_right _ (List.mem_append_right _ (mem_pinsAt hb e)))).1, fun b hb => by
            obtain ⟨o, e, _⟩ := T.obj _ _ st6 b hb
            exact (I9.pin (b, o) (List.mem_append_right _ (List.mem_append_right _ (mem_pinsAt hb e)))).2.1⟩
        cases ok with
        | false =>
          rw [if_neg (by decide)] at q8
          rw [if_neg (by decide)]
          obtain ⟨m', hm, w8⟩ := hN _ _ q8
          exact ⟨m', hm, i + 1, ys, its, k, H8, I8.unpinned.weak sb7.1 sb7.2, rv, (pin_fp I8).1, (pin_fp I8).2, hlen, w8⟩
        | true =>
          rw [if_pos rfl] at q8
          rw [if_pos rfl]
          have E' := EE _ s8 σ7 H8 _ I8 q8
          rw [hA, hP, hw, hE, hxe] at E'
          refine thn E' fun y s9 ⟨v9, H9, I9, r9, n9⟩ => ?_
          obtain ⟨m', hm, w9⟩ := hN _ _ n9
          have pD9 := I9.pin (D, { cls := .type "list", data := .seq its.toArray k }) (List.mem_append_right _ (List.mem_append_left _ List.mem_cons_self))
          have hl := rv.length
          have I9n : Inv X' [] σ7 H9 s9 := I9.pins_of fun p hp => nomatch hp
          refine call_meets F.slot_list_append ⟨_, pD9.1, rfl⟩ F.entry_list_append (F.args_list_append_2 _ _) (PySem.list_append D its.toArray k y (by rw [List.size_toArray]; omega)) ⟨pD9.1, ?_⟩
          have up : ∃ k' : Nat, (s9.heap.update D (Obj.mapSeq fun xs => xs.push y)).get? D = some { cls := .type "list", data := .seq (its ++ [y]).toArray k' } := by
            have q := PySem.IsL.update pD9.1 (fun xs : Array Value => xs.push y)
            simp only [List.push_toArray] at q
            exact ⟨_, q⟩
          obtain ⟨k', up⟩ := up
          have hoth : ∀ b o, b ≠ D → s9.heap.get? b = some o → (s9.heap.update D (Obj.mapSeq fun xs => xs.push y)).get? b = some o := fun b o hb e => (Heap.get?_update_other s9.heap _ (Ne.symm hb)).trans e
          have I10 := I9n.turned (t' := s9.toks) hoth pD9.2.1 Dloc Dex Dcell (fun p hp => absurd (show p ∈ ([] : List (Addr × Obj)) by rw [← hX'] at hp; exact hp) (by simp))
          refine ⟨m', hm, i + 1, ys ++ [v9], its ++ [y], k', H9, (I10.weak sb7.1 sb7.2).pins_of (fun p hp => ?_), rv.append (.cons r9 .nil), T.keep _ _ _ (pin_fp I9).1 (fun b hb o e => hoth b o (by rw [← hD]; exact Nat.ne_of_lt (fplt b hb)) e), (pin_fp I9).2, ?_, w9⟩
          · have := List.mem_singleton.mp hp
            subst this
            exact ⟨up, pD9.2.1, Dloc, Dfs, fun v z => by cases z⟩
          · rw [List.length_append, List.length_singleton]
            omega
    · have q : lo = { cls := .type "list", data := .seq ([] : List Value).toArray 0 } := hlo.symm
      rw [← q]
      exact I3
    · exact T.keep _ _ _ st2 fun b hb o e => pushCells_keeps _ _ b o (Heap.get?_push_of_some _ (Heap.get?_push_of_some _ e))
  refine codeAny_compStart_list ?_ ?_
  · exact loop _ rfl
  · refine T.self X.A 0 _ _ _ (T.keep _ _ _ st2 fun b hb o e => pushCells_keeps _ _ b o (Heap.get?_push_of_some _ (Heap.get?_push_of_some _ e))) ?_
    exact loop _ rfl
end
end L2

namespace L2
open PySem PySem.Spec PyProof.Rows
def notStar : Expr → Bool
  | .Starred _ _ => false
  | _ => true
theorem star_cons {e : Expr} {es : List Expr} {env : Env} (h : notStar e = true) : starEach (e :: es) env = (false, eval e env) :: starEach es env := by
  cases e <;> first | (cases h; done) | rfl
theorem star_any {pos : Pos} {env : Env} : ∀ {es : List Expr}, es.all notStar = true → (backTo pos (starEach es env)).any (·.1) = false
  | [], _ => by simp [starEach, backTo]
  | e :: es, h => by
    rw [List.all_cons, Bool.and_eq_true] at h
    rw [star_cons h.1]
    have := star_any (pos := pos) (env := env) h.2
    unfold backTo at this ⊢
    rw [List.map_cons, List.any_cons, this]
    rfl
theorem star_few {pos : Pos} {env : Env} {es : List Expr} (h : es.all notStar = true) (hl : es.length < 30) : ((backTo pos (starEach es env)).all (fun x => !x.1) && (backToKw pos (keywordEach [] env)).all (fun x => x.1.isSome)
      && decide (es.length + ([] : List Keyword).length + (if ([] : List Keyword).isEmpty then 0 else 1) < 30)) = true := by
  have h1 : (backTo pos (starEach es env)).all (fun x => !x.1) = true := by
    have := star_any (pos := pos) (env := env) h
    rw [List.all_eq_true]
    intro x hx
    rw [List.any_eq_false] at this
    simpa using this x hx
  have h2 : (backToKw pos (keywordEach [] env)).all (fun x => x.1.isSome) = true := by simp [keywordEach, backToKw]
  rw [h1, h2]
  simpa using hl
theorem star_one {e : Expr} {env : Env} (h : notStar e = true) : starEach [e] env = [(false, eval e env)] := by rw [star_cons h]; rfl
def plainT : Expr → Bool
  | .UnaryOp .Not _ _ => false
  | .BoolOp _ _ _ => false
  | .IfExp _ _ _ _ => false
  | .Compare _ _ _ _ => false
  | _ => true
theorem tru_plain {a : Expr} {env : Env} (h : plainT a = true) : ∀ whole, PySem.isTrue a env whole = (do let v ← whole; standAt a.pos; holding [v] (truthy v)) := by
  intro whole
  cases a with
  | UnaryOp op x p => cases op <;> first | (cases h; done) | rfl
  | BoolOp _ _ _ => cases h
  | IfExp _ _ _ _ => cases h
  | Compare _ _ _ _ => cases h
  | _ => rfl

theorem asg_cons {t : Expr} {ts : List Expr} {env : Env} (h : notStar t = true) : assignEach (t :: ts) env = (false, assign t env) :: assignEach ts env := by
  cases t <;> first | (cases h; done) | rfl
theorem asg_map {t : Expr} {ts : List Expr} {env : Env} (h : notStar t = true) : (assignEach (t :: ts) env).map (·.2) = assign t env :: (assignEach ts env).map (·.2) := by rw [asg_cons h]; rfl
theorem asg_one {t : Expr} {env : Env} (h : notStar t = true) : (assignEach [t] env).map (·.2) = [assign t env] := by rw [asg_map h]; simp [assignEach]
def plainI : Expr → Bool
  | .Slice _ _ _ _ => false
  | _ => true
theorem asg_sub {o i : Expr} {pos : Pos} {env : Env} (h : plainI i = true) (v : Value) : assign (.Subscript o i pos) env v = (do
      let ov ← holding [v] (eval o env)
      let iv ← holding [v, ov] (eval i env)
      standAt pos
      holding [v, ov, iv] (setItem ov iv v)
      release [v, ov, iv] []) := by
  cases i <;> first | (cases h; done) | rfl
theorem ix_plain {i : Expr} (h : plainI i = true) : PlainIx i := by
  intro o j
  cases i <;> first | (cases h; done) | rfl
end L2

namespace L2
open PySem PySem.Spec PyProof.Rows
inductive D where
  | non | bl (b : Bool) | int (i : Int) | str (x : Str) | ty (n : String) | dct | scr (ns : List Int) | tup (ds : List D) | lst (ds : List D)
  deriving Inhabited
inductive W where
  | d (x : D) | h (n : Nat)
  deriving Inhabited
abbrev Sto := List (List D)
abbrev Ev := List (Option W)
/-- a list that is an object of the module -/
def KLs (K : PySem.W.Frag) (a : Addr) (xs : List V) : Prop :=
  ∃ (o : Obj) (its : Array Value) (n : Nat), K.lookup a = some o ∧ o.cls = .type "list" ∧ o.dict = none ∧ o.data = .seq its n ∧ its.size ≤ sizeLine ∧ Vals xs its.toList
section
variable (K : PySem.W.Frag) (H : Hp) (φ : List Addr)
mutual
def Rl : D → V → Prop
  | .non, v => v = .non
  | .bl b, v => v = .bl b
  | .int i, v => v = .int i
  | .str x, v => v = .str x
  | .ty n, v => v = .ty n
  | .dct, v => ∃ a, v = .ref a ∧ ((∃ d, H a = some (.dK d)) ∨ ∃ d, H a = some (.dT d))
  | .scr ns, v => ∃ a, v = .ref a ∧ ((∃ o, H a = some (.frz o (.lst (ns.map V.int)))) ∨ KLs K a (ns.map V.int))
  | .tup ds, v => ∃ a vs, v = .ref a ∧ SqT K H a vs ∧ Rls ds vs
  | .lst ds, v => ∃ a vs, v = .ref a ∧ a ∉ φ ∧ Rd H a (.lst vs) ∧ Rls ds vs
def Rls : List D → List V → Prop
  | [], vs => vs = []
  | d :: ds, vs => ∃ v r, vs = v :: r ∧ Rl d v ∧ Rls ds r
end
def Rw : W → V → Prop
  | .d x, v => Rl K H φ x v
  | .h n, v => ∃ a, φ[n]? = some a ∧ v = .ref a
def Rws : List W → List V → Prop
  | [], vs => vs = []
  | d :: ds, vs => ∃ v r, vs = v :: r ∧ Rw K H φ d v ∧ Rws ds r
/-- the store: each of its lists stands at its address -/
structure Sr (st : Sto) : Prop where
  nd : φ.Nodup
  len : φ.length = st.length
  at_ : ∀ (n : Nat) a ds, φ[n]? = some a → st[n]? = some ds → ∃ vs, H a = some (.lst vs) ∧ Rls K H φ ds vs
structure Er (env : Ev) (σ : St) : Prop where
  len : env.length = σ.length
  at_ : ∀ (i : Nat) w, env[i]? = some (some w) → ∃ v, σ[i]? = some (some v) ∧ Rw K H φ w v
end
/-- all but the store's lists stays; new lists of the store are new -/
structure Fw (φ φ' : List Addr) (H H' : Hp) : Prop where
  ext : ∃ ψ, φ' = φ ++ ψ ∧ ∀ a ∈ ψ, H a = none
  keep : ∀ b o, b ∉ φ → H b = some o → H' b = some o
  there : ∀ b o, H b = some o → ∃ o', H' b = some o'
section
variable {K : PySem.W.Frag} {H H1 H2 H' : Hp} {φ φ1 φ2 φ' : List Addr} {st st' : Sto}
theorem Fw.refl (φ : List Addr) (H : Hp) : Fw φ φ H H := ⟨⟨[], by simp, by simp⟩, fun _ _ _ h => h, fun _ o h => ⟨o, h⟩⟩
theorem Fw.trans (a : Fw φ φ1 H H1) (b : Fw φ1 φ2 H1 H2) : Fw φ φ2 H H2 := by
  obtain ⟨ψ, rfl, e1⟩ := a.ext
  obtain ⟨ψ2, rfl, e2⟩ := b.ext
  refine ⟨⟨ψ ++ ψ2, by rw [List.append_assoc], fun c hc => ?_⟩, fun c o hc h => ?_, fun c o h => ?_⟩
  · rcases List.mem_append.mp hc with z | z
    · exact e1 c z
    · cases q : H c with
      | none => rfl
      | some o =>
        obtain ⟨o', q'⟩ := a.there c o q
        rw [e2 c z] at q'; cases q'
  · refine b.keep c o (fun z => ?_) (a.keep c o hc h)
    rcases List.mem_append.mp z with z | z
    · exact hc z
    · rw [e1 c z] at h; cases h
  · obtain ⟨o', q⟩ := a.there c o h
    exact b.there c o' q
theorem Fw.same (s : Same H H') : Fw φ φ H H' := ⟨⟨[], by simp, by simp⟩, fun b o _ h => s b o h, fun b o h => ⟨o, s b o h⟩⟩
theorem Fw.new {p : Addr} {o : HO} (hp : H p = none) : Fw φ φ H (upd H p o) := .same (Same.new hp o)
theorem Fw.get (f : Fw φ φ' H H') {n : Nat} {a : Addr} (h : φ[n]? = some a) : φ'[n]? = some a := by
  obtain ⟨ψ, rfl, _⟩ := f.ext
  rw [List.getElem?_append_left (List.getElem?_eq_some_iff.mp h).1]; exact h
theorem Fw.nin (f : Fw φ φ' H H') {a : Addr} {o : HO} (h : a ∉ φ) (q : H a = some o) : a ∉ φ' := by
  obtain ⟨ψ, rfl, e⟩ := f.ext
  intro z
  rcases List.mem_append.mp z with z | z
  · exact h z
  · rw [e a z] at q; cases q
theorem Sr.lst (S : Sr K H φ st) {a : Addr} (h : a ∈ φ) : ∃ vs, H a = some (.lst vs) := by
  obtain ⟨n, hn, e⟩ := List.mem_iff_getElem.mp h
  have hs : n < st.length := by rw [← S.len]; exact hn
  obtain ⟨vs, q, _⟩ := S.at_ n a st[n] (by rw [List.getElem?_eq_getElem hn, e]) (by rw [List.getElem?_eq_getElem hs])
  exact ⟨vs, q⟩
theorem Sr.nin (S : Sr K H φ st) {a : Addr} (h : H a = none) : a ∉ φ := fun z => by
  obtain ⟨vs, q⟩ := S.lst z
  rw [q] at h; cases h
theorem Rd.nin (S : Sr K H φ st) {a : Addr} {vs : List V} (h : Rd H a (.tup vs)) : a ∉ φ := fun z => by
  obtain ⟨ws, q⟩ := S.lst z
  rcases h with h | ⟨o, h⟩ <;> (rw [q] at h; cases h)
theorem Rd.fw (f : Fw φ φ' H H') {a : Addr} {u : HO} (hn : a ∉ φ) (h : Rd H a u) : Rd H' a u := by
  rcases h with h | ⟨o, h⟩
  · exact .inl (f.keep _ _ hn h)
  · exact .inr ⟨o, f.keep _ _ hn h⟩
theorem SqT.fw (S : Sr K H φ st) (f : Fw φ φ' H H') {a : Addr} {vs : List V} (h : SqT K H a vs) : SqT K H' a vs := by
  rcases h with h | h
  · exact .inl (h.fw f (h.nin S))
  · exact .inr h
theorem Rd.some {a : Addr} {u : HO} (h : Rd H a u) : ∃ o, H a = some o := by
  rcases h with h | ⟨o, h⟩
  · exact ⟨_, h⟩
  · exact ⟨_, h⟩
mutual
theorem Rl.fw (S : Sr K H φ st) (f : Fw φ φ' H H') : ∀ {d : D} {v : V}, Rl K H φ d v → Rl K H' φ' d v
  | .non, _, h => h
  | .bl _, _, h => h
  | .int _, _, h => h
  | .str _, _, h => h
  | .ty _, _, h => h
  | .dct, _, h => by
    obtain ⟨a, rfl, h⟩ := h
    refine ⟨a, rfl, ?_⟩
    have hn : a ∉ φ := fun z => by
      obtain ⟨ws, q⟩ := S.lst z
      rcases h with ⟨d, h⟩ | ⟨d, h⟩ <;> (rw [q] at h; cases h)
    rcases h with ⟨d, h⟩ | ⟨d, h⟩
    · exact .inl ⟨d, f.keep _ _ hn h⟩
    · exact .inr ⟨d, f.keep _ _ hn h⟩
  | .scr ns, _, h => by
    obtain ⟨a, rfl, h⟩ := h
    refine ⟨a, rfl, ?_⟩
    rcases h with ⟨o, h⟩ | h
    · refine .inl ⟨o, f.keep _ _ (fun z => ?_) h⟩
      obtain ⟨ws, q⟩ := S.lst z
      rw [q] at h; cases h
    · exact .inr h
  | .tup ds, _, h => by
    obtain ⟨a, vs, rfl, h1, h2⟩ := h
    exact ⟨a, vs, rfl, h1.fw S f, Rls.fw S f h2⟩
  | .lst ds, _, h => by
    obtain ⟨a, vs, rfl, h0, h1, h2⟩ := h
    obtain ⟨o, e⟩ := h1.some
    exact ⟨a, vs, rfl, f.nin h0 e, h1.fw f h0, Rls.fw S f h2⟩
theorem Rls.fw (S : Sr K H φ st) (f : Fw φ φ' H H') : ∀ {ds : List D} {vs : List V}, Rls K H φ ds vs → Rls K H' φ' ds vs
  | [], _, h => h
  | d :: ds, _, h => by
    obtain ⟨v, r, rfl, h1, h2⟩ := h
    exact ⟨v, r, rfl, Rl.fw S f h1, Rls.fw S f h2⟩
end
theorem Rw.fw (S : Sr K H φ st) (f : Fw φ φ' H H') {w : W} {v : V} (h : Rw K H φ w v) : Rw K H' φ' w v := by
  cases w with
  | d x => exact Rl.fw S f h
  | h n => obtain ⟨a, e, rfl⟩ := h; exact ⟨a, f.get e, rfl⟩
theorem Rws.fw (S : Sr K H φ st) (f : Fw φ φ' H H') : ∀ {ws : List W} {vs : List V}, Rws K H φ ws vs → Rws K H' φ' ws vs
  | [], _, h => h
  | d :: ds, _, h => by
    obtain ⟨v, r, rfl, h1, h2⟩ := h
    exact ⟨v, r, rfl, h1.fw S f, Rws.fw S f h2⟩
theorem Er.fw (S : Sr K H φ st) (f : Fw φ φ' H H') {env : Ev} {σ : St} (h : Er K H φ env σ) : Er K H' φ' env σ :=
  ⟨h.len, fun i w e => let ⟨v, e1, r⟩ := h.at_ i w e; ⟨v, e1, r.fw S f⟩⟩
theorem Sr.same (S : Sr K H φ st) (s : Same H H') : Sr K H' φ st :=
  ⟨S.nd, S.len, fun n a ds e1 e2 => let ⟨vs, q, r⟩ := S.at_ n a ds e1 e2; ⟨vs, s _ _ q, Rls.fw S (Fw.same s) r⟩⟩
theorem Sr.new (S : Sr K H φ st) {p : Addr} {o : HO} (hp : H p = none) : Sr K (upd H p o) φ st := S.same (Same.new hp o)
theorem Rls.length : ∀ {ds : List D} {vs : List V}, Rls K H φ ds vs → ds.length = vs.length
  | [], _, h => by cases h; rfl
  | d :: ds, _, h => by
    obtain ⟨v, r, rfl, h1, h2⟩ := h
    rw [List.length_cons, List.length_cons, Rls.length h2]
theorem Rws.length : ∀ {ds : List W} {vs : List V}, Rws K H φ ds vs → ds.length = vs.length
  | [], _, h => by cases h; rfl
  | d :: ds, _, h => by
    obtain ⟨v, r, rfl, h1, h2⟩ := h
    rw [List.length_cons, List.length_cons, Rws.length h2]
theorem Rls.append : ∀ {ds es : List D} {vs us : List V}, Rls K H φ ds vs → Rls K H φ es us → Rls K H φ (ds ++ es) (vs ++ us)
  | [], _, _, _, h, h' => by cases h; exact h'
  | d :: ds, _, _, _, h, h' => by
    obtain ⟨v, r, rfl, h1, h2⟩ := h
    exact ⟨v, r ++ _, rfl, h1, Rls.append h2 h'⟩
theorem Rls.get : ∀ {ds : List D} {vs : List V}, Rls K H φ ds vs → ∀ {i : Nat} {d : D}, ds[i]? = some d → ∃ v, vs[i]? = some v ∧ Rl K H φ d v
  | [], _, h, i, d, e => by simp at e
  | d :: ds, _, h, i, e, q => by
    obtain ⟨v, r, rfl, h1, h2⟩ := h
    cases i with
    | zero => simp at q; subst q; exact ⟨v, rfl, h1⟩
    | succ i => simpa using Rls.get h2 (i := i) (d := e) (by simpa using q)
theorem Rls.take : ∀ {ds : List D} {vs : List V} (n : Nat), Rls K H φ ds vs → Rls K H φ (ds.take n) (vs.take n)
  | _, _, 0, _ => by rw [List.take_zero, List.take_zero]; exact rfl
  | [], _, n + 1, h => by cases h; exact rfl
  | d :: ds, _, n + 1, h => by
    obtain ⟨v, r, rfl, h1, h2⟩ := h
    exact ⟨v, _, rfl, h1, Rls.take n h2⟩
theorem Rls.drop : ∀ {ds : List D} {vs : List V} (n : Nat), Rls K H φ ds vs → Rls K H φ (ds.drop n) (vs.drop n)
  | _, _, 0, h => h
  | [], _, n + 1, h => by cases h; exact rfl
  | d :: ds, _, n + 1, h => by
    obtain ⟨v, r, rfl, h1, h2⟩ := h
    exact Rls.drop n h2
theorem Rls.set : ∀ {ds : List D} {vs : List V} (n : Nat) {d : D} {v : V}, Rls K H φ ds vs → Rl K H φ d v → Rls K H φ (ds.set n d) (vs.set n v)
  | [], _, _, _, _, h, _ => by cases h; exact rfl
  | e :: ds, _, 0, d, v, h, hd => by
    obtain ⟨u, r, rfl, h1, h2⟩ := h
    exact ⟨v, r, rfl, hd, h2⟩
  | e :: ds, _, n + 1, d, v, h, hd => by
    obtain ⟨u, r, rfl, h1, h2⟩ := h
    exact ⟨u, _, rfl, h1, Rls.set n h2 hd⟩
theorem Rls.rep {ds : List D} {vs : List V} (h : Rls K H φ ds vs) : ∀ k : Nat, Rls K H φ (List.replicate k ds).flatten (List.replicate k vs).flatten
  | 0 => rfl
  | k + 1 => by rw [List.replicate_succ, List.replicate_succ, List.flatten_cons, List.flatten_cons]; exact h.append (Rls.rep h k)
theorem Rls.rev : ∀ {ds : List D} {vs : List V}, Rls K H φ ds vs → Rls K H φ ds.reverse vs.reverse
  | [], _, h => by cases h; exact rfl
  | d :: ds, _, h => by
    obtain ⟨v, r, rfl, h1, h2⟩ := h
    rw [List.reverse_cons, List.reverse_cons]
    exact (Rls.rev h2).append ⟨v, [], rfl, h1, rfl⟩
theorem Rls.ints : ∀ {ns : List Int} {vs : List V}, Rls K H φ (ns.map D.int) vs → vs = ns.map V.int
  | [], _, h => h
  | n :: ns, _, h => by
    obtain ⟨v, r, rfl, h1, h2⟩ := h
    rw [show v = .int n from h1, Rls.ints h2]; rfl
theorem Rls.bools : ∀ {ns : List Bool} {vs : List V}, Rls K H φ (ns.map D.bl) vs → vs = ns.map V.bl
  | [], _, h => h
  | n :: ns, _, h => by
    obtain ⟨v, r, rfl, h1, h2⟩ := h
    rw [show v = .bl n from h1, Rls.bools h2]; rfl
theorem Rls.of_ints : ∀ (ns : List Int), Rls K H φ (ns.map D.int) (ns.map V.int)
  | [] => rfl
  | n :: ns => ⟨_, _, rfl, rfl, Rls.of_ints ns⟩
/-- the store's later lists are let go -/
theorem Rl.less {ψ : List Addr} : ∀ {d : D} {v : V}, Rl K H (φ ++ ψ) d v → Rl K H φ d v := by
  intro d v
  refine (?_ : ∀ v, Rl K H (φ ++ ψ) d v → Rl K H φ d v) v
  refine D.rec (motive_1 := fun d => ∀ v, Rl K H (φ ++ ψ) d v → Rl K H φ d v) (motive_2 := fun ds => ∀ vs, Rls K H (φ ++ ψ) ds vs → Rls K H φ ds vs) ?_ ?_ ?_ ?_ ?_ ?_ ?_ ?_ ?_ ?_ ?_ d
  · exact fun v h => h
  · exact fun b v h => h
  · exact fun b v h => h
  · exact fun b v h => h
  · exact fun b v h => h
  · exact fun v h => h
  · exact fun ns v h => h
  · rintro ds ih v ⟨a, vs, rfl, h1, h2⟩; exact ⟨a, vs, rfl, h1, ih vs h2⟩
  · rintro ds ih v ⟨a, vs, rfl, h0, h1, h2⟩; exact ⟨a, vs, rfl, fun z => h0 (List.mem_append_left _ z), h1, ih vs h2⟩
  · exact fun vs h => h
  · rintro d ds ih1 ih2 vs ⟨v, r, rfl, h1, h2⟩; exact ⟨v, r, rfl, ih1 v h1, ih2 r h2⟩
theorem Rls.less {ψ : List Addr} : ∀ {ds : List D} {vs : List V}, Rls K H (φ ++ ψ) ds vs → Rls K H φ ds vs
  | [], _, h => h
  | d :: ds, _, h => by
    obtain ⟨v, r, rfl, h1, h2⟩ := h
    exact ⟨v, r, rfl, Rl.less h1, Rls.less h2⟩
theorem Sr.less {ψ : List Addr} (S : Sr K H (φ ++ ψ) st) : Sr K H φ (st.take φ.length) := by
  have hl := S.len
  rw [List.length_append] at hl
  refine ⟨(List.nodup_append.mp S.nd).1, by rw [List.length_take]; omega, fun n a ds e1 e2 => ?_⟩
  have hn := (List.getElem?_eq_some_iff.mp e1).1
  rw [List.getElem?_take_of_lt hn] at e2
  obtain ⟨vs, q, r⟩ := S.at_ n a ds (by rw [List.getElem?_append_left hn]; exact e1) e2
  exact ⟨vs, q, Rls.less r⟩
end
end L2

namespace L2
open PySem PySem.Spec PyProof.Rows
abbrev Ef := Ev → Sto → Option (W × Sto)
abbrev Af := Ev → Sto → Option (List W × Sto)
abbrev Tf := Ev → Sto → Option (Bool × Sto)
abbrev Lf := Ev → Sto → Option (List D × Sto)
abbrev Fn := List W → Sto → Option (W × Sto)
section
variable (K : PySem.W.Frag)
def tI (env : Ev) (st : Sto) (r : W × Sto) : TE := fun σ H Q => ∃ φ, Er K H φ env σ ∧ Sr K H φ st ∧ ∀ v H' φ', Fw φ φ' H H' → Sr K H' φ' r.2 → Rw K H' φ' r.1 v → Q v H'
def tIA (env : Ev) (st : Sto) (r : List W × Sto) : TA := fun σ H Q => ∃ φ, Er K H φ env σ ∧ Sr K H φ st ∧ ∀ vs H' φ', Fw φ φ' H H' → Sr K H' φ' r.2 → Rws K H' φ' r.1 vs → Q vs H'
def tIT (env : Ev) (st : Sto) (r : Bool × Sto) : TT := fun σ H Q => ∃ φ, Er K H φ env σ ∧ Sr K H φ st ∧ ∀ H' φ', Fw φ φ' H H' → Sr K H' φ' r.2 → Q r.1 H'
def tIL (env : Ev) (st : Sto) (r : List D × Sto) : TE := fun σ H Q => ∃ φ, Er K H φ env σ ∧ Sr K H φ st ∧ ∀ a vs H1 φ', Fw φ φ' H H1 → Sr K H1 φ' r.2 → H1 a = none → Rls K H1 φ' r.1 vs → Q (.ref a) (upd H1 a (.lst vs))
structure IE (X : Cx) (e : Expr) (f : Ef) : Prop where
  run : ∀ env st r, f env st = some r → PE X e (tI K env st r)
structure IA (X : Cx) (es : List Expr) (f : Af) : Prop where
  run : ∀ env st r, f env st = some r → PA X es (tIA K env st r)
structure IT (X : Cx) (e : Expr) (f : Tf) : Prop where
  run : ∀ env st r, f env st = some r → PT X e (tIT K env st r)
structure ITW (X : Cx) (e : Expr) (f : Tf) : Prop where
  run : ∀ env st r, f env st = some r → PW X e (tIT K env st r)
structure IL (X : Cx) (e : Expr) (f : Lf) : Prop where
  run : ∀ env st r, f env st = some r → PE X e (tIL K env st r)
/-- an operation on data: the store is read, never written -/
def rD (st : Sto) (x y : W) (d : D) : R2 := fun vx vy H Q => ∃ φ, Sr K H φ st ∧ Rw K H φ x vx ∧ Rw K H φ y vy ∧ ∀ v H', Same H H' → Rl K H' φ d v → Q v H'
structure OpD (X : Cx) (f : Value → Value → Sem Value) (g : Sto → W → W → Option D) : Prop where
  run : ∀ st x y d, g st x y = some d → OpR X f (rD K st x y d)
def rCD (st : Sto) (ws : List W) (d : D) : List V → Hp → VK → Prop := fun vs H Q => ∃ φ, Sr K H φ st ∧ Rws K H φ ws vs ∧ ∀ v H', Same H H' → Rl K H' φ d v → Q v H'
structure CallD (X : Cx) (f : Value) (g : Sto → List W → Option D) : Prop where
  run : ∀ st ws d, g st ws = some d → CallR X f (rCD K st ws d)
end
def iV (i : Nat) : Ef
  | env, st => (env.getD i none).map fun w => (w, st)
def iC (d : D) : Ef
  | _, st => some (.d d, st)
def iOp (g : Sto → W → W → Option D) (a b : Ef) : Ef
  | env, st => (a env st).bind fun x => (b env x.2).bind fun y => (g y.2 x.1 y.1).map fun d => (.d d, y.2)
def blOf : D → Option Bool
  | .bl b => some b
  | _ => none
def iOpT (g : Sto → W → W → Option D) (a b : Ef) : Tf
  | env, st => (a env st).bind fun x => (b env x.2).bind fun y => (g y.2 x.1 y.1).bind fun d => (blOf d).map fun k => (k, y.2)
def iUn (g : W → Option D) (a : Ef) : Ef
  | env, st => (a env st).bind fun x => (g x.1).map fun d => (.d d, x.2)
def iIfE (c : Tf) (a b : Ef) : Ef
  | env, st => (c env st).bind fun r => if r.1 = true then a env r.2 else b env r.2
def iNotT (c : Tf) : Tf
  | env, st => (c env st).map fun r => (!r.1, r.2)
def iOrT (a b : Tf) : Tf
  | env, st => (a env st).bind fun r => if r.1 = true then some (true, r.2) else b env r.2
def iTru (g : Sto → W → Option Bool) (a : Ef) : Tf
  | env, st => (a env st).bind fun x => (g x.2 x.1).map fun k => (k, x.2)
def iNil : Af
  | _, st => some ([], st)
def iCons (a : Ef) (r : Af) : Af
  | env, st => (a env st).bind fun x => (r env x.2).map fun y => (x.1 :: y.1, y.2)
def iCB (g : Sto → List W → Option D) (a : Af) : Ef
  | env, st => (a env st).bind fun r => (g r.2 r.1).map fun d => (.d d, r.2)
def iCall (m : Fn) (a : Af) : Ef
  | env, st => (a env st).bind fun r => m r.1 r.2
def dsOf : List W → Option (List D)
  | [] => some []
  | .d x :: ws => (dsOf ws).map fun r => x :: r
  | .h _ :: _ => none
def iTupD (a : Af) : Ef
  | env, st => (a env st).bind fun r => (dsOf r.1).bind fun ds => if ds.length ≤ 1000 then some (.d (.tup ds), r.2) else none
def iLst (a : Af) : Lf
  | env, st => (a env st).bind fun r => (dsOf r.1).bind fun ds => if ds.length ≤ 1000 then some (ds, r.2) else none
def iPure (a : Lf) : Ef
  | env, st => (a env st).map fun r => (.d (.lst r.1), r.2)
def iNew (a : Lf) : Ef
  | env, st => (a env st).map fun r => (.h r.2.length, r.2 ++ [r.1])
section
variable {K : PySem.W.Frag} {X : Cx} {e a b c : Expr} {es : List Expr} {pos : Pos} {f fa fb fc : Ef}
theorem PE.imp {t t' : TE} (h : PE X e t) (m : ∀ σ H Q, t' σ H Q → t σ H Q) : PE X e t' := fun pins s σ H Q I q => h pins s σ H Q I (m σ H Q q)
theorem PT.imp {t t' : TT} (h : PT X e t) (m : ∀ σ H Q, t' σ H Q → t σ H Q) : PT X e t' := fun pins s σ H Q I q => h pins s σ H Q I (m σ H Q q)
theorem PW.imp {t t' : TT} (h : PW X e t) (m : ∀ σ H Q, t' σ H Q → t σ H Q) : PW X e t' := fun wh pins s σ H Q I q => h wh pins s σ H Q I (m σ H Q q)
theorem PA.imp {t t' : TA} (h : PA X es t) (m : ∀ σ H Q, t' σ H Q → t σ H Q) : PA X es t' := fun pos pins s σ H Q I q => h pos pins s σ H Q I (m σ H Q q)
theorem OpR.imp {g : Value → Value → Sem Value} {r r' : R2} (h : OpR X g r) (m : ∀ x y H Q, r' x y H Q → r x y H Q) : OpR X g r' := fun pins s σ H x y v u Q I rx ry q => h pins s σ H x y v u Q I rx ry (m _ _ _ _ q)
theorem CallR.imp {g : Value} {r r' : List V → Hp → VK → Prop} (h : CallR X g r) (m : ∀ xs H Q, r' xs H Q → r xs H Q) : CallR X g r' := fun pins s σ H xs us Q I rx q => h pins s σ H xs us Q I rx (m _ _ _ q)
theorem pe_never : PE X e (fun _ _ _ => False) := fun _ _ _ _ _ _ q => q.elim
theorem pw_never : PW X e (fun _ _ _ => False) := fun _ _ _ _ _ _ _ q => q.elim
theorem ie_var {i : Nat} {x : Str} {t : TE} (h : PE X (.Name x pos) (tVar i)) : IE K X (.Name x pos) (iV i) := by
  refine ⟨fun env st r hr => ?_⟩
  unfold iV at hr
  obtain ⟨w, hw, rfl⟩ := Option.map_eq_some_iff.mp hr
  refine h.imp ?_
  rintro σ H Q ⟨φ, hE, hS, q⟩
  have hi : env[i]? = some (some w) := by
    rw [List.getD] at hw
    cases q : env[i]? with
    | none => rw [q] at hw; cases hw
    | some o => rw [q] at hw; rw [show o = some w from hw]
  obtain ⟨v, e1, r⟩ := hE.at_ i w hi
  exact ⟨v, e1, q v H φ (Fw.refl φ H) hS r⟩
theorem iv (i : Nat) {x : Str} (hN : X.N[i]? = some x := by rfl) (hv : Vis X.env.scope x := by first | exact Or.inl rfl | exact Or.inr (Or.inl rfl) | exact Or.inr (Or.inr rfl)) (hd : (x == ("__debug__" : Str)) = false := by decide)
    (hcd : (x == ("__classdict__" : Str)) = false := by decide) : IE K X (.Name x pos) (iV i) := ie_var (t := tVar i) (pe_var hN hv hd hcd)
theorem ie_c {d : D} {v : V} (h : PE X e (tC v)) (r : ∀ H φ, Rl K H φ d v) : IE K X e (iC d) := by
  refine ⟨fun env st r hr => ?_⟩
  cases hr
  refine h.imp ?_
  rintro σ H Q ⟨φ, hE, hS, q⟩
  exact q v H φ (Fw.refl φ H) hS (r H φ)
theorem ie_int {i j} : IE K X (.Constant (.int i) j pos) (iC (.int i)) := ie_c pe_int fun _ _ => rfl
theorem ie_bl {i j} : IE K X (.Constant (.bool i) j pos) (iC (.bl i)) := ie_c pe_bl fun _ _ => rfl
theorem ie_str {x j} : IE K X (.Constant (.str x) j pos) (iC (.str x)) := ie_c pe_str fun _ _ => rfl
theorem tOp_of {env : Ev} {st : Sto} {x y : W × Sto} {d : D} {σ : St} {H : Hp} {Q : VK} (h : tI K env st (.d d, y.2) σ H Q) : tOp (rD K y.2 x.1 y.1 d) (tI K env st x) (tI K env x.2 y) σ H Q := by
  obtain ⟨φ, hE, hS, q⟩ := h
  refine ⟨φ, hE, hS, fun v H1 φ1 f1 s1 w1 => ⟨φ1, hE.fw hS f1, s1, fun u H2 φ2 f2 s2 w2 => ⟨φ2, s2, w1.fw s1 f2, w2, fun v3 H3 f3 w3 => ?_⟩⟩⟩
  exact q v3 H3 φ2 ((f1.trans f2).trans (Fw.same f3)) (s2.same f3) w3
theorem ie_op {op : Operator} {g : Sto → W → W → Option D} (ho : OpD K X (binaryOp op) g) (ha : IE K X a fa) (hb : IE K X b fb) : IE K X (.BinOp a op b pos) (iOp g fa fb) := by
  refine ⟨fun env st r hr => ?_⟩
  simp only [iOp, Option.bind_eq_some_iff, Option.map_eq_some_iff] at hr
  obtain ⟨x, hx, y, hy, d, hd, rfl⟩ := hr
  exact (pe_op (ho.run _ _ _ _ hd) (ha.run _ _ _ hx) (hb.run _ _ _ hy)).imp fun σ H Q h => tOp_of h
theorem ie_cmp {op : CmpOp} {g : Sto → W → W → Option D} (ho : OpD K X (compareOp op) g) (ha : IE K X a fa) (hb : IE K X b fb) (hm : behindInMarks op b = false) : IE K X (.Compare a [op] [b] pos) (iOp g fa fb) := by
  refine ⟨fun env st r hr => ?_⟩
  simp only [iOp, Option.bind_eq_some_iff, Option.map_eq_some_iff] at hr
  obtain ⟨x, hx, y, hy, d, hd, rfl⟩ := hr
  exact (pe_cmpR (ho.run _ _ _ _ hd) (ha.run _ _ _ hx) (hb.run _ _ _ hy) hm).imp fun σ H Q h => tOp_of h
theorem blOf_some {d : D} {k : Bool} (h : blOf d = some k) : d = .bl k := by
  cases d <;> first | (cases h; done) | (injection h with h; subst h; rfl)
theorem it_cmp {op : CmpOp} {g : Sto → W → W → Option D} (ho : OpD K X (compareOp op) g) (ha : IE K X a fa) (hb : IE K X b fb) (hm : behindInMarks op b = false) : IT K X (.Compare a [op] [b] pos) (iOpT g fa fb) := by
  refine ⟨fun env st r hr => ?_⟩
  simp only [iOpT, Option.bind_eq_some_iff, Option.map_eq_some_iff] at hr
  obtain ⟨x, hx, y, hy, d, hd, k, hk, rfl⟩ := hr
  cases blOf_some hk
  refine (pt_cmpR (ho.run _ _ _ _ hd) (ha.run _ _ _ hx) (hb.run _ _ _ hy) hm).imp fun σ H Q h => ?_
  obtain ⟨φ, hE, hS, q⟩ := h
  refine tOp_of ⟨φ, hE, hS, fun v H1 φ1 f1 s1 w1 => ⟨k, w1, q H1 φ1 f1 s1⟩⟩
def dNeg : W → Option D
  | .d (.int i) => some (.int (-i))
  | _ => none
theorem ie_neg (ha : IE K X a fa) : IE K X (.UnaryOp .USub a pos) (iUn dNeg fa) := by
  refine ⟨fun env st r hr => ?_⟩
  simp only [iUn, Option.bind_eq_some_iff, Option.map_eq_some_iff] at hr
  obtain ⟨⟨x, s1⟩, hx, d, hd, rfl⟩ := hr
  cases x with
  | h n => cases hd
  | d x =>
    cases x with
    | int i =>
      cases hd
      refine (pe_un un_neg (ha.run _ _ _ hx)).imp ?_
      rintro σ H Q ⟨φ, hE, hS, q⟩
      exact ⟨φ, hE, hS, fun v H1 φ1 f1 s1 w1 => ⟨i, w1, q _ H1 φ1 f1 s1 rfl⟩⟩
    | _ => cases hd
variable {ta tb : Tf}
theorem it_not (ha : IT K X a ta) : IT K X (.UnaryOp .Not a pos) (iNotT ta) := by
  refine ⟨fun env st r hr => ?_⟩
  simp only [iNotT, Option.map_eq_some_iff] at hr
  obtain ⟨x, hx, rfl⟩ := hr
  refine (pt_not (ha.run _ _ _ hx)).imp ?_
  rintro σ H Q ⟨φ, hE, hS, q⟩
  exact ⟨φ, hE, hS, fun H1 φ1 f1 s1 => q H1 φ1 f1 s1⟩
theorem itw_pt (h : ITW K X a ta) : IT K X a ta := ⟨fun env st r hr => (h.run env st r hr).pt⟩
theorem itw_or1 (h : IT K X a ta) : ITW K X (.BoolOp .Or [a] pos) ta := ⟨fun env st r hr => pw_or1 (h.run env st r hr)⟩
theorem itw_or {rest : List Expr} (ha : IT K X a ta) (hb : ITW K X (.BoolOp .Or (b :: rest) pos) tb) : ITW K X (.BoolOp .Or (a :: b :: rest) pos) (iOrT ta tb) := by
  refine ⟨fun env st r hr => ?_⟩
  simp only [iOrT, Option.bind_eq_some_iff] at hr
  obtain ⟨⟨k, s1⟩, hx, hr⟩ := hr
  cases k with
  | true =>
    rw [if_pos rfl] at hr
    cases hr
    refine (pw_or (ha.run _ _ _ hx) pw_never).imp ?_
    rintro σ H Q ⟨φ, hE, hS, q⟩
    refine ⟨φ, hE, hS, fun H1 φ1 f1 s1 => ?_⟩
    refine iteT ?_
    exact q H1 φ1 f1 s1
  | false =>
    rw [if_neg Bool.false_ne_true] at hr
    refine (pw_or (ha.run _ _ _ hx) (hb.run _ _ _ hr)).imp ?_
    rintro σ H Q ⟨φ, hE, hS, q⟩
    refine ⟨φ, hE, hS, fun H1 φ1 f1 s1 => ?_⟩
    refine iteF ?_
    exact ⟨φ1, hE.fw hS f1, s1, fun H2 φ2 f2 s2 => q H2 φ2 (f1.trans f2) s2⟩
theorem ie_if {tc : Tf} (hc : IT K X c tc) (ha : IE K X a fa) (hb : IE K X b fb) : IE K X (.IfExp c a b pos) (iIfE tc fa fb) := by
  refine ⟨fun env st r hr => ?_⟩
  simp only [iIfE, Option.bind_eq_some_iff] at hr
  obtain ⟨⟨k, s1⟩, hx, hr⟩ := hr
  cases k with
  | true =>
    rw [if_pos rfl] at hr
    refine (pe_ifExp (hc.run _ _ _ hx) (ha.run _ _ _ hr) pe_never).imp ?_
    rintro σ H Q ⟨φ, hE, hS, q⟩
    refine ⟨φ, hE, hS, fun H1 φ1 f1 s1 => ?_⟩
    refine iteT ?_
    exact ⟨φ1, hE.fw hS f1, s1, fun u H2 φ2 f2 s2 w2 => q u H2 φ2 (f1.trans f2) s2 w2⟩
  | false =>
    rw [if_neg Bool.false_ne_true] at hr
    refine (pe_ifExp (hc.run _ _ _ hx) pe_never (hb.run _ _ _ hr)).imp ?_
    rintro σ H Q ⟨φ, hE, hS, q⟩
    refine ⟨φ, hE, hS, fun H1 φ1 f1 s1 => ?_⟩
    refine iteF ?_
    exact ⟨φ1, hE.fw hS f1, s1, fun u H2 φ2 f2 s2 w2 => q u H2 φ2 (f1.trans f2) s2 w2⟩
/-- the items of a list or tuple -/
def seqD (st : Sto) : W → Option (List D)
  | .d (.tup ds) => some ds
  | .d (.lst ds) => some ds
  | .d (.scr ns) => some (ns.map D.int)
  | .h n => st[n]?
  | _ => none
theorem seq_rel {st : Sto} {H : Hp} {φ : List Addr} {w : W} {v : V} {ds : List D} (S : Sr K H φ st) (r : Rw K H φ w v) (e : seqD st w = some ds) : ∃ a vs, v = .ref a ∧ (SqL K H a vs ∨ SqT K H a vs) ∧ Rls K H φ ds vs := by
  cases w with
  | h n =>
    obtain ⟨a, ea, rfl⟩ := r
    obtain ⟨vs, q, rl⟩ := S.at_ n a ds ea e
    exact ⟨a, vs, rfl, .inl (SqL.of q), rl⟩
  | d x =>
    cases x with
    | tup es => cases e; obtain ⟨a, vs, rfl, h1, h2⟩ := r; exact ⟨a, vs, rfl, .inr h1, h2⟩
    | lst es => cases e; obtain ⟨a, vs, rfl, h0, h1, h2⟩ := r; exact ⟨a, vs, rfl, .inl (.inl h1), h2⟩
    | scr ns =>
      cases e
      obtain ⟨a, rfl, h⟩ := r
      refine ⟨a, _, rfl, .inl ?_, Rls.of_ints ns⟩
      rcases h with ⟨o, h⟩ | h
      · exact .inl (.inr ⟨o, h⟩)
      · exact .inr h
    | _ => cases e
def truD (st : Sto) : W → Option Bool
  | .d .non => some false
  | .d (.bl b) => some b
  | .d (.int i) => some (i != 0)
  | w => (seqD st w).map fun ds => !ds.isEmpty
theorem tru_rel {st : Sto} {H : Hp} {φ : List Addr} {w : W} {v : V} {k : Bool} (S : Sr K H φ st) (r : Rw K H φ w v) (e : truD st w = some k) : TruV K v H k := by
  have seq : ∀ ds, seqD st w = some ds → k = !ds.isEmpty → TruV K v H k := fun ds h hk => by
    obtain ⟨a, vs, rfl, h1, h2⟩ := seq_rel S r h
    have hl := h2.length
    have e' : k = !vs.isEmpty := by
      rw [hk]
      cases ds <;> cases vs <;> first | rfl | cases hl
    rcases h1 with h1 | h1
    · exact .inl ⟨vs, h1, e'⟩
    · exact .inr (.inl ⟨vs, h1, e'⟩)
  cases w with
  | h n =>
    obtain ⟨ds, h1, h2⟩ := Option.map_eq_some_iff.mp e
    exact seq ds h1 h2.symm
  | d x =>
    cases x with
    | non => have r' : v = .non := r; subst r'; cases e; exact rfl
    | bl b => have r' : v = .bl b := r; subst r'; cases e; exact rfl
    | int i => have r' : v = .int i := r; subst r'; cases e; exact rfl
    | tup ds => exact seq ds rfl (Option.some.inj e).symm
    | lst ds => exact seq ds rfl (Option.some.inj e).symm
    | scr ds => exact seq _ rfl (Option.some.inj e).symm
    | _ => cases e
theorem it_tru (ha : IE K X a fa) (he : plainT a = true := by rfl) (hK : X.K = K := by rfl) : IT K X a (iTru truD fa) := by
  subst hK
  refine ⟨fun env st r hr => ?_⟩
  simp only [iTru, Option.bind_eq_some_iff, Option.map_eq_some_iff] at hr
  obtain ⟨x, hx, k, hk, rfl⟩ := hr
  refine (pt_truth (ha.run _ _ _ hx) (tru_plain he)).imp ?_
  rintro σ H Q ⟨φ, hE, hS, q⟩
  exact ⟨φ, hE, hS, fun v H1 φ1 f1 s1 w1 => ⟨k, tru_rel s1 w1 hk, q H1 φ1 f1 s1⟩⟩
variable {af : Af}
theorem ia_nil : IA K X [] iNil := by
  refine ⟨fun env st r hr => ?_⟩
  cases hr
  refine pa_nil.imp ?_
  rintro σ H Q ⟨φ, hE, hS, q⟩
  exact q [] H φ (Fw.refl φ H) hS rfl
theorem ia_cons (ha : IE K X e fa) (hr : IA K X es af) (hs : notStar e = true := by rfl) : IA K X (e :: es) (iCons fa af) := by
  refine ⟨fun env st r h => ?_⟩
  simp only [iCons, Option.bind_eq_some_iff, Option.map_eq_some_iff] at h
  obtain ⟨x, hx, y, hy, rfl⟩ := h
  refine (pa_cons (ha.run _ _ _ hx) (hr.run _ _ _ hy) (star_cons hs)).imp ?_
  rintro σ H Q ⟨φ, hE, hS, q⟩
  refine ⟨φ, hE, hS, fun v H1 φ1 f1 s1 w1 => ⟨φ1, hE.fw hS f1, s1, fun u H2 φ2 f2 s2 w2 => ?_⟩⟩
  exact q _ H2 φ2 (f1.trans f2) s2 ⟨v, u, rfl, w1.fw s1 f2, w2⟩
theorem ie_cb {x : Str} {id : String} {p : Pos} {g : Sto → List W → Option D} (hc : CallD K X (.builtin id) g) (hg : Gl X x) (hm : X.mg x = none) (hv : bootBuiltins x = some (.builtin id)) (ha : IA K X (e :: es) af)
    (hn : x ≠ "__name__" := by decide) (hdb : (x == ("__debug__" : Str)) = false := by decide) (hs : notStar e = true := by rfl) (hp : es.all notStar = true := by rfl) :
    IE K X (.Call (.Name x p) (e :: es) [] pos) (iCB g af) := by
  refine ⟨fun env st r hr => ?_⟩
  simp only [iCB, Option.bind_eq_some_iff, Option.map_eq_some_iff] at hr
  obtain ⟨y, hy, d, hd, rfl⟩ := hr
  refine (pe_callB (hc.run _ _ _ hd) hg hm hv (ha.run _ _ _ hy) hn hdb (star_cons hs) (star_any hp)).imp ?_
  rintro σ H Q ⟨φ, hE, hS, q⟩
  exact ⟨φ, hE, hS, fun v H1 φ1 f1 s1 w1 => ⟨φ1, s1, w1, fun u H2 f2 w2 => q u H2 φ1 (f1.trans (Fw.same f2)) (s1.same f2) w2⟩⟩
theorem ie_ct {x : Str} {T : String} {p : Pos} {g : Sto → List W → Option D} (hc : CallD K X (.type T) g) (hg : Gl X x) (hm : X.mg x = none) (hv : bootBuiltins x = some (.type T)) (ha : IA K X (e :: es) af)
    (hn : x ≠ "__name__" := by decide) (hdb : (x == ("__debug__" : Str)) = false := by decide) (hs : notStar e = true := by rfl) (hp : es.all notStar = true := by rfl) :
    IE K X (.Call (.Name x p) (e :: es) [] pos) (iCB g af) := by
  refine ⟨fun env st r hr => ?_⟩
  simp only [iCB, Option.bind_eq_some_iff, Option.map_eq_some_iff] at hr
  obtain ⟨y, hy, d, hd, rfl⟩ := hr
  refine (pe_callTy (hc.run _ _ _ hd) hg hm hv (ha.run _ _ _ hy) hn hdb (star_cons hs) (star_any hp)).imp ?_
  rintro σ H Q ⟨φ, hE, hS, q⟩
  exact ⟨φ, hE, hS, fun v H1 φ1 f1 s1 w1 => ⟨φ1, s1, w1, fun u H2 f2 w2 => q u H2 φ1 (f1.trans (Fw.same f2)) (s1.same f2) w2⟩⟩
theorem dsOf_rel {H : Hp} {φ : List Addr} : ∀ {ws : List W} {vs : List V} {ds : List D}, dsOf ws = some ds → Rws K H φ ws vs → Rls K H φ ds vs
  | [], _, _, e, h => by cases e; exact h
  | .d x :: ws, _, _, e, h => by
    obtain ⟨v, r, rfl, h1, h2⟩ := h
    obtain ⟨es, e1, rfl⟩ := Option.map_eq_some_iff.mp e
    exact ⟨v, r, rfl, h1, dsOf_rel e1 h2⟩
  | .h n :: ws, _, _, e, h => by cases e
theorem ie_tup {x1} (h : IA K X es af) : IE K X (.Tuple es x1 pos) (iTupD af) := by
  refine ⟨fun env st r hr => ?_⟩
  simp only [iTupD, Option.bind_eq_some_iff] at hr
  obtain ⟨y, hy, ds, hd, hr⟩ := hr
  split at hr
  · cases hr
    rename_i hl
    refine (pe_tup (h.run _ _ _ hy)).imp ?_
    rintro σ H Q ⟨φ, hE, hS, q⟩
    refine ⟨φ, hE, hS, fun vs H1 φ1 f1 s1 w1 => ?_⟩
    have w := dsOf_rel hd w1
    refine ⟨by rw [← w.length]; exact small16 hl, fun p hp => ?_⟩
    exact q _ _ φ1 (f1.trans (Fw.new hp)) (s1.new hp) ⟨p, vs, rfl, SqT.of upd_same, w.fw s1 (Fw.new hp)⟩
  · cases hr
theorem il_lst (h : IA K X es af) : IL K X (.List es pos) (iLst af) := by
  refine ⟨fun env st r hr => ?_⟩
  simp only [iLst, Option.bind_eq_some_iff] at hr
  obtain ⟨y, hy, ds, hd, hr⟩ := hr
  split at hr
  · cases hr
    rename_i hl
    refine (pe_lst (h.run _ _ _ hy)).imp ?_
    rintro σ H Q ⟨φ, hE, hS, q⟩
    refine ⟨φ, hE, hS, fun vs H1 φ1 f1 s1 w1 => ?_⟩
    have w := dsOf_rel hd w1
    exact ⟨by rw [← w.length]; exact small16 hl, fun p hp => q p vs H1 φ1 f1 s1 hp w⟩
  · cases hr
/-- a list that is only read -/
theorem il_pure {lf : Lf} (h : IL K X e lf) : IE K X e (iPure lf) := by
  refine ⟨fun env st r hr => ?_⟩
  simp only [iPure, Option.map_eq_some_iff] at hr
  obtain ⟨y, hy, rfl⟩ := hr
  refine (h.run _ _ _ hy).imp ?_
  rintro σ H Q ⟨φ, hE, hS, q⟩
  refine ⟨φ, hE, hS, fun a vs H1 φ1 f1 s1 n1 w1 => ?_⟩
  exact q _ _ φ1 (f1.trans (Fw.new n1)) (s1.new n1) ⟨a, vs, rfl, s1.nin n1, .inl upd_same, w1.fw s1 (Fw.new n1)⟩
/-- a list that is written: a new one of the store -/
theorem Sr.more {H : Hp} {φ : List Addr} {st : Sto} {a : Addr} {vs : List V} {ds : List D} (S : Sr K H φ st) (n : H a = none) (w : Rls K H φ ds vs) : Sr K (upd H a (.lst vs)) (φ ++ [a]) (st ++ [ds]) := by
  have f : Fw φ (φ ++ [a]) H (upd H a (.lst vs)) := ⟨⟨[a], rfl, fun b hb => by rw [List.mem_singleton.mp hb]; exact n⟩, fun b o _ h => Same.new n _ b o h, fun b o h => ⟨o, Same.new n _ b o h⟩⟩
  refine ⟨?_, by rw [List.length_append, List.length_append, S.len]; rfl, fun i b es e1 e2 => ?_⟩
  · rw [List.nodup_append]
    refine ⟨S.nd, by simp, fun x hx y hy e => ?_⟩
    rw [List.mem_singleton.mp hy] at e
    rw [e] at hx
    exact S.nin n hx
  · by_cases hi : i < φ.length
    · rw [List.getElem?_append_left hi] at e1
      rw [List.getElem?_append_left (by rw [← S.len]; exact hi)] at e2
      obtain ⟨us, q, r⟩ := S.at_ i b es e1 e2
      exact ⟨us, Same.new n _ _ _ q, r.fw S f⟩
    · have e : i = φ.length := by
        have := (List.getElem?_eq_some_iff.mp e1).1
        rw [List.length_append] at this
        simp at this
        omega
      subst e
      rw [List.getElem?_append_right (Nat.le_refl _)] at e1
      rw [S.len, List.getElem?_append_right (Nat.le_refl _)] at e2
      simp at e1 e2
      subst e1 e2
      exact ⟨vs, upd_same, w.fw S f⟩
theorem Fw.more {H : Hp} {φ : List Addr} {a : Addr} {vs : List V} (n : H a = none) : Fw φ (φ ++ [a]) H (upd H a (.lst vs)) :=
  ⟨⟨[a], rfl, fun b hb => by rw [List.mem_singleton.mp hb]; exact n⟩, fun b o _ h => Same.new n _ b o h, fun b o h => ⟨o, Same.new n _ b o h⟩⟩
theorem il_new {lf : Lf} (h : IL K X e lf) : IE K X e (iNew lf) := by
  refine ⟨fun env st r hr => ?_⟩
  simp only [iNew, Option.map_eq_some_iff] at hr
  obtain ⟨y, hy, rfl⟩ := hr
  refine (h.run _ _ _ hy).imp ?_
  rintro σ H Q ⟨φ, hE, hS, q⟩
  refine ⟨φ, hE, hS, fun a vs H1 φ1 f1 s1 n1 w1 => ?_⟩
  exact q _ _ (φ1 ++ [a]) (f1.trans (Fw.more n1)) (s1.more n1 w1) ⟨a, by rw [← s1.len]; simp, rfl⟩
def spI (K : PySem.W.Frag) (m : Fn) : Sp := fun vs H Q _ => ∃ φ st ws r, m ws st = some r ∧ Rws K H φ ws vs ∧ Sr K H φ st ∧ ∀ v H' φ', Fw φ φ' H H' → Sr K H' φ' r.2 → Rw K H' φ' r.1 v → Q v H'
theorem ie_call {x : Str} {k j : Nat} {ff : Addr} {fd : FuncData} {ps : List Str} {m : Fn} {p : Pos} (F : FnOk X.prog X.w X.K X.mg X.base CX0 j ff fd ps (spI K m)) (hjk : j ≤ k) (hr : Room k X.A) (hg : Gl X x) (hm : X.mg x = some (.ref ff)) (hk : PySem.W.keepIn X.K (.ref ff) = true) (hb : Binds X.K fd ps [])
    (ha : IA K X (e :: es) af) (hdb : (x == ("__debug__" : Str)) = false := by decide) (hs : notStar e = true := by rfl) (hp : es.all notStar = true := by rfl) :
    IE K X (.Call (.Name x p) (e :: es) [] pos) (iCall m af) := by
  refine ⟨fun env st r h => ?_⟩
  simp only [iCall, Option.bind_eq_some_iff] at h
  obtain ⟨y, hy, h⟩ := h
  refine (pe_call (F.mono hjk) hr hg hm hk hb .nil pass0 (ha.run _ _ _ hy) hdb (star_cons hs) (star_any hp)).imp ?_
  rintro σ H Q ⟨φ, hE, hS, q⟩
  refine ⟨φ, hE, hS, fun vs H1 φ1 f1 s1 w1 => ?_⟩
  show spI K m (vs ++ []) H1 Q E0
  rw [List.append_nil]
  exact ⟨φ1, y.2, y.1, r, h, w1, s1, fun v H2 φ2 f2 s2 w2 => q v H2 φ2 (f1.trans f2) s2 w2⟩
end
end L2

namespace L2
open PySem PySem.Spec PyProof.Rows
inductive Fl where
  | nx (env : Ev) (st : Sto) | rt (w : W) (st : Sto) | bk (env : Ev) (st : Sto) | ct (env : Ev) (st : Sto)
abbrev Sf := Ev → Sto → Option Fl
def EndD (K : PySem.W.Frag) (φ : List Addr) (H : Hp) (D : Ends) : Fl → Prop
  | .nx e s => ∀ σ' H' φ', Fw φ φ' H H' → Er K H' φ' e σ' → Sr K H' φ' s → D.nx σ' H'
  | .rt w s => ∀ v H' φ', Fw φ φ' H H' → Sr K H' φ' s → Rw K H' φ' w v → D.rt v H'
  | .bk e s => ∀ σ' H' φ', Fw φ φ' H H' → Er K H' φ' e σ' → Sr K H' φ' s → D.bk σ' H'
  | .ct e s => ∀ σ' H' φ', Fw φ φ' H H' → Er K H' φ' e σ' → Sr K H' φ' s → D.ct σ' H'
theorem EndD.fw {K : PySem.W.Frag} {φ φ1 : List Addr} {H H1 : Hp} {D : Ends} {r : Fl} (h : EndD K φ H D r) (f : Fw φ φ1 H H1) : EndD K φ1 H1 D r := by
  cases r with
  | nx e s => exact fun σ' H' φ' f' => h σ' H' φ' (f.trans f')
  | rt w s => exact fun v H' φ' f' => h v H' φ' (f.trans f')
  | bk e s => exact fun σ' H' φ' f' => h σ' H' φ' (f.trans f')
  | ct e s => exact fun σ' H' φ' f' => h σ' H' φ' (f.trans f')
def tS (K : PySem.W.Frag) (env : Ev) (st : Sto) (r : Fl) : TS := fun D σ H => ∃ φ, Er K H φ env σ ∧ Sr K H φ st ∧ EndD K φ H D r
structure IS (K : PySem.W.Frag) (X : Cx) (s : Stmt) (g : Sf) : Prop where
  run : ∀ env st r, g env st = some r → PS X s (tS K env st r)
structure ISs (K : PySem.W.Frag) (X : Cx) (s : List Stmt) (g : Sf) : Prop where
  run : ∀ env st r, g env st = some r → PSs X s (tS K env st r)
inductive Tg where
  | nm (i : Nat) | tp (is : List Nat)
def idxs : Tg → List Nat
  | .nm i => [i]
  | .tp is => is
def setNs : List Nat → List D → Ev → Ev
  | i :: is, d :: ds, env => setNs is ds (env.set i (some (.d d)))
  | _, _, env => env
def setT : Tg → W → Ev → Option Ev
  | .nm i, w, env => some (env.set i (some w))
  | .tp is, .d (.tup ds), env => if is.length = ds.length then some (setNs is ds env) else none
  | _, _, _ => none
def Stay (is : List Nat) (σ σ' : St) : Prop := σ'.length = σ.length ∧ ∀ j, j ∉ is → σ'[j]? = σ[j]?
def tG (K : PySem.W.Frag) (g : Tg) : TG := fun v σ H Q => ∃ φ st env w env', Er K H φ env σ ∧ Sr K H φ st ∧ Rw K H φ w v ∧ setT g w env = some env' ∧ ∀ σ', Er K H φ env' σ' → Stay (idxs g) σ σ' → Q σ' H
def iSkip : Sf
  | env, st => some (.nx env st)
def iSeqS (a b : Sf) : Sf
  | env, st => (a env st).bind fun r => match r with
  | .nx e s => b e s
  | r => some r
def iSet (g : Tg) (f : Ef) : Sf
  | env, st => (f env st).bind fun r => (setT g r.1 env).map fun e => .nx e r.2
def setIx (st : Sto) (o i v : W) : Option Sto := match o, i, v with
  | .h n, .d (.int k), .d x => (st[n]?).bind fun ds => (ixN ds.length k).map fun j => st.set n (ds.set j x)
  | _, _, _ => none
def iSetIx (o i v : Ef) : Sf
  | env, st => (v env st).bind fun rv => (o env rv.2).bind fun ro => (i env ro.2).bind fun ri => (setIx ri.2 ro.1 ri.1 rv.1).map fun s => .nx env s
def iRet (f : Ef) : Sf
  | env, st => (f env st).map fun r => .rt r.1 r.2
def iDrop (f : Ef) : Sf
  | env, st => (f env st).map fun r => .nx env r.2
def iIfS (c : Tf) (a b : Sf) : Sf
  | env, st => (c env st).bind fun r => if r.1 = true then a env r.2 else b env r.2
def forI (g : Tg) (body : Sf) : List D → Ev → Sto → Option Fl
  | [], env, st => some (.nx env st)
  | d :: ds, env, st => (setT g (.d d) env).bind fun e => (body e st).bind fun r => match r with
    | .nx e s => forI g body ds e s
    | .ct e s => forI g body ds e s
    | .bk e s => some (.nx e s)
    | .rt w s => some (.rt w s)
def iFor (fi : Lf) (g : Tg) (body : Sf) : Sf
  | env, st => (fi env st).bind fun r => forI g body r.1 env r.2
def lcI (g : Tg) (tt : Tf) (te : Ef) (env : Ev) : List D → Sto → Option (List D × Sto)
  | [], st => some ([], st)
  | d :: ds, st => (setT g (.d d) env).bind fun e => (tt e st).bind fun b => if b.1 = true then (te e b.2).bind fun x => (dsOf [x.1]).bind fun ys => (lcI g tt te env ds x.2).map fun r => (ys ++ r.1, r.2)
      else lcI g tt te env ds b.2
def embE (k : Nat) (js : List Nat) (env : Ev) : Ev := List.replicate k none ++ js.map fun j => env.getD j none
def iLc (k : Nat) (js : List Nat) (fi : Lf) (g : Tg) (tt : Tf) (te : Ef) : Lf
  | env, st => (fi env st).bind fun r => if r.1.length ≤ 1000000 then lcI g tt te (embE k js env) r.1 r.2 else none
def iYes : Tf
  | _, st => some (true, st)
def iItems (f : Ef) : Lf
  | env, st => (f env st).bind fun r => match r.1 with
  | .d (.tup ds) => some (ds, r.2)
  | .d (.lst ds) => some (ds, r.2)
  | _ => none
def rngD (lo : Int) (n : Nat) : List D := (List.range n).map fun k : Nat => D.int (lo + k)
def iRng1D (a : Af) : Lf
  | env, st => (a env st).bind fun r => match r.1 with
  | [.d (.int j)] => if -(2 ^ 62) ≤ j ∧ j < 2 ^ 62 then some (rngD 0 j.toNat, r.2) else none
  | _ => none
section
variable {K : PySem.W.Frag} {X : Cx} {pos : Pos}
theorem PS.imp {s : Stmt} {t t' : TS} (h : PS X s t) (m : ∀ D σ H, t' D σ H → t D σ H) : PS X s t' := fun pins s σ H D I q => h pins s σ H D I (m D σ H q)
theorem PSs.imp {s : List Stmt} {t t' : TS} (h : PSs X s t) (m : ∀ D σ H, t' D σ H → t D σ H) : PSs X s t' := fun pins s σ H D I q => h pins s σ H D I (m D σ H q)
theorem Er.set {H : Hp} {φ : List Addr} {env : Ev} {σ : St} (h : Er K H φ env σ) (i : Nat) {w : W} {v : V} (r : Rw K H φ w v) : Er K H φ (env.set i (some w)) (σ.set i (some v)) := by
  refine ⟨by rw [List.length_set, List.length_set, h.len], fun j w' e => ?_⟩
  by_cases hj : i = j
  · subst hj
    have hi : i < env.length := by
      have := (List.getElem?_eq_some_iff.mp e).1
      rwa [List.length_set] at this
    rw [List.getElem?_set_self hi] at e
    cases e
    exact ⟨v, by rw [List.getElem?_set_self (by rw [← h.len]; exact hi)], r⟩
  · rw [List.getElem?_set_ne hj] at e
    obtain ⟨v', e1, r1⟩ := h.at_ j w' e
    exact ⟨v', by rw [List.getElem?_set_ne hj]; exact e1, r1⟩
theorem stay_set (i : Nat) (σ : St) (v : Option V) : Stay [i] σ (σ.set i v) := ⟨by rw [List.length_set], fun j hj => by rw [List.getElem?_set_ne (by rintro rfl; simp at hj)]⟩
theorem ig_name {i : Nat} {x : Str} (h : PG X (.Name x pos) (gName i)) : PG X (.Name x pos) (tG K (.nm i)) := by
  intro pins s σ H v u Q I rv q
  obtain ⟨φ, st, env, w, env', hE, hS, r, e, q⟩ := q
  cases e
  exact h pins s σ H v u Q I rv (q _ (hE.set i r) (stay_set i σ _))
variable {s : Stmt} {ss rest : List Stmt} {e a b c : Expr} {ga gb : Sf} {f fa fb fc : Ef}
theorem iss_nil : ISs K X [] iSkip := by
  refine ⟨fun env st r hr => ?_⟩
  cases hr
  exact pss_nil.imp fun D σ H ⟨φ, hE, hS, q⟩ => q σ H φ (Fw.refl φ H) hE hS
theorem iss_one (h : IS K X s ga) : ISs K X [s] ga := ⟨fun env st r hr => pss_one (h.run env st r hr)⟩
theorem iss_cons (h1 : IS K X s ga) (h2 : ISs K X rest gb) : ISs K X (s :: rest) (iSeqS ga gb) := by
  refine ⟨fun env st r hr => ?_⟩
  simp only [iSeqS, Option.bind_eq_some_iff] at hr
  obtain ⟨r1, e1, hr⟩ := hr
  cases r1 with
  | nx e s1 =>
    refine (pss_cons (h1.run _ _ _ e1) (h2.run _ _ _ hr)).imp ?_
    rintro D σ H ⟨φ, hE, hS, q⟩
    exact ⟨φ, hE, hS, fun σ' H' φ' f' e' s' => ⟨φ', e', s', q.fw f'⟩⟩
  | rt w s1 =>
    cases hr
    exact (pss_cons (h1.run _ _ _ e1) pss_never).imp fun D σ H ⟨φ, hE, hS, q⟩ => ⟨φ, hE, hS, q⟩
  | bk w s1 =>
    cases hr
    exact (pss_cons (h1.run _ _ _ e1) pss_never).imp fun D σ H ⟨φ, hE, hS, q⟩ => ⟨φ, hE, hS, q⟩
  | ct w s1 =>
    cases hr
    exact (pss_cons (h1.run _ _ _ e1) pss_never).imp fun D σ H ⟨φ, hE, hS, q⟩ => ⟨φ, hE, hS, q⟩
theorem is_set {i : Nat} {x : Str} {pos' : Pos} (hN : X.N.Nodup) (hi : X.N[i]? = some x) (hx : Loc X.env.scope x) (he : IE K X e f) (hs : swapsWith e (some (.Name x pos')) pos.line X.env = pure false := by rfl) (hf : X.fn x = true ∨ X.env.scope.names.lookup x = some .local := by first | exact .inl rfl | exact .inr rfl | assumption) :
    IS K X (.Assign [.Name x pos'] e pos) (iSet (.nm i) f) := by
  refine ⟨fun env st r hr => ?_⟩
  simp only [iSet, setT, Option.bind_eq_some_iff, Option.map_eq_some_iff] at hr
  obtain ⟨y, hy, e', ee, rfl⟩ := hr
  cases ee
  refine (ps_set hN hi hx (he.run _ _ _ hy) hs hf).imp ?_
  rintro D σ H ⟨φ, hE, hS, q⟩
  exact ⟨φ, hE, hS, fun v H1 φ1 f1 s1 w1 => q _ H1 φ1 f1 ((hE.fw hS f1).set i w1) s1⟩
theorem Sr.put {H : Hp} {φ : List Addr} {st : Sto} {n : Nat} {a : Addr} {vs : List V} {ds : List D} (S : Sr K H φ st) (hn : φ[n]? = some a) (w : Rls K H φ ds vs) :
    Fw φ φ H (upd H a (.lst vs)) ∧ Sr K (upd H a (.lst vs)) φ (st.set n ds) := by
  have ha : a ∈ φ := List.mem_of_getElem? hn
  have f : Fw φ φ H (upd H a (.lst vs)) := ⟨⟨[], by simp, by simp⟩, fun b o hb h => by rw [upd_ne (fun z => hb (by rw [z]; exact ha))]; exact h, fun b o h => by
    by_cases z : b = a
    · subst z; exact ⟨_, upd_same⟩
    · exact ⟨o, by rw [upd_ne z]; exact h⟩⟩
  refine ⟨f, S.nd, by rw [List.length_set]; exact S.len, fun m b es e1 e2 => ?_⟩
  by_cases hm : n = m
  · subst hm
    rw [e1] at hn; cases hn
    have hl : n < st.length := by rw [← S.len]; exact (List.getElem?_eq_some_iff.mp e1).1
    rw [List.getElem?_set_self hl] at e2
    cases e2
    exact ⟨vs, upd_same, w.fw S f⟩
  · rw [List.getElem?_set_ne hm] at e2
    obtain ⟨us, q, r⟩ := S.at_ m b es e1 e2
    have hne : b ≠ a := by
      rintro rfl
      obtain ⟨h1, h1'⟩ := List.getElem?_eq_some_iff.mp hn
      obtain ⟨h2, h2'⟩ := List.getElem?_eq_some_iff.mp e1
      exact hm ((List.getElem_inj S.nd).mp (h1'.trans h2'.symm))
    exact ⟨us, by rw [upd_ne hne]; exact q, r.fw S f⟩
theorem setIx_some {st s' : Sto} {o i v : W} (h : setIx st o i v = some s') : ∃ n k x ds j, o = .h n ∧ i = .d (.int k) ∧ v = .d x ∧ st[n]? = some ds ∧ ixN ds.length k = some j ∧ s' = st.set n (ds.set j x) := by
  unfold setIx at h
  split at h
  · obtain ⟨ds, e1, h⟩ := Option.bind_eq_some_iff.mp h
    obtain ⟨j, e2, h⟩ := Option.map_eq_some_iff.mp h
    exact ⟨_, _, _, ds, j, rfl, rfl, rfl, e1, e2, h.symm⟩
  · cases h
theorem is_setIx {tpos : Pos} (ho : IE K X a fa) (hi : IE K X b fb) (hv : IE K X e f) (hb : plainI b = true := by rfl) (hs : swapsWithSole [.Subscript a b tpos] e pos.line X.env = pure false := by rfl) (hw : swappedStores [.Subscript a b tpos] e X.env = pure none := by rfl) :
    IS K X (.Assign [.Subscript a b tpos] e pos) (iSetIx fa fb f) := by
  refine ⟨fun env st r hr => ?_⟩
  simp only [iSetIx, Option.bind_eq_some_iff, Option.map_eq_some_iff] at hr
  obtain ⟨rv, ev, ro, eo, ri, ei, s', es, rfl⟩ := hr
  refine (ps_asg (hv.run _ _ _ ev) (pg_sub (ho.run _ _ _ eo) (hi.run _ _ _ ei) set_list (asg_sub hb)) hs hw (asg_one rfl)).imp ?_
  rintro D σ H ⟨φ, hE, hS, q⟩
  refine ⟨φ, hE, hS, fun v H1 φ1 f1 s1 w1 => ⟨φ1, hE.fw hS f1, s1, fun o H2 φ2 f2 s2 w2 => ⟨φ2, (hE.fw hS f1).fw s1 f2, s2, fun i H3 φ3 f3 s3 w3 => ?_⟩⟩⟩
  have e3 := ((hE.fw hS f1).fw s1 f2).fw s2 f3
  have w1' := (w1.fw s1 f2).fw s2 f3
  have w2' := w2.fw s2 f3
  obtain ⟨ro1, ro2⟩ := ro
  obtain ⟨rv1, rv2⟩ := rv
  obtain ⟨ri1, ri2⟩ := ri
  obtain ⟨n, k, x, ds, j, rfl, rfl, rfl, eds, ej, rfl⟩ := setIx_some es
  obtain ⟨p, ep, rfl⟩ := w2'
  obtain ⟨vs, hp, rl⟩ := s3.at_ n p ds ep eds
  have w3' : i = .int k := w3
  subst w3'
  obtain ⟨f4, s4⟩ := s3.put ep (Rls.set j rl w1')
  refine ⟨p, vs, k, j, rfl, rfl, hp, by rw [← rl.length]; exact ej, ?_⟩
  exact q _ _ φ3 (((f1.trans f2).trans f3).trans f4) (e3.fw s3 f4) s4
theorem is_ret (h : IE K X e f) : IS K X (.Return (some e) pos) (iRet f) := by
  refine ⟨fun env st r hr => ?_⟩
  simp only [iRet, Option.map_eq_some_iff] at hr
  obtain ⟨y, hy, rfl⟩ := hr
  exact (ps_ret (h.run _ _ _ hy)).imp fun D σ H ⟨φ, hE, hS, q⟩ => ⟨φ, hE, hS, q⟩
theorem is_expr (h : IE K X e f) (hs : swapsWith e none pos.line X.env = pure false := by rfl) : IS K X (.Expr e pos) (iDrop f) := by
  refine ⟨fun env st r hr => ?_⟩
  simp only [iDrop, Option.map_eq_some_iff] at hr
  obtain ⟨y, hy, rfl⟩ := hr
  exact (ps_expr (h.run _ _ _ hy) hs).imp fun D σ H ⟨φ, hE, hS, q⟩ => ⟨φ, hE, hS, fun v H1 φ1 f1 s1 w1 => q σ H1 φ1 f1 (hE.fw hS f1) s1⟩
theorem is_if {tc : Tf} {sa sb : List Stmt} (hc : IT K X c tc) (ha : ISs K X sa ga) (hb : ISs K X sb gb) : IS K X (.If c sa sb pos) (iIfS tc ga gb) := by
  refine ⟨fun env st r hr => ?_⟩
  simp only [iIfS, Option.bind_eq_some_iff] at hr
  obtain ⟨⟨k, s1⟩, hx, hr⟩ := hr
  cases k with
  | true =>
    rw [if_pos rfl] at hr
    refine (ps_if (hc.run _ _ _ hx) (ha.run _ _ _ hr) pss_never).imp ?_
    rintro D σ H ⟨φ, hE, hS, q⟩
    refine ⟨φ, hE, hS, fun H1 φ1 f1 s1 => iteT ?_⟩
    exact ⟨φ1, hE.fw hS f1, s1, q.fw f1⟩
  | false =>
    rw [if_neg Bool.false_ne_true] at hr
    refine (ps_if (hc.run _ _ _ hx) pss_never (hb.run _ _ _ hr)).imp ?_
    rintro D σ H ⟨φ, hE, hS, q⟩
    refine ⟨φ, hE, hS, fun H1 φ1 f1 s1 => iteF ?_⟩
    exact ⟨φ1, hE.fw hS f1, s1, q.fw f1⟩
def tAnyS (K : PySem.W.Frag) (g : Sf) : TS := fun D σ H => ∃ env st r, g env st = some r ∧ tS K env st r D σ H
def tAnyE (K : PySem.W.Frag) (f : Ef) : TE := fun σ H Q => ∃ env st r, f env st = some r ∧ tI K env st r σ H Q
def tAnyT (K : PySem.W.Frag) (f : Tf) : TT := fun σ H Q => ∃ env st r, f env st = some r ∧ tIT K env st r σ H Q
theorem ISs.any (h : ISs K X ss ga) : PSs X ss (tAnyS K ga) := fun pins s σ H D I ⟨env, st, r, e, q⟩ => h.run env st r e pins s σ H D I q
theorem IE.any (h : IE K X e f) : PE X e (tAnyE K f) := fun pins s σ H D I ⟨env, st, r, e, q⟩ => h.run env st r e pins s σ H D I q
theorem IT.any {tf : Tf} (h : IT K X e tf) : PT X e (tAnyT K tf) := fun pins s σ H D I ⟨env, st, r, e, q⟩ => h.run env st r e pins s σ H D I q
def Yl (K : PySem.W.Frag) (φ0 : List Addr) (H0 : Hp) (J : It) (ds : List D) : Prop := ∀ (H : Hp) (φ : List Addr) (st : Sto) (i : Nat), Fw φ0 φ H0 H → Sr K H φ st →
  (∀ d, ds[i]? = some d → J.go i H ∧ ∀ x H', J.yld i H x H' → Same H H' ∧ Rl K H' φ d x) ∧ (ds.length = i → J.stop i H)
def tII (K : PySem.W.Frag) (env : Ev) (st : Sto) (r : List D × Sto) : TI := fun σ H R => ∃ φ, Er K H φ env σ ∧ Sr K H φ st ∧ ∀ J H' φ', Fw φ φ' H H' → Sr K H' φ' r.2 → Yl K φ' H' J r.1 → R J H'
structure II (K : PySem.W.Frag) (X : Cx) (tg iter : Expr) (f : Lf) : Prop where
  run : ∀ env st r, f env st = some r → PI X tg iter (tII K env st r)
theorem PI.imp {tg iter : Expr} {t t' : TI} (h : PI X tg iter t) (m : ∀ σ H R, t' σ H R → t σ H R) : PI X tg iter t' := fun pins s σ H R I q => h pins s σ H R I (m σ H R q)
variable {tg : Expr}
end
end L2

namespace L2
open PySem PySem.Spec PyProof.Rows
section
variable {K : PySem.W.Frag} {X : Cx} {pos : Pos} {tg e a b : Expr} {f : Ef} {af : Af}
theorem ii_seq (h : IE K X e f) (hK : X.K = K := by rfl) : II K X tg e (iItems f) := by
  subst hK
  refine ⟨fun env st r hr => ?_⟩
  simp only [iItems, Option.bind_eq_some_iff] at hr
  obtain ⟨⟨w, s1⟩, hy, hr⟩ := hr
  match w, hr with
  | .d (.tup ds), hr =>
    cases hr
    refine (pi_tup (h.run _ _ _ hy)).imp ?_
    rintro σ H R ⟨φ, hE, hS, q⟩
    refine ⟨φ, hE, hS, fun v H1 φ1 f1 s1 w1 => ?_⟩
    obtain ⟨a, vs, rfl, hq, hr⟩ := w1
    refine ⟨a, rfl, ⟨vs, hq⟩, q _ H1 φ1 f1 s1 fun H2 φ2 st2 i f2 s2 => ?_⟩
    have hq2 := hq.fw s1 f2
    have hr2 := hr.fw s1 f2
    refine ⟨fun d hd => ?_, fun hi => ⟨vs, hq2, by rw [← hr2.length]; exact Nat.le_of_eq hi⟩⟩
    obtain ⟨v, ev, rv⟩ := hr2.get hd
    refine ⟨⟨vs, v, hq2, ev⟩, fun x H' y => ?_⟩
    obtain ⟨rfl, y⟩ := y
    have := y vs hq2
    rw [ev] at this
    cases this
    exact ⟨Same.refl _, rv⟩
  | .d (.lst ds), hr =>
    cases hr
    refine (pi_list (h.run _ _ _ hy)).imp ?_
    rintro σ H R ⟨φ, hE, hS, q⟩
    refine ⟨φ, hE, hS, fun v H1 φ1 f1 s1 w1 => ?_⟩
    obtain ⟨a, vs, rfl, h0, hq, hr⟩ := w1
    refine ⟨a, rfl, ⟨vs, .inl hq⟩, q _ H1 φ1 f1 s1 fun H2 φ2 st2 i f2 s2 => ?_⟩
    have hq2 : SqL X.K H2 a vs := .inl (hq.fw f2 h0)
    have hr2 := hr.fw s1 f2
    refine ⟨fun d hd => ?_, fun hi => ⟨vs, hq2, by rw [← hr2.length]; exact Nat.le_of_eq hi⟩⟩
    obtain ⟨v, ev, rv⟩ := hr2.get hd
    refine ⟨⟨vs, v, hq2, ev⟩, fun x H' y => ?_⟩
    obtain ⟨rfl, y⟩ := y
    have := y vs hq2
    rw [ev] at this
    cases this
    exact ⟨Same.refl _, rv⟩
theorem rngD_get (lo : Int) (n i : Nat) : (rngD lo n)[i]? = if i < n then some (.int (lo + i)) else none := by
  unfold rngD
  rw [List.getElem?_map]
  by_cases h : i < n
  · rw [List.getElem?_range h, if_pos h]; rfl
  · rw [List.getElem?_eq_none (by simpa using h), if_neg h]; rfl
theorem rngD_len (lo : Int) (n : Nat) : (rngD lo n).length = n := by unfold rngD; rw [List.length_map, List.length_range]
theorem yl_rng (lo : Int) (n : Nat) {φ : List Addr} {H : Hp} : Yl K φ H (Itr lo n) (rngD lo n) := by
  intro H2 φ2 st2 i f2 s2
  refine ⟨fun d hd => ?_, fun hi => by rw [rngD_len] at hi; exact Nat.le_of_eq hi⟩
  rw [rngD_get] at hd
  by_cases h : i < n
  · rw [if_pos h] at hd
    cases hd
    refine ⟨h, fun x H' y => ?_⟩
    obtain ⟨rfl, rfl⟩ := y
    exact ⟨Same.refl _, rfl⟩
  · rw [if_neg h] at hd; cases hd
theorem ii_rng1 {p : Pos} (hg : Gl X "range") (hm : X.mg "range" = none) (ha : IA K X [a] af) (hs : notStar a = true := by rfl) : II K X tg (.Call (.Name "range" p) [a] [] pos) (iRng1D af) := by
  refine ⟨fun env st r hr => ?_⟩
  simp only [iRng1D, Option.bind_eq_some_iff] at hr
  obtain ⟨⟨ws, s1⟩, hy, hr⟩ := hr
  match ws, hr with
  | [.d (.int j)], hr =>
    have hr' : (if -(2 ^ 62) ≤ j ∧ j < 2 ^ 62 then some (rngD 0 j.toNat, s1) else none) = some r := hr
    by_cases hj : -(2 ^ 62) ≤ j ∧ j < 2 ^ 62
    · rw [if_pos hj] at hr'
      cases hr'
      refine (pi_range1 hg hm (ha.run _ _ _ hy) (star_one hs)).imp ?_
      rintro σ H R ⟨φ, hE, hS, q⟩
      refine ⟨φ, hE, hS, fun vs H1 φ1 f1 s1 w1 => ?_⟩
      obtain ⟨v, r, rfl, r1, rfl⟩ := w1
      exact ⟨j, by rw [show v = .int j from r1], hj.1, hj.2, q _ H1 φ1 f1 s1 (yl_rng 0 _)⟩
    · rw [if_neg hj] at hr'; cases hr'
theorem is_for {iter : Expr} {body : List Stmt} {fi : Lf} {g : Tg} {gb : Sf} (hi : II K X tg iter fi) (hg : PG X tg (tG K g)) (hb : ISs K X body gb) (hp : PassesOwn (model X.prog X.w) X.A X.env X.xe) (hc : X.calm = true := by rfl)
    (hs : ∀ x, foldedSetIterable iter X.env x = pure x := by intro _; rfl) : IS K X (.For tg iter body [] pos) (iFor fi g gb) := by
  refine ⟨fun env st r hr => ?_⟩
  simp only [iFor, Option.bind_eq_some_iff] at hr
  obtain ⟨⟨ds, s1⟩, hy, hr⟩ := hr
  refine (ps_for hp hc (hi.run _ _ _ hy) hg hb.any hs).imp ?_
  rintro D σ H ⟨φ, hE, hS, q⟩
  refine ⟨φ, hE, hS, fun J H1 φ1 f1 S1 yl => ?_⟩
  refine ⟨fun i m σ H => m = ds.length - i ∧ i ≤ ds.length ∧ ∃ env st φ2, Fw φ1 φ2 H1 H ∧ Er K H φ2 env σ ∧ Sr K H φ2 st ∧ forI g gb (ds.drop i) env st = some r, ⟨ds.length, by simp, Nat.zero_le _, env, s1, φ1, Fw.refl _ _, hE.fw hS f1, S1, hr⟩, ?_⟩
  rintro i m σ H2 ⟨rfl, hi, env2, st2, φ2, f2, e2, S2, h2⟩
  obtain ⟨y1, y2⟩ := yl H2 φ2 st2 i f2 S2
  by_cases hlt : i < ds.length
  · obtain ⟨go, yld⟩ := y1 ds[i] (List.getElem?_eq_getElem hlt)
    rw [List.drop_eq_getElem_cons hlt] at h2
    simp only [forI, Option.bind_eq_some_iff] at h2
    obtain ⟨e3, he3, r3, hr3, h3⟩ := h2
    refine .inr ⟨go, fun σ' H' => i + 1 ≤ ds.length ∧ ∃ env st φ2, Fw φ1 φ2 H1 H' ∧ Er K H' φ2 env σ' ∧ Sr K H' φ2 st ∧ forI g gb (ds.drop (i + 1)) env st = some r, fun σ' H' ⟨hn, p'⟩ => ⟨ds.length - (i + 1), by omega, rfl, hn, p'⟩, fun x H' y => ?_⟩
    obtain ⟨sm, rx⟩ := yld x H' y
    have S3 := S2.same sm
    have f3 := f2.trans (Fw.same (φ := φ2) sm)
    refine ⟨φ2, st2, env2, .d ds[i], e3, e2.fw S2 (Fw.same sm), S3, rx, he3, fun σ' e' _ => ?_⟩
    refine ⟨e3, st2, r3, hr3, φ2, e', S3, ?_⟩
    cases r3 with
    | nx e4 s4 => exact fun σ4 H4 φ4 f4 e4' s4' => ⟨hlt, e4, s4, φ4, f3.trans f4, e4', s4', h3⟩
    | ct e4 s4 => exact fun σ4 H4 φ4 f4 e4' s4' => ⟨hlt, e4, s4, φ4, f3.trans f4, e4', s4', h3⟩
    | bk e4 s4 =>
      cases h3
      exact fun σ4 H4 φ4 f4 e4' s4' => q σ4 H4 φ4 (f1.trans (f3.trans f4)) e4' s4'
    | rt w s4 =>
      cases h3
      exact fun v H4 φ4 f4 s4' w4 => q v H4 φ4 (f1.trans (f3.trans f4)) s4' w4
  · have hi' : i = ds.length := by omega
    subst hi'
    rw [List.drop_length] at h2
    cases h2
    exact .inl ⟨y2 rfl, q σ H2 φ2 (f1.trans f2) e2 S2⟩
structure ITs (K : PySem.W.Frag) (X : Cx) (ifs : List Expr) (t : Tf) : Prop where
  run : PTs X ifs (tAnyT K t)
theorem its_nil : ITs K X [] iYes := by
  refine ⟨fun pins s σ H Q I ⟨env, st, r, e, φ, hE, hS, q⟩ => ?_⟩
  cases e
  exact pts_nil pins s σ H Q I (q H φ (Fw.refl φ H) hS)
theorem its_one {c : Expr} {t : Tf} (h : IT K X c t) : ITs K X [c] t := ⟨pts_one h.any⟩
theorem Er.emb {H : Hp} {φ : List Addr} {env : Ev} {σ : St} (h : Er K H φ env σ) (k : Nat) (js : List Nat) : Er K H φ (embE k js env) (embOf k js σ) := by
  refine ⟨by unfold embE embOf; simp, fun i w e => ?_⟩
  unfold embE at e
  unfold embOf
  by_cases hi : i < k
  · rw [List.getElem?_append_left (by simpa using hi), List.getElem?_replicate, if_pos hi] at e
    cases e
  · rw [List.getElem?_append_right (by simpa using hi), List.length_replicate, List.getElem?_map, Option.map_eq_some_iff] at e
    obtain ⟨j, ej, e⟩ := e
    have ej2 : env[j]? = some (some w) := by
      rw [List.getD] at e
      cases q : env[j]? with
      | none => rw [q] at e; cases e
      | some o => rw [q] at e; rw [show o = some w from e]
    obtain ⟨v, ev, rv⟩ := h.at_ j w ej2
    refine ⟨v, ?_, rv⟩
    rw [List.getElem?_append_right (by simpa using hi), List.length_replicate, List.getElem?_map, ej]
    show some ((σ[j]?).getD none) = _
    rw [ev]; rfl
theorem Sub.stay {k : Nat} {js is : List Nat} {σ σ' : St} (h : Stay is (embOf k js σ) σ') (hi : ∀ j ∈ is, j < k) : Sub (embOf k js σ) σ' := by
  refine ⟨h.1.symm, fun j v e => ?_⟩
  by_cases hj : j ∈ is
  · have := hi j hj
    unfold embOf at e
    rw [List.getElem?_append_left (by simpa using this), List.getElem?_replicate, if_pos this] at e
    cases e
  · rw [h.2 j hj]; exact e
theorem lc_imp {k : Nat} {js : List Nat} {g : Tg} {tt : Tf} {te : Ef} {env : Ev} {st s1 : Sto} {ds : List D} {r : List D × Sto} (hgi : ∀ j ∈ idxs g, j < k) (hdl : ds.length ≤ 1000000) (hr' : lcI g tt te (embE k js env) ds s1 = some r) :
    ∀ σ H Q, tIL K env st r σ H Q → tLc (embOf k js) (tII K env st (ds, s1)) (tG K g) (tAnyT K tt) (tAnyE K te) σ H Q := by
  rintro σ H Q ⟨φ, hE, hS, q⟩
  refine ⟨φ, hE, hS, fun J H1 φ1 f1 S1 yl => ?_⟩
  have hE1 := (hE.fw hS f1).emb k js
  refine ⟨fun i m ys H2 => m = ds.length - i ∧ i ≤ ds.length ∧ ∃ st φ2 es r2, Fw φ1 φ2 H1 H2 ∧ Sr K H2 φ2 st ∧ Rls K H2 φ2 es ys ∧ es.length ≤ i ∧ lcI g tt te (embE k js env) (ds.drop i) st = some r2 ∧ r = (es ++ r2.1, r2.2), ⟨ds.length, by simp, Nat.zero_le _, s1, φ1, [], r, Fw.refl _ _, S1, rfl, Nat.le_refl _, hr', rfl⟩, ?_⟩
  rintro i m ys H2 ⟨rfl, hi, st2, φ2, es, r2, f2, S2, rl2, hle, h2, rfl⟩
  obtain ⟨y1, y2⟩ := yl H2 φ2 st2 i f2 S2
  by_cases hlt : i < ds.length
  · obtain ⟨go, yld⟩ := y1 ds[i] (List.getElem?_eq_getElem hlt)
    rw [List.drop_eq_getElem_cons hlt] at h2
    simp only [lcI, Option.bind_eq_some_iff] at h2
    obtain ⟨e3, he3, ⟨kb, s3⟩, hb3, h3⟩ := h2
    have hz : ys.length < sizeLine := by
      rw [← rl2.length]
      have : sizeLine = 16777216 := sizeLine_eq
      omega
    refine .inr ⟨go, hz, fun ys' H' => i + 1 ≤ ds.length ∧ ∃ st φ2 es' r2', Fw φ1 φ2 H1 H' ∧ Sr K H' φ2 st ∧ Rls K H' φ2 es' ys' ∧ es'.length ≤ i + 1 ∧ lcI g tt te (embE k js env) (ds.drop (i + 1)) st = some r2' ∧ (es ++ r2.1, r2.2) = (es' ++ r2'.1, r2'.2), fun ys' H' ⟨hn, p'⟩ => ⟨ds.length - (i + 1), by omega, rfl, hn, p'⟩, fun x H' y => ?_⟩
    obtain ⟨sm, rx⟩ := yld x H' y
    have S3 := S2.same sm
    have f3 := f2.trans (Fw.same (φ := φ2) sm)
    refine ⟨φ2, st2, embE k js env, .d ds[i], e3, hE1.fw S1 f3, S3, rx, he3, fun σ' e' stay => ⟨Sub.stay stay hgi, ?_⟩⟩
    refine ⟨e3, st2, _, hb3, φ2, e', S3, fun H4 φ4 f4 S4 => ?_⟩
    cases kb with
    | false =>
      rw [if_neg Bool.false_ne_true] at h3
      exact iteF ⟨hlt, s3, φ4, es, r2, f3.trans f4, S4, (rl2.fw S2 (Fw.same sm)).fw S3 f4, by omega, h3, rfl⟩
    | true =>
      simp only [if_true, Option.bind_eq_some_iff, Option.map_eq_some_iff] at h3
      obtain ⟨x5, hx5, zs, hzs, r5, hr5, rfl⟩ := h3
      refine iteT ⟨e3, s3, x5, hx5, φ4, e'.fw S3 f4, S4, fun v H5 φ5 f5 S5 w5 => ?_⟩
      obtain ⟨x5, s5⟩ := x5
      cases x5 with
      | h n => cases hzs
      | d z =>
        cases hzs
        refine ⟨hlt, s5, φ5, es ++ [z], r5, (f3.trans f4).trans f5, S5, (((rl2.fw S2 (Fw.same sm)).fw S3 f4).fw S4 f5).append ⟨v, [], rfl, w5, rfl⟩, by rw [List.length_append]; simp; omega, hr5, ?_⟩
        simp
  · have hi' : i = ds.length := by omega
    subst hi'
    rw [List.drop_length] at h2
    cases h2
    refine .inl ⟨y2 rfl, fun Dn hD => ?_⟩
    have := q Dn ys H2 φ2 (f1.trans f2) S2 hD
    exact this (by simpa using rl2)
theorem il_lc {scope : Scope} {Nc : List Str} {k : Nat} {js : List Nat} {elt iter : Expr} {ifs : List Expr} {fi : Lf} {g : Tg} {tt : Tf} {te : Ef}
    (S : LcScope X scope Nc (embOf k js)) (hc : X.calm = true) (hgi : ∀ j ∈ idxs g, j < k) (hi : II K X tg iter fi)
    (hg : ∀ cells s H C fp, PG (lcX X scope cells Nc s H C fp) tg (tG K g)) (ht : ∀ cells s H C fp, ITs K (lcX X scope cells Nc s H C fp) ifs tt) (he : ∀ cells s H C fp, IE K (lcX X scope cells Nc s H C fp) elt te)
    (hs : ∀ x, foldedSetIterable iter X.env x = pure x := by intro _; rfl) : IL K X (.ListComp elt [⟨tg, iter, ifs, 0⟩] scope pos) (iLc k js fi g tt te) := by
  refine ⟨fun env st r hr => ?_⟩
  simp only [iLc, Option.bind_eq_some_iff] at hr
  obtain ⟨⟨ds, s1⟩, hy, hr⟩ := hr
  have hr' : (if ds.length ≤ 1000000 then lcI g tt te (embE k js env) ds s1 else none) = some r := hr
  by_cases hdn : ¬ ds.length ≤ 1000000
  · rw [if_neg hdn] at hr'; cases hr'
  have hdl : ds.length ≤ 1000000 := by omega
  rw [if_pos hdl] at hr'
  refine (pe_lc S hc (hi.run _ _ _ hy) hg (fun cells s H C fp => (ht cells s H C fp).run) (fun cells s H C fp => (he cells s H C fp).any) hs).imp (lc_imp hgi hdl hr')
theorem is_lc {scope : Scope} {Nc : List Str} {k : Nat} {js : List Nat} {elt iter : Expr} {ifs : List Expr} {fi : Lf} {g : Tg} {tt : Tf} {te : Ef} {i0 : Nat} {x0 : Str} {py spos : Pos}
    (hN0 : X.N.Nodup) (hi0 : X.N[i0]? = some x0) (hx0 : Loc X.env.scope x0) (S : LcScope X scope Nc (embOf k js)) (hc : X.calm = true) (hgi : ∀ j ∈ idxs g, j < k) (hi : II K X tg iter fi)
    (hg : ∀ cells s H C fp, PG (lcX X scope cells Nc s H C fp) tg (tG K g)) (ht : ∀ cells s H C fp, ITs K (lcX X scope cells Nc s H C fp) ifs tt) (he : ∀ cells s H C fp, IE K (lcX X scope cells Nc s H C fp) elt te)
    (hsw : swapsWith (.ListComp elt [⟨tg, iter, ifs, 0⟩] scope pos) (some (.Name x0 py)) spos.line X.env = pure true := by rfl)
    (hf0 : X.fn x0 = true ∨ X.env.scope.names.lookup x0 = some .local := by first | exact .inl rfl | exact .inr rfl | assumption)
    (hs : ∀ x, foldedSetIterable iter X.env x = pure x := by intro _; rfl) : IS K X (.Assign [.Name x0 py] (.ListComp elt [⟨tg, iter, ifs, 0⟩] scope pos) spos) (iSet (.nm i0) (iPure (iLc k js fi g tt te))) ∧
      IS K X (.Assign [.Name x0 py] (.ListComp elt [⟨tg, iter, ifs, 0⟩] scope pos) spos) (iSet (.nm i0) (iNew (iLc k js fi g tt te))) := by
  have key : ∀ env st r0 r, iLc k js fi g tt te env st = some r → (∀ σ φ H (D : Ends), Er K H φ env σ → Sr K H φ st → EndD K φ H D r0 → ∀ a vs H1 φ', Fw φ φ' H H1 → Sr K H1 φ' r.2 → H1 a = none → Rls K H1 φ' r.1 vs → D.nx (σ.set i0 (some (.ref a))) (upd H1 a (.lst vs))) →
      PS X (.Assign [.Name x0 py] (.ListComp elt [⟨tg, iter, ifs, 0⟩] scope pos) spos) (tS K env st r0) := by
    intro env st r0 r hr h
    simp only [iLc, Option.bind_eq_some_iff] at hr
    obtain ⟨⟨ds, s1⟩, hy, hr⟩ := hr
    have hr' : (if ds.length ≤ 1000000 then lcI g tt te (embE k js env) ds s1 else none) = some r := hr
    by_cases hdn : ¬ ds.length ≤ 1000000
    · rw [if_neg hdn] at hr'; cases hr'
    have hdl : ds.length ≤ 1000000 := by omega
    rw [if_pos hdl] at hr'
    refine (ps_lc hN0 hi0 hx0 S hc (hi.run _ _ _ hy) hg (fun cells s H C fp => (ht cells s H C fp).run) (fun cells s H C fp => (he cells s H C fp).any) hsw hf0 hs).imp ?_
    rintro D σ H ⟨φ, hE, hS, q⟩
    exact lc_imp hgi hdl hr' σ H _ ⟨φ, hE, hS, h σ φ H D hE hS q⟩
  constructor
  · refine ⟨fun env st r hr => ?_⟩
    simp only [iSet, iPure, setT, Option.bind_eq_some_iff, Option.map_eq_some_iff] at hr
    obtain ⟨y, ⟨r2, hy, rfl⟩, e', ee, rfl⟩ := hr
    cases ee
    refine key _ _ _ _ hy fun σ φ H D hE hS q a vs H1 φ1 f1 s1 n1 w1 => ?_
    exact q _ _ φ1 (f1.trans (Fw.new n1)) ((((hE.fw hS f1).fw s1 (Fw.new n1))).set i0 (w := .d (.lst r2.1)) ⟨a, vs, rfl, s1.nin n1, .inl upd_same, w1.fw s1 (Fw.new n1)⟩) (s1.new n1)
  · refine ⟨fun env st r hr => ?_⟩
    simp only [iSet, iNew, setT, Option.bind_eq_some_iff, Option.map_eq_some_iff] at hr
    obtain ⟨y, ⟨r2, hy, rfl⟩, e', ee, rfl⟩ := hr
    cases ee
    refine key _ _ _ _ hy fun σ φ H D hE hS q a vs H1 φ1 f1 s1 n1 w1 => ?_
    exact q _ _ (φ1 ++ [a]) (f1.trans (Fw.more n1)) (((hE.fw hS f1).fw s1 (Fw.more n1)).set i0 (w := .h r2.2.length) ⟨a, by rw [← s1.len]; simp, rfl⟩) (s1.more n1 w1)
end
end L2

namespace L2
open PySem PySem.Spec PyProof.Rows
def runK (n k : Nat) (b : Sf) : Fn
  | ws, st => if ws.length = k then (b (ws.map some ++ List.replicate (n - k) none) st).bind fun r => match r with
  | .nx _ s => some (.d .non, s)
  | .rt w s => some (w, s)
  | _ => none
  else none
def finT (n : Nat) (w : W) (s : Sto) : Option (W × Sto) := match w with
  | .d x => some (.d x, s.take n)
  | .h m => if m < n then some (.h m, s.take n) else (s[m]?).map fun ds => (.d (.lst ds), s.take n)
def runT (n k : Nat) (b : Sf) : Fn
  | ws, st => if ws.length = k then (b (ws.map some ++ List.replicate (n - k) none) st).bind fun r => match r with
  | .nx _ s => some (.d .non, s.take st.length)
  | .rt w s => finT st.length w s
  | _ => none
  else none
section
variable {P : Program} {w : World} {K : PySem.W.Frag} {mg : Str → Option Value} {base : Heap}
theorem er_start {H : Hp} {φ : List Addr} {N : List Str} {k : Nat} : ∀ {ws : List W} {vs : List V}, Rws K H φ ws vs → ws.length = k → Er K H φ (ws.map some ++ List.replicate (N.length - k) none) (start N vs) := by
  intro ws vs r hk
  have hl := r.length
  refine ⟨by unfold start; simp; omega, fun i x e => ?_⟩
  unfold start
  by_cases hi : i < ws.length
  · rw [List.getElem?_append_left (by simpa using hi), List.getElem?_map, Option.map_eq_some_iff] at e
    obtain ⟨y, ey, e⟩ := e
    have : ∃ v, vs[i]? = some v ∧ Rw K H φ y v := by
      clear hk hl hi e
      induction ws generalizing vs i with
      | nil => simp at ey
      | cons w ws ih =>
        obtain ⟨v, r', rfl, r1, r2⟩ := r
        cases i with
        | zero => simp at ey; subst ey; exact ⟨v, rfl, r1⟩
        | succ i => simpa using ih r2 i (by simpa using ey)
    obtain ⟨v, ev, rv⟩ := this
    cases e
    refine ⟨v, ?_, rv⟩
    rw [List.getElem?_append_left (by rw [List.length_map, ← hl]; exact hi), List.getElem?_map, ev]; rfl
  · rw [List.getElem?_append_right (by simpa using hi)] at e
    have := List.mem_of_getElem? e
    have := (List.mem_replicate.mp this).2
    cases this
theorem fn_k {x qual : Str} {st : Stmt} {f : Addr} {fd : FuncData} {N ps : List Str} {k : Nat} {b : Sf} (F : Fun K x qual st f fd) (S : FnScope N ps (defScope st))
    (hb : ∀ (cdv : Value) (A : Around) (outer : List Env) (s : Shared) (H : Hp) (E : XK), Room k (A.deeper (envOfC qual (defScope st) s.heap.objs.size f cdv)) → ISs K (cxOf CX0 P w K mg base N qual (defScope st) f cdv A outer s H E).nox (defBody st) b) :
    FnOk P w K mg base CX0 (k + 1) f fd ps (spI K (runK N.length ps.length b)) := by
  refine F.ok S (fun vs H Q E h => ?_) fun cdv A outer s H vs Q E hr h => ?_
  · obtain ⟨φ, st, ws, r, e, rw, _⟩ := h
    rw [runK] at e
    by_cases hl : ws.length = ps.length
    · rw [← rw.length, hl]
    · rw [if_neg hl] at e; cases e
  · obtain ⟨φ, st', ws, r, e, rw, S', q⟩ := h
    rw [runK] at e
    by_cases hl : ws.length = ps.length
    · rw [if_pos hl] at e
      obtain ⟨fl, e1, e2⟩ := Option.bind_eq_some_iff.mp e
      refine ⟨_, (hb cdv A outer s H E hr).run _ _ _ e1, φ, er_start rw hl, S', ?_⟩
      cases fl with
      | nx e s => cases e2; exact fun σ' H' φ' f' e' s' => q .non H' φ' f' s' rfl
      | rt w s => cases e2; exact fun v H' φ' f' s' w' => q v H' φ' f' s' w'
      | bk e s => cases e2
      | ct e s => cases e2
    · rw [if_neg hl] at e; cases e
theorem Fw.less {φ φ' : List Addr} {H H' : Hp} (f : Fw φ φ' H H') : Fw φ φ H H' := ⟨⟨[], by simp, by simp⟩, f.keep, f.there⟩
theorem fn_t {x qual : Str} {st : Stmt} {f : Addr} {fd : FuncData} {N ps : List Str} {k : Nat} {b : Sf} (F : Fun K x qual st f fd) (S : FnScope N ps (defScope st))
    (hb : ∀ (cdv : Value) (A : Around) (outer : List Env) (s : Shared) (H : Hp) (E : XK), Room k (A.deeper (envOfC qual (defScope st) s.heap.objs.size f cdv)) → ISs K (cxOf CX0 P w K mg base N qual (defScope st) f cdv A outer s H E).nox (defBody st) b) :
    FnOk P w K mg base CX0 (k + 1) f fd ps (spI K (runT N.length ps.length b)) := by
  refine F.ok S (fun vs H Q E h => ?_) fun cdv A outer s H vs Q E hr h => ?_
  · obtain ⟨φ, st, ws, r, e, rw, _⟩ := h
    rw [runT] at e
    by_cases hl : ws.length = ps.length
    · rw [← rw.length, hl]
    · rw [if_neg hl] at e; cases e
  · obtain ⟨φ, st', ws, r, e, rw, S', q⟩ := h
    rw [runT] at e
    by_cases hl : ws.length = ps.length
    · rw [if_pos hl] at e
      obtain ⟨fl, e1, e2⟩ := Option.bind_eq_some_iff.mp e
      refine ⟨_, (hb cdv A outer s H E hr).run _ _ _ e1, φ, er_start rw hl, S', ?_⟩
      have less : ∀ {H' : Hp} {φ' : List Addr} {s' : Sto}, Fw φ φ' H H' → Sr K H' φ' s' → Sr K H' φ (s'.take st'.length) := fun {H' φ' s'} f' S2 => by
        obtain ⟨ψ, rfl, _⟩ := f'.ext
        rw [← S'.len]
        exact S2.less
      cases fl with
      | nx e s => cases e2; exact fun σ' H' φ' f' e' s' => q .non H' φ f'.less (less f' s') rfl
      | rt w s =>
        intro v H' φ' f' s' w'
        have e3 : finT st'.length w s = some r := e2
        obtain ⟨ψ, eψ, _⟩ := f'.ext
        cases w with
        | d x =>
          cases e3
          subst eψ
          exact q v H' φ f'.less (less f' s') (Rl.less w')
        | h m =>
          obtain ⟨a, ea, rfl⟩ := w'
          unfold finT at e3
          by_cases hm : m < st'.length
          · have e4 : some (W.h m, s.take st'.length) = some r := by
              have := e3
              simp only [hm, if_true] at this
              exact this
            cases e4
            subst eψ
            rw [List.getElem?_append_left (by rw [S'.len]; exact hm)] at ea
            exact q _ H' φ f'.less (less f' s') ⟨a, ea, rfl⟩
          · simp only [hm, if_false] at e3
            obtain ⟨ds, eds, rfl⟩ := Option.map_eq_some_iff.mp e3
            obtain ⟨vs, hv, rl⟩ := s'.at_ m a ds ea eds
            have hn : a ∉ φ := fun z => by
              obtain ⟨i, hi, ei⟩ := List.mem_iff_getElem.mp z
              have h1 : φ'[i]? = some a := by subst eψ; rw [List.getElem?_append_left hi, List.getElem?_eq_getElem hi, ei]
              obtain ⟨h2, h2'⟩ := List.getElem?_eq_some_iff.mp h1
              obtain ⟨h3, h3'⟩ := List.getElem?_eq_some_iff.mp ea
              have := (List.getElem_inj s'.nd).mp (h2'.trans h3'.symm)
              rw [S'.len] at hi
              omega
            subst eψ
            exact q _ H' φ f'.less (less f' s') ⟨a, vs, rfl, hn, .inl hv, rl.less⟩
      | bk e s => cases e2
      | ct e s => cases e2
    · rw [if_neg hl] at e; cases e
end
def flatD : D → Bool
  | .non => true
  | .bl _ => true
  | .int _ => true
  | .str _ => true
  | _ => false
def vOf : D → V
  | .bl b => .bl b
  | .int i => .int i
  | .str x => .str x
  | _ => .non
mutual
def eqD : D → D → Bool
  | .non, .non => true
  | .bl a, .bl b => a == b
  | .bl a, .int b => (if a then 1 else 0) == b
  | .int a, .bl b => a == (if b then 1 else 0)
  | .int a, .int b => a == b
  | .str a, .str b => a == b
  | .tup as, .tup bs => eqDs as bs
  | .lst as, .lst bs => eqDs as bs
  | _, _ => false
def eqDs : List D → List D → Bool
  | [], [] => true
  | a :: as, b :: bs => eqD a b && eqDs as bs
  | _, _ => false
end
def okD : Nat → D → Bool
  | _, .non => true
  | _, .bl _ => true
  | _, .int _ => true
  | _, .str _ => true
  | n + 1, .tup ds => ds.all (okD n)
  | n + 1, .lst ds => ds.all (okD n)
  | _, _ => false
def lsD (st : Sto) : W → Option (List D)
  | .d (.lst ds) => some ds
  | .h n => st[n]?
  | _ => none
def dAdd (st : Sto) (x y : W) : Option D := match x, y with
  | .d (.int i), .d (.int j) => some (.int (i + j))
  | .d (.tup a), .d (.tup b) => if a.length + b.length ≤ 1000000 then some (.tup (a ++ b)) else none
  | .d (.str a), .d (.str b) => if a.length + b.length ≤ 1000000 then some (.str (a ++ b)) else none
  | x, y => (lsD st x).bind fun a => (lsD st y).bind fun b => if a.length + b.length ≤ 1000000 then some (.lst (a ++ b)) else none
def dSub (_ : Sto) : W → W → Option D
  | .d (.int i), .d (.int j) => some (.int (i - j))
  | _, _ => none
instance (a b : Int) : Decidable (IntMulOk a b) := by unfold IntMulOk; infer_instance
def dMul (_ : Sto) : W → W → Option D
  | .d (.int i), .d (.int j) => if IntMulOk i j then some (.int (i * j)) else none
  | .d (.tup a), .d (.int k) => if a ≠ [] ∧ a.length ≤ 1000 ∧ 1 ≤ k ∧ k < 1000 then some (.tup (List.replicate k.toNat a).flatten) else none
  | .d (.lst a), .d (.int k) => if a.length ≤ 1000 ∧ -1000 ≤ k ∧ k < 1000 then some (.lst (List.replicate k.toNat a).flatten) else none
  | _, _ => none
def dFdiv (_ : Sto) : W → W → Option D
  | .d (.int i), .d (.int j) => if 0 < j ∧ j < 1073741824 then some (.int (i / j)) else none
  | _, _ => none
def dMod (_ : Sto) : W → W → Option D
  | .d (.int i), .d (.int j) => if 0 < j then some (.int (i % j)) else none
  | _, _ => none
instance (i j : Int) : Decidable (CPow i j) := by unfold CPow; infer_instance
def dPow (_ : Sto) : W → W → Option D
  | .d (.int i), .d (.int j) => if CPow i j then some (.int (i ^ j.toNat)) else none
  | _, _ => none
def dShl (_ : Sto) : W → W → Option D
  | .d (.int i), .d (.int j) => if CPow i j then some (.int (i * 2 ^ j.toNat)) else none
  | _, _ => none
def dLt (_ : Sto) : W → W → Option D
  | .d (.int i), .d (.int j) => some (.bl (decide (i < j)))
  | _, _ => none
def dGt (_ : Sto) : W → W → Option D
  | .d (.int i), .d (.int j) => some (.bl (decide (j < i)))
  | _, _ => none
def dGe (_ : Sto) : W → W → Option D
  | .d (.int i), .d (.int j) => some (.bl (decide (j ≤ i)))
  | _, _ => none
def inD (x : D) (ds : List D) : Bool := ds.any fun y => eqD y x
def dIn (st : Sto) (x y : W) : Option D := match x with
  | .d x => (seqD st y).bind fun ds => if flatD x = true ∧ ds.all flatD = true then some (.bl (inD x ds)) else none
  | _ => none
def dNotIn (st : Sto) (x y : W) : Option D := match x with
  | .d x => (seqD st y).bind fun ds => if flatD x = true ∧ ds.all flatD = true then some (.bl (!inD x ds)) else none
  | _ => none
section
variable {K : PySem.W.Frag} {X : Cx}
theorem rl_flat {H : Hp} {φ : List Addr} {d : D} {v : V} (h : flatD d = true) (r : Rl K H φ d v) : v = vOf d ∧ flatV v = true := by
  cases d with
  | non => cases (show v = .non from r); exact ⟨rfl, rfl⟩
  | bl b => cases (show v = .bl b from r); exact ⟨rfl, rfl⟩
  | int b => cases (show v = .int b from r); exact ⟨rfl, rfl⟩
  | str b => cases (show v = .str b from r); exact ⟨rfl, rfl⟩
  | _ => cases h
theorem eqV_vOf {a b : D} (ha : flatD a = true) (hb : flatD b = true) : eqV (vOf a) (vOf b) = eqD a b := by
  cases a <;> cases b <;> first | rfl | (cases ha; done) | (cases hb; done) | (simp [eqV, vOf, eqD]; done)
theorem rls_flat {H : Hp} {φ : List Addr} : ∀ {ds : List D} {vs : List V}, ds.all flatD = true → Rls K H φ ds vs → vs = ds.map vOf ∧ vs.all flatV = true
  | [], _, _, h => by cases h; exact ⟨rfl, rfl⟩
  | d :: ds, _, h, r => by
    rw [List.all_cons, Bool.and_eq_true] at h
    obtain ⟨v, vr, rfl, r1, r2⟩ := r
    obtain ⟨e1, e2⟩ := rl_flat h.1 r1
    obtain ⟨e3, e4⟩ := rls_flat h.2 r2
    exact ⟨by rw [e1, e3]; rfl, by rw [List.all_cons, e2, e4]; rfl⟩
theorem inV_vOf {x : D} (hx : flatD x = true) : ∀ {ds : List D}, ds.all flatD = true → inV (vOf x) (ds.map vOf) = inD x ds
  | [], _ => rfl
  | d :: ds, h => by
    rw [List.all_cons, Bool.and_eq_true] at h
    have ih := inV_vOf hx h.2
    unfold inV inD at ih ⊢
    rw [List.map_cons, List.any_cons, List.any_cons, ih, eqV_vOf h.1 hx]
/-- two whole numbers -/
theorem od_int {f : Value → Value → Sem Value} {g : Sto → W → W → Option D} (h : ∀ st x y d, g st x y = some d → ∃ i j, x = .d (.int i) ∧ y = .d (.int j) ∧ OpR X f (fun vx vy H Q => vx = .int i ∧ vy = .int j ∧ Q (vOf d) H) ∧ flatD d = true) : OpD K X f g := by
  refine ⟨fun st x y d hd => ?_⟩
  obtain ⟨i, j, rfl, rfl, ho, hf⟩ := h st x y d hd
  refine ho.imp ?_
  rintro vx vy H Q ⟨φ, S, r1, r2, q⟩
  refine ⟨r1, r2, q _ H (Same.refl H) ?_⟩
  cases d <;> first | rfl | cases hf
theorem od_sub : OpD K X (binaryOp .Sub) dSub := od_int fun st x y d h => by
  match x, y, h with
  | .d (.int i), .d (.int j), h => cases h; exact ⟨i, j, rfl, rfl, op_sub.imp fun vx vy H Q ⟨a, b, q⟩ => ⟨i, j, a, b, q⟩, rfl⟩
theorem od_lt : OpD K X (compareOp .Lt) dLt := od_int fun st x y d h => by
  match x, y, h with
  | .d (.int i), .d (.int j), h => cases h; exact ⟨i, j, rfl, rfl, op_lt.imp fun vx vy H Q ⟨a, b, q⟩ => ⟨i, j, a, b, q⟩, rfl⟩
theorem od_gt : OpD K X (compareOp .Gt) dGt := od_int fun st x y d h => by
  match x, y, h with
  | .d (.int i), .d (.int j), h => cases h; exact ⟨i, j, rfl, rfl, op_gt.imp fun vx vy H Q ⟨a, b, q⟩ => ⟨i, j, a, b, q⟩, rfl⟩
theorem od_ge : OpD K X (compareOp .GtE) dGe := od_int fun st x y d h => by
  match x, y, h with
  | .d (.int i), .d (.int j), h => cases h; exact ⟨i, j, rfl, rfl, op_ge.imp fun vx vy H Q ⟨a, b, q⟩ => ⟨i, j, a, b, q⟩, rfl⟩
theorem od_fdiv : OpD K X (binaryOp .FloorDiv) dFdiv := od_int fun st x y d h => by
  match x, y, h with
  | .d (.int i), .d (.int j), h =>
    simp only [dFdiv] at h
    split at h
    · rename_i hc
      cases h; exact ⟨i, j, rfl, rfl, op_fdiv.imp fun vx vy H Q ⟨a, b, q⟩ => ⟨i, j, a, b, hc, q⟩, rfl⟩
    · cases h
theorem od_mod : OpD K X (binaryOp .Mod) dMod := od_int fun st x y d h => by
  match x, y, h with
  | .d (.int i), .d (.int j), h =>
    simp only [dMod] at h
    split at h
    · rename_i hc
      cases h; exact ⟨i, j, rfl, rfl, op_mod.imp fun vx vy H Q ⟨a, b, q⟩ => ⟨i, j, a, b, hc, q⟩, rfl⟩
    · cases h
theorem od_pow : OpD K X (binaryOp .Pow) dPow := od_int fun st x y d h => by
  match x, y, h with
  | .d (.int i), .d (.int j), h =>
    simp only [dPow] at h
    split at h
    · rename_i hc
      cases h; exact ⟨i, j, rfl, rfl, op_pow.imp fun vx vy H Q ⟨a, b, q⟩ => ⟨i, j, a, b, hc, q⟩, rfl⟩
    · cases h
theorem od_shl : OpD K X (binaryOp .LShift) dShl := od_int fun st x y d h => by
  match x, y, h with
  | .d (.int i), .d (.int j), h =>
    simp only [dShl] at h
    split at h
    · rename_i hc
      cases h; exact ⟨i, j, rfl, rfl, op_shl.imp fun vx vy H Q ⟨a, b, q⟩ => ⟨i, j, a, b, hc, q⟩, rfl⟩
    · cases h
theorem od_in (hK : X.K = K := by rfl) : OpD K X (compareOp .In) dIn := by
  subst hK
  refine ⟨fun st x y d h => ?_⟩
  match x, h with
  | .d x, h =>
    simp only [dIn, Option.bind_eq_some_iff] at h
    obtain ⟨ds, hs, h⟩ := h
    split at h
    · rename_i hc
      cases h
      refine op_in_seq.imp ?_
      rintro vx vy H Q ⟨φ, S, r1, r2, q⟩
      obtain ⟨a, vs, rfl, h1, h2⟩ := seq_rel S r2 hs
      obtain ⟨e1, e2⟩ := rl_flat hc.1 r1
      obtain ⟨e3, e4⟩ := rls_flat hc.2 h2
      refine ⟨a, vs, rfl, h1, e2, e4, q _ H (Same.refl H) ?_⟩
      rw [e1, e3, inV_vOf hc.1 hc.2]; rfl
    · cases h
theorem od_notIn (hK : X.K = K := by rfl) : OpD K X (compareOp .NotIn) dNotIn := by
  subst hK
  refine ⟨fun st x y d h => ?_⟩
  match x, h with
  | .d x, h =>
    simp only [dNotIn, Option.bind_eq_some_iff] at h
    obtain ⟨ds, hs, h⟩ := h
    split at h
    · rename_i hc
      cases h
      refine op_notIn_seq.imp ?_
      rintro vx vy H Q ⟨φ, S, r1, r2, q⟩
      obtain ⟨a, vs, rfl, h1, h2⟩ := seq_rel S r2 hs
      obtain ⟨e1, e2⟩ := rl_flat hc.1 r1
      obtain ⟨e3, e4⟩ := rls_flat hc.2 h2
      refine ⟨a, vs, rfl, h1, e2, e4, q _ H (Same.refl H) ?_⟩
      rw [e1, e3, inV_vOf hc.1 hc.2]; rfl
    · cases h
end
end L2

namespace L2
open PySem PySem.Spec PyProof.Rows
section
variable {K : PySem.W.Frag} {X : Cx}
theorem op_catR : OpR X (binaryOp .Add) (fun x y H Q => ∃ l b xs zs, x = .ref l ∧ y = .ref b ∧ Rd H l (.lst xs) ∧ Rd H b (.lst zs) ∧ xs.length + zs.length ≤ sizeLine ∧ ∀ p, H p = none → Q (.ref p) (upd H p (.lst (xs ++ zs)))) := by
  intro pins s σ H x y v u Q I rx ry h
  obtain ⟨l, b, xs, zs, rfl, rfl, hH, hB, hz, q⟩ := h
  cases rx
  cases ry
  obtain ⟨z, its, n, r, e⟩ := hH.ok I.hok
  obtain ⟨z2, its2, n2, r2, e2⟩ := hB.ok I.hok
  have hl := r.length
  have hl2 := r2.length
  refine PySem.P.add_list e e2 ?_ (by rw [List.size_toArray, List.size_toArray]; omega)
  have ea : its.toArray ++ its2.toArray = (its ++ its2).toArray := by simp
  rw [ea]
  exact ⟨.ref _, _, I.lnew (t' := s.toks) (r.append r2) (by rw [List.length_append]; omega), rfl, q _ I.fresh⟩
theorem op_catTA : OpR X (binaryOp .Add) (fun x y H Q => ∃ a b xs ys, x = .ref a ∧ y = .ref b ∧ SqT X.K H a xs ∧ SqT X.K H b ys ∧ xs.length + ys.length ≤ sizeLine ∧
    (xs = [] → Q (.ref b) H) ∧ (ys = [] → Q (.ref a) H) ∧ ∀ p, H p = none → Q (.ref p) (upd H p (.tup (xs ++ ys)))) := by
  intro pins s σ H x y v u Q I rx ry h
  obtain ⟨a, b, xs, ys, rfl, rfl, ha, hb, hz, q0, q1, q2⟩ := h
  by_cases hx : xs = []
  · cases rx
    cases ry
    obtain ⟨its, r1, p1, _⟩ := I.tuple ha
    obtain ⟨its2, r2, p2, _⟩ := I.tuple hb
    obtain ⟨⟨cls, dd, data, sl⟩, ho, hc, n, hd⟩ := id p1
    obtain ⟨⟨cls2, dd2, data2, sl2⟩, ho2, hc2, n2, hd2⟩ := id p2
    simp only at hc hd hc2 hd2
    subst hc hd hc2 hd2
    exact concat_meets ⟨_, ho, rfl⟩ ⟨_, ho2, rfl⟩ noFill_tuple_add seq_tuple_add PySem.F.slot_tuple_add PySem.F.entry_tuple_add (PySem.F.args_tuple_add_2 _ _)
      (tuple_addW0 a b its.toArray its2.toArray n n2 dd dd2 sl sl2 (by simp [r1.nil_iff.mpr hx])) ⟨ho, ho2, .ref b, H, I, rfl, q0 hx⟩
  · exact op_catT pins s σ H _ _ v u Q I rx ry ⟨a, b, xs, ys, rfl, rfl, ha, hb, hx, hz, q1, fun _ p hp => q2 p hp⟩
theorem ls_rel {st : Sto} {H : Hp} {φ : List Addr} {w : W} {v : V} {ds : List D} (S : Sr K H φ st) (r : Rw K H φ w v) (e : lsD st w = some ds) : ∃ a vs, v = .ref a ∧ Rd H a (.lst vs) ∧ Rls K H φ ds vs := by
  cases w with
  | h n =>
    obtain ⟨a, ea, rfl⟩ := r
    obtain ⟨vs, q, rl⟩ := S.at_ n a ds ea e
    exact ⟨a, vs, rfl, .inl q, rl⟩
  | d x =>
    cases x with
    | lst es => cases e; obtain ⟨a, vs, rfl, h0, h1, h2⟩ := r; exact ⟨a, vs, rfl, h1, h2⟩
    | _ => cases e
theorem mil : (1000000 : Nat) ≤ sizeLine := by rw [sizeLine_eq]; decide
theorem od_add (hK : X.K = K := by rfl) : OpD K X (binaryOp .Add) dAdd := by
  subst hK
  refine ⟨fun st x y d h => ?_⟩
  have lists : (lsD st x).bind (fun a => (lsD st y).bind fun b => if a.length + b.length ≤ 1000000 then some (.lst (a ++ b)) else none) = some d → OpR X (binaryOp .Add) (rD X.K st x y d) := fun h => by
    simp only [Option.bind_eq_some_iff] at h
    obtain ⟨as, ha, bs, hb, h⟩ := h
    split at h
    · rename_i hl
      cases h
      refine op_catR.imp ?_
      rintro vx vy H Q ⟨φ, S, r1, r2, q⟩
      obtain ⟨a, us, rfl, h1, h2⟩ := ls_rel S r1 ha
      obtain ⟨b, vs, rfl, h3, h4⟩ := ls_rel S r2 hb
      refine ⟨a, b, us, vs, rfl, rfl, h1, h3, by rw [← h2.length, ← h4.length]; exact Nat.le_trans hl mil, fun p hp => q _ _ (Same.new hp _) ?_⟩
      exact ⟨p, _, rfl, S.nin hp, .inl upd_same, (h2.append h4).fw S (Fw.new hp)⟩
    · cases h
  match x, y, h with
  | .d (.int i), .d (.int j), h =>
    cases h
    refine op_add.imp ?_
    rintro vx vy H Q ⟨φ, S, r1, r2, q⟩
    exact ⟨i, j, r1, r2, q _ H (Same.refl H) rfl⟩
  | .d (.tup as), .d (.tup bs), h =>
    simp only [dAdd] at h
    split at h
    · rename_i hl
      cases h
      refine op_catTA.imp ?_
      rintro vx vy H Q ⟨φ, S, ⟨a, us, rfl, h1, h2⟩, ⟨b, vs, rfl, h3, h4⟩, q⟩
      refine ⟨a, b, us, vs, rfl, rfl, h1, h3, by rw [← h2.length, ← h4.length]; exact Nat.le_trans hl mil, fun e => ?_, fun e => ?_, fun p hp => ?_⟩
      · subst e
        have : as = [] := by cases as with | nil => rfl | cons _ _ => cases h2.length
        subst this
        exact q _ H (Same.refl H) ⟨b, vs, rfl, h3, h4⟩
      · subst e
        have : bs = [] := by cases bs with | nil => rfl | cons _ _ => cases h4.length
        subst this
        exact q _ H (Same.refl H) ⟨a, us, rfl, h1, by rw [List.append_nil]; exact h2⟩
      · exact q _ _ (Same.new hp _) ⟨p, _, rfl, SqT.of upd_same, (h2.append h4).fw S (Fw.new hp)⟩
    · cases h
  | .d (.str as), .d (.str bs), h =>
    simp only [dAdd] at h
    split at h
    · rename_i hl
      cases h
      refine op_add_str.imp ?_
      rintro vx vy H Q ⟨φ, S, r1, r2, q⟩
      exact ⟨as, bs, r1, r2, Nat.le_trans hl mil, q _ H (Same.refl H) rfl⟩
    · cases h
  | .d (.lst as), y, h => exact lists (by cases y with | h n => exact h | d y => cases y <;> exact h)
  | .h n, y, h => exact lists (by cases y with | h n => exact h | d y => cases y <;> exact h)
theorem op_repR : OpR X (binaryOp .Mult) (fun x y H Q => ∃ l k xs, x = .ref l ∧ y = .int k ∧ Rd H l (.lst xs) ∧ -(2 ^ 63) ≤ k ∧ k < 2 ^ 63 ∧ xs.length * k.toNat ≤ sizeLine ∧
  ∀ p, H p = none → Q (.ref p) (upd H p (.lst (List.replicate k.toNat xs).flatten))) := by
  intro pins s σ H x y v u Q I rx ry h
  obtain ⟨l, k, xs, rfl, rfl, hH, h1, h2, hz, q⟩ := h
  cases rx
  obtain ⟨t, rfl⟩ := ry
  obtain ⟨z, its, n, r, e⟩ := hH.ok I.hok
  have hl := r.length
  have hlen : its.toArray.size * k.toNat ≤ sizeLine := by rw [List.size_toArray, ← hl]; exact hz
  have hcap : ¬ its.toArray.size * k.toNat > (2 ^ 63 - 1) / 8 := by
    have : (sizeLine : Nat) ≤ (2 ^ 63 - 1) / 8 := by decide
    omega
  have hfit : ¬ (!Builtin.List.listFitsIndex k) = true := by
    rw [fitsIndex_both h1 h2]
    exact Bool.false_ne_true
  have hlong : ¬ Builtin.List.listTooLong (its.toArray.size * k.toNat) = true := by
    rw [notLongL hlen]
    exact Bool.false_ne_true
  have hnew : List.foldl (fun x1 x2 => x1 ++ x2) #[] (List.replicate (if its.toArray.isEmpty = true then 0 else k.toNat) its.toArray) = (List.replicate k.toNat its).flatten.toArray := by
    have f0 : ∀ m : Nat, List.foldl (fun x1 x2 => x1 ++ x2) #[] (List.replicate m its.toArray) = (List.replicate m its).flatten.toArray := fun m => by
      have := foldl_rep its m []
      rw [List.nil_append] at this
      exact this
    rw [f0]
    cases its with
    | nil => simp
    | cons a r' => rw [if_neg (by simp)]
  refine wpAny_binaryOp_repeat_ref (T := "list") (U := "int") (by decide) ⟨_, e, rfl⟩ (fun s' => typeIs_int s' k t) noFill_list_mul F.fills_int_mul F.slot_int_rmul repeat_list F.slot_int_index.lookup
    (call_meets F.slot_int_rmul (typeIs_int s k t) F.entry_int_rmul (F.args_int_rmul_2 _ _) (int___rmul___int_list k t l its.toArray n)
      ⟨e, rfl, ⟨_, e, rfl⟩, call_meets F.slot_list_mul ⟨_, e, rfl⟩ F.entry_list_mul (F.args_list_mul_2 _ _) (AutoListH.list___mul___list_int_3 l its.toArray n k t hfit hcap hlong) ⟨e, ?_⟩⟩)
  rw [hnew]
  exact ⟨.ref _, _, I.lnew (t' := s.toks) (r.rep k.toNat) (by rw [len_rep, Nat.mul_comm]; exact hz), rfl, q _ I.fresh⟩
theorem od_mul (hK : X.K = K := by rfl) : OpD K X (binaryOp .Mult) dMul := by
  subst hK
  refine ⟨fun st x y d h => ?_⟩
  match x, y, h with
  | .d (.int i), .d (.int j), h =>
    simp only [dMul] at h
    split at h
    · rename_i hl
      cases h
      refine op_mulG.imp ?_
      rintro vx vy H Q ⟨φ, S, r1, r2, q⟩
      exact ⟨i, j, r1, r2, hl, q _ H (Same.refl H) rfl⟩
    · cases h
  | .d (.tup as), .d (.int k), h =>
    simp only [dMul] at h
    split at h
    · rename_i hl
      cases h
      refine op_repT.imp ?_
      rintro vx vy H Q ⟨φ, S, ⟨a, us, rfl, h1, h2⟩, r2, q⟩
      have hne : us ≠ [] := by rintro rfl; cases as with | nil => exact hl.1 rfl | cons _ _ => cases h2.length
      refine ⟨a, k, us, rfl, r2, h1, hne, by rw [← h2.length]; exact hl.2.1, hl.2.2.1, hl.2.2.2, fun e => ?_, fun _ p hp => ?_⟩
      · subst e
        exact q _ H (Same.refl H) ⟨a, us, rfl, h1, by simpa using h2⟩
      · exact q _ _ (Same.new hp _) ⟨p, _, rfl, SqT.of upd_same, (h2.rep _).fw S (Fw.new hp)⟩
    · cases h
  | .d (.lst as), .d (.int k), h =>
    simp only [dMul] at h
    split at h
    · rename_i hl
      cases h
      refine op_repR.imp ?_
      rintro vx vy H Q ⟨φ, S, ⟨a, us, rfl, h0, h1, h2⟩, r2, q⟩
      refine ⟨a, k, us, rfl, r2, h1, by omega, by omega, ?_, fun p hp => ?_⟩
      · rw [← h2.length]
        have : as.length * k.toNat ≤ 1000 * 1000 := Nat.mul_le_mul hl.1 (by omega)
        exact Nat.le_trans this mil
      · exact q _ _ (Same.new hp _) ⟨p, _, rfl, S.nin hp, .inl upd_same, (h2.rep _).fw S (Fw.new hp)⟩
    · cases h
def dIx (st : Sto) (x y : W) : Option D := match x, y with
  | .d (.str z), .d (.int i) => if z.length ≤ 1000000 then (atI z.cps.toList i).map fun c => .str ⟨#[c]⟩ else none
  | x, .d (.int i) => (seqD st x).bind fun ds => atI ds i
  | _, _ => none
theorem at_rel {H : Hp} {φ : List Addr} {ds : List D} {vs : List V} {i : Int} {d : D} (r : Rls K H φ ds vs) (e : atI ds i = some d) : ∃ v, atI vs i = some v ∧ Rl K H φ d v := by
  unfold atI at e ⊢
  rw [← r.length]
  obtain ⟨j, e1, e2⟩ := Option.bind_eq_some_iff.mp e
  obtain ⟨v, ev, rv⟩ := r.get e2
  exact ⟨v, by rw [e1]; exact ev, rv⟩
theorem IxR.imp {r r' : R2} (h : IxR X r) (m : ∀ x y H Q, r' x y H Q → r x y H Q) : IxR X r' := fun value slice pins s σ H x y v u Q I rx ry q hs => h value slice pins s σ H x y v u Q I rx ry (m _ _ _ _ q) hs
theorem xd_ix (st : Sto) (x y : W) (d : D) (h : dIx st x y = some d) (hK : X.K = K) : IxR X (rD K st x y d) := by
  subst hK
  match y, h with
  | .d (.int i), h =>
    have seq : (seqD st x).bind (fun ds => atI ds i) = some d → IxR X (rD X.K st x (.d (.int i)) d) := fun h => by
      obtain ⟨ds, e1, e2⟩ := Option.bind_eq_some_iff.mp h
      refine ix_seq.imp ?_
      rintro vx vy H Q ⟨φ, S, r1, r2, q⟩
      obtain ⟨a, vs, rfl, h1, h2⟩ := seq_rel S r1 e1
      obtain ⟨v, ev, rv⟩ := at_rel h2 e2
      rcases h1 with h1 | h1
      · exact .inl ⟨a, vs, i, v, rfl, r2, h1, ev, q _ H (Same.refl H) rv⟩
      · exact .inr (.inl ⟨a, vs, i, v, rfl, r2, h1, ev, q _ H (Same.refl H) rv⟩)
    match x, h with
    | .d (.str z), h =>
      simp only [dIx] at h
      split at h
      · rename_i hl
        obtain ⟨c, e1, rfl⟩ := Option.map_eq_some_iff.mp h
        refine ix_seq.imp ?_
        rintro vx vy H Q ⟨φ, S, r1, r2, q⟩
        exact .inr (.inr ⟨z, i, c, r1, r2, Nat.le_trans hl mil, e1, q _ H (Same.refl H) rfl⟩)
      · cases h
    | .d (.tup z), h => exact seq h
    | .d (.lst z), h => exact seq h
    | .d (.scr z), h => exact seq h
    | .h z, h => exact seq h
  | .d .non, h => cases x with | h n => cases h | d x => cases x <;> cases h
  | .d (.bl _), h => cases x with | h n => cases h | d x => cases x <;> cases h
  | .d (.str _), h => cases x with | h n => cases h | d x => cases x <;> cases h
  | .d (.ty _), h => cases x with | h n => cases h | d x => cases x <;> cases h
  | .d (.scr _), h => cases x with | h n => cases h | d x => cases x <;> cases h
  | .d .dct, h => cases x with | h n => cases h | d x => cases x <;> cases h
  | .d (.tup _), h => cases x with | h n => cases h | d x => cases x <;> cases h
  | .d (.lst _), h => cases x with | h n => cases h | d x => cases x <;> cases h
  | .h _, h => cases x with | h n => cases h | d x => cases x <;> cases h
variable {e a b : Expr} {pos p2 : Pos} {f fa fb : Ef}
theorem ie_ix (ha : IE K X a fa) (hb : IE K X b fb) (hs : plainI b = true := by rfl) (hK : X.K = K := by rfl) : IE K X (.Subscript a b pos) (iOp dIx fa fb) := by
  refine ⟨fun env st r hr => ?_⟩
  simp only [iOp, Option.bind_eq_some_iff, Option.map_eq_some_iff] at hr
  obtain ⟨x, hx, y, hy, d, hd, rfl⟩ := hr
  exact (pe_ix (xd_ix _ _ _ _ hd hK) (ha.run _ _ _ hx) (hb.run _ _ _ hy) (ix_plain hs)).imp fun σ H Q h => tOp_of h
theorem PO.imp {e : Option Expr} {t t' : TO} (h : PO X e t) (m : ∀ σ H Q, t' σ H Q → t σ H Q) : PO X e t' := fun pins s σ H Q I q => h pins s σ H Q I (m σ H Q q)
theorem SlR.imp {r r' : V → Option Int → Option Int → Hp → VK → Prop} (h : SlR X r) (m : ∀ x l u H Q, r' x l u H Q → r x l u H Q) : SlR X r' := fun pins s σ H x v vl vu lo hi sl Q I rx hs pl pu q => h pins s σ H x v vl vu lo hi sl Q I rx hs pl pu (m _ _ _ _ _ q)
end
end L2

namespace L2
open PySem PySem.Spec PyProof.Rows
section
variable {K : PySem.W.Frag} {X : Cx} {pins : List (Addr × Obj)} {σ : St} {H : Hp} {s : Shared} {φ : List Addr} {st : Sto}
theorem eqDs_range : ∀ (xs ys : List D), ((List.range (min xs.length ys.length)).all (fun j => eqD (xs.getD j .non) (ys.getD j .non)) && xs.length == ys.length) = eqDs xs ys
  | [], [] => rfl
  | [], y :: ys => by simp [eqDs]
  | x :: xs, [] => by simp [eqDs]
  | x :: xs, y :: ys => by
    show ((List.range (min (xs.length + 1) (ys.length + 1))).all (fun j => eqD ((x :: xs).getD j .non) ((y :: ys).getD j .non)) && (xs.length + 1 == ys.length + 1)) = (eqD x y && eqDs xs ys)
    rw [show min (xs.length + 1) (ys.length + 1) = min xs.length ys.length + 1 by omega, all_range_succ, ← eqDs_range xs ys]
    have e : (xs.length + 1 == ys.length + 1) = (xs.length == ys.length) := by rw [Bool.eq_iff_iff]; simp
    rw [e, Bool.and_assoc]
    rfl
theorem eqDs_same_len {xs ys : List D} (h : xs.length = ys.length) : (List.range xs.length).all (fun j => eqD (xs.getD j .non) (ys.getD j .non)) = eqDs xs ys := by
  rw [← eqDs_range xs ys, ← h, Nat.min_self]; simp
theorem eqDs_len : ∀ {xs ys : List D}, xs.length ≠ ys.length → eqDs xs ys = false
  | [], [], h => absurd rfl h
  | [], _ :: _, _ => rfl
  | _ :: _, [], _ => rfl
  | x :: xs, y :: ys, h => by
    show (eqD x y && eqDs xs ys) = false
    rw [eqDs_len (by intro e; apply h; rw [List.length_cons, List.length_cons, e]), Bool.and_false]
theorem rdL_inj (I : Inv X pins σ H s) {a : Addr} {vs ws : List V} (h : Rd H a (.lst vs)) (h' : Rd H a (.lst ws)) : vs = ws := I.list_inj (.inl h) (.inl h')
/-- one value, two data: they are equal -/
theorem eqD_one (I : Inv X pins σ H s) : ∀ (n : Nat) {d e : D} {v : V}, Rl X.K H φ d v → Rl X.K H φ e v → okD n d = true → okD n e = true → eqD d e = true := by
  intro n
  induction n with
  | zero =>
    intro d e v r1 r2 o1 o2
    cases d <;> first | (cases o1; done) | skip
    all_goals (cases e <;> first | (cases o2; done) | skip)
    all_goals (first | rfl | (cases r1.symm.trans r2; done) | (cases r1.symm.trans r2; simp [eqD]))
  | succ n ih =>
    have lists : ∀ {ds es : List D} {vs : List V}, Rls X.K H φ ds vs → Rls X.K H φ es vs → (∀ d ∈ ds, okD n d = true) → (∀ d ∈ es, okD n d = true) → eqDs ds es = true := by
      intro ds
      induction ds with
      | nil =>
        intro es vs r1 r2 _ _
        cases r1
        cases es with
        | nil => rfl
        | cons e es => obtain ⟨_, _, q, _⟩ := r2; cases q
      | cons d ds ihd =>
        intro es vs r1 r2 o1 o2
        obtain ⟨v, r, rfl, a1, a2⟩ := r1
        cases es with
        | nil => cases r2
        | cons e es =>
          obtain ⟨v', r', q, b1, b2⟩ := r2
          cases q
          show (eqD d e && eqDs ds es) = true
          rw [ih a1 b1 (o1 d List.mem_cons_self) (o2 e List.mem_cons_self), ihd a2 b2 (fun x hx => o1 x (List.mem_cons_of_mem _ hx)) (fun x hx => o2 x (List.mem_cons_of_mem _ hx))]
          rfl
    intro d e v r1 r2 o1 o2
    cases d with
    | tup ds =>
      obtain ⟨a, vs, rfl, h1, h2⟩ := r1
      cases e with
      | tup es =>
        obtain ⟨b, us, q, h3, h4⟩ := r2
        cases q
        rw [I.tuple_inj h3 h1] at h4
        exact lists h2 h4 (List.all_eq_true.mp o1) (List.all_eq_true.mp o2)
      | lst es =>
        obtain ⟨b, us, q, _, h3, h4⟩ := r2
        cases q
        obtain ⟨_, _, p1, _⟩ := I.tuple h1
        obtain ⟨_, _, p2, _⟩ := I.list (.inl h3)
        exact absurd rfl (SeqAt.ne_of_list_tuple p2.isList p1)
      | _ => first | (cases o2; done) | (cases r2; done)
    | lst ds =>
      obtain ⟨a, vs, rfl, h0, h1, h2⟩ := r1
      cases e with
      | lst es =>
        obtain ⟨b, us, q, _, h3, h4⟩ := r2
        cases q
        rw [rdL_inj I h3 h1] at h4
        exact lists h2 h4 (List.all_eq_true.mp o1) (List.all_eq_true.mp o2)
      | tup es =>
        obtain ⟨b, us, q, h3, h4⟩ := r2
        cases q
        obtain ⟨_, _, p1, _⟩ := I.tuple h3
        obtain ⟨_, _, p2, _⟩ := I.list (.inl h1)
        exact absurd rfl (SeqAt.ne_of_list_tuple p2.isList p1)
      | _ => first | (cases o2; done) | (cases r2; done)
    | non => cases e <;> first | rfl | (cases o2; done) | (cases r1.symm.trans r2; done) | (cases r1; obtain ⟨_, _, q, _⟩ := r2; cases q)
    | bl b => cases e <;> first | (cases o2; done) | (cases r1.symm.trans r2; simp [eqD]; done) | (cases r1.symm.trans r2; done) | (cases r1; obtain ⟨_, _, q, _⟩ := r2; cases q)
    | int b => cases e <;> first | (cases o2; done) | (cases r1.symm.trans r2; simp [eqD]; done) | (cases r1.symm.trans r2; done) | (cases r1; obtain ⟨_, _, q, _⟩ := r2; cases q)
    | str b => cases e <;> first | (cases o2; done) | (cases r1.symm.trans r2; simp [eqD]; done) | (cases r1.symm.trans r2; done) | (cases r1; obtain ⟨_, _, q, _⟩ := r2; cases q)
    | ty b => cases o1
    | scr b => cases o1
    | dct => cases o1
theorem vals_getD {ds : List D} {vs : List V} {us : List Value} (r : Rls K H φ ds vs) (rv : Vals vs us) : ∀ (j : Nat) (h : j < us.length), ∃ v, Rl K H φ (ds.getD j .non) v ∧ RelV v us[j] ∧ ds.getD j .non ∈ ds := by
  intro j h
  obtain ⟨h', q⟩ := rv.at j h
  have hd : j < ds.length := by rw [r.length]; exact h'
  have e : ds[j]? = some ds[j] := List.getElem?_eq_getElem hd
  obtain ⟨v, ev, rl⟩ := r.get e
  rw [List.getElem?_eq_getElem h'] at ev
  cases ev
  refine ⟨_, ?_, q, ?_⟩
  · rw [List.getD, e]; exact rl
  · rw [List.getD, e]; exact List.getElem_mem hd
theorem eqAt_D (I : Inv X pins σ H s) : ∀ (n : Nat) {A : Around} {d e : D} {v u : V} {vv uu : Value}, Rl X.K H φ d v → Rl X.K H φ e u → RelV v vv → RelV u uu → okD n d = true → okD n e = true → A.units + n < cLine → SeqAt.EqAt A s vv uu (eqD d e) := by
  have flat : ∀ {A : Around} {d e : D} {v u : V} {vv uu : Value}, flatD d = true → flatD e = true → Rl X.K H φ d v → Rl X.K H φ e u → RelV v vv → RelV u uu → SeqAt.EqAt A s vv uu (eqD d e) := by
    intro A d e v u vv uu f1 f2 r1 r2 q1 q2
    obtain ⟨e1, g1⟩ := rl_flat f1 r1
    obtain ⟨e2, g2⟩ := rl_flat f2 r2
    rw [← eqV_vOf f1 f2, ← e1, ← e2]
    exact eqAt_V q1 q2 g1 g2
  intro n
  induction n with
  | zero =>
    intro A d e v u vv uu r1 r2 q1 q2 o1 o2 hu
    refine flat ?_ ?_ r1 r2 q1 q2
    · cases d <;> first | rfl | cases o1
    · cases e <;> first | rfl | cases o2
  | succ n ih =>
    intro A d e v u vv uu r1 r2 q1 q2 o1 o2 hu
    have hu0 : A.units < cLine := by omega
    have hu1 : A.in1.units + n < cLine := by show A.units + 1 + n < cLine; omega
    cases d with
    | tup ds =>
      obtain ⟨a, vs, rfl, h1, h2⟩ := r1
      cases q1
      obtain ⟨its, rv, p1, _⟩ := I.tuple h1
      cases e with
      | tup es =>
        obtain ⟨b, us, rfl, h3, h4⟩ := id r2
        cases q2
        by_cases hab : a = b
        · subst hab
          rw [eqD_one I (n + 1) (d := .tup ds) ⟨a, vs, rfl, h1, h2⟩ r2 o1 o2]
          exact SeqAt.EqAt.same _
        · obtain ⟨its2, rv2, p2, _⟩ := I.tuple h3
          have z := SeqAt.RcAt.tuples (A := A) (e := fun j => eqD (ds.getD j .non) (es.getD j .non)) p1 p2 hu0 fun j g1 g2 => by
            obtain ⟨v1, k1, k2, k3⟩ := vals_getD h2 rv j (by simpa using g1)
            obtain ⟨v2, k4, k5, k6⟩ := vals_getD h4 rv2 j (by simpa using g2)
            exact ih k1 k4 (by simpa using k2) (by simpa using k5) (List.all_eq_true.mp o1 _ k3) (List.all_eq_true.mp o2 _ k6) hu1
          have e1 : its.toArray.size = ds.length := by simp [← rv.length, h2.length]
          have e2 : its2.toArray.size = es.length := by simp [← rv2.length, h4.length]
          rw [e1, e2, eqDs_range] at z
          exact SeqAt.EqAt.of_refs hab z
      | lst es =>
        obtain ⟨b, us, rfl, _, h3, h4⟩ := id r2
        cases q2
        obtain ⟨its2, rv2, p2, _⟩ := I.list (.inl h3)
        exact SeqAt.EqAt.tuple_list p1 p2.isList hu0
      | non => cases r2; cases q2; exact SeqAt.EqAt.tuple_none p1 hu0
      | bl x => cases r2; cases q2; exact SeqAt.EqAt.tuple_bool x p1 hu0
      | int x => cases r2; obtain ⟨t, rfl⟩ := q2; exact SeqAt.EqAt.tuple_int x t p1 hu0
      | str x => cases r2; obtain ⟨t, rfl⟩ := q2; exact SeqAt.EqAt.tuple_str x t p1 hu0
      | ty _ => cases o2
      | scr _ => cases o2
      | dct => cases o2
    | lst ds =>
      obtain ⟨a, vs, rfl, h0, h1, h2⟩ := r1
      cases q1
      obtain ⟨its, rv, p1, _⟩ := I.list (.inl h1)
      cases e with
      | lst es =>
        obtain ⟨b, us, rfl, _, h3, h4⟩ := id r2
        cases q2
        by_cases hab : a = b
        · subst hab
          rw [eqD_one I (n + 1) (d := .lst ds) ⟨a, vs, rfl, h0, h1, h2⟩ r2 o1 o2]
          exact SeqAt.EqAt.same _
        · obtain ⟨its2, rv2, p2, _⟩ := I.list (.inl h3)
          have e1 : its.toArray.size = ds.length := by simp [← rv.length, h2.length]
          have e2 : its2.toArray.size = es.length := by simp [← rv2.length, h4.length]
          by_cases hl : ds.length = es.length
          · have z := SeqAt.RcAt.lists (A := A) (e := fun j => eqD (ds.getD j .non) (es.getD j .non)) p1.isList p2.isList (by rw [e1, e2, hl]) hu0 fun j g1 g2 => by
              obtain ⟨v1, k1, k2, k3⟩ := vals_getD h2 rv j (by simpa using g1)
              obtain ⟨v2, k4, k5, k6⟩ := vals_getD h4 rv2 j (by simpa using g2)
              exact ih k1 k4 (by simpa using k2) (by simpa using k5) (List.all_eq_true.mp o1 _ k3) (List.all_eq_true.mp o2 _ k6) hu1
            rw [e1, eqDs_same_len hl] at z
            exact SeqAt.EqAt.of_refs hab z
          · have z := SeqAt.RcAt.lists_lengths (A := A) p1.isList p2.isList (by rw [e1, e2]; simpa using hl) hu0
            show SeqAt.EqAt A s _ _ (eqDs ds es)
            rw [eqDs_len hl]
            exact SeqAt.EqAt.of_refs hab z
      | tup es =>
        obtain ⟨b, us, rfl, h3, h4⟩ := id r2
        cases q2
        obtain ⟨its2, rv2, p2, _⟩ := I.tuple h3
        exact SeqAt.EqAt.list_tuple p1.isList p2 hu0
      | non => cases r2; cases q2; exact SeqAt.EqAt.list_none p1.isList hu0
      | bl x => cases r2; cases q2; exact SeqAt.EqAt.list_bool x p1.isList hu0
      | int x => cases r2; obtain ⟨t, rfl⟩ := q2; exact SeqAt.EqAt.list_int x t p1.isList hu0
      | str x => cases r2; obtain ⟨t, rfl⟩ := q2; exact SeqAt.EqAt.list_str x t p1.isList hu0
      | ty _ => cases o2
      | scr _ => cases o2
      | dct => cases o2
    | non =>
      cases r1; cases q1
      cases e with
      | tup es => obtain ⟨b, us, rfl, h3, h4⟩ := r2; cases q2; obtain ⟨_, _, p2, _⟩ := I.tuple h3; exact SeqAt.EqAt.none_tuple p2 hu0
      | lst es => obtain ⟨b, us, rfl, _, h3, h4⟩ := r2; cases q2; obtain ⟨_, _, p2, _⟩ := I.list (.inl h3); exact SeqAt.EqAt.none_list p2.isList hu0
      | _ => first | (cases o2; done) | exact flat rfl rfl (d := .non) rfl r2 (v := .non) rfl q2
    | bl x =>
      cases r1; cases q1
      cases e with
      | tup es => obtain ⟨b, us, rfl, h3, h4⟩ := r2; cases q2; obtain ⟨_, _, p2, _⟩ := I.tuple h3; exact SeqAt.EqAt.bool_tuple x p2 hu0
      | lst es => obtain ⟨b, us, rfl, _, h3, h4⟩ := r2; cases q2; obtain ⟨_, _, p2, _⟩ := I.list (.inl h3); exact SeqAt.EqAt.bool_list x p2.isList hu0
      | _ => first | (cases o2; done) | exact flat rfl rfl (d := .bl x) rfl r2 (v := .bl x) rfl q2
    | int x =>
      cases r1; obtain ⟨t1, rfl⟩ := q1
      cases e with
      | tup es => obtain ⟨b, us, rfl, h3, h4⟩ := r2; cases q2; obtain ⟨_, _, p2, _⟩ := I.tuple h3; exact SeqAt.EqAt.int_tuple x t1 p2 hu0
      | lst es => obtain ⟨b, us, rfl, _, h3, h4⟩ := r2; cases q2; obtain ⟨_, _, p2, _⟩ := I.list (.inl h3); exact SeqAt.EqAt.int_list x t1 p2.isList hu0
      | _ => first | (cases o2; done) | exact flat rfl rfl (d := .int x) rfl r2 (v := .int x) ⟨t1, rfl⟩ q2
    | str x =>
      cases r1; obtain ⟨t1, rfl⟩ := q1
      cases e with
      | tup es => obtain ⟨b, us, rfl, h3, h4⟩ := r2; cases q2; obtain ⟨_, _, p2, _⟩ := I.tuple h3; exact SeqAt.EqAt.str_tuple x t1 p2 hu0
      | lst es => obtain ⟨b, us, rfl, _, h3, h4⟩ := r2; cases q2; obtain ⟨_, _, p2, _⟩ := I.list (.inl h3); exact SeqAt.EqAt.str_list x t1 p2.isList hu0
      | _ => first | (cases o2; done) | exact flat rfl rfl (d := .str x) rfl r2 (v := .str x) ⟨t1, rfl⟩ q2
    | ty _ => cases o1
    | scr _ => cases o1
    | dct => cases o1
theorem rcAt_V {A : Around} {y x : V} {u v : Value} (ry : RelV y u) (rx : RelV x v) (fy : flatV y = true) (fx : flatV x = true) : SeqAt.RcAt A s u v (eqV y x) := by
  cases y with
  | non =>
    cases ry
    cases x with
    | non => cases rx; exact SeqAt.RcAt.none_none
    | bl b => cases rx; exact SeqAt.RcAt.none_bool b
    | int b => obtain ⟨t, rfl⟩ := rx; exact SeqAt.RcAt.none_int b t
    | str b => obtain ⟨t, rfl⟩ := rx; exact SeqAt.RcAt.none_str b t
    | _ => cases fx
  | bl a =>
    cases ry
    cases x with
    | non => cases rx; exact SeqAt.RcAt.bool_none a
    | bl b => cases rx; exact SeqAt.RcAt.bool_bool a b
    | int b => obtain ⟨t, rfl⟩ := rx; exact SeqAt.RcAt.bool_int a b t
    | str b => obtain ⟨t, rfl⟩ := rx; exact SeqAt.RcAt.bool_str a b t
    | _ => cases fx
  | int a =>
    obtain ⟨t', rfl⟩ := ry
    cases x with
    | non => cases rx; exact SeqAt.RcAt.int_none a t'
    | bl b => cases rx; exact SeqAt.RcAt.int_bool a t' b
    | int b => obtain ⟨t, rfl⟩ := rx; exact SeqAt.RcAt.int_int a t' b t
    | str b => obtain ⟨t, rfl⟩ := rx; exact SeqAt.RcAt.int_str a t' b t
    | _ => cases fx
  | str a =>
    obtain ⟨t', rfl⟩ := ry
    cases x with
    | non => cases rx; exact SeqAt.RcAt.str_none a t'
    | bl b => cases rx; exact SeqAt.RcAt.str_bool a t' b
    | int b => obtain ⟨t, rfl⟩ := rx; exact SeqAt.RcAt.str_int a t' b t
    | str b => obtain ⟨t, rfl⟩ := rx; exact SeqAt.RcAt.str_str a t' b t
    | _ => cases fx
  | _ => cases fy
theorem rcNeAt_V {A : Around} {y x : V} {u v : Value} (ry : RelV y u) (rx : RelV x v) (fy : flatV y = true) (fx : flatV x = true) : SeqAt.RcNeAt A s u v (!eqV y x) := by
  cases y with
  | non =>
    cases ry
    cases x with
    | non => cases rx; exact SeqAt.RcNeAt.none_none
    | bl b => cases rx; exact SeqAt.RcNeAt.none_bool b
    | int b => obtain ⟨t, rfl⟩ := rx; exact SeqAt.RcNeAt.none_int b t
    | str b => obtain ⟨t, rfl⟩ := rx; exact SeqAt.RcNeAt.none_str b t
    | _ => cases fx
  | bl a =>
    cases ry
    cases x with
    | non => cases rx; exact SeqAt.RcNeAt.bool_none a
    | bl b => cases rx; exact SeqAt.RcNeAt.bool_bool a b
    | int b => obtain ⟨t, rfl⟩ := rx; exact SeqAt.RcNeAt.bool_int a b t
    | str b => obtain ⟨t, rfl⟩ := rx; exact SeqAt.RcNeAt.bool_str a b t
    | _ => cases fx
  | int a =>
    obtain ⟨t', rfl⟩ := ry
    cases x with
    | non => cases rx; exact SeqAt.RcNeAt.int_none a t'
    | bl b => cases rx; exact SeqAt.RcNeAt.int_bool a t' b
    | int b => obtain ⟨t, rfl⟩ := rx; exact SeqAt.RcNeAt.int_int a t' b t
    | str b => obtain ⟨t, rfl⟩ := rx; exact SeqAt.RcNeAt.int_str a t' b t
    | _ => cases fx
  | str a =>
    obtain ⟨t', rfl⟩ := ry
    cases x with
    | non => cases rx; exact SeqAt.RcNeAt.str_none a t'
    | bl b => cases rx; exact SeqAt.RcNeAt.str_bool a t' b
    | int b => obtain ⟨t, rfl⟩ := rx; exact SeqAt.RcNeAt.str_int a t' b t
    | str b => obtain ⟨t, rfl⟩ := rx; exact SeqAt.RcNeAt.str_str a t' b t
    | _ => cases fx
  | _ => cases fy
/-- what may stand on either side of == -/
inductive Kin where
  | fl (d : D) | tp (ds : List D) | ls (ds : List D)
def kinOf (st : Sto) : W → Option Kin
  | .d (.tup ds) => some (.tp ds)
  | .d (.lst ds) => some (.ls ds)
  | .h n => (st[n]?).map .ls
  | .d .non => some (.fl .non)
  | .d (.bl b) => some (.fl (.bl b))
  | .d (.int i) => some (.fl (.int i))
  | .d (.str x) => some (.fl (.str x))
  | _ => none
def eqK : Kin → Kin → Option Bool
  | .fl a, .fl b => some (eqD a b)
  | .tp as, .tp bs => if (as.isEmpty || bs.isEmpty) = true then some (as.isEmpty && bs.isEmpty) else if as.all (okD 60) = true ∧ bs.all (okD 60) = true then some (eqDs as bs) else none
  | .ls as, .ls bs => if as.length = bs.length then (if as.all (okD 60) = true ∧ bs.all (okD 60) = true then some (eqDs as bs) else none) else some false
  | .fl _, .tp _ => some false
  | .tp _, .fl _ => some false
  | .fl _, .ls _ => some false
  | .ls _, .fl _ => some false
  | .tp _, .ls _ => some false
  | .ls _, .tp _ => some false
def dEq (st : Sto) (x y : W) : Option D := (kinOf st x).bind fun a => (kinOf st y).bind fun b => (eqK a b).map fun k => .bl k
def dNe (st : Sto) (x y : W) : Option D := (kinOf st x).bind fun a => (kinOf st y).bind fun b => (eqK a b).map fun k => .bl (!k)
def RKin (K : PySem.W.Frag) (H : Hp) (φ : List Addr) : Kin → V → Prop
  | .fl d, v => flatD d = true ∧ Rl K H φ d v
  | .tp ds, v => ∃ a vs, v = .ref a ∧ SqT K H a vs ∧ Rls K H φ ds vs
  | .ls ds, v => ∃ a vs, v = .ref a ∧ Rd H a (.lst vs) ∧ Rls K H φ ds vs
theorem kin_rel {w : W} {v : V} {k : Kin} (S : Sr K H φ st) (r : Rw K H φ w v) (e : kinOf st w = some k) : RKin K H φ k v := by
  cases w with
  | h n =>
    obtain ⟨a, ea, rfl⟩ := r
    obtain ⟨ds, e1, rfl⟩ := Option.map_eq_some_iff.mp e
    obtain ⟨vs, q, rl⟩ := S.at_ n a ds ea e1
    exact ⟨a, vs, rfl, .inl q, rl⟩
  | d x =>
    cases x with
    | tup es => cases e; exact r
    | lst es => cases e; obtain ⟨a, vs, rfl, h0, h1, h2⟩ := r; exact ⟨a, vs, rfl, h1, h2⟩
    | non => cases e; exact ⟨rfl, r⟩
    | bl b => cases e; exact ⟨rfl, r⟩
    | int b => cases e; exact ⟨rfl, r⟩
    | str b => cases e; exact ⟨rfl, r⟩
    | _ => cases e
theorem in1_61 {A : Around} {k : Nat} (hr : Room k A) : A.in1.units + 60 < cLine := by
  have := hr.un
  show A.units + 1 + 60 < cLine
  omega
theorem rcAt_K {k : Nat} (hr : Room k X.A) (I : Inv X pins σ H s) {a b : Kin} {v u : V} {vv uu : Value} {r : Bool} (ra : RKin X.K H φ a v) (rb : RKin X.K H φ b u) (qa : RelV v vv) (qb : RelV u uu) (e : eqK a b = some r) :
    SeqAt.RcAt X.A s vv uu r ∧ SeqAt.RcNeAt X.A s vv uu (!r) := by
  have hu0 := hr.units0
  have items : ∀ {ds es : List D} {vs us : List V} {its its2 : List Value}, Rls X.K H φ ds vs → Rls X.K H φ es us → Vals vs its → Vals us its2 → ds.all (okD 60) = true → es.all (okD 60) = true →
      ∀ j (g1 : j < its.toArray.size) (g2 : j < its2.toArray.size), SeqAt.EqAt X.A.in1 s its.toArray[j] its2.toArray[j] (eqD (ds.getD j .non) (es.getD j .non)) := by
    intro ds es vs us its its2 h2 h4 rv rv2 o1 o2 j g1 g2
    obtain ⟨v1, k1, k2, k3⟩ := vals_getD h2 rv j (by simpa using g1)
    obtain ⟨v2, k4, k5, k6⟩ := vals_getD h4 rv2 j (by simpa using g2)
    exact eqAt_D I 60 k1 k4 (by simpa using k2) (by simpa using k5) (List.all_eq_true.mp o1 _ k3) (List.all_eq_true.mp o2 _ k6) (in1_61 hr)
  match a, b, e with
  | .fl d, .fl d', e =>
    cases e
    obtain ⟨f1, r1⟩ := ra
    obtain ⟨f2, r2⟩ := rb
    obtain ⟨e1, g1⟩ := rl_flat f1 r1
    obtain ⟨e2, g2⟩ := rl_flat f2 r2
    rw [← eqV_vOf f1 f2, ← e1, ← e2]
    exact ⟨rcAt_V qa qb g1 g2, rcNeAt_V qa qb g1 g2⟩
  | .tp ds, .tp es, e =>
    simp only [eqK] at e
    obtain ⟨a, vs, rfl, h1, h2⟩ := ra
    obtain ⟨b, us, rfl, h3, h4⟩ := rb
    cases qa; cases qb
    obtain ⟨its, rv, p1, _⟩ := I.tuple h1
    obtain ⟨its2, rv2, p2, _⟩ := I.tuple h3
    have e1 : its.toArray.size = ds.length := by simp [← rv.length, h2.length]
    have e2 : its2.toArray.size = es.length := by simp [← rv2.length, h4.length]
    split at e
    · rename_i hc
      cases e
      have hv : ∀ j (g1 : j < its.toArray.size) (g2 : j < its2.toArray.size), SeqAt.EqAt X.A.in1 s its.toArray[j] its2.toArray[j] (eqD (ds.getD j .non) (es.getD j .non)) := fun j g1 g2 => by
        rw [e1] at g1
        rw [e2] at g2
        rw [Bool.or_eq_true] at hc
        rcases hc with hc | hc
        · rw [List.isEmpty_iff.mp hc] at g1; exact absurd g1 (Nat.not_lt_zero _)
        · rw [List.isEmpty_iff.mp hc] at g2; exact absurd g2 (Nat.not_lt_zero _)
      have z := SeqAt.RcAt.tuples (A := X.A) p1 p2 hu0 hv
      have z' := SeqAt.RcNeAt.tuples (A := X.A) p1 p2 hu0 hv
      rw [e1, e2, eqDs_range] at z z'
      have e3 : eqDs ds es = (ds.isEmpty && es.isEmpty) := by
        cases ds with
        | nil => cases es <;> rfl
        | cons _ _ => cases es with
          | nil => rfl
          | cons _ _ => cases hc
      rw [e3] at z z'
      exact ⟨z, z'⟩
    · split at e
      · rename_i hc
        cases e
        have z := SeqAt.RcAt.tuples (A := X.A) p1 p2 hu0 (items h2 h4 rv rv2 hc.1 hc.2)
        have z' := SeqAt.RcNeAt.tuples (A := X.A) p1 p2 hu0 (items h2 h4 rv rv2 hc.1 hc.2)
        rw [e1, e2, eqDs_range] at z z'
        exact ⟨z, z'⟩
      · cases e
  | .ls ds, .ls es, e =>
    simp only [eqK] at e
    obtain ⟨a, vs, rfl, h1, h2⟩ := ra
    obtain ⟨b, us, rfl, h3, h4⟩ := rb
    cases qa; cases qb
    obtain ⟨its, rv, p1, _⟩ := I.list (.inl h1)
    obtain ⟨its2, rv2, p2, _⟩ := I.list (.inl h3)
    have e1 : its.toArray.size = ds.length := by simp [← rv.length, h2.length]
    have e2 : its2.toArray.size = es.length := by simp [← rv2.length, h4.length]
    split at e
    · rename_i hl
      split at e
      · rename_i hc
        cases e
        have z := SeqAt.RcAt.lists (A := X.A) p1.isList p2.isList (by rw [e1, e2, hl]) hu0 (items h2 h4 rv rv2 hc.1 hc.2)
        have z' := SeqAt.RcNeAt.lists (A := X.A) p1.isList p2.isList (by rw [e1, e2, hl]) hu0 (items h2 h4 rv rv2 hc.1 hc.2)
        rw [e1, eqDs_same_len hl] at z z'
        exact ⟨z, z'⟩
      · cases e
    · rename_i hl
      cases e
      have z := SeqAt.RcAt.lists_lengths (A := X.A) p1.isList p2.isList (by rw [e1, e2]; simpa using hl) hu0
      have z' := SeqAt.RcNeAt.lists_lengths (A := X.A) p1.isList p2.isList (by rw [e1, e2]; simpa using hl) hu0
      exact ⟨z, z'⟩
  | .fl d, .tp es, e =>
    cases e
    obtain ⟨f1, r1⟩ := ra
    obtain ⟨b, us, rfl, h3, h4⟩ := rb
    cases qb
    obtain ⟨its2, rv2, p2, _⟩ := I.tuple h3
    cases d with
    | non => cases r1; cases qa; exact ⟨SeqAt.RcAt.none_tuple p2 hu0, SeqAt.RcNeAt.none_tuple p2 hu0⟩
    | bl x => cases r1; cases qa; exact ⟨SeqAt.RcAt.bool_tuple x p2 hu0, SeqAt.RcNeAt.bool_tuple x p2 hu0⟩
    | int x => cases r1; obtain ⟨t, rfl⟩ := qa; exact ⟨SeqAt.RcAt.int_tuple x t p2 hu0, SeqAt.RcNeAt.int_tuple x t p2 hu0⟩
    | str x => cases r1; obtain ⟨t, rfl⟩ := qa; exact ⟨SeqAt.RcAt.str_tuple x t p2 hu0, SeqAt.RcNeAt.str_tuple x t p2 hu0⟩
    | _ => cases f1
  | .tp es, .fl d, e =>
    cases e
    obtain ⟨f1, r1⟩ := rb
    obtain ⟨b, us, rfl, h3, h4⟩ := ra
    cases qa
    obtain ⟨its2, rv2, p2, _⟩ := I.tuple h3
    cases d with
    | non => cases r1; cases qb; exact ⟨SeqAt.RcAt.tuple_none p2 hu0, SeqAt.RcNeAt.tuple_none p2 hu0⟩
    | bl x => cases r1; cases qb; exact ⟨SeqAt.RcAt.tuple_bool x p2 hu0, SeqAt.RcNeAt.tuple_bool x p2 hu0⟩
    | int x => cases r1; obtain ⟨t, rfl⟩ := qb; exact ⟨SeqAt.RcAt.tuple_int x t p2 hu0, SeqAt.RcNeAt.tuple_int x t p2 hu0⟩
    | str x => cases r1; obtain ⟨t, rfl⟩ := qb; exact ⟨SeqAt.RcAt.tuple_str x t p2 hu0, SeqAt.RcNeAt.tuple_str x t p2 hu0⟩
    | _ => cases f1
  | .fl d, .ls es, e =>
    cases e
    obtain ⟨f1, r1⟩ := ra
    obtain ⟨b, us, rfl, h3, h4⟩ := rb
    cases qb
    obtain ⟨its2, rv2, p2, _⟩ := I.list (.inl h3)
    replace p2 := p2.isList
    cases d with
    | non => cases r1; cases qa; exact ⟨SeqAt.RcAt.none_list p2 hu0, SeqAt.RcNeAt.none_list p2 hu0⟩
    | bl x => cases r1; cases qa; exact ⟨SeqAt.RcAt.bool_list x p2 hu0, SeqAt.RcNeAt.bool_list x p2 hu0⟩
    | int x => cases r1; obtain ⟨t, rfl⟩ := qa; exact ⟨SeqAt.RcAt.int_list x t p2 hu0, SeqAt.RcNeAt.int_list x t p2 hu0⟩
    | str x => cases r1; obtain ⟨t, rfl⟩ := qa; exact ⟨SeqAt.RcAt.str_list x t p2 hu0, SeqAt.RcNeAt.str_list x t p2 hu0⟩
    | _ => cases f1
  | .ls es, .fl d, e =>
    cases e
    obtain ⟨f1, r1⟩ := rb
    obtain ⟨b, us, rfl, h3, h4⟩ := ra
    cases qa
    obtain ⟨its2, rv2, p2, _⟩ := I.list (.inl h3)
    replace p2 := p2.isList
    cases d with
    | non => cases r1; cases qb; exact ⟨SeqAt.RcAt.list_none p2 hu0, SeqAt.RcNeAt.list_none p2 hu0⟩
    | bl x => cases r1; cases qb; exact ⟨SeqAt.RcAt.list_bool x p2 hu0, SeqAt.RcNeAt.list_bool x p2 hu0⟩
    | int x => cases r1; obtain ⟨t, rfl⟩ := qb; exact ⟨SeqAt.RcAt.list_int x t p2 hu0, SeqAt.RcNeAt.list_int x t p2 hu0⟩
    | str x => cases r1; obtain ⟨t, rfl⟩ := qb; exact ⟨SeqAt.RcAt.list_str x t p2 hu0, SeqAt.RcNeAt.list_str x t p2 hu0⟩
    | _ => cases f1
  | .tp ds, .ls es, e =>
    cases e
    obtain ⟨a, vs, rfl, h1, h2⟩ := ra
    obtain ⟨b, us, rfl, h3, h4⟩ := rb
    cases qa; cases qb
    obtain ⟨its, rv, p1, _⟩ := I.tuple h1
    obtain ⟨its2, rv2, p2, _⟩ := I.list (.inl h3)
    exact ⟨SeqAt.RcAt.tuple_list p1 p2.isList hu0, SeqAt.RcNeAt.tuple_list p1 p2.isList hu0⟩
  | .ls ds, .tp es, e =>
    cases e
    obtain ⟨a, vs, rfl, h1, h2⟩ := ra
    obtain ⟨b, us, rfl, h3, h4⟩ := rb
    cases qa; cases qb
    obtain ⟨its, rv, p1, _⟩ := I.list (.inl h1)
    obtain ⟨its2, rv2, p2, _⟩ := I.tuple h3
    exact ⟨SeqAt.RcAt.list_tuple p1.isList p2 hu0, SeqAt.RcNeAt.list_tuple p1.isList p2 hu0⟩
theorem od_eq {k : Nat} (hr : Room k X.A) (hK : X.K = K := by rfl) : OpD K X (compareOp .Eq) dEq := by
  subst hK
  refine ⟨fun st x y d h => ?_⟩
  simp only [dEq, Option.bind_eq_some_iff, Option.map_eq_some_iff] at h
  obtain ⟨a, ha, b, hb, r, e, rfl⟩ := h
  intro pins s σ H vx vy v u Q I rx ry q
  obtain ⟨φ, S, r1, r2, q⟩ := q
  exact (rcAt_K hr I (kin_rel S r1 ha) (kin_rel S r2 hb) rx ry e).1 _ _ _ _ ⟨.bl r, H, I, rfl, q _ H (Same.refl H) rfl⟩
theorem od_ne {k : Nat} (hr : Room k X.A) (hK : X.K = K := by rfl) : OpD K X (compareOp .NotEq) dNe := by
  subst hK
  refine ⟨fun st x y d h => ?_⟩
  simp only [dNe, Option.bind_eq_some_iff, Option.map_eq_some_iff] at h
  obtain ⟨a, ha, b, hb, r, e, rfl⟩ := h
  intro pins s σ H vx vy v u Q I rx ry q
  obtain ⟨φ, S, r1, r2, q⟩ := q
  exact (rcAt_K hr I (kin_rel S r1 ha) (kin_rel S r2 hb) rx ry e).2 _ _ _ _ ⟨.bl (!r), H, I, rfl, q _ H (Same.refl H) rfl⟩
end
end L2

namespace L2
open PySem PySem.Spec PyProof.Rows
section
variable {K : PySem.W.Frag} {X : Cx}
/-! built-ins on data -/
def intsOf : List D → Option (List Int)
  | [] => some []
  | .int i :: ds => (intsOf ds).map fun r => i :: r
  | _ => none
theorem intsOf_some : ∀ {ds : List D} {ns : List Int}, intsOf ds = some ns → ds = ns.map D.int
  | [], _, h => by cases h; rfl
  | .int i :: ds, _, h => by
    obtain ⟨r, e, rfl⟩ := Option.map_eq_some_iff.mp h
    rw [intsOf_some e]; rfl
  | .non :: _, _, h => by cases h
  | .bl _ :: _, _, h => by cases h
  | .str _ :: _, _, h => by cases h
  | .ty _ :: _, _, h => by cases h
  | .dct :: _, _, h => by cases h
  | .scr _ :: _, _, h => by cases h
  | .tup _ :: _, _, h => by cases h
  | .lst _ :: _, _, h => by cases h
theorem intsOf_map : ∀ (ns : List Int), intsOf (ns.map D.int) = some ns
  | [] => rfl
  | n :: ns => by rw [List.map_cons, intsOf, intsOf_map ns]; rfl
def dLen (st : Sto) : List W → Option D
  | [.d (.str x)] => if x.length ≤ 1000000 then some (.int x.length) else none
  | [w] => (seqD st w).map fun ds => .int ds.length
  | _ => none
def dAbs (_ : Sto) : List W → Option D
  | [.d (.int i)] => some (.int (if i < 0 then -i else i))
  | _ => none
def dMin (_ : Sto) : List W → Option D
  | [.d (.int i), .d (.int j)] => some (.int (if j < i then j else i))
  | _ => none
def dInt (_ : Sto) : List W → Option D
  | [.d (.int i)] => some (.int i)
  | [.d (.bl k)] => some (.int (if k then 1 else 0))
  | _ => none
def dSum (_ : Sto) : List W → Option D
  | [.d (.lst ds)] => (intsOf ds).map fun ns => .int ns.sum
  | _ => none
def dTup (st : Sto) : List W → Option D
  | [w] => (seqD st w).map fun ds => .tup ds
  | _ => none
def plainD : D → Bool
  | .non => true
  | .int i => decide (0 ≤ i) && decide (i < 1024)
  | _ => false
def dRepr (_ : Sto) : List W → Option D
  | [.d (.int i)] => if i.natAbs.log2 < 1920 then some (.str (toString i)) else none
  | [.d (.tup ds)] => if ds.all plainD = true ∧ ds.length ≤ 1000 then some (.str (shownT (ds.map vOf))) else none
  | _ => none
theorem cd_len (hK : X.K = K := by rfl) : CallD K X (.builtin "len") dLen := by
  subst hK
  refine ⟨fun st ws d h => ?_⟩
  have seq : ∀ w, (seqD st w).map (fun ds => D.int ds.length) = some d → CallR X (.builtin "len") (rCD X.K st [w] d) := fun w h => by
    obtain ⟨ds, e, rfl⟩ := Option.map_eq_some_iff.mp h
    refine call_len_seq.imp ?_
    rintro vs H Q ⟨φ, S, ⟨v, r, rfl, r1, rfl⟩, q⟩
    obtain ⟨a, us, rfl, h1, h2⟩ := seq_rel S r1 e
    exact ⟨a, us, rfl, h1, q _ H (Same.refl H) (by rw [← h2.length]; rfl)⟩
  cases ws with
  | nil => cases h
  | cons w tl =>
    cases tl with
    | cons _ _ =>
      cases w with
      | h n => cases h
      | d x => cases x <;> cases h
    | nil =>
      cases w with
      | h n => exact seq _ h
      | d x =>
        cases x with
        | str x =>
          simp only [dLen] at h
          split at h
          · rename_i hl
            cases h
            refine call_len_str.imp ?_
            rintro vs H Q ⟨φ, S, ⟨v, r, rfl, r1, rfl⟩, q⟩
            exact ⟨x, by rw [show v = .str x from r1], Nat.le_trans hl mil, q _ H (Same.refl H) rfl⟩
          · cases h
        | tup ds => exact seq _ h
        | lst ds => exact seq _ h
        | scr ds => exact seq _ h
        | _ => cases h
theorem cd_abs : CallD K X (.builtin "abs") dAbs := by
  refine ⟨fun st ws d h => ?_⟩
  match ws, h with
  | [.d (.int i)], h =>
    cases h
    refine call_abs.imp ?_
    rintro vs H Q ⟨φ, S, ⟨v, r, rfl, r1, rfl⟩, q⟩
    exact ⟨i, by rw [show v = .int i from r1], q _ H (Same.refl H) rfl⟩
theorem cd_min (hc : X.calm = true := by rfl) : CallD K X (.builtin "min") dMin := by
  refine ⟨fun st ws d h => ?_⟩
  match ws, h with
  | [.d (.int i), .d (.int j)], h =>
    cases h
    refine (call_min2 hc).imp ?_
    rintro vs H Q ⟨φ, S, ⟨v, r, rfl, r1, u, r', rfl, r2, rfl⟩, q⟩
    exact ⟨i, j, by rw [show v = .int i from r1, show u = .int j from r2], q _ H (Same.refl H) rfl⟩
theorem cd_int : CallD K X (.type "int") dInt := by
  refine ⟨fun st ws d h => ?_⟩
  match ws, h with
  | [.d (.int i)], h =>
    cases h
    refine call_int1.imp ?_
    rintro vs H Q ⟨φ, S, ⟨v, r, rfl, r1, rfl⟩, q⟩
    exact .inl ⟨i, by rw [show v = .int i from r1], q _ H (Same.refl H) rfl⟩
  | [.d (.bl i)], h =>
    cases h
    refine call_int1.imp ?_
    rintro vs H Q ⟨φ, S, ⟨v, r, rfl, r1, rfl⟩, q⟩
    exact .inr ⟨i, by rw [show v = .bl i from r1], q _ H (Same.refl H) rfl⟩
theorem cd_sum (hc : X.calm = true := by rfl) (hK : X.K = K := by rfl) : CallD K X (.builtin "sum") dSum := by
  subst hK
  refine ⟨fun st ws d h => ?_⟩
  match ws, h with
  | [.d (.lst ds)], h =>
    obtain ⟨ns, e, rfl⟩ := Option.map_eq_some_iff.mp h
    cases intsOf_some e
    refine (k_sum (K := X.K) hc rfl).imp ?_
    rintro vs H Q ⟨φ, S, ⟨v, r, rfl, ⟨a, us, rfl, h0, h1, h2⟩, rfl⟩, q⟩
    cases h2.ints
    exact ⟨a, ns, rfl, .inl h1, q _ H (Same.refl H) rfl⟩
theorem cd_tup (hK : X.K = K := by rfl) : CallD K X (.type "tuple") dTup := by
  subst hK
  refine ⟨fun st ws d h => ?_⟩
  match ws, h with
  | [w], h =>
    obtain ⟨ds, e, rfl⟩ := Option.map_eq_some_iff.mp h
    refine call_tuple_of.imp ?_
    rintro vs H Q ⟨φ, S, ⟨v, r, rfl, r1, rfl⟩, q⟩
    obtain ⟨a, us, rfl, h1, h2⟩ := seq_rel S r1 e
    refine ⟨a, us, rfl, ?_⟩
    rcases h1 with h1 | h1
    · exact .inl ⟨h1, fun l hl => q _ _ (Same.new hl _) ⟨l, us, rfl, SqT.of upd_same, h2.fw S (Fw.new hl)⟩⟩
    · exact .inr ⟨h1, q _ H (Same.refl H) ⟨a, us, rfl, h1, h2⟩⟩
theorem plain_vs {H : Hp} {φ : List Addr} : ∀ {ds : List D} {vs : List V}, ds.all plainD = true → Rls K H φ ds vs → vs = ds.map vOf ∧ ∀ y ∈ vs, Plain1 y
  | [], _, _, h => by cases h; exact ⟨rfl, fun _ h => nomatch h⟩
  | d :: ds, _, h, r => by
    rw [List.all_cons, Bool.and_eq_true] at h
    obtain ⟨v, vr, rfl, r1, r2⟩ := r
    obtain ⟨e3, e4⟩ := plain_vs h.2 r2
    have hv : v = vOf d ∧ Plain1 v := by
      cases d with
      | non => cases (show v = .non from r1); exact ⟨rfl, .inl rfl⟩
      | int i =>
        cases (show v = .int i from r1)
        have := h.1
        simp [plainD] at this
        exact ⟨rfl, .inr ⟨i, rfl, this.1, this.2⟩⟩
      | _ => cases h.1
    refine ⟨by rw [hv.1, e3]; rfl, fun y hy => ?_⟩
    rcases List.mem_cons.mp hy with z | z
    · rw [z]; exact hv.2
    · exact e4 y z
theorem cd_repr {k : Nat} (hr : Room k X.A) (hK : X.K = K := by rfl) : CallD K X (.builtin "repr") dRepr := by
  subst hK
  refine ⟨fun st ws d h => ?_⟩
  match ws, h with
  | [.d (.int i)], h =>
    simp only [dRepr] at h
    split at h
    · rename_i hl
      cases h
      refine (k_repr (K := X.K) hr rfl).imp ?_
      rintro vs H Q ⟨φ, S, ⟨v, r, rfl, r1, rfl⟩, q⟩
      exact .inl ⟨i, by rw [show v = .int i from r1], hl, q _ H (Same.refl H) rfl⟩
    · cases h
  | [.d (.tup ds)], h =>
    simp only [dRepr] at h
    split at h
    · rename_i hl
      cases h
      refine (k_repr (K := X.K) hr rfl).imp ?_
      rintro vs H Q ⟨φ, S, ⟨v, r, rfl, ⟨a, us, rfl, h1, h2⟩, rfl⟩, q⟩
      obtain ⟨e1, e2⟩ := plain_vs hl.1 h2
      exact .inr ⟨a, us, rfl, h1, e2, by rw [← h2.length]; exact hl.2, q _ H (Same.refl H) (by rw [e1]; rfl)⟩
    · cases h
variable {e a b : Expr} {es : List Expr} {pos : Pos} {f fa fb : Ef} {af : Af}
def iMeth (g : List D → List W → Option (D × List D)) (o : Ef) (a : Af) : Ef
  | env, st => (o env st).bind fun x => (a env x.2).bind fun r => match x.1 with
  | .h n => (r.2[n]?).bind fun ds => (g ds r.1).map fun y => (.d y.1, r.2.set n y.2)
  | _ => none
def mAppend (ds : List D) : List W → Option (D × List D)
  | [.d x] => if ds.length < 1000000 then some (.non, ds ++ [x]) else none
  | _ => none
theorem im_gen {name : Str} {id : String} {apos : Pos} {rr : V → List V → Hp → VK → Prop} {g : List D → List W → Option (D × List D)} (slot : Slot "list" name id) (hty : typeOf (.builtin id) = pure (.type "method_descriptor")) (hm : MtR X id rr)
    (hg : ∀ (H : Hp) (φ : List Addr) (st : Sto) (n : Nat) (ad : Addr) (ds : List D) (vs : List V) (ws : List W) (us : List V) (y : D × List D) (Q : VK), Sr K H φ st → φ[n]? = some ad → st[n]? = some ds → H ad = some (.lst vs) → Rls K H φ ds vs → Rws K H φ ws us → g ds ws = some y →
      (∀ v vs', Rl K H φ y.1 v → Rls K H φ y.2 vs' → (∀ b, v ≠ .ref b) → Q v (upd H ad (.lst vs'))) → rr (.ref ad) us H Q)
    (hfl : ∀ ds ws y, g ds ws = some y → flatD y.1 = true)
    (ho : IE K X a fa) (ha : IA K X (e :: es) af) (hbase : attributeBase a name X.env (eval a X.env) = eval a X.env := by rfl)
    (hall : (e :: es).all notStar = true := by rfl) (hfl30 : (e :: es).length < 30 := by decide) (hline : (apos.endLine == pos.line) = true := by rfl) (hK : X.K = K := by rfl) :
    IE K X (.Call (.Attribute a name apos) (e :: es) [] pos) (iMeth g fa af) := by
  subst hK
  have hall2 : notStar e = true ∧ es.all notStar = true := by rw [List.all_cons, Bool.and_eq_true] at hall; exact hall
  refine ⟨fun env st r hr => ?_⟩
  simp only [iMeth, Option.bind_eq_some_iff] at hr
  obtain ⟨⟨x, s1⟩, hx, ⟨ws, s2⟩, hw, hr⟩ := hr
  cases x with
  | d x => cases hr
  | h n =>
    simp only [Option.bind_eq_some_iff, Option.map_eq_some_iff] at hr
    obtain ⟨ds, hds, y, hy, rfl⟩ := hr
    refine (pe_bm PySem.F.plainAttrs_list slot hty hm (ho.run _ _ _ hx) (ha.run _ _ _ hw) hbase (star_few hall hfl30) hline (star_cons hall2.1) (star_any hall2.2)).imp ?_
    rintro σ H Q ⟨φ, hE, hS, q⟩
    refine ⟨φ, hE, hS, fun v H1 φ1 f1 S1 w1 => ?_⟩
    obtain ⟨ad, ea, rfl⟩ := w1
    have hn : n < s1.length := by rw [← S1.len]; exact (List.getElem?_eq_some_iff.mp ea).1
    obtain ⟨vs1, hv1, _⟩ := S1.at_ n ad _ ea (List.getElem?_eq_getElem hn)
    refine ⟨.inl ⟨rfl, vs1, SqL.of hv1⟩, φ1, hE.fw hS f1, S1, fun us H2 φ2 f2 S2 w2 => ?_⟩
    have ea2 := f2.get ea
    obtain ⟨vs2, hv2, rl2⟩ := S2.at_ n ad ds ea2 hds
    refine hg H2 φ2 s2 n ad ds vs2 ws us y _ S2 ea2 hds hv2 rl2 w2 hy fun v vs' r1 r2 hb => ?_
    obtain ⟨f3, S3⟩ := S2.put ea2 r2
    exact q v _ φ2 ((f1.trans f2).trans f3) S3 (r1.fw S2 f3)
theorem ie_append {apos : Pos} (ho : IE K X a fa) (ha : IA K X (e :: es) af) (hbase : attributeBase a "append" X.env (eval a X.env) = eval a X.env := by rfl)
    (hall : (e :: es).all notStar = true := by rfl) (hfl30 : (e :: es).length < 30 := by decide) (hline : (apos.endLine == pos.line) = true := by rfl) (hK : X.K = K := by rfl) :
    IE K X (.Call (.Attribute a "append" apos) (e :: es) [] pos) (iMeth mAppend fa af) := by
  refine im_gen PySem.F.slot_list_append PySem.F.type_list_append mt_append (fun H φ st n ad ds vs ws us y Q S ea eds hv rl rw hy q => ?_) (fun ds ws y h => ?_) ho ha hbase hall hfl30 hline hK
  · match ws, hy with
    | [.d x], hy =>
      simp only [mAppend] at hy
      split at hy
      · rename_i hl
        cases hy
        obtain ⟨v, r, rfl, r1, rfl⟩ := rw
        exact ⟨ad, vs, v, rfl, rfl, hv, by rw [← rl.length]; exact Nat.lt_of_lt_of_le hl mil, q _ _ rfl (rl.append ⟨v, [], rfl, r1, rfl⟩) (fun b z => nomatch z)⟩
      · cases hy
  · match ws, h with
    | [.d x], h =>
      simp only [mAppend] at h
      split at h
      · cases h; rfl
      · cases h
end
end L2

namespace L2
open PySem PySem.Spec PyProof.Rows
section
variable {K : PySem.W.Frag} {X : Cx} {e a b : Expr} {es : List Expr} {pos : Pos} {f fa fb : Ef} {af : Af}
theorem sorted_uniq {xs ys : List Int} (p : xs.Perm ys) (h1 : xs.Pairwise (· ≤ ·)) (h2 : ys.Pairwise (· ≤ ·)) : xs = ys :=
  List.Perm.eq_of_pairwise (fun a b _ _ h1 h2 => Int.le_antisymm h1 h2) h1 h2 p
theorem vals_of_ints : ∀ {ns : List Int} {us : List Value}, IntsAre us ns → Vals (ns.map V.int) us
  | _, _, .nil => .nil
  | _, _, .cons n t h => .cons ⟨t, rfl⟩ (vals_of_ints h)
theorem spI_law {H : Hp} {ad : Addr} {ns : List Int} {m : Fn} (hO : Only H) (hS : SqL K H ad (ns.map V.int)) (h : ∃ st, m [.d (.scr ns)] [] = some (.d (.bl true), st)) : spI K m [.ref ad] H (fun v _ => v = .bl true) fun _ _ _ => False := by
  obtain ⟨st, h⟩ := h
  refine ⟨[], [], [.d (.scr ns)], _, h, ⟨_, [], rfl, ⟨ad, rfl, ?_⟩, rfl⟩, ⟨List.nodup_nil, rfl, fun n a ds e => by simp at e⟩, fun v H' φ' _ _ r => r⟩
  rcases hS with (h | h) | h
  · rcases hO ad with z | ⟨o, xs, z⟩
    · rw [h] at z; cases z
    · rw [h] at z; cases z
  · exact .inl h
  · exact .inr h
end
end L2

namespace L2
open PySem
theorem forI_inv {g : Tg} {body : Sf} : ∀ {ds : List D} (Pv : Nat → Ev → Sto → Prop) {env : Ev} {st : Sto}, Pv 0 env st →
    (∀ i d env st, ds[i]? = some d → Pv i env st → ∃ e1 e2 s2, setT g (.d d) env = some e1 ∧ (body e1 st = some (.nx e2 s2) ∨ body e1 st = some (.ct e2 s2)) ∧ Pv (i + 1) e2 s2) →
    ∃ env' st', forI g body ds env st = some (.nx env' st') ∧ Pv ds.length env' st'
  | [], Pv, env, st, h0, _ => ⟨env, st, rfl, h0⟩
  | d :: ds, Pv, env, st, h0, hs => by
    obtain ⟨e1, e2, s2, h1, h2, h3⟩ := hs 0 d env st rfl h0
    obtain ⟨e', s', h4, h5⟩ := forI_inv (g := g) (body := body) (ds := ds) (fun i => Pv (i + 1)) h3 fun i d' env' st' hd p => hs (i + 1) d' env' st' (by simpa using hd) p
    refine ⟨e', s', ?_, h5⟩
    unfold forI
    rw [h1, Option.bind_some]
    rcases h2 with h2 | h2 <;> (rw [h2, Option.bind_some]; exact h4)
theorem lcI_filt {g : Tg} {tt : Tf} {te : Ef} {env : Ev} {st : Sto} (p : D → Bool) (F : D → D) : ∀ {ds : List D}, (∀ d ∈ ds, ∃ e1, setT g (.d d) env = some e1 ∧ tt e1 st = some (p d, st) ∧ (p d = true → te e1 st = some (.d (F d), st))) →
    lcI g tt te env ds st = some ((ds.filter p).map F, st)
  | [], _ => rfl
  | d :: ds, h => by
    obtain ⟨e1, h1, h2, h3⟩ := h d List.mem_cons_self
    have ih := lcI_filt (g := g) (tt := tt) (te := te) (env := env) (st := st) p F (ds := ds) fun x hx => h x (List.mem_cons_of_mem _ hx)
    unfold lcI
    rw [h1, Option.bind_some, h2, Option.bind_some]
    cases hp : p d with
    | true => rw [if_pos rfl, h3 hp, Option.bind_some, ih, List.filter_cons, hp]; rfl
    | false => rw [if_neg Bool.false_ne_true, ih, List.filter_cons, hp]; rfl
theorem lcI_map {g : Tg} {te : Ef} {env : Ev} {st : Sto} (F : D → D) {ds : List D} (h : ∀ d ∈ ds, ∃ e1, setT g (.d d) env = some e1 ∧ te e1 st = some (.d (F d), st)) : lcI g iYes te env ds st = some (ds.map F, st) := by
  have := lcI_filt (g := g) (tt := iYes) (te := te) (env := env) (st := st) (fun _ => true) F (ds := ds) fun d hd => by
    obtain ⟨e1, h1, h2⟩ := h d hd
    exact ⟨e1, h1, rfl, fun _ => h2⟩
  rw [this, List.filter_eq_self.mpr fun _ _ => rfl]
def HandAt (st : Sto) (n : Nat) : Prop := ∃ x y z : Int, 0 ≤ x ∧ st[n]? = some [.int x, .int y, .int z]
/-- only the hand has changed, and it is one -/
def Stp (n : Nat) (st st' : Sto) : Prop := (∃ v, st' = st.set n v) ∧ HandAt st' n
theorem HandAt.lt {st : Sto} {n : Nat} (h : HandAt st n) : n < st.length := by
  obtain ⟨x, y, z, _, e⟩ := h
  exact (List.getElem?_eq_some_iff.mp e).1
theorem Stp.refl {st : Sto} {n : Nat} (h : HandAt st n) : Stp n st st := by
  obtain ⟨x, y, z, h0, e⟩ := id h
  exact ⟨⟨_, (List.set_getElem_self (h.lt)).symm⟩, h⟩
theorem Stp.trans {n : Nat} {a b c : Sto} (h : Stp n a b) (h' : Stp n b c) : Stp n a c := by
  obtain ⟨⟨v, rfl⟩, _⟩ := h
  obtain ⟨⟨u, rfl⟩, q⟩ := h'
  exact ⟨⟨u, by rw [List.set_set]⟩, q⟩
theorem Stp.hand {n : Nat} {a b : Sto} (h : Stp n a b) : HandAt b n := h.2
theorem Stp.len {n : Nat} {a b : Sto} (h : Stp n a b) : b.length = a.length := by obtain ⟨⟨v, rfl⟩, _⟩ := h; rw [List.length_set]
theorem Stp.get {n m : Nat} {a b : Sto} (h : Stp n a b) (hm : m ≠ n) : b[m]? = a[m]? := by obtain ⟨⟨v, rfl⟩, _⟩ := h; rw [List.getElem?_set_ne (Ne.symm hm)]
theorem Stp.take {n : Nat} {a b : Sto} (h : Stp n a b) : b.take a.length = b := by rw [← h.len, List.take_length]
theorem mulOk_l {a b : Int} (h : -(2 ^ 64) < a ∧ a < 2 ^ 64) : PySem.IntMulOk a b := CMul.ok (.inl h)
theorem mulOk_r {a b : Int} (h : -(2 ^ 64) < b ∧ b < 2 ^ 64) : PySem.IntMulOk a b := CMul.ok (.inr h)
theorem get_set {st : Sto} {n : Nat} {v : List D} (h : n < st.length) : (st.set n v)[n]? = some v := List.getElem?_set_self h
theorem atI0 {α : Type} (a : α) (l : List α) : atI (a :: l) 0 = some a := atI_nat (j := 0) rfl
theorem atI1 {α : Type} (a b : α) (l : List α) : atI (a :: b :: l) 1 = some b := atI_nat (j := 1) rfl
theorem atI2 {α : Type} (a b c : α) (l : List α) : atI (a :: b :: c :: l) 2 = some c := atI_nat (j := 2) rfl
theorem ixN0 (n : Nat) : ixN (n + 1) 0 = some 0 := ixN_nat (j := 0) (by omega)
theorem ixN1 (n : Nat) : ixN (n + 2) 1 = some 1 := ixN_nat (j := 1) (by omega)
theorem ixN2 (n : Nat) : ixN (n + 3) 2 = some 2 := ixN_nat (j := 2) (by omega)
end L2
namespace L2
open PySem
theorem HandAt.app {st : Sto} {n : Nat} (h : HandAt st n) (u : List (List D)) : HandAt (st ++ u) n := by
  obtain ⟨x, y, z, h0, e⟩ := id h
  exact ⟨x, y, z, h0, by rw [List.getElem?_append_left h.lt]; exact e⟩
theorem Stp.unapp {n : Nat} {a s : Sto} {u : List (List D)} (hn : n < a.length) (h : Stp n (a ++ u) s) : ∃ b, s = b ++ u ∧ Stp n a b := by
  obtain ⟨⟨v, rfl⟩, x, y, z, h0, e⟩ := h
  rw [List.set_append_left _ _ hn] at e ⊢
  exact ⟨_, rfl, ⟨v, rfl⟩, x, y, z, h0, by rw [List.getElem?_append_left (by rw [List.length_set]; exact hn)] at e; exact e⟩
theorem rngD_at {n i : Nat} {d : D} (h : (rngD 0 n)[i]? = some d) : d = .int (i : Int) ∧ i < n := by
  rw [rngD_get] at h
  by_cases hi : i < n
  · rw [if_pos hi] at h
    cases h
    exact ⟨by rw [Int.zero_add], hi⟩
  · rw [if_neg hi] at h; cases h
end L2

namespace L2
open PySem PySem.Spec PyProof.Rows
def cRunT : Nat → Nat → StateT SortSt Sem (Option Nat) := sortPriv% PySem.Builtin.countRun
def bSortT : Nat → Nat → Nat → StateT SortSt Sem Bool := sortPriv% PySem.Builtin.binarySort
def gallopT : Bool → Keyed → Array Keyed → Nat → Nat → Nat → StateT SortSt Sem (Option Nat) := sortPriv% PySem.Builtin.gallop
def mgLoT : Array Keyed → Array Keyed → StateT SortSt Sem (Array Keyed) := sortPriv% PySem.Builtin.mergeLo
def mgHiT : Array Keyed → Array Keyed → StateT SortSt Sem (Array Keyed) := sortPriv% PySem.Builtin.mergeHi
def mgAtT : Nat → StateT SortSt Sem Bool := sortPriv% PySem.Builtin.mergeAt
abbrev setGal (st : SortSt) (g : Nat) : SortSt := SortSt.mk' (kindOf st) (arrOf st) (pendingOf st) g (failedOf st)
/-- comparisons of these things go by their ranks and change nothing -/
def Cm (prog : Program) (w : World) (A : Around) (s : Shared) (κ : SortKind) (O : KeyOrd) (rk : Keyed → O.α) (S : Keyed → Prop) : Prop :=
  ∀ x y, S x → S y → ∀ (Q : Bool → Shared → Prop) (E : Value → Shared → Prop), Q (O.blt (rk x) (rk y)) s → wpAny (model prog w) A (keyLt' κ x.1 y.1) Q E s
section
variable {prog : Program} {w : World} {A : Around} {E : Value → Shared → Prop} {s : Shared} {κ : SortKind} {O : KeyOrd} {rk : Keyed → O.α} {S : Keyed → Prop}
theorem ws_lt (hC : Cm prog w A s κ O rk S) {x y : Keyed} {st : SortSt} {Q : Option Bool → SortSt → Prop} (hk : kindOf st = κ) (hx : S x) (hy : S y) (h : Q (some (O.blt (rk x) (rk y))) st) :
    wpS (model prog w) A E s (lt' x y) Q st := by
  rw [lt'_eq]
  refine wpS_bind (wpS_get ?_)
  rw [hk]
  exact wpS_bind (wpS_lift (wpAny_attempt (hC x y hx hy _ _ ⟨rfl, wpS_pure h⟩)))
theorem ws_elem {arr : Array Keyed} {i : Nat} {x : Keyed} {st : SortSt} {Q : Keyed → SortSt → Prop} (hi : arr[i]? = some x) (h : Q x st) : wpS (model prog w) A E s (elem' arr i) Q st := by
  rw [elem'_eq, hi]; exact wpS_pure h
theorem ws_rule {t : String} {st : SortSt} {Q : Unit → SortSt → Prop} (h : Q () st) : wpS (model prog w) A E s (liftM (rule t) : StateT SortSt Sem Unit) Q st := wpS_lift (wpAny_rule ⟨rfl, h⟩)
/-- what stands at a place -/
def kyd (arr : Array Keyed) (i : Nat) : Keyed := (arr[i]?).getD (.none, .none)
theorem kyd_at {arr : Array Keyed} {i : Nat} (h : i < arr.size) : arr[i]? = some (kyd arr i) := by
  unfold kyd; simp [h]
theorem kyd_congr {a b : Array Keyed} {i j : Nat} (h : a[i]? = b[j]?) : kyd a i = kyd b j := by
  unfold kyd; rw [h]
theorem ws_ltAt (hC : Cm prog w A s κ O rk S) {i j : Nat} {st : SortSt} {Q : Option Bool → SortSt → Prop} (hk : kindOf st = κ) (hi : i < (arrOf st).size) (hj : j < (arrOf st).size) (hx : S (kyd (arrOf st) i)) (hy : S (kyd (arrOf st) j))
    (h : Q (some (O.blt (rk (kyd (arrOf st) i)) (rk (kyd (arrOf st) j)))) st) : wpS (model prog w) A E s (ltAt' i j) Q st := by
  rw [ltAt'_eq]
  refine wpS_bind (wpS_get ?_)
  exact wpS_bind (ws_elem (kyd_at hi) (wpS_bind (ws_elem (kyd_at hj) (ws_lt hC hk hx hy h))))
/-- the array is a turn of the first one; nothing ahead of lo has moved -/
structure SB (κ : SortKind) (a0 : Array Keyed) (lo : Nat) (p0 : Array (Nat × Nat × Nat)) (g0 : Nat) (st : SortSt) : Prop where
  perm : (arrOf st).Perm a0
  pre : ∀ k, k < lo → (arrOf st)[k]? = a0[k]?
  kind : kindOf st = κ
  fail : failedOf st = none
  pend : pendingOf st = p0
  gal : gallopOf st = g0
variable {a0 : Array Keyed} {lo : Nat} {p0 : Array (Nat × Nat × Nat)} {g0 : Nat} {st : SortSt}
theorem SB.size (h : SB κ a0 lo p0 g0 st) : (arrOf st).size = a0.size := h.perm.size_eq
theorem SB.mem (h : SB κ a0 lo p0 g0 st) (hS : ∀ x ∈ a0.toList, S x) {i : Nat} (hi : i < a0.size) : S (kyd (arrOf st) i) := by
  have hi' : i < (arrOf st).size := by rw [h.size]; exact hi
  refine hS _ ((Array.perm_iff_toList_perm.mp h.perm).mem_iff.mp ?_)
  have e := kyd_at hi'
  rw [Array.getElem?_eq_getElem hi'] at e
  rw [← Option.some.inj e]
  exact Array.getElem_mem_toList hi'
theorem SB.set (h : SB κ a0 lo p0 g0 st) {xs : Array Keyed} (hp : xs.Perm (arrOf st)) (hl : ∀ k, k < lo → xs[k]? = (arrOf st)[k]?) : SB κ a0 lo p0 g0 (setArr st xs) :=
  ⟨hp.trans h.perm, fun k hk => (hl k hk).trans (h.pre k hk), h.kind, h.fail, h.pend, h.gal⟩
theorem ws_at (hC : Cm prog w A s κ O rk S) (hS : ∀ x ∈ a0.toList, S x) (hB : SB κ a0 lo p0 g0 st) {i j : Nat} {Q : Option Bool → SortSt → Prop} (hi : i < a0.size) (hj : j < a0.size)
    (h : Q (some (O.blt (rk (kyd (arrOf st) i)) (rk (kyd (arrOf st) j)))) st) : wpS (model prog w) A E s (ltAt' i j) Q st :=
  ws_ltAt hC hB.kind (by rw [hB.size]; exact hi) (by rw [hB.size]; exact hj) (hB.mem hS hi) (hB.mem hS hj) h
/-- rising, not falling, from lo on -/
def Up (rk : Keyed → O.α) (arr : Array Keyed) (lo n : Nat) : Prop := ∀ i j, lo ≤ i → i ≤ j → j < lo + n → O.kle (rk (kyd arr i)) (rk (kyd arr j))
def Down (rk : Keyed → O.α) (arr : Array Keyed) (lo n : Nat) : Prop := ∀ i j, lo ≤ i → i ≤ j → j < lo + n → O.kle (rk (kyd arr j)) (rk (kyd arr i))
theorem kyd_mirror {xs : Array Keyed} {i j : Nat} (hj : j ≤ xs.size) (k : Nat) : kyd (mirror xs i j ((j - i) / 2)) k = if i ≤ k ∧ k < j then kyd xs (i + j - 1 - k) else kyd xs k := by
  have e := getElem?_mirror_all (i := i) hj k
  by_cases h1 : i ≤ k ∧ k < j
  · rw [if_pos h1] at e ⊢; exact kyd_congr e
  · rw [if_neg h1] at e ⊢; exact kyd_congr e
theorem kyd_bubble {xs : Array Keyed} {src d : Nat} (hs : src < xs.size) (hd : d ≤ src) (k : Nat) :
    kyd (bubble xs src d) k = if k = src - d then kyd xs src else if src - d < k ∧ k ≤ src then kyd xs (k - 1) else kyd xs k := by
  have e := getElem?_bubble hs d hd k
  by_cases h1 : k = src - d
  · rw [if_pos h1] at e ⊢; exact kyd_congr e
  · rw [if_neg h1] at e ⊢
    by_cases h2 : src - d < k ∧ k ≤ src
    · rw [if_pos h2] at e ⊢; exact kyd_congr e
    · rw [if_neg h2] at e ⊢; exact kyd_congr e
theorem SB.rev (hB : SB κ a0 lo p0 g0 st) {i j : Nat} (hi : lo ≤ i) (hj : j ≤ a0.size) : SB κ a0 lo p0 g0 (setArr st (mirror (arrOf st) i j ((j - i) / 2))) :=
  hB.set (mirror_perm _ _ _ _) fun k hk => by
    rw [getElem?_mirror_all (by rw [hB.size]; exact hj), if_neg (by omega)]
theorem same_mirror {xs : Array Keyed} {i j : Nat} (hj : j ≤ xs.size) (he : ∀ k, i ≤ k → k < j → rk (kyd xs k) = rk (kyd xs (j - 1))) (k : Nat) : rk (kyd (mirror xs i j ((j - i) / 2)) k) = rk (kyd xs k) := by
  rw [kyd_mirror hj]
  split
  · rw [he (i + j - 1 - k) (by omega) (by omega), he k (by omega) (by omega)]
  · rfl
theorem ws_rev {i j : Nat} {Q : Unit → SortSt → Prop} (h : Q () (setArr st (mirror (arrOf st) i j ((j - i) / 2)))) : wpS (model prog w) A E s (reverseSlice' i j) Q st := by
  rw [reverseSlice'_eq]; exact wpS_modify h
theorem Up.more {arr : Array Keyed} {n : Nat} (h : Up rk arr lo n) (h1 : 1 ≤ n) (hl : O.kle (rk (kyd arr (lo + n - 1))) (rk (kyd arr (lo + n)))) : Up rk arr lo (n + 1) := by
  intro i j hi hij hj
  by_cases hjx : j < lo + n
  · exact h i j hi hij hjx
  · have hj' : j = lo + n := by omega
    subst hj'
    by_cases hi' : i = lo + n
    · subst hi'; exact KeyOrd.kle_refl _
    · exact KeyOrd.kle_trans (h i (lo + n - 1) hi (by omega) (by omega)) hl
theorem Down.more {arr : Array Keyed} {n : Nat} (h : Down rk arr lo n) (h1 : 1 ≤ n) (hl : O.kle (rk (kyd arr (lo + n))) (rk (kyd arr (lo + n - 1)))) : Down rk arr lo (n + 1) := by
  intro i j hi hij hj
  by_cases hjx : j < lo + n
  · exact h i j hi hij hjx
  · have hj' : j = lo + n := by omega
    subst hj'
    by_cases hi' : i = lo + n
    · subst hi'; exact KeyOrd.kle_refl _
    · exact KeyOrd.kle_trans hl (h i (lo + n - 1) hi (by omega) (by omega))
theorem Up.one {arr : Array Keyed} : Up rk arr lo 1 := fun i j hi hij hj => by
  have : i = j := by omega
  subst this; exact KeyOrd.kle_refl _
theorem Down.congr {xs ys : Array Keyed} {n : Nat} (h : Down rk xs lo n) (e : ∀ k, rk (kyd ys k) = rk (kyd xs k)) : Down rk ys lo n := fun i j hi hij hj => by
  rw [e, e]; exact h i j hi hij hj
end
end L2

namespace L2
open PySem PySem.Spec PyProof.Rows
section
variable {prog : Program} {w : World} {A : Around} {E : Value → Shared → Prop} {s : Shared} {κ : SortKind} {O : KeyOrd} {rk : Keyed → O.α} {S : Keyed → Prop}
variable {a0 : Array Keyed} {lo : Nat} {p0 : Array (Nat × Nat × Nat)} {g0 : Nat} {st : SortSt}
/-- a loop that goes on while things don't fall -/
theorem ws_asc {n0 nrem : Nat} {f : Nat → Option (Option Nat) × Nat → StateT SortSt Sem (ForInStep (Option (Option Nat) × Nat))} {Q : Option (Option Nat) × Nat → SortSt → Prop}
    (hf : ∀ x n (Q' : ForInStep (Option (Option Nat) × Nat) → SortSt → Prop), 1 ≤ n → n < nrem → (O.blt (rk (kyd (arrOf st) (lo + n))) (rk (kyd (arrOf st) (lo + n - 1))) = true → Q' (.done (none, n)) st) →
      (O.blt (rk (kyd (arrOf st) (lo + n))) (rk (kyd (arrOf st) (lo + n - 1))) = false → Q' (.yield (none, n + 1)) st) → wpS (model prog w) A E s (f x (none, n)) Q' st)
    (h1 : 1 ≤ n0) (hn : n0 ≤ nrem) (hu : Up rk (arrOf st) lo n0)
    (h : ∀ n, n0 ≤ n → n ≤ nrem → Up rk (arrOf st) lo n → (n = nrem ∨ O.klt (rk (kyd (arrOf st) (lo + n))) (rk (kyd (arrOf st) (lo + n - 1)))) → Q (none, n) st) : wpS (model prog w) A E s (forIn [n0:nrem] (none, n0) f) Q st := by
  refine wpS_forRange (I := fun x c st' => st' = st ∧ c = (none, x) ∧ Up rk (arrOf st) lo x) ?_ ?_ ⟨rfl, rfl, hu⟩
  · rintro x c st' hx hxn ⟨rfl, rfl, hs⟩
    exact hf x x _ (by omega) hxn (fun hl => h x hx (by omega) hs (.inr hl)) fun hl => ⟨rfl, rfl, hs.more (by omega) hl⟩
  · rintro c st' ⟨rfl, rfl, hs⟩
    rw [show max n0 nrem = nrem by omega] at hs ⊢
    exact h nrem hn (Nat.le_refl _) hs (.inl rfl)
def Eqs (rk : Keyed → O.α) (arr : Array Keyed) (lo m q : Nat) : Prop := q + 1 ≤ m ∧ ∀ i, lo + m - (q + 1) ≤ i → i < lo + m → rk (kyd arr i) = rk (kyd arr (lo + m - 1))
/-- a loop that goes on while things don't rise -/
theorem ws_desc {n0 nrem : Nat} {f : Nat → Option (Option Nat) × Nat × Nat → StateT SortSt Sem (ForInStep (Option (Option Nat) × Nat × Nat))} {Q : Option (Option Nat) × Nat × Nat → SortSt → Prop}
    (hf : ∀ x n q st' (Q' : ForInStep (Option (Option Nat) × Nat × Nat) → SortSt → Prop), 1 ≤ n → n < nrem → SB κ a0 lo p0 g0 st' →
      (O.blt (rk (kyd (arrOf st') (lo + n))) (rk (kyd (arrOf st') (lo + n - 1))) = true → 0 < q → Q' (.yield (none, n + 1, 0)) (setArr st' (mirror (arrOf st') (lo + n - (q + 1)) (lo + n) ((lo + n - (lo + n - (q + 1))) / 2)))) →
      (O.blt (rk (kyd (arrOf st') (lo + n))) (rk (kyd (arrOf st') (lo + n - 1))) = true → q = 0 → Q' (.yield (none, n + 1, 0)) st') →
      (O.blt (rk (kyd (arrOf st') (lo + n - 1))) (rk (kyd (arrOf st') (lo + n))) = true → Q' (.done (none, n, q)) st') →
      (O.blt (rk (kyd (arrOf st') (lo + n))) (rk (kyd (arrOf st') (lo + n - 1))) = false → O.blt (rk (kyd (arrOf st') (lo + n - 1))) (rk (kyd (arrOf st') (lo + n))) = false → Q' (.yield (none, n + 1, q + 1)) st') →
      wpS (model prog w) A E s (f x (none, n, q)) Q' st')
    (h1 : 1 ≤ n0) (hn : n0 ≤ nrem) (hz : lo + nrem ≤ a0.size) (hB : SB κ a0 lo p0 g0 st) (hd : Down rk (arrOf st) lo n0)
    (h : ∀ n q st', n0 ≤ n → n ≤ nrem → SB κ a0 lo p0 g0 st' → Down rk (arrOf st') lo n → Eqs rk (arrOf st') lo n q → Q (none, n, q) st') : wpS (model prog w) A E s (forIn [n0:nrem] (none, n0, 0) f) Q st := by
  have one : ∀ (arr : Array Keyed) m, 1 ≤ m → Eqs rk arr lo m 0 := fun arr m hm => ⟨by omega, fun i h1 h2 => by rw [show i = lo + m - 1 by omega]⟩
  refine wpS_forRange (I := fun x c st' => ∃ q, c = (none, x, q) ∧ SB κ a0 lo p0 g0 st' ∧ Down rk (arrOf st') lo x ∧ Eqs rk (arrOf st') lo x q) ?_ ?_ ⟨0, rfl, hB, hd, one _ _ h1⟩
  · rintro x c st' hx hxn ⟨q, rfl, hB', hs, he⟩
    have hsz : lo + x ≤ (arrOf st').size := by rw [hB'.size]; omega
    refine hf x x q st' _ (by omega) hxn hB' (fun hl hq => ?_) (fun hl hq => ?_) (fun hl => h x q st' hx (by omega) hB' hs he) fun hl hl2 => ?_
    · have e := same_mirror (rk := rk) (xs := arrOf st') (i := lo + x - (q + 1)) (j := lo + x) hsz he.2
      exact ⟨0, rfl, hB'.rev (by have := he.1; omega) (by omega), Down.congr (hs.more (by omega) (KeyOrd.kle_of_klt hl)) e, one _ _ (by omega)⟩
    · exact ⟨0, rfl, hB', hs.more (by omega) (KeyOrd.kle_of_klt hl), one _ _ (by omega)⟩
    · have eq : rk (kyd (arrOf st') (lo + x)) = rk (kyd (arrOf st') (lo + x - 1)) := KeyOrd.kle_antisymm hl2 hl
      refine ⟨q + 1, rfl, hB', hs.more (by omega) (by rw [eq]; exact KeyOrd.kle_refl _), by have := he.1; omega, fun i h1 h2 => ?_⟩
      rw [show lo + (x + 1) - 1 = lo + x by omega, eq]
      by_cases hi : i = lo + x
      · rw [hi, eq]
      · exact he.2 i (by omega) (by omega)
  · rintro c st' ⟨q, rfl, hB', hs, he⟩
    rw [show max n0 nrem = nrem by omega] at hs he ⊢
    exact h nrem q st' hn (Nat.le_refl _) hB' hs he
theorem ws_fin {m nrem : Nat} {f : Nat → Option (Option Nat) × Nat → StateT SortSt Sem (ForInStep (Option (Option Nat) × Nat))} {k : Option (Option Nat) × Nat → StateT SortSt Sem (Option Nat)} {Q : Option Nat → SortSt → Prop}
    (hB : SB κ a0 lo p0 g0 st) (hd : Down rk (arrOf st) lo m) (h1 : 1 ≤ m) (hm : m ≤ nrem) (hz : lo + nrem ≤ a0.size)
    (hf : ∀ x n (Q' : ForInStep (Option (Option Nat) × Nat) → SortSt → Prop) st4, SB κ a0 lo p0 g0 st4 → 1 ≤ n → n < nrem → (O.blt (rk (kyd (arrOf st4) (lo + n))) (rk (kyd (arrOf st4) (lo + n - 1))) = true → Q' (.done (none, n)) st4) →
      (O.blt (rk (kyd (arrOf st4) (lo + n))) (rk (kyd (arrOf st4) (lo + n - 1))) = false → Q' (.yield (none, n + 1)) st4) → wpS (model prog w) A E s (f x (none, n)) Q' st4)
    (hk : ∀ n st4, SB κ a0 lo p0 g0 st4 → 1 ≤ n → n ≤ nrem → Up rk (arrOf st4) lo n → wpS (model prog w) A E s (k (none, n)) Q st4) :
    wpS (model prog w) A E s (do reverseSlice' lo (lo + m); let r ← forIn [m:nrem] (none, m) f; k r) Q st := by
  refine wpS_bind (ws_rev ?_)
  have hB4 := hB.rev (i := lo) (j := lo + m) (Nat.le_refl _) (by omega)
  refine wpS_bind (ws_asc (rk := rk) (lo := lo) (fun x n Q' hn1 hn2 hy hno => hf x n Q' _ hB4 hn1 hn2 hy hno) h1 hm ?_ fun n' hn1' hn2' hu' _ => hk n' _ hB4 (by omega) hn2' hu')
  intro i j hi hij hj
  have hs3 : lo + m ≤ (arrOf st).size := by rw [hB.size]; omega
  show O.kle (rk (kyd (mirror (arrOf st) lo (lo + m) ((lo + m - lo) / 2)) i)) (rk (kyd (mirror (arrOf st) lo (lo + m) ((lo + m - lo) / 2)) j))
  rw [kyd_mirror hs3, kyd_mirror hs3, if_pos (by omega), if_pos (by omega)]
  exact hd _ _ (by omega) (by omega) (by omega)
set_option maxHeartbeats 1000000 in
theorem ws_cRun (hC : Cm prog w A s κ O rk S) (hS : ∀ x ∈ a0.toList, S x) {nrem : Nat} {Q : Option Nat → SortSt → Prop} (hB : SB κ a0 lo p0 g0 st) (h1 : 1 ≤ nrem) (hz : lo + nrem ≤ a0.size)
    (h : ∀ m st', SB κ a0 lo p0 g0 st' → 1 ≤ m → m ≤ nrem → Up rk (arrOf st') lo m → Q (some m) st') : wpS (model prog w) A E s (cRunT lo nrem) Q st := by
  have asc : ∀ st' (_ : SB κ a0 lo p0 g0 st') n (Q' : Option Bool → SortSt → Prop), 1 ≤ n → n < nrem → Q' (some (O.blt (rk (kyd (arrOf st') (lo + n))) (rk (kyd (arrOf st') (lo + n - 1))))) st' →
      wpS (model prog w) A E s (ltAt' (lo + n) (lo + n - 1)) Q' st' := fun st' hB' n Q' h1 h2 hq => ws_at hC hS hB' (by omega) (by omega) hq
  refine wpS_bind (ws_asc (rk := rk) (lo := lo) (fun x n Q' hn1 hn2 hy hno => ?_) (Nat.le_refl 1) h1 Up.one fun n hn1 hn2 hu hor => ?_)
  · refine wpS_bind (asc st hB n _ hn1 hn2 ?_)
    cases hl : O.blt (rk (kyd (arrOf st) (lo + n))) (rk (kyd (arrOf st) (lo + n - 1))) with
    | true => exact wpS_pure (hy hl)
    | false => exact wpS_pure (hno hl)
  dsimp only
  by_cases hnn : n = nrem
  · rw [if_pos (by simpa using hnn)]
    exact wpS_pure (h n st hB hn1 hn2 hu)
  rw [if_neg (by simpa using hnn)]
  have hlt := hor.resolve_left hnn
  have hn3 : n + 1 ≤ nrem := by omega
  have hsz : lo + n ≤ (arrOf st).size := by rw [hB.size]; omega
  by_cases hgt : n > 1
  case' pos =>
    rw [if_pos hgt]
    refine wpS_bind (ws_at hC hS hB (by omega) (by omega) ?_)
    by_cases hrose : O.blt (rk (kyd (arrOf st) lo)) (rk (kyd (arrOf st) (lo + n - 1))) = true
    · rw [hrose]; exact wpS_pure (h n st hB hn1 hn2 hu)
    rw [Bool.not_eq_true] at hrose
    rw [hrose]
    have hall : ∀ k, lo ≤ k → k < lo + n → rk (kyd (arrOf st) k) = rk (kyd (arrOf st) (lo + n - 1)) := fun k hk1 hk2 =>
      KeyOrd.kle_antisymm (hu k (lo + n - 1) hk1 (by omega) (by omega)) (KeyOrd.kle_trans hrose (hu lo k (by omega) hk1 hk2))
    refine wpS_bind (ws_rev ?_)
    have hB2 := hB.rev (i := lo) (j := lo + n) (Nat.le_refl _) (by omega)
    have hd : Down rk (arrOf (setArr st (mirror (arrOf st) lo (lo + n) ((lo + n - lo) / 2)))) lo (n + 1) := by
      refine Down.congr (xs := arrOf st) (Down.more (fun i j hi hij hj => ?_) (by omega) (KeyOrd.kle_of_klt hlt)) (same_mirror hsz hall)
      rw [hall i hi (by omega), hall j (by omega) hj]; exact KeyOrd.kle_refl _
    generalize setArr st (mirror (arrOf st) lo (lo + n) ((lo + n - lo) / 2)) = st2 at hB2 hd ⊢
    clear hu hlt hrose hall hB hsz hor
  case' neg =>
    rw [if_neg hgt]
    have hB2 := hB
    have hd : Down rk (arrOf st) lo (n + 1) := by
      refine Down.more (fun i j hi hij hj => ?_) (by omega) (KeyOrd.kle_of_klt hlt)
      rw [show i = j by omega]; exact KeyOrd.kle_refl _
    clear hu hlt hB hsz hor
    revert hB2 hd
    generalize st = st2
    intro hB2 hd
  all_goals
    refine wpS_bind (ws_rule ?_)
    refine wpS_bind (ws_desc (fun x m q st' Q' hm1 hm2 hB' c1 c2 c3 c4 => ?_) (by omega) hn3 hz hB2 hd fun m q st' hm1 hm2 hB' hd' he => ?_)
    · refine wpS_bind (asc st' hB' m _ hm1 hm2 ?_)
      cases hl : O.blt (rk (kyd (arrOf st') (lo + m))) (rk (kyd (arrOf st') (lo + m - 1))) with
      | true =>
        dsimp only
        rw [if_pos rfl]
        by_cases hq : q > 0
        · rw [if_pos hq]; exact wpS_bind (ws_rev (wpS_pure (c1 hl hq)))
        · rw [if_neg hq]; exact wpS_pure (c2 hl (by omega))
      | false =>
        dsimp only
        rw [if_neg (by simp)]
        refine wpS_bind (ws_at hC hS hB' (by omega) (by omega) ?_)
        cases hl2 : O.blt (rk (kyd (arrOf st') (lo + m - 1))) (rk (kyd (arrOf st') (lo + m))) with
        | true => exact wpS_pure (c3 hl2)
        | false => exact wpS_pure (c4 hl hl2)
    have hsz' : lo + m ≤ (arrOf st').size := by rw [hB'.size]; omega
    dsimp only
    by_cases hq : q > 0
    case' pos =>
      rw [if_pos hq]
      refine wpS_bind (ws_rev ?_)
      have hB3 := hB'.rev (i := lo + m - (q + 1)) (j := lo + m) (by have := he.1; omega) (by omega)
      have hd3 : Down rk (arrOf (setArr st' (mirror (arrOf st') (lo + m - (q + 1)) (lo + m) ((lo + m - (lo + m - (q + 1))) / 2)))) lo m := Down.congr hd' (same_mirror hsz' he.2)
      generalize setArr st' (mirror (arrOf st') (lo + m - (q + 1)) (lo + m) ((lo + m - (lo + m - (q + 1))) / 2)) = st3 at hB3 hd3 ⊢
    case' neg =>
      rw [if_neg hq]
      have hB3 := hB'
      have hd3 := hd'
    all_goals
      refine ws_fin hB3 hd3 (by omega) hm2 hz (fun x n' Q' st4 hB4 hn1' hn2' hy hno => ?_) fun n' st4 hB4 a1 a2 a3 => wpS_pure (h n' st4 hB4 a1 a2 a3)
      refine wpS_bind (asc st4 hB4 n' _ hn1' hn2' ?_)
      cases hl : O.blt (rk (kyd (arrOf st4) (lo + n'))) (rk (kyd (arrOf st4) (lo + n' - 1))) with
      | true => exact wpS_pure (hy hl)
      | false => exact wpS_pure (hno hl)
end
end L2

namespace L2
open PySem PySem.Spec PyProof.Rows
section
variable {prog : Program} {w : World} {A : Around} {E : Value → Shared → Prop} {s : Shared} {κ : SortKind} {O : KeyOrd} {rk : Keyed → O.α} {S : Keyed → Prop}
variable {a0 : Array Keyed} {lo : Nat} {p0 : Array (Nat × Nat × Nat)} {g0 : Nat} {st : SortSt}
set_option maxHeartbeats 1000000 in
theorem ws_bSort (hC : Cm prog w A s κ O rk S) (hS : ∀ x ∈ a0.toList, S x) {n ok : Nat} {Q : Bool → SortSt → Prop} (hB : SB κ a0 lo p0 g0 st) (h1 : 1 ≤ ok) (hok : ok ≤ n) (hz : lo + n ≤ a0.size) (hu : Up rk (arrOf st) lo ok)
    (h : ∀ st', SB κ a0 lo p0 g0 st' → Up rk (arrOf st') lo n → Q true st') : wpS (model prog w) A E s (bSortT lo n ok) Q st := by
  refine wpS_bind (wpS_mono (wpS_forRange (I := fun k c st' => c = (none, ()) ∧ SB κ a0 lo p0 g0 st' ∧ Up rk (arrOf st') lo (min k n)) (Q := fun c st' => c = (none, ()) ∧ SB κ a0 lo p0 g0 st' ∧ Up rk (arrOf st') lo n) ?_ ?_ ?_) ?_)
  · rintro k c st' hk hkn ⟨rfl, hB', hs⟩
    rw [show min k n = k by omega] at hs
    dsimp only
    refine wpS_bind (wpS_mono (wpS_forRange (I := fun x c st2 => st2 = st' ∧ ∃ l r, c = (none, l, r) ∧ l ≤ r ∧ r ≤ k ∧ r - l ≤ k - x ∧ (∀ i, i < l → O.kle (rk (kyd (arrOf st') (lo + i))) (rk (kyd (arrOf st') (lo + k)))) ∧
        ∀ i, r ≤ i → i < k → O.klt (rk (kyd (arrOf st') (lo + k))) (rk (kyd (arrOf st') (lo + i))))
      (Q := fun c st2 => st2 = st' ∧ ∃ l r, c = (none, l, r) ∧ l ≤ k ∧ (∀ i, i < l → O.kle (rk (kyd (arrOf st') (lo + i))) (rk (kyd (arrOf st') (lo + k)))) ∧ ∀ i, l ≤ i → i < k → O.klt (rk (kyd (arrOf st') (lo + k))) (rk (kyd (arrOf st') (lo + i)))) ?_ ?_ ?_) ?_)
    · rintro x c st2 _ hxk ⟨rfl, l, r, rfl, hlr, hrk, hm, hlo, hhi⟩
      dsimp only
      by_cases hge : l ≥ r
      · rw [if_pos hge]
        have e : l = r := by omega
        subst e
        exact wpS_pure ⟨rfl, l, l, rfl, hrk, hlo, hhi⟩
      · rw [if_neg hge]
        refine wpS_bind (ws_at hC hS hB' (by omega) (by omega) ?_)
        cases hl : O.blt (rk (kyd (arrOf st2) (lo + k))) (rk (kyd (arrOf st2) (lo + (l + r) / 2))) with
        | true => exact wpS_pure ⟨rfl, l, (l + r) / 2, rfl, by omega, by omega, by omega, hlo, fun i h1 h2 => KeyOrd.klt_of_klt_of_kle hl (hs _ _ (by omega) (by omega) (by omega))⟩
        | false => exact wpS_pure ⟨rfl, (l + r) / 2 + 1, r, rfl, by omega, by omega, by omega, fun i h1 => KeyOrd.kle_trans (hs (lo + i) (lo + (l + r) / 2) (by omega) (by omega) (by omega)) hl, hhi⟩
    · rintro c st2 ⟨rfl, l, r, rfl, hlr, hrk, hm, hlo, hhi⟩
      have e : l = r := by omega
      subst e
      exact ⟨rfl, l, l, rfl, hrk, hlo, hhi⟩
    · exact ⟨rfl, 0, k, rfl, by omega, by omega, by omega, fun i hi => by omega, fun i h1 h2 => by omega⟩
    · rintro c st2 ⟨rfl, l, r, rfl, hlk, hlo, hhi⟩
      dsimp only
      refine wpS_bind (m := moveDown' (lo + k) (lo + l)) ?_
      rw [moveDown'_eq]
      have hks : lo + k < (arrOf st2).size := by rw [hB'.size]; omega
      refine wpS_modify (wpS_pure ⟨rfl, hB'.set (bubble_perm _ _ _) fun i hi => ?_, ?_⟩)
      · rw [getElem?_bubble hks _ (by omega), if_neg (by omega), if_neg (by omega)]
      · rw [show min (k + 1) n = k + 1 by omega]
        intro i j hi hij hj
        show O.kle (rk (kyd (bubble (arrOf st2) (lo + k) (lo + k - (lo + l))) i)) (rk (kyd (bubble (arrOf st2) (lo + k) (lo + k - (lo + l))) j))
        rw [kyd_bubble hks (by omega), kyd_bubble hks (by omega), show lo + k - (lo + k - (lo + l)) = lo + l by omega]
        have hlo' : ∀ i, lo ≤ i → i < lo + l → O.kle (rk (kyd (arrOf st2) i)) (rk (kyd (arrOf st2) (lo + k))) := fun i h1 h2 => by
          have := hlo (i - lo) (by omega); rwa [show lo + (i - lo) = i by omega] at this
        have hhi' : ∀ i, lo + l ≤ i → i < lo + k → O.klt (rk (kyd (arrOf st2) (lo + k))) (rk (kyd (arrOf st2) i)) := fun i h1 h2 => by
          have := hhi (i - lo) (by omega) (by omega); rwa [show lo + (i - lo) = i by omega] at this
        repeat' split
        all_goals first
          | (exfalso; omega)
          | exact KeyOrd.kle_refl _
          | exact hlo' _ (by omega) (by omega)
          | exact KeyOrd.kle_of_klt (hhi' _ (by omega) (by omega))
          | exact hs _ _ (by omega) (by omega) (by omega)
  · rintro c st' ⟨rfl, hB', hs⟩
    rw [show min (max (max ok 1) n) n = n by omega] at hs
    exact ⟨rfl, hB', hs⟩
  · rw [show max ok 1 = ok by omega, show min ok n = ok by omega]
    exact ⟨rfl, hB, hu⟩
  · rintro c st' ⟨rfl, hB', hs⟩
    exact wpS_pure (h st' hB' hs)
/-- whether a thing still lies ahead of the key's place -/
def bey (O : KeyOrd) (rk : Keyed → O.α) (left : Bool) (key x : Keyed) : Bool := if left = true then O.blt (rk x) (rk key) else !O.blt (rk key) (rk x)
set_option maxHeartbeats 1000000 in
theorem ws_gallop (hC : Cm prog w A s κ O rk S) {left : Bool} {key : Keyed} {arr : Array Keyed} {base n hint : Nat} {Q : Option Nat → SortSt → Prop} (hk : kindOf st = κ) (hkey : S key) (hz : base + n ≤ arr.size) (hS : ∀ i, i < n → S (kyd arr (base + i)))
    (hh : hint < n) (anti : ∀ i j, i ≤ j → j < n → bey O rk left key (kyd arr (base + j)) = true → bey O rk left key (kyd arr (base + i)) = true)
    (h : ∀ k, k ≤ n → (∀ i, i < k → bey O rk left key (kyd arr (base + i)) = true) → (∀ i, k ≤ i → i < n → bey O rk left key (kyd arr (base + i)) = false) → Q (some k) st) :
    wpS (model prog w) A E s (gallopT left key arr base n hint) Q st := by
  have bey1 : ∀ i (Q' : Option Bool → SortSt → Prop), i < n → Q' (some (bey O rk left key (kyd arr (base + i)))) st → wpS (model prog w) A E s (elem' arr (base + i) >>= fun x => if left = true then lt' x key else lt' key x >>= fun b => pure (b.map (!·))) Q' st := fun i Q' hi hq => by
    refine wpS_bind (ws_elem (kyd_at (by omega)) ?_)
    cases left with
    | true => exact ws_lt hC hk (hS i hi) hkey hq
    | false => exact wpS_bind (ws_lt hC hk hkey (hS i hi) (wpS_pure hq))
  have bin : ∀ l0 h0, l0 ≤ h0 → h0 ≤ n → (∀ i, i < l0 → bey O rk left key (kyd arr (base + i)) = true) → (∀ i, h0 ≤ i → i < n → bey O rk left key (kyd arr (base + i)) = false) →
      ∀ (f : Nat → Option (Option Nat) × Nat × Nat → StateT SortSt Sem (ForInStep (Option (Option Nat) × Nat × Nat))) (k : Option (Option Nat) × Nat × Nat → StateT SortSt Sem (Option Nat)),
      (∀ x l r (Q' : ForInStep (Option (Option Nat) × Nat × Nat) → SortSt → Prop), l ≤ r → r ≤ n → (r ≤ l → Q' (.done (none, l, r)) st) → (l < r → bey O rk left key (kyd arr (base + (l + (r - l) / 2))) = true → Q' (.yield (none, l + (r - l) / 2 + 1, r)) st) →
        (l < r → bey O rk left key (kyd arr (base + (l + (r - l) / 2))) = false → Q' (.yield (none, l, l + (r - l) / 2)) st) → wpS (model prog w) A E s (f x (none, l, r)) Q' st) →
      (∀ l r, k (none, l, r) = pure (some r)) → wpS (model prog w) A E s (forIn [0:n] (none, l0, h0) f >>= k) Q st := fun l0 h0 e1 e2 e3 e4 f k hf hkk => by
    refine wpS_bind (wpS_mono (wpS_forRange (I := fun x c st2 => st2 = st ∧ ∃ l r, c = (none, l, r) ∧ l ≤ r ∧ r ≤ n ∧ r - l ≤ n - x ∧ (∀ i, i < l → bey O rk left key (kyd arr (base + i)) = true) ∧ ∀ i, r ≤ i → i < n → bey O rk left key (kyd arr (base + i)) = false)
      (Q := fun c st2 => st2 = st ∧ ∃ r, c = (none, r, r) ∧ r ≤ n ∧ (∀ i, i < r → bey O rk left key (kyd arr (base + i)) = true) ∧ ∀ i, r ≤ i → i < n → bey O rk left key (kyd arr (base + i)) = false) ?_ ?_ ?_) ?_)
    · rintro x c st2 _ hx ⟨rfl, l, r, rfl, a1, a2, a3, a4, a5⟩
      refine hf x l r _ a1 a2 (fun hrl => ?_) (fun hlr ht => ?_) fun hlr ht => ?_
      · have e : l = r := by omega
        subst e
        exact ⟨rfl, l, rfl, a2, a4, a5⟩
      · refine ⟨rfl, _, _, rfl, by omega, a2, by omega, fun i hi => ?_, a5⟩
        exact anti i (l + (r - l) / 2) (by omega) (by omega) ht
      · refine ⟨rfl, _, _, rfl, by omega, by omega, by omega, a4, fun i h1 h2 => ?_⟩
        cases q : bey O rk left key (kyd arr (base + i)) with
        | false => rfl
        | true => rw [anti (l + (r - l) / 2) i h1 h2 q] at ht; cases ht
    · rintro c st2 ⟨rfl, l, r, rfl, a1, a2, a3, a4, a5⟩
      have e : l = r := by omega
      subst e
      exact ⟨rfl, l, rfl, a2, a4, a5⟩
    · exact ⟨rfl, l0, h0, rfl, e1, e2, by omega, e3, e4⟩
    · rintro c st2 ⟨rfl, r, rfl, a2, a4, a5⟩
      rw [hkk]
      exact wpS_pure (h r a2 a4 a5)
  refine wpS_bind (bey1 hint _ hh ?_)
  dsimp only
  cases hb : bey O rk left key (kyd arr (base + hint)) with
  | true =>
    rw [if_pos rfl]
    refine wpS_bind (wpS_mono (wpS_forRange (I := fun x c st2 => st2 = st ∧ ∃ l o, c = (none, l, o) ∧ l < o ∧ x + 1 ≤ o ∧ hint + l < n ∧ bey O rk left key (kyd arr (base + (hint + l))) = true)
      (Q := fun c st2 => st2 = st ∧ ∃ l o, c = (none, l, o) ∧ l < o ∧ hint + l < n ∧ bey O rk left key (kyd arr (base + (hint + l))) = true ∧ (n - hint ≤ o ∨ hint + o < n ∧ bey O rk left key (kyd arr (base + (hint + o))) = false)) ?_ ?_ ?_) ?_)
    · rintro x c st2 _ hx ⟨rfl, l, o, rfl, a1, a2, a3, a4⟩
      dsimp only
      by_cases ho : o ≥ n - hint
      · rw [if_pos ho]; exact wpS_pure ⟨rfl, l, o, rfl, a1, a3, a4, .inl ho⟩
      · rw [if_neg ho]
        refine wpS_bind (bey1 (hint + o) _ (by omega) ?_)
        cases hb2 : bey O rk left key (kyd arr (base + (hint + o))) with
        | true => exact wpS_pure ⟨rfl, o, 2 * o + 1, rfl, by omega, by omega, by omega, hb2⟩
        | false => exact wpS_pure ⟨rfl, l, o, rfl, a1, a3, a4, .inr ⟨by omega, hb2⟩⟩
    · rintro c st2 ⟨rfl, l, o, rfl, a1, a2, a3, a4⟩
      exact ⟨rfl, l, o, rfl, a1, a3, a4, .inl (by omega)⟩
    · exact ⟨rfl, 0, 1, rfl, by omega, by omega, by omega, hb⟩
    · rintro c st2 ⟨rfl, l, o, rfl, a1, a3, a4, a5⟩
      dsimp only
      refine bin _ _ (by omega) (by omega) (fun i hi => anti i (hint + l) (by omega) a3 a4) (fun i h1 h2 => ?_) _ _ (fun x l r Q' b1 b2 c1 c2 c3 => ?_) fun l r => rfl
      · rcases a5 with a5 | a5
        · omega
        · cases q : bey O rk left key (kyd arr (base + i)) with
          | false => rfl
          | true => rw [anti (hint + o) i (by omega) h2 q] at a5; exact absurd a5.2 (by simp)
      · dsimp only
        by_cases hge : l ≥ r
        · rw [if_pos hge]; exact wpS_pure (c1 hge)
        · rw [if_neg hge]
          refine wpS_bind (bey1 (l + (r - l) / 2) _ (by omega) ?_)
          cases hb3 : bey O rk left key (kyd arr (base + (l + (r - l) / 2))) with
          | true => exact wpS_pure (c2 (by omega) hb3)
          | false => exact wpS_pure (c3 (by omega) hb3)
  | false =>
    rw [if_neg (by simp)]
    refine wpS_bind (wpS_mono (wpS_forRange (I := fun x c st2 => st2 = st ∧ ∃ l o, c = (none, l, o) ∧ l < o ∧ x + 1 ≤ o ∧ l ≤ hint ∧ bey O rk left key (kyd arr (base + (hint - l))) = false)
      (Q := fun c st2 => st2 = st ∧ ∃ l o, c = (none, l, o) ∧ l < o ∧ l ≤ hint ∧ bey O rk left key (kyd arr (base + (hint - l))) = false ∧ (hint + 1 ≤ o ∨ o ≤ hint ∧ bey O rk left key (kyd arr (base + (hint - o))) = true)) ?_ ?_ ?_) ?_)
    · rintro x c st2 _ hx ⟨rfl, l, o, rfl, a1, a2, a3, a4⟩
      dsimp only
      by_cases ho : o ≥ hint + 1
      · rw [if_pos ho]; exact wpS_pure ⟨rfl, l, o, rfl, a1, a3, a4, .inl ho⟩
      · rw [if_neg ho]
        refine wpS_bind (bey1 (hint - o) _ (by omega) ?_)
        cases hb2 : bey O rk left key (kyd arr (base + (hint - o))) with
        | false => exact wpS_pure ⟨rfl, o, 2 * o + 1, rfl, by omega, by omega, by omega, hb2⟩
        | true => exact wpS_pure ⟨rfl, l, o, rfl, a1, a3, a4, .inr ⟨by omega, hb2⟩⟩
    · rintro c st2 ⟨rfl, l, o, rfl, a1, a2, a3, a4⟩
      exact ⟨rfl, l, o, rfl, a1, a3, a4, .inl (by omega)⟩
    · exact ⟨rfl, 0, 1, rfl, by omega, by omega, by omega, hb⟩
    · rintro c st2 ⟨rfl, l, o, rfl, a1, a3, a4, a5⟩
      dsimp only
      refine bin _ _ (by omega) (by omega) (fun i hi => ?_) (fun i h1 h2 => ?_) _ _ (fun x l r Q' b1 b2 c1 c2 c3 => ?_) fun l r => rfl
      · rcases a5 with a5 | a5
        · omega
        · exact anti i (hint - o) (by omega) (by omega) a5.2
      · cases q : bey O rk left key (kyd arr (base + i)) with
        | false => rfl
        | true => rw [anti (hint - l) i (by omega) h2 q] at a4; cases a4
      · dsimp only
        by_cases hge : l ≥ r
        · rw [if_pos hge]; exact wpS_pure (c1 hge)
        · rw [if_neg hge]
          refine wpS_bind (bey1 (l + (r - l) / 2) _ (by omega) ?_)
          cases hb3 : bey O rk left key (kyd arr (base + (l + (r - l) / 2))) with
          | true => exact wpS_pure (c2 (by omega) hb3)
          | false => exact wpS_pure (c3 (by omega) hb3)
end
end L2

namespace L2
open PySem PySem.Spec PyProof.Rows
section
variable {O : KeyOrd} {rk : Keyed → O.α}
/-- two rising lists put together, of like ones the first list's ahead -/
def mrg (O : KeyOrd) (rk : Keyed → O.α) (xs ys : List Keyed) : List Keyed := List.merge xs ys fun x y => !O.blt (rk y) (rk x)
theorem mrg_nil (xs : List Keyed) : mrg O rk xs [] = xs := by unfold mrg; simp
theorem nil_mrg (ys : List Keyed) : mrg O rk [] ys = ys := by unfold mrg; simp
theorem mrg_l {x y : Keyed} {xs ys : List Keyed} (h : O.blt (rk y) (rk x) = false) : mrg O rk (x :: xs) (y :: ys) = x :: mrg O rk xs (y :: ys) := by
  unfold mrg; rw [List.cons_merge_cons, h]; rfl
theorem mrg_r {x y : Keyed} {xs ys : List Keyed} (h : O.blt (rk y) (rk x) = true) : mrg O rk (x :: xs) (y :: ys) = y :: mrg O rk (x :: xs) ys := by
  unfold mrg; rw [List.cons_merge_cons, h]; rfl
theorem mrg_one {x : Keyed} : ∀ {ys : List Keyed}, (∀ y ∈ ys, O.blt (rk y) (rk x) = true) → mrg O rk [x] ys = ys ++ [x]
  | [], _ => mrg_nil _
  | y :: ys, h => by rw [mrg_r (h y List.mem_cons_self), mrg_one fun z hz => h z (List.mem_cons_of_mem _ hz)]; rfl
theorem mrg_lastL {x : Keyed} : ∀ (xs ys : List Keyed), (∀ y ∈ ys, O.blt (rk y) (rk x) = true) → mrg O rk (xs ++ [x]) ys = mrg O rk xs ys ++ [x]
  | [], ys, h => by rw [List.nil_append, mrg_one h, nil_mrg]
  | a :: xs, [], h => by rw [mrg_nil, mrg_nil]
  | a :: xs, y :: ys, h => by
    rw [List.cons_append]
    cases hb : O.blt (rk y) (rk a) with
    | true => rw [mrg_r hb, mrg_r hb, ← List.cons_append, mrg_lastL (a :: xs) ys fun z hz => h z (List.mem_cons_of_mem _ hz)]; rfl
    | false => rw [mrg_l hb, mrg_l hb, mrg_lastL xs (y :: ys) h]; rfl
termination_by xs ys => xs.length + ys.length
theorem one_mrg {y : Keyed} : ∀ {xs : List Keyed}, (∀ x ∈ xs, O.blt (rk y) (rk x) = false) → mrg O rk xs [y] = xs ++ [y]
  | [], _ => nil_mrg _
  | x :: xs, h => by rw [mrg_l (h x List.mem_cons_self), one_mrg fun z hz => h z (List.mem_cons_of_mem _ hz)]; rfl
theorem mrg_lastR {y : Keyed} : ∀ (xs ys : List Keyed), (∀ x ∈ xs, O.blt (rk y) (rk x) = false) → mrg O rk xs (ys ++ [y]) = mrg O rk xs ys ++ [y]
  | xs, [], h => by rw [List.nil_append, one_mrg h, mrg_nil]
  | [], b :: ys, h => by rw [nil_mrg, nil_mrg]
  | a :: xs, b :: ys, h => by
    rw [List.cons_append]
    cases hb : O.blt (rk b) (rk a) with
    | true => rw [mrg_r hb, mrg_r hb, mrg_lastR (a :: xs) ys h]; rfl
    | false => rw [mrg_l hb, mrg_l hb, ← List.cons_append, mrg_lastR xs (b :: ys) fun z hz => h z (List.mem_cons_of_mem _ hz)]; rfl
termination_by xs ys => xs.length + ys.length
theorem mrg_perm (xs ys : List Keyed) : (mrg O rk xs ys).Perm (xs ++ ys) := List.merge_perm_append _
theorem mrg_up {xs ys : List Keyed} (hx : xs.Pairwise fun a b => O.kle (rk a) (rk b)) (hy : ys.Pairwise fun a b => O.kle (rk a) (rk b)) : (mrg O rk xs ys).Pairwise fun a b => O.kle (rk a) (rk b) := by
  have := List.pairwise_merge (le := fun x y => !O.blt (rk y) (rk x)) (fun a b c h1 h2 => by
      simp only [Bool.not_eq_true'] at *; exact KeyOrd.kle_trans (O := O) h1 h2) (fun a b => by
      simp only [Bool.or_eq_true, Bool.not_eq_true']
      cases h : O.blt (rk b) (rk a) with
      | false => exact .inl rfl
      | true => exact .inr (KeyOrd.klt_asymm (O := O) h)) xs ys (hx.imp fun h => by rw [Bool.not_eq_true']; exact h) (hy.imp fun h => by rw [Bool.not_eq_true']; exact h)
  exact this.imp fun h => by rw [Bool.not_eq_true'] at h; exact h
theorem drop_kyd {a : Array Keyed} {i : Nat} (h : i < a.size) : a.toList.drop i = kyd a i :: a.toList.drop (i + 1) := by
  have e := kyd_at h
  rw [Array.getElem?_eq_getElem h] at e
  rw [List.drop_eq_getElem_cons (by simpa using h)]
  rw [← Option.some.inj e]; simp
theorem take_kyd {a : Array Keyed} {i : Nat} (h : i < a.size) : a.toList.take (i + 1) = a.toList.take i ++ [kyd a i] := by
  have e := kyd_at h
  rw [Array.getElem?_eq_getElem h] at e
  rw [List.take_succ_eq_append_getElem (by simpa using h)]
  rw [← Option.some.inj e]; simp
theorem mem_kyd {a : Array Keyed} {x : Keyed} (h : x ∈ a.toList) : ∃ i, i < a.size ∧ x = kyd a i := by
  obtain ⟨i, hi, e⟩ := List.mem_iff_getElem.mp h
  have hi' : i < a.size := by simpa using hi
  refine ⟨i, hi', ?_⟩
  have q := kyd_at hi'
  rw [Array.getElem?_eq_getElem hi'] at q
  rw [← Option.some.inj q, ← e]; simp
/-- out, and what is left of both, put together -/
def MI (O : KeyOrd) (rk : Keyed → O.α) (a b out : Array Keyed) (ia ib : Nat) : Prop := out.toList ++ mrg O rk (a.toList.drop ia) (b.toList.drop ib) = mrg O rk a.toList b.toList
variable {a b out : Array Keyed} {ia ib : Nat}
theorem MI.start : MI O rk a b #[] 0 0 := by unfold MI; simp
theorem MI.b1 (h : MI O rk a b out ia ib) (hb : ib < b.size) (ha : ia < a.size) (hl : O.blt (rk (kyd b ib)) (rk (kyd a ia)) = true) : MI O rk a b (out.push (kyd b ib)) ia (ib + 1) := by
  unfold MI at *
  rw [drop_kyd ha, drop_kyd hb, mrg_r hl] at h
  rw [← h, drop_kyd ha]; simp
theorem MI.a1 (h : MI O rk a b out ia ib) (hb : ib < b.size) (ha : ia < a.size) (hl : O.blt (rk (kyd b ib)) (rk (kyd a ia)) = false) : MI O rk a b (out.push (kyd a ia)) (ia + 1) ib := by
  unfold MI at *
  rw [drop_kyd ha, drop_kyd hb, mrg_l hl] at h
  rw [← h, drop_kyd hb]; simp
theorem ext_more {a : Array Keyed} {i k : Nat} (h : i + k < a.size) : (out ++ a.extract i (i + (k + 1))) = (out ++ a.extract i (i + k)).push (kyd a (i + k)) := by
  apply Array.toList_inj.mp
  rw [Array.toList_push, Array.toList_append, Array.toList_append, Array.toList_extract, Array.toList_extract]
  simp only [List.extract_eq_take_drop, Nat.add_sub_cancel_left]
  have e : (a.toList.drop i).take (k + 1) = (a.toList.drop i).take k ++ [kyd a (i + k)] := by
    rw [List.take_succ_eq_append_getElem (by simp; omega)]
    have q := kyd_at h
    rw [Array.getElem?_eq_getElem h] at q
    rw [← Option.some.inj q]; simp
  rw [e, List.append_assoc]
theorem ext_none {a : Array Keyed} {i : Nat} : out ++ a.extract i (i + 0) = out := by
  apply Array.toList_inj.mp
  simp
theorem MI.as (h : MI O rk a b out ia ib) (hb : ib < b.size) : ∀ k, ia + k ≤ a.size → (∀ i, i < k → bey O rk false (kyd b ib) (kyd a (ia + i)) = true) → MI O rk a b (out ++ a.extract ia (ia + k)) (ia + k) ib
  | 0, _, _ => by rw [ext_none]; exact h
  | k + 1, hk, hq => by
    rw [ext_more (by omega)]
    have := MI.a1 (MI.as h hb k (by omega) fun i hi => hq i (by omega)) hb (by omega) (by simpa [bey] using hq k (by omega))
    exact this
theorem MI.bs (h : MI O rk a b out ia ib) (ha : ia < a.size) : ∀ k, ib + k ≤ b.size → (∀ i, i < k → bey O rk true (kyd a ia) (kyd b (ib + i)) = true) → MI O rk a b (out ++ b.extract ib (ib + k)) ia (ib + k)
  | 0, _, _ => by rw [ext_none]; exact h
  | k + 1, hk, hq => by
    rw [ext_more (by omega)]
    exact MI.b1 (MI.bs h ha k (by omega) fun i hi => hq i (by omega)) (by omega) ha (by simpa [bey] using hq k (by omega))
theorem ext_all {a : Array Keyed} {i : Nat} : (a.extract i a.size).toList = a.toList.drop i := by
  rw [Array.toList_extract, List.extract_eq_take_drop, List.take_of_length_le (by simp)]
theorem MI.doneB (h : MI O rk a b out ia ib) (hb : ib = b.size) : (out ++ a.extract ia a.size ++ b.extract ib b.size).toList = mrg O rk a.toList b.toList := by
  unfold MI at h
  subst hb
  rw [Array.toList_append, Array.toList_append, ext_all, ext_all, ← h]
  rw [show b.toList.drop b.size = [] by simp, mrg_nil, List.append_nil]
theorem MI.doneA (h : MI O rk a b out ia ib) (ha : ia = a.size) : (out ++ a.extract ia a.size ++ b.extract ib b.size).toList = mrg O rk a.toList b.toList := by
  unfold MI at h
  subst ha
  rw [Array.toList_append, Array.toList_append, ext_all, ext_all, ← h]
  rw [show a.toList.drop a.size = [] by simp, nil_mrg, List.append_nil]
theorem MI.lastA (h : MI O rk a b out ia ib) (ha : ia + 1 = a.size) (hl : ∀ i, i < b.size → O.blt (rk (kyd b i)) (rk (kyd a (a.size - 1))) = true) : (out ++ b.extract ib b.size ++ a.extract ia a.size).toList = mrg O rk a.toList b.toList := by
  unfold MI at h
  rw [Array.toList_append, Array.toList_append, ext_all, ext_all, ← h, drop_kyd (by omega : ia < a.size), show a.toList.drop (ia + 1) = [] by simp; omega, mrg_one, List.append_assoc]
  intro y hy
  obtain ⟨i, hi, rfl⟩ := mem_kyd (List.mem_of_mem_drop hy)
  rw [show ia = a.size - 1 by omega]
  exact hl i hi
/-- out from behind -/
def MH (O : KeyOrd) (rk : Keyed → O.α) (a b out : Array Keyed) (na nb : Nat) : Prop := mrg O rk (a.toList.take na) (b.toList.take nb) ++ out.toList.reverse = mrg O rk a.toList b.toList
variable {na nb : Nat}
theorem MH.start : MH O rk a b #[] a.size b.size := by
  unfold MH
  rw [List.take_of_length_le (by simp), List.take_of_length_le (by simp)]; simp
theorem MH.a1 (h : MH O rk a b out (na + 1) nb) (ha : na < a.size) (hl : ∀ i, i < nb → i < b.size → O.blt (rk (kyd b i)) (rk (kyd a na)) = true) : MH O rk a b (out.push (kyd a na)) na nb := by
  unfold MH at *
  rw [take_kyd ha, mrg_lastL _ _ fun y hy => ?_] at h
  · rw [← h]; simp
  · obtain ⟨i, hi, e⟩ := List.mem_iff_getElem.mp hy
    have hi' : i < nb ∧ i < b.size := by simp at hi; omega
    have q := kyd_at hi'.2
    rw [Array.getElem?_eq_getElem hi'.2] at q
    have : y = kyd b i := by rw [← e, ← Option.some.inj q]; simp
    rw [this]; exact hl i hi'.1 hi'.2
theorem MH.b1 (h : MH O rk a b out na (nb + 1)) (hb : nb < b.size) (hl : ∀ i, i < na → i < a.size → O.blt (rk (kyd b nb)) (rk (kyd a i)) = false) : MH O rk a b (out.push (kyd b nb)) na nb := by
  unfold MH at *
  rw [take_kyd hb, mrg_lastR _ _ fun y hy => ?_] at h
  · rw [← h]; simp
  · obtain ⟨i, hi, e⟩ := List.mem_iff_getElem.mp hy
    have hi' : i < na ∧ i < a.size := by simp at hi; omega
    have q := kyd_at hi'.2
    rw [Array.getElem?_eq_getElem hi'.2] at q
    have : y = kyd a i := by rw [← e, ← Option.some.inj q]; simp
    rw [this]; exact hl i hi'.1 hi'.2
end
end L2

namespace L2
open PySem PySem.Spec PyProof.Rows
section
variable {prog : Program} {w : World} {A : Around} {E : Value → Shared → Prop} {s : Shared} {κ : SortKind} {O : KeyOrd} {rk : Keyed → O.α} {S : Keyed → Prop} {st : SortSt} {a b : Array Keyed}
def Gs (st st' : SortSt) : Prop := ∃ g, st' = setGal st g
theorem Gs.refl : Gs st st := ⟨gallopOf st, rfl⟩
theorem Gs.kind {st' : SortSt} (h : Gs st st') : kindOf st' = kindOf st := by obtain ⟨g, rfl⟩ := h; rfl
theorem Gs.set {st' : SortSt} (h : Gs st st') (g : Nat) : Gs st (SortSt.mk' (kindOf st') (arrOf st') (pendingOf st') g (failedOf st')) := by obtain ⟨g', rfl⟩ := h; exact ⟨g, rfl⟩
/-- what both merges are handed -/
structure Two (O : KeyOrd) (rk : Keyed → O.α) (S : Keyed → Prop) (a b : Array Keyed) : Prop where
  sa : ∀ i, i < a.size → S (kyd a i)
  sb : ∀ i, i < b.size → S (kyd b i)
  ua : Up rk a 0 a.size
  ub : Up rk b 0 b.size
  pa : 0 < a.size
  pb : 0 < b.size
  first : O.blt (rk (kyd b 0)) (rk (kyd a 0)) = true
  last : ∀ i, i < b.size → O.blt (rk (kyd b i)) (rk (kyd a (a.size - 1))) = true
theorem Two.galA (T : Two O rk S a b) {ia na : Nat} {key : Keyed} (hn : ia + na ≤ a.size) : ∀ i j, i ≤ j → j < na → bey O rk false key (kyd a (ia + j)) = true → bey O rk false key (kyd a (ia + i)) = true := fun i j hij hj h => by
  simp only [bey, Bool.false_eq_true, if_false, Bool.not_eq_true'] at h ⊢
  exact KeyOrd.kle_trans (O := O) (T.ua (ia + i) (ia + j) (Nat.zero_le _) (by omega) (by omega)) h
theorem Two.galB (T : Two O rk S a b) {ib nb : Nat} {key : Keyed} (hn : ib + nb ≤ b.size) : ∀ i j, i ≤ j → j < nb → bey O rk true key (kyd b (ib + j)) = true → bey O rk true key (kyd b (ib + i)) = true := fun i j hij hj h => by
  simp only [bey, if_true] at h ⊢
  exact KeyOrd.klt_of_kle_of_klt (O := O) (T.ub (ib + i) (ib + j) (Nat.zero_le _) (by omega) (by omega)) h
set_option maxHeartbeats 4000000 in
theorem ws_mgLo (hC : Cm prog w A s κ O rk S) {Q : Array Keyed → SortSt → Prop} (hk : kindOf st = κ) (T : Two O rk S a b)
    (h : ∀ r st', Gs st st' → r.toList = mrg O rk a.toList b.toList → Q r st') : wpS (model prog w) A E s (mgLoT a b) Q st := by
  refine wpS_bind (ws_rule ?_)
  refine wpS_bind (ws_elem (kyd_at T.pb) ?_)
  have I0 : MI O rk a b #[kyd b 0] 0 1 := MI.start.b1 T.pb T.pa T.first
  dsimp -zeta only
  by_cases e1 : 1 = b.size
  · rw [if_pos (by simpa using e1)]
    exact wpS_pure (h _ _ .refl (I0.doneB e1))
  rw [if_neg (by simpa using e1)]
  by_cases e2 : 0 + 1 = a.size
  · rw [if_pos (by simpa using e2)]
    exact wpS_pure (h _ _ .refl (I0.lastA e2 T.last))
  rw [if_neg (by simpa using e2)]
  have pa := T.pa
  have pb := T.pb
  refine wpS_bind (wpS_get ?_)
  refine wpS_bind (wpS_mono (wpS_forRange (I := fun x c st' => ∃ out ia ib g, c = (none, out, ia, ib, g) ∧ MI O rk a b out ia ib ∧ ia + 1 < a.size ∧ ib < b.size ∧ x + 1 ≤ ia + ib ∧ Gs st st')
    (Q := fun c st' => ∃ r c', c = (some r, c') ∧ r.toList = mrg O rk a.toList b.toList ∧ Gs st st') ?_ ?_ ?_) ?_)
  · rintro x c st' _ hx ⟨out, ia, ib, g, rfl, I, ha, hb, hp, hG⟩
    have hk' : kindOf st' = κ := hG.kind.trans hk
    refine wpS_bind (wpS_mono (wpS_forRange (I := fun y c st2 => st2 = st' ∧ ∃ out ja jb ac bc, c = (none, out, ja, jb, ac, bc) ∧ MI O rk a b out ja jb ∧ ja + 1 < a.size ∧ jb < b.size ∧ ia + ib + y ≤ ja + jb)
      (Q := fun c st2 => st2 = st' ∧ ((∃ r c', c = (some r, c') ∧ r.toList = mrg O rk a.toList b.toList) ∨ ∃ out ja jb ac bc, c = (none, out, ja, jb, ac, bc) ∧ MI O rk a b out ja jb ∧ ja + 1 < a.size ∧ jb < b.size ∧ ia + ib + 1 ≤ ja + jb)) ?_ ?_ ?_) ?_)
    · rintro y c st2 _ hy ⟨rfl, out2, ja, jb, ac, bc, rfl, I2, ha2, hb2, hp2⟩
      dsimp only
      refine wpS_bind (ws_elem (kyd_at hb2) (wpS_bind (ws_elem (kyd_at (by omega)) (wpS_bind (ws_lt hC hk' (T.sb _ hb2) (T.sa _ (by omega)) ?_)))))
      cases hl : O.blt (rk (kyd b jb)) (rk (kyd a ja)) with
      | true =>
        dsimp only
        rw [if_pos rfl]
        refine wpS_bind (ws_elem (kyd_at hb2) ?_)
        have I3 := I2.b1 hb2 (by omega) hl
        by_cases e3 : jb + 1 = b.size
        · rw [if_pos (by simpa using e3)]
          exact wpS_pure ⟨rfl, .inl ⟨_, _, rfl, I3.doneB e3⟩⟩
        · rw [if_neg (by simpa using e3)]
          split
          · exact wpS_pure ⟨rfl, .inr ⟨_, _, _, _, _, rfl, I3, ha2, by omega, by omega⟩⟩
          · exact wpS_pure ⟨rfl, _, _, _, _, _, rfl, I3, ha2, by omega, by omega⟩
      | false =>
        dsimp only
        rw [if_neg (by simp)]
        refine wpS_bind (ws_elem (kyd_at (by omega)) ?_)
        have I3 := I2.a1 hb2 (by omega) hl
        by_cases e3 : ja + 1 + 1 = a.size
        · rw [if_pos (by simpa using e3)]
          exact wpS_pure ⟨rfl, .inl ⟨_, _, rfl, I3.lastA e3 T.last⟩⟩
        · rw [if_neg (by simpa using e3)]
          split
          · exact wpS_pure ⟨rfl, .inr ⟨_, _, _, _, _, rfl, I3, by omega, hb2, by omega⟩⟩
          · exact wpS_pure ⟨rfl, _, _, _, _, _, rfl, I3, by omega, hb2, by omega⟩
    · rintro c st2 ⟨rfl, out2, ja, jb, ac, bc, rfl, I2, ha2, hb2, hp2⟩
      exact ⟨rfl, .inr ⟨_, _, _, _, _, rfl, I2, ha2, hb2, by omega⟩⟩
    · exact ⟨rfl, out, ia, ib, 0, 0, rfl, I, ha, hb, by omega⟩
    · rintro c st2 ⟨rfl, ⟨r, c', rfl, hr⟩ | ⟨out2, ja, jb, ac, bc, rfl, I2, ha2, hb2, hp2⟩⟩
      · exact wpS_pure ⟨_, _, rfl, hr, hG⟩
      refine wpS_bind (ws_rule ?_)
      refine wpS_bind (wpS_mono (wpS_forRange (I := fun y c st3 => Gs st st3 ∧ ∃ out ja jb g ac bc, c = (none, out, ja, jb, g, ac, bc) ∧ MI O rk a b out ja jb ∧ ja + 1 < a.size ∧ jb < b.size ∧ ia + ib + 1 ≤ ja + jb)
        (Q := fun c st3 => Gs st st3 ∧ ((∃ r c', c = (some r, c') ∧ r.toList = mrg O rk a.toList b.toList) ∨ ∃ out ja jb g ac bc, c = (none, out, ja, jb, g, ac, bc) ∧ MI O rk a b out ja jb ∧ ja + 1 < a.size ∧ jb < b.size ∧ ia + ib + 1 ≤ ja + jb)) ?_ ?_ ?_) ?_)
      · rintro y c st3 _ hy ⟨hG3, out3, ja, jb, g3, ac, bc, rfl, I3, ha3, hb3, hp3⟩
        dsimp -zeta only
        have gal1 : ∀ (g4 : Nat) (Q' : Option Nat → SortSt → Prop), (∀ k, k ≤ a.size - ja → (∀ i, i < k → bey O rk false (kyd b jb) (kyd a (ja + i)) = true) → (∀ i, k ≤ i → i < a.size - ja → bey O rk false (kyd b jb) (kyd a (ja + i)) = false) → Q' (some k) (SortSt.mk' (kindOf st3) (arrOf st3) (pendingOf st3) g4 (failedOf st3))) →
            wpS (model prog w) A E s (gallopT false (kyd b jb) a ja (a.size - ja) 0) Q' (SortSt.mk' (kindOf st3) (arrOf st3) (pendingOf st3) g4 (failedOf st3)) := fun g4 Q' hq =>
          ws_gallop hC (hG3.kind.trans hk) (T.sb _ hb3) (by omega) (fun i hi => T.sa _ (by omega)) (by omega) (T.galA (by omega)) hq
        dsimp only
        by_cases hg1 : g3 > 1
        case' pos => rw [if_pos hg1]
        case' neg => rw [if_neg hg1]
        all_goals
          refine wpS_bind (wpS_modify ?_)
          refine wpS_bind (ws_elem (kyd_at hb3) (wpS_bind (gal1 _ _ fun k hk1 hk2 hk3 => ?_)))
          have I4 := I3.as hb3 k (by omega) hk2
          dsimp only
          by_cases hk0 : k > 0
          case' pos =>
            rw [if_pos hk0]
            by_cases e3 : ja + k + 1 = a.size
            · rw [if_pos (by simpa using e3)]
              exact wpS_pure ⟨hG3.set _, .inl ⟨_, _, rfl, I4.lastA e3 T.last⟩⟩
            rw [if_neg (by simpa using e3)]
            by_cases e4 : ja + k = a.size
            · rw [if_pos (by simpa using e4)]
              exact wpS_pure ⟨hG3.set _, .inl ⟨_, _, rfl, I4.doneA e4⟩⟩
            rw [if_neg (by simpa using e4)]
            have hb5 : O.blt (rk (kyd b jb)) (rk (kyd a (ja + k))) = true := by simpa [bey] using hk3 k (Nat.le_refl _) (by omega)
            have ha5 : ja + k + 1 < a.size := by omega
            have hp5 : ia + ib + 1 ≤ ja + k + jb := by omega
            generalize out3 ++ a.extract ja (ja + k) = out5 at I4 ⊢
            generalize ja + k = ja5 at I4 hb5 ha5 hp5 ⊢
            clear gal1 hk1 hk2 hk3
          case' neg =>
            rw [if_neg hk0]
            have hb5 : O.blt (rk (kyd b jb)) (rk (kyd a ja)) = true := by simpa [bey] using hk3 0 (by omega) (by omega)
            have ha5 : ja + 1 < a.size := ha3
            have hp5 : ia + ib + 1 ≤ ja + jb := hp3
            clear I4
            have I4 := I3
            revert I4
            generalize out3 = out5
            intro I4
            clear gal1 hk1 hk2 hk3
            revert I4 hb5 ha5 hp5
            generalize ja = ja5
            intro hb5 ha5 hp5 I4
          all_goals
            refine wpS_bind (ws_elem (kyd_at hb3) ?_)
            have I5 := I4.b1 hb3 (by omega) hb5
            by_cases e5 : jb + 1 = b.size
            · rw [if_pos (by simpa using e5)]
              exact wpS_pure ⟨hG3.set _, .inl ⟨_, _, rfl, I5.doneB e5⟩⟩
            rw [if_neg (by simpa using e5)]
            refine wpS_bind (ws_elem (kyd_at (by omega)) (wpS_bind (ws_gallop hC (hG3.kind.trans hk) (T.sa _ (by omega)) (by omega) (fun i hi => T.sb _ (by omega)) (by omega) (T.galB (by omega)) fun k2 hk1 hk2 hk3 => ?_)))
            have I6 := I5.bs (by omega) k2 (by omega) hk2
            dsimp only
            by_cases hk20 : k2 > 0
            case' pos =>
              rw [if_pos hk20]
              by_cases e6 : jb + 1 + k2 = b.size
              · rw [if_pos (by simpa using e6)]
                exact wpS_pure ⟨hG3.set _, .inl ⟨_, _, rfl, I6.doneB e6⟩⟩
              rw [if_neg (by simpa using e6)]
              have hb7 : O.blt (rk (kyd b (jb + 1 + k2))) (rk (kyd a ja5)) = false := by simpa [bey] using hk3 k2 (Nat.le_refl _) (by omega)
              have hj7 : jb + 1 + k2 < b.size := by omega
              have hp7 : ia + ib + 1 ≤ ja5 + 1 + (jb + 1 + k2) := by omega
              generalize out5.push (kyd b jb) ++ b.extract (jb + 1) (jb + 1 + k2) = out7 at I6 ⊢
              generalize jb + 1 + k2 = jb7 at I6 hb7 hj7 hp7 ⊢
            case' neg =>
              rw [if_neg hk20]
              have hb7 : O.blt (rk (kyd b (jb + 1))) (rk (kyd a ja5)) = false := by simpa [bey] using hk3 0 (by omega) (by omega)
              have hj7 : jb + 1 < b.size := by omega
              have hp7 : ia + ib + 1 ≤ ja5 + 1 + (jb + 1) := by omega
              clear I6
              have I6 := I5
              clear I5 I4 hk1 hk2 hk3 e5
              revert I6 hb7 hj7 hp7
              generalize out5.push (kyd b jb) = out7
              generalize jb + 1 = jb7
              intro hb7 hj7 hp7 I6
            all_goals
              refine wpS_bind (ws_elem (kyd_at (by omega)) ?_)
              have I7 := I6.a1 hj7 (by omega) hb7
              by_cases e7 : ja5 + 1 + 1 = a.size
              · rw [if_pos (by simpa using e7)]
                exact wpS_pure ⟨hG3.set _, .inl ⟨_, _, rfl, I7.lastA e7 T.last⟩⟩
              rw [if_neg (by simpa using e7)]
              split
              · exact wpS_pure ⟨hG3.set _, .inr ⟨_, _, _, _, _, _, rfl, I7, by omega, hj7, hp7⟩⟩
              · exact wpS_pure ⟨hG3.set _, _, _, _, _, _, _, rfl, I7, by omega, hj7, hp7⟩
      · rintro c st3 ⟨hG3, out3, ja, jb, g3, ac, bc, rfl, I3, ha3, hb3, hp3⟩
        exact ⟨hG3, .inr ⟨_, _, _, _, _, _, rfl, I3, ha3, hb3, hp3⟩⟩
      · exact ⟨hG, _, _, _, _, _, _, rfl, I2, ha2, hb2, hp2⟩
      · rintro c st3 ⟨hG3, ⟨r, c', rfl, hr⟩ | ⟨out3, ja, jb, g3, ac, bc, rfl, I3, ha3, hb3, hp3⟩⟩
        · exact wpS_pure ⟨_, _, rfl, hr, hG3⟩
        · refine wpS_bind (wpS_modify (wpS_pure ⟨out3, ja, jb, _, rfl, I3, ha3, hb3, by omega, hG3.set _⟩))
  · rintro c st' ⟨out, ia, ib, g, rfl, I, ha, hb, hp, hG⟩
    exfalso; omega
  · exact ⟨_, _, _, _, rfl, I0, by omega, by omega, by omega, .refl⟩
  · rintro c st' ⟨r, c', rfl, hr, hG⟩
    exact wpS_pure (h r st' hG hr)
end
end L2

namespace L2
open PySem PySem.Spec PyProof.Rows
section
variable {prog : Program} {w : World} {A : Around} {E : Value → Shared → Prop} {s : Shared} {κ : SortKind} {O : KeyOrd} {rk : Keyed → O.α} {S : Keyed → Prop} {st : SortSt} {a b out : Array Keyed} {na nb : Nat}
theorem ext_to {a : Array Keyed} {n : Nat} : (a.extract 0 n).toList = a.toList.take n := by
  rw [Array.toList_extract, List.extract_eq_take_drop]; simp
theorem MH.doneA (h : MH O rk a b out na nb) (e : na = 0) : (a.extract 0 na ++ b.extract 0 nb ++ out.reverse).toList = mrg O rk a.toList b.toList := by
  unfold MH at h
  subst e
  rw [Array.toList_append, Array.toList_append, ext_to, ext_to, Array.toList_reverse, ← h, List.take_zero, nil_mrg, List.nil_append]
theorem MH.doneB (h : MH O rk a b out na nb) (e : nb = 0) : (a.extract 0 na ++ b.extract 0 nb ++ out.reverse).toList = mrg O rk a.toList b.toList := by
  unfold MH at h
  subst e
  rw [Array.toList_append, Array.toList_append, ext_to, ext_to, Array.toList_reverse, ← h, List.take_zero, mrg_nil, List.append_nil]
theorem MH.firstB (T : Two O rk S a b) (h : MH O rk a b out na nb) (ha : 0 < na) (e : nb = 1) : (b.extract 0 nb ++ a.extract 0 na ++ out.reverse).toList = mrg O rk a.toList b.toList := by
  unfold MH at h
  subst e
  have e1 : b.toList.take 1 = [kyd b 0] := by rw [take_kyd T.pb]; simp
  have e2 : a.toList.take na = kyd a 0 :: (a.toList.drop 1).take (na - 1) := by
    obtain ⟨m, rfl⟩ : ∃ m, na = m + 1 := ⟨na - 1, by omega⟩
    have := drop_kyd T.pa
    rw [List.drop_zero] at this
    rw [this]; simp
  rw [Array.toList_append, Array.toList_append, ext_to, ext_to, Array.toList_reverse, ← h, e1, e2, mrg_r T.first, mrg_nil]
  rfl
theorem Two.belowB (T : Two O rk S a b) {i j : Nat} {x : Keyed} (hij : i ≤ j) (hj : j < b.size) (h : O.blt (rk (kyd b j)) (rk x) = true) : O.blt (rk (kyd b i)) (rk x) = true :=
  KeyOrd.klt_of_kle_of_klt (O := O) (T.ub i j (Nat.zero_le _) hij (by omega)) h
theorem Two.belowA (T : Two O rk S a b) {i j : Nat} {x : Keyed} (hij : i ≤ j) (hj : j < a.size) (h : O.blt (rk x) (rk (kyd a j)) = false) : O.blt (rk x) (rk (kyd a i)) = false :=
  KeyOrd.kle_trans (O := O) (T.ua i j (Nat.zero_le _) hij (by omega)) h
theorem rev_more {a : Array Keyed} {t k : Nat} (h : t + k < a.size) : out ++ (a.extract t (t + (k + 1))).reverse = (out.push (kyd a (t + k))) ++ (a.extract t (t + k)).reverse := by
  apply Array.toList_inj.mp
  have e := ext_more (out := #[]) (a := a) (i := t) (k := k) h
  have e' : a.extract t (t + (k + 1)) = (a.extract t (t + k)).push (kyd a (t + k)) := by
    have z : ∀ x : Array Keyed, #[] ++ x = x := fun x => by simp
    rw [z, z] at e; exact e
  rw [e']; simp
theorem MH.as (T : Two O rk S a b) {t : Nat} (hb : ∀ i, i < nb → i < b.size → ∀ j, t ≤ j → j < a.size → O.blt (rk (kyd b i)) (rk (kyd a j)) = true) : ∀ (k : Nat) {out : Array Keyed}, MH O rk a b out (t + k) nb → t + k ≤ a.size → MH O rk a b (out ++ (a.extract t (t + k)).reverse) t nb
  | 0, out, h, _ => by
    have : out ++ (a.extract t (t + 0)).reverse = out := by apply Array.toList_inj.mp; simp
    rw [this]; exact h
  | k + 1, out, h, hz => by
    rw [rev_more (by omega)]
    exact MH.as T hb k (MH.a1 (na := t + k) h (by omega) fun i h1 h2 => hb i h1 h2 (t + k) (by omega) (by omega)) (by omega)
theorem MH.bs (T : Two O rk S a b) {t : Nat} (hb : ∀ i, i < na → i < a.size → ∀ j, t ≤ j → j < b.size → O.blt (rk (kyd b j)) (rk (kyd a i)) = false) : ∀ (k : Nat) {out : Array Keyed}, MH O rk a b out na (t + k) → t + k ≤ b.size → MH O rk a b (out ++ (b.extract t (t + k)).reverse) na t
  | 0, out, h, _ => by
    have : out ++ (b.extract t (t + 0)).reverse = out := by apply Array.toList_inj.mp; simp
    rw [this]; exact h
  | k + 1, out, h, hz => by
    rw [rev_more (by omega)]
    exact MH.bs T hb k (MH.b1 (nb := t + k) h (by omega) fun i h1 h2 => hb i h1 h2 (t + k) (by omega) (by omega)) (by omega)
theorem MH.a1' (T : Two O rk S a b) (h : MH O rk a b out na nb) (ha : 0 < na) (hz : na ≤ a.size) (hb : 0 < nb) (hz2 : nb ≤ b.size) (hl : O.blt (rk (kyd b (nb - 1))) (rk (kyd a (na - 1))) = true) : MH O rk a b (out.push (kyd a (na - 1))) (na - 1) nb :=
  MH.a1 (by rw [show na - 1 + 1 = na by omega]; exact h) (by omega) fun i h1 h2 => T.belowB (by omega) (by omega) hl
theorem MH.b1' (T : Two O rk S a b) (h : MH O rk a b out na nb) (ha : 0 < na) (hz : na ≤ a.size) (hb : 0 < nb) (hz2 : nb ≤ b.size) (hl : O.blt (rk (kyd b (nb - 1))) (rk (kyd a (na - 1))) = false) : MH O rk a b (out.push (kyd b (nb - 1))) na (nb - 1) :=
  MH.b1 (by rw [show nb - 1 + 1 = nb by omega]; exact h) (by omega) fun i h1 h2 => T.belowA (by omega) (by omega) hl
theorem MH.as' (T : Two O rk S a b) {t : Nat} (h : MH O rk a b out na nb) (ht : t ≤ na) (hz : na ≤ a.size) (hb : 0 < nb) (hz2 : nb ≤ b.size) (hq : ∀ i, t ≤ i → i < na → bey O rk false (kyd b (nb - 1)) (kyd a (0 + i)) = false) : MH O rk a b (out ++ (a.extract t na).reverse) t nb := by
  by_cases e : t = na
  · subst e
    have : out ++ (a.extract t t).reverse = out := by apply Array.toList_inj.mp; simp
    rw [this]; exact h
  have e2 : t + (na - t) = na := by omega
  have := MH.as T (t := t) (nb := nb) (a := a) (b := b) (fun i h1 h2 j h3 h4 => ?_) (na - t) (out := out) (by rw [e2]; exact h) (by omega)
  · rw [e2] at this; exact this
  · have q := hq t (Nat.le_refl _) (by omega)
    simp only [bey, Bool.false_eq_true, if_false, Bool.not_eq_false', Nat.zero_add] at q
    exact T.belowB (j := nb - 1) (by omega) (by omega) (KeyOrd.klt_of_klt_of_kle (O := O) q (T.ua t j (Nat.zero_le _) h3 (by omega)))
theorem MH.bs' (T : Two O rk S a b) {t : Nat} (h : MH O rk a b out na nb) (ht : t ≤ nb) (hz : nb ≤ b.size) (ha : 0 < na) (hz2 : na ≤ a.size) (hq : ∀ i, t ≤ i → i < nb → bey O rk true (kyd a (na - 1)) (kyd b (0 + i)) = false) : MH O rk a b (out ++ (b.extract t nb).reverse) na t := by
  by_cases e : t = nb
  · subst e
    have : out ++ (b.extract t t).reverse = out := by apply Array.toList_inj.mp; simp
    rw [this]; exact h
  have e2 : t + (nb - t) = nb := by omega
  have := MH.bs T (t := t) (na := na) (a := a) (b := b) (fun i h1 h2 j h3 h4 => ?_) (nb - t) (out := out) (by rw [e2]; exact h) (by omega)
  · rw [e2] at this; exact this
  · have q := hq t (Nat.le_refl _) (by omega)
    simp only [bey, if_true, Nat.zero_add] at q
    exact T.belowA (j := na - 1) (by omega) (by omega) (KeyOrd.kle_trans (O := O) q (T.ub t j (Nat.zero_le _) h3 (by omega)))
set_option maxHeartbeats 4000000 in
theorem ws_mgHi (hC : Cm prog w A s κ O rk S) {Q : Array Keyed → SortSt → Prop} (hk : kindOf st = κ) (T : Two O rk S a b)
    (h : ∀ r st', Gs st st' → r.toList = mrg O rk a.toList b.toList → Q r st') : wpS (model prog w) A E s (mgHiT a b) Q st := by
  have pa := T.pa
  have pb := T.pb
  refine wpS_bind (ws_rule ?_)
  refine wpS_bind (ws_elem (kyd_at (by omega)) ?_)
  have I0 : MH O rk a b #[kyd a (a.size - 1)] (a.size - 1) b.size := by
    have e : a.size - 1 + 1 = a.size := by omega
    exact MH.a1 (out := #[]) (by rw [e]; exact MH.start) (by omega) fun i h1 h2 => T.last i h2
  dsimp -zeta only
  by_cases e1 : a.size - 1 = 0
  · rw [if_pos (by simpa using e1)]
    exact wpS_pure (h _ _ .refl (I0.doneA e1))
  rw [if_neg (by simpa using e1)]
  by_cases e2 : b.size = 1
  · rw [if_pos (by simpa using e2)]
    exact wpS_pure (h _ _ .refl (I0.firstB T (by omega) e2))
  rw [if_neg (by simpa using e2)]
  refine wpS_bind (wpS_get ?_)
  refine wpS_bind (wpS_mono (wpS_forRange (I := fun x c st' => ∃ out na nb g, c = (none, na, nb, out, g) ∧ MH O rk a b out na nb ∧ 0 < na ∧ 1 < nb ∧ na ≤ a.size ∧ nb ≤ b.size ∧ na + nb + x + 1 ≤ a.size + b.size ∧ Gs st st')
    (Q := fun c st' => ∃ r c', c = (some r, c') ∧ r.toList = mrg O rk a.toList b.toList ∧ Gs st st') ?_ ?_ ?_) ?_)
  · rintro x c st' _ hx ⟨out, na, nb, g, rfl, I, ha, hb, hza, hzb, hp, hG⟩
    have hk' : kindOf st' = κ := hG.kind.trans hk
    refine wpS_bind (wpS_mono (wpS_forRange (I := fun y c st2 => st2 = st' ∧ ∃ out ma mb ac bc, c = (none, ma, mb, out, ac, bc) ∧ MH O rk a b out ma mb ∧ 0 < ma ∧ 1 < mb ∧ ma ≤ a.size ∧ mb ≤ b.size ∧ ma + mb + y ≤ na + nb)
      (Q := fun c st2 => st2 = st' ∧ ((∃ r c', c = (some r, c') ∧ r.toList = mrg O rk a.toList b.toList) ∨ ∃ out ma mb ac bc, c = (none, ma, mb, out, ac, bc) ∧ MH O rk a b out ma mb ∧ 0 < ma ∧ 1 < mb ∧ ma ≤ a.size ∧ mb ≤ b.size ∧ ma + mb + 1 ≤ na + nb)) ?_ ?_ ?_) ?_)
    · rintro y c st2 _ hy ⟨rfl, out2, ma, mb, ac, bc, rfl, I2, ha2, hb2, za2, zb2, hp2⟩
      dsimp only
      refine wpS_bind (ws_elem (kyd_at (by omega)) (wpS_bind (ws_elem (kyd_at (by omega)) (wpS_bind (ws_lt hC hk' (T.sb _ (by omega)) (T.sa _ (by omega)) ?_)))))
      cases hl : O.blt (rk (kyd b (mb - 1))) (rk (kyd a (ma - 1))) with
      | true =>
        dsimp only
        rw [if_pos rfl]
        refine wpS_bind (ws_elem (kyd_at (by omega)) ?_)
        have I3 := I2.a1' T ha2 za2 (by omega) zb2 hl
        by_cases e3 : ma - 1 = 0
        · rw [if_pos (by simpa using e3)]
          exact wpS_pure ⟨rfl, .inl ⟨_, _, rfl, I3.doneA e3⟩⟩
        · rw [if_neg (by simpa using e3)]
          split
          · exact wpS_pure ⟨rfl, .inr ⟨_, _, _, _, _, rfl, I3, by omega, hb2, by omega, zb2, by omega⟩⟩
          · exact wpS_pure ⟨rfl, _, _, _, _, _, rfl, I3, by omega, hb2, by omega, zb2, by omega⟩
      | false =>
        dsimp only
        rw [if_neg (by simp)]
        refine wpS_bind (ws_elem (kyd_at (by omega)) ?_)
        have I3 := I2.b1' T ha2 za2 (by omega) zb2 hl
        by_cases e3 : mb - 1 = 1
        · rw [if_pos (by simpa using e3)]
          exact wpS_pure ⟨rfl, .inl ⟨_, _, rfl, I3.firstB T ha2 e3⟩⟩
        · rw [if_neg (by simpa using e3)]
          split
          · exact wpS_pure ⟨rfl, .inr ⟨_, _, _, _, _, rfl, I3, ha2, by omega, za2, by omega, by omega⟩⟩
          · exact wpS_pure ⟨rfl, _, _, _, _, _, rfl, I3, ha2, by omega, za2, by omega, by omega⟩
    · rintro c st2 ⟨rfl, out2, ma, mb, ac, bc, rfl, I2, ha2, hb2, za2, zb2, hp2⟩
      exact ⟨rfl, .inr ⟨_, _, _, _, _, rfl, I2, ha2, hb2, za2, zb2, by omega⟩⟩
    · exact ⟨rfl, out, na, nb, 0, 0, rfl, I, ha, hb, hza, hzb, by omega⟩
    · rintro c st2 ⟨rfl, ⟨r, c', rfl, hr⟩ | ⟨out2, ma, mb, ac, bc, rfl, I2, ha2, hb2, za2, zb2, hp2⟩⟩
      · exact wpS_pure ⟨_, _, rfl, hr, hG⟩
      refine wpS_bind (ws_rule ?_)
      refine wpS_bind (wpS_mono (wpS_forRange (I := fun y c st3 => Gs st st3 ∧ ∃ out ma mb g ac bc, c = (none, ma, mb, out, g, ac, bc) ∧ MH O rk a b out ma mb ∧ 0 < ma ∧ 1 < mb ∧ ma ≤ a.size ∧ mb ≤ b.size ∧ ma + mb + 1 ≤ na + nb)
        (Q := fun c st3 => Gs st st3 ∧ ((∃ r c', c = (some r, c') ∧ r.toList = mrg O rk a.toList b.toList) ∨ ∃ out ma mb g ac bc, c = (none, ma, mb, out, g, ac, bc) ∧ MH O rk a b out ma mb ∧ 0 < ma ∧ 1 < mb ∧ ma ≤ a.size ∧ mb ≤ b.size ∧ ma + mb + 1 ≤ na + nb)) ?_ ?_ ?_) ?_)
      · rintro y c st3 _ hy ⟨hG3, out3, ma, mb, g3, ac, bc, rfl, I3, ha3, hb3, za3, zb3, hp3⟩
        have gal1 : ∀ (g4 : Nat) (Q' : Option Nat → SortSt → Prop), (∀ k, k ≤ ma → (∀ i, i < k → bey O rk false (kyd b (mb - 1)) (kyd a (0 + i)) = true) → (∀ i, k ≤ i → i < ma → bey O rk false (kyd b (mb - 1)) (kyd a (0 + i)) = false) → Q' (some k) (SortSt.mk' (kindOf st3) (arrOf st3) (pendingOf st3) g4 (failedOf st3))) →
            wpS (model prog w) A E s (gallopT false (kyd b (mb - 1)) a 0 ma (ma - 1)) Q' (SortSt.mk' (kindOf st3) (arrOf st3) (pendingOf st3) g4 (failedOf st3)) := fun g4 Q' hq =>
          ws_gallop hC (hG3.kind.trans hk) (T.sb _ (by omega)) (by omega) (fun i hi => T.sa _ (by omega)) (by omega) (T.galA (by omega)) hq
        dsimp only
        by_cases hg1 : g3 > 1
        case' pos => rw [if_pos hg1]
        case' neg => rw [if_neg hg1]
        all_goals
          refine wpS_bind (wpS_modify ?_)
          refine wpS_bind (ws_elem (kyd_at (by omega)) (wpS_bind (gal1 _ _ fun t hk1 hk2 hk3 => ?_)))
          have I4 := I3.as' T hk1 za3 (by omega) zb3 hk3
          have hb5 : ∀ i, i < t → O.blt (rk (kyd b (mb - 1))) (rk (kyd a i)) = false := fun i hi => by simpa [bey] using hk2 i hi
          dsimp only
          by_cases hk0 : ma - t > 0
          case' pos =>
            rw [if_pos hk0]
            by_cases e3 : t = 0
            · rw [if_pos (by simpa using e3)]
              exact wpS_pure ⟨hG3.set _, .inl ⟨_, _, rfl, I4.doneA e3⟩⟩
            rw [if_neg (by simpa using e3)]
            have ha5 : 0 < t := by omega
            have za5 : t ≤ a.size := by omega
            have hp5 : t + mb + 1 ≤ na + nb := by omega
            generalize out3 ++ (a.extract t ma).reverse = out5 at I4 ⊢
            clear gal1 hk1 hk2 hk3
          case' neg =>
            rw [if_neg hk0]
            have e0 : t = ma := by omega
            subst e0
            have e9 : out3 ++ (a.extract t t).reverse = out3 := by apply Array.toList_inj.mp; simp
            rw [e9] at I4
            have ha5 : 0 < t := ha3
            have za5 : t ≤ a.size := za3
            have hp5 : t + mb + 1 ≤ na + nb := hp3
            clear gal1 hk1 hk2 hk3 I3
            revert I4
            generalize out3 = out5
            intro I4
          all_goals
            refine wpS_bind (ws_elem (kyd_at (by omega)) ?_)
            have I5 := I4.b1' T ha5 za5 (by omega) zb3 (hb5 _ (by omega))
            by_cases e5 : mb - 1 = 1
            · rw [if_pos (by simpa using e5)]
              exact wpS_pure ⟨hG3.set _, .inl ⟨_, _, rfl, I5.firstB T ha5 e5⟩⟩
            rw [if_neg (by simpa using e5)]
            refine wpS_bind (ws_elem (kyd_at (by omega)) (wpS_bind (ws_gallop hC (hG3.kind.trans hk) (T.sa _ (by omega)) (by omega) (fun i hi => T.sb _ (by omega)) (by omega) (T.galB (by omega)) fun u hk1 hk2 hk3 => ?_)))
            have I6 := I5.bs' T hk1 (by omega) ha5 za5 hk3
            have hb7 : ∀ i, i < u → O.blt (rk (kyd b i)) (rk (kyd a (t - 1))) = true := fun i hi => by simpa [bey] using hk2 i hi
            dsimp only
            by_cases hk20 : mb - 1 - u > 0
            case' pos =>
              rw [if_pos hk20]
              by_cases e6 : u = 1
              · rw [if_pos (by simpa using e6)]
                exact wpS_pure ⟨hG3.set _, .inl ⟨_, _, rfl, I6.firstB T ha5 e6⟩⟩
              rw [if_neg (by simpa using e6)]
              by_cases e7 : u = 0
              · rw [if_pos (by simpa using e7)]
                exact wpS_pure ⟨hG3.set _, .inl ⟨_, _, rfl, I6.doneB e7⟩⟩
              rw [if_neg (by simpa using e7)]
              have hj7 : 1 < u := by omega
              have zj7 : u ≤ b.size := by omega
              have hp7 : t + u + 1 ≤ na + nb := by omega
              generalize out5.push (kyd b (mb - 1)) ++ (b.extract u (mb - 1)).reverse = out7 at I6 ⊢
              clear hk1 hk2 hk3
            case' neg =>
              rw [if_neg hk20]
              have e0 : u = mb - 1 := by omega
              subst e0
              have e9 : out5.push (kyd b (mb - 1)) ++ (b.extract (mb - 1) (mb - 1)).reverse = out5.push (kyd b (mb - 1)) := by apply Array.toList_inj.mp; simp
              rw [e9] at I6
              have hj7 : 1 < mb - 1 := by omega
              have zj7 : mb - 1 ≤ b.size := by omega
              have hp7 : t + (mb - 1) + 1 ≤ na + nb := by omega
              clear hk1 hk2 hk3 I5 I4
              revert I6 hb7 hj7 zj7 hp7
              generalize out5.push (kyd b (mb - 1)) = out7
              clear hk20 e5 e9
              generalize mb - 1 = u
              intro I6 hb7 hj7 zj7 hp7
            all_goals
              refine wpS_bind (ws_elem (kyd_at (by omega)) ?_)
              have I7 := I6.a1' T ha5 za5 (by omega) zj7 (hb7 _ (by omega))
              by_cases e7 : t - 1 = 0
              · rw [if_pos (by simpa using e7)]
                exact wpS_pure ⟨hG3.set _, .inl ⟨_, _, rfl, I7.doneA e7⟩⟩
              rw [if_neg (by simpa using e7)]
              split
              · exact wpS_pure ⟨hG3.set _, .inr ⟨_, _, _, _, _, _, rfl, I7, by omega, hj7, by omega, zj7, by omega⟩⟩
              · exact wpS_pure ⟨hG3.set _, _, _, _, _, _, _, rfl, I7, by omega, hj7, by omega, zj7, by omega⟩
      · rintro c st3 ⟨hG3, out3, ja, jb, g3, ac, bc, rfl, I3, ha3, hb3, za3, zb3, hp3⟩
        exact ⟨hG3, .inr ⟨_, _, _, _, _, _, rfl, I3, ha3, hb3, za3, zb3, hp3⟩⟩
      · exact ⟨hG, _, _, _, _, _, _, rfl, I2, ha2, hb2, za2, zb2, hp2⟩
      · rintro c st3 ⟨hG3, ⟨r, c', rfl, hr⟩ | ⟨out3, ja, jb, g3, ac, bc, rfl, I3, ha3, hb3, za3, zb3, hp3⟩⟩
        · exact wpS_pure ⟨_, _, rfl, hr, hG3⟩
        · refine wpS_bind (wpS_modify (wpS_pure ⟨out3, ja, jb, _, rfl, I3, ha3, hb3, za3, zb3, by omega, hG3.set _⟩))
  · rintro c st' ⟨out, ia, ib, g, rfl, I, ha, hb, hza, hzb, hp, hG⟩
    exfalso; omega
  · exact ⟨_, _, _, _, rfl, I0, by omega, by omega, by omega, by omega, by omega, .refl⟩
  · rintro c st' ⟨r, c', rfl, hr, hG⟩
    exact wpS_pure (h r st' hG hr)
end
end L2

namespace L2
open PySem PySem.Spec PyProof.Rows
section
variable {prog : Program} {w : World} {A : Around} {E : Value → Shared → Prop} {s : Shared} {κ : SortKind} {O : KeyOrd} {rk : Keyed → O.α} {S : Keyed → Prop} {st : SortSt} {arr : Array Keyed} {n1 n2 : Nat}
theorem set_all (sa : Nat) : ∀ (l : List Keyed) (n : Nat) (arr : Array Keyed), sa + n + l.length ≤ arr.size →
    ((l.zipIdx n).foldl (fun (a : Array Keyed) x => match x with | (p, j) => a.setIfInBounds (sa + j) p) arr).toList = arr.toList.take (sa + n) ++ l ++ arr.toList.drop (sa + n + l.length)
  | [], n, arr, h => by simp
  | p :: l, n, arr, h => by
    rw [List.zipIdx_cons, List.foldl_cons, set_all sa l (n + 1) _ (by simp only [List.length_cons] at h; simp; omega)]
    have hn : sa + n < arr.toList.length := by simp only [List.length_cons] at h; simp; omega
    rw [Array.toList_setIfInBounds, ← Nat.add_assoc, List.take_succ_eq_append_getElem (by rw [List.length_set]; exact hn), List.getElem_set_self, List.take_set_of_le (Nat.le_refl _), List.drop_set_of_lt (by omega), List.length_cons]
    simp [Nat.add_assoc, Nat.add_comm 1]
theorem kyd_ext {a : Array Keyed} {i j k : Nat} (h : k < j - i) (hj : j ≤ a.size) : kyd (a.extract i j) k = kyd a (i + k) := by
  apply kyd_congr
  rw [Array.getElem?_extract_of_lt (by omega), Array.getElem?_eq_getElem (by omega)]
theorem up_pw {a : Array Keyed} (h : Up rk a 0 a.size) : a.toList.Pairwise fun x y => O.kle (rk x) (rk y) := by
  rw [List.pairwise_iff_getElem]
  intro i j hi hj hij
  have hi' : i < a.size := by simpa using hi
  have hj' : j < a.size := by simpa using hj
  have q := h i j (Nat.zero_le _) (by omega) (by omega)
  have e1 := kyd_at hi'
  have e2 := kyd_at hj'
  rw [Array.getElem?_eq_getElem hi'] at e1
  rw [Array.getElem?_eq_getElem hj'] at e2
  rw [← Option.some.inj e1, ← Option.some.inj e2] at q
  simpa using q
theorem up_ext {a : Array Keyed} {i j : Nat} (h : Up rk a i (j - i)) (hj : j ≤ a.size) : Up rk (a.extract i j) 0 (a.extract i j).size := by
  intro x y _ hxy hy
  have hs : (a.extract i j).size = j - i := by simp; omega
  rw [kyd_ext (by omega) hj, kyd_ext (by omega) hj]
  exact h _ _ (by omega) (by omega) (by omega)
theorem mem_ext {a : Array Keyed} {i j : Nat} {x : Keyed} (h : x ∈ (a.extract i j).toList) (hj : j ≤ a.size) : ∃ k, i ≤ k ∧ k < j ∧ x = kyd a k := by
  obtain ⟨k, hk, rfl⟩ := mem_kyd h
  have hs : (a.extract i j).size = j - i := by simp; omega
  exact ⟨i + k, by omega, by omega, by rw [kyd_ext (by omega) hj]⟩
theorem split4 {a : Array Keyed} {i j k : Nat} (h1 : i ≤ j) (h2 : j ≤ k) (h3 : k ≤ a.size) : a.toList = a.toList.take i ++ (a.extract i j).toList ++ (a.extract j k).toList ++ a.toList.drop k := by
  have e1 : (a.extract i j).toList = (a.toList.drop i).take (j - i) := by rw [Array.toList_extract, List.extract_eq_take_drop]
  have e2 : (a.extract j k).toList = (a.toList.drop j).take (k - j) := by rw [Array.toList_extract, List.extract_eq_take_drop]
  rw [e1, e2]
  have c1 : a.toList.take i ++ (a.toList.drop i).take (j - i) = a.toList.take j := by
    rw [← List.take_add, show i + (j - i) = j by omega]
  have c2 : a.toList.take j ++ (a.toList.drop j).take (k - j) = a.toList.take k := by
    rw [← List.take_add, show j + (k - j) = k by omega]
  rw [c1, c2, List.take_append_drop]
set_option maxHeartbeats 2000000 in
theorem ws_mgAt (hC : Cm prog w A s κ O rk S) {Q : Bool → SortSt → Prop} {p q : Nat} (hk : kindOf st = κ) (hf : failedOf st = none) (hp : pendingOf st = #[(0, n1, p), (n1, n2, q)]) (hS : ∀ x ∈ (arrOf st).toList, S x) (hz : (arrOf st).size = n1 + n2) (h1 : 0 < n1) (h2 : 0 < n2)
    (u1 : Up rk (arrOf st) 0 n1) (u2 : Up rk (arrOf st) n1 n2)
    (h : ∀ st', (arrOf st').toList.Perm (arrOf st).toList → (arrOf st').toList.Pairwise (fun x y => O.kle (rk x) (rk y)) → failedOf st' = none → pendingOf st' = #[(0, n1 + n2, p)] → Q true st') : wpS (model prog w) A E s (mgAtT 0) Q st := by
  have hSi : ∀ i, i < n1 + n2 → S (kyd (arrOf st) i) := fun i hi => by
    have hi' : i < (arrOf st).size := by omega
    refine hS _ ?_
    have e := kyd_at hi'
    rw [Array.getElem?_eq_getElem hi'] at e
    rw [← Option.some.inj e]; exact Array.getElem_mem_toList hi'
  refine wpS_bind (wpS_get ?_)
  have e1 : (pendingOf st)[0]? = some (0, n1, p) := by rw [hp]; rfl
  have e2 : (pendingOf st)[0 + 1]? = some (n1, n2, q) := by rw [hp]; rfl
  rw [e1, e2]
  refine wpS_bind ?_
  have hset : ∀ (x : SortSt) (Q' : PUnit → SortSt → Prop) (st0 : SortSt), Q' ⟨⟩ x → wpS (model prog w) A E s (set x : StateT SortSt Sem PUnit) Q' st0 := fun x Q' st0 hq => by
    unfold wpS; exact wpAny_pure ⟨rfl, hq⟩
  refine hset _ _ _ ?_
  have e3 : ((pendingOf st).setIfInBounds 0 (0, n1 + n2, p)).eraseIdxIfInBounds (0 + 1) = #[(0, n1 + n2, p)] := by
    rw [hp]; apply Array.toList_inj.mp; simp [Array.eraseIdxIfInBounds]
  rw [e3]
  clear e1 e2 e3 hp
  delta arrOf kindOf failedOf gallopOf at *
  obtain ⟨kd, arr, pn, gl, fl⟩ := st
  dsimp only at hk hf hS hz u1 u2 h hSi
  dsimp -zeta only
  have h : ∀ st', (arrOf st').toList.Perm arr.toList → (arrOf st').toList.Pairwise (fun x y => O.kle (rk x) (rk y)) → failedOf st' = none → pendingOf st' = #[(0, n1 + n2, p)] → Q true st' := h
  have k2 : kindOf (SortSt.mk' kd arr #[(0, n1 + n2, p)] gl fl) = κ := hk
  have a2 : arrOf (SortSt.mk' kd arr #[(0, n1 + n2, p)] gl fl) = arr := rfl
  have f2 : failedOf (SortSt.mk' kd arr #[(0, n1 + n2, p)] gl fl) = none := hf
  have p2 : pendingOf (SortSt.mk' kd arr #[(0, n1 + n2, p)] gl fl) = #[(0, n1 + n2, p)] := rfl
  have whole : O.kle (rk (kyd arr (n1 - 1))) (rk (kyd arr n1)) → arr.toList.Pairwise fun x y => O.kle (rk x) (rk y) := fun hm => up_pw fun i j _ hij hj => by
    by_cases c1 : j < n1
    · exact u1 i j (Nat.zero_le _) hij (by omega)
    · by_cases c2 : n1 ≤ i
      · exact u2 i j c2 hij (by omega)
      · exact KeyOrd.kle_trans (KeyOrd.kle_trans (u1 i (n1 - 1) (Nat.zero_le _) (by omega) (by omega)) hm) (u2 n1 j (Nat.le_refl _) (by omega) (by omega))
  have ok : arr.toList.Pairwise (fun x y => O.kle (rk x) (rk y)) → Q true (SortSt.mk' kd arr #[(0, n1 + n2, p)] gl fl) := fun hw => h (SortSt.mk' kd arr #[(0, n1 + n2, p)] gl fl) (by rw [a2]) (by rw [a2]; exact hw) f2 p2
  refine wpS_bind (ws_elem (kyd_at (by omega)) (wpS_bind (ws_gallop hC k2 (hSi _ (by omega)) (by omega) (fun i hi => hSi _ (by omega)) (by omega) (fun i j hij hj hb => ?_) fun k hk1 hk2 hk3 => ?_)))
  · simp only [bey, Bool.false_eq_true, if_false, Bool.not_eq_true'] at hb ⊢
    exact KeyOrd.kle_trans (O := O) (u1 (0 + i) (0 + j) (Nat.zero_le _) (by omega) (by omega)) hb
  simp only [bey, Bool.false_eq_true, if_false, Bool.not_eq_true', Bool.not_eq_false', Nat.zero_add] at hk2 hk3
  dsimp only
  by_cases c1 : n1 - k = 0
  · rw [if_pos (by simpa using c1)]
    exact wpS_pure (ok (whole (hk2 (n1 - 1) (by omega))))
  rw [if_neg (by simpa using c1)]
  rw [show 0 + k + (n1 - k) - 1 = n1 - 1 by omega, Nat.zero_add]
  refine wpS_bind (ws_elem (kyd_at (by omega)) (wpS_bind (ws_gallop hC k2 (hSi _ (by omega)) (by omega) (fun i hi => hSi _ (by omega)) (by omega) (fun i j hij hj hb => ?_) fun nb hb1 hb2 hb3 => ?_)))
  · simp only [bey, if_true] at hb ⊢
    exact KeyOrd.klt_of_kle_of_klt (O := O) (u2 (n1 + i) (n1 + j) (by omega) (by omega) (by omega)) hb
  simp only [bey, if_true] at hb2 hb3
  dsimp only
  by_cases c2 : nb = 0
  · rw [if_pos (by simpa using c2)]
    exact wpS_pure (ok (whole (hb3 0 (by omega) (by omega))))
  rw [if_neg (by simpa using c2)]
  have sx : (arr.extract k n1).size = n1 - k := by simp; omega
  have sy : (arr.extract n1 (n1 + nb)).size = nb := by simp; omega
  have T : Two O rk S (arr.extract k n1) (arr.extract n1 (n1 + nb)) := by
    refine ⟨fun i hi => ?_, fun i hi => ?_, up_ext (fun i j a b c => u1 i j (Nat.zero_le _) b (by omega)) (by omega), up_ext (fun i j a b c => u2 i j a b (by omega)) (by omega), by omega, by omega, ?_, fun i hi => ?_⟩
    · rw [kyd_ext (by omega) (by omega)]; exact hSi _ (by omega)
    · rw [kyd_ext (by omega) (by omega)]; exact hSi _ (by omega)
    · rw [kyd_ext (by omega) (by omega), kyd_ext (by omega) (by omega)]; exact hk3 _ (by omega) (by omega)
    · rw [kyd_ext (by omega) (by omega), kyd_ext (by omega) (by omega), sx, show k + (n1 - k - 1) = n1 - 1 by omega]; exact hb2 i (by omega)
  have fin : ∀ (r : Array Keyed) st', Gs (SortSt.mk' kd arr #[(0, n1 + n2, p)] gl fl) st' → r.toList = mrg O rk (arr.extract k n1).toList (arr.extract n1 (n1 + nb)).toList →
      Q true (SortSt.mk' (kindOf st') ((r.toList.zipIdx).foldl (fun (a : Array Keyed) x => match x with | (p, j) => a.setIfInBounds (k + j) p) (arrOf st')) (pendingOf st') (gallopOf st') (failedOf st')) := by
    rintro r st' ⟨g, rfl⟩ hr
    have hl : r.toList.length = n1 - k + nb := by rw [hr, (mrg_perm _ _).length_eq, List.length_append, Array.length_toList, Array.length_toList, sx, sy]
    have e5 := set_all k r.toList 0 arr (by omega)
    rw [Nat.add_zero, hl, show k + (n1 - k + nb) = n1 + nb by omega, hr] at e5
    have e6 := split4 (a := arr) (i := k) (j := n1) (k := n1 + nb) (by omega) (by omega) (by omega)
    refine h _ ?_ ?_ f2 p2
    · show (List.foldl _ (arrOf (SortSt.mk' kd arr #[(0, n1 + n2, p)] gl fl)) _).toList.Perm _
      rw [a2, hr, e5]
      conv => rhs; rw [e6]
      exact ((mrg_perm _ _).append_left _ |>.append_right _).trans (by rw [List.append_assoc, List.append_assoc, List.append_assoc, List.append_assoc])
    · show (List.foldl _ (arrOf (SortSt.mk' kd arr #[(0, n1 + n2, p)] gl fl)) _).toList.Pairwise _
      rw [a2, hr, e5]
      have m1 : ∀ x ∈ arr.toList.take k, ∃ i, i < k ∧ x = kyd arr i := fun x hx => by
        rw [← ext_to] at hx
        obtain ⟨i, _, hi, e⟩ := mem_ext hx (by omega)
        exact ⟨i, hi, e⟩
      have m2 : ∀ x ∈ arr.toList.drop (n1 + nb), ∃ i, n1 + nb ≤ i ∧ i < arr.size ∧ x = kyd arr i := fun x hx => by
        rw [← ext_all] at hx
        obtain ⟨i, h1, h2, e⟩ := mem_ext hx (Nat.le_refl _)
        exact ⟨i, h1, h2, e⟩
      have m3 : ∀ x ∈ mrg O rk (arr.extract k n1).toList (arr.extract n1 (n1 + nb)).toList, ∃ i, k ≤ i ∧ i < n1 + nb ∧ x = kyd arr i := fun x hx => by
        rcases List.mem_append.mp ((mrg_perm _ _).mem_iff.mp hx) with hx | hx
        · obtain ⟨i, h1, h2, e⟩ := mem_ext hx (by omega); exact ⟨i, h1, by omega, e⟩
        · obtain ⟨i, h1, h2, e⟩ := mem_ext hx (by omega); exact ⟨i, by omega, h2, e⟩
      have lowHi : ∀ i j, i < k → n1 ≤ j → j < n1 + n2 → O.kle (rk (kyd arr i)) (rk (kyd arr j)) := fun i j hi h3 h4 => KeyOrd.kle_trans (hk2 i hi) (u2 n1 j (Nat.le_refl _) h3 h4)
      have hiHi : ∀ i j, i < n1 → n1 + nb ≤ j → j < n1 + n2 → O.kle (rk (kyd arr i)) (rk (kyd arr j)) := fun i j hi h3 h4 => by
        have := hb3 (j - n1) (by omega) (by omega)
        rw [show n1 + (j - n1) = j by omega] at this
        exact KeyOrd.kle_trans (u1 i (n1 - 1) (Nat.zero_le _) (by omega) (by omega)) this
      refine List.pairwise_append.mpr ⟨List.pairwise_append.mpr ⟨?_, mrg_up (up_pw T.ua) (up_pw T.ub), ?_⟩, ?_, ?_⟩
      · rw [← ext_to]
        exact up_pw (up_ext (fun i j a b c => u1 i j (Nat.zero_le _) b (by omega)) (by omega))
      · intro x hx y hy
        obtain ⟨i, hi, rfl⟩ := m1 x hx
        obtain ⟨j, j1, j2, rfl⟩ := m3 y hy
        by_cases c : j < n1
        · exact u1 i j (Nat.zero_le _) (by omega) (by omega)
        · exact lowHi i j hi (by omega) (by omega)
      · rw [← ext_all]
        exact up_pw (up_ext (fun i j a b c => u2 i j (by omega) b (by omega)) (Nat.le_refl _))
      · intro x hx y hy
        obtain ⟨j, j1, j2, rfl⟩ := m2 y hy
        have hx' : ∃ i, i < n1 + nb ∧ x = kyd arr i := by
          rcases List.mem_append.mp hx with hx | hx
          · obtain ⟨i, hi, e⟩ := m1 x hx; exact ⟨i, by omega, e⟩
          · obtain ⟨i, _, hi, e⟩ := m3 x hx; exact ⟨i, hi, e⟩
        obtain ⟨i, hi, rfl⟩ := hx'
        by_cases c : i < n1
        · exact hiHi i j c j1 (by omega)
        · exact u2 i j (by omega) (by omega) (by omega)
  have isn : ∀ st', Gs (SortSt.mk' kd arr #[(0, n1 + n2, p)] gl fl) st' → failedOf st' = none := by rintro st' ⟨g, rfl⟩; exact f2
  split
  · refine wpS_bind (ws_mgLo hC k2 T fun r st' hG hr => ?_)
    refine wpS_bind (wpS_modify (wpS_bind (wpS_get (wpS_pure ?_))))
    have := fin r st' hG hr
    have e := isn st' hG
    have e' : (failedOf st').isNone = true := by rw [e]; rfl
    rw [← e'] at this
    exact this
  · refine wpS_bind (ws_mgHi hC k2 T fun r st' hG hr => ?_)
    refine wpS_bind (wpS_modify (wpS_bind (wpS_get (wpS_pure ?_))))
    have := fin r st' hG hr
    have e := isn st' hG
    have e' : (failedOf st').isNone = true := by rw [e]; rfl
    rw [← e'] at this
    exact this
end
end L2

namespace L2
open PySem PySem.Spec PyProof.Rows
section
variable {prog : Program} {w : World} {A : Around} {E : Value → Shared → Prop} {s : Shared} {κ : SortKind} {O : KeyOrd} {rk : Keyed → O.α} {S : Keyed → Prop} {st : SortSt} {a0 : Array Keyed}
/-- one run; two runs -/
structure Run1 (κ : SortKind) (O : KeyOrd) (rk : Keyed → O.α) (a0 : Array Keyed) (n1 : Nat) (st : SortSt) : Prop where
  perm : (arrOf st).Perm a0
  kind : kindOf st = κ
  fail : failedOf st = none
  pend : pendingOf st = #[(0, n1, 0)]
  up : Up rk (arrOf st) 0 n1
structure Run2 (κ : SortKind) (O : KeyOrd) (rk : Keyed → O.α) (a0 : Array Keyed) (st : SortSt) : Prop where
  perm : (arrOf st).Perm a0
  kind : kindOf st = κ
  fail : failedOf st = none
  ex : ∃ n1 n2 p, 0 < n1 ∧ 0 < n2 ∧ n1 + n2 = a0.size ∧ pendingOf st = #[(0, n1, p), (n1, n2, 0)] ∧ Up rk (arrOf st) 0 n1 ∧ Up rk (arrOf st) n1 n2
theorem mr_is {n : Nat} (h2 : 2 ≤ n) (h64 : n ≤ 64) : (n < 64 ∧ minRun' n n 0 = n) ∨ n = 64 ∧ minRun' n n 0 = 32 := by
  by_cases h : n = 64
  · subst h; exact .inr ⟨rfl, rfl⟩
  · obtain ⟨f, rfl⟩ : ∃ f, n = f + 1 := ⟨n - 1, by omega⟩
    exact .inl ⟨by omega, by rw [minRun'_succ, if_pos (by omega)]⟩
set_option maxHeartbeats 2000000 in
theorem ws_runs (hC : Cm prog w A s κ O rk S) {Q : Unit → SortSt → Prop} (hk : kindOf st = κ) (hf : failedOf st = none) (hp : pendingOf st = #[]) (ha : arrOf st = a0) (hS : ∀ x ∈ a0.toList, S x) (h2 : 2 ≤ a0.size) (h64 : a0.size ≤ 64)
    (h : ∀ st', (arrOf st').toList.Perm a0.toList → (arrOf st').toList.Pairwise (fun x y => O.kle (rk x) (rk y)) → failedOf st' = none → Q () st') : wpS (model prog w) A E s sortRuns' Q st := by
  obtain ⟨mr, hm0, hmr⟩ : ∃ mr, (sortPriv% PySem.Builtin.minRun) a0.size a0.size 0 = mr ∧ ((a0.size < 64 ∧ mr = a0.size) ∨ a0.size = 64 ∧ mr = 32) := ⟨_, rfl, mr_is h2 h64⟩
  refine wpS_bind (wpS_get ?_)
  have hz : (arrOf st).size = a0.size := by rw [ha]
  dsimp only
  rw [hz, hm0]
  refine wpS_bind (wpS_mono (wpS_forRange (I := fun x c st' => (x = 0 ∧ c = (none, 0) ∧ SB κ a0 0 #[] (gallopOf st) st') ∨ (∃ n1, c = (none, n1) ∧ Run1 κ O rk a0 n1 st' ∧ 1 ≤ x ∧ (n1 = a0.size ∨ x = 1 ∧ 32 ≤ n1 ∧ n1 < 64 ∧ a0.size = 64)) ∨ (c = (none, a0.size) ∧ Run2 κ O rk a0 st' ∧ 1 ≤ x))
    (Q := fun c st' => c.1 = none ∧ (Run1 κ O rk a0 a0.size st' ∨ Run2 κ O rk a0 st')) ?_ ?_ ?_) ?_)
  · rintro x c st' _ hx H
    rcases H with ⟨rfl, rfl, hB⟩ | ⟨n1, rfl, hR, hx1, hor⟩ | ⟨rfl, hR, hx1⟩
    · dsimp only
      rw [if_neg (by omega)]
      refine wpS_bind (ws_cRun hC hS hB (by omega) (by omega) fun m st2 hB2 m1 m2 u => ?_)
      have put : ∀ n st3, SB κ a0 0 #[] (gallopOf st) st3 → Up rk (arrOf st3) 0 n → mr ≤ n → n ≤ a0.size →
          Run1 κ O rk a0 n (SortSt.mk' (kindOf st3) (arrOf st3) ((pendingOf st3).push (0, n, 0)) (gallopOf st3) (failedOf st3)) ∧ (n = a0.size ∨ 0 + 1 = 1 ∧ 32 ≤ n ∧ n < 64 ∧ a0.size = 64) := fun n st3 hB3 u3 h1 h2 =>
        ⟨⟨hB3.perm, hB3.kind, hB3.fail, by show (pendingOf st3).push _ = _; rw [hB3.pend]; rfl, u3⟩, by omega⟩
      dsimp only
      by_cases hlt : m < mr
      · rw [if_pos hlt]
        refine wpS_bind (ws_rule (wpS_bind (ws_bSort hC hS hB2 m1 (by omega) (by omega) u fun st3 hB3 u3 => ?_)))
        rw [if_neg (by simp)]
        have hP := put _ st3 hB3 u3 (by omega) (by omega)
        refine wpS_bind (wpS_get ?_)
        have hb : (pendingOf st3).back? = none := by rw [hB3.pend]; rfl
        rw [hb]
        exact wpS_bind (wpS_modify (wpS_pure (.inr (.inl ⟨_, by rw [Nat.zero_add], hP.1, by omega, hP.2⟩))))
      · rw [if_neg hlt]
        have hP := put m st2 hB2 u (by omega) (by omega)
        refine wpS_bind (wpS_get ?_)
        have hb : (pendingOf st2).back? = none := by rw [hB2.pend]; rfl
        rw [hb]
        exact wpS_bind (wpS_modify (wpS_pure (.inr (.inl ⟨_, by rw [Nat.zero_add], hP.1, by omega, hP.2⟩))))
    · dsimp only
      by_cases hge : n1 ≥ a0.size
      · rw [if_pos hge]
        have e : n1 = a0.size := by omega
        subst e
        exact wpS_pure ⟨rfl, .inl hR⟩
      rw [if_neg hge]
      have hsz : (arrOf st').size = a0.size := hR.perm.size_eq
      have hS' : ∀ x ∈ (arrOf st').toList, S x := fun x hx => hS x ((Array.perm_iff_toList_perm.mp hR.perm).mem_iff.mp hx)
      have hB : SB κ (arrOf st') n1 #[(0, n1, 0)] (gallopOf st') st' := ⟨Array.Perm.refl _, fun _ _ => rfl, hR.kind, hR.fail, hR.pend, rfl⟩
      have hn : 32 ≤ n1 ∧ n1 < 64 ∧ a0.size = 64 ∧ mr = 32 := by omega
      refine wpS_bind (ws_cRun hC hS' hB (by omega) (by omega) fun m st2 hB2 m1 m2 u => ?_)
      have put : ∀ n pw st3, n = a0.size - n1 → SB κ (arrOf st') n1 #[(0, n1, 0)] (gallopOf st') st3 → Up rk (arrOf st3) n1 n →
          Run2 κ O rk a0 (SortSt.mk' (kindOf st3) (arrOf st3) (((pendingOf st3).modify ((pendingOf st3).size - 1) fun x => (x.1, x.2.1, pw)).push (n1, n, 0)) (gallopOf st3) (failedOf st3)) := fun n pw st3 hn3 hB3 u3 =>
        ⟨hB3.perm.trans hR.perm, hB3.kind, hB3.fail, n1, n, pw, by omega, by omega, by omega, by show (Array.modify (pendingOf st3) _ _).push _ = _; rw [hB3.pend]; simp, fun i j a b c => by
          show O.kle (rk (kyd (arrOf st3) i)) (rk (kyd (arrOf st3) j))
          rw [kyd_congr (hB3.pre i (by omega)), kyd_congr (hB3.pre j (by omega))]
          exact hR.up i j a b c, u3⟩
      have inner : ∀ st3, SB κ (arrOf st') n1 #[(0, n1, 0)] (gallopOf st') st3 → ∀ (f : Nat → Option Unit × Unit → StateT SortSt Sem (ForInStep (Option Unit × Unit))) (Q' : Option Unit × Unit → SortSt → Prop),
          (∀ x, ∀ Q'' : ForInStep (Option Unit × Unit) → SortSt → Prop, Q'' (.done (none, ())) st3 → wpS (model prog w) A E s (f x (none, ())) Q'' st3) → Q' (none, ()) st3 → wpS (model prog w) A E s (forIn [0:a0.size] (none, ()) f) Q' st3 := fun st3 hB3 f Q' hf hq =>
        wpS_forRange (I := fun _ c st4 => c = (none, ()) ∧ st4 = st3) (fun i c st4 _ _ hI => by
          obtain ⟨rfl, rfl⟩ := hI
          exact hf i _ hq) (fun c st4 hI => by obtain ⟨rfl, rfl⟩ := hI; exact hq) ⟨rfl, rfl⟩
      dsimp only
      by_cases hlt : m < mr
      case' pos =>
        rw [if_pos hlt]
        refine wpS_bind (ws_rule (wpS_bind (ws_bSort hC hS' hB2 m1 (by omega) (by omega) u fun st3 hB3 u3 => ?_)))
        rw [if_neg (by simp)]
        have e9 : min (a0.size - n1) mr = a0.size - n1 := by omega
        rw [e9] at u3 ⊢
      case' neg =>
        rw [if_neg hlt]
        have e9 : m = a0.size - n1 := by omega
        subst e9
        have hB3 := hB2
        have u3 := u
        revert hB3 u3
        clear u hB2
        generalize st2 = st3
        intro hB3 u3
      all_goals
        refine wpS_bind (wpS_get ?_)
        have hb : (pendingOf st3).back? = some (0, n1, 0) := by rw [hB3.pend]; rfl
        rw [hb]
        refine wpS_bind (inner st3 hB3 _ _ (fun x Q'' hq => ?_) ?_)
        · refine wpS_bind (wpS_get ?_)
          have hb2 : (if (pendingOf st3).size > 1 then (pendingOf st3)[(pendingOf st3).size - 2]? else none) = none := by rw [hB3.pend]; rfl
          rw [hb2]
          exact wpS_pure hq
        · refine wpS_bind (wpS_modify (wpS_bind (wpS_modify (wpS_pure (.inr (.inr ⟨?_, put _ _ st3 rfl hB3 u3, by omega⟩))))))
          rw [show n1 + (a0.size - n1) = a0.size by omega]
    · dsimp only
      rw [if_pos (Nat.le_refl _)]
      exact wpS_pure ⟨rfl, .inr hR⟩
  · rintro c st' (⟨hx, _⟩ | ⟨n1, rfl, hR, hx1, hor⟩ | ⟨rfl, hR, hx1⟩)
    · omega
    · have e : n1 = a0.size := by omega
      subst e
      exact ⟨rfl, .inl hR⟩
    · exact ⟨rfl, .inr hR⟩
  · exact .inl ⟨rfl, rfl, by rw [ha], fun _ _ => by rw [ha], hk, hf, hp, rfl⟩
  · rintro ⟨c1, c2⟩ st' ⟨rfl, hR⟩
    dsimp only
    refine wpS_bind (wpS_mono (wpS_forRange (I := fun y c st2 => c = (none, ()) ∧ ((y = 0 ∧ Run2 κ O rk a0 st2) ∨ ((pendingOf st2).size = 1 ∧ (arrOf st2).toList.Perm a0.toList ∧ (arrOf st2).toList.Pairwise (fun x y => O.kle (rk x) (rk y)) ∧ failedOf st2 = none)))
      (Q := fun c st2 => c = (none, ()) ∧ (arrOf st2).toList.Perm a0.toList ∧ (arrOf st2).toList.Pairwise (fun x y => O.kle (rk x) (rk y)) ∧ failedOf st2 = none) ?_ ?_ ?_) ?_)
    · rintro y c st2 _ hy ⟨rfl, ⟨rfl, hR2⟩ | ⟨h1, h2', h3, h4⟩⟩
      · refine wpS_bind (wpS_get ?_)
        obtain ⟨n1, n2, p, z1, z2, z3, z4, u1, u2⟩ := hR2.ex
        have hsz : (arrOf st2).size = a0.size := hR2.perm.size_eq
        have z5 : (sortPriv% PySem.Builtin.SortState.pending) st2 = #[(0, n1, p), (n1, n2, 0)] := z4
        rw [z5]
        refine wpS_bind (m := mgAtT 0) (ws_mgAt hC hR2.kind hR2.fail z4 (fun x hx => hS x ((Array.perm_iff_toList_perm.mp hR2.perm).mem_iff.mp hx)) (by omega) z1 z2 u1 u2 fun st3 a1 a2 a3 a4 => ?_)
        rw [if_neg (by simp)]
        exact wpS_pure ⟨rfl, .inr ⟨by rw [a4]; rfl, a1.trans (Array.perm_iff_toList_perm.mp hR2.perm), a2, a3⟩⟩
      · refine wpS_bind (wpS_get ?_)
        have h1' : (pendingOf st2).size ≤ 1 := by omega
        rw [if_pos h1']
        exact wpS_pure ⟨rfl, h2', h3, h4⟩
    · rintro c st2 ⟨rfl, ⟨hy, _⟩ | ⟨h1, h2', h3, h4⟩⟩
      · omega
      · exact ⟨rfl, h2', h3, h4⟩
    · refine ⟨rfl, ?_⟩
      rcases hR with hR | hR
      · have hsz : (arrOf st').size = a0.size := hR.perm.size_eq
        exact .inr ⟨by rw [hR.pend]; rfl, Array.perm_iff_toList_perm.mp hR.perm, up_pw (by rw [hsz]; exact hR.up), hR.fail⟩
      · exact .inl ⟨rfl, hR⟩
    · rintro c st2 ⟨rfl, h2', h3, h4⟩
      exact wpS_pure (h st2 h2' h3 h4)
end
end L2

namespace L2
open PySem PySem.Spec PyProof.Rows PySem.SeqAt
open MeetsSeq MeetsSeq2 MeetsSeq3 SeqRoads2
open AutoSeq1 (wpAny_loadPart')
/-- what a < b answers, here -/
def LtAt (A : Around) (s : Shared) (y x : Value) (b : Bool) : Prop := ∀ (prog : Program) (w : World) (E : Value → Shared → Prop) (Q : Value → Shared → Prop), Q (.bool b) s → wpAny (model prog w) A (richCompare .Lt y x) Q E s
/-- by the first place that differs -/
def lexN (e l : Nat → Bool) (fin : Bool) : Nat → Nat → Bool
  | 0, _ => fin
  | k + 1, i => if e i = true then lexN e l fin k (i + 1) else l i
theorem tuple_ltAt (p q : Addr) (us vs : Array Value) (n n2 : Nat) (dd dd2 : Option Addr) (sl sl2 : Array (Option Value)) (e l : Nat → Bool) :
    Meets (Builtin.«tuple.__lt__» ⟨[.ref p, .ref q], []⟩)
      (fun A R s => (s.heap.get? p = some ⟨.type "tuple", dd, .seq us n, sl⟩ ∧ s.heap.get? q = some ⟨.type "tuple", dd2, .seq vs n2, sl2⟩) ∧
        (∀ j (h1 : j < us.size) (h2 : j < vs.size), EqAt A.in1 s us[j] vs[j] (e j) ∧ (e j = false → LtAt A.in1 s us[j] vs[j] (l j))) ∧
        R (.ok (.ret (.bool (lexN e l (decide (us.size < vs.size)) (min us.size vs.size) 0)))) s) :=
  .of_wp fun prog w A R s h => by
    obtain ⟨hp, g, d, tk, os⟩ := s
    obtain ⟨⟨h1, h2⟩, he, h⟩ := h
    have f2 := AutoSeq1.sub_tuple_tuple
    have hZ : (us.toList.zip vs.toList).length = min us.size vs.size := by simp
    wp_walk using wpAny_loadPart' h1, wpAny_loadPart' h2, wpAny_forIn_list _ (fun rest b s' => b.1 = none ∧ s' = ⟨hp, g, d, tk, os⟩ ∧ ∃ i, i ≤ min us.size vs.size ∧ rest = (us.toList.zip vs.toList).drop i ∧
      R (.ok (.ret (.bool (lexN e l (decide (us.size < vs.size)) (min us.size vs.size - i) i)))) ⟨hp, g, d, tk, os⟩) _
    case turn =>
      rintro ⟨y, x⟩ rest b s' ⟨hb', rfl, i, hi, hz, hR⟩
      have hlt : i < (us.toList.zip vs.toList).length := by
        rcases Nat.lt_or_ge i (us.toList.zip vs.toList).length with h' | h'
        · exact h'
        · rw [List.drop_of_length_le h'] at hz; cases hz
      rw [hZ] at hlt
      have g1 : i < us.size := by omega
      have g2 : i < vs.size := by omega
      rw [List.drop_eq_getElem_cons (by rw [hZ]; exact hlt)] at hz
      injection hz with hyx hrest
      have hy : y = us[i] := by have := congrArg Prod.fst hyx; simpa using this
      have hx : x = vs[i] := by have := congrArg Prod.snd hyx; simpa using this
      subst hy hx
      obtain ⟨k, hk⟩ : ∃ k, min us.size vs.size - i = k + 1 := ⟨min us.size vs.size - i - 1, by omega⟩
      rw [hk] at hR
      have hR' : R (.ok (.ret (.bool (if e i = true then lexN e l (decide (us.size < vs.size)) k (i + 1) else l i)))) ⟨hp, g, d, tk, os⟩ := hR
      refine wpAny_bind ((he i g1 g2).1 prog w _ _ ?_)
      cases hy : e i with
      | true =>
        rw [hy, if_pos rfl] at hR'
        wp_walk
        exact ⟨rfl, rfl, i + 1, by omega, hrest, by rw [show min us.size vs.size - (i + 1) = k by omega]; exact hR'⟩
      | false =>
        rw [hy, if_neg (by simp)] at hR'
        simp only [Bool.not_false, if_true]
        refine wpAny_bind (wpAny_rule ?_)
        refine wpAny_bind ((he i g1 g2).2 hy prog w _ _ ?_)
        wp_walk
        exact ⟨_, rfl, hR'⟩
    case fin =>
      rintro ⟨b1, b2⟩ s' ⟨hb', rfl, i, hi, hz, hR⟩
      simp only at hb'
      subst hb'
      have hge : min us.size vs.size ≤ i := by
        rcases Nat.lt_or_ge i (us.toList.zip vs.toList).length with h' | h'
        · rw [List.drop_eq_getElem_cons h'] at hz; cases hz
        · rw [hZ] at h'; exact h'
      rw [show min us.size vs.size - i = 0 by omega] at hR
      wp_walk
      exact ⟨_, rfl, by simpa [Builtin.Tuple.tupleCompareSizes, lexN] using hR⟩
    case h => exact ⟨rfl, rfl, 0, Nat.zero_le _, rfl, h⟩
section
variable {A : Around} {s : Shared} {p q : Addr} {us vs : Array Value} {e l : Nat → Bool}
theorem LtAt.tuples (hl : s.heap.IsTuple p us) (hb : s.heap.IsTuple q vs) (hu : A.units < cLine) (he : ∀ j (h1 : j < us.size) (h2 : j < vs.size), EqAt A.in1 s us[j] vs[j] (e j) ∧ (e j = false → LtAt A.in1 s us[j] vs[j] (l j))) :
    LtAt A s (.ref p) (.ref q) (lexN e l (decide (us.size < vs.size)) (min us.size vs.size) 0) := fun prog w E Q h => by
  obtain ⟨⟨cls, dd, data, sl⟩, ho, hc, n, hd⟩ := id hl
  obtain ⟨⟨cls2, dd2, data2, sl2⟩, ho2, hc2, n2, hd2⟩ := id hb
  simp only at hc hd hc2 hd2
  subst hc hd hc2 hd2
  exact richCompare_meets_room (op := .Lt) ⟨_, ho, rfl⟩ ⟨_, ho2, rfl⟩ PySem.F.slot_tuple_lt PySem.F.entry_tuple_lt (PySem.F.args_tuple_lt_2 _ _) (tuple_ltAt p q us vs n n2 dd dd2 sl sl2 e l)
    ⟨⟨ho, ho2⟩, he, (fun x => nomatch x), h⟩ hu
end
end L2

namespace L2
open PySem PySem.Spec PyProof.Rows PySem.SeqAt PySem.W
def lexI : List Int → List Int → Bool
  | [], [] => false
  | [], _ :: _ => true
  | _ :: _, [] => false
  | a :: as, b :: bs => if a = b then lexI as bs else decide (a < b)
theorem lexI_irr : ∀ a, lexI a a = false
  | [] => rfl
  | a :: as => by unfold lexI; rw [if_pos rfl]; exact lexI_irr as
theorem lexI_tot : ∀ a b, lexI a b = false → lexI b a = false → a = b
  | [], [], _, _ => rfl
  | [], _ :: _, h, _ => by cases h
  | _ :: _, [], _, h => by cases h
  | a :: as, b :: bs, h, h' => by
    unfold lexI at h h'
    by_cases e : a = b
    · subst e
      rw [if_pos rfl] at h h'
      rw [lexI_tot as bs h h']
    · rw [if_neg e] at h
      rw [if_neg (Ne.symm e)] at h'
      rw [decide_eq_false_iff_not] at h h'
      omega
theorem lexI_tr : ∀ a b c, lexI a b = true → lexI b c = true → lexI a c = true
  | [], [], _, h, _ => by cases h
  | [], _ :: _, [], _, h => by cases h
  | [], _ :: _, _ :: _, _, _ => rfl
  | _ :: _, [], _, h, _ => by cases h
  | _ :: _, _ :: _, [], _, h => by cases h
  | a :: as, b :: bs, c :: cs, h, h' => by
    unfold lexI at h h' ⊢
    by_cases e : a = b
    · subst e
      rw [if_pos rfl] at h
      by_cases e2 : a = c
      · subst e2; rw [if_pos rfl] at h' ⊢; exact lexI_tr as bs cs h h'
      · rw [if_neg e2] at h' ⊢; exact h'
    · rw [if_neg e, decide_eq_true_iff] at h
      by_cases e2 : b = c
      · subst e2; rw [if_neg e, decide_eq_true_iff]; exact h
      · rw [if_neg e2, decide_eq_true_iff] at h'
        rw [if_neg (by omega), decide_eq_true_iff]; omega
theorem lexI_neg : ∀ a b c, lexI a c = true → lexI a b = true ∨ lexI b c = true
  | a, b, c, h => by
    by_cases h1 : lexI a b = true
    · exact .inl h1
    · rw [Bool.not_eq_true] at h1
      by_cases h2 : lexI b a = true
      · exact .inr (lexI_tr b a c h2 h)
      · rw [Bool.not_eq_true] at h2
        rw [lexI_tot a b h1 h2] at h; exact .inr h
def OI : KeyOrd := ⟨List Int, lexI, lexI_irr, lexI_tr, lexI_neg, lexI_tot⟩
/-- a tuple of these whole numbers -/
def TuI (h : Heap) (v : Value) (l : List Int) : Prop := ∃ a its, v = .ref a ∧ h.IsTuple a its ∧ IntsAre its.toList l
def intVal : Value → Int
  | .int n _ => n
  | _ => 0
def tuI (h : Heap) : Value → List Int
  | .ref a => match h.get? a with
    | some o => match o.data with
      | .seq its _ => its.toList.map intVal
      | _ => []
    | none => []
  | _ => []
theorem ints_val : ∀ {us : List Value} {l : List Int}, IntsAre us l → us.map intVal = l
  | _, _, .nil => rfl
  | _, _, .cons n t h => by rw [List.map_cons, ints_val h]; rfl
theorem ints_len : ∀ {us : List Value} {l : List Int}, IntsAre us l → us.length = l.length
  | _, _, .nil => rfl
  | _, _, .cons n t h => by rw [List.length_cons, List.length_cons, ints_len h]
theorem ints_at : ∀ {us : List Value} {l : List Int}, IntsAre us l → ∀ (j : Nat) (h : j < us.length), ∃ t, us[j] = .int (l.getD j 0) t
  | _, _, .nil, j, h => absurd h (Nat.not_lt_zero j)
  | _, _, .cons n t hh, 0, h => ⟨t, rfl⟩
  | _, _, .cons n t hh, j + 1, h => by
    obtain ⟨t', e⟩ := ints_at hh j (Nat.lt_of_succ_lt_succ h)
    exact ⟨t', by simpa using e⟩
theorem TuI.is {h : Heap} {v : Value} {l : List Int} (t : TuI h v l) : tuI h v = l := by
  obtain ⟨a, its, rfl, ⟨o, ho, hc, n, hd⟩, hi⟩ := t
  simp only [tuI, ho, hd]
  exact ints_val hi
theorem lex_lexN : ∀ (l m : List Int) (i : Nat) (e f : Nat → Bool), (∀ j, j < l.length → j < m.length → e (i + j) = decide (l.getD j 0 = m.getD j 0) ∧ f (i + j) = decide (l.getD j 0 < m.getD j 0)) →
    lexN e f (decide (l.length < m.length)) (min l.length m.length) i = lexI l m
  | [], [], i, e, f, _ => by simp [lexN, lexI]
  | [], b :: m, i, e, f, _ => by simp [lexN, lexI]
  | a :: l, [], i, e, f, _ => by simp [lexN, lexI]
  | a :: l, b :: m, i, e, f, h => by
    have h0 := h 0 (by simp) (by simp)
    rw [List.length_cons, List.length_cons, show min (l.length + 1) (m.length + 1) = min l.length m.length + 1 by omega]
    have e1 : decide (l.length + 1 < m.length + 1) = decide (l.length < m.length) := by rw [Bool.eq_iff_iff]; simp
    rw [e1]
    show (if e i = true then lexN e f (decide (l.length < m.length)) (min l.length m.length) (i + 1) else f i) = if a = b then lexI l m else decide (a < b)
    rw [Nat.add_zero] at h0
    rw [h0.1, h0.2]
    by_cases q : a = b
    · subst q
      simp only [List.getD_cons_zero, decide_true, if_true]
      exact lex_lexN l m (i + 1) e f fun j h1 h2 => by
        have := h (j + 1) (by simpa using h1) (by simpa using h2)
        rw [show i + 1 + j = i + (j + 1) by omega]
        simpa using this
    · simp [q]
section
variable {prog : Program} {w : World} {A : Around} {E : Value → Shared → Prop} {s : Shared} {x y : Value} {l m : List Int}
theorem LtAt.ints {a b : Int} {t u : Tok} : LtAt A s (.int a t) (.int b u) (decide (a < b)) := fun prog w E Q h => PyProof.Rows.lt_int h
theorem EqAt.ints {a b : Int} {t u : Tok} : EqAt A s (.int a t) (.int b u) (decide (a = b)) := by
  have := eqAt_V (A := A) (s := s) (y := .int a) (x := .int b) (u := .int a t) (v := .int b u) ⟨t, rfl⟩ ⟨u, rfl⟩ rfl rfl
  have e : eqV (.int a) (.int b) = decide (a = b) := by simp [eqV, Bool.beq_eq_decide_eq]
  rw [e] at this; exact this
theorem TuI.lt (tx : TuI s.heap x l) (ty : TuI s.heap y m) (hu : A.units < cLine) : LtAt A s x y (lexI l m) := by
  obtain ⟨a, us, rfl, h1, i1⟩ := tx
  obtain ⟨b, vs, rfl, h2, i2⟩ := ty
  have e1 : us.size = l.length := by rw [← Array.length_toList]; exact ints_len i1
  have e2 : vs.size = m.length := by rw [← Array.length_toList]; exact ints_len i2
  have z := LtAt.tuples (A := A) (e := fun j => decide (l.getD j 0 = m.getD j 0)) (l := fun j => decide (l.getD j 0 < m.getD j 0)) h1 h2 hu fun j g1 g2 => by
    obtain ⟨t, q1⟩ := ints_at i1 j (by simpa using g1)
    obtain ⟨t', q2⟩ := ints_at i2 j (by simpa using g2)
    rw [Array.getElem_toList] at q1 q2
    rw [q1, q2]
    exact ⟨EqAt.ints, fun _ => LtAt.ints⟩
  rw [e1, e2, lex_lexN l m 0 _ _ fun j h1 h2 => by rw [Nat.zero_add]; exact ⟨rfl, rfl⟩] at z
  exact z
theorem TuI.ty (tx : TuI s.heap x l) : s.TypeIs x "tuple" := by
  obtain ⟨a, us, rfl, ⟨o, ho, hc, _⟩, i1⟩ := tx
  exact ⟨o, ho, hc⟩
/-- < of two keys, by each way that sort asks it -/
theorem TuI.one (tx : TuI s.heap x l) (ty : TuI s.heap y m) (hu : A.units < cLine) {Q : Bool → Shared → Prop} (h : Q (lexI l m) s) (b : Bool) : wpAny (model prog w) A (oneLt' b x y) Q E s := by
  cases b with
  | false => exact kat_one _ _ (tx.lt ty hu _ _ _ _ h)
  | true =>
    rw [oneLt'_eq]
    simp only [if_true]
    refine wpAny_bind (wpAny_cRoomFor hu ?_)
    obtain ⟨a, us, rfl, h1, i1⟩ := id tx
    obtain ⟨c, vs, rfl, h2, i2⟩ := id ty
    obtain ⟨⟨cls, dd, data, sl⟩, ho, hc, n, hd⟩ := id h1
    obtain ⟨⟨cls2, dd2, data2, sl2⟩, ho2, hc2, n2, hd2⟩ := id h2
    simp only at hc hd hc2 hd2
    subst hc hd hc2 hd2
    have e1 : us.size = l.length := by rw [← Array.length_toList]; exact ints_len i1
    have e2 : vs.size = m.length := by rw [← Array.length_toList]; exact ints_len i2
    refine wpAny_bind (wpAny_callSpecialIfBound?_slot (T := "tuple") ⟨_, ho, rfl⟩ PySem.F.slot_tuple_lt (call_meets PySem.F.slot_tuple_lt ⟨_, ho, rfl⟩ PySem.F.entry_tuple_lt (PySem.F.args_tuple_lt_2 _ _)
      (tuple_ltAt a c us vs n n2 dd dd2 sl sl2 (fun j => decide (l.getD j 0 = m.getD j 0)) fun j => decide (l.getD j 0 < m.getD j 0)) ⟨⟨ho, ho2⟩, fun j g1 g2 => ?_, ?_⟩))
    · obtain ⟨t, q1⟩ := ints_at i1 j (by simpa using g1)
      obtain ⟨t', q2⟩ := ints_at i2 j (by simpa using g2)
      rw [Array.getElem_toList] at q1 q2
      rw [q1, q2]
      exact ⟨EqAt.ints, fun _ => LtAt.ints⟩
    · rw [e1, e2, lex_lexN l m 0 _ _ fun j h1 h2 => by rw [Nat.zero_add]; exact ⟨rfl, rfl⟩]
      exact wpAny_truthy_bool h
theorem lex_go {Q : Bool → Shared → Prop} {fin : Bool} : ∀ {us vs : List Value} {l m : List Int} (i : Nat), IntsAre us l → IntsAre vs m → (fin = decide (l.length < m.length)) → Q (lexI l m) s → KatLex prog w A true fin Q (us.zip vs) i s
  | _, _, _, _, i, .nil, .nil, hf, h => kat_nil (by rw [hf]; exact h)
  | _, _, _, _, i, .nil, .cons n t r, hf, h => kat_nil (by rw [hf]; simpa [lexI] using h)
  | _, _, _, _, i, .cons n t r, .nil, hf, h => kat_nil (by rw [hf]; simpa [lexI] using h)
  | _, _, _, _, i, .cons (vs := us) (ns := l) a t r, .cons (vs := vs) (ns := m) b u r', hf, h => by
    rw [List.zip_cons_cons]
    refine kat_cons (EqAt.ints prog w _ _ ?_)
    unfold lexI at h
    by_cases e : a = b
    · subst e
      rw [if_pos rfl] at h
      rw [decide_eq_true rfl]
      exact kat_yes (lex_go (i + 1) r r' (by rw [hf, Bool.eq_iff_iff]; simp) h)
    · rw [if_neg e] at h
      rw [decide_eq_false e]
      refine kat_no ?_
      cases (true && i == 0) with
      | true => exact oneLt_int h
      | false => exact kat_one _ _ (PyProof.Rows.lt_int h)
theorem TuI.tups (tx : TuI s.heap x l) (ty : TuI s.heap y m) {Q : Bool → Shared → Prop} (h : Q (lexI l m) s) : wpAny (model prog w) A (keyLt' (tuples' true) x y) Q E s := by
  obtain ⟨a, us, rfl, ⟨o, ho, hc, n, hd⟩, i1⟩ := tx
  obtain ⟨c, vs, rfl, ⟨o2, ho2, hc2, n2, hd2⟩, i2⟩ := ty
  have e1 : us.size = l.length := by rw [← Array.length_toList]; exact ints_len i1
  have e2 : vs.size = m.length := by rw [← Array.length_toList]; exact ints_len i2
  exact kat_lt ho hd ho2 hd2 (lex_go 0 i1 i2 (by rw [e1, e2]) h)
end
end L2

namespace L2
open PySem PySem.Spec PyProof.Rows PySem.SeqAt PySem.W
section
variable {prog : Program} {w : World} {A : Around} {E : Value → Shared → Prop} {s : Shared} {O : KeyOrd} {rk : Keyed → O.α} {S : Keyed → Prop} {vs : List Value}
theorem zip_self : ∀ (vs : List Value), vs.zip vs = vs.map fun v => (v, v)
  | [] => rfl
  | v :: vs => by rw [List.zip_cons_cons, zip_self vs]; rfl
theorem pw_lt2 {α β : Type} {f : α → β} {R : β → β → Prop} : ∀ {vs : List α}, vs.toArray.size < 2 → (vs.map f).Pairwise R
  | [], _ => List.Pairwise.nil
  | [v], _ => List.pairwise_singleton _ _
  | _ :: _ :: _, h => absurd h (by simp)
set_option maxHeartbeats 1000000 in
theorem lsort_any {a : Addr} {n : Nat} {P : PySem.Fin → Shared → Prop} (ho : s.heap.get? a = some (seqObj "list" vs.toArray n)) (h64 : vs.length ≤ 64)
    (hyp : ∀ h', (∀ b o, b ≠ a → s.heap.get? b = some o → h'.get? b = some o) → ∃ κ, (2 ≤ vs.length → ∀ (Q' : SortKind → Shared → Prop) E', Q' κ { s with heap := h' } → wpAny (model prog w) A (keyKind' vs.toArray) Q' E' { s with heap := h' }) ∧ Cm prog w A { s with heap := h' } κ O rk S)
    (hS : ∀ v ∈ vs, S (v, v))
    (h : ∀ out : List Value, out.Perm vs → out.Pairwise (fun x y => O.kle (rk (x, x)) (rk (y, y))) → P (.done (.ret .none)) { s with heap := sortedHeap s.heap a vs out.toArray }) :
    wpAny (model prog w) A (Builtin.«list.sort» ⟨[.ref a], []⟩) P E s := by
  rw [list_sort_plain]
  have hlt : a < s.heap.objs.size := Heap.lt_size ho
  have hsz : vs.toArray.size = vs.length := by simp
  refine wpAny_bind (listItems_at ho rfl ?_)
  refine wpAny_bind (listUpdate_at ho rfl ?_ (by rw [hsz, sizeLine_eq]; omega))
  obtain ⟨e1, ho1⟩ : ∃ e1, (s.heap.update a (Obj.mapSeq fun _ => #[])).get? a = some (seqObj "list" #[] e1) := ⟨_, get?_update_seq ho (fun _ => #[])⟩
  refine wpAny_bind (seqEpoch_at ho1 rfl ?_)
  refine wpAny_bind (wpAny_newTuple ?_ (by rw [sizeLine_eq]; show vs.toArray.toList.length ≤ _; simp; omega))
  refine wpAny_bind (wpAny_newList ?_)
  refine wpAny_holding ?_
  have z1 : (s.heap.update a (Obj.mapSeq fun _ => (#[] : Array Value))).objs.size = s.heap.objs.size := Heap.size_update ..
  have keepN : ∀ b o, b < s.heap.objs.size → (s.heap.update a (Obj.mapSeq fun _ => (#[] : Array Value))).get? b = some o →
      (((s.heap.update a (Obj.mapSeq fun _ => #[])).push (seqObj "tuple" vs.toArray 0)).push (seqObj "list" #[] 0)).get? b = some o := fun b o hb q => by
    rw [Heap.get?_push_ne _ _ _ (Nat.ne_of_lt (by rw [size_push', z1]; exact Nat.lt_succ_of_lt hb)), Heap.get?_push_ne _ _ _ (Nat.ne_of_lt (by rw [z1]; exact hb))]
    exact q
  have ho6 := keepN a _ hlt ho1
  obtain ⟨κ, hkk, hC⟩ := hyp (((s.heap.update a (Obj.mapSeq fun _ => #[])).push (seqObj "tuple" vs.toArray 0)).push (seqObj "list" #[] 0)) fun b o hb q =>
    keepN b o (Heap.lt_size q) (by rw [Heap.get?_update_ne _ _ _ _ hb]; exact q)
  show wpAny (model prog w) A _ P E { s with heap := ((s.heap.update a (Obj.mapSeq fun _ => #[])).push (seqObj "tuple" vs.toArray 0)).push (seqObj "list" #[] 0) }
  have pt : (vs.toArray.zip vs.toArray).toList = vs.map fun v => (v, v) := by rw [← zip_self]; simp
  have fin : ∀ st' : SortSt, (arrOf st').toList.Perm (vs.map fun v => (v, v)) → (arrOf st').toList.Pairwise (fun x y => O.kle (rk x) (rk y)) → ∃ out : List Value, out.length = vs.length ∧ (arrOf st').map (·.2) = out.toArray ∧ P (.done (.ret .none)) { s with heap := sortedHeap s.heap a vs out.toArray } := fun st' h1 h2 => by
    refine ⟨(arrOf st').toList.map (·.2), by rw [List.length_map, h1.length_eq, List.length_map], by apply Array.toList_inj.mp; simp, h _ ?_ ?_⟩
    · have := h1.map (·.2)
      rw [List.map_map] at this
      have e : (vs.map ((fun x => x.2) ∘ fun v => ((v, v) : Keyed))) = vs := by rw [show ((fun x : Keyed => x.2) ∘ fun v => ((v, v) : Keyed)) = id from rfl, List.map_id]
      rw [e] at this; exact this
    · rw [List.pairwise_map]
      refine h2.imp_of_mem fun {x y} hx hy q => ?_
      have dx : x = (x.2, x.2) := by obtain ⟨v, _, rfl⟩ := List.mem_map.mp (h1.mem_iff.mp hx); rfl
      have dy : y = (y.2, y.2) := by obtain ⟨v, _, rfl⟩ := List.mem_map.mp (h1.mem_iff.mp hy); rfl
      rw [← dx, ← dy]; exact q
  dsimp only
  by_cases h2 : vs.toArray.size < 2
  · rw [if_pos h2, if_pos h2]
    refine wpAny_bind (wpAny_pure ?_)
    rw [StateT.run_pure]
    refine wpAny_bind (wpAny_pure ?_)
    dsimp only
    obtain ⟨out, q0, q1, q2⟩ := fin (SortSt.mk' general' (vs.toArray.zip vs.toArray) #[] 7 none) (by rw [pt]) (by rw [pt]; exact pw_lt2 h2)
    refine wpAny_bind (seqEpoch_at ho6 rfl ?_)
    rw [q1]
    refine wpAny_bind (listUpdate_at ho6 rfl ?_ (hsz2 := by show out.length ≤ _; rw [q0, sizeLine_eq]; omega))
    simp only [bne_self_eq_false, Bool.false_eq_true, if_false]
    exact wpAny_pure q2
  · rw [if_neg h2, if_neg h2]
    refine wpAny_bind (hkk (by omega) _ _ ?_)
    refine wpAny_bind (wpAny_mono (ws_runs hC (st := SortSt.mk' κ (vs.toArray.zip vs.toArray) #[] 7 none) (a0 := vs.toArray.zip vs.toArray) (Q := fun _ st' => (arrOf st').toList.Perm (vs.map fun v => (v, v)) ∧ (arrOf st').toList.Pairwise (fun x y => O.kle (rk x) (rk y)) ∧ failedOf st' = none)
      rfl rfl rfl rfl (fun x hx => ?_) (by simp; omega) (by simp; omega) fun st' a1 a2 a3 => ⟨by rw [← pt]; exact a1, a2, a3⟩) ?_ fun _ _ e => e)
    · rw [pt] at hx
      obtain ⟨v, hv, rfl⟩ := List.mem_map.mp hx
      exact hS v hv
    rintro ⟨⟨⟩, st'⟩ s' ⟨rfl, a1, a2, a3⟩
    dsimp only
    obtain ⟨out, q0, q1, q2⟩ := fin st' a1 a2
    refine wpAny_bind (seqEpoch_at ho6 rfl ?_)
    rw [q1]
    refine wpAny_bind (listUpdate_at ho6 rfl ?_ (hsz2 := by show out.length ≤ _; rw [q0, sizeLine_eq]; omega))
    rw [a3]
    simp only [bne_self_eq_false, Bool.false_eq_true, if_false]
    exact wpAny_pure q2
end
end L2

namespace L2
open PySem PySem.Spec PyProof.Rows PySem.SeqAt PySem.W
def fst0 (h : Heap) : Value → Option Value
  | .ref a => match h.get? a with
    | some o => match o.data with
      | .seq its _ => its[0]?
      | _ => none
    | none => none
  | _ => none
theorem TuI.fst {h : Heap} {v : Value} {l : List Int} (t : TuI h v l) : fst0 h v = none ∨ ∃ n t, fst0 h v = some (.int n t) := by
  obtain ⟨a, its, rfl, ⟨o, ho, hc, n, hd⟩, hi⟩ := t
  simp only [fst0, ho, hd]
  by_cases hz : 0 < its.size
  · obtain ⟨t, e⟩ := ints_at hi 0 (by simpa using hz)
    exact .inr ⟨_, t, by rw [Array.getElem?_eq_getElem hz]; rw [Array.getElem_toList] at e; rw [e]⟩
  · exact .inl (Array.getElem?_eq_none (by omega))
section
variable {prog : Program} {w : World} {A : Around} {E : Value → Shared → Prop} {s : Shared}
theorem kind_int {vs : List Value} {ns : List Int} (t : IntsAre vs ns) : (2 ≤ vs.length → ∀ (Q' : SortKind → Shared → Prop) E', Q' oneType' s → wpAny (model prog w) A (keyKind' vs.toArray) Q' E' s) ∧
    Cm prog w A s oneType' OI (fun p => [intVal p.1]) (fun p => ∃ n t, p.1 = .int n t) := by
  refine ⟨fun h2 Q' E' hq => ?_, fun x y ⟨n, t, hx⟩ ⟨m, u, hy⟩ Q E h => ?_⟩
  · match vs, h2, t with
    | v1 :: v2 :: r, _, t => rw [keyKind_ints t]; exact wpAny_pure hq
  · rw [keyLt'_oneType, hx, hy]
    refine oneLt_int ?_
    have e : OI.blt [intVal x.1] [intVal y.1] = decide (n < m) := by
      rw [hx, hy]
      show (if n = m then lexI [] [] else decide (n < m)) = _
      by_cases q : n = m
      · subst q; simp [lexI]
      · rw [if_neg q]
    rw [e] at h; exact h
end
end L2

namespace L2
open PySem PySem.Spec PyProof.Rows PySem.SeqAt PySem.W
section
variable {K : PySem.W.Frag} {X : Cx} {pins : List (Addr × Obj)} {σ : St} {H : Hp} {s : Shared} {φ : List Addr}
theorem ints_mem : ∀ {us : List Value} {l : List Int}, IntsAre us l → ∀ u ∈ us, ∃ n t, u = .int n t
  | _, _, .nil, u, hu => by cases hu
  | _, _, .cons n t h, u, hu => by
    rcases List.mem_cons.mp hu with rfl | hu
    · exact ⟨n, t, rfl⟩
    · exact ints_mem h u hu
theorem ints_back : ∀ {us : List Value}, (∀ u ∈ us, ∃ n t, u = .int n t) → IntsAre us (us.map intVal)
  | [], _ => .nil
  | u :: us, h => by
    obtain ⟨n, t, rfl⟩ := h u List.mem_cons_self
    exact .cons n t (ints_back fun x hx => h x (List.mem_cons_of_mem _ hx))
end
end L2

namespace L2
open PySem PySem.Spec PyProof.Rows
open PySem.AutoSeq1 (wpAny_loadPart')
def SIt (k : Bool) (h : Heap) (it l : Addr) (i : Nat) : Prop := match k with
  | true => h.IsTupleIter it l i
  | false => h.IsListIter it l i
def SIs (k : Bool) (h : Heap) (l : Addr) (xs : Array Value) : Prop := match k with
  | true => h.IsTuple l xs
  | false => h.IsList l xs
theorem SIt.to {k : Bool} {h h' : Heap} {it l : Addr} {i : Nat} (a : SIt k h it l i) (f : ∀ o, h.get? it = some o → h'.get? it = some o) : SIt k h' it l i := by
  cases k with
  | true => exact Heap.IsTupleIter.at a f
  | false => exact Heap.IsListIter.at a f
theorem SIs.to {k : Bool} {h h' : Heap} {l : Addr} {xs : Array Value} (a : SIs k h l xs) (f : ∀ o, h.get? l = some o → h'.get? l = some o) : SIs k h' l xs := by
  cases k with
  | true => obtain ⟨o, e, r⟩ := a; exact ⟨o, f o e, r⟩
  | false => exact Heap.IsList.at a f
theorem SIt.cls {k : Bool} {h : Heap} {it l : Addr} {i : Nat} (a : SIt k h it l i) {o : Obj} (e : h.get? it = some o) : o.cls ≠ .type "StopIteration" := by
  cases k with
  | true => obtain ⟨o', e', c, d⟩ := a; rw [e] at e'; cases e'; rw [c]; simp
  | false => obtain ⟨o', e', c, d⟩ := a; rw [e] at e'; cases e'; rw [c]; simp
section
variable {prog : Program} {w : World} {A : Around} {E : Value → Shared → Prop} {s : Shared} {k k2 : Bool}
variable {z TI TO i1 i2 l1 l2 : Addr} {n : Nat} {xs ys : Array Value} {a b : Value}
end
end L2

namespace L2
open PySem PySem.Spec PyProof.Rows
open PySem.AutoSeq1 (wpAny_loadPart')
section
variable {prog : Program} {w : World} {A : Around} {E : Value → Shared → Prop} {s : Shared} {k k2 : Bool}
end
section
variable {K : PySem.W.Frag} {X : Cx} {a b : Expr} {pos : Pos} {af : Af}
end
end L2

namespace L2
open PySem PySem.Spec PyProof.Rows
section
variable {prog : Program} {w : World} {A : Around} {s : Shared} {I l S : Addr} {items : Array Value} {ns : List Int} {kw : List (Str × Value)} {R : Result → Shared → Prop}
variable {E : Value → Shared → Prop}
end
end L2

namespace L2
open PySem PySem.Spec PyProof.Rows
section
variable {K : PySem.W.Frag} {X : Cx} {e a b : Expr} {es : List Expr} {pos : Pos} {f fa fb : Ef} {af : Af}
end
end L2

namespace L2
open PySem PySem.Spec PyProof.Rows
section
variable {K : PySem.W.Frag} {X : Cx}
end
end L2


namespace L2
open PySem PySem.Spec PyProof.Rows
section
variable {K : PySem.W.Frag} {X : Cx} {pos : Pos} {a b : Expr} {af : Af}
end
end L2

namespace L2
open PySem PySem.SeqAt MeetsSeq MeetsSeq2 MeetsSeq3
open AutoSeq1 (wpAny_loadPart')
end L2

namespace L2
open PySem PySem.Spec PyProof.Rows
section
variable {K : PySem.W.Frag} {X : Cx} {pos : Pos} {a e : Expr} {fa : Ef} {af : Af}
end
end L2

namespace L2
open PySem PySem.Spec PyProof.Rows
section
variable {K : PySem.W.Frag} {X : Cx} {pos : Pos} {a e : Expr} {fa : Ef} {af : Af}
theorem rls_int {H : Hp} {φ : List Addr} : ∀ {ns : List Int} {vs : List V}, Rls K H φ (ns.map D.int) vs → vs = ns.map V.int
  | [], vs, h => h
  | n :: ns, vs, h => by
    obtain ⟨v, r, rfl, h1, h2⟩ := h
    rw [show v = .int n from h1, rls_int h2]; rfl
def iCnt (o : Ef) (a : Af) : Ef
  | env, st => (o env st).bind fun x => (a env x.2).bind fun r => match x.1, r.1 with
  | .d (.lst ds), [.d (.int k)] => (intsOf ds).map fun ns => (.d (.int (ns.count k : Nat)), r.2)
  | _, _ => none
def rCnt (X : Cx) : V → List V → Hp → VK → Prop := fun x xs H Q => ∃ (p : Addr) (ns : List Int) (k : Int), x = .ref p ∧ xs = [.int k] ∧ SqL X.K H p (ns.map V.int) ∧ Q (.int (ns.count k : Nat)) H
theorem mt_cnt : MtR X "list.count" (rCnt X) := by
  intro pins s σ H x xs v us Q I rx rv h
  obtain ⟨p, ns, k, rfl, rfl, hq, q⟩ := h
  cases rx
  obtain ⟨u, rfl, ru⟩ := rv.one
  obtain ⟨t, rfl⟩ := ru
  obtain ⟨its, r, pl, hz⟩ := I.list hq
  refine count_list_ints (vs := its) pl.isList (intsAre_of r) ?_
  exact ⟨.int (ns.count k : Nat), H, I.kept (t' := s.toks + 1) fun b o e => e, ⟨_, rfl⟩, q⟩
theorem ie_cnt {apos : Pos} (ho : IE K X a fa) (ha : IA K X [e] af) (hbase : attributeBase a "count" X.env (eval a X.env) = eval a X.env := by rfl)
    (hall : [e].all notStar = true := by rfl) (hline : (apos.endLine == pos.line) = true := by rfl) (hK : X.K = K := by rfl) :
    IE K X (.Call (.Attribute a "count" apos) [e] [] pos) (iCnt fa af) := by
  subst hK
  have hall2 : notStar e = true := by rw [List.all_cons, Bool.and_eq_true] at hall; exact hall.1
  refine ⟨fun env st r hr' => ?_⟩
  simp only [iCnt, Option.bind_eq_some_iff] at hr'
  obtain ⟨⟨x, s1⟩, hx, ⟨ws, s2⟩, hw, hr'⟩ := hr'
  match x, ws, hr' with
  | .d (.lst ds), [.d (.int k)], hr' =>
    simp only at hr'
    obtain ⟨ns, hns, rfl⟩ := Option.map_eq_some_iff.mp hr'
    have hds := intsOf_some hns
    subst hds
    refine (pe_bm PySem.F.plainAttrs_list PySem.F.slot_list_count PySem.F.type_list_count mt_cnt (ho.run _ _ _ hx) (ha.run _ _ _ hw) hbase (star_few hall (by show 1 < 30; decide)) hline (star_cons hall2) (star_any rfl)).imp ?_
    rintro σ H Q ⟨φ, hE, hS, q⟩
    refine ⟨φ, hE, hS, fun v H1 φ1 f1 S1 w1 => ?_⟩
    obtain ⟨p, vs, rfl, h0, hq, hrl⟩ := w1
    have ev := rls_int hrl
    subst ev
    refine ⟨.inl ⟨rfl, _, .inl hq⟩, φ1, hE.fw hS f1, S1, fun us H2 φ2 f2 S2 w2 => ?_⟩
    obtain ⟨y, us', rfl, ry, rfl⟩ := w2
    cases (show y = .int k from ry)
    exact ⟨p, ns, k, rfl, rfl, .inl (hq.fw f2 h0), q _ H2 φ2 (f1.trans f2) S2 rfl⟩
end
end L2

namespace L2
open PySem PySem.Spec PyProof.Rows
open AutoSeq1 (wpAny_loadPart')
theorem list_extendT (l : Addr) (items : Array Value) (n : Nat) (b : Addr) (items2 : Array Value) (n2 : Nat) (dd : Option Addr) (sl : Array (Option Value)) (hs0 : ¬(!items.isEmpty && Builtin.List.listTooLong (items.size + items2.size)) = true) (hs1 : items.size ≤ sizeLine) (hs2 : items.size + items2.size ≤ sizeLine + 1) :
    Meets (Builtin.«list.extend» ⟨[.ref l, .ref b], []⟩) (fun _ R s => s.heap.get? l = some { cls := .type "list", dict := none, data := .seq items n, slots := #[] } ∧ s.heap.get? b = some { cls := .type "tuple", dict := dd, data := .seq items2 n2, slots := sl } ∧ R (.ok (.ret Value.none)) { s with heap := s.heap.update l (Obj.mapSeq fun x => x ++ items2), toks := s.toks }) :=
  .of_wp fun prog w A R s h => by
    obtain ⟨hp, g, d, tk, os⟩ := s; obtain ⟨hl, hb, h⟩ := h; have f1 := AutoSeq1.idx_int; have f2 := AutoSeq1.sub_tuple_tuple; have f3 := AutoSeq1.sub_list_list; have f4 := AutoSeq1.sub_tuple_list; have f5 := AutoSeq1.sub_list_tuple
    have hz' : (items ++ items2).size ≤ sizeLine + 1 := by rw [Array.size_append]; exact hs2
    wp_walk using (wpAny_updateSeq hl rfl (hz := hs1) (_hz' := hz')), wpAny_loadPart' hl, wpAny_loadPart' hb
    exact ⟨_, rfl, h⟩
section
variable {K : PySem.W.Frag} {X : Cx} {pos : Pos} {a e : Expr} {es : List Expr} {fa : Ef} {af : Af}
def rExtT (X : Cx) : V → List V → Hp → VK → Prop := fun x vs H Q => ∃ l b xs zs, x = .ref l ∧ vs = [.ref b] ∧ H l = some (.lst xs) ∧ SqT X.K H b zs ∧ xs.length + zs.length ≤ sizeLine ∧ Q .non (upd H l (.lst (xs ++ zs)))
theorem mt_extT : MtR X "list.extend" (rExtT X) := by
  intro pins s σ H x vs v us Q I rx rv h
  obtain ⟨l, b, xs, zs, rfl, rfl, hH, hB, hz, q⟩ := h
  cases rx
  obtain ⟨u, rfl, ru⟩ := rv.one
  cases ru
  obtain ⟨z, its, n, r, hl, e⟩ := I.lstM hH
  obtain ⟨its2, r2, ⟨⟨c, dd, dt, sl⟩, e2, hc, n2, hd⟩, hz2⟩ := I.tuple hB
  replace hc : c = .type "tuple" := hc
  replace hd : dt = .seq its2.toArray n2 := hd
  subst hc hd
  have hl2 := r2.length
  have hsz : its.toArray.size + its2.toArray.size ≤ sizeLine := by rw [List.size_toArray, List.size_toArray]; omega
  have hlong : ¬ (!its.toArray.isEmpty && Builtin.List.listTooLong (its.toArray.size + its2.toArray.size)) = true := by
    rw [notLongL hsz, Bool.and_false]
    exact Bool.false_ne_true
  refine call_meets F.slot_list_extend ⟨_, e, rfl⟩ F.entry_list_extend (F.args_list_extend_2 _ _)
    (list_extendT l its.toArray n b its2.toArray n2 dd sl hlong (by rw [List.size_toArray]; omega) (by omega)) ⟨e, e2, ?_⟩
  refine ⟨.non, _, I.lset (its' := its ++ its2) hH e (by simp) (r.append r2) ?_, rfl, q⟩
  rw [List.length_append]
  omega
def mExtT (ds : List D) : List W → Option (D × List D)
  | [.d (.tup xs)] => if ds.length + xs.length ≤ 1000000 then some (.non, ds ++ xs) else none
  | _ => none
theorem ie_extT {apos : Pos} (ho : IE K X a fa) (ha : IA K X (e :: es) af) (hbase : attributeBase a "extend" X.env (eval a X.env) = eval a X.env := by rfl)
    (hall : (e :: es).all notStar = true := by rfl) (hfl30 : (e :: es).length < 30 := by decide) (hline : (apos.endLine == pos.line) = true := by rfl) (hK : X.K = K := by rfl) :
    IE K X (.Call (.Attribute a "extend" apos) (e :: es) [] pos) (iMeth mExtT fa af) := by
  subst hK
  refine im_gen PySem.F.slot_list_extend PySem.F.type_list_extend mt_extT (fun H φ st n ad ds vs ws us y Q S ea eds hv rl rw hy q => ?_) (fun ds ws y h => ?_) ho ha hbase hall hfl30 hline rfl
  · match ws, hy with
    | [.d (.tup xs)], hy =>
      simp only [mExtT] at hy
      split at hy
      · rename_i hl
        cases hy
        obtain ⟨v, r, rfl, ⟨b, zs, rfl, hq, hz⟩, rfl⟩ := rw
        exact ⟨ad, b, vs, zs, rfl, rfl, hv, hq, by rw [← rl.length, ← hz.length]; exact Nat.le_trans hl mil, q _ _ rfl (rl.append hz) (fun b z => nomatch z)⟩
      · cases hy
  · match ws, h with
    | [.d (.tup xs)], h =>
      simp only [mExtT] at h
      split at h
      · cases h; rfl
      · cases h
end
end L2

namespace L2
open PySem PySem.Spec PyProof.Rows
def ksOf (m : Nat) : List Nat := (List.range 6).filter fun k => m.testBit k
def chkHas (m k : Nat) : Bool := ((ksOf m).toArray[SetTable.below (ksOf m).toArray k]? == some k) == m.testBit k
theorem chkHas_ok : ∀ m : Fin 64, ∀ k : Fin 6, chkHas m.1 k.1 = true := by decide +kernel
theorem has_ks {m k : Nat} (hm : m < 64) (hk : k < 6) : ((ksOf m).toArray[SetTable.below (ksOf m).toArray k]? == some k) = m.testBit k := eq_of_beq (chkHas_ok ⟨m, hm⟩ ⟨k, hk⟩)
def chkIns (m k : Nat) : Bool := m.testBit k || (ksOf (m ||| 1 <<< k) == (ksOf m).take (SetTable.below (ksOf m).toArray k) ++ k :: (ksOf m).drop (SetTable.below (ksOf m).toArray k))
theorem chkIns_ok : ∀ m : Fin 64, ∀ k : Fin 6, chkIns m.1 k.1 = true := by decide +kernel
theorem ins_ks {m k : Nat} (hm : m < 64) (hk : k < 6) (hb : m.testBit k = false) : ksOf (m ||| 1 <<< k) = (ksOf m).take (SetTable.below (ksOf m).toArray k) ++ k :: (ksOf m).drop (SetTable.below (ksOf m).toArray k) := by
  have := chkIns_ok ⟨m, hm⟩ ⟨k, hk⟩
  unfold chkIns at this
  rw [show (⟨m, hm⟩ : Fin 64).1 = m from rfl, show (⟨k, hk⟩ : Fin 6).1 = k from rfl, hb, Bool.false_or] at this
  exact eq_of_beq this
def masks : List Nat := [7, 15, 31]
def chkLay (m mask : Nat) : Bool := SetTable.laid mask 0 0 true true ((ksOf m).map fun (k : Nat) => (k : Int)).toArray == some (⟨mask, (ksOf m).toArray, #[], 0, true, 0, true⟩, Array.range (ksOf m).length)
theorem chkLay_ok : ∀ m : Fin 64, (masks.all fun q => chkLay m.1 q) = true := by decide +kernel
theorem laid_gen (mask f mv : Nat) (l p : Bool) (hs : Array Int) : SetTable.laid mask f mv l p hs = (SetTable.laid mask 0 0 true true hs).map fun x => ({ x.1 with finger := f, led := l, moves := mv, plain := p }, x.2) := by
  unfold SetTable.laid
  cases SetTable.layClean mask hs <;> rfl
theorem laid_ks {m mask : Nat} (hm : m < 64) (hq : mask ∈ masks) (f mv : Nat) (l p : Bool) : SetTable.laid mask f mv l p ((ksOf m).map fun (k : Nat) => (k : Int)).toArray = some (⟨mask, (ksOf m).toArray, #[], f, l, mv, p⟩, Array.range (ksOf m).length) := by
  have := List.all_eq_true.mp (chkLay_ok ⟨m, hm⟩) mask hq
  rw [laid_gen, eq_of_beq this]; rfl
def chkNext (m i : Nat) : Bool := i < (ksOf m).length.succ && !(SetTable.below (ksOf m).toArray (if i = 0 then 0 else (ksOf m).getD (i - 1) 0 + 1) == i) 
theorem chkNext_ok : ∀ m : Fin 64, ∀ i : Fin 7, chkNext m.1 i.1 = false := by decide +kernel
def slotOf (m i : Nat) : Nat := if i = 0 then 0 else (ksOf m).getD (i - 1) 0 + 1
theorem len_ks_chk : ∀ m : Fin 64, (ksOf m.1).length ≤ 6 := by decide +kernel
theorem len_ks {m : Nat} (hm : m < 64) : (ksOf m).length ≤ 6 := len_ks_chk ⟨m, hm⟩
theorem next_ks {m i : Nat} (hm : m < 64) (hi : i ≤ (ksOf m).length) : SetTable.below (ksOf m).toArray (slotOf m i) = i := by
  have hl := len_ks hm
  have := chkNext_ok ⟨m, hm⟩ ⟨i, by omega⟩
  unfold chkNext at this
  have h1 : decide (i < (ksOf m).length.succ) = true := decide_eq_true (by omega)
  rw [show (⟨m, hm⟩ : Fin 64).1 = m from rfl, show ((⟨i, by omega⟩ : Fin 7)).1 = i from rfl, h1, Bool.true_and, Bool.not_eq_false'] at this
  exact eq_of_beq this
def chkFill (m d : Nat) : Bool := m &&& d != 0 || decide ((ksOf m).length + (ksOf d).length ≤ 6)
theorem chkFill_ok : ∀ m : Fin 64, ∀ d : Fin 64, chkFill m.1 d.1 = true := by decide +kernel
theorem fill_ks {m d : Nat} (hm : m < 64) (hd : d < 64) (h : m &&& d = 0) : (ksOf m).length + (ksOf d).length ≤ 6 := by
  have := chkFill_ok ⟨m, hm⟩ ⟨d, hd⟩
  unfold chkFill at this
  rw [show (⟨m, hm⟩ : Fin 64).1 = m from rfl, show (⟨d, hd⟩ : Fin 64).1 = d from rfl, h] at this
  simpa using this
theorem mem_ks {m k : Nat} : k ∈ ksOf m ↔ k < 6 ∧ m.testBit k = true := by
  unfold ksOf; rw [List.mem_filter, List.mem_range]
theorem mem_ks6 {m k : Nat} (h : k ∈ ksOf m) : k < 6 := (mem_ks.mp h).1
theorem bits_or {m k : Nat} (hm : m < 64) (hk : k < 6) : m ||| 1 <<< k < 64 := Nat.or_lt_two_pow (n := 6) hm (by
  rw [Nat.one_shiftLeft]; exact Nat.pow_lt_pow_right (by decide) hk)
theorem tb_one {k j : Nat} : (1 <<< k).testBit j = decide (k = j) := by rw [Nat.one_shiftLeft, Nat.testBit_two_pow]
/-- the entries of such a set; f: the tokens -/
def SEnt (m : Nat) (f : Nat → Tok) : Array (Int × Value) := ((ksOf m).map fun (k : Nat) => ((k : Int), Value.int k (f k))).toArray
theorem SEnt.size (m : Nat) (f : Nat → Tok) : (SEnt m f).size = (ksOf m).length := by simp [SEnt]
theorem SEnt.toList (m : Nat) (f : Nat → Tok) : (SEnt m f).toList = (ksOf m).map fun (k : Nat) => ((k : Int), Value.int k (f k)) := by simp [SEnt]
theorem SEnt.hashes (m : Nat) (f : Nat → Tok) : (SEnt m f).map (·.1) = ((ksOf m).map fun (k : Nat) => (k : Int)).toArray := by
  simp [SEnt, List.map_map, Function.comp_def]
structure STab (b : Bool) (t : SetTable) (m d : Nat) : Prop where
  msk : t.mask ∈ masks
  pl : t.place = (ksOf m).toArray
  du : t.dummies = (ksOf d).toArray
  led : t.led = !b
  plain : t.plain = true
section
variable {b : Bool} {t : SetTable} {m d k : Nat}
theorem STab.fits (T : STab b t m d) (hm : m < 64) (hd : d < 64) (h : m &&& d = 0) (f : Nat → Tok) : t.fits (SEnt m f).size = true := by
  have := fill_ks hm hd h
  have hk := T.msk
  have h7 : 7 ≤ t.mask := by
    have hk : t.mask = 7 ∨ t.mask = 15 ∨ t.mask = 31 := by simpa [masks] using hk
    omega
  simp only [SetTable.fits, SetTable.fill, T.pl, T.du, SEnt.size, List.size_toArray, Bool.and_eq_true, beq_iff_eq, decide_eq_true_eq, true_and]
  omega
theorem bits_small {k mask : Nat} (hk : k < 6) (hq : mask ∈ masks) : SetTable.bits (k : Int) % (mask + 1) = k := by
  have hq : mask = 7 ∨ mask = 15 ∨ mask = 31 := by simpa [masks] using hq
  unfold SetTable.bits
  have e : ((k : Int) % (2 ^ 64 : Int)).toNat = k := by omega
  rw [e]
  rcases hq with rfl | rfl | rfl <;> omega
theorem STab.slot (T : STab b t m d) (hm : m < 64) (hd : d < 64) (hk : k < 6) (h1 : m.testBit k = false) (h2 : d.testBit k = false) : t.slot k = .empty := by
  unfold SetTable.slot SetTable.has
  dsimp only
  rw [T.pl, T.du, has_ks hm hk, has_ks hd hk, h1, h2]
  rfl
theorem STab.free (T : STab b t m d) (hm : m < 64) (hd : d < 64) (hk : k < 6) (h1 : m.testBit k = false) (h2 : d.testBit k = false) : t.freeSlot (k : Int) = some (k, false) := by
  have e : t.probe (fun _ => (k : Int) + 1) k (t.probeStart k) = some (.empty k none) := by
    unfold SetTable.probe
    have hf : ∃ n, 10 * SetTable.turns t.mask = n + 1 := ⟨10 * SetTable.turns t.mask - 1, by unfold SetTable.turns; omega⟩
    obtain ⟨n, hn⟩ := hf
    rw [hn]
    unfold SetTable.probe.go SetTable.probeStart
    dsimp only
    rw [bits_small hk T.msk, T.slot hm hd hk h1 h2]
  unfold SetTable.freeSlot
  rw [e]; rfl
theorem SEnt.ins (f : Nat → Tok) (tk : Tok) (hm : m < 64) (hk : k < 6) (h1 : m.testBit k = false) : SetTable.insertAt (SEnt m f) (SetTable.below (ksOf m).toArray k) ((k : Int), Value.int k tk) = SEnt (m ||| 1 <<< k) (fun j => if j = k then tk else f j) := by
  apply Array.toList_inj.mp
  rw [SetTable.toList_insertAt, SEnt.toList, SEnt.toList, ins_ks hm hk h1, List.map_append, List.map_cons, ← List.map_take, ← List.map_drop]
  have hn : ∀ j ∈ ksOf m, j ≠ k := fun j hj e => by
    rw [e, mem_ks] at hj
    rw [hj.2] at h1; cases h1
  congr 1
  · exact List.map_congr_left fun j hj => by rw [if_neg (hn j (List.mem_of_mem_take hj))]
  · rw [if_pos rfl]
    congr 1
    exact List.map_congr_left fun j hj => by rw [if_neg (hn j (List.mem_of_mem_drop hj))]
theorem STab.put (T : STab b t m d) (hm : m < 64) (hk : k < 6) (h1 : m.testBit k = false) (hd : d < 64) (h2 : d.testBit k = false) : STab b (t.put k).1 (m ||| 1 <<< k) d ∧ (t.put k).2 = SetTable.below (ksOf m).toArray k := by
  unfold SetTable.put
  dsimp only
  have hh : SetTable.has t.dummies k = false := by unfold SetTable.has; rw [T.du, has_ks hd hk, h2]
  rw [hh]
  refine ⟨⟨T.msk, ?_, T.du, T.led, T.plain⟩, by rw [T.pl]⟩
  apply Array.toList_inj.mp
  show (SetTable.insertAt t.place (SetTable.below t.place k) k).toList = _
  rw [SetTable.toList_insertAt, T.pl, ins_ks hm hk h1]
theorem disj_or (h : m &&& d = 0) (h2 : d.testBit k = false) : (m ||| 1 <<< k) &&& d = 0 := by
  apply Nat.eq_of_testBit_eq
  intro j
  have := congrArg (fun x => x.testBit j) h
  simp only [Nat.testBit_and, Nat.zero_testBit] at this
  rw [Nat.testBit_and, Nat.testBit_or, tb_one, Nat.zero_testBit]
  by_cases e : k = j
  · subst e; rw [h2, Bool.and_false]
  · rw [decide_eq_false e, Bool.or_false, this]
theorem STab.lay (T : STab b t m d) (hm : m < 64) (hk : k < 6) (h1 : m.testBit k = false) (hd : d < 64) (h2 : d.testBit k = false) (h : m &&& d = 0) (f : Nat → Tok) (tk : Tok) :
    layNew t (SEnt m f) k (.int k tk) = (SEnt (m ||| 1 <<< k) (fun j => if j = k then tk else f j), (t.put k).1, false, false) := by
  have T' := T.put hm hk h1 hd h2
  have hf := T'.1.fits (bits_or hm hk) hd (disj_or h h2) (fun j => if j = k then tk else f j)
  unfold layNew
  rw [T.free hm hd hk h1 h2]
  dsimp only
  rw [T'.2, SEnt.ins f tk hm hk h1]
  unfold SetTable.orStandIn
  rw [hf]; rfl
theorem size_above {n : Nat} (h : n < 32) : SetTable.sizeAbove n - 1 ∈ masks ∧ SetTable.sizeAbove n ≤ 32 := by
  have : ∀ n : Fin 32, SetTable.sizeAbove n.1 - 1 ∈ masks ∧ SetTable.sizeAbove n.1 ≤ 32 := by decide +kernel
  exact this ⟨n, h⟩
theorem cov_range (n : Nat) : coversAll (Array.range n) n = true := by
  unfold coversAll
  rw [Array.toList_range]
  exact List.isPerm_iff.mpr (List.Perm.refl _)
theorem order_id {α : Type} (es : Array α) : (Array.range es.size).filterMap (es[·]?) = es := by
  apply Array.toList_inj.mp
  rw [Array.toList_filterMap, Array.toList_range]
  exact filterMap_getElem?_range es
theorem STab.relaid (T : STab b t m d) (hm : m < 64) {n : Nat} (hn : n < 32) : ∃ t', STab b t' m 0 ∧ t.relaid ((ksOf m).map fun (k : Nat) => (k : Int)).toArray n = some (t', Array.range (ksOf m).length) := by
  unfold SetTable.relaid
  rw [laid_ks hm (size_above hn).1]
  refine ⟨_, ?_, rfl⟩
  exact ⟨(size_above hn).1, rfl, by simp [ksOf], T.led, T.plain⟩
theorem STab.relayAll (T : STab b t m d) (hm : m < 64) (f : Nat → Tok) {n : Nat} (hn : n < 32) : ∃ t', STab b t' m 0 ∧ relayAll t (SEnt m f) n = (SEnt m f, t', false) := by
  obtain ⟨t', T', e⟩ := T.relaid hm hn
  refine ⟨t', T', ?_⟩
  unfold PySem.relayAll
  rw [SEnt.hashes, e]
  dsimp only
  have h0 : m &&& 0 = 0 := Nat.and_zero m
  rw [← SEnt.size m f, cov_range, order_id, T'.fits hm (by decide) h0 f]
  rfl
end
end L2

namespace L2
open PySem PySem.Spec PyProof.Rows
def byT (w : World) : Bool := w.params.followText "set-order"
def SObj (w : World) (o : Obj) (m d : Nat) : Prop := m < 64 ∧ d < 64 ∧ m &&& d = 0 ∧ o.ExactSet ∧ ∃ f ep t, o.data = .set (SEnt m f) ep t ∧ STab (byT w) t m d
def SetAt (w : World) (h : Heap) (a : Addr) (m d : Nat) : Prop := ∃ o, h.get? a = some o ∧ SObj w o m d
theorem hash_small : ∀ k : _root_.Fin 6, hashInt ((k.1 : Nat) : Int) = (k.1 : Int) := by decide +kernel
theorem hash_k {k : Nat} (hk : k < 6) : hashInt (k : Int) = k := hash_small ⟨k, hk⟩
section
variable {prog : Program} {w : World} {A : Around} {E : Value → Shared → Prop} {s : Shared} {a : Addr} {m d k : Nat}
theorem SetAt.type (S : SetAt w s.heap a m d) : s.TypeIs (.ref a) "set" := let ⟨o, ho, _, _, _, hx, _⟩ := S; ⟨o, ho, hx.1⟩
theorem SetAt.at' {h h' : Heap} (S : SetAt w h a m d) (e : ∀ o, h.get? a = some o → h'.get? a = some o) : SetAt w h' a m d := let ⟨o, ho, r⟩ := S; ⟨o, e o ho, r⟩
theorem sent_el (m : Nat) (f : Nat → Tok) : ElemsOf (intKind prog w) (SEnt m f).toList := by
  intro e he
  rw [SEnt.toList] at he
  obtain ⟨j, hj, rfl⟩ := List.mem_map.mp he
  exact ⟨⟨(j : Int), intKind_is _ _ _ _, (hash_k (mem_ks6 hj)).symm⟩, rfl⟩
def chkIdx (m k : Nat) : Bool := (ksOf m).findIdx? (fun j => j == k) == (if m.testBit k then some (SetTable.below (ksOf m).toArray k) else none)
theorem chkIdx_ok : ∀ m : _root_.Fin 64, ∀ k : _root_.Fin 6, chkIdx m.1 k.1 = true := by decide +kernel
theorem idx_ks (hm : m < 64) (hk : k < 6) (f : Nat → Tok) : (SEnt m f).toList.findIdx? (fun e => (intKind prog w).is (k : Int) e.2) = (if m.testBit k then some (SetTable.below (ksOf m).toArray k) else none) := by
  rw [← eq_of_beq (chkIdx_ok ⟨m, hm⟩ ⟨k, hk⟩), SEnt.toList, List.findIdx?_map]
  congr 1
  funext j
  show (((j : Int)) == (k : Int)) = (j == k)
  by_cases e : j = k
  · subst e; simp
  · rw [beq_false_of_ne e, beq_false_of_ne (by omega)]
theorem sent_bound (hm : m < 64) (f : Nat → Tok) : (SEnt m f).size < scanBound := by
  have := len_ks hm
  rw [SEnt.size]; unfold scanBound; omega
/-- what a store makes of it -/
theorem set_store {o : Obj} {es : Array (Int × Value)} {ep : Nat} {t t' : SetTable} {m' d' : Nat} {f' : Nat → Tok} {h : Heap} (ho : h.get? a = some o) (hx : o.ExactSet) (hd : o.data = .set es ep t) (h1 : m' < 64) (h2 : d' < 64) (h3 : m' &&& d' = 0) (T : STab (byT w) t' m' d') :
    ∃ o', (h.update a (Obj.putSet (SEnt m' f') t')).get? a = some o' ∧ o'.ExactSet ∧ o'.data = .set (SEnt m' f') (ep + 1) t' ∧ SetAt w (h.update a (Obj.putSet (SEnt m' f') t')) a m' d' := by
  have hg : (h.update a (Obj.putSet (SEnt m' f') t')).get? a = some { o with data := .set (SEnt m' f') (ep + 1) t' } := by
    have := Heap.get?_update_self (Obj.putSet (SEnt m' f') t') ho (by rw [putSet_of _ t' hd]; rfl)
    rw [putSet_of _ t' hd] at this; exact this
  exact ⟨_, hg, hx, rfl, _, hg, h1, h2, h3, hx, f', ep + 1, t', rfl, T⟩
theorem small_line {m : Nat} (hm : m < 64) (f : Nat → Tok) : (SEnt m f).size ≤ sizeLine := by
  have := len_ks hm
  rw [SEnt.size, sizeLine_eq]; omega
theorem or_self_bit (h : m.testBit k = true) : m ||| 1 <<< k = m := by
  apply Nat.eq_of_testBit_eq
  intro j
  rw [Nat.testBit_or, tb_one]
  by_cases e : k = j
  · subst e; rw [h]; rfl
  · rw [decide_eq_false e, Bool.or_false]
/-- one more -/
theorem set_add {tk : Tok} {Q : Bool → Shared → Prop} (S : SetAt w s.heap a m d) (hk : k < 6) (hdk : m.testBit k = true ∨ d.testBit k = false)
    (h : ∀ h' d' b, Heap.SameBut a s.heap h' → SetAt w h' a (m ||| 1 <<< k) d' → (d' = d ∨ d' = 0) → Q b { s with heap := h' }) :
    wpAny (model prog w) A (setAddHashed a (.int k tk) (k : Int)) Q E s := by
  obtain ⟨o, ho, hm, hd, h0, hx, f, ep, t, hdat, T⟩ := id S
  have hf := T.fits hm hd h0 f
  have hel := sent_el (prog := prog) (w := w) m f
  unfold setAddHashed setAddHashedIn
  refine wpAny_holding (wpAny_bind (wpAny_setState_of ho hdat hf ?_))
  dsimp only
  rw [byScan_of (knd := intKind prog w) rfl (sent_bound hm f) hel]
  simp only [↓reduceIte]
  unfold setAddByScan
  refine wpAny_bind ?_
  refine wpAny_bind (wpAny_rule ?_)
  have key : (intKind prog w).is (k : Int) (.int k tk) = true := intKind_is _ _ _ _
  have hh : (k : Int) = (intKind prog w).hash (k : Int) := (hash_k hk).symm
  refine wpAny_bind ?_
  rw [show setScan a (Value.int k tk) (k : Int) true (SEnt m f) = setScan a (Value.int k tk) ((intKind prog w).hash (k : Int)) true (SEnt m f) from by rw [← hh]]
  refine wpAny_setScan_of (knd := intKind prog w) key ho hdat hf hel ?_
  rw [idx_ks hm hk f]
  cases hb : m.testBit k with
  | true =>
    rw [if_pos rfl]
    dsimp only
    refine wpAny_pure (wpAny_pure ?_)
    have e : s = { s with heap := s.heap } := by cases s; rfl
    have := h s.heap d false (Heap.SameBut.refl a s.heap) (by rw [or_self_bit hb]; exact S) (.inl rfl)
    rw [e]; exact this
  | false =>
    rw [if_neg Bool.false_ne_true]
    dsimp only
    have hdk' : d.testBit k = false := by
      rcases hdk with z | z
      · rw [hb] at z; cases z
      · exact z
    rw [T.lay hm hk hb hd hdk' h0 f tk]
    dsimp only
    have T1 := (T.put hm hk hb hd hdk').1
    have h01 := disj_or (m := m) h0 hdk'
    have hm1 := bits_or hm hk
    refine wpAny_bind (m := pure ()) (wpAny_pure ?_)
    have hpl : (t.put k).1.plain = true := T1.plain
    rw [if_pos hpl]
    refine wpAny_bind ?_
    rw [hashByValue_scannable 8 rfl]
    refine wpAny_pure ?_
    dsimp only [plainKind]
    rw [if_pos rfl]
    refine wpAny_bind (wpAny_storeSet_of ho hdat ?_ (small_line hm1 _))
    obtain ⟨o1, ho1, hx1, hd1, S1⟩ := set_store (w := w) (f' := fun j => if j = k then tk else f j) ho hx hdat hm1 hd h01 T1
    have hsb1 := Heap.SameBut.update s.heap a (Obj.putSet (SEnt (m ||| 1 <<< k) (fun j => if j = k then tk else f j)) (t.put k).1)
    split
    · have hn : SetTable.grown (SEnt (m ||| 1 <<< k) (fun j => if j = k then tk else f j)).size < 32 := by
        have := len_ks hm1
        rw [SEnt.size]; unfold SetTable.grown; split <;> omega
      obtain ⟨t2, T2, e2⟩ := T1.relayAll hm1 (fun j => if j = k then tk else f j) hn
      rw [e2]
      dsimp only
      refine wpAny_bind (m := pure ()) (wpAny_pure ?_)
      refine wpAny_bind (wpAny_storeSet_of ho1 hd1 ?_ (small_line hm1 _))
      obtain ⟨o2, ho2, hx2, hd2, S2⟩ := set_store (w := w) (f' := fun j => if j = k then tk else f j) ho1 hx1 hd1 hm1 (by decide) (Nat.and_zero _) T2
      refine wpAny_pure (wpAny_pure ?_)
      exact h _ 0 true (hsb1.trans (Heap.SameBut.update _ a _)) S2 (.inr rfl)
    · refine wpAny_pure (wpAny_pure ?_)
      exact h _ d true hsb1 S1 (.inl rfl)
end
end L2

namespace L2
open PySem PySem.Spec PyProof.Rows
theorem slot_seti_next : Slot "set_iterator" "__next__" "set_iterator.__next__" :=
  .of (owner := "set_iterator") (n := "__next__") (by rw [typeLookup_type, builtinLookup_eq_fast]; kernel_rfl) (by decide +kernel) (by decide +kernel) (by decide +kernel)
    (by first | exact .inl (by decide +kernel) | exact .inr (by decide +kernel)) (by rw [isSubtype_type]; kernel_rfl)
theorem entry_seti_next : entryFor table "set_iterator.__next__" = some Builtin.«set_iterator.__next__» := entryFor_of_tree (by kernel_rfl)
theorem owner_seti : Manifest.owners.lookup (String.ofList ['r', 'o', 't', 'a', 'r', 'e', 't', 'i', '_', 't', 'e', 's'].reverse) = some Manifest.sig_set_iterator := by kernel_rfl
theorem args_seti_next (a : Value) : argsOk "set_iterator.__next__" ⟨[a], []⟩ := by
  unfold argsOk; rw [signature?_of (id := "set_iterator.__next__") (n := ['_', '_', 't', 'x', 'e', 'n', '_', '_']) (o := ['r', 'o', 't', 'a', 'r', 'e', 't', 'i', '_', 't', 'e', 's']) (by kernel_rfl) owner_seti]; kernel_rfl
theorem slot_seti_iter : Slot "set_iterator" "__iter__" "set_iterator.__iter__" :=
  .of (owner := "set_iterator") (n := "__iter__") (by rw [typeLookup_type, builtinLookup_eq_fast]; kernel_rfl) (by decide +kernel) (by decide +kernel) (by decide +kernel)
    (by first | exact .inl (by decide +kernel) | exact .inr (by decide +kernel)) (by rw [isSubtype_type]; kernel_rfl)
theorem entry_seti_iter : entryFor table "set_iterator.__iter__" = some Builtin.«dict_keyiterator.__iter__» :=
  entryFor_alias (id' := "dict_keyiterator.__iter__") (by kernel_rfl) rfl (by decide +kernel) (by kernel_rfl)
theorem args_seti_iter (a : Value) : argsOk "set_iterator.__iter__" ⟨[a], []⟩ := by
  unfold argsOk; rw [signature?_of (id := "set_iterator.__iter__") (n := ['_', '_', 'r', 'e', 't', 'i', '_', '_']) (o := ['r', 'o', 't', 'a', 'r', 'e', 't', 'i', '_', 't', 'e', 's']) (by kernel_rfl) owner_seti]; kernel_rfl
theorem entry_set_iter : entryFor table "set.__iter__" = some Builtin.«frozenset.__iter__» :=
  entryFor_alias (id' := "frozenset.__iter__") (by kernel_rfl) rfl (by decide +kernel) (by kernel_rfl)
/-- the set's data at an address -/
def SetDat (w : World) (h : Heap) (a : Addr) (m d : Nat) (f : Nat → Tok) (ep : Nat) : Prop := m < 64 ∧ d < 64 ∧ m &&& d = 0 ∧ ∃ o t, h.get? a = some o ∧ o.ExactSet ∧ o.data = .set (SEnt m f) ep t ∧ STab (byT w) t m d
theorem SetAt.dat {w : World} {h : Heap} {a : Addr} {m d : Nat} (S : SetAt w h a m d) : ∃ f ep, SetDat w h a m d f ep := let ⟨o, ho, h1, h2, h3, hx, f, ep, t, hd, T⟩ := S; ⟨f, ep, h1, h2, h3, o, t, ho, hx, hd, T⟩
theorem SetDat.at' {w : World} {h h' : Heap} {a : Addr} {m d ep : Nat} {f : Nat → Tok} (S : SetDat w h a m d f ep) (e : ∀ o, h.get? a = some o → h'.get? a = some o) : SetDat w h' a m d f ep := let ⟨h1, h2, h3, o, t, ho, r⟩ := S; ⟨h1, h2, h3, o, t, e o ho, r⟩
/-- the order in which it is gone through -/
def ordS (w : World) (a : Addr) (m : Nat) (f : Nat → Tok) (ep : Nat) : Array (Int × Value) := if byT w then pickOrder (w.params.setOrder a ep) (SEnt m f) else SEnt m f
def IsSetIt (h : Heap) (it a : Addr) (x : Nat) (i n ep : Nat) : Prop := ∃ o, h.get? it = some o ∧ o.cls = .type "set_iterator" ∧ o.data = .fields #[.int x 0, .int i 0, .ref a, .int n 0, .int ep 0]
theorem IsSetIt.typeIs {s : Shared} {it a : Addr} {x i n ep : Nat} (h : IsSetIt s.heap it a x i n ep) : s.TypeIs (.ref it) "set_iterator" := let ⟨o, ho, hc, _⟩ := h; ⟨o, ho, hc⟩
theorem IsSetIt.at' {h h' : Heap} {it a : Addr} {x i n ep : Nat} (z : IsSetIt h it a x i n ep) (e : ∀ o, h.get? it = some o → h'.get? it = some o) : IsSetIt h' it a x i n ep := let ⟨o, ho, r⟩ := z; ⟨o, e o ho, r⟩
theorem erase_perm {α : Type} : ∀ (l : List α) (i : Nat) (h : i < l.length), ([l[i]] ++ l.eraseIdx i).Perm l
  | x :: l, 0, _ => List.Perm.refl _
  | x :: l, i + 1, h => by
    have ih := erase_perm l i (by simpa using h)
    simp only [List.getElem_cons_succ, List.eraseIdx_cons_succ]
    exact (List.Perm.swap x _ _).trans (List.Perm.cons x ih)
theorem pick_go_perm {α : Type} (nx : Nat → Nat) : ∀ (fuel k : Nat) (l : List α) (out : Array α), l.length ≤ fuel → (pickOrder.go nx fuel k l out).toList.Perm (out.toList ++ l)
  | 0, k, l, out, h => by
    have : l = [] := List.length_eq_zero_iff.mp (Nat.le_zero.mp h)
    subst this
    simp [pickOrder.go]
  | fuel + 1, k, [], out, h => by simp [pickOrder.go]
  | fuel + 1, k, x :: l, out, h => by
    unfold pickOrder.go
    have hlt : nx k % (x :: l).length < (x :: l).length := Nat.mod_lt _ (by simp)
    rw [List.getElem?_eq_getElem hlt]
    dsimp only
    refine (pick_go_perm nx fuel (k + 1) ((x :: l).eraseIdx (nx k % (x :: l).length)) _ (by rw [List.length_eraseIdx_of_lt hlt]; simp at h ⊢; omega)).trans ?_
    rw [Array.toList_push, List.append_assoc]
    refine List.Perm.append_left _ ?_
    exact erase_perm _ _ hlt
theorem ord_perm (w : World) (a : Addr) (m : Nat) (f : Nat → Tok) (ep : Nat) : (ordS w a m f ep).toList.Perm (SEnt m f).toList := by
  unfold ordS
  split
  · unfold pickOrder
    exact (pick_go_perm _ _ _ _ _ (by simp)).trans (by simp)
  · exact List.Perm.refl _
theorem ord_size (w : World) (a : Addr) (m : Nat) (f : Nat → Tok) (ep : Nat) : (ordS w a m f ep).size = (ksOf m).length := by
  have := (ord_perm w a m f ep).length_eq
  rw [Array.length_toList, Array.length_toList, SEnt.size] at this; exact this
section
variable {prog : Program} {w : World} {A : Around} {E : Value → Shared → Prop} {s : Shared} {a it : Addr} {m d ep i : Nat} {f : Nat → Tok}
theorem SetDat.state {Q : (Array (Int × Value) × Nat × SetTable) → Shared → Prop} (S : SetDat w s.heap a m d f ep) (h : ∀ t, STab (byT w) t m d → Q (SEnt m f, ep, t) s) : wpAny (model prog w) A (setState a) Q E s := by
  obtain ⟨h1, h2, h3, o, t, ho, hx, hd, T⟩ := S
  exact wpAny_setState_of ho hd (T.fits h1 h2 h3 f) (h t T)
theorem wp_byText {Q : Bool → Shared → Prop} (h : Q (byT w) s) : wpAny (model prog w) A setsByText Q E s := by
  unfold setsByText
  exact wpAny_bind (wpAny_askSetting (wpAny_pure h))
theorem SetDat.walk {Q : Array (Int × Value) → Shared → Prop} (S : SetDat w s.heap a m d f ep) (h : Q (ordS w a m f ep) s) : wpAny (model prog w) A (setWalk a) Q E s := by
  unfold setWalk
  refine wpAny_bind (S.state fun t T => ?_)
  dsimp only
  refine wpAny_bind (wp_byText ?_)
  unfold ordS at h
  cases hb : byT w with
  | true =>
    rw [hb, if_pos rfl] at h
    rw [if_pos rfl]
    exact wpAny_bind (wpAny_askSetting (wpAny_pure h))
  | false =>
    rw [hb, if_neg Bool.false_ne_true] at h
    rw [if_neg Bool.false_ne_true]
    have hl : t.led = true := by rw [T.led, hb]; rfl
    refine wpAny_ite_split (fun z => ?_) fun _ => ?_
    · exfalso
      revert z
      show ¬ ((!t.plain && _) = true)
      rw [T.plain]; simp
    · refine wpAny_bind (Q := _) ?_
      show wpAny _ _ (if (!t.led && _) = true then _ else _) _ _ _
      rw [hl]
      simp only [Bool.not_true, Bool.false_and, Bool.false_eq_true, ↓reduceIte]
      exact wpAny_pure (wpAny_pure h)
/-- iter(set) -/
theorem set_iter {Q : Value → Shared → Prop} (S : SetDat w s.heap a m d f ep)
    (hQ : Q (.ref s.heap.objs.size) { s with heap := s.heap.push { cls := .type "set_iterator", data := .fields #[.int 0 0, .int 0 0, .ref a, .int (ksOf m).length 0, .int ep 0] } }) :
    wpAny (model prog w) A (pyIter (.ref a)) Q E s := by
  have hT : s.TypeIs (.ref a) "set" := let ⟨_, _, _, o, t, ho, hx, _⟩ := S; ⟨o, ho, hx.1⟩
  refine wpAny_pyIter_slot hT PySem.F.slot_set_iter (wpAny_call_entry PySem.F.slot_set_iter hT entry_set_iter ?_ (PySem.F.args_set_iter_1 _))
  unfold Builtin.«frozenset.__iter__» Builtin.Frozenset.slot0 slotArgs
  simp only [List.isEmpty_nil, Bool.not_true, Bool.false_eq_true, ↓reduceIte, bind_assoc, List.length_nil, bne_self_eq_false]
  unfold Builtin.Frozenset.addrOf Builtin.Frozenset.sizeOf setEntries setDrawn
  refine wpAny_bind (wpAny_pure ?_)
  try dsimp only
  refine wpAny_bind (wpAny_pure ?_)
  refine wpAny_bind (wpAny_bind (wpAny_bind (S.state fun t T => wpAny_pure (wpAny_pure ?_))))
  refine wpAny_bind (wpAny_bind (S.state fun t T => ?_))
  dsimp only
  refine wpAny_bind (wp_byText (wpAny_pure ?_))
  have e0 : (!byT w && (!t.plain && decide ((SEnt m f).size > 1))) = false := by rw [T.plain]; simp
  refine wpAny_ite_split (fun z => absurd (z.symm.trans (show _ = false from e0)) (by simp)) fun _ => ?_
  refine wpAny_bind (wpAny_pure ?_)
  unfold setEpoch
  refine wpAny_bind (wpAny_bind (S.state fun t T => wpAny_pure ?_))
  simp only [newFields]
  refine wpAny_bind (wpAny_newObj_type (wpAny_pure ⟨_, rfl, "set_iterator", _, ⟨_, Heap.get?_push_size _ rfl, rfl⟩, slot_seti_next.lookup, ?_⟩))
  simpa [rawInt, SEnt.size] using hQ
end
end L2

namespace L2
open PySem PySem.Spec PyProof.Rows
section
variable {prog : Program} {w : World} {A : Around} {E : Value → Shared → Prop} {s : Shared} {a it : Addr} {m d ep i : Nat} {f : Nat → Tok}
def slotW (w : World) (m i : Nat) : Nat := if byT w then 0 else slotOf m i
/-- what stands at the i-th place -/
theorem SetDat.next {Q : Option (Value × Nat) → Shared → Prop} (S : SetDat w s.heap a m d f ep) (hi : i ≤ (ksOf m).length)
    (h : Q ((ordS w a m f ep)[i]?.map fun e => (e.2, slotW w m (i + 1))) s) : wpAny (model prog w) A (setNext a (slotW w m i) i ep) Q E s := by
  have hm : m < 64 := S.1
  unfold setNext
  refine wpAny_bind (S.state fun t T => ?_)
  dsimp only
  refine wpAny_bind (wp_byText ?_)
  cases hb : byT w with
  | true =>
    rw [if_pos rfl]
    simp only [bne_self_eq_false, Bool.false_eq_true, ↓reduceIte]
    refine wpAny_bind (S.walk (wpAny_pure ?_))
    unfold slotW at h
    rw [hb, if_pos rfl] at h
    unfold slotW
    rw [hb, if_pos rfl]
    exact h
  | false =>
    rw [if_neg Bool.false_ne_true]
    have hl : t.led = true := by rw [T.led, hb]; rfl
    refine wpAny_ite_split (fun z => ?_) fun _ => ?_
    · exfalso
      revert z
      show ¬ ((!t.plain && _) = true)
      rw [T.plain]; simp
    · refine wpAny_bind (Q := _) ?_
      show wpAny _ _ (if (!t.led && _) = true then _ else _) _ _ _
      rw [hl]
      simp only [Bool.not_true, Bool.false_and, Bool.false_eq_true, ↓reduceIte]
      refine wpAny_pure ?_
      unfold slotW at h
      rw [hb, if_neg Bool.false_ne_true] at h
      unfold ordS at h
      rw [hb, if_neg Bool.false_ne_true] at h
      unfold slotW
      rw [hb, if_neg Bool.false_ne_true, T.pl, next_ks hm hi]
      refine wpAny_pure ?_
      by_cases hlt : i < (ksOf m).length
      · have e1 : (SEnt m f)[i]? = some (((ksOf m)[i] : Int), Value.int ((ksOf m)[i] : Nat) (f (ksOf m)[i])) := by
          rw [← Array.getElem?_toList, SEnt.toList, List.getElem?_map, List.getElem?_eq_getElem hlt]; rfl
        have e2 : (ksOf m).toArray[i]? = some (ksOf m)[i] := by simp [hlt]
        rw [e1, e2]
        rw [e1] at h
        have e3 : slotOf m (i + 1) = (ksOf m)[i] + 1 := by
          unfold slotOf
          rw [if_neg (by omega)]
          simp [List.getD_eq_getElem?_getD, hlt]
        rw [e3] at h
        exact h
      · have e1 : (SEnt m f)[i]? = none := Array.getElem?_eq_none (by rw [SEnt.size]; omega)
        rw [e1] at h ⊢
        exact h
theorem set_next_item {Q : Option Value → Shared → Prop} (hit : IsSetIt s.heap it a (slotW w m i) i (ksOf m).length ep) (S : SetDat w s.heap a m d f ep) (hi : i < (ksOf m).length) {e : Int × Value} (he : (ordS w a m f ep)[i]? = some e)
    (hQ : ∀ h', IsSetIt h' it a (slotW w m (i + 1)) (i + 1) (ksOf m).length ep → Heap.SameBut it s.heap h' → Q (some e.2) { s with heap := h' }) :
    wpAny (model prog w) A (pyNext (.ref it)) Q E s := by
  obtain ⟨o, ho, hc, hd⟩ := id hit
  unfold pyNext
  refine wpAny_bind (wpAny_attempt (wpAny_callSpecial?_slot (name := Str.ofString "__next__") hit.typeIs slot_seti_next
    (wpAny_call_entry slot_seti_next hit.typeIs entry_seti_next ?_ (args_seti_next _))))
  unfold Builtin.«set_iterator.__next__» slotArgs
  simp only [List.isEmpty_nil, Bool.not_true, Bool.false_eq_true, ↓reduceIte, List.length_nil, bne_self_eq_false]
  refine wpAny_bind (wpAny_pure ?_)
  dsimp only
  unfold fieldsOf
  dsimp only
  refine wpAny_bind ?_
  refine wpAny_bind (wpAny_load ho ?_)
  rw [hd]
  refine wpAny_pure ?_
  dsimp only
  unfold setEntries
  refine wpAny_bind (wpAny_bind (S.state fun t T => wpAny_pure ?_))
  have e1 : (((SEnt m f).size : Int) != ((ksOf m).length : Int)) = false := by rw [SEnt.size]; simp
  dsimp only
  rw [if_neg (by rw [e1]; exact Bool.false_ne_true)]
  refine wpAny_bind ?_
  simp only [Int.toNat_natCast]
  refine S.next (Nat.le_of_lt hi) ?_
  rw [he]
  dsimp only [Option.map]
  refine wpAny_bind (wpAny_setField ho hd (by simp) ?_)
  have ho1 := Heap.get?_update_self (Obj.mapFields fun xs => xs.setIfInBounds 0 (rawInt (slotW w m (i + 1)))) ho (Obj.isFreed_of_fields (Obj.data_mapFields hd _))
  have hd1 := Obj.data_mapFields hd (fun xs => xs.setIfInBounds 0 (rawInt (slotW w m (i + 1))))
  refine wpAny_bind (wpAny_setField ho1 hd1 (by simp) (wpAny_pure ⟨e.2, rfl, wpAny_pure (hQ _ ?_ ((Heap.SameBut.update ..).trans (Heap.SameBut.update ..)))⟩))
  refine ⟨_, Heap.get?_update_self _ ho1 (Obj.isFreed_of_fields (Obj.data_mapFields hd1 _)), (Obj.cls_mapFields ..).trans ((Obj.cls_mapFields ..).trans hc), ?_⟩
  rw [Obj.data_mapFields hd1]; simp [rawInt]
theorem set_next_end {Q : Option Value → Shared → Prop} (hh : A.handled = none) (hit : IsSetIt s.heap it a (slotW w m (ksOf m).length) (ksOf m).length (ksOf m).length ep) (S : SetDat w s.heap a m d f ep)
    (hQ : ∀ h', Heap.ExtBut it s.heap h' → Q none { s with heap := h' }) : wpAny (model prog w) A (pyNext (.ref it)) Q E s := by
  obtain ⟨o, ho, hc, hd⟩ := id hit
  unfold pyNext
  refine wpAny_bind (wpAny_attempt (wpAny_callSpecial?_slot (name := Str.ofString "__next__") hit.typeIs slot_seti_next
    (wpAny_call_entry slot_seti_next hit.typeIs entry_seti_next ?_ (args_seti_next _))))
  unfold Builtin.«set_iterator.__next__» slotArgs
  simp only [List.isEmpty_nil, Bool.not_true, Bool.false_eq_true, ↓reduceIte, List.length_nil, bne_self_eq_false]
  refine wpAny_bind (wpAny_pure ?_)
  dsimp only
  unfold fieldsOf
  dsimp only
  refine wpAny_bind ?_
  refine wpAny_bind (wpAny_load ho ?_)
  rw [hd]
  refine wpAny_pure ?_
  dsimp only
  unfold setEntries
  refine wpAny_bind (wpAny_bind (S.state fun t T => wpAny_pure ?_))
  have e1 : (((SEnt m f).size : Int) != ((ksOf m).length : Int)) = false := by rw [SEnt.size]; simp
  dsimp only
  rw [if_neg (by rw [e1]; exact Bool.false_ne_true)]
  refine wpAny_bind ?_
  simp only [Int.toNat_natCast]
  refine S.next (Nat.le_refl _) ?_
  rw [Array.getElem?_eq_none (by rw [ord_size]; exact Nat.le_refl _)]
  dsimp only [Option.map]
  refine wpAny_bind (wpAny_setField ho hd (by simp) ?_)
  show wpAny _ _ (newExc (.type "StopIteration") [] >>= _) _ _ _
  refine wpAny_bind ?_
  simp only [newExc, newTuple]
  refine wpAny_bind (wpAny_newObj_type ?_ (by size_fits))
  refine wpAny_bind (m := firstArgMember _ _) (wpAny_of_eq (a := Value.none) (by first | rfl | (simp only [firstArgMember]; rfl)) ?_)
  refine wpAny_newObj_type ?_ (by size_fits)
  simp only [raiseNew]
  refine wpAny_bind (wpAny_handled ?_)
  rw [show A.in1.handled = none from hh]
  refine wpAny_bind (wpAny_pure (wpAny_throw ?_))
  refine wpAny_bind (wpAny_isInstance (T := "StopIteration") (b := true) ⟨_, Heap.get?_push_size _ rfl, rfl⟩ isSubtype_stop ?_)
  exact wpAny_pure (hQ _ (((Heap.SameBut.update ..).extBut.push _).push _))
theorem set_self {x i n : Nat} {Q : Value → Shared → Prop} (hit : IsSetIt s.heap it a x i n ep) (h : Q (.ref it) s) : wpAny (model prog w) A (pyIter (.ref it)) Q E s := by
  refine wpAny_pyIter_slot hit.typeIs slot_seti_iter (wpAny_call_entry slot_seti_iter hit.typeIs entry_seti_iter ?_ (args_seti_iter _))
  show wpAny _ _ (ret (.ref it)) _ _ s
  exact wpAny_pure ⟨_, rfl, "set_iterator", _, hit.typeIs, slot_seti_next.lookup, h⟩
theorem walks_set (hh : A.handled = none) (I a : Addr) (hne : a ≠ I) (m d ep : Nat) (f : Nat → Tok) :
    Walks prog w A I [I, a] [I] (ksOf m).length (fun i v => ∃ e, (ordS w a m f ep)[i]? = some e ∧ v = e.2) (fun i h => IsSetIt h I a (slotW w m i) i (ksOf m).length ep ∧ SetDat w h a m d f ep) where
  sub := fun b hb => by simp at hb; simp [hb]
  frame := fun _ _ _ st hk => ⟨st.1.at' fun o e => hk I (by simp) o e, st.2.at' fun o e => hk a (by simp) o e⟩
  item := fun i s Q E hi st hQ => by
    obtain ⟨e, he⟩ : ∃ e, (ordS w a m f ep)[i]? = some e := ⟨_, Array.getElem?_eq_getElem (by rw [ord_size]; exact hi)⟩
    refine set_next_item st.1 st.2 hi he fun h' hit' hs' => ?_
    exact hQ _ h' s.toks ⟨e, he, rfl⟩ ⟨hit', st.2.at' fun o q => hs'.extBut a o hne q⟩ fun b o hb q => hs'.extBut b o (fun h => hb (by simp [h])) q
  done := fun s Q E st hQ => set_next_end hh st.1 st.2 fun h' he' => hQ h' s.toks fun b o hb e => he' b o (fun h => hb (by simp [h])) e
  self := fun _ _ _ _ st hQ => set_self st.1 hQ
theorem hint_set {Q : Bool → Shared → Prop} (hT : s.TypeIs (.ref a) "set") (h : Q false s) : wpAny (model prog w) A (Builtin.List.listLengthHint (.ref a)) Q E s := by
  unfold Builtin.List.listLengthHint
  refine wpAny_bind (wpAny_specialOf hT PySem.F.slot_set_len.lookup ?_)
  generalize hid : ("set.__len__" : String) = id0
  wp_delta
  rw [show splitId id0 = some ("set", "__len__") from by subst hid; decide +kernel]
  subst hid
  refine wpAny_bind (wpAny_isInstance (T := "set") (b := true) hT (by rw [isSubtype_type]; kernel_rfl) ?_)
  refine wpAny_ite_split (fun hab => absurd hab (by decide)) (fun _ => ?_)
  refine wpAny_ite_split (fun _ => ?_) (fun hab => absurd (by decide +kernel) hab)
  refine wpAny_bind (wpAny_typeOf hT ?_)
  exact wpAny_pure h
theorem src_set (prog : Program) (w : World) (a : Addr) (m d ep : Nat) (f : Nat → Tok) : PySem.W.KdlSrc prog w "set" a a (ksOf m).length (fun i v => ∃ e, (ordS w a m f ep)[i]? = some e ∧ v = e.2) (fun h => SetDat w h a m d f ep) where
  type := fun s S => let ⟨_, _, _, o, t, ho, hx, _⟩ := S; ⟨o, ho, hx.1⟩
  there := fun h S => let ⟨_, _, _, o, t, ho, hx, _⟩ := S; ⟨Heap.lt_size ho, Heap.lt_size ho⟩
  keep := fun h h' S hk => S.at' fun o e => hk a (.inl rfl) o e
  notList := by decide
  notTuple := by decide
  hint := fun A E s Q S h => hint_set (let ⟨_, _, _, o, t, ho, hx, _⟩ := S; ⟨o, ho, hx.1⟩) h
  iter := fun A s hh S => ⟨_, _, fun E Q h => set_iter S h, walks_set hh s.heap.objs.size a (let ⟨_, _, _, o, t, ho, hx, _⟩ := S; Nat.ne_of_lt (Heap.lt_size ho)) m d ep f,
    ⟨⟨_, Heap.get?_push_size _ rfl, rfl, by unfold slotW slotOf; split <;> rfl⟩, S.at' fun o e => Heap.get?_push_of_some _ e⟩⟩
end
end L2

namespace L2
open PySem PySem.Spec PyProof.Rows
def bitsOf (l : List Int) : Nat := l.foldl (fun m k => m ||| 1 <<< k.toNat) 0
def in6 (l : List Int) : Bool := l.all fun k => decide (0 ≤ k ∧ k < 6)
theorem bitsOf_snoc (l : List Int) (k : Int) : bitsOf (l ++ [k]) = bitsOf l ||| 1 <<< k.toNat := by unfold bitsOf; rw [List.foldl_append]; rfl
theorem bitsOf_take {l : List Int} {i : Nat} (h : i < l.length) : bitsOf (l.take (i + 1)) = bitsOf (l.take i) ||| 1 <<< (l.getD i 0).toNat := by
  rw [List.take_add_one, List.getElem?_eq_getElem h]
  show bitsOf (l.take i ++ [l[i]]) = _
  rw [bitsOf_snoc, List.getD_eq_getElem?_getD, List.getElem?_eq_getElem h]; rfl
theorem in6_get {l : List Int} (h : in6 l = true) {i : Nat} (hi : i < l.length) : 0 ≤ l.getD i 0 ∧ l.getD i 0 < 6 := by
  have := List.all_eq_true.mp h l[i] (List.getElem_mem hi)
  rw [List.getD_eq_getElem?_getD, List.getElem?_eq_getElem hi]
  simpa using this
section
variable {prog : Program} {w : World} {A : Around} {E : Value → Shared → Prop} {s : Shared}
theorem fresh_set (led : Bool) (hl : led = !byT w) : SObj w { cls := .type "set", dict := none, data := .set #[] 0 (.fresh 0 0 led) } 0 0 :=
  ⟨by decide, by decide, rfl, ⟨rfl, rfl, rfl⟩, fun _ => 0, 0, .fresh 0 0 led, by simp [SEnt, ksOf], ⟨by simp [SetTable.fresh, masks], by simp [SetTable.fresh, ksOf], by simp [SetTable.fresh, ksOf], hl, rfl⟩⟩
end
section
variable {prog : Program} {w : World} {A : Around} {R : Result → Shared → Prop} {I : Addr} {fp wr : List Addr} {G : Array GenState → Array GenState → Prop} {P : Nat → Value → Prop} {St : Nat → Shared → Prop}
theorem set_loop {ns : List Int} (W : WalksS prog w A.in1 I fp wr G ns.length P St) (S : Addr) (hSf : S ∉ fp) (hval : ∀ i v, P i v → ∃ t, v = .int (ns.getD i 0) t) (h6 : in6 ns = true) :
    ∀ (k i : Nat) (s : Shared), ns.length - i = k → i ≤ ns.length → St i s → SetAt w s.heap S (bitsOf (ns.take i)) 0 →
      (∀ s', Moved (S :: wr) G s s' → SetAt w s'.heap S (bitsOf ns) 0 → R (.ok (.ret .none)) s') →
      codeAny (model prog w) A (.builtin "set.update.loop" ⟨[.ref S, .ref I], []⟩) R s := by
  have hSw : S ∉ wr := fun h => hSf (W.sub _ h)
  have hsub : ∀ b ∈ wr, b ∈ S :: wr := fun b hb => List.mem_cons_of_mem _ hb
  intro k
  induction k with
  | zero =>
    intro i s hk hi hst hS hR
    have hin : i = ns.length := by omega
    subst hin
    refine codeAny_builtin PyProof.Rows.F.entry_set_update_loop ?_
    rw [Around.under_plainId PyProof.Rows.F.plain_set_update_loop _]
    show wpAny _ A.in1 (pyNext (.ref I) >>= _) _ _ s
    refine wpAny_bind (W.done s _ _ hst fun s' hm => ?_)
    show wpAny _ A.in1 (ret Value.none) _ _ s'
    refine wpAny_pure (hR s' (hm.mono hsub) ?_)
    rw [List.take_length] at hS
    exact hS.at' fun o e => hm.heap S _ hSw e
  | succ k ih =>
    intro i s hk hi hst hS hR
    have hlt : i < ns.length := by omega
    refine codeAny_builtin PyProof.Rows.F.entry_set_update_loop ?_
    rw [Around.under_plainId PyProof.Rows.F.plain_set_update_loop _]
    show wpAny _ A.in1 (pyNext (.ref I) >>= _) _ _ s
    refine wpAny_bind (W.item i s _ _ hlt hst fun v s' hP hst' hm => ?_)
    obtain ⟨t, rfl⟩ := hval i v hP
    have hS' : SetAt w s'.heap S (bitsOf (ns.take i)) 0 := hS.at' fun o e => hm.heap S _ hSw e
    obtain ⟨hg0, hg6⟩ := in6_get h6 hlt
    have hbt := bitsOf_take hlt
    generalize hgv : ns.getD i 0 = g at hg0 hg6 hbt ⊢
    obtain ⟨g', rfl⟩ := Int.eq_ofNat_of_zero_le hg0
    have hg6' : g' < 6 := by omega
    rw [Int.toNat_natCast] at hbt
    show wpAny _ A.in1 (holding [Value.int (g' : Int) t] (setAdd S (.int (g' : Int) t)) >>= _) _ _ s'
    refine wpAny_bind (wpAny_holding ?_)
    unfold setAdd
    refine wpAny_holding ?_
    refine wpAny_bind ((intKind prog w).pyHash (k := (g' : Int)) (intKind_is _ _ _ _) ?_)
    rw [show (intKind prog w).hash ((g' : Nat) : Int) = (g' : Int) from hash_k hg6']
    refine set_add (s := { s' with toks := s'.toks + 1 }) hS' hg6' (.inr (Nat.zero_testBit _)) fun h' d' b hsb hS2 hd' => ?_
    have hd0 : d' = 0 := by rcases hd' with z | z <;> exact z
    subst hd0
    rw [← hbt] at hS2
    refine wpAny_pure ⟨plainId_quiet PyProof.Rows.F.plain_set_update_loop _, ih (i + 1) _ (by omega) hlt (W.frame _ s' _ _ hst' (Nat.le_succ _) fun b hb o e => ?_) hS2 fun s'' hm'' hS'' => ?_⟩
    · rw [hsb.2 b (fun h : b = S => hSf (by rw [← h]; exact hb))]; exact e
    · refine hR s'' (Moved.trans W.gtrans ((hm.mono hsub).then_heap (Nat.le_succ _) fun b o hb e => ?_) hm'') hS''
      rw [hsb.2 b (fun h : b = S => hb (by rw [h]; exact List.mem_cons_self))]; exact e
end
section
variable {prog : Program} {w : World} {A : Around} {E : Value → Shared → Prop} {s : Shared}
theorem code_set_new_w (a : Value) {Q₁ : Value → Shared → Prop}
    (h : Q₁ (.ref s.heap.objs.size) { s with heap := s.heap.push { cls := .type "set", dict := none, data := .set #[] 0 (.fresh 0 0 (!byT w)) } }) :
    codeAny (model prog w) A (.call (.builtin "set.__new__") ⟨[.type "set", a], []⟩) (wants Q₁ E) s := by
  refine codeAny_of_tree ?_
  show wpAny _ A.in1 (do checkBuiltinCall "set.__new__" ⟨[.type "set", a], []⟩; again (.builtin "set.__new__" ⟨[.type "set", a], []⟩)) _ _ s
  refine wpAny_bind (wpAny_of_eq (PySem.F.newCall_set_1 a) (wpAny_pure ⟨plainId_quiet PySem.F.plain_set_new _, codeAny_builtin PySem.F.entry_set_new ?_⟩))
  rw [Around.under_plainId PySem.F.plain_set_new _]
  unfold Builtin.«set.__new__» Builtin.Frozenset.newClass
  have hsub := sub_set_self
  obtain ⟨hp, g, d, tk, os⟩ := s
  dsimp only
  wp_walk
  refine wpAny_askSetting (wpAny_pure ?_)
  dsimp only
  simp only [newObj]
  refine wpAny_bind (wpAny_alloc (wpAny_pure ?_))
  exact wpAny_pure h
theorem sub_tuple_set : isSubtype (.type "tuple") (.type "set") = pure false := by rw [isSubtype_type]; kernel_rfl
theorem sub_tuple_frozenset : isSubtype (.type "tuple") (.type "frozenset") = pure false := by rw [isSubtype_type]; kernel_rfl

set_option maxHeartbeats 3200000 in
theorem call_set_list {l : Addr} {items : Array Value} {ns : List Int} {Q : Value → Shared → Prop}
    (hh : A.handled = none) (hl : s.heap.IsList l items) (hi : PyProof.Rows.IntsAre items.toList ns) (h6 : in6 ns = true)
    (h : ∀ (h' : Heap) (tk : Nat), SetAt w h' s.heap.objs.size (bitsOf ns) 0 →
      (∀ b o, b < s.heap.objs.size → s.heap.get? b = some o → h'.get? b = some o) → Q (.ref s.heap.objs.size) { s with heap := h', toks := tk }) :
    wpAny (model prog w) A (call (.type "set") [.ref l]) Q E s := by
  obtain ⟨c, tl, hmro⟩ := PySem.F.called_set.mro
  have hmade := PySem.F.called_set.made
  have hsub := PySem.F.called_set.sub
  refine wpAny_call (codeAny_of_tree ?_)
  show wpAny _ _ (callAny (.type "set") _) _ _ _
  refine wpAny_pure ⟨Code.quiet_builtin _ (by decide +kernel), codeAny_builtin PySem.F.entry_type_call ?_⟩
  rw [Around.under_plain (weight_type_call_type "set" [.ref l] []) rfl]
  have h1 := PySem.F.called_set.notType
  have h2 := PySem.F.called_set.canCreate
  have hct := PySem.F.typeCall_set_1 (.ref l)
  repeat (any_goals (first | assumption | wp_step))
  refine codeAny_mono (code_set_new_w (.ref l) (E := E) (Q₁ := fun obj s₁ => obj = .ref s.heap.objs.size ∧ s₁ = { s with heap := s.heap.push { cls := .type "set", dict := none, data := .set #[] 0 (.fresh 0 0 (!byT w)) } }) ⟨rfl, rfl⟩) fun r s₁ hr => ?_
  cases r with
  | error e => exact hr
  | ok fl =>
    cases fl with
    | ret obj =>
      obtain ⟨rfl, rfl⟩ := hr
      have hS : (s.heap.push { cls := .type "set", dict := none, data := .set #[] 0 (.fresh 0 0 (!byT w)) }).get? s.heap.objs.size = some { cls := .type "set", dict := none, data := .set #[] 0 (.fresh 0 0 (!byT w)) } := Heap.get?_push_size _ rfl
      have hT : Shared.TypeIs { s with heap := s.heap.push { cls := .type "set", dict := none, data := .set #[] 0 (.fresh 0 0 (!byT w)) } } (.ref s.heap.objs.size) "set" := ⟨_, hS, rfl⟩
      have hli := PySem.F.called_set.init.lookup
      have hbi := PySem.F.called_set.init.bind (.ref s.heap.objs.size)
      repeat (any_goals (first | assumption | wp_step))
      refine codeAny_mono (codeAny_call_builtin (R := wants (fun r s₂ => r = .none ∧ ∃ h' tk, s₂ = { s with heap := h', toks := tk } ∧
          SetAt w h' s.heap.objs.size (bitsOf ns) 0 ∧
          (∀ b o, b < s.heap.objs.size → s.heap.get? b = some o → h'.get? b = some o)) E) PySem.F.called_set.init.plain PySem.F.entry_set_init (check_set_init_1 hT ?_)) fun r₂ s₂ hr₂ => ?_
      · generalize hled : (!byT w) = led at hS hT ⊢
        obtain ⟨ol, hol, hcl, nl, hdl⟩ := hl
        obtain ⟨ocls, odict, odata, oslots⟩ := ol
        simp only at hcl hdl
        subst hcl; subst hdl
        have hol' : (s.heap.push { cls := .type "set", dict := none, data := .set #[] 0 (.fresh 0 0 led) }).get? l = some { cls := .type "list", dict := odict, data := .seq items nl, slots := oslots } := Heap.get?_push_of_some _ hol
        have hsls := PySem.F.sub_list_set
        have hslf := PySem.F.sub_list_frozenset
        have hne : (Value.type "list" == Value.type "dict") = false := by decide
        have hl1 : (s.heap.push { cls := .type "set", dict := none, data := .set #[] 0 (.fresh 0 0 led) }).IsList l items := ⟨_, hol', rfl, nl, rfl⟩
        unfold Builtin.«set.__init__» noKeywords Builtin.Frozenset.updateFrom
        generalize hPI : pyIter = PI
        wp_walk
        subst hPI
        refine wpAny_pyIter_list hl1 ?_
        refine wpAny_bind (wpAny_runValue ?_)
        have hlS : l < s.heap.objs.size := Heap.lt_size hol
        have hh3 : A.in1.in1.in1.handled = none := by simp [hh]
        have hneI : l ≠ (s.heap.push { cls := .type "set", dict := none, data := .set #[] 0 (.fresh 0 0 led) }).objs.size := by
          rw [Heap.size_push]; exact Nat.ne_of_lt (Nat.lt_succ_of_lt hlS)
        have hSf : s.heap.objs.size ∉ [(s.heap.push { cls := .type "set", dict := none, data := .set #[] 0 (.fresh 0 0 led) }).objs.size, l] := by
          rw [Heap.size_push]; simp only [List.mem_cons, List.mem_singleton, List.not_mem_nil, or_false, not_or]
          exact ⟨Nat.ne_of_lt (Nat.lt_succ_self _), Nat.ne_of_gt hlS⟩
        have hval : ∀ (i : Nat) (v : Value), items[i]? = some v → ∃ t, v = .int (ns.getD i 0) t := fun i v hv =>
          PyProof.Rows.IntsAre.int_at hi i v (by rw [Array.getElem?_toList]; exact hv)
        have hlen : items.size = ns.length := by
          have := PyProof.Rows.IntsAre.length hi
          rw [Array.length_toList] at this; exact this
        have WW := (Walks.list (prog := prog) (w := w) hh3 (s.heap.push { cls := .type "set", dict := none, data := .set #[] 0 (.fresh 0 0 led) }).objs.size l hneI items).toS
        rw [hlen] at WW
        refine set_loop WW s.heap.objs.size hSf hval h6 (ns.length - 0) 0 _ (by omega) (Nat.zero_le _)
          ⟨⟨_, Heap.get?_push_size _ rfl, rfl, rfl⟩, (hl1.push _)⟩ ?hS0 ?hR
        case hS0 =>
          have hget : ((s.heap.push { cls := .type "set", dict := none, data := .set #[] 0 (.fresh 0 0 led) }).push { cls := .type "list_iterator", data := .fields #[.ref l, .int 0 0] }).get? s.heap.objs.size
              = some { cls := .type "set", dict := none, data := .set #[] 0 (.fresh 0 0 led) } := Heap.get?_push_of_some _ hS
          exact ⟨_, hget, fresh_set led hled.symm⟩
        case hR =>
          intro s' hm hS'
          obtain ⟨h', g', d', tk', os'⟩ := s'
          have eg : g' = s.gens := hm.gens
          have ed : d' = s.drawn := hm.drawn
          have eo : os' = s.os := hm.os
          subst eg; subst ed; subst eo
          show wpAny _ _ _ _ _ _
          refine wpAny_pure ?_
          show wpAny _ _ (ret Value.none) _ _ _
          refine wpAny_pure ⟨rfl, h', tk', rfl, hS', fun b o hb e => ?_⟩
          have hb1 : b ≠ s.heap.objs.size := Nat.ne_of_lt hb
          have hb2 : b ≠ (s.heap.push { cls := .type "set", dict := none, data := .set #[] 0 (.fresh 0 0 led) }).objs.size := by
            rw [Heap.size_push]; exact Nat.ne_of_lt (Nat.lt_succ_of_lt hb)
          exact hm.heap b o (by simp only [List.mem_cons, List.mem_singleton, List.not_mem_nil, or_false, not_or]; exact ⟨hb1, hb2⟩) (Heap.get?_push_of_some _ (Heap.get?_push_of_some _ e))
      · cases r₂ with
        | error e => exact hr₂
        | ok fl₂ =>
          cases fl₂ with
          | ret r =>
            obtain ⟨rfl, h', tk, rfl, hS', hk'⟩ := hr₂
            repeat (any_goals (first | assumption | wp_step))
            exact h _ _ hS' hk'
          | _ => exact hr₂.elim
    | _ => exact hr.elim

set_option maxHeartbeats 3200000 in
theorem call_set_tuple {l : Addr} {items : Array Value} {ns : List Int} {Q : Value → Shared → Prop}
    (hh : A.handled = none) (hl : s.heap.IsTuple l items) (hi : PyProof.Rows.IntsAre items.toList ns) (h6 : in6 ns = true)
    (h : ∀ (h' : Heap) (tk : Nat), SetAt w h' s.heap.objs.size (bitsOf ns) 0 →
      (∀ b o, b < s.heap.objs.size → s.heap.get? b = some o → h'.get? b = some o) → Q (.ref s.heap.objs.size) { s with heap := h', toks := tk }) :
    wpAny (model prog w) A (call (.type "set") [.ref l]) Q E s := by
  obtain ⟨c, tl, hmro⟩ := PySem.F.called_set.mro
  have hmade := PySem.F.called_set.made
  have hsub := PySem.F.called_set.sub
  refine wpAny_call (codeAny_of_tree ?_)
  show wpAny _ _ (callAny (.type "set") _) _ _ _
  refine wpAny_pure ⟨Code.quiet_builtin _ (by decide +kernel), codeAny_builtin PySem.F.entry_type_call ?_⟩
  rw [Around.under_plain (weight_type_call_type "set" [.ref l] []) rfl]
  have h1 := PySem.F.called_set.notType
  have h2 := PySem.F.called_set.canCreate
  have hct := PySem.F.typeCall_set_1 (.ref l)
  repeat (any_goals (first | assumption | wp_step))
  refine codeAny_mono (code_set_new_w (.ref l) (E := E) (Q₁ := fun obj s₁ => obj = .ref s.heap.objs.size ∧ s₁ = { s with heap := s.heap.push { cls := .type "set", dict := none, data := .set #[] 0 (.fresh 0 0 (!byT w)) } }) ⟨rfl, rfl⟩) fun r s₁ hr => ?_
  cases r with
  | error e => exact hr
  | ok fl =>
    cases fl with
    | ret obj =>
      obtain ⟨rfl, rfl⟩ := hr
      have hS : (s.heap.push { cls := .type "set", dict := none, data := .set #[] 0 (.fresh 0 0 (!byT w)) }).get? s.heap.objs.size = some { cls := .type "set", dict := none, data := .set #[] 0 (.fresh 0 0 (!byT w)) } := Heap.get?_push_size _ rfl
      have hT : Shared.TypeIs { s with heap := s.heap.push { cls := .type "set", dict := none, data := .set #[] 0 (.fresh 0 0 (!byT w)) } } (.ref s.heap.objs.size) "set" := ⟨_, hS, rfl⟩
      have hli := PySem.F.called_set.init.lookup
      have hbi := PySem.F.called_set.init.bind (.ref s.heap.objs.size)
      repeat (any_goals (first | assumption | wp_step))
      refine codeAny_mono (codeAny_call_builtin (R := wants (fun r s₂ => r = .none ∧ ∃ h' tk, s₂ = { s with heap := h', toks := tk } ∧
          SetAt w h' s.heap.objs.size (bitsOf ns) 0 ∧
          (∀ b o, b < s.heap.objs.size → s.heap.get? b = some o → h'.get? b = some o)) E) PySem.F.called_set.init.plain PySem.F.entry_set_init (check_set_init_1 hT ?_)) fun r₂ s₂ hr₂ => ?_
      · generalize hled : (!byT w) = led at hS hT ⊢
        obtain ⟨ol, hol, hcl, nl, hdl⟩ := hl
        obtain ⟨ocls, odict, odata, oslots⟩ := ol
        simp only at hcl hdl
        subst hcl; subst hdl
        have hol' : (s.heap.push { cls := .type "set", dict := none, data := .set #[] 0 (.fresh 0 0 led) }).get? l = some { cls := .type "tuple", dict := odict, data := .seq items nl, slots := oslots } := Heap.get?_push_of_some _ hol
        have hsls := sub_tuple_set
        have hslf := sub_tuple_frozenset
        have hne : (Value.type "tuple" == Value.type "dict") = false := by decide
        have hl1 : (s.heap.push { cls := .type "set", dict := none, data := .set #[] 0 (.fresh 0 0 led) }).IsTuple l items := ⟨_, hol', rfl, nl, rfl⟩
        unfold Builtin.«set.__init__» noKeywords Builtin.Frozenset.updateFrom
        generalize hPI : pyIter = PI
        wp_walk
        subst hPI
        refine wpAny_pyIter_tuple hl1 ?_
        refine wpAny_bind (wpAny_runValue ?_)
        have hlS : l < s.heap.objs.size := Heap.lt_size hol
        have hh3 : A.in1.in1.in1.handled = none := by simp [hh]
        have hneI : l ≠ (s.heap.push { cls := .type "set", dict := none, data := .set #[] 0 (.fresh 0 0 led) }).objs.size := by
          rw [Heap.size_push]; exact Nat.ne_of_lt (Nat.lt_succ_of_lt hlS)
        have hSf : s.heap.objs.size ∉ [(s.heap.push { cls := .type "set", dict := none, data := .set #[] 0 (.fresh 0 0 led) }).objs.size, l] := by
          rw [Heap.size_push]; simp only [List.mem_cons, List.mem_singleton, List.not_mem_nil, or_false, not_or]
          exact ⟨Nat.ne_of_lt (Nat.lt_succ_self _), Nat.ne_of_gt hlS⟩
        have hval : ∀ (i : Nat) (v : Value), items[i]? = some v → ∃ t, v = .int (ns.getD i 0) t := fun i v hv =>
          PyProof.Rows.IntsAre.int_at hi i v (by rw [Array.getElem?_toList]; exact hv)
        have hlen : items.size = ns.length := by
          have := PyProof.Rows.IntsAre.length hi
          rw [Array.length_toList] at this; exact this
        have WW := (Walks.tuple (prog := prog) (w := w) hh3 (s.heap.push { cls := .type "set", dict := none, data := .set #[] 0 (.fresh 0 0 led) }).objs.size l hneI items).toS
        rw [hlen] at WW
        refine set_loop WW s.heap.objs.size hSf hval h6 (ns.length - 0) 0 _ (by omega) (Nat.zero_le _)
          ⟨⟨_, Heap.get?_push_size _ rfl, rfl, rfl⟩, (hl1.push _)⟩ ?hS0 ?hR
        case hS0 =>
          have hget : ((s.heap.push { cls := .type "set", dict := none, data := .set #[] 0 (.fresh 0 0 led) }).push { cls := .type "tuple_iterator", data := .fields #[.ref l, .int 0 0] }).get? s.heap.objs.size
              = some { cls := .type "set", dict := none, data := .set #[] 0 (.fresh 0 0 led) } := Heap.get?_push_of_some _ hS
          exact ⟨_, hget, fresh_set led hled.symm⟩
        case hR =>
          intro s' hm hS'
          obtain ⟨h', g', d', tk', os'⟩ := s'
          have eg : g' = s.gens := hm.gens
          have ed : d' = s.drawn := hm.drawn
          have eo : os' = s.os := hm.os
          subst eg; subst ed; subst eo
          show wpAny _ _ _ _ _ _
          refine wpAny_pure ?_
          show wpAny _ _ (ret Value.none) _ _ _
          refine wpAny_pure ⟨rfl, h', tk', rfl, hS', fun b o hb e => ?_⟩
          have hb1 : b ≠ s.heap.objs.size := Nat.ne_of_lt hb
          have hb2 : b ≠ (s.heap.push { cls := .type "set", dict := none, data := .set #[] 0 (.fresh 0 0 led) }).objs.size := by
            rw [Heap.size_push]; exact Nat.ne_of_lt (Nat.lt_succ_of_lt hb)
          exact hm.heap b o (by simp only [List.mem_cons, List.mem_singleton, List.not_mem_nil, or_false, not_or]; exact ⟨hb1, hb2⟩) (Heap.get?_push_of_some _ (Heap.get?_push_of_some _ e))
      · cases r₂ with
        | error e => exact hr₂
        | ok fl₂ =>
          cases fl₂ with
          | ret r =>
            obtain ⟨rfl, h', tk, rfl, hS', hk'⟩ := hr₂
            repeat (any_goals (first | assumption | wp_step))
            exact h _ _ hS' hk'
          | _ => exact hr₂.elim
    | _ => exact hr.elim
end
end L2

namespace L2
open PySem PySem.Spec PyProof.Rows
section
variable {prog : Program} {w : World} {A : Around} {E : Value → Shared → Prop} {s : Shared} {a r o : Addr} {m m1 m2 d k ep : Nat} {f : Nat → Tok}
def bitsL (l : List Nat) : Nat := l.foldl (fun m k => m ||| 1 <<< k) 0
theorem or_bits : ∀ (l : List Nat) (m : Nat), l.foldl (fun m k => m ||| 1 <<< k) m = m ||| bitsL l
  | [], m => (Nat.or_zero m).symm
  | k :: l, m => by
    unfold bitsL
    rw [List.foldl_cons, List.foldl_cons, or_bits l, or_bits l (0 ||| 1 <<< k), Nat.zero_or, Nat.or_assoc]
theorem bitsL_ks_chk : ∀ m : _root_.Fin 64, bitsL (ksOf m.1) = m.1 := by decide +kernel
theorem bitsL_ks (hm : m < 64) : bitsL (ksOf m) = m := bitsL_ks_chk ⟨m, hm⟩

def EntL (l : List (Int × Value)) : Prop := ∀ e ∈ l, ∃ k : Nat, ∃ t : Tok, k < 6 ∧ e = ((k : Int), Value.int k t)
def keysL (l : List (Int × Value)) : List Nat := l.map fun e => e.1.toNat
theorem ord_ent (w : World) (a : Addr) (m : Nat) (f : Nat → Tok) (ep : Nat) : EntL (ordS w a m f ep).toList := fun e he => by
  have := (ord_perm w a m f ep).mem_iff.mp he
  rw [SEnt.toList] at this
  obtain ⟨k, hk, rfl⟩ := List.mem_map.mp this
  exact ⟨k, f k, mem_ks6 hk, rfl⟩
theorem ord_keys (w : World) (a : Addr) (m : Nat) (f : Nat → Tok) (ep : Nat) : (keysL (ordS w a m f ep).toList).Perm (ksOf m) := by
  have := (ord_perm w a m f ep).map (fun e : Int × Value => e.1.toNat)
  rw [SEnt.toList, List.map_map] at this
  have e : ((fun e : Int × Value => e.1.toNat) ∘ fun (k : Nat) => ((k : Int), Value.int k (f k))) = id := by funext k; simp
  rw [e, List.map_id] at this
  exact this
theorem SetDat.dat {h : Heap} (S : SetDat w h a m d f ep) : SetAt w h a m d := let ⟨h1, h2, h3, o, t, ho, hx, hd, T⟩ := S; ⟨o, ho, h1, h2, h3, hx, f, ep, t, hd, T⟩
theorem SetAt.lt {h : Heap} (S : SetAt w h a m d) : m < 64 := let ⟨_, _, z, _⟩ := S; z
end
end L2

namespace L2
open PySem PySem.Spec PyProof.Rows
section
variable {prog : Program} {w : World} {A : Around} {E : Value → Shared → Prop} {s : Shared} {a b r o : Addr} {m m1 m2 d k ep : Nat} {f : Nat → Tok}
theorem SetAt.keep {h h' : Heap} (S : SetAt w h a m d) (hne : a ≠ r) (sb : Heap.SameBut r h h') : SetAt w h' a m d := S.at' fun o q => (sb.2 a hne).trans q
theorem SetDat.keep {h h' : Heap} (S : SetDat w h a m d f ep) (hne : a ≠ r) (sb : Heap.SameBut r h h') : SetDat w h' a m d f ep := S.at' fun o q => (sb.2 a hne).trans q
end
end L2

namespace L2
open PySem PySem.Spec PyProof.Rows
section
variable {prog : Program} {w : World} {A : Around} {E : Value → Shared → Prop} {s : Shared} {a b r o : Addr} {m m1 m2 d k ep : Nat} {f : Nat → Tok}
end
end L2

namespace L2
open PySem PySem.Spec PyProof.Rows
section
variable {prog : Program} {w : World} {A : Around} {E : Value → Shared → Prop} {s : Shared} {a : Addr} {m d ep : Nat} {f : Nat → Tok}
theorem collect_set {Q : List Value → Shared → Prop} (S : SetDat w s.heap a m d f ep) (hh : A.handled = none)
    (h : ∀ h' tk, (∀ b o, s.heap.get? b = some o → h'.get? b = some o) → s.heap.objs.size < h'.objs.size → Q ((ordS w a m f ep).toList.map (·.2)) { s with heap := h', toks := tk }) :
    wpAny (model prog w) A (collect (.ref a)) Q E s := by
  have hlt : a < s.heap.objs.size := let ⟨_, _, _, o, t, ho, _⟩ := S; Heap.lt_size ho
  have hn : (ksOf m).length ≤ sizeLine := by have := len_ks S.1; rw [sizeLine_eq]; omega
  unfold collect
  refine wpAny_bind (wpAny_runValue (codeAny_builtin entry_proto_collect' ?_))
  show wpAny _ _ (do again (.builtin "list.__iadd__" ⟨[← newList [], .ref a], []⟩)) _ _ s
  refine wpAny_bind (wpAny_newList (wpAny_pure ⟨Code.quiet_builtin _ (by decide +kernel), codeAny_builtin entry_list_iadd' ?_⟩))
  show wpAny _ _ (Builtin.List.listExtendWith (.ref s.heap.objs.size) (.ref a) (.ref s.heap.objs.size)) _ _ { s with heap := s.heap.push (seqObj "list" #[] 0) }
  refine PySem.W.kdl_extend (A := A) (R := fun r s' => match r with
      | .ok (.ret v) => wpAny (model prog w) A (match v with
          | .ref a => do
            let o ← load a
            match o.data with
            | .seq xs _ => pure xs.toList
            | _ => unsupported "internal:collect"
          | _ => unsupported "internal:collect") Q E s'
      | .ok _ => False
      | .error e => E e s') (s := { s with heap := s.heap.push (seqObj "list" #[] 0) }) (src_set prog w a m d ep f) hh (S.at' fun o e => Heap.get?_push_of_some _ e) s.heap.objs.size (Nat.ne_of_gt hlt) (Nat.ne_of_gt hlt) (.ref s.heap.objs.size) 0 (Heap.get?_push_size _ rfl) (fun h' tk acc c hk hS hI => ?_) hn
  show wpAny (model prog w) A (do
      let o ← load s.heap.objs.size
      match o.data with
      | .seq xs _ => pure xs.toList
      | _ => unsupported "internal:collect") Q E { s with heap := h', toks := tk }
  refine wpAny_bind (wpAny_load hS ?_)
  show wpAny _ _ (pure acc.toList) Q E _
  have e : acc.toList = (ordS w a m f ep).toList.map (·.2) := by
    apply List.ext_getElem?
    intro i
    rw [List.getElem?_map, Array.getElem?_toList, Array.getElem?_toList]
    by_cases hi : i < acc.size
    · obtain ⟨e, he, hv⟩ := hI.2 i acc[i] (Array.getElem?_eq_getElem hi)
      rw [he, Array.getElem?_eq_getElem hi, hv]; rfl
    · rw [Array.getElem?_eq_none (by omega), Array.getElem?_eq_none (by rw [ord_size, ← hI.1]; omega)]; rfl
  rw [e]
  refine wpAny_pure (h h' tk (fun b o q => ?_) (Heap.lt_size hS))
  exact hk b o (Nat.ne_of_lt (Heap.lt_size q)) (Heap.get?_push_of_some _ q)
theorem ord_ints (w : World) (a : Addr) (m : Nat) (f : Nat → Tok) (ep : Nat) : ∀ {l : List (Int × Value)}, EntL l → IntsAre (l.map (·.2)) (l.map (·.1))
  | [], _ => .nil
  | e :: l, h => by
    obtain ⟨k, t, _, rfl⟩ := h e List.mem_cons_self
    exact .cons _ _ (ord_ints w a m f ep fun e he => h e (List.mem_cons_of_mem _ he))
theorem ks_sorted (m : Nat) : ((ksOf m).map fun k => ((k : Nat) : Int)).Pairwise (· ≤ ·) := by
  rw [List.pairwise_map]
  have : (List.range 6).Pairwise (· < ·) := List.pairwise_lt_range
  exact (this.filter _).imp fun {a b} h => by omega
theorem sorted_set {Q : Value → Shared → Prop} (S : SetAt w s.heap a m d) (hh : A.in1.handled = none)
    (h : ∀ (h' : Heap) (tk : Nat) (p : Addr) (ep : Nat) (out : List Value), (∀ b o, s.heap.get? b = some o → h'.get? b = some o) → s.heap.objs.size ≤ p → h'.get? p = some (seqObj "list" out.toArray ep) → Vals (((ksOf m).map fun k => ((k : Nat) : Int)).map V.int) out → Q (.ref p) { s with heap := h', toks := tk }) :
    wpAny (model prog w) A (call (.builtin "sorted") [.ref a]) Q E s := by
  obtain ⟨f, ep, D⟩ := S.dat
  refine Calls.call_function_entry kind_sorted plain_sorted entry_sorted (args_sorted1 _) ?_
  unfold Builtin.«sorted»
  refine wpAny_bind (m := checkCount "sorted" 1 1 _) (wpAny_pure ?_)
  refine wpAny_bind (collect_set D hh fun h1 tk hk hlt => ?_)
  have hI := ord_ints w a m f ep (ord_ent w a m f ep)
  generalize hvs : (ordS w a m f ep).toList.map (·.2) = vs at hI ⊢
  have hv64 : vs.length ≤ 64 := by
    have := len_ks D.1
    rw [← hvs, List.length_map, Array.length_toList, ord_size]; omega
  refine wpAny_bind (wpAny_newList ?_ (by rw [sizeLine_eq]; omega))
  have hoL : (h1.push (seqObj "list" vs.toArray 0)).get? h1.objs.size = some (seqObj "list" vs.toArray 0) := Heap.get?_push_size _ rfl
  show wpAny _ _ _ _ _ { s with heap := h1.push (seqObj "list" vs.toArray 0), toks := tk }
  refine wpAny_bind (wpAny_holding (wpAny_call_entry slot_list_sort ⟨_, hoL, rfl⟩ entry_list_sort (lsort_any (O := OI) (rk := fun p => [intVal p.1]) (S := fun p => ∃ n t, p.1 = .int n t) (s := { s with heap := h1.push (seqObj "list" vs.toArray 0), toks := tk }) hoL hv64 (fun h' _ => ⟨oneType', kind_int (s := { s with heap := h', toks := tk }) hI⟩) (fun v hv => ints_mem hI v hv) fun out a1 a2 => ⟨_, rfl, ?_⟩) (args_list_sort _)))
  refine wpAny_pure ⟨_, rfl, ?_⟩
  obtain ⟨ep', he⟩ := sortedHeap_at (out := out.toArray) hoL
  refine h _ tk h1.objs.size ep' out (fun b o q => ?_) (Nat.le_of_lt hlt) he ?_
  · have q1 := hk b o q
    have hb : b < h1.objs.size := Heap.lt_size q1
    show (sortedHeap (h1.push (seqObj "list" vs.toArray 0)) h1.objs.size vs out.toArray).get? b = some o
    rw [sortedHeap_old (Nat.ne_of_lt hb) (by rw [size_push']; exact Nat.lt_succ_of_lt hb), Heap.get?_push_ne _ _ _ (Nat.ne_of_lt hb)]
    exact q1
  · have ho : ∀ u ∈ out, ∃ n t, u = .int n t := fun u hu => ints_mem hI u (a1.mem_iff.mp hu)
    have hpm : (out.map intVal).Perm ((ksOf m).map fun k => ((k : Nat) : Int)) := by
      have z1 := a1.map intVal
      rw [ints_val hI] at z1
      have z2 := (ord_keys w a m f ep).map (fun k => ((k : Nat) : Int))
      refine z1.trans (List.Perm.trans ?_ z2)
      unfold keysL
      rw [List.map_map]
      refine List.Perm.of_eq (List.map_congr_left fun e he => ?_)
      obtain ⟨k, t, _, rfl⟩ := ord_ent w a m f ep e he
      simp
    have hs : (out.map intVal).Pairwise (· ≤ ·) := by
      rw [List.pairwise_map]
      refine a2.imp fun {x y} q => ?_
      have q' : lexI [intVal y] [intVal x] = false := q
      by_cases e : intVal y = intVal x
      · omega
      · have : lexI [intVal y] [intVal x] = decide (intVal y < intVal x) := by show (if _ then _ else _) = _; rw [if_neg e]
        rw [this, decide_eq_false_iff_not] at q'; omega
    have e := sorted_uniq hpm hs (ks_sorted m)
    have hvv := vals_of_ints (ints_back ho)
    rw [e] at hvv; exact hvv
end
def PX (X : Cx) (z : Bool) (e : Expr) (t : St → Hp → (Nat → Hp → Prop) → Prop) : Prop :=
  ∀ (pins : List (Addr × Obj)) (s : Shared) (σ : St) (H : Hp) (Q : Nat → Hp → Prop), Inv X pins σ H s → t σ H Q → wpAny (model X.prog X.w) X.A (eval e X.env)
    (fun u s' => ∃ a o m d H', u = .ref a ∧ s'.heap.get? a = some o ∧ SObj X.w o m d ∧ (z = true → d = 0) ∧ H' a = none ∧ a ≠ X.env.locals ∧ a ∉ X.fs ∧ (∀ p ∈ pins, p.1 ≠ a) ∧ Inv X pins σ H' s' ∧ Q m H') X.xe s
abbrev Xf := Ev → Sto → Option (Nat × Sto)
def tIX (K : PySem.W.Frag) (env : Ev) (st : Sto) (r : Nat × Sto) : St → Hp → (Nat → Hp → Prop) → Prop := fun σ H Q => ∃ φ, Er K H φ env σ ∧ Sr K H φ st ∧ ∀ H' φ', Fw φ φ' H H' → Sr K H' φ' r.2 → Q r.1 H'
structure IX (K : PySem.W.Frag) (X : Cx) (z : Bool) (e : Expr) (f : Xf) : Prop where
  run : ∀ env st r, f env st = some r → PX X z e (tIX K env st r)
def iSetOf (fe : Ef) : Xf
  | env, st => (fe env st).bind fun x => (seqD x.2 x.1).bind fun ds => (intsOf ds).bind fun ns => if in6 ns = true then some (bitsOf ns, x.2) else none
def iSortS (fx : Xf) : Lf
  | env, st => (fx env st).map fun x => ((ksOf x.1).map fun k => D.int (k : Nat), x.2)
section
variable {K : PySem.W.Frag} {X : Cx} {pos p : Pos} {e a b : Expr} {fe : Ef} {fa fb : Xf}
theorem ix_set (hg : Gl X "set") (hm : X.mg "set" = none) (ha : IE K X e fe) (hc : X.calm = true := by rfl) (hs : notStar e = true := by rfl) (hK : X.K = K := by rfl) : IX K X true (.Call (.Name "set" p) [e] [] pos) (iSetOf fe) := by
  subst hK
  refine ⟨fun env st r hr => ?_⟩
  simp only [iSetOf, Option.bind_eq_some_iff] at hr
  obtain ⟨⟨x, s1⟩, hx, ds, hds, ns, hns, hr⟩ := hr
  split at hr
  · rename_i h6
    cases hr
    intro pins s σ H Q I h
    refine wpAny_Call_Name_kw (ld_blt I hg hm PyProof.Rows.boot_set ?_)
    refine PyProof.Rows.callWith_type1 ?_ (star_cons hs) (star_any (es := []) rfl)
    rw [star_cons hs]
    show wpAny _ _ (spliced ((false, eval e X.env) :: backTo pos (starEach [] X.env))) _ _ s
    obtain ⟨φ, hE, hS, q⟩ := h
    refine Calls.spliced_cons (thn ((ha.run _ _ _ hx) pins s σ H (fun v H' => ∃ φ', Sr X.K H' φ' s1 ∧ Fw φ φ' H H' ∧ Rw X.K H' φ' x v) I ⟨φ, hE, hS, fun v H' φ' f1 S1 w1 => ⟨φ', S1, f1, w1⟩⟩) fun u s2 ⟨v, H1, I1, r1, φ1, S1, f1, w1⟩ => ?_)
    show wpAny _ _ (spliced []) _ _ s2
    refine Calls.spliced_nil ?_
    obtain ⟨ad, vs, rfl, h1, h2⟩ := seq_rel S1 w1 hds
    cases r1
    cases intsOf_some hns
    cases h2.ints
    have fin : ∀ (h' : Heap) (tk : Nat), SetAt X.w h' s2.heap.objs.size (bitsOf ns) 0 → (∀ b o, b < s2.heap.objs.size → s2.heap.get? b = some o → h'.get? b = some o) →
        ∃ a o m d H', Value.ref s2.heap.objs.size = .ref a ∧ (({ s2 with heap := h', toks := tk } : Shared)).heap.get? a = some o ∧ SObj X.w o m d ∧ (true = true → d = 0) ∧ H' a = none ∧ a ≠ X.env.locals ∧ a ∉ X.fs ∧ (∀ p ∈ pins, p.1 ≠ a) ∧ Inv X pins σ H' { s2 with heap := h', toks := tk } ∧ Q m H' := fun h' tk ⟨o, ho, so⟩ hk => by
      refine ⟨_, o, _, 0, H1, rfl, ho, so, fun _ => rfl, I1.hok.fresh (Nat.le_refl _), Nat.ne_of_gt I1.lt, I1.nofs (Nat.le_refl _), fun p hp => Nat.ne_of_lt (Heap.lt_size (I1.pin p (List.mem_append_right _ hp)).1), I1.kept (fun b u e => hk b u (Heap.lt_size e) e), q H1 φ1 f1 S1⟩
    rcases h1 with h1 | h1
    · obtain ⟨its, rv, pl, _⟩ := I1.list h1
      exact call_set_list (items := its.toArray) (ns := ns) (I1.ok.hd hc) pl.isList (by simpa using intsAre_of rv) h6 fin
    · obtain ⟨its, rv, pl, _⟩ := I1.tuple h1
      exact call_set_tuple (items := its.toArray) (ns := ns) (I1.ok.hd hc) pl (by simpa using intsAre_of rv) h6 fin
  · cases hr
theorem il_sortS {z : Bool} (hg : Gl X "sorted") (hm : X.mg "sorted" = none) (ha : IX K X z e fa) (hc : X.calm = true := by rfl) (hs : notStar e = true := by rfl) : IL K X (.Call (.Name "sorted" p) [e] [] pos) (iSortS fa) := by
  refine ⟨fun env st r hr => ?_⟩
  simp only [iSortS, Option.map_eq_some_iff] at hr
  obtain ⟨x, hx, rfl⟩ := hr
  intro pins s σ H Q I h
  obtain ⟨φ, hE, hS, q⟩ := h
  refine wpAny_Call_Name_kw (ld_blt I hg hm PyProof.Rows.boot_sorted ?_)
  refine PyProof.Rows.callWith_builtin1 ?_ (star_cons hs) (star_any (es := []) rfl)
  rw [star_cons hs]
  show wpAny _ _ (spliced ((false, eval e X.env) :: backTo pos (starEach [] X.env))) _ _ s
  refine Calls.spliced_cons (thn ((ha.run _ _ _ hx) pins s σ H (fun m H' => m = x.1 ∧ ∃ φ', Sr K H' φ' x.2 ∧ Fw φ φ' H H') I ⟨φ, hE, hS, fun H' φ' f1 S1 => ⟨rfl, φ', S1, f1⟩⟩) fun u s1 hu => ?_)
  obtain ⟨a1, o1, m1, d1, H1, rfl, g1, so1, z1, n1, l1, fs1, pn1, I1, rfl, φ1, S1, f1⟩ := hu
  show wpAny _ _ (spliced []) _ _ s1
  refine Calls.spliced_nil ?_
  refine sorted_set ⟨o1, g1, so1⟩ (I1.ok.hd hc) fun h' tk p' ep out hk hp he hv => ?_
  have hn : H1 p' = none := I1.hok.fresh hp
  have hlen : out.length ≤ 1000 := by
    have := len_ks so1.1
    rw [← hv.length, List.length_map, List.length_map]; omega
  have hlay : Inv X pins σ (upd H1 p' (.lst (((ksOf x.1).map fun k => ((k : Nat) : Int)).map V.int))) { s1 with heap := h', toks := tk } := by
    refine I1.laid (t' := tk) (a := p') (o := .lst (((ksOf x.1).map fun k => ((k : Nat) : Int)).map V.int)) hk hp ⟨?_, out, ep, hv, by simpa [seqObj] using he⟩
    rw [hv.length]; exact small16 hlen
  refine ⟨.ref p', _, hlay, rfl, q p' _ H1 φ1 f1 S1 hn ?_⟩
  have := Rls.of_ints (K := K) (H := H1) (φ := φ1) ((ksOf x.1).map fun k => ((k : Nat) : Int))
  rw [List.map_map] at this
  exact this
end
end L2

namespace Own
open PySem L2
def l_power_of_two_1 : Sf := (iSet (.nm 1) (iOp dMul (iV 1) (iC (.int 2))))
def b_power_of_two : Sf := (iSeqS (iSet (.nm 1) (iC (.int 1))) (iSeqS (iFor (iRng1D (iCons (iV 0) iNil)) (.nm 2) l_power_of_two_1) (iRet (iV 1))))
def m_power_of_two : Fn := runK 3 1 b_power_of_two
def b_on_in : Sf := (iRet (iOp dMod (iOp dFdiv (iV 0) (iCall m_power_of_two (iCons (iV 1) iNil))) (iC (.int 2))))
def m_on_in : Fn := runK 2 2 b_on_in
def b_parts_of : Sf := (iSeqS (iIfS (iOpT dEq (iOp dIx (iV 0) (iC (.int 0))) (iC (.str "switch"))) (iRet (iTupD iNil)) iSkip) (iSeqS (iIfS (iOpT dEq (iOp dIx (iV 0) (iC (.int 0))) (iC (.str "not"))) (iRet (iTupD (iCons (iOp dIx (iV 0) (iC (.int 1))) iNil))) iSkip) (iRet (iOp dIx (iV 0) (iUn dNeg (iC (.int 1)))))))
def m_parts_of : Fn := runK 1 1 b_parts_of
def l_switches_in_1 (self : Fn) : Sf := (iDrop (iMeth mExtT (iV 1) (iCons (iCall self (iCons (iV 2) iNil)) iNil)))
def b_switches_in (self : Fn) : Sf := (iSeqS (iIfS (iOpT dEq (iOp dIx (iV 0) (iC (.int 0))) (iC (.str "switch"))) (iRet (iTupD (iCons (iOp dIx (iV 0) (iC (.int 1))) iNil))) iSkip) (iSeqS (iSet (.nm 1) (iNew (iLst iNil))) (iSeqS (iFor (iItems (iCall m_parts_of (iCons (iV 0) iNil))) (.nm 2) (l_switches_in_1 self)) (iRet (iCB dTup (iCons (iPure (iSortS (iSetOf (iV 1)))) iNil))))))
def m_switches_in : Nat → Fn
  | 0 => fun _ _ => none
  | n + 1 => runT 3 1 (b_switches_in (m_switches_in n))
def r_rule_at_1 (self : Fn) : Sf := (iSeqS (iIfS (iOpT dEq (iV 2) (iC (.str "odd"))) (iRet (iOp dMod (iV 4) (iC (.int 2)))) iSkip) (iSeqS (iIfS (iOpT dEq (iV 2) (iC (.str "not"))) (iSet (.nm 5) (iOp dEq (iV 4) (iC (.int 0)))) (iIfS (iOpT dEq (iV 2) (iC (.str "all"))) (iSet (.nm 5) (iOp dEq (iV 4) (iCB dLen (iCons (iV 3) iNil)))) (iIfS (iOpT dEq (iV 2) (iC (.str "any"))) (iSet (.nm 5) (iOp dGt (iV 4) (iC (.int 0)))) (iSet (.nm 5) (iOp dGe (iV 4) (iOp dIx (iV 0) (iC (.int 1)))))))) (iRet (iIfE (iTru truD (iV 5)) (iC (.int 1)) (iC (.int 0))))))
def e_rule_at_2 (self : Fn) : Ef := (iCall self (iCons (iV 0) (iCons (iV 1) iNil)))
def b_rule_at (self : Fn) : Sf := (iSeqS (iSet (.nm 2) (iOp dIx (iV 0) (iC (.int 0)))) (iSeqS (iIfS (iOpT dEq (iV 2) (iC (.str "switch"))) (iRet (iCall m_on_in (iCons (iV 1) (iCons (iOp dIx (iV 0) (iC (.int 1))) iNil)))) iSkip) (iSeqS (iSet (.nm 3) (iPure (iLc 1 [1] (iItems (iCall m_parts_of (iCons (iV 0) iNil))) (.nm 0) iYes (e_rule_at_2 self)))) (iSeqS (iSet (.nm 4) (iCB dSum (iCons (iV 3) iNil))) (r_rule_at_1 self)))))
def m_rule_at : Nat → Fn
  | 0 => fun _ _ => none
  | n + 1 => runK 6 2 (b_rule_at (m_rule_at n))
def e_table_of_1 : Ef := (iCall (m_rule_at 9) (iCons (iV 1) (iCons (iV 0) iNil)))
def b_table_of : Sf := (iRet (iCB dTup (iCons (iPure (iLc 1 [0] (iRng1D (iCons (iCall m_power_of_two (iCons (iV 1) iNil)) iNil)) (.nm 0) iYes e_table_of_1)) iNil)))
def m_table_of : Fn := runK 2 2 b_table_of
def b__law_hand : Sf := (iSeqS (iSet (.nm 2) (iC (.int 0))) (iSeqS (iIfS (iOpT dLt (iV 1) (iCB dLen (iCons (iV 0) iNil))) (iSet (.nm 2) (iOp dIx (iV 0) (iV 1))) iSkip) (iSeqS (iSet (.nm 3) (iOp dMul (iOp dMul (iOp dMul (iOp dPow (iC (.int 10)) (iC (.int 60))) (iOp dPow (iC (.int 10)) (iC (.int 60)))) (iOp dPow (iC (.int 10)) (iC (.int 60)))) (iOp dPow (iC (.int 10)) (iC (.int 60))))) (iSeqS (iSet (.nm 4) (iOp dMod (iOp dMul (iOp dAdd (iOp dAdd (iOp dMod (iV 2) (iC (.int 2147483629))) (iOp dMul (iC (.int 7919)) (iV 1))) (iC (.int 11))) (iC (.int 48271))) (iC (.int 2147483647)))) (iRet (iNew (iLst (iCons (iOp dMul (iOp dMod (iCB dAbs (iCons (iV 2) iNil)) (iV 3)) (iCB dInt (iCons (iOp dGe (iCB dAbs (iCons (iV 2) iNil)) (iOp dPow (iC (.int 10)) (iC (.int 18)))) iNil))) (iCons (iV 4) (iCons (iC (.int 0)) iNil))))))))))
def m__law_hand : Fn := runK 5 2 b__law_hand
def b__law_take : Sf := (iSeqS (iIfS (iOpT dGt (iOp dIx (iV 0) (iC (.int 0))) (iC (.int 0))) (iSeqS (iSet (.nm 2) (iOp dMod (iOp dIx (iV 0) (iC (.int 0))) (iV 1))) (iSeqS (iSetIx (iV 0) (iC (.int 0)) (iOp dFdiv (iOp dIx (iV 0) (iC (.int 0))) (iV 1))) (iRet (iV 2)))) iSkip) (iSeqS (iSetIx (iV 0) (iC (.int 2)) (iOp dAdd (iOp dIx (iV 0) (iC (.int 2))) (iC (.int 1)))) (iSeqS (iSetIx (iV 0) (iC (.int 1)) (iOp dMod (iOp dAdd (iOp dAdd (iOp dMul (iOp dIx (iV 0) (iC (.int 1))) (iC (.int 39373))) (iC (.int 12345))) (iOp dMul (iC (.int 31)) (iOp dIx (iV 0) (iC (.int 2))))) (iC (.int 2147483647)))) (iRet (iOp dMod (iOp dFdiv (iOp dMod (iOp dMul (iOp dIx (iV 0) (iC (.int 1))) (iOp dAdd (iOp dMod (iOp dIx (iV 0) (iC (.int 1))) (iC (.int 40009))) (iC (.int 3)))) (iC (.int 2147483629))) (iC (.int 64))) (iV 1))))))
def m__law_take : Fn := runK 3 2 b__law_take
def b__law_pick : Sf := (iRet (iOp dIx (iV 1) (iCall m__law_take (iCons (iV 0) (iCons (iCB dLen (iCons (iV 1) iNil)) iNil)))))
def m__law_pick : Fn := runK 2 2 b__law_pick
def r__law_rule_1 (self : Fn) : Sf := (iRet (iTupD (iCons (iV 7) (iCons (iCB dTup (iCons (iV 5) iNil)) iNil))))
def l__law_rule_1 (self : Fn) : Sf := (iIfS (iOpT dGt (iOp dIx (iV 1) (iC (.int 0))) (iC (.int 0))) (iDrop (iMeth mAppend (iV 5) (iCons (iCall self (iCons (iV 0) (iCons (iV 1) (iCons (iOp dSub (iV 2) (iC (.int 1))) (iCons (iV 3) iNil))))) iNil))) iSkip)
def r__law_rule_2 (self : Fn) : Sf := (iSeqS (iSet (.nm 5) (iNew (iLst iNil))) (iSeqS (iFor (iRng1D (iCons (iCall m__law_take (iCons (iV 0) (iCons (iOp dIx (iPure (iLst (iCons (iC (.int 4)) (iCons (iC (.int 4)) (iCons (iC (.int 4)) (iCons (iC (.int 7)) iNil)))))) (iCall m__law_take (iCons (iV 0) (iCons (iC (.int 4)) iNil)))) iNil))) iNil)) (.nm 6) (l__law_rule_1 self)) (iSeqS (iSet (.nm 7) (iOp dIx (iPure (iLst (iCons (iC (.str "all")) (iCons (iC (.str "any")) (iCons (iC (.str "odd")) (iCons (iC (.str "least")) (iCons (iC (.str "all")) (iCons (iC (.str "any")) iNil)))))))) (iOp dSub (iV 4) (iC (.int 2))))) (iSeqS (iIfS (iOpT dEq (iV 7) (iC (.str "least"))) (iRet (iTupD (iCons (iV 7) (iCons (iCall m__law_take (iCons (iV 0) (iCons (iOp dIx (iPure (iLst (iCons (iOp dAdd (iCB dLen (iCons (iV 5) iNil)) (iC (.int 2))) (iCons (iC (.int 10)) iNil)))) (iOp dFdiv (iCall m__law_take (iCons (iV 0) (iCons (iC (.int 4)) iNil))) (iC (.int 3)))) iNil))) (iCons (iCB dTup (iCons (iV 5) iNil)) iNil))))) iSkip) (r__law_rule_1 self)))))
def b__law_rule (self : Fn) : Sf := (iSeqS (iSetIx (iV 1) (iC (.int 0)) (iOp dSub (iOp dIx (iV 1) (iC (.int 0))) (iC (.int 1)))) (iSeqS (iSet (.nm 4) (iCall m__law_take (iCons (iV 0) (iCons (iC (.int 8)) iNil)))) (iSeqS (iIfS (iOrT (iOpT dLt (iV 2) (iC (.int 2))) (iOrT (iOpT dLt (iOp dIx (iV 1) (iC (.int 0))) (iC (.int 1))) (iOpT dEq (iV 4) (iC (.int 0))))) (iSeqS (iIfS (iOrT (iOpT dEq (iV 3) (iC (.int 0))) (iOpT dEq (iV 4) (iC (.int 3)))) (iRet (iCall m__law_pick (iCons (iV 0) (iCons (iPure (iLst (iCons (iTupD (iCons (iC (.str "all")) (iCons (iTupD iNil) iNil))) (iCons (iTupD (iCons (iC (.str "any")) (iCons (iTupD iNil) iNil))) (iCons (iTupD (iCons (iC (.str "odd")) (iCons (iTupD iNil) iNil))) (iCons (iTupD (iCons (iC (.str "least")) (iCons (iCall m__law_take (iCons (iV 0) (iCons (iC (.int 10)) iNil))) (iCons (iTupD iNil) iNil)))) iNil)))))) iNil)))) iSkip) (iRet (iTupD (iCons (iC (.str "switch")) (iCons (iCall m__law_take (iCons (iV 0) (iCons (iV 3) iNil))) iNil))))) iSkip) (iSeqS (iIfS (iOpT dEq (iV 4) (iC (.int 1))) (iRet (iTupD (iCons (iC (.str "not")) (iCons (iCall self (iCons (iV 0) (iCons (iV 1) (iCons (iOp dSub (iV 2) (iC (.int 1))) (iCons (iV 3) iNil))))) iNil)))) iSkip) (r__law_rule_2 self)))))
def m__law_rule : Nat → Fn
  | 0 => fun _ _ => none
  | n + 1 => runT 8 4 (b__law_rule (m__law_rule n))
def r__law_at_1 (self : Fn) : Sf := (iSeqS (iIfS (iOpT dEq (iOp dIx (iV 0) (iC (.int 0))) (iC (.str "any"))) (iRet (iCB dInt (iCons (iOp dIn (iC (.int 1)) (iV 2)) iNil))) iSkip) (iSeqS (iIfS (iOpT dEq (iOp dIx (iV 0) (iC (.int 0))) (iC (.str "odd"))) (iRet (iOp dMod (iCnt (iV 2) (iCons (iC (.int 1)) iNil)) (iC (.int 2)))) iSkip) (iRet (iCB dInt (iCons (iOp dGe (iCnt (iV 2) (iCons (iC (.int 1)) iNil)) (iOp dIx (iV 0) (iC (.int 1)))) iNil)))))
def e__law_at_2 (self : Fn) : Ef := (iCall self (iCons (iV 0) (iCons (iV 1) iNil)))
def b__law_at (self : Fn) : Sf := (iSeqS (iIfS (iOpT dEq (iOp dIx (iV 0) (iC (.int 0))) (iC (.str "switch"))) (iRet (iOp dIx (iV 1) (iOp dIx (iV 0) (iC (.int 1))))) iSkip) (iSeqS (iIfS (iOpT dEq (iOp dIx (iV 0) (iC (.int 0))) (iC (.str "not"))) (iRet (iOp dSub (iC (.int 1)) (iCall self (iCons (iOp dIx (iV 0) (iC (.int 1))) (iCons (iV 1) iNil))))) iSkip) (iSeqS (iSet (.nm 2) (iPure (iLc 1 [1] (iItems (iOp dIx (iV 0) (iUn dNeg (iC (.int 1))))) (.nm 0) iYes (e__law_at_2 self)))) (iSeqS (iIfS (iOpT dEq (iOp dIx (iV 0) (iC (.int 0))) (iC (.str "all"))) (iRet (iCB dInt (iCons (iOp dNotIn (iC (.int 0)) (iV 2)) iNil))) iSkip) (r__law_at_1 self)))))
def m__law_at : Nat → Fn
  | 0 => fun _ _ => none
  | n + 1 => runK 3 2 (b__law_at (m__law_at n))
def e__law_bits_1 : Ef := (iOp dMod (iOp dFdiv (iV 1) (iOp dShl (iC (.int 1)) (iV 0))) (iC (.int 2)))
def b__law_bits : Sf := (iRet (iPure (iLc 1 [0] (iRng1D (iCons (iV 1) iNil)) (.nm 0) iYes e__law_bits_1)))
def m__law_bits : Fn := runK 2 2 b__law_bits
def b__law_same : Sf := (iRet (iOp dEq (iCB dRepr (iCons (iV 0) iNil)) (iCB dRepr (iCons (iV 1) iNil))))
def m__law_same : Fn := runK 2 2 b__law_same
def l__law_met_1 (self : Fn) : Sf := (iSet (.nm 1) (iOp dAdd (iV 1) (iCall self (iCons (iV 2) iNil))))
def b__law_met (self : Fn) : Sf := (iSeqS (iIfS (iOpT dEq (iOp dIx (iV 0) (iC (.int 0))) (iC (.str "switch"))) (iRet (iPure (iLst (iCons (iOp dIx (iV 0) (iC (.int 1))) iNil)))) iSkip) (iSeqS (iIfS (iOpT dEq (iOp dIx (iV 0) (iC (.int 0))) (iC (.str "not"))) (iRet (iCall self (iCons (iOp dIx (iV 0) (iC (.int 1))) iNil))) iSkip) (iSeqS (iSet (.nm 1) (iPure (iLst iNil))) (iSeqS (iFor (iItems (iOp dIx (iV 0) (iUn dNeg (iC (.int 1))))) (.nm 2) (l__law_met_1 self)) (iRet (iV 1))))))
def m__law_met : Nat → Fn
  | 0 => fun _ _ => none
  | n + 1 => runK 3 1 (b__law_met (m__law_met n))
def e_law_1 : Ef := (iCall (m__law_at 9) (iCons (iV 1) (iCons (iCall m__law_bits (iCons (iV 0) (iCons (iV 2) iNil))) iNil)))
def l_law_1 : Sf := (iSeqS (iSet (.nm 7) (iCB dTup (iCons (iPure (iLc 1 [3, 6] (iRng1D (iCons (iOp dShl (iC (.int 1)) (iV 6)) iNil)) (.nm 0) iYes e_law_1)) iNil))) (iSeqS (iIfS (iOrT (iNotT (iTru truD (iCall m__law_same (iCons (iCall (m_switches_in 9) (iCons (iV 3) iNil)) (iCons (iV 4) iNil))))) (iNotT (iTru truD (iCall m__law_same (iCons (iCall m_table_of (iCons (iV 3) (iCons (iV 6) iNil))) (iCons (iV 7) iNil)))))) (iRet (iC (.bl false))) iSkip) (iIfS (iNotT (iTru truD (iCall m__law_same (iCons (iCall m_table_of (iCons (iV 3) (iCons (iV 6) iNil))) (iCons (iV 7) iNil))))) (iRet (iC (.bl false))) iSkip)))
def e_law_2 : Ef := (iV 0)
def t_law_1 : Tf := (iOpT dIn (iV 0) (iCall (m__law_met 9) (iCons (iV 1) iNil)))
def l_law_2 : Sf := (iSeqS (iSet (.nm 2) (iCall m__law_hand (iCons (iV 0) (iCons (iV 1) iNil)))) (iSeqS (iSet (.nm 3) (iCall (m__law_rule 9) (iCons (iV 2) (iCons (iNew (iLst (iCons (iC (.int 24)) iNil))) (iCons (iOp dAdd (iC (.int 1)) (iCall m__law_take (iCons (iV 2) (iCons (iC (.int 6)) iNil)))) (iCons (iCall m__law_take (iCons (iV 2) (iCons (iC (.int 7)) iNil))) iNil)))))) (iSeqS (iSet (.nm 4) (iCB dTup (iCons (iPure (iLc 1 [3] (iRng1D (iCons (iC (.int 6)) iNil)) (.nm 0) t_law_1 e_law_2)) iNil))) (iSeqS (iSet (.nm 5) (iC (.int 0))) (iSeqS (iIfS (iOpT dNe (iV 4) (iTupD iNil)) (iSet (.nm 5) (iOp dAdd (iOp dIx (iV 4) (iUn dNeg (iC (.int 1)))) (iC (.int 1)))) iSkip) (iFor (iItems (iPure (iLst (iCons (iV 5) (iCons (iOp dAdd (iV 5) (iCall m__law_take (iCons (iV 2) (iCons (iOp dSub (iC (.int 7)) (iV 5)) iNil)))) iNil))))) (.nm 6) l_law_1))))))
def b_law : Sf := (iSeqS (iFor (iRng1D (iCons (iOp dAdd (iC (.int 1)) (iCB dMin (iCons (iC (.int 6)) (iCons (iCB dLen (iCons (iV 0) iNil)) iNil)))) iNil)) (.nm 1) l_law_2) (iRet (iC (.bl true))))
def m_law : Fn := runT 8 1 b_law
end Own

section
set_option maxHeartbeats 2000000
namespace Own
open PySem L2
def top (i : Nat) : Stmt := PySem.Challenge.pw_signpoly_k08_rules_tabled.main.body.getD i (.Pass ⟨0, 0, 0, 0⟩)
abbrev s_power_of_two : Stmt := top 1
abbrev s_on_in : Stmt := top 2
abbrev s_parts_of : Stmt := top 4
abbrev s_switches_in : Stmt := top 5
abbrev s_rule_at : Stmt := top 6
abbrev s_table_of : Stmt := top 7
abbrev s__law_hand : Stmt := top 9
abbrev s__law_take : Stmt := top 10
abbrev s__law_pick : Stmt := top 11
abbrev s__law_rule : Stmt := top 12
abbrev s__law_at : Stmt := top 13
abbrev s__law_bits : Stmt := top 14
abbrev s__law_same : Stmt := top 15
abbrev s__law_met : Stmt := top 16
abbrev s_law : Stmt := top 17
theorem sc_power_of_two : FnScope ["k", "power", "step"] ["k"] (defScope s_power_of_two) := ⟨rfl, rfl, rfl, by decide +kernel, rfl, by decide +kernel, by decide +kernel⟩
theorem sc_on_in : FnScope ["row", "k"] ["row", "k"] (defScope s_on_in) := ⟨rfl, rfl, rfl, by decide +kernel, rfl, by decide +kernel, by decide +kernel⟩
theorem sc_parts_of : FnScope ["rule"] ["rule"] (defScope s_parts_of) := ⟨rfl, rfl, rfl, by decide +kernel, rfl, by decide +kernel, by decide +kernel⟩
theorem sc_switches_in : FnScope ["rule", "found", "part"] ["rule"] (defScope s_switches_in) := ⟨rfl, rfl, rfl, by decide +kernel, rfl, by decide +kernel, by decide +kernel⟩
theorem sc_rule_at : FnScope ["rule", "row", "word", "values", "many", "holds"] ["rule", "row"] (defScope s_rule_at) := ⟨rfl, rfl, rfl, by decide +kernel, rfl, by decide +kernel, by decide +kernel⟩
theorem sc_table_of : FnScope ["rule", "n"] ["rule", "n"] (defScope s_table_of) := ⟨rfl, rfl, rfl, by decide +kernel, rfl, by decide +kernel, by decide +kernel⟩
theorem sc__law_hand : FnScope ["_law_script", "_law_k", "_law_cell", "_law_far", "_law_seed"] ["_law_script", "_law_k"] (defScope s__law_hand) := ⟨rfl, rfl, rfl, by decide +kernel, rfl, by decide +kernel, by decide +kernel⟩
theorem sc__law_take : FnScope ["_law_hand_here", "_law_many", "_law_digit"] ["_law_hand_here", "_law_many"] (defScope s__law_take) := ⟨rfl, rfl, rfl, by decide +kernel, rfl, by decide +kernel, by decide +kernel⟩
theorem sc__law_pick : FnScope ["_law_hand_here", "_law_some"] ["_law_hand_here", "_law_some"] (defScope s__law_pick) := ⟨rfl, rfl, rfl, by decide +kernel, rfl, by decide +kernel, by decide +kernel⟩
theorem sc__law_rule : FnScope ["_law_hand_here", "_law_left", "_law_deep", "_law_most", "_law_way", "_law_some", "_law_turn", "_law_word"] ["_law_hand_here", "_law_left", "_law_deep", "_law_most"] (defScope s__law_rule) := ⟨rfl, rfl, rfl, by decide +kernel, rfl, by decide +kernel, by decide +kernel⟩
theorem sc__law_at : FnScope ["_law_rule_here", "_law_bits_here", "_law_values"] ["_law_rule_here", "_law_bits_here"] (defScope s__law_at) := ⟨rfl, rfl, rfl, by decide +kernel, rfl, by decide +kernel, by decide +kernel⟩
theorem sc__law_bits : FnScope ["_law_row", "_law_n"] ["_law_row", "_law_n"] (defScope s__law_bits) := ⟨rfl, rfl, rfl, by decide +kernel, rfl, by decide +kernel, by decide +kernel⟩
theorem sc__law_same : FnScope ["_law_found", "_law_due"] ["_law_found", "_law_due"] (defScope s__law_same) := ⟨rfl, rfl, rfl, by decide +kernel, rfl, by decide +kernel, by decide +kernel⟩
theorem sc__law_met : FnScope ["_law_rule_here", "_law_some", "_law_one"] ["_law_rule_here"] (defScope s__law_met) := ⟨rfl, rfl, rfl, by decide +kernel, rfl, by decide +kernel, by decide +kernel⟩
theorem sc_law : FnScope ["_law_script", "_law_k", "_law_hand_here", "_law_rule_here", "_law_some", "_law_least", "_law_n", "_law_due"] ["_law_script"] (defScope s_law) := ⟨rfl, rfl, rfl, by decide +kernel, rfl, by decide +kernel, by decide +kernel⟩
set_option genSizeOf false in
set_option genInjectivity false in
structure Adr where
  f_power_of_two : Addr
  fd_power_of_two : FuncData
  f_on_in : Addr
  fd_on_in : FuncData
  f_parts_of : Addr
  fd_parts_of : FuncData
  f_switches_in : Addr
  fd_switches_in : FuncData
  f_rule_at : Addr
  fd_rule_at : FuncData
  f_table_of : Addr
  fd_table_of : FuncData
  f__law_hand : Addr
  fd__law_hand : FuncData
  f__law_take : Addr
  fd__law_take : FuncData
  f__law_pick : Addr
  fd__law_pick : FuncData
  f__law_rule : Addr
  fd__law_rule : FuncData
  f__law_at : Addr
  fd__law_at : FuncData
  f__law_bits : Addr
  fd__law_bits : FuncData
  f__law_same : Addr
  fd__law_same : FuncData
  f__law_met : Addr
  fd__law_met : FuncData
  f_law : Addr
  fd_law : FuncData
structure Txt (K : PySem.W.Frag) (mg : Str → Option Value) (t : Adr) : Prop where
  F_power_of_two : Fun K "power_of_two" "power_of_two" s_power_of_two t.f_power_of_two t.fd_power_of_two
  m_power_of_two : mg "power_of_two" = some (.ref t.f_power_of_two)
  b_power_of_two : Binds K t.fd_power_of_two ["k"] []
  F_on_in : Fun K "on_in" "on_in" s_on_in t.f_on_in t.fd_on_in
  m_on_in : mg "on_in" = some (.ref t.f_on_in)
  b_on_in : Binds K t.fd_on_in ["row", "k"] []
  F_parts_of : Fun K "parts_of" "parts_of" s_parts_of t.f_parts_of t.fd_parts_of
  m_parts_of : mg "parts_of" = some (.ref t.f_parts_of)
  b_parts_of : Binds K t.fd_parts_of ["rule"] []
  F_switches_in : Fun K "switches_in" "switches_in" s_switches_in t.f_switches_in t.fd_switches_in
  m_switches_in : mg "switches_in" = some (.ref t.f_switches_in)
  b_switches_in : Binds K t.fd_switches_in ["rule"] []
  F_rule_at : Fun K "rule_at" "rule_at" s_rule_at t.f_rule_at t.fd_rule_at
  m_rule_at : mg "rule_at" = some (.ref t.f_rule_at)
  b_rule_at : Binds K t.fd_rule_at ["rule", "row"] []
  F_table_of : Fun K "table_of" "table_of" s_table_of t.f_table_of t.fd_table_of
  m_table_of : mg "table_of" = some (.ref t.f_table_of)
  b_table_of : Binds K t.fd_table_of ["rule", "n"] []
  F__law_hand : Fun K "_law_hand" "_law_hand" s__law_hand t.f__law_hand t.fd__law_hand
  m__law_hand : mg "_law_hand" = some (.ref t.f__law_hand)
  b__law_hand : Binds K t.fd__law_hand ["_law_script", "_law_k"] []
  F__law_take : Fun K "_law_take" "_law_take" s__law_take t.f__law_take t.fd__law_take
  m__law_take : mg "_law_take" = some (.ref t.f__law_take)
  b__law_take : Binds K t.fd__law_take ["_law_hand_here", "_law_many"] []
  F__law_pick : Fun K "_law_pick" "_law_pick" s__law_pick t.f__law_pick t.fd__law_pick
  m__law_pick : mg "_law_pick" = some (.ref t.f__law_pick)
  b__law_pick : Binds K t.fd__law_pick ["_law_hand_here", "_law_some"] []
  F__law_rule : Fun K "_law_rule" "_law_rule" s__law_rule t.f__law_rule t.fd__law_rule
  m__law_rule : mg "_law_rule" = some (.ref t.f__law_rule)
  b__law_rule : Binds K t.fd__law_rule ["_law_hand_here", "_law_left", "_law_deep", "_law_most"] []
  F__law_at : Fun K "_law_at" "_law_at" s__law_at t.f__law_at t.fd__law_at
  m__law_at : mg "_law_at" = some (.ref t.f__law_at)
  b__law_at : Binds K t.fd__law_at ["_law_rule_here", "_law_bits_here"] []
  F__law_bits : Fun K "_law_bits" "_law_bits" s__law_bits t.f__law_bits t.fd__law_bits
  m__law_bits : mg "_law_bits" = some (.ref t.f__law_bits)
  b__law_bits : Binds K t.fd__law_bits ["_law_row", "_law_n"] []
  F__law_same : Fun K "_law_same" "_law_same" s__law_same t.f__law_same t.fd__law_same
  m__law_same : mg "_law_same" = some (.ref t.f__law_same)
  b__law_same : Binds K t.fd__law_same ["_law_found", "_law_due"] []
  F__law_met : Fun K "_law_met" "_law_met" s__law_met t.f__law_met t.fd__law_met
  m__law_met : mg "_law_met" = some (.ref t.f__law_met)
  b__law_met : Binds K t.fd__law_met ["_law_rule_here"] []
  F_law : Fun K "law" "law" s_law t.f_law t.fd_law
  m_law : mg "law" = some (.ref t.f_law)
  b_law : Binds K t.fd_law ["_law_script"] []
  z_abs : mg "abs" = none
  z_int : mg "int" = none
  z_len : mg "len" = none
  z_min : mg "min" = none
  z_range : mg "range" = none
  z_repr : mg "repr" = none
  z_set : mg "set" = none
  z_sorted : mg "sorted" = none
  z_sum : mg "sum" = none
  z_tuple : mg "tuple" = none
section
variable {P : Program} {w : World} {K : PySem.W.Frag} {mg : Str → Option Value} {base : Heap} {t : Adr}
theorem body_power_of_two (T : Txt K mg t) (cdv : Value) (A : Around) (outer : List Env) (s : Shared) (H : Hp) (E : XK) (hr : Room (0) (A.deeper (PyProof.Rows.envOfC "power_of_two" (defScope s_power_of_two) s.heap.objs.size t.f_power_of_two cdv))) : ISs K (cxOf CX0 P w K mg base ["k", "power", "step"] "power_of_two" (defScope s_power_of_two) t.f_power_of_two cdv A outer s H E).nox (defBody s_power_of_two) b_power_of_two :=
  (iss_cons (is_set (i := 1) sc_power_of_two.nd rfl (by first | exact Or.inl rfl | exact Or.inr rfl) ie_int rfl (by first | exact .inl rfl | exact .inr rfl)) (iss_cons (is_for (ii_rng1 rfl T.z_range (ia_cons (iv 0) ia_nil rfl) rfl) (ig_name (pg_name (i := 2) sc_power_of_two.nd rfl (by first | exact Or.inl rfl | exact Or.inr rfl))) (iss_one (is_set (i := 1) sc_power_of_two.nd rfl (by first | exact Or.inl rfl | exact Or.inr rfl) (ie_op (od_mul rfl) (iv 1) ie_int) rfl (by first | exact .inl rfl | exact .inr rfl))) PassesOwn.never rfl (fun _ => rfl)) (iss_one (is_ret (iv 1)))))
theorem ok_power_of_two (T : Txt K mg t) : FnOk P w K mg base CX0 1 t.f_power_of_two t.fd_power_of_two ["k"] (spI K m_power_of_two) :=
  show FnOk P w K mg base CX0 1 t.f_power_of_two t.fd_power_of_two ["k"] (spI K (runK (List.length (α := Str) ["k", "power", "step"]) (List.length (α := Str) ["k"]) b_power_of_two)) from fn_k (N := ["k", "power", "step"]) (ps := ["k"]) (b := b_power_of_two) T.F_power_of_two sc_power_of_two (fun cdv A outer s H E hr => body_power_of_two T cdv A outer s H E hr)
theorem body_on_in (T : Txt K mg t) (cdv : Value) (A : Around) (outer : List Env) (s : Shared) (H : Hp) (E : XK) (hr : Room (1) (A.deeper (PyProof.Rows.envOfC "on_in" (defScope s_on_in) s.heap.objs.size t.f_on_in cdv))) : ISs K (cxOf CX0 P w K mg base ["row", "k"] "on_in" (defScope s_on_in) t.f_on_in cdv A outer s H E).nox (defBody s_on_in) b_on_in :=
  (iss_one (is_ret (ie_op od_mod (ie_op od_fdiv (iv 0) (ie_call (ok_power_of_two T) (by decide) hr rfl T.m_power_of_two T.F_power_of_two.kp T.b_power_of_two (ia_cons (iv 1) ia_nil rfl) (by decide) rfl rfl)) ie_int)))
theorem ok_on_in (T : Txt K mg t) : FnOk P w K mg base CX0 2 t.f_on_in t.fd_on_in ["row", "k"] (spI K m_on_in) :=
  show FnOk P w K mg base CX0 2 t.f_on_in t.fd_on_in ["row", "k"] (spI K (runK (List.length (α := Str) ["row", "k"]) (List.length (α := Str) ["row", "k"]) b_on_in)) from fn_k (N := ["row", "k"]) (ps := ["row", "k"]) (b := b_on_in) T.F_on_in sc_on_in (fun cdv A outer s H E hr => body_on_in T cdv A outer s H E hr)
theorem body_parts_of (T : Txt K mg t) (cdv : Value) (A : Around) (outer : List Env) (s : Shared) (H : Hp) (E : XK) (hr : Room (0) (A.deeper (PyProof.Rows.envOfC "parts_of" (defScope s_parts_of) s.heap.objs.size t.f_parts_of cdv))) : ISs K (cxOf CX0 P w K mg base ["rule"] "parts_of" (defScope s_parts_of) t.f_parts_of cdv A outer s H E).nox (defBody s_parts_of) b_parts_of :=
  (iss_cons (is_if (it_cmp (od_eq hr rfl) (ie_ix (iv 0) ie_int rfl rfl) ie_str (nomark _)) (iss_one (is_ret (ie_tup ia_nil))) iss_nil) (iss_cons (is_if (it_cmp (od_eq hr rfl) (ie_ix (iv 0) ie_int rfl rfl) ie_str (nomark _)) (iss_one (is_ret (ie_tup (ia_cons (ie_ix (iv 0) ie_int rfl rfl) ia_nil rfl)))) iss_nil) (iss_one (is_ret (ie_ix (iv 0) (ie_neg ie_int) rfl rfl)))))
theorem ok_parts_of (T : Txt K mg t) : FnOk P w K mg base CX0 1 t.f_parts_of t.fd_parts_of ["rule"] (spI K m_parts_of) :=
  show FnOk P w K mg base CX0 1 t.f_parts_of t.fd_parts_of ["rule"] (spI K (runK (List.length (α := Str) ["rule"]) (List.length (α := Str) ["rule"]) b_parts_of)) from fn_k (N := ["rule"]) (ps := ["rule"]) (b := b_parts_of) T.F_parts_of sc_parts_of (fun cdv A outer s H E hr => body_parts_of T cdv A outer s H E hr)
theorem body_switches_in (T : Txt K mg t) (n : Nat) (ih : FnOk P w K mg base CX0 (1 + n) t.f_switches_in t.fd_switches_in ["rule"] (spI K (m_switches_in n))) (cdv : Value) (A : Around) (outer : List Env) (s : Shared) (H : Hp) (E : XK) (hr : Room (1 + n) (A.deeper (PyProof.Rows.envOfC "switches_in" (defScope s_switches_in) s.heap.objs.size t.f_switches_in cdv))) : ISs K (cxOf CX0 P w K mg base ["rule", "found", "part"] "switches_in" (defScope s_switches_in) t.f_switches_in cdv A outer s H E).nox (defBody s_switches_in) (b_switches_in (m_switches_in n)) :=
  (iss_cons (is_if (it_cmp (od_eq hr rfl) (ie_ix (iv 0) ie_int rfl rfl) ie_str (nomark _)) (iss_one (is_ret (ie_tup (ia_cons (ie_ix (iv 0) ie_int rfl rfl) ia_nil rfl)))) iss_nil) (iss_cons (is_set (i := 1) sc_switches_in.nd rfl (by first | exact Or.inl rfl | exact Or.inr rfl) (il_new (il_lst ia_nil)) rfl (by first | exact .inl rfl | exact .inr rfl)) (iss_cons (is_for (ii_seq (ie_call (ok_parts_of T) (by omega) hr rfl T.m_parts_of T.F_parts_of.kp T.b_parts_of (ia_cons (iv 0) ia_nil rfl) (by decide) rfl rfl) rfl) (ig_name (pg_name (i := 2) sc_switches_in.nd rfl (by first | exact Or.inl rfl | exact Or.inr rfl))) (iss_one (is_expr (ie_extT (iv 1) (ia_cons (ie_call ih (Nat.le_refl _) hr rfl T.m_switches_in T.F_switches_in.kp T.b_switches_in (ia_cons (iv 2) ia_nil rfl) (by decide) rfl rfl) ia_nil rfl) rfl rfl (by decide) rfl rfl) rfl)) PassesOwn.never rfl (fun _ => rfl)) (iss_one (is_ret (ie_ct (cd_tup rfl) rfl T.z_tuple PyProof.Rows.boot_tuple (ia_cons (il_pure (il_sortS rfl T.z_sorted (ix_set rfl T.z_set (iv 1) rfl rfl rfl) rfl rfl)) ia_nil rfl) (by decide) (by decide) rfl rfl))))))
theorem ok_switches_in (T : Txt K mg t) : ∀ n : Nat, FnOk P w K mg base CX0 (1 + n) t.f_switches_in t.fd_switches_in ["rule"] (spI K (m_switches_in n))
  | 0 => ⟨fun _ _ _ _ ⟨_, _, _, _, h, _⟩ => (nomatch h), fun _ _ _ _ _ _ _ _ _ _ _ _ _ ⟨_, _, _, _, h, _⟩ => (nomatch h)⟩
  | n + 1 => show FnOk P w K mg base CX0 (1 + n + 1) t.f_switches_in t.fd_switches_in ["rule"] (spI K (runT (List.length (α := Str) ["rule", "found", "part"]) (List.length (α := Str) ["rule"]) (b_switches_in (m_switches_in n)))) from fn_t (N := ["rule", "found", "part"]) (ps := ["rule"]) (k := 1 + n) (b := b_switches_in (m_switches_in n)) T.F_switches_in sc_switches_in (fun cdv A outer s H E hr => body_switches_in T n (ok_switches_in T n) cdv A outer s H E hr)
theorem body_rule_at (T : Txt K mg t) (n : Nat) (ih : FnOk P w K mg base CX0 (2 + n) t.f_rule_at t.fd_rule_at ["rule", "row"] (spI K (m_rule_at n))) (cdv : Value) (A : Around) (outer : List Env) (s : Shared) (H : Hp) (E : XK) (hr : Room (2 + n) (A.deeper (PyProof.Rows.envOfC "rule_at" (defScope s_rule_at) s.heap.objs.size t.f_rule_at cdv))) : ISs K (cxOf CX0 P w K mg base ["rule", "row", "word", "values", "many", "holds"] "rule_at" (defScope s_rule_at) t.f_rule_at cdv A outer s H E).nox (defBody s_rule_at) (b_rule_at (m_rule_at n)) :=
  (iss_cons (is_set (i := 2) sc_rule_at.nd rfl (by first | exact Or.inl rfl | exact Or.inr rfl) (ie_ix (iv 0) ie_int rfl rfl) rfl (by first | exact .inl rfl | exact .inr rfl)) (iss_cons (is_if (it_cmp (od_eq hr rfl) (iv 2) ie_str (nomark _)) (iss_one (is_ret (ie_call (ok_on_in T) (by omega) hr rfl T.m_on_in T.F_on_in.kp T.b_on_in (ia_cons (iv 1) (ia_cons (ie_ix (iv 0) ie_int rfl rfl) ia_nil rfl) rfl) (by decide) rfl rfl))) iss_nil) (iss_cons (And.left (is_lc (i0 := 3) sc_rule_at.nd rfl (by first | exact Or.inl rfl | exact Or.inr rfl) (lc_mk (defScope s_rule_at).names ["rule", "row", "word", "values", "many", "holds"] ["part", "row"] 1 [1] rfl rfl rfl (by decide +kernel)) rfl (by decide) (ii_seq (ie_call (ok_parts_of T) (by omega) hr rfl T.m_parts_of T.F_parts_of.kp T.b_parts_of (ia_cons (iv 0) ia_nil rfl) (by decide) rfl rfl) rfl) (fun _ _ _ _ _ => (ig_name (pg_name (i := 0) (show List.Nodup (α := Str) ["part", "row"] by decide +kernel) rfl (by first | exact Or.inl rfl | exact Or.inr rfl)))) (fun _ _ _ _ _ => its_nil) (fun _ _ _ _ _ => (ie_call ih (Nat.le_refl _) hr rfl T.m_rule_at T.F_rule_at.kp T.b_rule_at (ia_cons (iv 0) (ia_cons (iv 1) ia_nil rfl) rfl) (by decide) rfl rfl)) rfl (by first | exact .inl rfl | exact .inr rfl) (fun _ => rfl))) (iss_cons (is_set (i := 4) sc_rule_at.nd rfl (by first | exact Or.inl rfl | exact Or.inr rfl) (ie_cb (cd_sum rfl rfl) rfl T.z_sum PyProof.Rows.boot_sum (ia_cons (iv 3) ia_nil rfl) (by decide) (by decide) rfl rfl) rfl (by first | exact .inl rfl | exact .inr rfl)) (iss_cons (is_if (it_cmp (od_eq hr rfl) (iv 2) ie_str (nomark _)) (iss_one (is_ret (ie_op od_mod (iv 4) ie_int))) iss_nil) (iss_cons (is_if (it_cmp (od_eq hr rfl) (iv 2) ie_str (nomark _)) (iss_one (is_set (i := 5) sc_rule_at.nd rfl (by first | exact Or.inl rfl | exact Or.inr rfl) (ie_cmp (od_eq hr rfl) (iv 4) ie_int (nomark _)) rfl (by first | exact .inl rfl | exact .inr rfl))) (iss_one (is_if (it_cmp (od_eq hr rfl) (iv 2) ie_str (nomark _)) (iss_one (is_set (i := 5) sc_rule_at.nd rfl (by first | exact Or.inl rfl | exact Or.inr rfl) (ie_cmp (od_eq hr rfl) (iv 4) (ie_cb (cd_len rfl) rfl T.z_len PySem.boot_len (ia_cons (iv 3) ia_nil rfl) (by decide) (by decide) rfl rfl) (nomark _)) rfl (by first | exact .inl rfl | exact .inr rfl))) (iss_one (is_if (it_cmp (od_eq hr rfl) (iv 2) ie_str (nomark _)) (iss_one (is_set (i := 5) sc_rule_at.nd rfl (by first | exact Or.inl rfl | exact Or.inr rfl) (ie_cmp od_gt (iv 4) ie_int (nomark _)) rfl (by first | exact .inl rfl | exact .inr rfl))) (iss_one (is_set (i := 5) sc_rule_at.nd rfl (by first | exact Or.inl rfl | exact Or.inr rfl) (ie_cmp od_ge (iv 4) (ie_ix (iv 0) ie_int rfl rfl) (nomark _)) rfl (by first | exact .inl rfl | exact .inr rfl)))))))) (iss_one (is_ret (ie_if (it_tru (iv 5) rfl rfl) ie_int ie_int)))))))))
theorem ok_rule_at (T : Txt K mg t) : ∀ n : Nat, FnOk P w K mg base CX0 (2 + n) t.f_rule_at t.fd_rule_at ["rule", "row"] (spI K (m_rule_at n))
  | 0 => ⟨fun _ _ _ _ ⟨_, _, _, _, h, _⟩ => (nomatch h), fun _ _ _ _ _ _ _ _ _ _ _ _ _ ⟨_, _, _, _, h, _⟩ => (nomatch h)⟩
  | n + 1 => show FnOk P w K mg base CX0 (2 + n + 1) t.f_rule_at t.fd_rule_at ["rule", "row"] (spI K (runK (List.length (α := Str) ["rule", "row", "word", "values", "many", "holds"]) (List.length (α := Str) ["rule", "row"]) (b_rule_at (m_rule_at n)))) from fn_k (N := ["rule", "row", "word", "values", "many", "holds"]) (ps := ["rule", "row"]) (k := 2 + n) (b := b_rule_at (m_rule_at n)) T.F_rule_at sc_rule_at (fun cdv A outer s H E hr => body_rule_at T n (ok_rule_at T n) cdv A outer s H E hr)
theorem body_table_of (T : Txt K mg t) (cdv : Value) (A : Around) (outer : List Env) (s : Shared) (H : Hp) (E : XK) (hr : Room (12) (A.deeper (PyProof.Rows.envOfC "table_of" (defScope s_table_of) s.heap.objs.size t.f_table_of cdv))) : ISs K (cxOf CX0 P w K mg base ["rule", "n"] "table_of" (defScope s_table_of) t.f_table_of cdv A outer s H E).nox (defBody s_table_of) b_table_of :=
  (iss_one (is_ret (ie_ct (cd_tup rfl) rfl T.z_tuple PyProof.Rows.boot_tuple (ia_cons (il_pure (il_lc (lc_mk (defScope s_table_of).names ["rule", "n"] ["row", "rule"] 1 [0] rfl rfl rfl (by decide +kernel)) rfl (by decide) (ii_rng1 rfl T.z_range (ia_cons (ie_call (ok_power_of_two T) (by decide) hr rfl T.m_power_of_two T.F_power_of_two.kp T.b_power_of_two (ia_cons (iv 1) ia_nil rfl) (by decide) rfl rfl) ia_nil rfl) rfl) (fun _ _ _ _ _ => (ig_name (pg_name (i := 0) (show List.Nodup (α := Str) ["row", "rule"] by decide +kernel) rfl (by first | exact Or.inl rfl | exact Or.inr rfl)))) (fun _ _ _ _ _ => its_nil) (fun _ _ _ _ _ => (ie_call (ok_rule_at T 9) (by decide) hr rfl T.m_rule_at T.F_rule_at.kp T.b_rule_at (ia_cons (iv 1) (ia_cons (iv 0) ia_nil rfl) rfl) (by decide) rfl rfl)) (fun _ => rfl))) ia_nil rfl) (by decide) (by decide) rfl rfl)))
theorem ok_table_of (T : Txt K mg t) : FnOk P w K mg base CX0 13 t.f_table_of t.fd_table_of ["rule", "n"] (spI K m_table_of) :=
  show FnOk P w K mg base CX0 13 t.f_table_of t.fd_table_of ["rule", "n"] (spI K (runK (List.length (α := Str) ["rule", "n"]) (List.length (α := Str) ["rule", "n"]) b_table_of)) from fn_k (N := ["rule", "n"]) (ps := ["rule", "n"]) (b := b_table_of) T.F_table_of sc_table_of (fun cdv A outer s H E hr => body_table_of T cdv A outer s H E hr)
theorem body__law_hand (T : Txt K mg t) (cdv : Value) (A : Around) (outer : List Env) (s : Shared) (H : Hp) (E : XK) (hr : Room (0) (A.deeper (PyProof.Rows.envOfC "_law_hand" (defScope s__law_hand) s.heap.objs.size t.f__law_hand cdv))) : ISs K (cxOf CX0 P w K mg base ["_law_script", "_law_k", "_law_cell", "_law_far", "_law_seed"] "_law_hand" (defScope s__law_hand) t.f__law_hand cdv A outer s H E).nox (defBody s__law_hand) b__law_hand :=
  (iss_cons (is_set (i := 2) sc__law_hand.nd rfl (by first | exact Or.inl rfl | exact Or.inr rfl) ie_int rfl (by first | exact .inl rfl | exact .inr rfl)) (iss_cons (is_if (it_cmp od_lt (iv 1) (ie_cb (cd_len rfl) rfl T.z_len PySem.boot_len (ia_cons (iv 0) ia_nil rfl) (by decide) (by decide) rfl rfl) (nomark _)) (iss_one (is_set (i := 2) sc__law_hand.nd rfl (by first | exact Or.inl rfl | exact Or.inr rfl) (ie_ix (iv 0) (iv 1) rfl rfl) rfl (by first | exact .inl rfl | exact .inr rfl))) iss_nil) (iss_cons (is_set (i := 3) sc__law_hand.nd rfl (by first | exact Or.inl rfl | exact Or.inr rfl) (ie_op (od_mul rfl) (ie_op (od_mul rfl) (ie_op (od_mul rfl) (ie_op od_pow ie_int ie_int) (ie_op od_pow ie_int ie_int)) (ie_op od_pow ie_int ie_int)) (ie_op od_pow ie_int ie_int)) rfl (by first | exact .inl rfl | exact .inr rfl)) (iss_cons (is_set (i := 4) sc__law_hand.nd rfl (by first | exact Or.inl rfl | exact Or.inr rfl) (ie_op od_mod (ie_op (od_mul rfl) (ie_op (od_add rfl) (ie_op (od_add rfl) (ie_op od_mod (iv 2) ie_int) (ie_op (od_mul rfl) ie_int (iv 1))) ie_int) ie_int) ie_int) rfl (by first | exact .inl rfl | exact .inr rfl)) (iss_one (is_ret (il_new (il_lst (ia_cons (ie_op (od_mul rfl) (ie_op od_mod (ie_cb cd_abs rfl T.z_abs PyProof.Rows.boot_abs (ia_cons (iv 2) ia_nil rfl) (by decide) (by decide) rfl rfl) (iv 3)) (ie_ct cd_int rfl T.z_int PyProof.Rows.boot_int (ia_cons (ie_cmp od_ge (ie_cb cd_abs rfl T.z_abs PyProof.Rows.boot_abs (ia_cons (iv 2) ia_nil rfl) (by decide) (by decide) rfl rfl) (ie_op od_pow ie_int ie_int) (nomark _)) ia_nil rfl) (by decide) (by decide) rfl rfl)) (ia_cons (iv 4) (ia_cons ie_int ia_nil rfl) rfl) rfl)))))))))
theorem ok__law_hand (T : Txt K mg t) : FnOk P w K mg base CX0 1 t.f__law_hand t.fd__law_hand ["_law_script", "_law_k"] (spI K m__law_hand) :=
  show FnOk P w K mg base CX0 1 t.f__law_hand t.fd__law_hand ["_law_script", "_law_k"] (spI K (runK (List.length (α := Str) ["_law_script", "_law_k", "_law_cell", "_law_far", "_law_seed"]) (List.length (α := Str) ["_law_script", "_law_k"]) b__law_hand)) from fn_k (N := ["_law_script", "_law_k", "_law_cell", "_law_far", "_law_seed"]) (ps := ["_law_script", "_law_k"]) (b := b__law_hand) T.F__law_hand sc__law_hand (fun cdv A outer s H E hr => body__law_hand T cdv A outer s H E hr)
theorem body__law_take (T : Txt K mg t) (cdv : Value) (A : Around) (outer : List Env) (s : Shared) (H : Hp) (E : XK) (hr : Room (0) (A.deeper (PyProof.Rows.envOfC "_law_take" (defScope s__law_take) s.heap.objs.size t.f__law_take cdv))) : ISs K (cxOf CX0 P w K mg base ["_law_hand_here", "_law_many", "_law_digit"] "_law_take" (defScope s__law_take) t.f__law_take cdv A outer s H E).nox (defBody s__law_take) b__law_take :=
  (iss_cons (is_if (it_cmp od_gt (ie_ix (iv 0) ie_int rfl rfl) ie_int (nomark _)) (iss_cons (is_set (i := 2) sc__law_take.nd rfl (by first | exact Or.inl rfl | exact Or.inr rfl) (ie_op od_mod (ie_ix (iv 0) ie_int rfl rfl) (iv 1)) rfl (by first | exact .inl rfl | exact .inr rfl)) (iss_cons (is_setIx (iv 0) ie_int (ie_op od_fdiv (ie_ix (iv 0) ie_int rfl rfl) (iv 1)) rfl rfl rfl) (iss_one (is_ret (iv 2))))) iss_nil) (iss_cons (is_setIx (iv 0) ie_int (ie_op (od_add rfl) (ie_ix (iv 0) ie_int rfl rfl) ie_int) rfl rfl rfl) (iss_cons (is_setIx (iv 0) ie_int (ie_op od_mod (ie_op (od_add rfl) (ie_op (od_add rfl) (ie_op (od_mul rfl) (ie_ix (iv 0) ie_int rfl rfl) ie_int) ie_int) (ie_op (od_mul rfl) ie_int (ie_ix (iv 0) ie_int rfl rfl))) ie_int) rfl rfl rfl) (iss_one (is_ret (ie_op od_mod (ie_op od_fdiv (ie_op od_mod (ie_op (od_mul rfl) (ie_ix (iv 0) ie_int rfl rfl) (ie_op (od_add rfl) (ie_op od_mod (ie_ix (iv 0) ie_int rfl rfl) ie_int) ie_int)) ie_int) ie_int) (iv 1)))))))
theorem ok__law_take (T : Txt K mg t) : FnOk P w K mg base CX0 1 t.f__law_take t.fd__law_take ["_law_hand_here", "_law_many"] (spI K m__law_take) :=
  show FnOk P w K mg base CX0 1 t.f__law_take t.fd__law_take ["_law_hand_here", "_law_many"] (spI K (runK (List.length (α := Str) ["_law_hand_here", "_law_many", "_law_digit"]) (List.length (α := Str) ["_law_hand_here", "_law_many"]) b__law_take)) from fn_k (N := ["_law_hand_here", "_law_many", "_law_digit"]) (ps := ["_law_hand_here", "_law_many"]) (b := b__law_take) T.F__law_take sc__law_take (fun cdv A outer s H E hr => body__law_take T cdv A outer s H E hr)
theorem body__law_pick (T : Txt K mg t) (cdv : Value) (A : Around) (outer : List Env) (s : Shared) (H : Hp) (E : XK) (hr : Room (1) (A.deeper (PyProof.Rows.envOfC "_law_pick" (defScope s__law_pick) s.heap.objs.size t.f__law_pick cdv))) : ISs K (cxOf CX0 P w K mg base ["_law_hand_here", "_law_some"] "_law_pick" (defScope s__law_pick) t.f__law_pick cdv A outer s H E).nox (defBody s__law_pick) b__law_pick :=
  (iss_one (is_ret (ie_ix (iv 1) (ie_call (ok__law_take T) (by decide) hr rfl T.m__law_take T.F__law_take.kp T.b__law_take (ia_cons (iv 0) (ia_cons (ie_cb (cd_len rfl) rfl T.z_len PySem.boot_len (ia_cons (iv 1) ia_nil rfl) (by decide) (by decide) rfl rfl) ia_nil rfl) rfl) (by decide) rfl rfl) rfl rfl)))
theorem ok__law_pick (T : Txt K mg t) : FnOk P w K mg base CX0 2 t.f__law_pick t.fd__law_pick ["_law_hand_here", "_law_some"] (spI K m__law_pick) :=
  show FnOk P w K mg base CX0 2 t.f__law_pick t.fd__law_pick ["_law_hand_here", "_law_some"] (spI K (runK (List.length (α := Str) ["_law_hand_here", "_law_some"]) (List.length (α := Str) ["_law_hand_here", "_law_some"]) b__law_pick)) from fn_k (N := ["_law_hand_here", "_law_some"]) (ps := ["_law_hand_here", "_law_some"]) (b := b__law_pick) T.F__law_pick sc__law_pick (fun cdv A outer s H E hr => body__law_pick T cdv A outer s H E hr)
theorem body__law_rule (T : Txt K mg t) (n : Nat) (ih : FnOk P w K mg base CX0 (2 + n) t.f__law_rule t.fd__law_rule ["_law_hand_here", "_law_left", "_law_deep", "_law_most"] (spI K (m__law_rule n))) (cdv : Value) (A : Around) (outer : List Env) (s : Shared) (H : Hp) (E : XK) (hr : Room (2 + n) (A.deeper (PyProof.Rows.envOfC "_law_rule" (defScope s__law_rule) s.heap.objs.size t.f__law_rule cdv))) : ISs K (cxOf CX0 P w K mg base ["_law_hand_here", "_law_left", "_law_deep", "_law_most", "_law_way", "_law_some", "_law_turn", "_law_word"] "_law_rule" (defScope s__law_rule) t.f__law_rule cdv A outer s H E).nox (defBody s__law_rule) (b__law_rule (m__law_rule n)) :=
  (iss_cons (is_setIx (iv 1) ie_int (ie_op od_sub (ie_ix (iv 1) ie_int rfl rfl) ie_int) rfl rfl rfl) (iss_cons (is_set (i := 4) sc__law_rule.nd rfl (by first | exact Or.inl rfl | exact Or.inr rfl) (ie_call (ok__law_take T) (by omega) hr rfl T.m__law_take T.F__law_take.kp T.b__law_take (ia_cons (iv 0) (ia_cons ie_int ia_nil rfl) rfl) (by decide) rfl rfl) rfl (by first | exact .inl rfl | exact .inr rfl)) (iss_cons (is_if (itw_pt (itw_or (it_cmp od_lt (iv 2) ie_int (nomark _)) (itw_or (it_cmp od_lt (ie_ix (iv 1) ie_int rfl rfl) ie_int (nomark _)) (itw_or1 (it_cmp (od_eq hr rfl) (iv 4) ie_int (nomark _)))))) (iss_cons (is_if (itw_pt (itw_or (it_cmp (od_eq hr rfl) (iv 3) ie_int (nomark _)) (itw_or1 (it_cmp (od_eq hr rfl) (iv 4) ie_int (nomark _))))) (iss_one (is_ret (ie_call (ok__law_pick T) (by omega) hr rfl T.m__law_pick T.F__law_pick.kp T.b__law_pick (ia_cons (iv 0) (ia_cons (il_pure (il_lst (ia_cons (ie_tup (ia_cons ie_str (ia_cons (ie_tup ia_nil) ia_nil rfl) rfl)) (ia_cons (ie_tup (ia_cons ie_str (ia_cons (ie_tup ia_nil) ia_nil rfl) rfl)) (ia_cons (ie_tup (ia_cons ie_str (ia_cons (ie_tup ia_nil) ia_nil rfl) rfl)) (ia_cons (ie_tup (ia_cons ie_str (ia_cons (ie_call (ok__law_take T) (by omega) hr rfl T.m__law_take T.F__law_take.kp T.b__law_take (ia_cons (iv 0) (ia_cons ie_int ia_nil rfl) rfl) (by decide) rfl rfl) (ia_cons (ie_tup ia_nil) ia_nil rfl) rfl) rfl)) ia_nil rfl) rfl) rfl) rfl))) ia_nil rfl) rfl) (by decide) rfl rfl))) iss_nil) (iss_one (is_ret (ie_tup (ia_cons ie_str (ia_cons (ie_call (ok__law_take T) (by omega) hr rfl T.m__law_take T.F__law_take.kp T.b__law_take (ia_cons (iv 0) (ia_cons (iv 3) ia_nil rfl) rfl) (by decide) rfl rfl) ia_nil rfl) rfl))))) iss_nil) (iss_cons (is_if (it_cmp (od_eq hr rfl) (iv 4) ie_int (nomark _)) (iss_one (is_ret (ie_tup (ia_cons ie_str (ia_cons (ie_call ih (Nat.le_refl _) hr rfl T.m__law_rule T.F__law_rule.kp T.b__law_rule (ia_cons (iv 0) (ia_cons (iv 1) (ia_cons (ie_op od_sub (iv 2) ie_int) (ia_cons (iv 3) ia_nil rfl) rfl) rfl) rfl) (by decide) rfl rfl) ia_nil rfl) rfl)))) iss_nil) (iss_cons (is_set (i := 5) sc__law_rule.nd rfl (by first | exact Or.inl rfl | exact Or.inr rfl) (il_new (il_lst ia_nil)) rfl (by first | exact .inl rfl | exact .inr rfl)) (iss_cons (is_for (ii_rng1 rfl T.z_range (ia_cons (ie_call (ok__law_take T) (by omega) hr rfl T.m__law_take T.F__law_take.kp T.b__law_take (ia_cons (iv 0) (ia_cons (ie_ix (il_pure (il_lst (ia_cons ie_int (ia_cons ie_int (ia_cons ie_int (ia_cons ie_int ia_nil rfl) rfl) rfl) rfl))) (ie_call (ok__law_take T) (by omega) hr rfl T.m__law_take T.F__law_take.kp T.b__law_take (ia_cons (iv 0) (ia_cons ie_int ia_nil rfl) rfl) (by decide) rfl rfl) rfl rfl) ia_nil rfl) rfl) (by decide) rfl rfl) ia_nil rfl) rfl) (ig_name (pg_name (i := 6) sc__law_rule.nd rfl (by first | exact Or.inl rfl | exact Or.inr rfl))) (iss_one (is_if (it_cmp od_gt (ie_ix (iv 1) ie_int rfl rfl) ie_int (nomark _)) (iss_one (is_expr (ie_append (iv 5) (ia_cons (ie_call ih (Nat.le_refl _) hr rfl T.m__law_rule T.F__law_rule.kp T.b__law_rule (ia_cons (iv 0) (ia_cons (iv 1) (ia_cons (ie_op od_sub (iv 2) ie_int) (ia_cons (iv 3) ia_nil rfl) rfl) rfl) rfl) (by decide) rfl rfl) ia_nil rfl) rfl rfl (by decide) rfl rfl) rfl)) iss_nil)) PassesOwn.never rfl (fun _ => rfl)) (iss_cons (is_set (i := 7) sc__law_rule.nd rfl (by first | exact Or.inl rfl | exact Or.inr rfl) (ie_ix (il_pure (il_lst (ia_cons ie_str (ia_cons ie_str (ia_cons ie_str (ia_cons ie_str (ia_cons ie_str (ia_cons ie_str ia_nil rfl) rfl) rfl) rfl) rfl) rfl))) (ie_op od_sub (iv 4) ie_int) rfl rfl) rfl (by first | exact .inl rfl | exact .inr rfl)) (iss_cons (is_if (it_cmp (od_eq hr rfl) (iv 7) ie_str (nomark _)) (iss_one (is_ret (ie_tup (ia_cons (iv 7) (ia_cons (ie_call (ok__law_take T) (by omega) hr rfl T.m__law_take T.F__law_take.kp T.b__law_take (ia_cons (iv 0) (ia_cons (ie_ix (il_pure (il_lst (ia_cons (ie_op (od_add rfl) (ie_cb (cd_len rfl) rfl T.z_len PySem.boot_len (ia_cons (iv 5) ia_nil rfl) (by decide) (by decide) rfl rfl) ie_int) (ia_cons ie_int ia_nil rfl) rfl))) (ie_op od_fdiv (ie_call (ok__law_take T) (by omega) hr rfl T.m__law_take T.F__law_take.kp T.b__law_take (ia_cons (iv 0) (ia_cons ie_int ia_nil rfl) rfl) (by decide) rfl rfl) ie_int) rfl rfl) ia_nil rfl) rfl) (by decide) rfl rfl) (ia_cons (ie_ct (cd_tup rfl) rfl T.z_tuple PyProof.Rows.boot_tuple (ia_cons (iv 5) ia_nil rfl) (by decide) (by decide) rfl rfl) ia_nil rfl) rfl) rfl)))) iss_nil) (iss_one (is_ret (ie_tup (ia_cons (iv 7) (ia_cons (ie_ct (cd_tup rfl) rfl T.z_tuple PyProof.Rows.boot_tuple (ia_cons (iv 5) ia_nil rfl) (by decide) (by decide) rfl rfl) ia_nil rfl) rfl))))))))))))
theorem ok__law_rule (T : Txt K mg t) : ∀ n : Nat, FnOk P w K mg base CX0 (2 + n) t.f__law_rule t.fd__law_rule ["_law_hand_here", "_law_left", "_law_deep", "_law_most"] (spI K (m__law_rule n))
  | 0 => ⟨fun _ _ _ _ ⟨_, _, _, _, h, _⟩ => (nomatch h), fun _ _ _ _ _ _ _ _ _ _ _ _ _ ⟨_, _, _, _, h, _⟩ => (nomatch h)⟩
  | n + 1 => show FnOk P w K mg base CX0 (2 + n + 1) t.f__law_rule t.fd__law_rule ["_law_hand_here", "_law_left", "_law_deep", "_law_most"] (spI K (runT (List.length (α := Str) ["_law_hand_here", "_law_left", "_law_deep", "_law_most", "_law_way", "_law_some", "_law_turn", "_law_word"]) (List.length (α := Str) ["_law_hand_here", "_law_left", "_law_deep", "_law_most"]) (b__law_rule (m__law_rule n)))) from fn_t (N := ["_law_hand_here", "_law_left", "_law_deep", "_law_most", "_law_way", "_law_some", "_law_turn", "_law_word"]) (ps := ["_law_hand_here", "_law_left", "_law_deep", "_law_most"]) (k := 2 + n) (b := b__law_rule (m__law_rule n)) T.F__law_rule sc__law_rule (fun cdv A outer s H E hr => body__law_rule T n (ok__law_rule T n) cdv A outer s H E hr)
theorem body__law_at (T : Txt K mg t) (n : Nat) (ih : FnOk P w K mg base CX0 (0 + n) t.f__law_at t.fd__law_at ["_law_rule_here", "_law_bits_here"] (spI K (m__law_at n))) (cdv : Value) (A : Around) (outer : List Env) (s : Shared) (H : Hp) (E : XK) (hr : Room (0 + n) (A.deeper (PyProof.Rows.envOfC "_law_at" (defScope s__law_at) s.heap.objs.size t.f__law_at cdv))) : ISs K (cxOf CX0 P w K mg base ["_law_rule_here", "_law_bits_here", "_law_values"] "_law_at" (defScope s__law_at) t.f__law_at cdv A outer s H E).nox (defBody s__law_at) (b__law_at (m__law_at n)) :=
  (iss_cons (is_if (it_cmp (od_eq hr rfl) (ie_ix (iv 0) ie_int rfl rfl) ie_str (nomark _)) (iss_one (is_ret (ie_ix (iv 1) (ie_ix (iv 0) ie_int rfl rfl) rfl rfl))) iss_nil) (iss_cons (is_if (it_cmp (od_eq hr rfl) (ie_ix (iv 0) ie_int rfl rfl) ie_str (nomark _)) (iss_one (is_ret (ie_op od_sub ie_int (ie_call ih (Nat.le_refl _) hr rfl T.m__law_at T.F__law_at.kp T.b__law_at (ia_cons (ie_ix (iv 0) ie_int rfl rfl) (ia_cons (iv 1) ia_nil rfl) rfl) (by decide) rfl rfl)))) iss_nil) (iss_cons (And.left (is_lc (i0 := 2) sc__law_at.nd rfl (by first | exact Or.inl rfl | exact Or.inr rfl) (lc_mk (defScope s__law_at).names ["_law_rule_here", "_law_bits_here", "_law_values"] ["_law_one", "_law_bits_here"] 1 [1] rfl rfl rfl (by decide +kernel)) rfl (by decide) (ii_seq (ie_ix (iv 0) (ie_neg ie_int) rfl rfl) rfl) (fun _ _ _ _ _ => (ig_name (pg_name (i := 0) (show List.Nodup (α := Str) ["_law_one", "_law_bits_here"] by decide +kernel) rfl (by first | exact Or.inl rfl | exact Or.inr rfl)))) (fun _ _ _ _ _ => its_nil) (fun _ _ _ _ _ => (ie_call ih (Nat.le_refl _) hr rfl T.m__law_at T.F__law_at.kp T.b__law_at (ia_cons (iv 0) (ia_cons (iv 1) ia_nil rfl) rfl) (by decide) rfl rfl)) rfl (by first | exact .inl rfl | exact .inr rfl) (fun _ => rfl))) (iss_cons (is_if (it_cmp (od_eq hr rfl) (ie_ix (iv 0) ie_int rfl rfl) ie_str (nomark _)) (iss_one (is_ret (ie_ct cd_int rfl T.z_int PyProof.Rows.boot_int (ia_cons (ie_cmp (od_notIn rfl) ie_int (iv 2) rfl) ia_nil rfl) (by decide) (by decide) rfl rfl))) iss_nil) (iss_cons (is_if (it_cmp (od_eq hr rfl) (ie_ix (iv 0) ie_int rfl rfl) ie_str (nomark _)) (iss_one (is_ret (ie_ct cd_int rfl T.z_int PyProof.Rows.boot_int (ia_cons (ie_cmp (od_in rfl) ie_int (iv 2) rfl) ia_nil rfl) (by decide) (by decide) rfl rfl))) iss_nil) (iss_cons (is_if (it_cmp (od_eq hr rfl) (ie_ix (iv 0) ie_int rfl rfl) ie_str (nomark _)) (iss_one (is_ret (ie_op od_mod (ie_cnt (iv 2) (ia_cons ie_int ia_nil rfl) rfl rfl rfl rfl) ie_int))) iss_nil) (iss_one (is_ret (ie_ct cd_int rfl T.z_int PyProof.Rows.boot_int (ia_cons (ie_cmp od_ge (ie_cnt (iv 2) (ia_cons ie_int ia_nil rfl) rfl rfl rfl rfl) (ie_ix (iv 0) ie_int rfl rfl) (nomark _)) ia_nil rfl) (by decide) (by decide) rfl rfl)))))))))
theorem ok__law_at (T : Txt K mg t) : ∀ n : Nat, FnOk P w K mg base CX0 (0 + n) t.f__law_at t.fd__law_at ["_law_rule_here", "_law_bits_here"] (spI K (m__law_at n))
  | 0 => ⟨fun _ _ _ _ ⟨_, _, _, _, h, _⟩ => (nomatch h), fun _ _ _ _ _ _ _ _ _ _ _ _ _ ⟨_, _, _, _, h, _⟩ => (nomatch h)⟩
  | n + 1 => show FnOk P w K mg base CX0 (0 + n + 1) t.f__law_at t.fd__law_at ["_law_rule_here", "_law_bits_here"] (spI K (runK (List.length (α := Str) ["_law_rule_here", "_law_bits_here", "_law_values"]) (List.length (α := Str) ["_law_rule_here", "_law_bits_here"]) (b__law_at (m__law_at n)))) from fn_k (N := ["_law_rule_here", "_law_bits_here", "_law_values"]) (ps := ["_law_rule_here", "_law_bits_here"]) (k := 0 + n) (b := b__law_at (m__law_at n)) T.F__law_at sc__law_at (fun cdv A outer s H E hr => body__law_at T n (ok__law_at T n) cdv A outer s H E hr)
theorem body__law_bits (T : Txt K mg t) (cdv : Value) (A : Around) (outer : List Env) (s : Shared) (H : Hp) (E : XK) (hr : Room (0) (A.deeper (PyProof.Rows.envOfC "_law_bits" (defScope s__law_bits) s.heap.objs.size t.f__law_bits cdv))) : ISs K (cxOf CX0 P w K mg base ["_law_row", "_law_n"] "_law_bits" (defScope s__law_bits) t.f__law_bits cdv A outer s H E).nox (defBody s__law_bits) b__law_bits :=
  (iss_one (is_ret (il_pure (il_lc (lc_mk (defScope s__law_bits).names ["_law_row", "_law_n"] ["_law_k", "_law_row"] 1 [0] rfl rfl rfl (by decide +kernel)) rfl (by decide) (ii_rng1 rfl T.z_range (ia_cons (iv 1) ia_nil rfl) rfl) (fun _ _ _ _ _ => (ig_name (pg_name (i := 0) (show List.Nodup (α := Str) ["_law_k", "_law_row"] by decide +kernel) rfl (by first | exact Or.inl rfl | exact Or.inr rfl)))) (fun _ _ _ _ _ => its_nil) (fun _ _ _ _ _ => (ie_op od_mod (ie_op od_fdiv (iv 1) (ie_op od_shl ie_int (iv 0))) ie_int)) (fun _ => rfl)))))
theorem ok__law_bits (T : Txt K mg t) : FnOk P w K mg base CX0 1 t.f__law_bits t.fd__law_bits ["_law_row", "_law_n"] (spI K m__law_bits) :=
  show FnOk P w K mg base CX0 1 t.f__law_bits t.fd__law_bits ["_law_row", "_law_n"] (spI K (runK (List.length (α := Str) ["_law_row", "_law_n"]) (List.length (α := Str) ["_law_row", "_law_n"]) b__law_bits)) from fn_k (N := ["_law_row", "_law_n"]) (ps := ["_law_row", "_law_n"]) (b := b__law_bits) T.F__law_bits sc__law_bits (fun cdv A outer s H E hr => body__law_bits T cdv A outer s H E hr)
theorem body__law_same (T : Txt K mg t) (cdv : Value) (A : Around) (outer : List Env) (s : Shared) (H : Hp) (E : XK) (hr : Room (0) (A.deeper (PyProof.Rows.envOfC "_law_same" (defScope s__law_same) s.heap.objs.size t.f__law_same cdv))) : ISs K (cxOf CX0 P w K mg base ["_law_found", "_law_due"] "_law_same" (defScope s__law_same) t.f__law_same cdv A outer s H E).nox (defBody s__law_same) b__law_same :=
  (iss_one (is_ret (ie_cmp (od_eq hr rfl) (ie_cb (cd_repr hr rfl) rfl T.z_repr PyProof.Rows.boot_repr (ia_cons (iv 0) ia_nil rfl) (by decide) (by decide) rfl rfl) (ie_cb (cd_repr hr rfl) rfl T.z_repr PyProof.Rows.boot_repr (ia_cons (iv 1) ia_nil rfl) (by decide) (by decide) rfl rfl) (nomark _))))
theorem ok__law_same (T : Txt K mg t) : FnOk P w K mg base CX0 1 t.f__law_same t.fd__law_same ["_law_found", "_law_due"] (spI K m__law_same) :=
  show FnOk P w K mg base CX0 1 t.f__law_same t.fd__law_same ["_law_found", "_law_due"] (spI K (runK (List.length (α := Str) ["_law_found", "_law_due"]) (List.length (α := Str) ["_law_found", "_law_due"]) b__law_same)) from fn_k (N := ["_law_found", "_law_due"]) (ps := ["_law_found", "_law_due"]) (b := b__law_same) T.F__law_same sc__law_same (fun cdv A outer s H E hr => body__law_same T cdv A outer s H E hr)
theorem body__law_met (T : Txt K mg t) (n : Nat) (ih : FnOk P w K mg base CX0 (0 + n) t.f__law_met t.fd__law_met ["_law_rule_here"] (spI K (m__law_met n))) (cdv : Value) (A : Around) (outer : List Env) (s : Shared) (H : Hp) (E : XK) (hr : Room (0 + n) (A.deeper (PyProof.Rows.envOfC "_law_met" (defScope s__law_met) s.heap.objs.size t.f__law_met cdv))) : ISs K (cxOf CX0 P w K mg base ["_law_rule_here", "_law_some", "_law_one"] "_law_met" (defScope s__law_met) t.f__law_met cdv A outer s H E).nox (defBody s__law_met) (b__law_met (m__law_met n)) :=
  (iss_cons (is_if (it_cmp (od_eq hr rfl) (ie_ix (iv 0) ie_int rfl rfl) ie_str (nomark _)) (iss_one (is_ret (il_pure (il_lst (ia_cons (ie_ix (iv 0) ie_int rfl rfl) ia_nil rfl))))) iss_nil) (iss_cons (is_if (it_cmp (od_eq hr rfl) (ie_ix (iv 0) ie_int rfl rfl) ie_str (nomark _)) (iss_one (is_ret (ie_call ih (Nat.le_refl _) hr rfl T.m__law_met T.F__law_met.kp T.b__law_met (ia_cons (ie_ix (iv 0) ie_int rfl rfl) ia_nil rfl) (by decide) rfl rfl))) iss_nil) (iss_cons (is_set (i := 1) sc__law_met.nd rfl (by first | exact Or.inl rfl | exact Or.inr rfl) (il_pure (il_lst ia_nil)) rfl (by first | exact .inl rfl | exact .inr rfl)) (iss_cons (is_for (ii_seq (ie_ix (iv 0) (ie_neg ie_int) rfl rfl) rfl) (ig_name (pg_name (i := 2) sc__law_met.nd rfl (by first | exact Or.inl rfl | exact Or.inr rfl))) (iss_one (is_set (i := 1) sc__law_met.nd rfl (by first | exact Or.inl rfl | exact Or.inr rfl) (ie_op (od_add rfl) (iv 1) (ie_call ih (Nat.le_refl _) hr rfl T.m__law_met T.F__law_met.kp T.b__law_met (ia_cons (iv 2) ia_nil rfl) (by decide) rfl rfl)) rfl (by first | exact .inl rfl | exact .inr rfl))) PassesOwn.never rfl (fun _ => rfl)) (iss_one (is_ret (iv 1)))))))
theorem ok__law_met (T : Txt K mg t) : ∀ n : Nat, FnOk P w K mg base CX0 (0 + n) t.f__law_met t.fd__law_met ["_law_rule_here"] (spI K (m__law_met n))
  | 0 => ⟨fun _ _ _ _ ⟨_, _, _, _, h, _⟩ => (nomatch h), fun _ _ _ _ _ _ _ _ _ _ _ _ _ ⟨_, _, _, _, h, _⟩ => (nomatch h)⟩
  | n + 1 => show FnOk P w K mg base CX0 (0 + n + 1) t.f__law_met t.fd__law_met ["_law_rule_here"] (spI K (runK (List.length (α := Str) ["_law_rule_here", "_law_some", "_law_one"]) (List.length (α := Str) ["_law_rule_here"]) (b__law_met (m__law_met n)))) from fn_k (N := ["_law_rule_here", "_law_some", "_law_one"]) (ps := ["_law_rule_here"]) (k := 0 + n) (b := b__law_met (m__law_met n)) T.F__law_met sc__law_met (fun cdv A outer s H E hr => body__law_met T n (ok__law_met T n) cdv A outer s H E hr)
theorem body_law (T : Txt K mg t) (cdv : Value) (A : Around) (outer : List Env) (s : Shared) (H : Hp) (E : XK) (hr : Room (13) (A.deeper (PyProof.Rows.envOfC "law" (defScope s_law) s.heap.objs.size t.f_law cdv))) : ISs K (cxOf CX0 P w K mg base ["_law_script", "_law_k", "_law_hand_here", "_law_rule_here", "_law_some", "_law_least", "_law_n", "_law_due"] "law" (defScope s_law) t.f_law cdv A outer s H E).nox (defBody s_law) b_law :=
  (iss_cons (is_for (ii_rng1 rfl T.z_range (ia_cons (ie_op (od_add rfl) ie_int (ie_cb (cd_min rfl) rfl T.z_min PyProof.Rows.boot_min (ia_cons ie_int (ia_cons (ie_cb (cd_len rfl) rfl T.z_len PySem.boot_len (ia_cons (iv 0) ia_nil rfl) (by decide) (by decide) rfl rfl) ia_nil rfl) rfl) (by decide) (by decide) rfl rfl)) ia_nil rfl) rfl) (ig_name (pg_name (i := 1) sc_law.nd rfl (by first | exact Or.inl rfl | exact Or.inr rfl))) (iss_cons (is_set (i := 2) sc_law.nd rfl (by first | exact Or.inl rfl | exact Or.inr rfl) (ie_call (ok__law_hand T) (by decide) hr rfl T.m__law_hand T.F__law_hand.kp T.b__law_hand (ia_cons (iv 0) (ia_cons (iv 1) ia_nil rfl) rfl) (by decide) rfl rfl) rfl (by first | exact .inl rfl | exact .inr rfl)) (iss_cons (is_set (i := 3) sc_law.nd rfl (by first | exact Or.inl rfl | exact Or.inr rfl) (ie_call (ok__law_rule T 9) (by decide) hr rfl T.m__law_rule T.F__law_rule.kp T.b__law_rule (ia_cons (iv 2) (ia_cons (il_new (il_lst (ia_cons ie_int ia_nil rfl))) (ia_cons (ie_op (od_add rfl) ie_int (ie_call (ok__law_take T) (by decide) hr rfl T.m__law_take T.F__law_take.kp T.b__law_take (ia_cons (iv 2) (ia_cons ie_int ia_nil rfl) rfl) (by decide) rfl rfl)) (ia_cons (ie_call (ok__law_take T) (by decide) hr rfl T.m__law_take T.F__law_take.kp T.b__law_take (ia_cons (iv 2) (ia_cons ie_int ia_nil rfl) rfl) (by decide) rfl rfl) ia_nil rfl) rfl) rfl) rfl) (by decide) rfl rfl) rfl (by first | exact .inl rfl | exact .inr rfl)) (iss_cons (is_set (i := 4) sc_law.nd rfl (by first | exact Or.inl rfl | exact Or.inr rfl) (ie_ct (cd_tup rfl) rfl T.z_tuple PyProof.Rows.boot_tuple (ia_cons (il_pure (il_lc (lc_mk (defScope s_law).names ["_law_script", "_law_k", "_law_hand_here", "_law_rule_here", "_law_some", "_law_least", "_law_n", "_law_due"] ["_law_switch", "_law_rule_here"] 1 [3] rfl rfl rfl (by decide +kernel)) rfl (by decide) (ii_rng1 rfl T.z_range (ia_cons ie_int ia_nil rfl) rfl) (fun _ _ _ _ _ => (ig_name (pg_name (i := 0) (show List.Nodup (α := Str) ["_law_switch", "_law_rule_here"] by decide +kernel) rfl (by first | exact Or.inl rfl | exact Or.inr rfl)))) (fun _ _ _ _ _ => (its_one (it_cmp (od_in rfl) (iv 0) (ie_call (ok__law_met T 9) (by decide) hr rfl T.m__law_met T.F__law_met.kp T.b__law_met (ia_cons (iv 1) ia_nil rfl) (by decide) rfl rfl) rfl))) (fun _ _ _ _ _ => (iv 0)) (fun _ => rfl))) ia_nil rfl) (by decide) (by decide) rfl rfl) rfl (by first | exact .inl rfl | exact .inr rfl)) (iss_cons (is_set (i := 5) sc_law.nd rfl (by first | exact Or.inl rfl | exact Or.inr rfl) ie_int rfl (by first | exact .inl rfl | exact .inr rfl)) (iss_cons (is_if (it_cmp (od_ne hr rfl) (iv 4) (ie_tup ia_nil) (nomark _)) (iss_one (is_set (i := 5) sc_law.nd rfl (by first | exact Or.inl rfl | exact Or.inr rfl) (ie_op (od_add rfl) (ie_ix (iv 4) (ie_neg ie_int) rfl rfl) ie_int) rfl (by first | exact .inl rfl | exact .inr rfl))) iss_nil) (iss_one (is_for (ii_seq (il_pure (il_lst (ia_cons (iv 5) (ia_cons (ie_op (od_add rfl) (iv 5) (ie_call (ok__law_take T) (by decide) hr rfl T.m__law_take T.F__law_take.kp T.b__law_take (ia_cons (iv 2) (ia_cons (ie_op od_sub ie_int (iv 5)) ia_nil rfl) rfl) (by decide) rfl rfl)) ia_nil rfl) rfl))) rfl) (ig_name (pg_name (i := 6) sc_law.nd rfl (by first | exact Or.inl rfl | exact Or.inr rfl))) (iss_cons (is_set (i := 7) sc_law.nd rfl (by first | exact Or.inl rfl | exact Or.inr rfl) (ie_ct (cd_tup rfl) rfl T.z_tuple PyProof.Rows.boot_tuple (ia_cons (il_pure (il_lc (lc_mk (defScope s_law).names ["_law_script", "_law_k", "_law_hand_here", "_law_rule_here", "_law_some", "_law_least", "_law_n", "_law_due"] ["_law_row", "_law_rule_here", "_law_n"] 1 [3, 6] rfl rfl rfl (by decide +kernel)) rfl (by decide) (ii_rng1 rfl T.z_range (ia_cons (ie_op od_shl ie_int (iv 6)) ia_nil rfl) rfl) (fun _ _ _ _ _ => (ig_name (pg_name (i := 0) (show List.Nodup (α := Str) ["_law_row", "_law_rule_here", "_law_n"] by decide +kernel) rfl (by first | exact Or.inl rfl | exact Or.inr rfl)))) (fun _ _ _ _ _ => its_nil) (fun _ _ _ _ _ => (ie_call (ok__law_at T 9) (by decide) hr rfl T.m__law_at T.F__law_at.kp T.b__law_at (ia_cons (iv 1) (ia_cons (ie_call (ok__law_bits T) (by decide) hr rfl T.m__law_bits T.F__law_bits.kp T.b__law_bits (ia_cons (iv 0) (ia_cons (iv 2) ia_nil rfl) rfl) (by decide) rfl rfl) ia_nil rfl) rfl) (by decide) rfl rfl)) (fun _ => rfl))) ia_nil rfl) (by decide) (by decide) rfl rfl) rfl (by first | exact .inl rfl | exact .inr rfl)) (iss_cons (is_if (itw_pt (itw_or (it_not (it_tru (ie_call (ok__law_same T) (by decide) hr rfl T.m__law_same T.F__law_same.kp T.b__law_same (ia_cons (ie_call (ok_switches_in T 9) (by decide) hr rfl T.m_switches_in T.F_switches_in.kp T.b_switches_in (ia_cons (iv 3) ia_nil rfl) (by decide) rfl rfl) (ia_cons (iv 4) ia_nil rfl) rfl) (by decide) rfl rfl) rfl rfl)) (itw_or1 (it_not (it_tru (ie_call (ok__law_same T) (by decide) hr rfl T.m__law_same T.F__law_same.kp T.b__law_same (ia_cons (ie_call (ok_table_of T) (by decide) hr rfl T.m_table_of T.F_table_of.kp T.b_table_of (ia_cons (iv 3) (ia_cons (iv 6) ia_nil rfl) rfl) (by decide) rfl rfl) (ia_cons (iv 7) ia_nil rfl) rfl) (by decide) rfl rfl) rfl rfl))))) (iss_one (is_ret ie_bl)) iss_nil) (iss_one (is_if (it_not (it_tru (ie_call (ok__law_same T) (by decide) hr rfl T.m__law_same T.F__law_same.kp T.b__law_same (ia_cons (ie_call (ok_table_of T) (by decide) hr rfl T.m_table_of T.F_table_of.kp T.b_table_of (ia_cons (iv 3) (ia_cons (iv 6) ia_nil rfl) rfl) (by decide) rfl rfl) (ia_cons (iv 7) ia_nil rfl) rfl) (by decide) rfl rfl) rfl rfl)) (iss_one (is_ret ie_bl)) iss_nil)))) PassesOwn.never rfl (fun _ => rfl)))))))) PassesOwn.never rfl (fun _ => rfl)) (iss_one (is_ret ie_bl)))
theorem ok_law (T : Txt K mg t) : FnOk P w K mg base CX0 14 t.f_law t.fd_law ["_law_script"] (spI K m_law) :=
  show FnOk P w K mg base CX0 14 t.f_law t.fd_law ["_law_script"] (spI K (runT (List.length (α := Str) ["_law_script", "_law_k", "_law_hand_here", "_law_rule_here", "_law_some", "_law_least", "_law_n", "_law_due"]) (List.length (α := Str) ["_law_script"]) b_law)) from fn_t (N := ["_law_script", "_law_k", "_law_hand_here", "_law_rule_here", "_law_some", "_law_least", "_law_n", "_law_due"]) (ps := ["_law_script"]) (b := b_law) T.F_law sc_law (fun cdv A outer s H E hr => body_law T cdv A outer s H E hr)
end
end Own
end

namespace L2
open PySem
def Hd (st : Sto) (n : Nat) (Z : Int) : Prop := ∃ x y z : Int, 0 ≤ x ∧ 0 ≤ z ∧ z ≤ Z ∧ st[n]? = some [.int x, .int y, .int z]
/-- only one list of the store has changed -/
def Stw (n : Nat) (st st' : Sto) : Prop := ∃ v, st' = st.set n v
theorem Hd.lt {st : Sto} {n : Nat} {Z : Int} (h : Hd st n Z) : n < st.length := by
  obtain ⟨x, y, z, _, _, _, e⟩ := h
  exact (List.getElem?_eq_some_iff.mp e).1
theorem Hd.mono {st : Sto} {n : Nat} {Z Z' : Int} (h : Hd st n Z) (hz : Z ≤ Z') : Hd st n Z' := by
  obtain ⟨x, y, z, a, b, c, e⟩ := h
  exact ⟨x, y, z, a, b, Int.le_trans c hz, e⟩
theorem Stw.refl {st : Sto} {n : Nat} (h : n < st.length) : Stw n st st := ⟨st[n], (List.set_getElem_self h).symm⟩
theorem Stw.trans {n : Nat} {a b c : Sto} (h : Stw n a b) (h' : Stw n b c) : Stw n a c := by
  obtain ⟨v, rfl⟩ := h
  obtain ⟨u, rfl⟩ := h'
  exact ⟨u, by rw [List.set_set]⟩
theorem Stw.len {n : Nat} {a b : Sto} (h : Stw n a b) : b.length = a.length := by obtain ⟨v, rfl⟩ := h; rw [List.length_set]
theorem Stw.get {n m : Nat} {a b : Sto} (h : Stw n a b) (hm : m ≠ n) : b[m]? = a[m]? := by obtain ⟨v, rfl⟩ := h; rw [List.getElem?_set_ne (Ne.symm hm)]
theorem Stw.take {n : Nat} {a b : Sto} (h : Stw n a b) : b.take a.length = b := by rw [← h.len, List.take_length]
theorem Hd.app {st : Sto} {n : Nat} {Z : Int} (h : Hd st n Z) (u : List (List D)) : Hd (st ++ u) n Z := by
  obtain ⟨x, y, z, a, b, c, e⟩ := id h
  exact ⟨x, y, z, a, b, c, by rw [List.getElem?_append_left h.lt]; exact e⟩
theorem Stw.unapp {n : Nat} {a s : Sto} {u : List (List D)} (hn : n < a.length) (h : Stw n (a ++ u) s) : ∃ b, s = b ++ u ∧ Stw n a b := by
  obtain ⟨v, rfl⟩ := h
  rw [List.set_append_left _ _ hn]
  exact ⟨_, rfl, v, rfl⟩
theorem Hd.unapp {b u : Sto} {n : Nat} {Z : Int} (hn : n < b.length) (h : Hd (b ++ u) n Z) : Hd b n Z := by
  obtain ⟨x, y, z, p, q, r, e⟩ := h
  exact ⟨x, y, z, p, q, r, by rw [List.getElem?_append_left hn] at e; exact e⟩
end L2
namespace L2
/-- a rising tuple of switches below n -/
def Trm (n : Nat) (t : List Int) : Prop := t.Pairwise (· < ·) ∧ ∀ k ∈ t, 0 ≤ k ∧ k < n
theorem Trm.mono {n m : Nat} {t : List Int} (h : Trm n t) (hn : n ≤ m) : Trm m t := ⟨h.1, fun k hk => ⟨(h.2 k hk).1, by have := (h.2 k hk).2; omega⟩⟩
/-- how many of a term's switches are on -/
def onI (row k : Int) : Int := row / 2 ^ k.toNat % 2
theorem onI01 (row k : Int) : onI row k = 0 ∨ onI row k = 1 := by unfold onI; omega
end L2
namespace L2
end L2

namespace L2
open PySem
abbrev Prt := List Int × Int
def fits (p : Prt) : Prop := Trm 6 p.1 ∧ p.2 ≠ 0 ∧ -1000000000000000000 ≤ p.2 ∧ p.2 ≤ 1000000000000000000
end L2

namespace L2
open PySem
end L2

namespace L2
open PySem
inductive Gw where | all | any | odd | least
inductive Ru where
  | sw (k : Int)
  | nt (r : Ru)
  | gr (g : Gw) (k : Int) (rs : List Ru)
def Gw.wd : Gw → Str
  | .all => "all"
  | .any => "any"
  | .odd => "odd"
  | .least => "least"
def grD (g : Gw) (k : Int) (ds : List D) : D := match g with
  | .least => .tup [.str "least", .int k, .tup ds]
  | .all => .tup [.str "all", .tup ds]
  | .any => .tup [.str "any", .tup ds]
  | .odd => .tup [.str "odd", .tup ds]
mutual
def toD : Ru → D
  | .sw k => .tup [.str "switch", .int k]
  | .nt r => .tup [.str "not", toD r]
  | .gr g k rs => grD g k (toDs rs)
def toDs : List Ru → List D
  | [] => []
  | r :: rs => toD r :: toDs rs
end
def gv (g : Gw) (k len s : Int) : Int := match g with
  | .all => if s = len then 1 else 0
  | .any => if s > 0 then 1 else 0
  | .odd => s % 2
  | .least => if s ≥ k then 1 else 0
mutual
def ev (row : Int) : Ru → Int
  | .sw k => onI row k
  | .nt r => if ev row r = 0 then 1 else 0
  | .gr g k rs => gv g k rs.length (evs row rs)
def evs (row : Int) : List Ru → Int
  | [] => 0
  | r :: rs => ev row r + evs row rs
end
mutual
def dep : Ru → Nat
  | .sw _ => 1
  | .nt r => dep r + 1
  | .gr _ _ rs => deps rs + 1
def deps : List Ru → Nat
  | [] => 0
  | r :: rs => max (dep r) (deps rs)
end
mutual
def cnt : Ru → Int
  | .sw _ => 1
  | .nt r => 1 + cnt r
  | .gr _ _ rs => 1 + cnts rs
def cnts : List Ru → Int
  | [] => 0
  | r :: rs => cnt r + cnts rs
end
mutual
def good (m : Int) : Ru → Prop
  | .sw k => 0 ≤ k ∧ k < m
  | .nt r => good m r
  | .gr _ k rs => 0 ≤ k ∧ k ≤ 9 ∧ rs.length ≤ 6 ∧ goods m rs
def goods (m : Int) : List Ru → Prop
  | [] => True
  | r :: rs => good m r ∧ goods m rs
end
mutual
def put (f : Int → Ru) : Ru → Ru
  | .sw k => f k
  | .nt r => .nt (put f r)
  | .gr g k rs => .gr g k (puts f rs)
def puts (f : Int → Ru) : List Ru → List Ru
  | [] => []
  | r :: rs => put f r :: puts f rs
end
theorem toDs_map : ∀ rs : List Ru, toDs rs = rs.map toD
  | [] => by rw [toDs]; rfl
  | r :: rs => by rw [toDs, toDs_map rs]; rfl
theorem puts_map (f : Int → Ru) : ∀ rs : List Ru, puts f rs = rs.map (put f)
  | [] => by rw [puts]; rfl
  | r :: rs => by rw [puts, puts_map f rs]; rfl
theorem puts_len (f : Int → Ru) (rs : List Ru) : (puts f rs).length = rs.length := by rw [puts_map, List.length_map]
theorem deps_mem : ∀ {rs : List Ru} {n : Nat}, deps rs ≤ n → ∀ r ∈ rs, dep r ≤ n
  | [], n, _, r, h => by cases h
  | x :: rs, n, hd, r, h => by
    rw [deps] at hd
    rcases List.mem_cons.mp h with rfl | h
    · omega
    · exact deps_mem (rs := rs) (by omega) r h
theorem goods_mem : ∀ {m : Int} {rs : List Ru}, goods m rs → ∀ r ∈ rs, good m r
  | m, [], _, r, h => by cases h
  | m, x :: rs, hg, r, h => by
    rw [goods] at hg
    rcases List.mem_cons.mp h with rfl | h
    · exact hg.1
    · exact goods_mem (rs := rs) hg.2 r h
theorem goods_app {m : Int} : ∀ {rs : List Ru} {r : Ru}, goods m rs → good m r → goods m (rs ++ [r])
  | [], r, _, h => by show goods m [r]; rw [goods, goods]; exact ⟨h, trivial⟩
  | x :: rs, r, hg, h => by
    rw [goods] at hg
    show goods m (x :: (rs ++ [r]))
    rw [goods]; exact ⟨hg.1, goods_app hg.2 h⟩
theorem deps_app {n : Nat} : ∀ {rs : List Ru} {r : Ru}, deps rs ≤ n → dep r ≤ n → deps (rs ++ [r]) ≤ n
  | [], r, _, h => by show deps [r] ≤ n; rw [deps, deps]; omega
  | x :: rs, r, hg, h => by
    rw [deps] at hg
    show deps (x :: (rs ++ [r])) ≤ n
    rw [deps]
    have := deps_app (rs := rs) (r := r) (n := n) (by omega) h
    omega
theorem cnts_app : ∀ {rs : List Ru} {r : Ru}, cnts (rs ++ [r]) = cnts rs + cnt r
  | [], r => by show cnts [r] = _; rw [cnts, cnts, cnts]; omega
  | x :: rs, r => by
    show cnts (x :: (rs ++ [r])) = _
    rw [cnts, cnts, cnts_app (rs := rs)]; omega
theorem evs_sum (row : Int) : ∀ rs : List Ru, evs row rs = (rs.map (ev row)).sum
  | [] => by rw [evs]; rfl
  | r :: rs => by rw [evs, evs_sum row rs, List.map_cons, List.sum_cons]
mutual
theorem ev_put {m : Int} {f : Int → Ru} {row row' : Int} (h : ∀ k, 0 ≤ k → k < m → ev row (f k) = onI row' k) : ∀ r : Ru, good m r → ev row (put f r) = ev row' r
  | .sw k, hg => by
    rw [good] at hg
    rw [put, ev]
    exact h k hg.1 hg.2
  | .nt r, hg => by
    rw [good] at hg
    rw [put, ev, ev, ev_put h r hg]
  | .gr g k rs, hg => by
    rw [good] at hg
    rw [put, ev, ev, puts_len, evs_put h rs hg.2.2.2]
theorem evs_put {m : Int} {f : Int → Ru} {row row' : Int} (h : ∀ k, 0 ≤ k → k < m → ev row (f k) = onI row' k) : ∀ rs : List Ru, goods m rs → evs row (puts f rs) = evs row' rs
  | [], _ => by rw [puts, evs, evs]
  | r :: rs, hg => by
    rw [goods] at hg
    rw [puts, evs, evs, ev_put h r hg.1, evs_put h rs hg.2]
end
mutual
theorem good_put {m m' : Int} {f : Int → Ru} (h : ∀ k, 0 ≤ k → k < m → good m' (f k)) : ∀ r : Ru, good m r → good m' (put f r)
  | .sw k, hg => by
    rw [good] at hg
    rw [put]
    exact h k hg.1 hg.2
  | .nt r, hg => by
    rw [good] at hg
    rw [put, good]
    exact good_put h r hg
  | .gr g k rs, hg => by
    rw [good] at hg
    rw [put, good, puts_len]
    exact ⟨hg.1, hg.2.1, hg.2.2.1, goods_put h rs hg.2.2.2⟩
theorem goods_put {m m' : Int} {f : Int → Ru} (h : ∀ k, 0 ≤ k → k < m → good m' (f k)) : ∀ rs : List Ru, goods m rs → goods m' (puts f rs)
  | [], _ => by rw [puts, goods]; trivial
  | r :: rs, hg => by
    rw [goods] at hg
    rw [puts, goods]
    exact ⟨good_put h r hg.1, goods_put h rs hg.2⟩
end
mutual
theorem dep_put {m : Int} {f : Int → Ru} (h : ∀ k, 0 ≤ k → k < m → dep (f k) ≤ 2) : ∀ r : Ru, good m r → dep (put f r) ≤ dep r + 1
  | .sw k, hg => by
    rw [good] at hg
    rw [put, dep]
    exact h k hg.1 hg.2
  | .nt r, hg => by
    rw [good] at hg
    rw [put, dep, dep]
    have := dep_put h r hg
    omega
  | .gr g k rs, hg => by
    rw [good] at hg
    rw [put, dep, dep]
    have := deps_put h rs hg.2.2.2
    omega
theorem deps_put {m : Int} {f : Int → Ru} (h : ∀ k, 0 ≤ k → k < m → dep (f k) ≤ 2) : ∀ rs : List Ru, goods m rs → deps (puts f rs) ≤ deps rs + 1
  | [], _ => by rw [puts, deps]; omega
  | r :: rs, hg => by
    rw [goods] at hg
    rw [puts, deps, deps]
    have h1 := dep_put h r hg.1
    have h2 := deps_put h rs hg.2
    omega
end
mutual
theorem ev01 (row : Int) : ∀ r : Ru, ev row r = 0 ∨ ev row r = 1
  | .sw k => by rw [ev]; exact onI01 row k
  | .nt r => by rw [ev]; split <;> simp
  | .gr g k rs => by
    rw [ev]
    cases g with
    | all => show (if _ then (1 : Int) else 0) = 0 ∨ _; split <;> simp [gv, *]
    | any => show (if _ then (1 : Int) else 0) = 0 ∨ _; split <;> simp [gv, *]
    | odd => show evs row rs % 2 = 0 ∨ evs row rs % 2 = 1; omega
    | least => show (if _ then (1 : Int) else 0) = 0 ∨ _; split <;> simp [gv, *]
end
/-- powers of two, together -/
def sp : List (Nat × Nat) → Nat
  | [] => 0
  | (a, b) :: r => b * 2 ^ a + sp r
end L2

section
set_option maxHeartbeats 1000000
namespace Own
open PySem L2
theorem take_ok {st : Sto} {n : Nat} {m : Int} (h : HandAt st n) (m0 : 0 < m) (m1 : m < 1073741824) : ∃ r st', 0 ≤ r ∧ r < m ∧ Stp n st st' ∧ m__law_take [.h n, .d (.int m)] st = some (.d (.int r), st') := by
  have hn := h.lt
  obtain ⟨x, y, z, h0, h⟩ := h
  by_cases hx : 0 < x
  · refine ⟨x % m, st.set n [.int (x / m), .int y, .int z], Int.emod_nonneg _ (by omega), Int.emod_lt_of_pos _ m0, ⟨⟨_, rfl⟩, _, _, _, Int.ediv_nonneg h0 (by omega), get_set hn⟩, ?_⟩
    simp only [m__law_take, b__law_take, iV, iC, iOp, iOpT, iSkip, iSeqS, iSet, setIx, iSetIx, iRet, iIfS, runK, setT, blOf, seqD, lsD, dIx, dAdd, dMul, dFdiv, dMod, dGt, Option.bind_some, Option.map_some, List.getD_cons_zero, List.getD_cons_succ, List.set_cons_zero, List.set_cons_succ, List.map_cons, List.map_nil, List.length_cons, List.length_nil, List.replicate_succ, List.replicate_zero, List.cons_append, List.nil_append, Nat.reduceAdd, Nat.reduceSub, if_true, atI0, ixN0, Nat.zero_add, and_self, decide_true, h, hx, m0, m1, decide_true, and_self]
  · have hy0 : 0 ≤ (y * 39373 + 12345 + 31 * (z + 1)) % 2147483647 := Int.emod_nonneg _ (by decide)
    have hy1 : (y * 39373 + 12345 + 31 * (z + 1)) % 2147483647 < 2147483647 := Int.emod_lt_of_pos _ (by decide)
    have k1 : PySem.IntMulOk y 39373 := mulOk_r (by decide)
    have k2 : PySem.IntMulOk 31 (z + 1) := mulOk_l (by decide)
    have k3 : ∀ q, PySem.IntMulOk ((y * 39373 + 12345 + 31 * (z + 1)) % 2147483647) q := fun q => mulOk_l (by omega)
    refine ⟨(y * 39373 + 12345 + 31 * (z + 1)) % 2147483647 * ((y * 39373 + 12345 + 31 * (z + 1)) % 2147483647 % 40009 + 3) % 2147483629 / 64 % m, st.set n [.int x, .int ((y * 39373 + 12345 + 31 * (z + 1)) % 2147483647), .int (z + 1)], Int.emod_nonneg _ (by omega), Int.emod_lt_of_pos _ m0, ⟨⟨_, rfl⟩, _, _, _, h0, get_set hn⟩, ?_⟩
    simp only [m__law_take, b__law_take, iV, iC, iOp, iOpT, iSkip, iSeqS, iSet, setIx, iSetIx, iRet, iIfS, runK, setT, blOf, seqD, lsD, dIx, dAdd, dMul, dFdiv, dMod, dGt, Option.bind_some, Option.map_some, List.getD_cons_zero, List.getD_cons_succ, List.set_cons_zero, List.set_cons_succ, List.map_cons, List.map_nil, List.length_cons, List.length_nil, List.replicate_succ, List.replicate_zero, List.cons_append, List.nil_append, Nat.reduceAdd, Nat.reduceSub, if_true, if_false, Bool.false_eq_true, atI0, atI1, atI2, ixN0, ixN1, ixN2, Nat.zero_add, and_self, decide_false, h, hx, m0, m1, decide_false, and_self, get_set hn, List.set_set, k1, k2, k3, show (0 : Int) < 2147483647 by decide, show (0 : Int) < 40009 by decide, show (0 : Int) < 2147483629 by decide, show (0 : Int) < 64 by decide, show (64 : Int) < 1073741824 by decide]
theorem hand_ok {st : Sto} {ns : List Int} {k : Nat} : ∃ x y : Int, 0 ≤ x ∧ m__law_hand [.d (.scr ns), .d (.int k)] st = some (.h st.length, st ++ [[.int x, .int y, .int 0]]) := by
  have p60' : CPow 10 60 := p60
  have p18' : CPow 10 18 := p18
  have k1 : ∀ q, PySem.IntMulOk 7919 q := fun q => mulOk_l (by decide)
  have k2 : ∀ q, PySem.IntMulOk q 48271 := fun q => mulOk_r (by decide)
  have k3 : ∀ (q : Int) (b : Bool), PySem.IntMulOk q (if b = true then 1 else 0) := fun q b => mulOk_r ⟨b01lo b, b01hi b⟩
  have hf := far_pos
  by_cases hk : (k : Int) < ((ns.map D.int).length : Nat)
  · have hk' : k < ns.length := by rw [List.length_map] at hk; omega
    have e : atI (ns.map D.int) (k : Int) = some (.int ns[k]) := atI_nat (by rw [List.getElem?_map, List.getElem?_eq_getElem hk']; rfl)
    refine ⟨(if ns[k] < 0 then -ns[k] else ns[k]) % (10 ^ Int.toNat 60 * 10 ^ Int.toNat 60 * 10 ^ Int.toNat 60 * 10 ^ Int.toNat 60) * (if decide (10 ^ Int.toNat 18 ≤ (if ns[k] < 0 then -ns[k] else ns[k])) = true then 1 else 0), (ns[k] % 2147483629 + 7919 * (k : Int) + 11) * 48271 % 2147483647, Int.mul_nonneg (Int.emod_nonneg _ (Int.ne_of_gt far_pos)) (b01nn _), ?_⟩
    · simp only [m__law_hand, b__law_hand, iV, iC, iOp, iOpT, iNil, iCons, iCB, iLst, iNew, iSkip, iSeqS, iSet, iRet, iIfS, runK, setT, dsOf, blOf, seqD, lsD, dIx, dAdd, dMul, dMod, dPow, dLt, dGe, dLen, dAbs, dInt, Option.bind_some, Option.map_some, List.getD_cons_zero, List.getD_cons_succ, List.set_cons_zero, List.set_cons_succ, List.map_cons, List.map_nil, List.length_cons, List.length_nil, List.replicate_succ, List.replicate_zero, List.cons_append, List.nil_append, Nat.reduceAdd, Nat.reduceSub, if_true, Nat.zero_add, decide_true, hk, e, decide_true, p60', p18', k1, k2, k3, m60a, m60b, m60c, hf, show (0 : Int) < 2147483647 by decide, show (0 : Int) < 2147483629 by decide, show (3 : Nat) ≤ 1000 by decide]
  · refine ⟨(if (0 : Int) < 0 then -0 else 0) % (10 ^ Int.toNat 60 * 10 ^ Int.toNat 60 * 10 ^ Int.toNat 60 * 10 ^ Int.toNat 60) * (if decide (10 ^ Int.toNat 18 ≤ (if (0 : Int) < 0 then -0 else (0 : Int))) = true then 1 else 0), (0 % 2147483629 + 7919 * (k : Int) + 11) * 48271 % 2147483647, Int.mul_nonneg (Int.emod_nonneg _ (Int.ne_of_gt far_pos)) (b01nn _), ?_⟩
    · simp only [m__law_hand, b__law_hand, iV, iC, iOp, iOpT, iNil, iCons, iCB, iLst, iNew, iSkip, iSeqS, iSet, iRet, iIfS, runK, setT, dsOf, blOf, seqD, lsD, dIx, dAdd, dMul, dMod, dPow, dLt, dGe, dLen, dAbs, dInt, Option.bind_some, Option.map_some, List.getD_cons_zero, List.getD_cons_succ, List.set_cons_zero, List.set_cons_succ, List.map_cons, List.map_nil, List.length_cons, List.length_nil, List.replicate_succ, List.replicate_zero, List.cons_append, List.nil_append, Nat.reduceAdd, Nat.reduceSub, if_true, if_false, Bool.false_eq_true, Nat.zero_add, decide_false, hk, decide_false, p60', p18', k1, k2, k3, m60a, m60b, m60c, hf, show (0 : Int) < 2147483647 by decide, show (0 : Int) < 2147483629 by decide, show (3 : Nat) ≤ 1000 by decide]
theorem pick_ok {st : Sto} {n : Nat} {ds : List D} (h : HandAt st n) (h0 : ds ≠ []) (h1 : ds.length < 1000000) : ∃ d st', d ∈ ds ∧ Stp n st st' ∧ m__law_pick [.h n, .d (.lst ds)] st = some (.d d, st') := by
  have hp : 0 < ds.length := List.length_pos_iff.mpr h0
  obtain ⟨r, s1, r0, r1, t1, e1⟩ := take_ok h (m := (ds.length : Int)) (by omega) (by omega)
  obtain ⟨j, rfl⟩ := Int.eq_ofNat_of_zero_le r0
  have hj : j < ds.length := by omega
  have e2 : atI ds (j : Int) = some ds[j] := atI_nat (List.getElem?_eq_getElem hj)
  refine ⟨ds[j], s1, List.getElem_mem hj, t1, ?_⟩
  simp only [m__law_pick, b__law_pick, iV, iOp, iNil, iCons, iCB, iCall, iRet, runK, seqD, dIx, dLen, Option.bind_some, Option.map_some, List.getD_cons_zero, List.getD_cons_succ, List.map_cons, List.map_nil, List.length_cons, List.length_nil, List.replicate_zero, List.cons_append, List.nil_append, Nat.reduceAdd, Nat.reduceSub, if_true, Nat.zero_add, e1, e2]
theorem power_ok {st : Sto} {k : Int} (hk0 : 0 ≤ k) (hk : k ≤ 60) : m_power_of_two [.d (.int k)] st = some (.d (.int (2 ^ k.toNat)), st) := by
  obtain ⟨env', s2, e2, o, rfl, rfl⟩ := forI_inv (g := .nm 2) (body := l_power_of_two_1) (ds := rngD 0 k.toNat) (fun i env s => ∃ o, env = [some (.d (.int k)), some (.d (.int (2 ^ i))), o] ∧ s = st) (env := [some (.d (.int k)), some (.d (.int 1)), none]) (st := st)
    ⟨none, rfl, rfl⟩ (fun i d env s hd ⟨o, e, es⟩ => by
      subst e es
      obtain ⟨rfl, hi⟩ := rngD_at hd
      have km : PySem.IntMulOk (2 ^ i : Int) 2 := mulOk_r (by decide)
      have e1 : (2 ^ i : Int) * 2 = 2 ^ (i + 1) := by rw [Int.pow_succ]
      refine ⟨_, [some (.d (.int k)), some (.d (.int (2 ^ (i + 1)))), some (.d (.int i))], s, rfl, .inl ?_, _, rfl, rfl⟩
      generalize (2 ^ i : Int) = p at km e1
      simp only [l_power_of_two_1, iV, iC, iOp, iSet, setT, dMul, Option.bind_some, Option.map_some, List.getD_cons_zero, List.getD_cons_succ, List.set_cons_zero, List.set_cons_succ, if_true, km, e1])
  rw [rngD_len] at e2
  have hb : -(2 ^ 62) ≤ k ∧ k < 2 ^ 62 := by omega
  generalize (2 ^ k.toNat : Int) = q at e2 ⊢
  simp only [m_power_of_two, b_power_of_two, iV, iC, iNil, iCons, iSeqS, iSet, iRet, iFor, iRng1D, runK, setT, Option.bind_some, Option.map_some, List.getD_cons_zero, List.getD_cons_succ, List.set_cons_zero, List.set_cons_succ, List.map_cons, List.map_nil, List.length_cons, List.length_nil, List.replicate_succ, List.replicate_zero, List.cons_append, List.nil_append, Nat.reduceSub, if_true, Nat.zero_add, and_self, hb, e2]
theorem pow_small {j : Nat} (h : j ≤ 20) : (0 : Int) < 2 ^ j ∧ (2 : Int) ^ j < 1073741824 := by
  have h1 : ∀ m : Nat, m ≤ 20 → 2 ^ m ≤ 2 ^ 20 := fun m hm => Nat.pow_le_pow_right (by decide) hm
  have h2 : (2 : Nat) ^ 20 = 1048576 := by decide
  have h3 := h1 j h
  have h4 : ((2 ^ j : Nat) : Int) = (2 : Int) ^ j := by push_cast; rfl
  have h5 : 0 < 2 ^ j := Nat.pow_pos (by decide)
  omega
theorem onin_ok {st : Sto} {row k : Int} (k0 : 0 ≤ k) (k1 : k ≤ 20) : m_on_in [.d (.int row), .d (.int k)] st = some (.d (.int (onI row k)), st) := by
  have h := pow_small (j := k.toNat) (by omega)
  have e := power_ok (st := st) k0 (by omega)
  unfold onI
  generalize (2 ^ k.toNat : Int) = q at h e ⊢
  simp only [m_on_in, b_on_in, iV, iC, iOp, iNil, iCons, iCall, iRet, runK, dFdiv, dMod, Option.bind_some, Option.map_some, List.getD_cons_zero, List.getD_cons_succ, List.map_cons, List.map_nil, List.length_cons, List.length_nil, List.replicate_zero, List.cons_append, List.nil_append, Nat.reduceAdd, Nat.reduceSub, if_true, Nat.zero_add, and_self, e, h.1, h.2, show (0 : Int) < 2 by decide]
theorem n_not_switch : (("not" : Str) == ("switch" : Str)) = false := by decide +kernel
theorem n_not_all : (("not" : Str) == ("all" : Str)) = false := by decide +kernel
theorem n_not_any : (("not" : Str) == ("any" : Str)) = false := by decide +kernel
theorem n_not_odd : (("not" : Str) == ("odd" : Str)) = false := by decide +kernel
theorem n_all_switch : (("all" : Str) == ("switch" : Str)) = false := by decide +kernel
theorem n_all_not : (("all" : Str) == ("not" : Str)) = false := by decide +kernel
theorem n_all_any : (("all" : Str) == ("any" : Str)) = false := by decide +kernel
theorem n_all_odd : (("all" : Str) == ("odd" : Str)) = false := by decide +kernel
theorem n_all_least : (("all" : Str) == ("least" : Str)) = false := by decide +kernel
theorem n_any_switch : (("any" : Str) == ("switch" : Str)) = false := by decide +kernel
theorem n_any_not : (("any" : Str) == ("not" : Str)) = false := by decide +kernel
theorem n_any_all : (("any" : Str) == ("all" : Str)) = false := by decide +kernel
theorem n_any_odd : (("any" : Str) == ("odd" : Str)) = false := by decide +kernel
theorem n_any_least : (("any" : Str) == ("least" : Str)) = false := by decide +kernel
theorem n_odd_switch : (("odd" : Str) == ("switch" : Str)) = false := by decide +kernel
theorem n_odd_not : (("odd" : Str) == ("not" : Str)) = false := by decide +kernel
theorem n_odd_all : (("odd" : Str) == ("all" : Str)) = false := by decide +kernel
theorem n_odd_any : (("odd" : Str) == ("any" : Str)) = false := by decide +kernel
theorem n_odd_least : (("odd" : Str) == ("least" : Str)) = false := by decide +kernel
theorem n_least_switch : (("least" : Str) == ("switch" : Str)) = false := by decide +kernel
theorem n_least_not : (("least" : Str) == ("not" : Str)) = false := by decide +kernel
theorem n_least_all : (("least" : Str) == ("all" : Str)) = false := by decide +kernel
theorem n_least_any : (("least" : Str) == ("any" : Str)) = false := by decide +kernel
theorem n_least_odd : (("least" : Str) == ("odd" : Str)) = false := by decide +kernel
theorem qop_eq {g : Sto → W → W → Option D} {a b : Ef} {env : Ev} {st s1 s2 : Sto} {x y : W} {d : D} (ha : a env st = some (x, s1)) (hb : b env s1 = some (y, s2)) (hg : g s2 x y = some d) : iOp g a b env st = some (.d d, s2) := by
  simp only [iOp, ha, hb, hg, Option.bind_some, Option.map_some]
theorem qopT_eq {g : Sto → W → W → Option D} {a b : Ef} {env : Ev} {st s1 s2 : Sto} {x y : W} {k : Bool} (ha : a env st = some (x, s1)) (hb : b env s1 = some (y, s2)) (hg : g s2 x y = some (.bl k)) : iOpT g a b env st = some (k, s2) := by
  simp only [iOpT, ha, hb, hg, Option.bind_some, blOf, Option.map_some]
theorem qseq_eq {a b : Sf} {env e : Ev} {st s : Sto} {r : Fl} (ha : a env st = some (.nx e s)) (hb : b e s = some r) : iSeqS a b env st = some r := by
  simp only [iSeqS, ha, hb, Option.bind_some]
theorem qseq_rt {a b : Sf} {env : Ev} {st s : Sto} {w : W} (ha : a env st = some (.rt w s)) : iSeqS a b env st = some (.rt w s) := by
  simp only [iSeqS, ha, Option.bind_some]
theorem qset_eq {i : Nat} {f : Ef} {env : Ev} {st s : Sto} {w : W} (h : f env st = some (w, s)) : iSet (.nm i) f env st = some (.nx (env.set i (some w)) s) := by
  simp only [iSet, h, Option.bind_some, setT, Option.map_some]
theorem qcall_eq {m : Fn} {a : Af} {env : Ev} {st s : Sto} {ws : List W} {r : W × Sto} (ha : a env st = some (ws, s)) (hm : m ws s = some r) : iCall m a env st = some r := by
  simp only [iCall, ha, hm, Option.bind_some]
theorem qcb_eq {g : Sto → List W → Option D} {a : Af} {env : Ev} {st s : Sto} {ws : List W} {d : D} (ha : a env st = some (ws, s)) (hm : g s ws = some d) : iCB g a env st = some (.d d, s) := by
  simp only [iCB, ha, hm, Option.bind_some, Option.map_some]
theorem qcons_eq {a : Ef} {b : Af} {env : Ev} {st s1 s2 : Sto} {x : W} {y : List W} (ha : a env st = some (x, s1)) (hb : b env s1 = some (y, s2)) : iCons a b env st = some (x :: y, s2) := by
  simp only [iCons, ha, hb, Option.bind_some, Option.map_some]
theorem qfor_eq {fi : Lf} {g : Tg} {b : Sf} {env : Ev} {st s : Sto} {ds : List D} {r : Fl} (h : fi env st = some (ds, s)) (hf : forI g b ds env s = some r) : iFor fi g b env st = some r := by
  simp only [iFor, h, hf, Option.bind_some]
theorem qret_eq {f : Ef} {env : Ev} {st s : Sto} {w : W} (h : f env st = some (w, s)) : iRet f env st = some (.rt w s) := by
  simp only [iRet, h, Option.map_some]
theorem qif_t {c : Tf} {a b : Sf} {env : Ev} {st s : Sto} {r : Option Fl} (h : c env st = some (true, s)) (ha : a env s = r) : iIfS c a b env st = r := by
  simp only [iIfS, h, Option.bind_some, if_true, ha]
theorem qif_f {c : Tf} {a b : Sf} {env : Ev} {st s : Sto} {r : Option Fl} (h : c env st = some (false, s)) (hb : b env s = r) : iIfS c a b env st = r := by
  simp only [iIfS, h, Option.bind_some, Bool.false_eq_true, if_false, hb]
theorem qlc_eq {k : Nat} {js : List Nat} {fi : Lf} {g : Tg} {tt : Tf} {te : Ef} {env : Ev} {st s s2 : Sto} {ds ys : List D} (h : fi env st = some (ds, s)) (hl : ds.length ≤ 1000000) (hc : lcI g tt te (embE k js env) ds s = some (ys, s2)) : iLc k js fi g tt te env st = some (ys, s2) := by
  simp only [iLc, h, hc, hl, Option.bind_some, if_true]
theorem qpure_eq {a : Lf} {env : Ev} {st s : Sto} {ds : List D} (h : a env st = some (ds, s)) : iPure a env st = some (.d (.lst ds), s) := by
  simp only [iPure, h, Option.map_some]
theorem qrunK_eq {n k : Nat} {b : Sf} {ws : List W} {st s : Sto} {w : W} (hl : ws.length = k) (h : b (ws.map some ++ List.replicate (n - k) none) st = some (.rt w s)) : runK n k b ws st = some (w, s) := by
  simp only [runK, hl, if_true, h, Option.bind_some]
theorem qrunT_eq {n k : Nat} {b : Sf} {ws : List W} {st s : Sto} {x : D} (hl : ws.length = k) (h : b (ws.map some ++ List.replicate (n - k) none) st = some (.rt (.d x) s)) : runT n k b ws st = some (.d x, s.take st.length) := by
  simp only [runT, hl, if_true, h, Option.bind_some, finT]
end Own
end

section
set_option maxHeartbeats 1000000
namespace Own
open PySem L2

theorem ix0 (s : Sto) (a : D) (l : List D) : dIx s (.d (.tup (a :: l))) (.d (.int 0)) = some a := by simp only [dIx, seqD, Option.bind_some, atI0]
theorem ix1 (s : Sto) (a b : D) (l : List D) : dIx s (.d (.tup (a :: b :: l))) (.d (.int 1)) = some b := by simp only [dIx, seqD, Option.bind_some, atI1]
theorem ixm2 (s : Sto) (a b : D) : dIx s (.d (.tup [a, b])) (.d (.int (-1))) = some b := by simp only [dIx, seqD, Option.bind_some]; exact atI_last [a] b
theorem ixm3 (s : Sto) (a b c : D) : dIx s (.d (.tup [a, b, c])) (.d (.int (-1))) = some c := by simp only [dIx, seqD, Option.bind_some]; exact atI_last [a, b] c
theorem dep_pos : ∀ r : Ru, 1 ≤ dep r
  | .sw _ => by rw [dep]; omega
  | .nt _ => by rw [dep]; omega
  | .gr _ _ _ => by rw [dep]; omega
theorem parts_nt {st : Sto} {x : D} : m_parts_of [.d (.tup [.str "not", x])] st = some (.d (.tup [x]), st) := by
  simp only [m_parts_of, b_parts_of, iV, iC, iOp, iOpT, iUn, iNil, iCons, iTupD, iSkip, iSeqS, iRet, iIfS, runK, dsOf, blOf, dEq, kinOf, eqK, eqD, dNeg, Option.bind_some, Option.map_some, List.getD_cons_zero, List.map_cons, List.map_nil, List.length_cons, List.length_nil, List.replicate_zero, List.cons_append, List.nil_append, Nat.reduceSub, if_true, if_false, Bool.false_eq_true, Nat.zero_add, ix0, ix1, n_not_switch, beq_self_eq_true, show (1 : Nat) ≤ 1000 by decide]
theorem parts_gr {st : Sto} {g : Gw} {k : Int} {ds : List D} : m_parts_of [.d (grD g k ds)] st = some (.d (.tup ds), st) := by
  cases g with
  | all => simp only [grD, m_parts_of, b_parts_of, iV, iC, iOp, iOpT, iUn, iNil, iCons, iTupD, iSkip, iSeqS, iRet, iIfS, runK, dsOf, blOf, dEq, kinOf, eqK, eqD, dNeg, Option.bind_some, Option.map_some, List.getD_cons_zero, List.map_cons, List.map_nil, List.length_cons, List.length_nil, List.replicate_zero, List.cons_append, List.nil_append, Nat.reduceSub, if_true, if_false, Bool.false_eq_true, Nat.zero_add, ix0, ixm2, n_all_switch, n_all_not]
  | any => simp only [grD, m_parts_of, b_parts_of, iV, iC, iOp, iOpT, iUn, iNil, iCons, iTupD, iSkip, iSeqS, iRet, iIfS, runK, dsOf, blOf, dEq, kinOf, eqK, eqD, dNeg, Option.bind_some, Option.map_some, List.getD_cons_zero, List.map_cons, List.map_nil, List.length_cons, List.length_nil, List.replicate_zero, List.cons_append, List.nil_append, Nat.reduceSub, if_true, if_false, Bool.false_eq_true, Nat.zero_add, ix0, ixm2, n_any_switch, n_any_not]
  | odd => simp only [grD, m_parts_of, b_parts_of, iV, iC, iOp, iOpT, iUn, iNil, iCons, iTupD, iSkip, iSeqS, iRet, iIfS, runK, dsOf, blOf, dEq, kinOf, eqK, eqD, dNeg, Option.bind_some, Option.map_some, List.getD_cons_zero, List.map_cons, List.map_nil, List.length_cons, List.length_nil, List.replicate_zero, List.cons_append, List.nil_append, Nat.reduceSub, if_true, if_false, Bool.false_eq_true, Nat.zero_add, ix0, ixm2, n_odd_switch, n_odd_not]
  | least => simp only [grD, m_parts_of, b_parts_of, iV, iC, iOp, iOpT, iUn, iNil, iCons, iTupD, iSkip, iSeqS, iRet, iIfS, runK, dsOf, blOf, dEq, kinOf, eqK, eqD, dNeg, Option.bind_some, Option.map_some, List.getD_cons_zero, List.map_cons, List.map_nil, List.length_cons, List.length_nil, List.replicate_zero, List.cons_append, List.nil_append, Nat.reduceSub, if_true, if_false, Bool.false_eq_true, Nat.zero_add, ix0, ixm3, n_least_switch, n_least_not]
theorem lc_ru {te : Ef} {l : Ev} {st : Sto} (F : Ru → D) : ∀ {rs : List Ru}, (∀ r ∈ rs, te (some (.d (toD r)) :: l) st = some (.d (F r), st)) → lcI (.nm 0) iYes te (none :: l) (toDs rs) st = some (rs.map F, st)
  | [], _ => by rw [toDs]; rfl
  | r :: rs, h => by
    have ih := lc_ru (te := te) (l := l) (st := st) F (rs := rs) fun x hx => h x (List.mem_cons_of_mem _ hx)
    have h1 := h r List.mem_cons_self
    rw [toDs, List.map_cons]
    unfold lcI
    rw [show setT (.nm 0) (.d (toD r)) (none :: l) = some (some (.d (toD r)) :: l) from rfl, Option.bind_some, show iYes (some (.d (toD r)) :: l) st = some (true, st) from rfl, Option.bind_some, if_pos rfl, h1, Option.bind_some, ih]; rfl
theorem rat_ok {st : Sto} {row : Int} : ∀ (n : Nat) (r : Ru), dep r ≤ n → good 6 r → m_rule_at n [.d (toD r), .d (.int row)] st = some (.d (.int (ev row r)), st)
  | 0, r, h, _ => by have := dep_pos r; omega
  | n + 1, .sw k, hd, hg => by
    rw [good] at hg
    show runK 6 2 (b_rule_at (m_rule_at n)) _ _ = _
    have e := onin_ok (st := st) (row := row) (k := k) hg.1 (by omega)
    rw [toD, ev]
    simp only [b_rule_at, iV, iC, iOp, iOpT, iNil, iCons, iCB, iCall, iPure, iSkip, iSeqS, iSet, iRet, iIfS, iLc, iItems, runK, setT, blOf, embE, seqD, dIx, dEq, kinOf, eqK, eqD, dSum, Option.bind_some, Option.map_some, List.getD_cons_zero, List.getD_cons_succ, List.set_cons_zero, List.set_cons_succ, List.map_cons, List.map_nil, List.length_cons, List.length_nil, List.replicate_succ, List.replicate_zero, List.cons_append, List.nil_append, Nat.reduceAdd, Nat.reduceSub, if_true, atI0, atI1, Nat.zero_add, beq_self_eq_true, e]
  | n + 1, .nt r, hd, hg => by
    rw [good] at hg
    rw [dep] at hd
    show runK 6 2 (b_rule_at (m_rule_at n)) _ _ = _
    have e := rat_ok (st := st) (row := row) n r (by omega) hg
    have key : lcI (.nm 0) iYes (e_rule_at_2 (m_rule_at n)) [none, some (.d (.int row))] [toD r] st = some ([.int (ev row r)], st) := by
      generalize toD r = x at e ⊢
      simp only [lcI, e_rule_at_2, iV, iNil, iCons, iCall, iYes, setT, dsOf, Option.bind_some, Option.map_some, List.getD_cons_zero, List.getD_cons_succ, List.set_cons_zero, List.cons_append, List.nil_append, if_true, e]
    have hp := parts_nt (st := st) (x := toD r)
    have hi : intsOf [.int (ev row r)] = some [ev row r] := rfl
    have hs : [ev row r].sum = ev row r := by simp
    rw [toD, ev]
    generalize toD r = x at key hp ⊢
    by_cases h0 : ev row r = 0
    · rw [h0] at key hi hs ⊢
      simp only [b_rule_at, r_rule_at_1, iV, iC, iOp, iOpT, iIfE, iTru, iNil, iCons, iCB, iCall, iPure, iSkip, iSeqS, iSet, iRet, iIfS, iLc, iItems, runK, setT, blOf, embE, seqD, dIx, dMod, dGt, dGe, dEq, kinOf, eqK, eqD, dLen, dSum, truD, Option.bind_some, Option.map_some, List.getD_cons_zero, List.getD_cons_succ, List.set_cons_zero, List.set_cons_succ, List.map_cons, List.map_nil, List.length_cons, List.length_nil, List.replicate_succ, List.replicate_zero, List.cons_append, List.nil_append, Nat.reduceAdd, Nat.reduceSub, if_true, if_false, Bool.false_eq_true, atI0, atI1, Nat.zero_add, n_not_switch, n_not_all, n_not_any, n_not_odd, hp, key, hi, hs, beq_self_eq_true, show (1 : Nat) ≤ 1000000 by decide]
    · have f0 : (ev row r == (0 : Int)) = false := by simp [h0]
      rw [if_neg h0]
      generalize ev row r = y at key hi hs f0
      simp only [b_rule_at, r_rule_at_1, iV, iC, iOp, iOpT, iIfE, iTru, iNil, iCons, iCB, iCall, iPure, iSkip, iSeqS, iSet, iRet, iIfS, iLc, iItems, runK, setT, blOf, embE, seqD, dIx, dMod, dGt, dGe, dEq, kinOf, eqK, eqD, dLen, dSum, truD, Option.bind_some, Option.map_some, List.getD_cons_zero, List.getD_cons_succ, List.set_cons_zero, List.set_cons_succ, List.map_cons, List.map_nil, List.length_cons, List.length_nil, List.replicate_succ, List.replicate_zero, List.cons_append, List.nil_append, Nat.reduceAdd, Nat.reduceSub, if_true, if_false, Bool.false_eq_true, atI0, atI1, Nat.zero_add, n_not_switch, n_not_all, n_not_any, n_not_odd, hp, key, hi, hs, f0, beq_self_eq_true, show (1 : Nat) ≤ 1000000 by decide]
  | n + 1, .gr g k rs, hd, hg => by
    rw [good] at hg
    rw [dep] at hd
    show runK 6 2 (b_rule_at (m_rule_at n)) _ _ = _
    have key : lcI (.nm 0) iYes (e_rule_at_2 (m_rule_at n)) [none, some (.d (.int row))] (toDs rs) st = some ((rs.map (ev row)).map D.int, st) := by
      rw [List.map_map]
      exact lc_ru _ fun r hr => by
        have e := rat_ok (st := st) (row := row) n r (deps_mem (by omega) r hr) (goods_mem hg.2.2.2 r hr)
        show _ = some (W.d (.int (ev row r)), st)
        generalize toD r = x at e ⊢
        simp only [e_rule_at_2, iV, iNil, iCons, iCall, Option.bind_some, Option.map_some, List.getD_cons_zero, List.getD_cons_succ, e]
    have hp := parts_gr (st := st) (g := g) (k := k) (ds := toDs rs)
    have hi : intsOf ((rs.map (ev row)).map D.int) = some (rs.map (ev row)) := intsOf_map _
    have hs : (rs.map (ev row)).sum = evs row rs := (evs_sum row rs).symm
    have hz : (toDs rs).length ≤ 1000000 := by rw [toDs_map, List.length_map]; omega
    have hlen : (((rs.map (ev row)).map D.int).length : Int) = (rs.length : Int) := by rw [List.length_map, List.length_map]
    rw [toD, ev]
    generalize (rs.map (ev row)).map D.int = L at key hi hlen
    generalize rs.map (ev row) = LI at hi hs
    generalize toDs rs = ds at key hp hz ⊢
    generalize evs row rs = z at hs ⊢
    generalize (rs.length : Int) = len at hlen ⊢
    cases g with
    | all =>
      unfold grD at hp ⊢
      cases hb : (z == len) with
      | true => simp only [b_rule_at, r_rule_at_1, gv, iV, iC, iOp, iOpT, iIfE, iTru, iNil, iCons, iCB, iCall, iPure, iSkip, iSeqS, iSet, iRet, iIfS, iLc, iItems, runK, setT, blOf, embE, seqD, dIx, dMod, dGt, dGe, dEq, kinOf, eqK, eqD, dLen, dSum, truD, Option.bind_some, Option.map_some, Option.bind_none, Option.map_none, List.getD_cons_zero, List.getD_cons_succ, List.set_cons_zero, List.set_cons_succ, List.map_cons, List.map_nil, List.length_cons, List.length_nil, List.replicate_succ, List.replicate_zero, List.cons_append, List.nil_append, Nat.reduceAdd, Nat.reduceSub, if_true, if_false, Bool.false_eq_true, atI0, atI1, Nat.zero_add, n_all_switch, n_all_not, n_all_any, n_all_odd, hp, key, hi, hs, hz, hlen, eq_of_beq hb, beq_self_eq_true]
      | false =>
        have hne : ¬ z = len := fun e => by rw [e, beq_self_eq_true] at hb; cases hb
        simp only [b_rule_at, r_rule_at_1, gv, iV, iC, iOp, iOpT, iIfE, iTru, iNil, iCons, iCB, iCall, iPure, iSkip, iSeqS, iSet, iRet, iIfS, iLc, iItems, runK, setT, blOf, embE, seqD, dIx, dMod, dGt, dGe, dEq, kinOf, eqK, eqD, dLen, dSum, truD, Option.bind_some, Option.map_some, Option.bind_none, Option.map_none, List.getD_cons_zero, List.getD_cons_succ, List.set_cons_zero, List.set_cons_succ, List.map_cons, List.map_nil, List.length_cons, List.length_nil, List.replicate_succ, List.replicate_zero, List.cons_append, List.nil_append, Nat.reduceAdd, Nat.reduceSub, if_true, if_false, Bool.false_eq_true, atI0, atI1, Nat.zero_add, n_all_switch, n_all_not, n_all_any, n_all_odd, hp, key, hi, hs, hz, hlen, hb, hne, beq_self_eq_true]
    | any =>
      unfold grD at hp ⊢
      by_cases hb : z > 0 <;> simp only [b_rule_at, r_rule_at_1, gv, iV, iC, iOp, iOpT, iIfE, iTru, iNil, iCons, iCB, iCall, iPure, iSkip, iSeqS, iSet, iRet, iIfS, iLc, iItems, runK, setT, blOf, embE, seqD, dIx, dMod, dGt, dGe, dEq, kinOf, eqK, eqD, dLen, dSum, truD, Option.bind_some, Option.map_some, Option.bind_none, Option.map_none, List.getD_cons_zero, List.getD_cons_succ, List.set_cons_zero, List.set_cons_succ, List.map_cons, List.map_nil, List.length_cons, List.length_nil, List.replicate_succ, List.replicate_zero, List.cons_append, List.nil_append, Nat.reduceAdd, Nat.reduceSub, if_true, if_false, Bool.false_eq_true, atI0, atI1, Nat.zero_add, decide_true, decide_false, n_any_switch, n_any_not, n_any_all, n_any_odd, hp, key, hi, hs, hz, hb, beq_self_eq_true]
    | odd =>
      unfold grD at hp ⊢
      simp only [b_rule_at, r_rule_at_1, gv, iV, iC, iOp, iOpT, iIfE, iTru, iNil, iCons, iCB, iCall, iPure, iSkip, iSeqS, iSet, iRet, iIfS, iLc, iItems, runK, setT, blOf, embE, seqD, dIx, dMod, dGt, dGe, dEq, kinOf, eqK, eqD, dLen, dSum, truD, Option.bind_some, Option.map_some, List.getD_cons_zero, List.getD_cons_succ, List.set_cons_zero, List.set_cons_succ, List.map_cons, List.map_nil, List.length_cons, List.length_nil, List.replicate_succ, List.replicate_zero, List.cons_append, List.nil_append, Nat.reduceAdd, Nat.reduceSub, if_true, if_false, Bool.false_eq_true, atI0, atI1, Nat.zero_add, n_odd_switch, hp, key, hi, hs, hz, beq_self_eq_true, show (0 : Int) < 2 by decide]
    | least =>
      unfold grD at hp ⊢
      by_cases hb : z ≥ k <;> simp only [b_rule_at, r_rule_at_1, gv, iV, iC, iOp, iOpT, iIfE, iTru, iNil, iCons, iCB, iCall, iPure, iSkip, iSeqS, iSet, iRet, iIfS, iLc, iItems, runK, setT, blOf, embE, seqD, dIx, dMod, dGt, dGe, dEq, kinOf, eqK, eqD, dLen, dSum, truD, Option.bind_some, Option.map_some, List.getD_cons_zero, List.getD_cons_succ, List.set_cons_zero, List.set_cons_succ, List.map_cons, List.map_nil, List.length_cons, List.length_nil, List.replicate_succ, List.replicate_zero, List.cons_append, List.nil_append, Nat.reduceAdd, Nat.reduceSub, if_true, if_false, Bool.false_eq_true, atI0, atI1, Nat.zero_add, decide_true, decide_false, n_least_switch, n_least_not, n_least_all, n_least_any, n_least_odd, hp, key, hi, hs, hz, hb]
def tabL (N : Nat) (F : Nat → Int) : List D := ((List.range N).map F).map D.int
theorem tabL_at {N : Nat} {F : Nat → Int} {j : Nat} (h : j < N) : atI (tabL N F) (j : Int) = some (.int (F j)) := atI_nat (by unfold tabL; rw [List.getElem?_map, List.getElem?_map, List.getElem?_range h]; rfl)
theorem gather {te : Ef} {l : Ev} {st : Sto} {M : Nat} {F : Nat → Int} (h : ∀ i, i < M → te (some (.d (.int (i : Int))) :: l) st = some (.d (.int (F i)), st)) : lcI (.nm 0) iYes te (none :: l) (rngD 0 M) st = some (tabL M F, st) := by
  have e : tabL M F = (rngD 0 M).map fun d => match d with | .int j => .int (F j.toNat) | d => d := by
    unfold tabL rngD
    rw [List.map_map, List.map_map]
    refine List.map_congr_left fun k _ => ?_
    show D.int (F k) = .int (F ((0 : Int) + k).toNat)
    rw [Int.zero_add, Int.toNat_natCast]
  rw [e]
  exact lcI_map _ fun d hd => by
    obtain ⟨i, hi⟩ := List.mem_iff_getElem?.mp hd
    obtain ⟨rfl, hi'⟩ := rngD_at hi
    refine ⟨_, rfl, ?_⟩
    show _ = some (W.d (.int (F ((i : Int)).toNat)), st)
    rw [Int.toNat_natCast]
    exact h i hi'
theorem pow_q {n : Int} (st : Sto) (n0 : 0 ≤ n) (n1 : n ≤ 6) : ∃ q : Int, m_power_of_two [.d (.int n)] st = some (.d (.int q), st) ∧ q.toNat = 2 ^ n.toNat ∧ 0 < q ∧ q ≤ 64 ∧ q = ((2 ^ n.toNat : Nat) : Int) := by
  have e := power_ok (st := st) n0 (by omega)
  have h4 : ((2 ^ n.toNat : Nat) : Int) = (2 : Int) ^ n.toNat := by push_cast; rfl
  have h5 : 2 ^ n.toNat ≤ 2 ^ 6 := Nat.pow_le_pow_right (by decide) (by omega)
  have h6 : 0 < 2 ^ n.toNat := Nat.pow_pos (by decide)
  have h7 : (2 : Nat) ^ 6 = 64 := by decide
  exact ⟨_, e, by omega, by omega, by omega, h4.symm⟩
theorem table_ok {st : Sto} {r : Ru} {n : Int} (hd : dep r ≤ 9) (hg : good 6 r) (n0 : 0 ≤ n) (n1 : n ≤ 6) : m_table_of [.d (toD r), .d (.int n)] st = some (.d (.tup (tabL (2 ^ n.toNat) fun i => ev i r)), st) := by
  obtain ⟨q, e1, qt, q0, q1, _⟩ := pow_q st n0 n1
  have key : lcI (.nm 0) iYes e_table_of_1 [none, some (.d (toD r))] (rngD 0 (2 ^ n.toNat)) st = some (tabL (2 ^ n.toNat) fun i => ev i r, st) := gather fun i hi => by
    have e := rat_ok (st := st) (row := (i : Int)) 9 r hd hg
    generalize toD r = x at e ⊢
    simp only [e_table_of_1, iV, iNil, iCons, iCall, Option.bind_some, Option.map_some, List.getD_cons_zero, List.getD_cons_succ, e]
  rw [← qt] at key ⊢
  have hb : -(2 ^ 62) ≤ q ∧ q < 2 ^ 62 := by omega
  have hz : (rngD 0 q.toNat).length ≤ 1000000 := by rw [rngD_len]; omega
  generalize (tabL q.toNat fun i => ev i r) = T at key ⊢
  generalize toD r = x at key ⊢
  simp only [m_table_of, b_table_of, iV, iNil, iCons, iCB, iCall, iPure, iRet, iLc, iRng1D, runK, embE, seqD, dTup, Option.bind_some, Option.map_some, List.getD_cons_zero, List.getD_cons_succ, List.map_cons, List.map_nil, List.length_cons, List.length_nil, List.replicate_succ, List.replicate_zero, List.cons_append, List.nil_append, Nat.reduceAdd, Nat.reduceSub, if_true, Nat.zero_add, and_self, e1, hb, hz, key]
end Own
end

section
set_option maxHeartbeats 1000000
namespace Own
open PySem L2
theorem str_eq (s : Sto) (a b : Str) : dEq s (.d (.str a)) (.d (.str b)) = some (.bl (a == b)) := by
  simp only [dEq, kinOf, eqK, eqD, Option.bind_some, Option.map_some]
theorem items_call {m : Fn} {a : Af} {env : Ev} {st s s2 : Sto} {ws : List W} {ds : List D} (hm : m ws s = some (.d (.tup ds), s2)) (ha : a env st = some (ws, s) := by rfl) : iItems (iCall m a) env st = some (ds, s2) := by
  simp only [iItems, iCall, ha, hm, Option.bind_some]
mutual
def swb : Ru → Nat
  | .sw k => 1 <<< k.toNat
  | .nt r => swb r
  | .gr _ _ rs => swbs rs
def swbs : List Ru → Nat
  | [] => 0
  | r :: rs => swb r ||| swbs rs
end
mutual
def met : Ru → List Int
  | .sw k => [k]
  | .nt r => met r
  | .gr _ _ rs => mets rs
def mets : List Ru → List Int
  | [] => []
  | r :: rs => met r ++ mets rs
end
mutual
theorem swb_lt : ∀ r : Ru, good 6 r → swb r < 64
  | .sw k, h => by
    rw [good] at h
    rw [swb, Nat.one_shiftLeft]
    exact Nat.pow_lt_pow_right (a := 2) (n := 6) (by decide) (by omega)
  | .nt r, h => by rw [good] at h; rw [swb]; exact swb_lt r h
  | .gr _ _ rs, h => by rw [good] at h; rw [swb]; exact swbs_lt rs h.2.2.2
theorem swbs_lt : ∀ rs : List Ru, goods 6 rs → swbs rs < 64
  | [], _ => by rw [swbs]; decide
  | r :: rs, h => by rw [goods] at h; rw [swbs]; exact Nat.or_lt_two_pow (n := 6) (swb_lt r h.1) (swbs_lt rs h.2)
end
mutual
theorem swb_met : ∀ r : Ru, good 6 r → ∀ j : Nat, (swb r).testBit j = decide ((j : Int) ∈ met r)
  | .sw k, h, j => by
    rw [good] at h
    rw [swb, met, tb_one]
    apply decide_eq_decide.mpr
    rw [List.mem_singleton]
    omega
  | .nt r, h, j => by rw [good] at h; rw [swb, met]; exact swb_met r h j
  | .gr _ _ rs, h, j => by rw [good] at h; rw [swb, met]; exact swbs_met rs h.2.2.2 j
theorem swbs_met : ∀ rs : List Ru, goods 6 rs → ∀ j : Nat, (swbs rs).testBit j = decide ((j : Int) ∈ mets rs)
  | [], _, j => by rw [swbs, mets]; simp
  | r :: rs, h, j => by
    rw [goods] at h
    rw [swbs, mets, Nat.testBit_or, swb_met r h.1 j, swbs_met rs h.2 j]
    by_cases h1 : (j : Int) ∈ met r <;> by_cases h2 : (j : Int) ∈ mets rs <;> simp [h1, h2]
end
mutual
theorem met_len : ∀ r : Ru, ((met r).length : Int) ≤ cnt r
  | .sw k => by rw [met, cnt]; simp
  | .nt r => by rw [met, cnt]; have := met_len r; omega
  | .gr _ _ rs => by rw [met, cnt]; have := mets_len rs; omega
theorem mets_len : ∀ rs : List Ru, ((mets rs).length : Int) ≤ cnts rs
  | [] => by rw [mets, cnts]; simp
  | r :: rs => by rw [mets, cnts, List.length_append]; have := met_len r; have := mets_len rs; omega
end
theorem cnt_pos : ∀ r : Ru, 0 ≤ cnt r := fun r => by have := met_len r; omega
theorem cnts_pos : ∀ r : List Ru, 0 ≤ cnts r := fun r => by have := mets_len r; omega
theorem cnts_mem : ∀ {rs : List Ru}, ∀ r ∈ rs, cnt r ≤ cnts rs
  | x :: rs, r, h => by
    rw [cnts]
    rcases List.mem_cons.mp h with rfl | h
    · have := cnts_pos rs; omega
    · have := cnts_mem (rs := rs) r h; have := cnt_pos x; omega
theorem mets_take {rs : List Ru} {i : Nat} {r : Ru} (h : rs[i]? = some r) : mets (rs.take (i + 1)) = mets (rs.take i) ++ met r := by
  have app : ∀ (a b : List Ru), mets (a ++ b) = mets a ++ mets b := by
    intro a b
    induction a with
    | nil => rw [List.nil_append, mets, List.nil_append]
    | cons x a ih => rw [List.cons_append, mets, mets, ih, List.append_assoc]
  rw [List.take_add_one, h]
  show mets (rs.take i ++ [r]) = _
  rw [app]
  congr 1
  rw [mets, mets, List.append_nil]
theorem mets_take_len (rs : List Ru) (i : Nat) : ((mets (rs.take i)).length : Int) ≤ cnts rs := by
  have h1 := mets_len (rs.take i)
  have h2 : cnts (rs.take i) ≤ cnts rs := by
    have app : ∀ (a b : List Ru), cnts (a ++ b) = cnts a + cnts b := by
      intro a b
      induction a with
      | nil => rw [List.nil_append, cnts]; omega
      | cons x a ih => rw [List.cons_append, cnts, cnts, ih]; omega
    conv => rhs; rw [← List.take_append_drop i rs]
    rw [app]
    have := cnts_pos (rs.drop i)
    omega
  omega
theorem swbs_take {rs : List Ru} {i : Nat} {r : Ru} (h : rs[i]? = some r) : swbs (rs.take (i + 1)) = swbs (rs.take i) ||| swb r := by
  have app : ∀ (a b : List Ru), swbs (a ++ b) = swbs a ||| swbs b := by
    intro a b
    induction a with
    | nil => rw [List.nil_append, swbs, Nat.zero_or]
    | cons x a ih => rw [List.cons_append, swbs, swbs, ih, Nat.or_assoc]
  rw [List.take_add_one, h]
  show swbs (rs.take i ++ [r]) = _
  rw [app]
  congr 1
  rw [swbs, swbs, Nat.or_zero]
def ksI (m : Nat) : List Int := (ksOf m).map fun k => ((k : Nat) : Int)
theorem ksI_D (m : Nat) : (ksOf m).map (fun k => D.int ((k : Nat) : Int)) = (ksI m).map D.int := by unfold ksI; rw [List.map_map]; rfl
theorem bitsOf_L (l : List Int) : bitsOf l = bitsL (l.map Int.toNat) := by unfold bitsOf bitsL; rw [List.foldl_map]
theorem bitsOf_app (l : List Int) {m : Nat} (hm : m < 64) : bitsOf (l ++ ksI m) = bitsOf l ||| m := by
  rw [bitsOf_L, bitsOf_L, List.map_append]
  have e : (ksI m).map Int.toNat = ksOf m := by
    unfold ksI
    rw [List.map_map]
    have : (Int.toNat ∘ fun k => ((k : Nat) : Int)) = id := by funext k; simp
    rw [this, List.map_id]
  rw [e]
  conv => rhs; rw [← bitsL_ks hm]
  unfold bitsL
  rw [List.foldl_append]
  exact or_bits _ _
theorem in6_ksI (m : Nat) : in6 (ksI m) = true := by
  unfold in6 ksI
  rw [List.all_map]
  refine List.all_eq_true.mpr fun k hk => ?_
  have := mem_ks6 hk
  simp; omega
theorem in6_app {a b : List Int} (ha : in6 a = true) (hb : in6 b = true) : in6 (a ++ b) = true := by unfold in6 at *; rw [List.all_append, ha, hb]; rfl
theorem ks_one : ∀ k : _root_.Fin 6, ksOf (1 <<< k.1) = [k.1] := by decide +kernel
theorem toDs_get {rs : List Ru} {i : Nat} {d : D} (h : (toDs rs)[i]? = some d) : ∃ r, rs[i]? = some r ∧ d = toD r := by
  rw [toDs_map, List.getElem?_map, Option.map_eq_some_iff] at h
  obtain ⟨r, h1, h2⟩ := h
  exact ⟨r, h1, h2.symm⟩
/-- the loop that gathers -/
theorem sin_loop {f : Fn} {x : D} {rs : List Ru} {st : Sto} (hl : rs.length ≤ 6) (hg : goods 6 rs) (hf : ∀ r ∈ rs, ∀ s, f [.d (toD r)] s = some (.d (.tup ((ksI (swb r)).map D.int)), s)) :
    ∃ o L, forI (.nm 2) (l_switches_in_1 f) (toDs rs) [some (.d x), some (.h st.length), none] (st ++ [[]]) = some (.nx [some (.d x), some (.h st.length), o] (st ++ [L.map D.int])) ∧ bitsOf L = swbs rs ∧ in6 L = true := by
  obtain ⟨e', s', hF, o, L, rfl, rfl, h1, h2, _⟩ := forI_inv (g := .nm 2) (body := l_switches_in_1 f) (ds := toDs rs) (fun i env s => ∃ o L, env = [some (.d x), some (.h st.length), o] ∧ s = st ++ [L.map D.int] ∧ bitsOf L = swbs (rs.take i) ∧ in6 L = true ∧ L.length ≤ 6 * i)
    (env := [some (.d x), some (.h st.length), none]) (st := st ++ [[]]) ⟨none, [], rfl, rfl, by rw [List.take_zero, swbs]; rfl, rfl, Nat.le_refl _⟩ (by
    rintro i d env s hd ⟨o, L, rfl, rfl, h1, h2, h3⟩
    obtain ⟨r, hr, rfl⟩ := toDs_get hd
    have hmem : r ∈ rs := List.mem_of_getElem? hr
    have hi : i < rs.length := (List.getElem?_eq_some_iff.mp hr).1
    have hs := swb_lt r (goods_mem hg r hmem)
    have e := hf r hmem (st ++ [L.map D.int])
    have hg2 : (st ++ [L.map D.int])[st.length]? = some (L.map D.int) := by rw [List.getElem?_append_right (Nat.le_refl _), Nat.sub_self]; rfl
    have hk : (ksI (swb r)).length ≤ 6 := by unfold ksI; rw [List.length_map]; exact len_ks hs
    have hz : (L.map D.int).length + ((ksI (swb r)).map D.int).length ≤ 1000000 := by rw [List.length_map, List.length_map]; omega
    have hset : (st ++ [L.map D.int]).set st.length (L.map D.int ++ (ksI (swb r)).map D.int) = st ++ [(L ++ ksI (swb r)).map D.int] := by
      rw [List.set_append_right _ _ (Nat.le_refl _), Nat.sub_self, List.map_append]; rfl
    refine ⟨_, _, _, rfl, .inl ?_, some (.d (toD r)), L ++ ksI (swb r), rfl, rfl, ?_, in6_app h2 (in6_ksI _), by rw [List.length_append]; omega⟩
    · generalize toD r = y at e ⊢
      rw [← hset]
      generalize (ksI (swb r)).map D.int = Z at e hz ⊢
      generalize L.map D.int = LD at e hz hg2 ⊢
      simp only [l_switches_in_1, iV, iNil, iCons, iCall, iDrop, iMeth, Option.bind_some, Option.map_some, List.getD_cons_zero, List.getD_cons_succ, List.set_cons_zero, List.set_cons_succ, if_true, mExtT, e, hg2, hz]
    · rw [bitsOf_app L hs, h1, swbs_take hr])
  rw [toDs_map, List.length_map, List.take_length] at h1
  exact ⟨o, L, hF, h1, h2⟩
theorem sin_end {n : Nat} {x : D} {rs : List Ru} {st : Sto} (hw : ∀ s : Sto, ∃ w : Str, dIx s (.d x) (.d (.int 0)) = some (.str w) ∧ (w == ("switch" : Str)) = false) (hp : ∀ s, m_parts_of [.d x] s = some (.d (.tup (toDs rs)), s)) (hl : rs.length ≤ 6) (hg : goods 6 rs)
    (hf : ∀ r ∈ rs, ∀ s, m_switches_in n [.d (toD r)] s = some (.d (.tup ((ksI (swb r)).map D.int)), s)) :
    m_switches_in (n + 1) [.d x] st = some (.d (.tup ((ksI (swbs rs)).map D.int)), st) := by
  obtain ⟨o, L, hF, h1, h2⟩ := sin_loop (f := m_switches_in n) (x := x) (st := st) hl hg hf
  obtain ⟨w, hw1, hw2⟩ := hw st
  have hg2 : (st ++ [L.map D.int])[st.length]? = some (L.map D.int) := by rw [List.getElem?_append_right (Nat.le_refl _), Nat.sub_self]; rfl
  have hi : intsOf (L.map D.int) = some L := intsOf_map L
  have ht : (st ++ [L.map D.int]).take st.length = st := by rw [List.take_left']; rfl
  have e1 : iSortS (iSetOf (iV 1)) [some (.d x), some (.h st.length), o] (st ++ [L.map D.int]) = some ((ksI (swbs rs)).map D.int, st ++ [L.map D.int]) := by
    have : iSetOf (iV 1) [some (.d x), some (.h st.length), o] (st ++ [L.map D.int]) = some (bitsOf L, st ++ [L.map D.int]) := by
      simp only [iSetOf, iV, List.getD_cons_succ, List.getD_cons_zero, Option.map_some, Option.bind_some, seqD, hg2, hi, h2, if_true]
    simp only [iSortS, this, Option.map_some, h1, ksI_D]
  have hq := qrunT_eq (n := 3) (k := 1) (b := b_switches_in (m_switches_in n)) (ws := [.d x]) (st := st) (s := st ++ [L.map D.int]) (x := .tup ((ksI (swbs rs)).map D.int)) rfl
    (qseq_eq (qif_f (qopT_eq (qop_eq rfl rfl hw1) rfl (by rw [str_eq]; rw [hw2])) rfl) (qseq_eq (qset_eq (w := .h st.length) (s := st ++ [[]]) rfl)
      (qseq_eq (qfor_eq (ds := toDs rs) (s := st ++ [[]]) (items_call (hp _)) hF) (qret_eq (qcb_eq (qcons_eq (qpure_eq e1) rfl) rfl)))))
  rw [ht] at hq
  exact hq
end Own
end

section
set_option maxHeartbeats 1000000
namespace Own
open PySem L2
theorem qtup_eq {a : Af} {env : Ev} {st s : Sto} {ws : List W} {ds : List D} (h : a env st = some (ws, s)) (hd : dsOf ws = some ds) (hl : ds.length ≤ 1000 := by decide) : iTupD a env st = some (.d (.tup ds), s) := by
  simp only [iTupD, h, hd, hl, Option.bind_some, if_true]
theorem qlst_eq {a : Af} {env : Ev} {st s : Sto} {ws : List W} {ds : List D} (h : a env st = some (ws, s)) (hd : dsOf ws = some ds) (hl : ds.length ≤ 1000 := by decide) : iLst a env st = some (ds, s) := by
  simp only [iLst, h, hd, hl, Option.bind_some, if_true]
theorem items_op {f : Ef} {env : Ev} {st s : Sto} {ds : List D} (h : f env st = some (.d (.tup ds), s)) : iItems f env st = some (ds, s) := by
  simp only [iItems, h, Option.bind_some]
theorem wd_gr (g : Gw) (k : Int) (ds : List D) (s : Sto) : dIx s (.d (grD g k ds)) (.d (.int 0)) = some (.str g.wd) := by
  cases g <;> exact ix0 s _ _
theorem wd_last (g : Gw) (k : Int) (ds : List D) (s : Sto) : dIx s (.d (grD g k ds)) (.d (.int (-1))) = some (.tup ds) := by
  cases g
  · exact ixm2 s _ _
  · exact ixm2 s _ _
  · exact ixm2 s _ _
  · exact ixm3 s _ _ _
theorem wd_switch (g : Gw) : (g.wd == ("switch" : Str)) = false := by
  cases g
  · exact n_all_switch
  · exact n_any_switch
  · exact n_odd_switch
  · exact n_least_switch
theorem wd_not (g : Gw) : (g.wd == ("not" : Str)) = false := by
  cases g
  · exact n_all_not
  · exact n_any_not
  · exact n_odd_not
  · exact n_least_not
theorem sin_ok : ∀ (n : Nat) (r : Ru), dep r ≤ n → good 6 r → ∀ st, m_switches_in n [.d (toD r)] st = some (.d (.tup ((ksI (swb r)).map D.int)), st)
  | 0, r, h, _, _ => by have := dep_pos r; omega
  | n + 1, .sw k, _, hg, st => by
    rw [good] at hg
    obtain ⟨j, rfl⟩ := Int.eq_ofNat_of_zero_le hg.1
    have hj : j < 6 := by omega
    have e : ksI (swb (.sw (j : Int))) = [(j : Int)] := by
      unfold ksI
      rw [swb, Int.toNat_natCast, ks_one ⟨j, hj⟩]; rfl
    rw [e, toD]
    have hq := qrunT_eq (n := 3) (k := 1) (b := b_switches_in (m_switches_in n)) (ws := [.d (.tup [.str "switch", .int (j : Int)])]) (st := st) (s := st) (x := .tup [.int (j : Int)]) rfl
      (qseq_rt (qif_t (qopT_eq (qop_eq rfl rfl (ix0 _ _ _)) rfl (by rw [str_eq, beq_self_eq_true])) (qret_eq (qtup_eq (qcons_eq (qop_eq rfl rfl (ix1 _ _ _ _)) rfl) rfl (Nat.le_of_ble_eq_true rfl)))))
    rw [List.take_length] at hq
    exact hq
  | n + 1, .nt r, hd, hg, st => by
    rw [good] at hg
    rw [dep] at hd
    rw [toD, swb]
    have h := sin_end (n := n) (x := .tup [.str "not", toD r]) (rs := [r]) (st := st) (fun s => ⟨_, ix0 _ _ _, n_not_switch⟩) (fun s => by rw [toDs, toDs]; exact parts_nt) (by simp) (by rw [goods, goods]; exact ⟨hg, trivial⟩) (fun x hx s => by
      rw [List.mem_singleton] at hx; subst hx
      exact sin_ok n x (by omega) hg s)
    rw [swbs, swbs, Nat.or_zero] at h
    exact h
  | n + 1, .gr g k rs, hd, hg, st => by
    rw [good] at hg
    rw [dep] at hd
    rw [toD, swb]
    exact sin_end (n := n) (rs := rs) (st := st) (fun s => ⟨_, wd_gr _ _ _ _, wd_switch g⟩) (fun s => parts_gr) hg.2.2.1 hg.2.2.2 (fun x hx s => sin_ok n x (deps_mem (by omega) x hx) (goods_mem hg.2.2.2 x hx) s)
theorem list_add (s : Sto) {a b : List D} (h : a.length + b.length ≤ 1000000) : dAdd s (.d (.lst a)) (.d (.lst b)) = some (.lst (a ++ b)) := by
  show (if _ then _ else _) = _
  rw [if_pos h]
theorem met_ok : ∀ (n : Nat) (r : Ru), dep r ≤ n → cnt r ≤ 1000 → ∀ st, m__law_met n [.d (toD r)] st = some (.d (.lst ((met r).map D.int)), st)
  | 0, r, h, _, _ => by have := dep_pos r; omega
  | n + 1, .sw k, _, hc, st => by
    rw [toD, met]
    exact qrunK_eq (n := 3) (k := 1) (b := b__law_met (m__law_met n)) (ws := [.d (.tup [.str "switch", .int k])]) rfl
      (qseq_rt (qif_t (qopT_eq (qop_eq rfl rfl (ix0 _ _ _)) rfl (by rw [str_eq, beq_self_eq_true])) (qret_eq (qpure_eq (qlst_eq (qcons_eq (qop_eq rfl rfl (ix1 _ _ _ _)) rfl) rfl (Nat.le_of_ble_eq_true rfl))))))
  | n + 1, .nt r, hd, hc, st => by
    rw [dep] at hd
    rw [cnt] at hc
    rw [toD, met]
    have e := met_ok n r (by omega) (by omega) st
    generalize toD r = y at e ⊢
    exact qrunK_eq (n := 3) (k := 1) (b := b__law_met (m__law_met n)) (ws := [.d (.tup [.str "not", y])]) rfl
      (qseq_eq (qif_f (qopT_eq (qop_eq rfl rfl (ix0 _ _ _)) rfl (by rw [str_eq, n_not_switch])) rfl) (qseq_rt (qif_t (qopT_eq (qop_eq rfl rfl (ix0 _ _ _)) rfl (by rw [str_eq, beq_self_eq_true])) (qret_eq (qcall_eq (qcons_eq (qop_eq rfl rfl (ix1 _ _ _ _)) rfl) e)))))
  | n + 1, .gr g k rs, hd, hc, st => by
    rw [dep] at hd
    rw [cnt] at hc
    rw [toD, met]
    obtain ⟨e', s', hF, o, rfl, rfl⟩ := forI_inv (g := .nm 2) (body := l__law_met_1 (m__law_met n)) (ds := toDs rs) (fun i env s => ∃ o, env = [some (.d (grD g k (toDs rs))), some (.d (.lst ((mets (rs.take i)).map D.int))), o] ∧ s = st)
      (env := [some (.d (grD g k (toDs rs))), some (.d (.lst [])), none]) (st := st) ⟨none, by rw [List.take_zero, mets]; rfl, rfl⟩ (by
      rintro i d env s hdi ⟨o, rfl, rfl⟩
      obtain ⟨r, hr, rfl⟩ := toDs_get hdi
      have hmem : r ∈ rs := List.mem_of_getElem? hr
      have hcm := cnts_mem r hmem
      have e := met_ok n r (deps_mem (by omega) r hmem) (by omega) s
      have h1 := mets_take_len rs i
      have h2 := met_len r
      have ha := list_add s (a := (mets (rs.take i)).map D.int) (b := (met r).map D.int) (by rw [List.length_map, List.length_map]; omega)
      rw [← List.map_append, ← mets_take hr] at ha
      refine ⟨_, _, _, rfl, .inl ?_, some (.d (toD r)), rfl, rfl⟩
      generalize toD r = y at e ⊢
      generalize grD g k (toDs rs) = z
      exact qset_eq (i := 1) (qop_eq rfl (qcall_eq rfl e) ha))
    rw [toDs_map, List.length_map, List.take_length] at hF
    rw [← toDs_map] at hF
    exact qrunK_eq (n := 3) (k := 1) (b := b__law_met (m__law_met n)) (ws := [.d (grD g k (toDs rs))]) rfl
      (qseq_eq (qif_f (qopT_eq (qop_eq rfl rfl (wd_gr _ _ _ _)) rfl (by rw [str_eq, wd_switch])) rfl) (qseq_eq (qif_f (qopT_eq (qop_eq rfl rfl (wd_gr _ _ _ _)) rfl (by rw [str_eq, wd_not])) rfl) (qseq_eq (qset_eq (w := .d (.lst [])) rfl)
        (qseq_eq (qfor_eq (ds := toDs rs) (items_op (qop_eq rfl (by rfl) (wd_last _ _ _ _))) hF) (qret_eq rfl)))))
end Own
end

section
set_option maxHeartbeats 1000000
namespace Own
open PySem L2
theorem shl_nat (s : Sto) {k : Nat} (hk : k ≤ 6) : dShl s (.d (.int 1)) (.d (.int k)) = some (.int (2 ^ k : Nat)) := by
  show (if CPow 1 (k : Int) then some (D.int (1 * 2 ^ (k : Int).toNat)) else none) = _
  rw [if_pos ⟨by omega, by omega, by decide⟩, Int.one_mul, Int.toNat_natCast]
  push_cast; rfl
theorem b62 {M : Int} (h0 : 0 ≤ M) (h : M ≤ 64) : -(2 ^ 62) ≤ M ∧ M < 2 ^ 62 := ⟨Int.le_trans (by decide) h0, Int.lt_of_le_of_lt h (by decide)⟩
theorem rng_ok {env : Ev} {st s : Sto} {e : Ef} {M : Int} (he : e env st = some (.d (.int M), s)) (h0 : 0 ≤ M) (h1 : M ≤ 64) : iRng1D (iCons e iNil) env st = some (rngD 0 M.toNat, s) := by
  have hb := b62 h0 h1
  simp only [iRng1D, iCons, he, iNil, Option.bind_some, Option.map_some, hb, and_self, if_true]
theorem cz : ∀ {Z : List Int}, (∀ z ∈ Z, z = 0 ∨ z = 1) → ((Z.count 1 : Nat) : Int) = Z.sum ∧ ((Z.count 0 : Nat) : Int) = Z.length - Z.sum
  | [], _ => ⟨rfl, rfl⟩
  | z :: Z, h => by
    obtain ⟨h1, h2⟩ := cz (Z := Z) fun x hx => h x (List.mem_cons_of_mem _ hx)
    rcases h z List.mem_cons_self with rfl | rfl
    · rw [List.count_cons, List.count_cons, List.sum_cons, List.length_cons]
      simp only [show ((0 : Int) == 1) = false from rfl, show ((0 : Int) == 0) = true from rfl, Bool.false_eq_true, if_false, if_true]
      omega
    · rw [List.count_cons, List.count_cons, List.sum_cons, List.length_cons]
      simp only [show ((1 : Int) == 1) = true from rfl, show ((1 : Int) == 0) = false from rfl, Bool.false_eq_true, if_false, if_true]
      omega
theorem inD_int (a : Int) : ∀ Z : List Int, inD (.int a) (Z.map D.int) = decide (a ∈ Z)
  | [] => by simp [inD]
  | z :: Z => by
    have ih := inD_int a Z
    unfold inD at *
    rw [List.map_cons, List.any_cons, ih]
    by_cases e : z = a
    · subst e; simp [eqD]
    · have : eqD (.int z) (.int a) = false := by simp [eqD, e]
      rw [this, Bool.false_or]
      simp [show ¬ a = z from fun x => e x.symm]
theorem flat_ints (Z : List Int) : (Z.map D.int).all flatD = true := by
  rw [List.all_map]; exact List.all_eq_true.mpr fun _ _ => rfl
theorem in_ok (s : Sto) (a : Int) (Z : List Int) : dIn s (.d (.int a)) (.d (.lst (Z.map D.int))) = some (.bl (decide (a ∈ Z))) := by
  show (if flatD (.int a) = true ∧ (Z.map D.int).all flatD = true then some (D.bl (inD (.int a) (Z.map D.int))) else none) = _
  rw [if_pos ⟨rfl, flat_ints Z⟩, inD_int]
theorem nin_ok (s : Sto) (a : Int) (Z : List Int) : dNotIn s (.d (.int a)) (.d (.lst (Z.map D.int))) = some (.bl (!decide (a ∈ Z))) := by
  show (if flatD (.int a) = true ∧ (Z.map D.int).all flatD = true then some (D.bl (!inD (.int a) (Z.map D.int))) else none) = _
  rw [if_pos ⟨rfl, flat_ints Z⟩, inD_int]
theorem cnt_ok {o : Ef} {a : Af} {env : Ev} {st s1 s2 : Sto} {Z : List Int} {k : Int} (ho : o env st = some (.d (.lst (Z.map D.int)), s1)) (ha : a env s1 = some ([.d (.int k)], s2)) : iCnt o a env st = some (.d (.int (Z.count k : Nat)), s2) := by
  simp only [iCnt, ho, ha, Option.bind_some, intsOf_map, Option.map_some]
theorem sum_mem0 {Z : List Int} (h : ∀ z ∈ Z, z = 0 ∨ z = 1) : (!decide ((0 : Int) ∈ Z)) = decide (Z.sum = Z.length) := by
  have := (cz h).2
  by_cases h0 : (0 : Int) ∈ Z
  · have := List.count_pos_iff.mpr h0
    rw [decide_eq_true h0, decide_eq_false (by omega)]; rfl
  · have := List.count_eq_zero.mpr h0
    rw [decide_eq_false h0, decide_eq_true (by omega)]; rfl
theorem sum_mem1 {Z : List Int} (h : ∀ z ∈ Z, z = 0 ∨ z = 1) : decide ((1 : Int) ∈ Z) = decide (Z.sum > 0) := by
  have := (cz h).1
  by_cases h0 : (1 : Int) ∈ Z
  · have := List.count_pos_iff.mpr h0
    rw [decide_eq_true h0, decide_eq_true (by omega)]
  · have := List.count_eq_zero.mpr h0
    rw [decide_eq_false h0, decide_eq_false (by omega)]
theorem bits_ok {st : Sto} {row : Int} {n : Nat} (hn : n ≤ 6) : m__law_bits [.d (.int row), .d (.int n)] st = some (.d (.lst (tabL n fun k => onI row k)), st) := by
  have key : lcI (.nm 0) iYes e__law_bits_1 [none, some (.d (.int row))] (rngD 0 n) st = some (tabL n fun k => onI row k, st) := gather fun i hi => by
    refine qop_eq (qop_eq rfl (qop_eq rfl rfl (shl_nat st (by omega))) (?_ : _ = some (D.int (row / ((2 ^ i : Nat) : Int)))) ) rfl ?_
    · have h := pow_small (j := i) (by omega)
      have h4 : ((2 ^ i : Nat) : Int) = (2 : Int) ^ i := by push_cast; rfl
      show (if 0 < ((2 ^ i : Nat) : Int) ∧ ((2 ^ i : Nat) : Int) < 1073741824 then some (D.int (row / ((2 ^ i : Nat) : Int))) else none) = _
      rw [if_pos (by rw [h4]; exact h)]
    · show (if (0 : Int) < 2 then some (D.int (row / ((2 ^ i : Nat) : Int) % 2)) else none) = _
      rw [if_pos (by decide)]
      unfold onI
      rw [Int.toNat_natCast]; push_cast; rfl
  have hrg := rng_ok (e := iV 1) (env := [some (.d (.int row)), some (.d (.int (n : Int)))]) (st := st) (s := st) (M := (n : Int)) rfl (by omega) (by omega)
  rw [Int.toNat_natCast] at hrg
  exact qrunK_eq (n := 2) (k := 2) (b := b__law_bits) rfl (qret_eq (qpure_eq (qlc_eq hrg (by rw [rngD_len]; omega) key)))
theorem at_ok {N : Nat} {row : Int} : ∀ (n : Nat) (r : Ru), dep r ≤ n → good N r → ∀ st, m__law_at n [.d (toD r), .d (.lst (tabL N fun k => onI row k))] st = some (.d (.int (ev row r)), st)
  | 0, r, h, _, _ => by have := dep_pos r; omega
  | n + 1, .sw k, _, hg, st => by
    rw [good] at hg
    obtain ⟨j, rfl⟩ := Int.eq_ofNat_of_zero_le hg.1
    have hj : j < N := by omega
    rw [toD, ev]
    have hx : dIx st (.d (.lst (tabL N fun k => onI row k))) (.d (.int (j : Int))) = some (.int (onI row j)) := by
      show (some (tabL N fun k => onI row k)).bind (fun ds => atI ds (j : Int)) = _
      rw [Option.bind_some, tabL_at hj]
    exact qrunK_eq (n := 3) (k := 2) (b := b__law_at (m__law_at n)) rfl (qseq_rt (qif_t (qopT_eq (qop_eq rfl rfl (ix0 _ _ _)) rfl (by rw [str_eq, beq_self_eq_true])) (qret_eq (qop_eq rfl (qop_eq rfl rfl (ix1 _ _ _ _)) hx))))
  | n + 1, .nt r, hd, hg, st => by
    rw [good] at hg
    rw [dep] at hd
    have e := at_ok (row := row) n r (by omega) hg st
    rw [toD, ev]
    have h01 := ev01 row r
    have ee : (1 : Int) - ev row r = (if ev row r = 0 then 1 else 0) := by
      rcases h01 with h | h <;> rw [h] <;> rfl
    rw [← ee]
    generalize toD r = y at e ⊢
    generalize ev row r = v at e ⊢
    exact qrunK_eq (n := 3) (k := 2) (b := b__law_at (m__law_at n)) rfl (qseq_eq (qif_f (qopT_eq (qop_eq rfl rfl (ix0 _ _ _)) rfl (by rw [str_eq, n_not_switch])) rfl)
      (qseq_rt (qif_t (qopT_eq (qop_eq rfl rfl (ix0 _ _ _)) rfl (by rw [str_eq, beq_self_eq_true])) (qret_eq (qop_eq rfl (qcall_eq (qcons_eq (qop_eq rfl rfl (ix1 _ _ _ _)) rfl) e) rfl)))))
  | n + 1, .gr g k rs, hd, hg, st => by
    rw [good] at hg
    rw [dep] at hd
    have key : lcI (.nm 0) iYes (e__law_at_2 (m__law_at n)) [none, some (.d (.lst (tabL N fun k => onI row k)))] (toDs rs) st = some ((rs.map (ev row)).map D.int, st) := by
      rw [List.map_map]
      exact lc_ru _ fun r hr => by
        have e := at_ok (row := row) n r (deps_mem (by omega) r hr) (goods_mem hg.2.2.2 r hr) st
        exact qcall_eq rfl e
    have hz : (toDs rs).length ≤ 1000000 := by rw [toDs_map, List.length_map]; omega
    have h01 : ∀ z ∈ rs.map (ev row), z = 0 ∨ z = 1 := fun z hz => by
      obtain ⟨r, _, rfl⟩ := List.mem_map.mp hz
      exact ev01 row r
    have hs : (rs.map (ev row)).sum = evs row rs := (evs_sum row rs).symm
    have hln : (rs.map (ev row)).length = rs.length := List.length_map ..
    have c1 := (cz h01).1
    have m0 := sum_mem0 h01
    have m1 := sum_mem1 h01
    rw [hs] at c1 m0 m1
    rw [hln] at m0
    rw [toD, ev]
    have wl := wd_last g k (toDs rs)
    have wg := wd_gr g k (toDs rs)
    generalize rs.map (ev row) = Z at *
    generalize evs row rs = S at *
    generalize (tabL N fun k => onI row k) = B at key
    generalize toDs rs = TD at *
    have fin : ∀ (w : W) (tail : Sf), (iSeqS (iIfS (iOpT dEq (iOp dIx (iV 0) (iC (.int 0))) (iC (.str "all"))) (iRet (iCB dInt (iCons (iOp dNotIn (iC (.int 0)) (iV 2)) iNil))) iSkip) (r__law_at_1 (m__law_at n))) [some (.d (grD g k TD)), some (.d (.lst B)), some (.d (.lst (Z.map D.int)))] st = some (.rt w st) → m__law_at (n + 1) [.d (grD g k TD), .d (.lst B)] st = some (w, st) := fun w _ h =>
      qrunK_eq (n := 3) (k := 2) (b := b__law_at (m__law_at n)) rfl (qseq_eq (qif_f (qopT_eq (qop_eq rfl rfl (wg _)) rfl (by rw [str_eq, wd_switch])) rfl)
        (qseq_eq (qif_f (qopT_eq (qop_eq rfl rfl (wg _)) rfl (by rw [str_eq, wd_not])) rfl) (qseq_eq (qset_eq (qpure_eq (qlc_eq (items_op (qop_eq rfl rfl (wl _))) hz key))) h)))
    refine fin _ iSkip ?_
    cases g with
    | all =>
      refine qseq_rt (qif_t (qopT_eq (qop_eq rfl rfl (wg _)) rfl (by rw [str_eq]; exact congrArg (fun b => some (D.bl b)) (beq_self_eq_true _))) (qret_eq (qcb_eq (qcons_eq (qop_eq rfl rfl (nin_ok _ _ _)) rfl) ?_)))
      rw [m0]
      show some (D.int (if decide (S = (rs.length : Int)) = true then 1 else 0)) = some (D.int (if S = (rs.length : Int) then 1 else 0))
      by_cases h : S = (rs.length : Int) <;> simp [h]
    | any =>
      refine qseq_eq (qif_f (qopT_eq (qop_eq rfl rfl (wg _)) rfl (by rw [str_eq]; exact congrArg (fun b => some (D.bl b)) n_any_all)) rfl) (qseq_rt (qif_t (qopT_eq (qop_eq rfl rfl (wg _)) rfl (by rw [str_eq]; exact congrArg (fun b => some (D.bl b)) (beq_self_eq_true _))) (qret_eq (qcb_eq (qcons_eq (qop_eq rfl rfl (in_ok _ _ _)) rfl) ?_))))
      rw [m1]
      show some (D.int (if decide (S > 0) = true then 1 else 0)) = some (D.int (if S > 0 then 1 else 0))
      by_cases h : S > 0 <;> simp [h]
    | odd =>
      refine qseq_eq (qif_f (qopT_eq (qop_eq rfl rfl (wg _)) rfl (by rw [str_eq]; exact congrArg (fun b => some (D.bl b)) n_odd_all)) rfl) (qseq_eq (qif_f (qopT_eq (qop_eq rfl rfl (wg _)) rfl (by rw [str_eq]; exact congrArg (fun b => some (D.bl b)) n_odd_any)) rfl) (qseq_rt (qif_t (qopT_eq (qop_eq rfl rfl (wg _)) rfl (by rw [str_eq]; exact congrArg (fun b => some (D.bl b)) (beq_self_eq_true _))) (qret_eq (qop_eq (cnt_ok (Z := Z) rfl rfl) rfl ?_)))))
      rw [c1]
      show (if (0 : Int) < 2 then some (D.int (S % 2)) else none) = _
      rw [if_pos (by decide)]; rfl
    | least =>
      refine qseq_eq (qif_f (qopT_eq (qop_eq rfl rfl (wg _)) rfl (by rw [str_eq]; exact congrArg (fun b => some (D.bl b)) n_least_all)) rfl) (qseq_eq (qif_f (qopT_eq (qop_eq rfl rfl (wg _)) rfl (by rw [str_eq]; exact congrArg (fun b => some (D.bl b)) n_least_any)) rfl) (qseq_eq (qif_f (qopT_eq (qop_eq rfl rfl (wg _)) rfl (by rw [str_eq]; exact congrArg (fun b => some (D.bl b)) n_least_odd)) rfl) (qret_eq (qcb_eq (qcons_eq (qop_eq (cnt_ok (Z := Z) rfl rfl) (qop_eq rfl rfl (ix1 _ _ _ _)) rfl) rfl) ?_))))
      rw [c1]
      show some (D.int (if decide (S ≥ k) = true then 1 else 0)) = some (D.int (if S ≥ k then 1 else 0))
      by_cases h : S ≥ k <;> simp [h]
end Own
end

section
set_option maxHeartbeats 1000000
namespace Own
open PySem L2

def Stq (n l : Nat) (c : Int) (st st' : Sto) : Prop := st'.length = st.length ∧ HandAt st' n ∧ st'[l]? = some [.int c] ∧ ∀ m, m ≠ n → m ≠ l → st'[m]? = st[m]?
theorem Stq.trans {n l : Nat} {c c' : Int} {a b d : Sto} (h : Stq n l c a b) (h' : Stq n l c' b d) : Stq n l c' a d := ⟨h'.1.trans h.1, h'.2.1, h'.2.2.1, fun m h1 h2 => (h'.2.2.2 m h1 h2).trans (h.2.2.2 m h1 h2)⟩
theorem _root_.L2.Stp.stq {n l : Nat} {c : Int} {a b : Sto} (h : Stp n a b) (hl : a[l]? = some [.int c]) (hn : n ≠ l) : Stq n l c a b := ⟨h.len, h.hand, by rw [h.get (Ne.symm hn)]; exact hl, fun m h1 _ => h.get h1⟩
theorem ext_app {a s : Sto} {u : List D} (hl : s.length = a.length + 1) (h : s[a.length]? = some u) : s = s.take a.length ++ [u] := by
  have h1 : s.drop a.length = [u] := by
    rw [List.drop_eq_getElem_cons (by omega)]
    have e : s[a.length]'(by omega) = u := by
      rw [List.getElem?_eq_getElem (by omega)] at h
      exact Option.some.inj h
    rw [e, List.drop_eq_nil_of_le (by omega)]
  rw [← h1, List.take_append_drop]
def RuleAt (f : Nat) : Prop := ∀ {st : Sto} {n l : Nat} {deep most c : Int}, n ≠ l → HandAt st n → st[l]? = some [.int c] → 1 ≤ c → 1 ≤ deep → deep ≤ f → 0 ≤ most → most ≤ 6 →
  ∃ r st' c', good most r ∧ dep r ≤ deep.toNat ∧ 0 ≤ c' ∧ cnt r = c - c' ∧ Stq n l c' st st' ∧ m__law_rule f [.h n, .h l, .d (.int deep), .d (.int most)] st = some (.d (toD r), st')
theorem rule_loop {f : Nat} (ih : RuleAt f) {n l : Nat} {deep most c0 : Int} {s2 : Sto} {e4 : Option W} (hnl : n ≠ l) (hd0 : 2 ≤ deep) (hd : deep - 1 ≤ f) (m0 : 0 ≤ most) (m1 : most ≤ 6) (hh : HandAt s2 n) (hl : s2[l]? = some [.int c0]) (hc0 : 0 ≤ c0) {cn : Nat} {o6 o7 : Option W} (hc : cn ≤ 100) {b0 : Sto} (q0 : Stq n l c0 s2 b0) :
    ∃ env' s', forI (.nm 6) (l__law_rule_1 (m__law_rule f)) (rngD 0 cn) [some (.h n), some (.h l), some (.d (.int deep)), some (.d (.int most)), e4, some (.h s2.length), o6, o7] (b0 ++ [[]]) = some (.nx env' s') ∧
      ∃ b rs c o6', env' = [some (.h n), some (.h l), some (.d (.int deep)), some (.d (.int most)), e4, some (.h s2.length), o6', o7] ∧ s' = b ++ [toDs rs] ∧ Stq n l c s2 b ∧ goods most rs ∧ deps rs ≤ (deep - 1).toNat ∧ rs.length ≤ cn ∧ 0 ≤ c ∧ cnts rs = c0 - c := by
  have hn2 : n < s2.length := hh.lt
  have hl2 : l < s2.length := (List.getElem?_eq_some_iff.mp hl).1
  have key := forI_inv (g := .nm 6) (body := l__law_rule_1 (m__law_rule f)) (ds := rngD 0 cn)
    (fun i env s => ∃ b rs c o6', env = [some (.h n), some (.h l), some (.d (.int deep)), some (.d (.int most)), e4, some (.h s2.length), o6', o7] ∧ s = b ++ [toDs rs] ∧ Stq n l c s2 b ∧ goods most rs ∧ deps rs ≤ (deep - 1).toNat ∧ rs.length ≤ i ∧ 0 ≤ c ∧ cnts rs = c0 - c)
    (env := [some (.h n), some (.h l), some (.d (.int deep)), some (.d (.int most)), e4, some (.h s2.length), o6, o7]) (st := b0 ++ [[]]) ⟨b0, [], c0, o6, rfl, by rw [toDs], q0, by rw [goods]; trivial, by rw [deps]; omega, Nat.le_refl _, hc0, by rw [cnts]; omega⟩ (fun i d env s hdi ⟨b, rs, c, o6', e, es, q, hg, hdp, hx, hcc, hcn⟩ => by
      subst e es
      have hi : i < cn := (rngD_at hdi).2
      have hlb : b.length = s2.length := q.1
      have hcl : (b ++ [toDs rs])[l]? = some [.int c] := by rw [List.getElem?_append_left (by omega)]; exact q.2.2.1
      by_cases h0 : 0 < c
      · obtain ⟨r, s3, c3, gr, dr, c30, c31, q3, e3⟩ := ih hnl (q.2.1.app [toDs rs]) hcl (by omega) (deep := deep - 1) (by omega) hd m0 m1
        have hlen3 : s3.length = b.length + 1 := by rw [q3.1, List.length_append]; rfl
        have g3 : s3[b.length]? = some (toDs rs) := by
          rw [q3.2.2.2 b.length (by omega) (by omega), List.getElem?_append_right (Nat.le_refl _)]; simp
        have es3 := ext_app hlen3 g3
        have q3' : Stq n l c3 b (s3.take b.length) := by
          refine ⟨by rw [List.length_take]; omega, ?_, ?_, fun m h1 h2 => ?_⟩
          · obtain ⟨x, y, z, x0, e⟩ := q3.2.1
            exact ⟨x, y, z, x0, by rw [List.getElem?_take_of_lt (by omega)]; exact e⟩
          · rw [List.getElem?_take_of_lt (by omega)]; exact q3.2.2.1
          · by_cases hm : m < b.length
            · rw [List.getElem?_take_of_lt hm, q3.2.2.2 m h1 h2, List.getElem?_append_left hm]
            · rw [List.getElem?_eq_none (by rw [List.length_take]; omega), List.getElem?_eq_none (by omega)]
        have etd : toDs (rs ++ [r]) = toDs rs ++ [toD r] := by rw [toDs_map, toDs_map, List.map_append]; rfl
        refine ⟨_, [some (.h n), some (.h l), some (.d (.int deep)), some (.d (.int most)), e4, some (.h s2.length), some (.d d), o7], s3.take b.length ++ [toDs (rs ++ [r])], rfl, .inl ?_, s3.take b.length, rs ++ [r], c3, _, rfl, rfl, q.trans q3', goods_app hg gr, deps_app hdp dr, ?_, c30, ?_⟩
        · have hset : s3.set s2.length (toDs rs ++ [toD r]) = s3.take b.length ++ [toDs rs ++ [toD r]] := by
            conv => lhs; rw [es3]
            rw [← hlb, List.set_append_right _ _ (by rw [List.length_take]; omega), List.length_take, Nat.min_eq_left (by omega), Nat.sub_self]
            rfl
          have g3' : s3[s2.length]? = some (toDs rs) := by rw [← hlb]; exact g3
          have hxl : (toDs rs).length < 1000000 := by rw [toDs_map, List.length_map]; omega
          rw [etd]
          generalize toDs rs = TD at hcl e3 g3' hxl hset ⊢
          generalize toD r = td at e3 hset ⊢
          simp only [l__law_rule_1, iV, iC, iOp, iOpT, iNil, iCons, iCall, iSkip, iDrop, iIfS, iMeth, blOf, seqD, dIx, dSub, dGt, mAppend, Option.bind_some, Option.map_some, List.getD_cons_zero, List.getD_cons_succ, List.set_cons_zero, List.set_cons_succ, if_true, atI0, decide_true, hcl, h0, e3, g3', hxl, hset]
        · rw [List.length_append]; simp; omega
        · rw [cnts_app]; omega
      · refine ⟨_, [some (.h n), some (.h l), some (.d (.int deep)), some (.d (.int most)), e4, some (.h s2.length), some (.d d), o7], b ++ [toDs rs], rfl, .inl ?_, b, rs, c, _, rfl, rfl, q, hg, hdp, by omega, hcc, hcn⟩
        generalize toDs rs = TD at hcl ⊢
        simp only [l__law_rule_1, iV, iC, iOp, iOpT, iNil, iCons, iCall, iSkip, iDrop, iIfS, iMeth, blOf, seqD, dIx, dSub, dGt, mAppend, Option.bind_some, Option.map_some, List.getD_cons_zero, List.getD_cons_succ, List.set_cons_zero, List.set_cons_succ, if_false, Bool.false_eq_true, atI0, decide_false, hcl, h0])
  rw [rngD_len] at key
  exact key

set_option maxHeartbeats 4000000 in
theorem rule_tail {f : Nat} {n l : Nat} {deep most way r4 m cn c : Int} {st b3 b4 b5 : Sto} {rs : List Ru} {g : Gw} {o6 : Option W} (hd0 : 2 ≤ deep)
    (e3 : m__law_take [.h n, .d (.int 4)] (st ++ [[]]) = some (.d (.int r4), b3 ++ [[]])) (hm : atI [D.int 4, .int 4, .int 4, .int 7] r4 = some (.int m)) (e4 : m__law_take [.h n, .d (.int m)] (b3 ++ [[]]) = some (.d (.int cn), b4 ++ [[]])) (hcn : -(2 ^ 62) ≤ cn ∧ cn < 2 ^ 62)
    (e5 : forI (.nm 6) (l__law_rule_1 (m__law_rule f)) (rngD 0 cn.toNat) [some (.h n), some (.h l), some (.d (.int deep)), some (.d (.int most)), some (.d (.int way)), some (.h st.length), none, none] (b4 ++ [[]]) = some (.nx [some (.h n), some (.h l), some (.d (.int deep)), some (.d (.int most)), some (.d (.int way)), some (.h st.length), o6, none] (b5 ++ [toDs rs])))
    (hw : atI [D.str "all", .str "any", .str "odd", .str "least", .str "all", .str "any"] (way - 2) = some (.str g.wd)) (q5 : Stq n l c st b5) (hnl : n ≠ l) (hg : goods most rs) (hdp : deps rs ≤ (deep - 1).toNat) (hrl : rs.length ≤ 6) :
    ∃ r b8, good most r ∧ dep r ≤ deep.toNat ∧ cnt r = 1 + cnts rs ∧ Stq n l c b5 b8 ∧ r__law_rule_2 (m__law_rule f) [some (.h n), some (.h l), some (.d (.int deep)), some (.d (.int most)), some (.d (.int way)), none, none, none] st = some (.rt (.d (toD r)) (b8 ++ [toDs rs])) := by
  have hxl : (toDs rs).length = rs.length := by rw [toDs_map, List.length_map]
  have g5 : ∀ b : Sto, b.length = st.length → (b ++ [toDs rs])[st.length]? = some (toDs rs) := fun b hb => by rw [← hb, List.getElem?_append_right (Nat.le_refl _)]; simp
  have hgd : ∀ k, 0 ≤ k → k ≤ 9 → good most (.gr g k rs) := fun k k0 k1 => by rw [good]; exact ⟨k0, k1, hrl, hg⟩
  have hdd : ∀ k, dep (.gr g k rs) ≤ deep.toNat := fun k => by rw [dep]; omega
  have hcc : ∀ k, cnt (.gr g k rs) = 1 + cnts rs := fun k => by rw [cnt]
  have g55 := g5 b5 q5.1
  cases g with
  | all =>
    refine ⟨.gr .all 0 rs, b5, hgd 0 (by decide) (by decide), hdd 0, hcc 0, ⟨rfl, q5.2.1, q5.2.2.1, fun _ _ _ => rfl⟩, ?_⟩
    rw [toD]
    generalize toDs rs = TD at e5 g55 ⊢
    unfold Gw.wd at hw
    simp only [grD, r__law_rule_2, r__law_rule_1, iV, iC, iOp, iOpT, iNil, iCons, iCB, iCall, iTupD, iLst, iPure, iNew, iSkip, iSeqS, iSet, iRet, iIfS, iFor, iRng1D, setT, dsOf, blOf, seqD, lsD, dIx, dAdd, dSub, dFdiv, dEq, kinOf, eqK, eqD, dLen, dTup, Option.bind_some, Option.map_some, List.getD_cons_zero, List.getD_cons_succ, List.set_cons_zero, List.set_cons_succ, List.length_cons, List.length_nil, Nat.reduceAdd, if_true, if_false, Bool.false_eq_true, Nat.zero_add, and_self, n_all_least, e3, hm, e4, hcn, e5, hw, g55, Nat.reduceLeDiff]
  | any =>
    refine ⟨.gr .any 0 rs, b5, hgd 0 (by decide) (by decide), hdd 0, hcc 0, ⟨rfl, q5.2.1, q5.2.2.1, fun _ _ _ => rfl⟩, ?_⟩
    rw [toD]
    generalize toDs rs = TD at e5 g55 ⊢
    unfold Gw.wd at hw
    simp only [grD, r__law_rule_2, r__law_rule_1, iV, iC, iOp, iOpT, iNil, iCons, iCB, iCall, iTupD, iLst, iPure, iNew, iSkip, iSeqS, iSet, iRet, iIfS, iFor, iRng1D, setT, dsOf, blOf, seqD, lsD, dIx, dAdd, dSub, dFdiv, dEq, kinOf, eqK, eqD, dLen, dTup, Option.bind_some, Option.map_some, List.getD_cons_zero, List.getD_cons_succ, List.set_cons_zero, List.set_cons_succ, List.length_cons, List.length_nil, Nat.reduceAdd, if_true, if_false, Bool.false_eq_true, Nat.zero_add, and_self, n_any_least, e3, hm, e4, hcn, e5, hw, g55, Nat.reduceLeDiff]
  | odd =>
    refine ⟨.gr .odd 0 rs, b5, hgd 0 (by decide) (by decide), hdd 0, hcc 0, ⟨rfl, q5.2.1, q5.2.2.1, fun _ _ _ => rfl⟩, ?_⟩
    rw [toD]
    generalize toDs rs = TD at e5 g55 ⊢
    unfold Gw.wd at hw
    simp only [grD, r__law_rule_2, r__law_rule_1, iV, iC, iOp, iOpT, iNil, iCons, iCB, iCall, iTupD, iLst, iPure, iNew, iSkip, iSeqS, iSet, iRet, iIfS, iFor, iRng1D, setT, dsOf, blOf, seqD, lsD, dIx, dAdd, dSub, dFdiv, dEq, kinOf, eqK, eqD, dLen, dTup, Option.bind_some, Option.map_some, List.getD_cons_zero, List.getD_cons_succ, List.set_cons_zero, List.set_cons_succ, List.length_cons, List.length_nil, Nat.reduceAdd, if_true, if_false, Bool.false_eq_true, Nat.zero_add, and_self, n_odd_least, e3, hm, e4, hcn, e5, hw, g55, Nat.reduceLeDiff]
  | least =>
    obtain ⟨r6, s6, d0, d1, t6, e6⟩ := take_ok (q5.2.1.app [toDs rs]) (m := 4) (by decide) (by decide)
    obtain ⟨b6, rfl, u6⟩ := t6.unapp q5.2.1.lt
    have hk : ∃ k : Int, atI [D.int (((toDs rs).length : Int) + 2), .int 10] (r6 / 3) = some (.int k) ∧ 0 < k ∧ k ≤ 10 := by
      have : r6 / 3 = 0 ∨ r6 / 3 = 1 := by omega
      rcases this with h | h
      · rw [h]; exact ⟨_, rfl, by omega, by omega⟩
      · rw [h]; exact ⟨_, rfl, by decide, by decide⟩
    obtain ⟨k, hk, k0, k1⟩ := hk
    obtain ⟨r8, s8, g0, g1, t8, e8⟩ := take_ok (u6.hand.app [toDs rs]) (m := k) k0 (by omega)
    obtain ⟨b8, rfl, u8⟩ := t8.unapp u6.hand.lt
    have q6 := u6.stq q5.2.2.1 hnl
    have q8 := q6.trans (u8.stq q6.2.2.1 hnl)
    refine ⟨.gr .least r8 rs, b8, hgd r8 g0 (by omega), hdd r8, hcc r8, q8, ?_⟩
    have h3 : (0 : Int) < 3 ∧ (3 : Int) < 1073741824 := by decide
    have g58 := g5 b8 (by rw [q8.1, q5.1])
    rw [toD]
    generalize toDs rs = TD at e5 g55 g58 e6 e8 hk ⊢
    unfold Gw.wd at hw
    simp only [grD, r__law_rule_2, r__law_rule_1, iV, iC, iOp, iOpT, iNil, iCons, iCB, iCall, iTupD, iLst, iPure, iNew, iSkip, iSeqS, iSet, iRet, iIfS, iFor, iRng1D, setT, dsOf, blOf, seqD, lsD, dIx, dAdd, dSub, dFdiv, dEq, kinOf, eqK, eqD, dLen, dTup, Option.bind_some, Option.map_some, List.getD_cons_zero, List.getD_cons_succ, List.set_cons_zero, List.set_cons_succ, List.length_cons, List.length_nil, Nat.reduceAdd, if_true, Nat.zero_add, and_self, e3, hm, e4, hcn, e5, hw, g55, e6, h3, hk, e8, g58, beq_self_eq_true, Nat.reduceLeDiff]
set_option maxHeartbeats 4000000 in
theorem rule_step (f : Nat) (ih : RuleAt f) : RuleAt (f + 1) := by
  intro st n l deep most c hnl hh hc hc1 hd1 hd m0 m1
  have hll : l < st.length := (List.getElem?_eq_some_iff.mp hc).1
  have h1 : HandAt (st.set l [.int (c - 1)]) n := by
    obtain ⟨x, y, z, x0, e⟩ := hh
    exact ⟨x, y, z, x0, by rw [List.getElem?_set_ne (Ne.symm hnl)]; exact e⟩
  have hl1 : (st.set l [.int (c - 1)])[l]? = some [.int (c - 1)] := get_set hll
  have q1 : Stq n l (c - 1) st (st.set l [.int (c - 1)]) := ⟨List.length_set, h1, hl1, fun m _ h2 => List.getElem?_set_ne (Ne.symm h2)⟩
  obtain ⟨way, s2, w0, w1, t2, e2⟩ := take_ok h1 (m := 8) (by decide) (by decide)
  have q2 := q1.trans (t2.stq hl1 hnl)
  have hl2 : s2[l]? = some [.int (c - 1)] := q2.2.2.1
  have take2 : s2.take st.length = s2 := by rw [← q2.1, List.take_length]
  -- a leaf
  have leaf : (decide (deep < 2) = true ∨ (decide (deep < 2) = false ∧ decide (c - 1 < 1) = true) ∨ (decide (deep < 2) = false ∧ decide (c - 1 < 1) = false ∧ (way == 0) = true)) →
      ∃ r st' c', good most r ∧ dep r ≤ deep.toNat ∧ 0 ≤ c' ∧ cnt r = c - c' ∧ Stq n l c' st st' ∧ m__law_rule (f + 1) [.h n, .h l, .d (.int deep), .d (.int most)] st = some (.d (toD r), st') := by
    intro hcond
    cases hm0 : (most == 0) with
    | true =>
      obtain ⟨r, s3, r0, r1, t3, e3⟩ := take_ok t2.hand (m := 10) (by decide) (by decide)
      obtain ⟨d, s4, hd4, t4, e4⟩ := pick_ok (ds := [.tup [.str "all", .tup []], .tup [.str "any", .tup []], .tup [.str "odd", .tup []], .tup [.str "least", .int r, .tup []]]) t3.hand (by simp) (by simp)
      have q4 := (q2.trans (t3.stq q2.2.2.1 hnl)).trans (t4.stq (t3.stq q2.2.2.1 hnl).2.2.1 hnl)
      have take4 : s4.take st.length = s4 := by rw [← q4.1, List.take_length]
      have hr : ∃ g : Gw, ∃ k : Int, 0 ≤ k ∧ k ≤ 9 ∧ d = toD (.gr g k []) := by
        simp only [List.mem_cons, List.not_mem_nil, or_false] at hd4
        rcases hd4 with rfl | rfl | rfl | rfl
        · exact ⟨.all, 0, by decide, by decide, by rw [toD, toDs]; rfl⟩
        · exact ⟨.any, 0, by decide, by decide, by rw [toD, toDs]; rfl⟩
        · exact ⟨.odd, 0, by decide, by decide, by rw [toD, toDs]; rfl⟩
        · exact ⟨.least, r, r0, by omega, by rw [toD, toDs]; rfl⟩
      obtain ⟨g, k, k0, k1, rfl⟩ := hr
      refine ⟨.gr g k [], s4, c - 1, by rw [good, goods]; exact ⟨k0, k1, by simp, trivial⟩, by rw [dep, deps]; omega, by omega, by rw [cnt, cnts]; omega, q4, ?_⟩
      generalize toD (.gr g k []) = d at e4 ⊢
      show runT 8 4 (b__law_rule (m__law_rule f)) _ _ = _
      rcases hcond with a1 | ⟨a1, a2⟩ | ⟨a1, a2, a3⟩
      · simp only [b__law_rule, iV, iC, iOp, iOpT, iOrT, iNil, iCons, iCall, iTupD, iLst, iPure, iSkip, iSeqS, iSet, setIx, iSetIx, iRet, iIfS, runT, finT, setT, dsOf, blOf, seqD, dIx, dSub, dLt, dEq, kinOf, eqK, eqD, Option.bind_some, Option.map_some, List.getD_cons_zero, List.getD_cons_succ, List.set_cons_zero, List.set_cons_succ, List.map_cons, List.map_nil, List.length_cons, List.length_nil, List.replicate_succ, List.replicate_zero, List.cons_append, List.nil_append, Nat.reduceAdd, Nat.reduceSub, if_true, atI0, ixN0, Nat.zero_add, hc, e2, hl2, hm0, a1, e3, e4, take4, Nat.reduceLeDiff]
      · simp only [b__law_rule, iV, iC, iOp, iOpT, iOrT, iNil, iCons, iCall, iTupD, iLst, iPure, iSkip, iSeqS, iSet, setIx, iSetIx, iRet, iIfS, runT, finT, setT, dsOf, blOf, seqD, dIx, dSub, dLt, dEq, kinOf, eqK, eqD, Option.bind_some, Option.map_some, List.getD_cons_zero, List.getD_cons_succ, List.set_cons_zero, List.set_cons_succ, List.map_cons, List.map_nil, List.length_cons, List.length_nil, List.replicate_succ, List.replicate_zero, List.cons_append, List.nil_append, Nat.reduceAdd, Nat.reduceSub, if_true, if_false, Bool.false_eq_true, atI0, ixN0, Nat.zero_add, hc, e2, hl2, hm0, a1, a2, e3, e4, take4, Nat.reduceLeDiff]
      · simp only [b__law_rule, iV, iC, iOp, iOpT, iOrT, iNil, iCons, iCall, iTupD, iLst, iPure, iSkip, iSeqS, iSet, setIx, iSetIx, iRet, iIfS, runT, finT, setT, dsOf, blOf, seqD, dIx, dSub, dLt, dEq, kinOf, eqK, eqD, Option.bind_some, Option.map_some, List.getD_cons_zero, List.getD_cons_succ, List.set_cons_zero, List.set_cons_succ, List.map_cons, List.map_nil, List.length_cons, List.length_nil, List.replicate_succ, List.replicate_zero, List.cons_append, List.nil_append, Nat.reduceAdd, Nat.reduceSub, if_true, if_false, Bool.false_eq_true, atI0, ixN0, Nat.zero_add, hc, e2, hl2, hm0, a1, a2, a3, e3, e4, take4, Nat.reduceLeDiff]
    | false =>
      have m0 : 0 < most := by
        have : most ≠ 0 := by intro z; rw [z] at hm0; cases hm0
        omega
      cases h3 : (way == 3) with
      | true =>
        obtain ⟨r, s3, r0, r1, t3, e3⟩ := take_ok t2.hand (m := 10) (by decide) (by decide)
        obtain ⟨d, s4, hd4, t4, e4⟩ := pick_ok (ds := [.tup [.str "all", .tup []], .tup [.str "any", .tup []], .tup [.str "odd", .tup []], .tup [.str "least", .int r, .tup []]]) t3.hand (by simp) (by simp)
        have q4 := (q2.trans (t3.stq q2.2.2.1 hnl)).trans (t4.stq (t3.stq q2.2.2.1 hnl).2.2.1 hnl)
        have take4 : s4.take st.length = s4 := by rw [← q4.1, List.take_length]
        have hr : ∃ g : Gw, ∃ k : Int, 0 ≤ k ∧ k ≤ 9 ∧ d = toD (.gr g k []) := by
          simp only [List.mem_cons, List.not_mem_nil, or_false] at hd4
          rcases hd4 with rfl | rfl | rfl | rfl
          · exact ⟨.all, 0, by decide, by decide, by rw [toD, toDs]; rfl⟩
          · exact ⟨.any, 0, by decide, by decide, by rw [toD, toDs]; rfl⟩
          · exact ⟨.odd, 0, by decide, by decide, by rw [toD, toDs]; rfl⟩
          · exact ⟨.least, r, r0, by omega, by rw [toD, toDs]; rfl⟩
        obtain ⟨g, k, k0, k1, rfl⟩ := hr
        refine ⟨.gr g k [], s4, c - 1, by rw [good, goods]; exact ⟨k0, k1, by simp, trivial⟩, by rw [dep, deps]; omega, by omega, by rw [cnt, cnts]; omega, q4, ?_⟩
        generalize toD (.gr g k []) = d at e4 ⊢
        show runT 8 4 (b__law_rule (m__law_rule f)) _ _ = _
        rcases hcond with a1 | ⟨a1, a2⟩ | ⟨a1, a2, a3⟩
        · simp only [b__law_rule, iV, iC, iOp, iOpT, iOrT, iNil, iCons, iCall, iTupD, iLst, iPure, iSkip, iSeqS, iSet, setIx, iSetIx, iRet, iIfS, runT, finT, setT, dsOf, blOf, seqD, dIx, dSub, dLt, dEq, kinOf, eqK, eqD, Option.bind_some, Option.map_some, List.getD_cons_zero, List.getD_cons_succ, List.set_cons_zero, List.set_cons_succ, List.map_cons, List.map_nil, List.length_cons, List.length_nil, List.replicate_succ, List.replicate_zero, List.cons_append, List.nil_append, Nat.reduceAdd, Nat.reduceSub, if_true, if_false, Bool.false_eq_true, atI0, ixN0, Nat.zero_add, hc, e2, hl2, h3, hm0, a1, e3, e4, take4, Nat.reduceLeDiff]
        · simp only [b__law_rule, iV, iC, iOp, iOpT, iOrT, iNil, iCons, iCall, iTupD, iLst, iPure, iSkip, iSeqS, iSet, setIx, iSetIx, iRet, iIfS, runT, finT, setT, dsOf, blOf, seqD, dIx, dSub, dLt, dEq, kinOf, eqK, eqD, Option.bind_some, Option.map_some, List.getD_cons_zero, List.getD_cons_succ, List.set_cons_zero, List.set_cons_succ, List.map_cons, List.map_nil, List.length_cons, List.length_nil, List.replicate_succ, List.replicate_zero, List.cons_append, List.nil_append, Nat.reduceAdd, Nat.reduceSub, if_true, if_false, Bool.false_eq_true, atI0, ixN0, Nat.zero_add, hc, e2, hl2, h3, hm0, a1, a2, e3, e4, take4, Nat.reduceLeDiff]
        · simp only [b__law_rule, iV, iC, iOp, iOpT, iOrT, iNil, iCons, iCall, iTupD, iLst, iPure, iSkip, iSeqS, iSet, setIx, iSetIx, iRet, iIfS, runT, finT, setT, dsOf, blOf, seqD, dIx, dSub, dLt, dEq, kinOf, eqK, eqD, Option.bind_some, Option.map_some, List.getD_cons_zero, List.getD_cons_succ, List.set_cons_zero, List.set_cons_succ, List.map_cons, List.map_nil, List.length_cons, List.length_nil, List.replicate_succ, List.replicate_zero, List.cons_append, List.nil_append, Nat.reduceAdd, Nat.reduceSub, if_true, if_false, Bool.false_eq_true, atI0, ixN0, Nat.zero_add, hc, e2, hl2, h3, hm0, a1, a2, a3, e3, e4, take4, Nat.reduceLeDiff]
      | false =>
        obtain ⟨r, s3, r0, r1, t3, e3⟩ := take_ok t2.hand (m := most) m0 (by omega)
        have q3 := q2.trans (t3.stq q2.2.2.1 hnl)
        have take3 : s3.take st.length = s3 := by rw [← q3.1, List.take_length]
        refine ⟨.sw r, s3, c - 1, by rw [good]; exact ⟨r0, r1⟩, by rw [dep]; omega, by omega, by rw [cnt]; omega, q3, ?_⟩
        rw [toD]
        show runT 8 4 (b__law_rule (m__law_rule f)) _ _ = _
        rcases hcond with a1 | ⟨a1, a2⟩ | ⟨a1, a2, a3⟩
        · simp only [b__law_rule, iV, iC, iOp, iOpT, iOrT, iNil, iCons, iCall, iTupD, iLst, iPure, iSkip, iSeqS, iSet, setIx, iSetIx, iRet, iIfS, runT, finT, setT, dsOf, blOf, seqD, dIx, dSub, dLt, dEq, kinOf, eqK, eqD, Option.bind_some, Option.map_some, List.getD_cons_zero, List.getD_cons_succ, List.set_cons_zero, List.set_cons_succ, List.map_cons, List.map_nil, List.length_cons, List.length_nil, List.replicate_succ, List.replicate_zero, List.cons_append, List.nil_append, Nat.reduceAdd, Nat.reduceSub, if_true, if_false, Bool.false_eq_true, atI0, ixN0, Nat.zero_add, hc, e2, hl2, h3, hm0, a1, e3, take3, Nat.reduceLeDiff]
        · simp only [b__law_rule, iV, iC, iOp, iOpT, iOrT, iNil, iCons, iCall, iTupD, iLst, iPure, iSkip, iSeqS, iSet, setIx, iSetIx, iRet, iIfS, runT, finT, setT, dsOf, blOf, seqD, dIx, dSub, dLt, dEq, kinOf, eqK, eqD, Option.bind_some, Option.map_some, List.getD_cons_zero, List.getD_cons_succ, List.set_cons_zero, List.set_cons_succ, List.map_cons, List.map_nil, List.length_cons, List.length_nil, List.replicate_succ, List.replicate_zero, List.cons_append, List.nil_append, Nat.reduceAdd, Nat.reduceSub, if_true, if_false, Bool.false_eq_true, atI0, ixN0, Nat.zero_add, hc, e2, hl2, h3, hm0, a1, a2, e3, take3, Nat.reduceLeDiff]
        · simp only [b__law_rule, iV, iC, iOp, iOpT, iOrT, iNil, iCons, iCall, iTupD, iLst, iPure, iSkip, iSeqS, iSet, setIx, iSetIx, iRet, iIfS, runT, finT, setT, dsOf, blOf, seqD, dIx, dSub, dLt, dEq, kinOf, eqK, eqD, Option.bind_some, Option.map_some, List.getD_cons_zero, List.getD_cons_succ, List.set_cons_zero, List.set_cons_succ, List.map_cons, List.map_nil, List.length_cons, List.length_nil, List.replicate_succ, List.replicate_zero, List.cons_append, List.nil_append, Nat.reduceAdd, Nat.reduceSub, if_true, if_false, Bool.false_eq_true, atI0, ixN0, Nat.zero_add, hc, e2, hl2, h3, hm0, a1, a2, a3, e3, take3, Nat.reduceLeDiff]
  cases a1 : decide (deep < 2) with
  | true => exact leaf (.inl a1)
  | false =>
    cases a2 : decide (c - 1 < 1) with
    | true => exact leaf (.inr (.inl ⟨a1, a2⟩))
    | false =>
      cases a3 : (way == 0) with
      | true => exact leaf (.inr (.inr ⟨a1, a2, a3⟩))
      | false =>
        have hd2 : ¬ deep < 2 := of_decide_eq_false a1
        have hc2 : ¬ c - 1 < 1 := of_decide_eq_false a2
        have hw0 : way ≠ 0 := by intro z; rw [z] at a3; cases a3
        cases a4 : (way == 1) with
        | true =>
          obtain ⟨r, s3, c3, gr, dr, c30, c31, q3, e3⟩ := ih hnl q2.2.1 q2.2.2.1 (by omega) (deep := deep - 1) (by omega) (by omega) m0 m1
          have q3' := q2.trans q3
          have take3 : s3.take st.length = s3 := by rw [← q3'.1, List.take_length]
          refine ⟨.nt r, s3, c3, by rw [good]; exact gr, by rw [dep]; omega, c30, by rw [cnt]; omega, q3', ?_⟩
          rw [toD]
          generalize toD r = x at e3 ⊢
          show runT 8 4 (b__law_rule (m__law_rule f)) _ _ = _
          simp only [b__law_rule, iV, iC, iOp, iOpT, iOrT, iNil, iCons, iCall, iTupD, iLst, iPure, iSkip, iSeqS, iSet, setIx, iSetIx, iRet, iIfS, runT, finT, setT, dsOf, blOf, seqD, dIx, dSub, dLt, dEq, kinOf, eqK, eqD, Option.bind_some, Option.map_some, List.getD_cons_zero, List.getD_cons_succ, List.set_cons_zero, List.set_cons_succ, List.map_cons, List.map_nil, List.length_cons, List.length_nil, List.replicate_succ, List.replicate_zero, List.cons_append, List.nil_append, Nat.reduceAdd, Nat.reduceSub, if_true, if_false, Bool.false_eq_true, atI0, ixN0, Nat.zero_add, hc, e2, hl2, a1, a2, a3, a4, e3, take3, Nat.reduceLeDiff]
        | false =>
          have hw1 : way ≠ 1 := by intro z; rw [z] at a4; cases a4
          obtain ⟨r4, s3, r0, r1, t3, e3⟩ := take_ok (t2.hand.app [[]]) (m := 4) (by decide) (by decide)
          obtain ⟨b3, rfl, u3⟩ := t3.unapp t2.hand.lt
          have hm4 : ∃ m : Int, atI [D.int 4, .int 4, .int 4, .int 7] r4 = some (.int m) ∧ 0 < m ∧ m ≤ 7 := by
            have : r4 = 0 ∨ r4 = 1 ∨ r4 = 2 ∨ r4 = 3 := by omega
            rcases this with rfl | rfl | rfl | rfl <;> exact ⟨_, rfl, by decide, by decide⟩
          obtain ⟨m, hm, mm0, mm1⟩ := hm4
          obtain ⟨cn, s4, c0, c1, t4, e4⟩ := take_ok (u3.hand.app [[]]) (m := m) mm0 (by omega)
          obtain ⟨b4, rfl, u4⟩ := t4.unapp u3.hand.lt
          have q4 := (u3.stq q2.2.2.1 hnl).trans (u4.stq (u3.stq q2.2.2.1 hnl).2.2.1 hnl)
          obtain ⟨env', s5, e5, b5, rs, c5, o6, rfl, rfl, q5, hg5, hdp5, hl5, c50, c51⟩ := rule_loop ih hnl (deep := deep) (by omega) (by omega) m0 m1 t2.hand q2.2.2.1 (by omega) (cn := cn.toNat) (o6 := none) (o7 := none) (e4 := some (.d (.int way))) (by omega) q4
          have hs2 : s2.length = st.length := q2.1
          have hcn : -(2 ^ 62) ≤ cn ∧ cn < 2 ^ 62 := by omega
          have hmw : ∃ g : Gw, atI [D.str "all", .str "any", .str "odd", .str "least", .str "all", .str "any"] (way - 2) = some (.str g.wd) := by
            have : way - 2 = 0 ∨ way - 2 = 1 ∨ way - 2 = 2 ∨ way - 2 = 3 ∨ way - 2 = 4 ∨ way - 2 = 5 := by omega
            rcases this with h | h | h | h | h | h
            · rw [h]; exact ⟨.all, rfl⟩
            · rw [h]; exact ⟨.any, rfl⟩
            · rw [h]; exact ⟨.odd, rfl⟩
            · rw [h]; exact ⟨.least, rfl⟩
            · rw [h]; exact ⟨.all, rfl⟩
            · rw [h]; exact ⟨.any, rfl⟩
          obtain ⟨g, hw⟩ := hmw
          have pre : m__law_rule (f + 1) [.h n, .h l, .d (.int deep), .d (.int most)] st = runT 8 4 (fun _ _ => r__law_rule_2 (m__law_rule f) [some (.h n), some (.h l), some (.d (.int deep)), some (.d (.int most)), some (.d (.int way)), none, none, none] s2) [.h n, .h l, .d (.int deep), .d (.int most)] st := by
            show runT 8 4 (b__law_rule (m__law_rule f)) _ _ = _
            simp only [b__law_rule, iV, iC, iOp, iOpT, iOrT, iNil, iCons, iCall, iTupD, iLst, iPure, iSkip, iSeqS, iSet, setIx, iSetIx, iRet, iIfS, runT, finT, setT, dsOf, blOf, seqD, dIx, dSub, dLt, dEq, kinOf, eqK, eqD, Option.bind_some, Option.map_some, List.getD_cons_zero, List.getD_cons_succ, List.set_cons_zero, List.set_cons_succ, List.map_cons, List.map_nil, List.length_cons, List.length_nil, List.replicate_succ, List.replicate_zero, List.cons_append, List.nil_append, Nat.reduceAdd, Nat.reduceSub, if_true, if_false, Bool.false_eq_true, atI0, ixN0, Nat.zero_add, hc, e2, hl2, a1, a2, a3, a4]
          obtain ⟨r, b8, gr, dr, cr, q8, e9⟩ := rule_tail (f := f) (st := s2) (deep := deep) (most := most) (way := way) (by omega) e3 hm e4 hcn e5 hw q5 hnl hg5 hdp5 (by omega)
          have take8 : (b8 ++ [toDs rs]).take st.length = b8 := by rw [← hs2, ← (q5.trans q8).1]; simp
          refine ⟨r, b8, c5, gr, dr, c50, by rw [cr]; omega, q2.trans (q5.trans q8), ?_⟩
          rw [pre]
          simp only [runT, e9, finT, List.length_cons, List.length_nil, Nat.reduceAdd, ite_true, Option.bind_some, take8]
theorem rule_at : ∀ f : Nat, RuleAt f
  | 0 => by
    intro _ _ _ _ h1 h2 _ _
    exact absurd (Int.le_trans h1 h2) (by decide)
  | f + 1 => rule_step f (rule_at f)
end Own
end

section
set_option maxHeartbeats 1000000
namespace Own
open PySem L2
theorem qor_f {a b : Tf} {env : Ev} {st s s' : Sto} {k : Bool} (ha : a env st = some (false, s)) (hb : b env s = some (k, s')) : iOrT a b env st = some (k, s') := by
  simp only [iOrT, ha, hb, Option.bind_some, Bool.false_eq_true, if_false]
theorem repr_ok (s : Sto) {Z : List Int} (h : ∀ z ∈ Z, 0 ≤ z ∧ z < 1024) (hl : Z.length ≤ 1000) : dRepr s [.d (.tup (Z.map D.int))] = some (.str (shownT ((Z.map D.int).map vOf))) := by
  have h1 : (Z.map D.int).all plainD = true := by
    rw [List.all_map]
    refine List.all_eq_true.mpr fun z hz => ?_
    have := h z hz
    show (decide (0 ≤ z) && decide (z < 1024)) = true
    rw [decide_eq_true this.1, decide_eq_true this.2]; rfl
  show (if _ then _ else _) = _
  rw [if_pos ⟨h1, by rw [List.length_map]; exact hl⟩]
theorem same_ok {st : Sto} {Z : List Int} (h : ∀ z ∈ Z, 0 ≤ z ∧ z < 1024) (hl : Z.length ≤ 1000) : m__law_same [.d (.tup (Z.map D.int)), .d (.tup (Z.map D.int))] st = some (.d (.bl true), st) := by
  have e := repr_ok st h hl
  generalize shownT ((Z.map D.int).map vOf) = x at e
  generalize Z.map D.int = DZ at e ⊢
  exact qrunK_eq (n := 2) (k := 2) (b := b__law_same) rfl (qret_eq (qop_eq (qcb_eq rfl e) (qcb_eq rfl e) (by rw [str_eq, beq_self_eq_true])))
theorem qns {a : Af} {env : Ev} {st : Sto} {ws : List W} (ha : a env st = some (ws, st)) (h : m__law_same ws st = some (.d (.bl true), st)) : iNotT (iTru truD (iCall m__law_same a)) env st = some (false, st) := by
  simp only [iNotT, iTru, qcall_eq ha h, Option.bind_some, truD, Option.map_some, Bool.not_true]
mutual
theorem good_of_met {m : Int} : ∀ r : Ru, good 6 r → (∀ k ∈ met r, k < m) → good m r
  | .sw k, h, hm => by
    rw [good] at h ⊢
    rw [met] at hm
    exact ⟨h.1, hm k List.mem_cons_self⟩
  | .nt r, h, hm => by
    rw [good] at h ⊢
    rw [met] at hm
    exact good_of_met r h hm
  | .gr _ k rs, h, hm => by
    rw [good] at h ⊢
    rw [met] at hm
    exact ⟨h.1, h.2.1, h.2.2.1, goods_of_met rs h.2.2.2 hm⟩
theorem goods_of_met {m : Int} : ∀ rs : List Ru, goods 6 rs → (∀ k ∈ mets rs, k < m) → goods m rs
  | [], _, _ => by rw [goods]; trivial
  | r :: rs, h, hm => by
    rw [goods] at h ⊢
    rw [mets] at hm
    exact ⟨good_of_met r h.1 fun k hk => hm k (List.mem_append_left _ hk), goods_of_met rs h.2 fun k hk => hm k (List.mem_append_right _ hk)⟩
end
mutual
theorem met6 : ∀ r : Ru, good 6 r → ∀ k ∈ met r, 0 ≤ k ∧ k < 6
  | .sw k, h, x, hx => by
    rw [good] at h
    rw [met, List.mem_singleton] at hx
    rw [hx]; exact h
  | .nt r, h, x, hx => by
    rw [good] at h
    rw [met] at hx
    exact met6 r h x hx
  | .gr _ k rs, h, x, hx => by
    rw [good] at h
    rw [met] at hx
    exact mets6 rs h.2.2.2 x hx
theorem mets6 : ∀ rs : List Ru, goods 6 rs → ∀ k ∈ mets rs, 0 ≤ k ∧ k < 6
  | [], _, x, hx => by rw [mets] at hx; cases hx
  | r :: rs, h, x, hx => by
    rw [goods] at h
    rw [mets] at hx
    rcases List.mem_append.mp hx with hx | hx
    · exact met6 r h.1 x hx
    · exact mets6 rs h.2 x hx
end
theorem good_mono6 {m : Int} (hm : m ≤ 6) : ∀ r : Ru, good m r → good 6 r := fun r h => by
  have : ∀ r : Ru, good m r → good 6 r := by
    intro r
    refine Ru.rec (motive_1 := fun r => good m r → good 6 r) (motive_2 := fun rs => goods m rs → goods 6 rs) ?_ ?_ ?_ ?_ ?_ r
    · intro k h; rw [good] at h ⊢; exact ⟨h.1, by omega⟩
    · intro r ih h; rw [good] at h ⊢; exact ih h
    · intro g k rs ih h; rw [good] at h ⊢; exact ⟨h.1, h.2.1, h.2.2.1, ih h.2.2.2⟩
    · intro _; rw [goods]; trivial
    · intro r rs h1 h2 h; rw [goods] at h ⊢; exact ⟨h1 h.1, h2 h.2⟩
  exact this r h
theorem mem_ksI {m : Nat} {z : Int} : z ∈ ksI m ↔ ∃ k : Nat, z = k ∧ k < 6 ∧ m.testBit k = true := by
  unfold ksI
  rw [List.mem_map]
  exact ⟨fun ⟨k, h, e⟩ => ⟨k, e.symm, (mem_ks.mp h).1, (mem_ks.mp h).2⟩, fun ⟨k, e, h1, h2⟩ => ⟨k, mem_ks.mpr ⟨h1, h2⟩, e.symm⟩⟩
theorem some_ok {st : Sto} {r : Ru} (hd : dep r ≤ 9) (hg : good 6 r) (hc : cnt r ≤ 1000) : lcI (.nm 0) t_law_1 e_law_2 [none, some (.d (toD r))] (rngD 0 6) st = some ((ksI (swb r)).map D.int, st) := by
  have e := met_ok 9 r hd hc st
  have key := lcI_filt (g := .nm 0) (tt := t_law_1) (te := e_law_2) (env := [none, some (.d (toD r))]) (st := st) (fun d => match d with | .int j => decide (j ∈ met r) | _ => false) (fun d => d) (ds := rngD 0 6) fun d hd => by
    obtain ⟨i, hi⟩ := List.mem_iff_getElem?.mp hd
    obtain ⟨rfl, hi'⟩ := rngD_at hi
    refine ⟨_, rfl, ?_, fun _ => rfl⟩
    generalize toD r = y at e ⊢
    exact qopT_eq rfl (qcall_eq rfl e) (in_ok _ _ _)
  rw [key]
  congr 2
  rw [List.map_id']
  unfold rngD ksI ksOf
  rw [List.filter_map, List.map_map]
  congr 1
  · funext k; show D.int (0 + (k : Int)) = D.int k; rw [Int.zero_add]
  · refine List.filter_congr fun k hk => ?_
    show decide ((0 : Int) + (k : Nat) ∈ met r) = _
    rw [Int.zero_add, swb_met r hg k]
theorem last_ks : ∀ m : _root_.Fin 64, m.1 = 0 ∨ ∃ k : _root_.Fin 6, (ksOf m.1)[(ksOf m.1).length - 1]? = some k.1 ∧ ∀ j : _root_.Fin 6, m.1.testBit j.1 = true → j.1 ≤ k.1 := by decide +kernel
theorem least_ok {r : Ru} (hg : good 6 r) : (ksI (swb r) = [] ∧ good 0 r) ∨ ∃ (k : Nat) (a : List Int), k < 6 ∧ ksI (swb r) = a ++ [(k : Int)] ∧ good ((k : Int) + 1) r := by
  have h64 := swb_lt r hg
  rcases last_ks ⟨swb r, h64⟩ with h | ⟨k, h1, h2⟩
  · have h : swb r = 0 := h
    refine .inl ⟨by rw [h]; rfl, good_of_met r hg fun j hj => ?_⟩
    have hj6 := met6 r hg j hj
    obtain ⟨i, rfl⟩ := Int.eq_ofNat_of_zero_le hj6.1
    have := swb_met r hg i
    rw [h, Nat.zero_testBit, decide_eq_true hj] at this
    cases this
  · refine .inr ⟨k.1, (ksI (swb r)).dropLast, k.2, ?_, good_of_met r hg fun j hj => ?_⟩
    · have hlen : 0 < (ksOf (swb r)).length := by
        by_cases hz : (ksOf (swb r)).length = 0
        · rw [List.getElem?_eq_none (by show (ksOf (swb r)).length ≤ _; omega)] at h1; cases h1
        · omega
      have hne : ksI (swb r) ≠ [] := by
        unfold ksI
        intro e
        have := congrArg List.length e
        rw [List.length_map] at this
        simp at this; rw [this] at hlen; simp at hlen
      have hl : (ksI (swb r)).getLast hne = (k.1 : Int) := by
        have e1 : (ksI (swb r))[(ksOf (swb r)).length - 1]? = some (k.1 : Int) := by
          unfold ksI
          rw [List.getElem?_map, h1]; rfl
        rw [List.getLast_eq_getElem]
        have e2 : (ksI (swb r)).length = (ksOf (swb r)).length := by unfold ksI; rw [List.length_map]
        rw [← e2] at e1
        rw [List.getElem?_eq_getElem (by omega)] at e1
        exact Option.some.inj e1
      rw [← hl]
      exact (List.dropLast_concat_getLast hne).symm
    · have hj6 := met6 r hg j hj
      obtain ⟨i, rfl⟩ := Int.eq_ofNat_of_zero_le hj6.1
      have hb := swb_met r hg i
      rw [decide_eq_true hj] at hb
      have := h2 ⟨i, by omega⟩ hb
      show (i : Int) < (k.1 : Int) + 1
      have : i ≤ k.1 := this
      omega
theorem tab_plain {M : Nat} {r : Ru} : ∀ z ∈ (List.range M).map (fun i => ev ((i : Nat) : Int) r), 0 ≤ z ∧ z < 1024 := fun z hz => by
  obtain ⟨i, _, rfl⟩ := List.mem_map.mp hz
  rcases ev01 (i : Int) r with h | h <;> rw [h] <;> decide
/-- one number of switches -/
theorem turn_ok {st : Sto} {r : Ru} {n : Nat} {x0 x1 x2 x5 x7 : Option W} (hd : dep r ≤ 9) (hg6 : good 6 r) (hg : good (n : Int) r) (hn : n ≤ 6) :
    l_law_1 [x0, x1, x2, some (.d (toD r)), some (.d (.tup ((ksI (swb r)).map D.int))), x5, some (.d (.int n)), x7] st = some (.nx [x0, x1, x2, some (.d (toD r)), some (.d (.tup ((ksI (swb r)).map D.int))), x5, some (.d (.int n)), some (.d (.tup (tabL (2 ^ n) fun i => ev i r)))] st) := by
  have hsin := sin_ok 9 r hd hg6 st
  have htab := table_ok (st := st) hd hg6 (n := (n : Int)) (by omega) (by omega)
  rw [Int.toNat_natCast] at htab
  have key : lcI (.nm 0) iYes e_law_1 [none, some (.d (toD r)), some (.d (.int n))] (rngD 0 (2 ^ n)) st = some (tabL (2 ^ n) fun i => ev i r, st) := gather fun i hi =>
    qcall_eq (qcons_eq rfl (qcons_eq (qcall_eq rfl (bits_ok hn)) rfl)) (at_ok 9 r hd hg st)
  have h2 : 2 ^ n ≤ 2 ^ 6 := Nat.pow_le_pow_right (by decide) hn
  have h26 : (2 : Nat) ^ 6 = 64 := by decide
  have hrg := rng_ok (e := iOp dShl (iC (.int 1)) (iV 6)) (env := [x0, x1, x2, some (.d (toD r)), some (.d (.tup ((ksI (swb r)).map D.int))), x5, some (.d (.int n)), x7]) (st := st) (s := st) (M := ((2 ^ n : Nat) : Int)) (qop_eq rfl rfl (shl_nat st hn)) (Int.natCast_nonneg _) (by omega)
  rw [Int.toNat_natCast] at hrg
  have s1 := same_ok (st := st) (Z := ksI (swb r)) (fun z hz => by obtain ⟨k, rfl, hk, _⟩ := mem_ksI.mp hz; omega) (by unfold ksI; rw [List.length_map]; have := len_ks (swb_lt r hg6); omega)
  have s2 : m__law_same [.d (.tup (tabL (2 ^ n) fun i => ev i r)), .d (.tup (tabL (2 ^ n) fun i => ev i r))] st = some (.d (.bl true), st) := same_ok tab_plain (by rw [List.length_map, List.length_range]; omega)
  have hz : (rngD 0 (2 ^ n)).length ≤ 1000000 := by rw [rngD_len]; omega
  generalize (tabL (2 ^ n) fun i => ev i r) = TB at *
  generalize (ksI (swb r)).map D.int = KS at *
  generalize toD r = y at *
  exact qseq_eq (qset_eq (qcb_eq (qcons_eq (qpure_eq (qlc_eq hrg hz key)) rfl) rfl)) (qseq_eq (qif_f (qor_f (qns (qcons_eq (qcall_eq rfl hsin) rfl) s1) (qns (qcons_eq (qcall_eq rfl htab) rfl) s2)) rfl) (qif_f (qns (qcons_eq (qcall_eq rfl htab) rfl) s2) rfl))
theorem ne_nil (s : Sto) (ds : List D) : dNe s (.d (.tup ds)) (.d (.tup [])) = some (.bl (!ds.isEmpty)) := by
  show (eqK (.tp ds) (.tp [])).map (fun k => D.bl (!k)) = _
  rw [eqK, if_pos (by simp), Option.map_some]
  simp
theorem cell_ok {st : Sto} {ns : List Int} {k : Nat} {a2 a3 a4 a5 a6 a7 : Option W} : ∃ b2 b3 b4 b5 b6 b7 st', l_law_2 [some (.d (.scr ns)), some (.d (.int k)), a2, a3, a4, a5, a6, a7] st = some (.nx [some (.d (.scr ns)), some (.d (.int k)), b2, b3, b4, b5, b6, b7] st') := by
  obtain ⟨x, y, x0, e1⟩ := hand_ok (st := st) (ns := ns) (k := k)
  have hh : HandAt (st ++ [[.int x, .int y, .int 0]]) st.length := ⟨x, y, 0, x0, by rw [List.getElem?_append_right (Nat.le_refl _), Nat.sub_self]; rfl⟩
  generalize st ++ [[D.int x, .int y, .int 0]] = s1 at e1 hh
  generalize st.length = h at e1 hh
  obtain ⟨r6, s2, d0, d1, t2, e2⟩ := take_ok (hh.app [[.int 24]]) (m := 6) (by decide) (by decide)
  obtain ⟨mo, s3, m0, m1, t3, e3⟩ := take_ok t2.hand (m := 7) (by decide) (by decide)
  have hl : s3[s1.length]? = some [.int 24] := by
    rw [t3.get (Nat.ne_of_gt hh.lt), t2.get (Nat.ne_of_gt hh.lt), List.getElem?_append_right (Nat.le_refl _), Nat.sub_self]; rfl
  obtain ⟨r, s4, c', g1, g2, g3, g4, q, e4⟩ := Own.rule_at 9 (st := s3) (n := h) (l := s1.length) (deep := 1 + r6) (most := mo) (c := 24) (Nat.ne_of_lt hh.lt) t3.hand hl (by decide) (by omega) (by omega) m0 (by omega)
  have hd9 : dep r ≤ 9 := by omega
  have hg6 := good_mono6 (by omega) r g1
  have hc : cnt r ≤ 1000 := by omega
  have es := some_ok (st := s4) hd9 hg6 hc
  have hrg := rng_ok (e := iC (.int 6)) (env := [some (.d (.scr ns)), some (.d (.int k)), some (.h h), some (.d (toD r)), a4, a5, a6, a7]) (st := s4) (s := s4) (M := 6) rfl (by decide) (by decide)
  have hz : (rngD 0 (6 : Int).toNat).length ≤ 1000000 := by rw [rngD_len]; decide
  -- the least number of switches
  have hle : ∃ le : Nat, le ≤ 6 ∧ good (le : Int) r ∧ (iIfS (iOpT dNe (iV 4) (iTupD iNil)) (iSet (.nm 5) (iOp dAdd (iOp dIx (iV 4) (iUn dNeg (iC (.int 1)))) (iC (.int 1)))) iSkip) [some (.d (.scr ns)), some (.d (.int k)), some (.h h), some (.d (toD r)), some (.d (.tup ((ksI (swb r)).map D.int))), some (.d (.int 0)), a6, a7] s4 = some (.nx [some (.d (.scr ns)), some (.d (.int k)), some (.h h), some (.d (toD r)), some (.d (.tup ((ksI (swb r)).map D.int))), some (.d (.int le)), a6, a7] s4) := by
    rcases least_ok hg6 with ⟨hn, hg0⟩ | ⟨j, a, hj, hn, hgj⟩
    · refine ⟨0, by decide, hg0, ?_⟩
      rw [hn]
      exact qif_f (qopT_eq rfl (qtup_eq rfl rfl (Nat.zero_le _)) (by rw [ne_nil]; rfl)) rfl
    · refine ⟨j + 1, by omega, by push_cast; exact hgj, ?_⟩
      rw [hn]
      have hne : (!(List.map D.int (a ++ [(j : Int)])).isEmpty) = true := by simp
      have hix : dIx s4 (.d (.tup ((a ++ [(j : Int)]).map D.int))) (.d (.int (-1))) = some (.int j) := by
        show atI ((a ++ [(j : Int)]).map D.int) (-1) = _
        rw [List.map_append]
        exact atI_last _ _
      have ne := ne_nil s4 ((a ++ [(j : Int)]).map D.int)
      rw [hne] at ne
      generalize (a ++ [(j : Int)]).map D.int = L at *
      exact qif_t (qopT_eq rfl (qtup_eq rfl rfl (Nat.zero_le _)) ne) (qset_eq (i := 5) (w := .d (.int ((j + 1 : Nat) : Int))) (qop_eq (qop_eq rfl rfl hix) rfl (by show some (D.int ((j : Int) + 1)) = _; push_cast; rfl)))
  obtain ⟨le, hl6, hgl, ele⟩ := hle
  obtain ⟨r7, s5, f0, f1, t5, e5⟩ := take_ok q.2.1 (m := 7 - (le : Int)) (by omega) (by omega)
  obtain ⟨r7', rfl⟩ := Int.eq_ofNat_of_zero_le f0
  have hgs : good ((le + r7' : Nat) : Int) r := by
    refine good_of_met r hg6 fun z hz => ?_
    have : ∀ (m : Int) (r : Ru), good m r → ∀ z ∈ met r, z < m := by
      intro m r
      refine Ru.rec (motive_1 := fun r => good m r → ∀ z ∈ met r, z < m) (motive_2 := fun rs => goods m rs → ∀ z ∈ mets rs, z < m) ?_ ?_ ?_ ?_ ?_ r
      · intro k h z hz; rw [good] at h; rw [met, List.mem_singleton] at hz; rw [hz]; exact h.2
      · intro r ih h z hz; rw [good] at h; rw [met] at hz; exact ih h z hz
      · intro g k rs ih h z hz; rw [good] at h; rw [met] at hz; exact ih h.2.2.2 z hz
      · intro _ z hz; rw [mets] at hz; cases hz
      · intro r rs h1 h2 h z hz
        rw [goods] at h; rw [mets] at hz
        rcases List.mem_append.mp hz with hz | hz
        · exact h1 h.1 z hz
        · exact h2 h.2 z hz
    have := this _ r hgl z hz
    push_cast; omega
  obtain ⟨e', s', hF, o6, o7, rfl, rfl⟩ := forI_inv (g := .nm 6) (body := l_law_1) (ds := [.int (le : Int), .int ((le + r7' : Nat) : Int)]) (fun i env s => ∃ o6 o7, env = [some (.d (.scr ns)), some (.d (.int k)), some (.h h), some (.d (toD r)), some (.d (.tup ((ksI (swb r)).map D.int))), some (.d (.int le)), o6, o7] ∧ s = s5)
    (env := [some (.d (.scr ns)), some (.d (.int k)), some (.h h), some (.d (toD r)), some (.d (.tup ((ksI (swb r)).map D.int))), some (.d (.int le)), a6, a7]) (st := s5) ⟨a6, a7, rfl, rfl⟩ (by
    rintro i d env s hdi ⟨o6, o7, rfl, rfl⟩
    have hn : ∃ n : Nat, d = .int (n : Int) ∧ n ≤ 6 ∧ good (n : Int) r := by
      match i, hdi with
      | 0, hdi => cases hdi; exact ⟨le, rfl, hl6, hgl⟩
      | 1, hdi => cases hdi; exact ⟨le + r7', rfl, by omega, hgs⟩
      | i + 2, hdi => simp at hdi
    obtain ⟨n, rfl, hn6, hgn⟩ := hn
    exact ⟨_, _, _, rfl, .inl (turn_ok hd9 hg6 hgn hn6), _, _, rfl, rfl⟩)
  refine ⟨_, _, _, _, _, _, _, qseq_eq (qset_eq (qcall_eq rfl e1)) (qseq_eq (qset_eq (w := .d (toD r)) (s := s4) ?_) (qseq_eq (qset_eq (qcb_eq (qcons_eq (qpure_eq (qlc_eq hrg hz es)) rfl) rfl)) (qseq_eq (qset_eq rfl) (qseq_eq ele (qfor_eq (s := s') ?_ hF)))))⟩
  · refine qcall_eq (qcons_eq rfl (qcons_eq (x := .h s1.length) (s1 := s1 ++ [[.int 24]]) rfl (qcons_eq (qop_eq rfl (qcall_eq rfl e2) rfl) (qcons_eq (qcall_eq rfl e3) rfl)))) e4
  · have h1 : iLst (iCons (iV 5) (iCons (iOp dAdd (iV 5) (iCall m__law_take (iCons (iV 2) (iCons (iOp dSub (iC (.int 7)) (iV 5)) iNil)))) iNil)) [some (.d (.scr ns)), some (.d (.int k)), some (.h h), some (.d (toD r)), some (.d (.tup ((ksI (swb r)).map D.int))), some (.d (.int le)), a6, a7] s4 = some ([.int (le : Int), .int ((le + r7' : Nat) : Int)], s') :=
      qlst_eq (qcons_eq rfl (qcons_eq (qop_eq rfl (qcall_eq rfl e5) (by show some (D.int ((le : Int) + (r7' : Int))) = some (D.int ((le + r7' : Nat) : Int)); push_cast; rfl)) rfl)) rfl (by show 2 ≤ 1000; decide)
    simp only [iItems, iPure, h1, Option.map_some, Option.bind_some]
theorem law_true (ns : List Int) (hl : ns.length ≤ 63) : ∃ st, m_law [.d (.scr ns)] [] = some (.d (.bl true), st) := by
  obtain ⟨q, hq, q0, q1⟩ : ∃ q : Int, (1 + if (ns.length : Int) < 6 then (ns.length : Int) else 6) = q ∧ 0 ≤ q ∧ q ≤ 7 := ⟨_, rfl, by split <;> omega, by split <;> omega⟩
  obtain ⟨e', s', hF, x1, x2, x3, x4, x5, x6, x7, rfl⟩ := forI_inv (g := .nm 1) (body := l_law_2) (ds := rngD 0 q.toNat) (fun i env s => ∃ x1 x2 x3 x4 x5 x6 x7, env = [some (.d (.scr ns)), x1, x2, x3, x4, x5, x6, x7])
    (env := [some (.d (.scr ns)), none, none, none, none, none, none, none]) (st := []) ⟨_, _, _, _, _, _, _, rfl⟩ (by
    rintro i d env s hd ⟨x1, x2, x3, x4, x5, x6, x7, rfl⟩
    obtain ⟨rfl, hi⟩ := rngD_at hd
    obtain ⟨b2, b3, b4, b5, b6, b7, s', e⟩ := cell_ok (st := s) (ns := ns) (k := i) (a2 := x2) (a3 := x3) (a4 := x4) (a5 := x5) (a6 := x6) (a7 := x7)
    exact ⟨_, _, _, rfl, .inl e, _, _, _, _, _, _, _, rfl⟩)
  have h1 : iOp dAdd (iC (.int 1)) (iCB dMin (iCons (iC (.int 6)) (iCons (iCB dLen (iCons (iV 0) iNil)) iNil))) [some (.d (.scr ns)), none, none, none, none, none, none, none] [] = some (.d (.int q), []) := by
    refine qop_eq (y := .d (.int (if (ns.length : Int) < 6 then (ns.length : Int) else 6))) rfl (qcb_eq rfl ?_) ?_
    · show some (D.int (if (((ns.map D.int).length : Nat) : Int) < 6 then (((ns.map D.int).length : Nat) : Int) else 6)) = _
      rw [List.length_map]
    · show some (D.int _) = _
      rw [hq]
  have hrg := rng_ok h1 q0 (by omega)
  exact ⟨_, qrunT_eq (n := 8) (k := 1) (b := b_law) (ws := [.d (.scr ns)]) (st := []) (x := .bl true) rfl (qseq_eq (qfor_eq hrg hF) (qret_eq rfl))⟩
end Own
end

namespace Own
open PySem L2
theorem txt_mk {K : PySem.W.Frag} {h : Heap} {mg : Str → Option Value} (X : K.In h) (G : h.Ns mainGlobals mg)
    {f0 : Addr} {od0 an0 : Option Addr} {sl0 : Array (Option Value)} {oc0 kV0 dc0 pm0 cd0 ct0 : Value}
    (a0 : PySem.W.nsIn K mainGlobals "power_of_two" = some (some (.ref f0))) (l0 : K.lookup f0 = some ⟨oc0, od0, .func (PySem.W.fnOf "power_of_two" "power_of_two" (defArgs s_power_of_two) (defBody s_power_of_two) (defScope s_power_of_two) .none kV0 dc0 pm0 an0 cd0 ct0), sl0⟩) (c0 : PySem.W.codeIn K cd0 "power_of_two" = true) (k0 : PySem.W.keepIn K (.ref f0) = true)
    {f1 : Addr} {od1 an1 : Option Addr} {sl1 : Array (Option Value)} {oc1 kV1 dc1 pm1 cd1 ct1 : Value}
    (a1 : PySem.W.nsIn K mainGlobals "on_in" = some (some (.ref f1))) (l1 : K.lookup f1 = some ⟨oc1, od1, .func (PySem.W.fnOf "on_in" "on_in" (defArgs s_on_in) (defBody s_on_in) (defScope s_on_in) .none kV1 dc1 pm1 an1 cd1 ct1), sl1⟩) (c1 : PySem.W.codeIn K cd1 "on_in" = true) (k1 : PySem.W.keepIn K (.ref f1) = true)
    {f2 : Addr} {od2 an2 : Option Addr} {sl2 : Array (Option Value)} {oc2 kV2 dc2 pm2 cd2 ct2 : Value}
    (a2 : PySem.W.nsIn K mainGlobals "parts_of" = some (some (.ref f2))) (l2 : K.lookup f2 = some ⟨oc2, od2, .func (PySem.W.fnOf "parts_of" "parts_of" (defArgs s_parts_of) (defBody s_parts_of) (defScope s_parts_of) .none kV2 dc2 pm2 an2 cd2 ct2), sl2⟩) (c2 : PySem.W.codeIn K cd2 "parts_of" = true) (k2 : PySem.W.keepIn K (.ref f2) = true)
    {f3 : Addr} {od3 an3 : Option Addr} {sl3 : Array (Option Value)} {oc3 kV3 dc3 pm3 cd3 ct3 : Value}
    (a3 : PySem.W.nsIn K mainGlobals "switches_in" = some (some (.ref f3))) (l3 : K.lookup f3 = some ⟨oc3, od3, .func (PySem.W.fnOf "switches_in" "switches_in" (defArgs s_switches_in) (defBody s_switches_in) (defScope s_switches_in) .none kV3 dc3 pm3 an3 cd3 ct3), sl3⟩) (c3 : PySem.W.codeIn K cd3 "switches_in" = true) (k3 : PySem.W.keepIn K (.ref f3) = true)
    {f4 : Addr} {od4 an4 : Option Addr} {sl4 : Array (Option Value)} {oc4 kV4 dc4 pm4 cd4 ct4 : Value}
    (a4 : PySem.W.nsIn K mainGlobals "rule_at" = some (some (.ref f4))) (l4 : K.lookup f4 = some ⟨oc4, od4, .func (PySem.W.fnOf "rule_at" "rule_at" (defArgs s_rule_at) (defBody s_rule_at) (defScope s_rule_at) .none kV4 dc4 pm4 an4 cd4 ct4), sl4⟩) (c4 : PySem.W.codeIn K cd4 "rule_at" = true) (k4 : PySem.W.keepIn K (.ref f4) = true)
    {f5 : Addr} {od5 an5 : Option Addr} {sl5 : Array (Option Value)} {oc5 kV5 dc5 pm5 cd5 ct5 : Value}
    (a5 : PySem.W.nsIn K mainGlobals "table_of" = some (some (.ref f5))) (l5 : K.lookup f5 = some ⟨oc5, od5, .func (PySem.W.fnOf "table_of" "table_of" (defArgs s_table_of) (defBody s_table_of) (defScope s_table_of) .none kV5 dc5 pm5 an5 cd5 ct5), sl5⟩) (c5 : PySem.W.codeIn K cd5 "table_of" = true) (k5 : PySem.W.keepIn K (.ref f5) = true)
    {f6 : Addr} {od6 an6 : Option Addr} {sl6 : Array (Option Value)} {oc6 kV6 dc6 pm6 cd6 ct6 : Value}
    (a6 : PySem.W.nsIn K mainGlobals "_law_hand" = some (some (.ref f6))) (l6 : K.lookup f6 = some ⟨oc6, od6, .func (PySem.W.fnOf "_law_hand" "_law_hand" (defArgs s__law_hand) (defBody s__law_hand) (defScope s__law_hand) .none kV6 dc6 pm6 an6 cd6 ct6), sl6⟩) (c6 : PySem.W.codeIn K cd6 "_law_hand" = true) (k6 : PySem.W.keepIn K (.ref f6) = true)
    {f7 : Addr} {od7 an7 : Option Addr} {sl7 : Array (Option Value)} {oc7 kV7 dc7 pm7 cd7 ct7 : Value}
    (a7 : PySem.W.nsIn K mainGlobals "_law_take" = some (some (.ref f7))) (l7 : K.lookup f7 = some ⟨oc7, od7, .func (PySem.W.fnOf "_law_take" "_law_take" (defArgs s__law_take) (defBody s__law_take) (defScope s__law_take) .none kV7 dc7 pm7 an7 cd7 ct7), sl7⟩) (c7 : PySem.W.codeIn K cd7 "_law_take" = true) (k7 : PySem.W.keepIn K (.ref f7) = true)
    {f8 : Addr} {od8 an8 : Option Addr} {sl8 : Array (Option Value)} {oc8 kV8 dc8 pm8 cd8 ct8 : Value}
    (a8 : PySem.W.nsIn K mainGlobals "_law_pick" = some (some (.ref f8))) (l8 : K.lookup f8 = some ⟨oc8, od8, .func (PySem.W.fnOf "_law_pick" "_law_pick" (defArgs s__law_pick) (defBody s__law_pick) (defScope s__law_pick) .none kV8 dc8 pm8 an8 cd8 ct8), sl8⟩) (c8 : PySem.W.codeIn K cd8 "_law_pick" = true) (k8 : PySem.W.keepIn K (.ref f8) = true)
    {f9 : Addr} {od9 an9 : Option Addr} {sl9 : Array (Option Value)} {oc9 kV9 dc9 pm9 cd9 ct9 : Value}
    (a9 : PySem.W.nsIn K mainGlobals "_law_rule" = some (some (.ref f9))) (l9 : K.lookup f9 = some ⟨oc9, od9, .func (PySem.W.fnOf "_law_rule" "_law_rule" (defArgs s__law_rule) (defBody s__law_rule) (defScope s__law_rule) .none kV9 dc9 pm9 an9 cd9 ct9), sl9⟩) (c9 : PySem.W.codeIn K cd9 "_law_rule" = true) (k9 : PySem.W.keepIn K (.ref f9) = true)
    {f10 : Addr} {od10 an10 : Option Addr} {sl10 : Array (Option Value)} {oc10 kV10 dc10 pm10 cd10 ct10 : Value}
    (a10 : PySem.W.nsIn K mainGlobals "_law_at" = some (some (.ref f10))) (l10 : K.lookup f10 = some ⟨oc10, od10, .func (PySem.W.fnOf "_law_at" "_law_at" (defArgs s__law_at) (defBody s__law_at) (defScope s__law_at) .none kV10 dc10 pm10 an10 cd10 ct10), sl10⟩) (c10 : PySem.W.codeIn K cd10 "_law_at" = true) (k10 : PySem.W.keepIn K (.ref f10) = true)
    {f11 : Addr} {od11 an11 : Option Addr} {sl11 : Array (Option Value)} {oc11 kV11 dc11 pm11 cd11 ct11 : Value}
    (a11 : PySem.W.nsIn K mainGlobals "_law_bits" = some (some (.ref f11))) (l11 : K.lookup f11 = some ⟨oc11, od11, .func (PySem.W.fnOf "_law_bits" "_law_bits" (defArgs s__law_bits) (defBody s__law_bits) (defScope s__law_bits) .none kV11 dc11 pm11 an11 cd11 ct11), sl11⟩) (c11 : PySem.W.codeIn K cd11 "_law_bits" = true) (k11 : PySem.W.keepIn K (.ref f11) = true)
    {f12 : Addr} {od12 an12 : Option Addr} {sl12 : Array (Option Value)} {oc12 kV12 dc12 pm12 cd12 ct12 : Value}
    (a12 : PySem.W.nsIn K mainGlobals "_law_same" = some (some (.ref f12))) (l12 : K.lookup f12 = some ⟨oc12, od12, .func (PySem.W.fnOf "_law_same" "_law_same" (defArgs s__law_same) (defBody s__law_same) (defScope s__law_same) .none kV12 dc12 pm12 an12 cd12 ct12), sl12⟩) (c12 : PySem.W.codeIn K cd12 "_law_same" = true) (k12 : PySem.W.keepIn K (.ref f12) = true)
    {f13 : Addr} {od13 an13 : Option Addr} {sl13 : Array (Option Value)} {oc13 kV13 dc13 pm13 cd13 ct13 : Value}
    (a13 : PySem.W.nsIn K mainGlobals "_law_met" = some (some (.ref f13))) (l13 : K.lookup f13 = some ⟨oc13, od13, .func (PySem.W.fnOf "_law_met" "_law_met" (defArgs s__law_met) (defBody s__law_met) (defScope s__law_met) .none kV13 dc13 pm13 an13 cd13 ct13), sl13⟩) (c13 : PySem.W.codeIn K cd13 "_law_met" = true) (k13 : PySem.W.keepIn K (.ref f13) = true)
    {f14 : Addr} {od14 an14 : Option Addr} {sl14 : Array (Option Value)} {oc14 kV14 dc14 pm14 cd14 ct14 : Value}
    (a14 : PySem.W.nsIn K mainGlobals "law" = some (some (.ref f14))) (l14 : K.lookup f14 = some ⟨oc14, od14, .func (PySem.W.fnOf "law" "law" (defArgs s_law) (defBody s_law) (defScope s_law) .none kV14 dc14 pm14 an14 cd14 ct14), sl14⟩) (c14 : PySem.W.codeIn K cd14 "law" = true) (k14 : PySem.W.keepIn K (.ref f14) = true)
    (z_abs : PySem.W.nsIn K mainGlobals "abs" = some none)
    (z_int : PySem.W.nsIn K mainGlobals "int" = some none)
    (z_len : PySem.W.nsIn K mainGlobals "len" = some none)
    (z_min : PySem.W.nsIn K mainGlobals "min" = some none)
    (z_range : PySem.W.nsIn K mainGlobals "range" = some none)
    (z_repr : PySem.W.nsIn K mainGlobals "repr" = some none)
    (z_set : PySem.W.nsIn K mainGlobals "set" = some none)
    (z_sorted : PySem.W.nsIn K mainGlobals "sorted" = some none)
    (z_sum : PySem.W.nsIn K mainGlobals "sum" = some none)
    (z_tuple : PySem.W.nsIn K mainGlobals "tuple" = some none)
    : ∃ t, Txt K mg t ∧ t.f_law = f14 := by
  have F0 := fun_mk (st := s_power_of_two) l0 c0 k0
  have F1 := fun_mk (st := s_on_in) l1 c1 k1
  have F2 := fun_mk (st := s_parts_of) l2 c2 k2
  have F3 := fun_mk (st := s_switches_in) l3 c3 k3
  have F4 := fun_mk (st := s_rule_at) l4 c4 k4
  have F5 := fun_mk (st := s_table_of) l5 c5 k5
  have F6 := fun_mk (st := s__law_hand) l6 c6 k6
  have F7 := fun_mk (st := s__law_take) l7 c7 k7
  have F8 := fun_mk (st := s__law_pick) l8 c8 k8
  have F9 := fun_mk (st := s__law_rule) l9 c9 k9
  have F10 := fun_mk (st := s__law_at) l10 c10 k10
  have F11 := fun_mk (st := s__law_bits) l11 c11 k11
  have F12 := fun_mk (st := s__law_same) l12 c12 k12
  have F13 := fun_mk (st := s__law_met) l13 c13 k13
  have F14 := fun_mk (st := s_law) l14 c14 k14
  refine ⟨⟨f0, _, f1, _, f2, _, f3, _, f4, _, f5, _, f6, _, f7, _, f8, _, f9, _, f10, _, f11, _, f12, _, f13, _, f14, _⟩, ⟨F0, PySem.W.mg_of X G a0, F0.binds fun _ _ _ _ _ _ us hl => match us, hl with | [_], _ => rfl, F1, PySem.W.mg_of X G a1, F1.binds fun _ _ _ _ _ _ us hl => match us, hl with | [_, _], _ => rfl, F2, PySem.W.mg_of X G a2, F2.binds fun _ _ _ _ _ _ us hl => match us, hl with | [_], _ => rfl, F3, PySem.W.mg_of X G a3, F3.binds fun _ _ _ _ _ _ us hl => match us, hl with | [_], _ => rfl, F4, PySem.W.mg_of X G a4, F4.binds fun _ _ _ _ _ _ us hl => match us, hl with | [_, _], _ => rfl, F5, PySem.W.mg_of X G a5, F5.binds fun _ _ _ _ _ _ us hl => match us, hl with | [_, _], _ => rfl, F6, PySem.W.mg_of X G a6, F6.binds fun _ _ _ _ _ _ us hl => match us, hl with | [_, _], _ => rfl, F7, PySem.W.mg_of X G a7, F7.binds fun _ _ _ _ _ _ us hl => match us, hl with | [_, _], _ => rfl, F8, PySem.W.mg_of X G a8, F8.binds fun _ _ _ _ _ _ us hl => match us, hl with | [_, _], _ => rfl, F9, PySem.W.mg_of X G a9, F9.binds fun _ _ _ _ _ _ us hl => match us, hl with | [_, _, _, _], _ => rfl, F10, PySem.W.mg_of X G a10, F10.binds fun _ _ _ _ _ _ us hl => match us, hl with | [_, _], _ => rfl, F11, PySem.W.mg_of X G a11, F11.binds fun _ _ _ _ _ _ us hl => match us, hl with | [_, _], _ => rfl, F12, PySem.W.mg_of X G a12, F12.binds fun _ _ _ _ _ _ us hl => match us, hl with | [_, _], _ => rfl, F13, PySem.W.mg_of X G a13, F13.binds fun _ _ _ _ _ _ us hl => match us, hl with | [_], _ => rfl, F14, PySem.W.mg_of X G a14, F14.binds fun _ _ _ _ _ _ us hl => match us, hl with | [_], _ => rfl, PySem.W.mg_none_of X G z_abs, PySem.W.mg_none_of X G z_int, PySem.W.mg_none_of X G z_len, PySem.W.mg_none_of X G z_min, PySem.W.mg_none_of X G z_range, PySem.W.mg_none_of X G z_repr, PySem.W.mg_none_of X G z_set, PySem.W.mg_none_of X G z_sorted, PySem.W.mg_none_of X G z_sum, PySem.W.mg_none_of X G z_tuple⟩, rfl⟩
theorem txt_ex {K : PySem.W.Frag} {mg : Str → Option Value} {f : Addr} (h : ∃ t, Txt K mg t ∧ t.f_law = f) : ∃ t, Txt K mg t := let ⟨t, a, _⟩ := h; ⟨t, a⟩
theorem walk {l : PySem.W.OpenLaw} {q : Program} {loose : List Str} {XP : (Str → Option Value) → Heap → Prop} {YP : World → Heap → Prop} {d : DefRec} {K : Params → PySem.W.Frag} (hn : l.most = some 63) (hdf : d.params.defaults = [])
    (hY : ∀ (w : World) (h : Heap), YP w h → (K w.params).In h)
    (F : ∀ (w : World) (mg : Str → Option Value) (fa : Addr) (h : Heap), (K w.params).In h → h.Ns mainGlobals mg → mg d.name = some (.ref fa) →
      ∃ fd : FuncData, (∀ (s : Shared) (u : Value), BindsTo s fd ⟨[u], []⟩ [("_law_script", u)]) ∧ ∀ base : Heap, (K w.params).In base → base.Ns mainGlobals mg → FnOk l.prog w (K w.params) mg base CX0 14 fa fd ["_law_script"] (spI (K w.params) m_law)) :
    PySem.W.WalkO q loose XP YP l.row.toRowW d [] (fun f vs => PySem.call f vs) :=
  L2.walk_of (n := 63) (k := 14) (x := "_law_script") (CX := fun _ => CX0) (sp := fun w => spI (K w.params) m_law) hn (by decide) hdf ⟨rfl, by decide, by decide, rfl⟩ hY F (fun _ _ a ns hl hO hS => spI_law hO hS (law_true ns hl)) fun _ _ _ _ _ z => z
theorem law_mk {l : PySem.W.OpenLaw} {w : World} {K : PySem.W.Frag} {h : Heap} {mg : Str → Option Value} {fa : Addr} (hfa : mg "law" = some (.ref fa)) (T0 : ∃ t, Txt K mg t) :
    ∃ fd : FuncData, (∀ (s : Shared) (v : Value), BindsTo s fd ⟨[v], []⟩ [("_law_script", v)]) ∧ ∀ base : Heap, K.In base → base.Ns mainGlobals mg → FnOk l.prog w K mg base CX0 14 fa fd ["_law_script"] (spI K m_law) := by
  obtain ⟨t, T⟩ := T0
  have e := hfa.symm.trans T.m_law
  cases e
  refine ⟨t.fd_law, fun s v => ?_, fun base _ _ => ok_law T⟩
  obtain ⟨oc, od, kV, doc, pm, an, cdv, ct, osl, e, _⟩ := T.F_law.ex
  rw [e]
  exact .of_eq rfl
end Own
open PySem PySem.W PyProof.Rows
set_option maxRecDepth 100000 in
set_option maxHeartbeats 0 in
theorem PySem.Challenge.cw_signpoly_k08_rules_tabled_holds : PySem.Challenge.rw_signpoly_k08_rules_tabled.Holds := by
  w_on; o_law; k_head; (case hw => w_witness2)
  k_fill
  refine Own.walk (l := PySem.Challenge.rw_signpoly_k08_rules_tabled) rfl rfl (fun w h Y => PySem.W.kIn_of Y) ?F
  case F =>
    intro w mg fa h KX G hmg
    refine Own.law_mk (h := h) hmg ?T
    case T =>
      refine' Own.txt_ex (Own.txt_mk KX G ?a0 ?l0 ?c0 ?k0 ?a1 ?l1 ?c1 ?k1 ?a2 ?l2 ?c2 ?k2 ?a3 ?l3 ?c3 ?k3 ?a4 ?l4 ?c4 ?k4 ?a5 ?l5 ?c5 ?k5 ?a6 ?l6 ?c6 ?k6 ?a7 ?l7 ?c7 ?k7 ?a8 ?l8 ?c8 ?k8 ?a9 ?l9 ?c9 ?k9 ?a10 ?l10 ?c10 ?k10 ?a11 ?l11 ?c11 ?k11 ?a12 ?l12 ?c12 ?k12 ?a13 ?l13 ?c13 ?k13 ?a14 ?l14 ?c14 ?k14 ?z_abs ?z_int ?z_len ?z_min ?z_range ?z_repr ?z_set ?z_sorted ?z_sum ?z_tuple)
      (case a0 => k_is)
      (case l0 => k_is)
      (case c0 => k_is)
      (case k0 => k_is)
      (case a1 => k_is)
      (case l1 => k_is)
      (case c1 => k_is)
      (case k1 => k_is)
      (case a2 => k_is)
      (case l2 => k_is)
      (case c2 => k_is)
      (case k2 => k_is)
      (case a3 => k_is)
      (case l3 => k_is)
      (case c3 => k_is)
      (case k3 => k_is)
      (case a4 => k_is)
      (case l4 => k_is)
      (case c4 => k_is)
      (case k4 => k_is)
      (case a5 => k_is)
      (case l5 => k_is)
      (case c5 => k_is)
      (case k5 => k_is)
      (case a6 => k_is)
      (case l6 => k_is)
      (case c6 => k_is)
      (case k6 => k_is)
      (case a7 => k_is)
      (case l7 => k_is)
      (case c7 => k_is)
      (case k7 => k_is)
      (case a8 => k_is)
      (case l8 => k_is)
      (case c8 => k_is)
      (case k8 => k_is)
      (case a9 => k_is)
      (case l9 => k_is)
      (case c9 => k_is)
      (case k9 => k_is)
      (case a10 => k_is)
      (case l10 => k_is)
      (case c10 => k_is)
      (case k10 => k_is)
      (case a11 => k_is)
      (case l11 => k_is)
      (case c11 => k_is)
      (case k11 => k_is)
      (case a12 => k_is)
      (case l12 => k_is)
      (case c12 => k_is)
      (case k12 => k_is)
      (case a13 => k_is)
      (case l13 => k_is)
      (case c13 => k_is)
      (case k13 => k_is)
      (case a14 => k_is)
      (case l14 => k_is)
      (case c14 => k_is)
      (case k14 => k_is)
      (case z_abs => k_is)
      (case z_int => k_is)
      (case z_len => k_is)
      (case z_min => k_is)
      (case z_range => k_is)
      (case z_repr => k_is)
      (case z_set => k_is)
      (case z_sorted => k_is)
      (case z_sum => k_is)
      (case z_tuple => k_is)

