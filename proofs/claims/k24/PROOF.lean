import PyProof.Rows.All
import Wide.All
import OpenK.AllK
import Wide.FinOn
import Lean
import PyProof.EqAt
import PyProof.EqKinds
import PyProof.TupleCall
import PyProof.ListRange
import PyProof.NeKinds
import KE.KUnpack
import KE.KSortTup
import PyProof.ZipIter
import PyProof.Rows.CallKwBuiltin
import KE.KFind
import PySem.Challenge.RW_signpoly_k24_two_amounts
set_option Elab.async false
set_option linter.all false
set_option maxRecDepth 100000
set_option genSizeOf false
noncomputable section
open Array renaming length_toList -> qcW, toList -> qgy
open Bool renaming false_ne_true -> qaF, and_eq_true -> qaV, false_eq_true -> qbK, eq_iff_iff -> qcY, or_eq_true -> qgc, and_self -> qgx
open False renaming elim -> qbW
open Int renaming mul_zero -> qas, mul_comm -> qaz, mul_left_comm -> qaD, mul_right_comm -> qaX, mul_assoc -> qaZ, mul_le_mul_of_nonneg_left -> qbj, mul_le_mul_of_nonneg_right -> qbp, zero_mul -> qbJ, mul_add -> qbM, one_mul -> qbQ, neg_mul -> qbR, mul_one -> qb4, mul_eq_zero -> qcd, toNat_natCast -> qch, le_of_mul_le_mul_left -> qcp, eq_of_mul_eq_mul_left -> qcq, le_refl -> qcv, mul_sub -> qcM, add_zero -> qcQ, mul_lt_mul_of_pos_right -> qcZ, lt_of_mul_lt_mul_right -> qc5, natAbs_mul -> qdd, reduceNeg -> qdn, mul_pos -> qdo, add_mul -> qdp, zero_add -> qdy, ediv_nonneg -> qdz, mul_nonneg -> qdL, sub_mul -> qdX, mul_neg -> qdY, emod_lt_of_pos -> qd4, emod_nonneg -> qeI, fdiv_eq_ediv_of_nonneg -> qeM, eq_of_mul_eq_mul_right -> qeN, lt_of_mul_lt_mul_left -> qeU, mul_ediv_cancel_left -> qeY, sub_zero -> qff, sub_self -> qfg, toNat_of_nonneg -> qfD, ofNat_dvd_left -> qfL, lt_or_eq_of_le -> qfM, natAbs_sub_le -> qf4, natAbs_add_le -> qf5, zero_sub -> qhA
open List renaming mem_cons_self -> qae, range -> qag, mem_cons_of_mem -> qah, mem_singleton -> qaj, length_map -> qam, getElem?_eq_some_iff -> qan, length_range -> qao, mem_append_right -> qap, length_cons -> qaq, size_toArray -> qat, length_append -> qau, replicate -> qav, map_cons -> qay, mem_range -> qaB, getElem?_append_left -> qaC, mem_cons -> qaH, getElem?_map -> qaI, getElem?_append_right -> qaJ, mem_append -> qaQ, mem_append_left -> qaU, getElem?_eq_getElem -> qaW, all_eq_true -> qaY, getElem?_eq_none -> qa4, getElem?_set_self -> qa5, mem_map -> qa7, replicate_succ -> qa8, getElem?_range -> qa9, Nodup -> qba, getElem?_set_ne -> qbc, lookup_cons -> qbi, not_mem_nil -> qbq, map_map -> qbs, length_set -> qbv, append_nil -> qbw, all_cons -> qbx, append_assoc -> qbA, map_append -> qbG, mem_of_getElem? -> qbN, length_singleton -> qbT, forall_mem_cons -> qbV, nodup_cons -> qbY, ext_getElem? -> qbZ, getD_cons_zero -> qb1, getD_cons_succ -> qb2, range_succ_eq_map -> qb5, nil_append -> qb9, length_replicate -> qca, length_nil -> qcb, nodup_append -> qcf, flatten_cons -> qcg, getElem?_eq_none_iff -> qck, mem_flatten -> qco, replicate_zero -> qcs, map_congr_left -> qct, map_nil -> qcu, set_cons_zero -> qcz, set_cons_succ -> qcA, range_succ -> qcB, mem_filter -> qcC, getElem?_replicate -> qcD, set_append_right -> qcO, cons_append -> qcS, any_cons -> qcU, lookup -> qcX, nodup_nil -> qc9, filter_cons_of_pos -> qdh, filter_cons_of_neg -> qdi, length_take -> qdm, mem_iff_getElem -> qdC, take_left -> qdD, forIn_nil -> qdE, range' -> qdI, flatten_append -> qdJ, filterMap_cons -> qdK, set_set -> qeh, take_length -> qeo, getElem_inj -> qep, any_eq_true -> qeq, of_mem_zip -> qew, getD -> qex, forIn_cons -> qey, drop_eq_getElem_cons -> qeK, getElem?_take_of_lt -> qeS, foldl -> qeT, idxOf?_eq_some_iff -> qeX, range_eq_range' -> qfe, mem_map_of_mem -> qfn, filter_eq_self -> qfo, zip_cons_cons -> qfx, pairwise_cons -> qfy, mem_filterMap -> qfz, getElem_range -> qfA, push_toArray -> qfJ, any_eq_false -> qfK, zipIdx_cons -> qfW, range'_succ -> qfX, length_drop -> qfY, isEmpty_iff -> qfZ, getElem_mem -> qf0, getElem_map -> qf1, filter_cons -> qf2, drop_length -> qf3, zipIdx_nil -> qga, take_zero -> qgh, drop_zero -> qgi, all_map -> qgH
open List.Pairwise renaming sublist -> qgI
open Nat renaming le_refl -> qal, lt_of_lt_of_le -> qaN, ne_of_lt -> qaP, lt_irrefl -> qaR, le_trans -> qa3, lt_of_le_of_lt -> qbe, lt_succ_of_lt -> qbk, lt_succ_self -> qby, zero_add -> qbI, mul_le_mul_right -> qbX, ne_of_gt -> qb0, add_sub_cancel -> qb7, le_add_right -> qcr, add_sub_cancel_left -> qcE, zero_le -> qcL, mul_le_mul -> qcN, le_of_eq -> qcP, reduceSub -> qdj, reduceAdd -> qdk, le_succ -> qdl, sub_self -> qdw, not_lt_zero -> qdx, pow_pos -> qdW, pow_succ -> qel, lt_trans -> qem, le_of_lt -> qen, gcd -> qeH, mul_comm -> qfc, lt_or_ge -> qfd, pow_le_pow_right -> qfm, pow_add -> qfv, one_mul -> qfw, not_lt -> qfU, lt_trichotomy -> qfV, succ_ne_self -> qf8, mod_eq_of_lt -> qf9, min_eq_left -> qgg, dvd_trans -> qgG, sub_zero -> qhx, gcd_comm -> qhy, add_zero -> qhz, pow_mul -> qhH, add_mul -> qhI
open Ne renaming symm -> qbo
open Option renaming bind_some -> qaa, bind_eq_some_iff -> qab, map_eq_some_iff -> qad, map_some -> qar, isSome_iff_exists -> qcn, getD_none -> qfu
open Option.some renaming inj -> qaS
open PyProof.Rows renaming slot_tuple_getitem -> qbl, boot_tuple -> qbF, callWith_type1 -> qbL, boot_list -> qcm, boot_abs -> qc8, envOfC -> qd8, boot_range -> qea, AllBare -> qej, boot_all -> qek, SortKind -> qet, KeyOrd -> qe4, IntsAre -> qfB, subscriptTail_builtinR -> qfF, SortSt -> qfR, entry_tuple_getitem -> qgf, args_tuple_getitem -> qgq, envOfC -> qht, callWith_builtin1 -> qhu, boot_min -> qhv, boot_int -> qhw, slicePart_none -> qhK, boot_enumerate -> qhO
open PySem renaming wpAny_bind -> qaf, Shared -> qak, wpAny_pure -> qaw, mainGlobals -> qaE, sizeLine -> qaM, Program -> qa0, FuncData -> qa2, Around -> qbb, mem_of_lookup -> qbf, starEach -> qbg, IntMulOk -> qbm, Spec -> qbr, assignEach -> qbt, binaryOp -> qbu, boot_len -> qbB, compareOp -> qbD, cellsFrom -> qbE, wpAny_field -> qbH, wpAny_callSpecial?_slot -> qbO, NameKind -> qbP, wpAny_newObj_type -> qbS, foldedSetIterable -> qb3, wpAny_seqItems -> qb8, wpAny_setField_rec -> qce, wpAny_passesOwn -> qci, pushCells_keeps -> qcj, swapsWith -> qcw, wpAny_call_entry -> qcx, wpAny_mono -> qcF, bootBuiltins -> qcG, wpAny_pyIter_tuple -> qcI, attributeBase -> qcJ, call_meets -> qcT, wpAny_holding -> qc1, behindInMarks -> qc2, sliceBounds -> qda, wpAny_Call_Name_kw -> qdg, wpAny_rule -> qdq, wpAny_pyIter_enum -> qdr, swapsWithSole -> qdu, swappedStores -> qdv, backTo -> qdA, wpAny_ite_false -> qdP, wpAny_execs_nil -> qdQ, pushCells -> qdR, letOwnedTupleGo -> qdS, wpAny_updateSeq_pair -> qd2, list_append -> qd3, assign -> qd9, sizeLine_eq -> qeb, codeAny -> qec, wpAny_standAt -> qer, wpAny_onRaise -> qes, wpAny_truthy_bool -> qeB, wpAny_pyIter_list -> qeC, typeIs_int -> qeD, holding -> qeE, codeAny_mono -> qeJ, IsPart -> qeL, noFill_tuple_add -> qeP, keywordEach -> qeZ, getItem -> qe0, callerA -> qe1, Within -> qe3, IsPair -> qe5, intBits_le_iff -> qe7, wpAny_binaryOp_repeat_ref -> qfb, wpAny_comprehension_free -> qfh, rawInt -> qfi, builtinsNs -> qfj, Paired -> qfl, wpAny_pyNext_enum_itemD -> qfp, seq_tuple_add -> qfq, rangeSize_one -> qfr, compEnvC -> qfs, call -> qft, IntMulOk -> qfC, BindsTo -> qfE, codeAny_compStart_list -> qfG, seqSlot_of -> qfH, wpAny_typeOf -> qfN, seqIndex_neg -> qfO, pyNext -> qfP, concat_meets -> qfQ, PassesOwn -> qfT, wpAny_letGo -> qgd, seqIndex_of -> qge, Keyword -> qgj, Builtin -> qgo, backToKw -> qgp, wpAny_sequenceKey -> qgz, wpAny_assign_Name -> qgA, wpAny_Name -> qgB, sysModules -> qgC, slot_list_getitem -> qgD, wpAny_pyIter_zip -> qgP, wpAny_execs_cons -> qgQ, standAt -> qhE, isTrue -> qhF, wpAny_setField -> qhJ, recursionLimit -> qhL, newFunctionEnv -> qhM, firstArgMember -> qhN
open PySem.Around renaming under -> qd7
open PySem.Builtin.List renaming listTooLong -> qcV
open PySem.Builtin.Range renaming rangeFitsLong -> qdH, rangeSize -> qd6, small -> qgO
open PySem.Builtin.Slice renaming slicePlaces -> qb6, sliceAdjust -> qcR, sliceApplied -> qdO, slicePartIndex -> qgM, sliceFields -> qgN
open PySem.Builtin.SmallTypes renaming nextOf -> qa1, ownedTupleIsFree -> qbC, ownedTupleHandOut -> qc0
open PySem.Builtin.Tuple renaming tupleExact -> qcc, tupleTooMany -> qdM, tupleItemsOf -> qdN, tupleIsExact -> qgL
open PySem.Calls renaming Name_function_global -> qeA
open PySem.Code renaming isFrame -> qfa, isGuard -> qgK, frames -> qhD
open PySem.Draws renaming list -> qhC
open PySem.F renaming slot_tuple_iterator_next -> qcl, args_tuple_add_2 -> qc4, entry_tuple_add -> qdc, slot_tuple_add -> qdf, slot_tuple_mul -> qdt, slot_zip_next -> qdF, slot_int_rmul -> qdG, args_list_append_2 -> qdZ, entry_list_append -> qd5, slot_list_append -> qei, slot_list_index -> qeF, plainAttrs_list -> qeG, args_tuple_iterator_next_1 -> qeO, entry_tuple_iterator_next -> qeV, args_tuple_mul_2 -> qgb, slot_tuple_rmul -> qgk, entry_tuple_mul -> qgl, args_zip_next_1 -> qgm, args_int_rmul_2 -> qgn, slot_int_index -> qgu, entry_zip_next -> qgv, entry_int_rmul -> qgw, fills_int_mul -> qgJ
open PySem.Heap renaming get?_push_of_some -> qai, lt_size -> qax, get?_push_size -> qaA, size_push -> qbd, get?_update_other -> qcH, SameBut -> qc6, get?_update_self -> qe9, ExtBut -> qhB
open PySem.Heap.IsSliceOf renaming new -> qgt
open PySem.Heap.SameBut renaming update -> qez
open PySem.IntMulOk renaming of_le -> qgs
open PySem.IsL renaming update -> qdV
open PySem.Obj renaming mapSeq -> qcK, data_mapFields -> qfI
open PySem.Paired renaming length -> qf7
open PySem.PassesOwn renaming never -> qa6
open PySem.SeqAt renaming EqAt -> qdb, ne_of_list_tuple -> qeW, RcNeAt -> qgr, RcAt -> qhr, list_indexAt -> qhG
open PySem.SeqAt.EqAt renaming of_refs -> qds, same -> qd1, str_int -> qeQ, int_str -> qeR, tuple_str -> qin, tuple_none -> qio, tuple_list -> qip, tuple_int -> qiq, tuple_bool -> qir, str_tuple -> qis, str_str -> qit, str_none -> qiu, str_list -> qiv, str_bool -> qiw, none_tuple -> qix, none_str -> qiy, none_list -> qiz, none_int -> qiA, none_bool -> qiB, list_tuple -> qiC, list_str -> qiD, list_none -> qiE, list_int -> qiF, list_bool -> qiG, int_tuple -> qiH, int_none -> qiI, int_list -> qiJ, int_int -> qiK, int_bool -> qiL, bool_tuple -> qiM, bool_str -> qiN, bool_none -> qiO, bool_list -> qiP, bool_int -> qiQ, bool_bool -> qiR
open PySem.SeqAt.RcAt renaming tuples -> qdB, lists_lengths -> qed, lists -> qe2, tuple_str -> qhP, tuple_none -> qhQ, tuple_list -> qhR, tuple_int -> qhS, tuple_bool -> qhT, str_tuple -> qhU, str_str -> qhV, str_none -> qhW, str_list -> qhX, str_int -> qhY, str_bool -> qhZ, none_tuple -> qh0, none_str -> qh1, none_none -> qh2, none_list -> qh3, none_int -> qh4, none_bool -> qh5, list_tuple -> qh6, list_str -> qh7, list_none -> qh8, list_int -> qh9, list_bool -> qia, int_tuple -> qib, int_str -> qic, int_none -> qid, int_list -> qie, int_int -> qif, int_bool -> qig, bool_tuple -> qih, bool_str -> qii, bool_none -> qij, bool_list -> qik, bool_int -> qil, bool_bool -> qim
open PySem.SeqAt.RcNeAt renaming tuples -> qev, tuple_str -> qgR, tuple_none -> qgS, tuple_list -> qgT, tuple_int -> qgU, tuple_bool -> qgV, str_tuple -> qgW, str_str -> qgX, str_none -> qgY, str_list -> qgZ, str_int -> qg0, str_bool -> qg1, none_tuple -> qg2, none_str -> qg3, none_none -> qg4, none_list -> qg5, none_int -> qg6, none_bool -> qg7, lists_lengths -> qg8, lists -> qg9, list_tuple -> qha, list_str -> qhb, list_none -> qhc, list_int -> qhd, list_bool -> qhe, int_tuple -> qhf, int_str -> qhg, int_none -> qhh, int_list -> qhi, int_int -> qhj, int_bool -> qhk, bool_tuple -> qhl, bool_str -> qhm, bool_none -> qhn, bool_list -> qho, bool_int -> qhp, bool_bool -> qhq
open PySem.Shared renaming heap -> qe6
open PySem.Str renaming ofString -> qc7
open PySem.W renaming Frag -> qac, keepIn -> qaG, nsIn -> qaK, codeIn -> qaL, fnOf -> qaO, mg_of -> qaT, findIn -> qbh, mg_none_of -> qbn, emptyDict -> qbz, instObj -> qbU, cellsFrom_some -> qcy, hasDictIn -> qc3, plainGet -> qde, plainOver -> qdT, methodObj -> qdU, takerIn -> qee, makesIn -> qef, OpenLaw -> qeg, lookIn -> qeu, callWith_K -> qe8, handedIn -> qfk, WalkO -> qfS, isFn -> qf6
open PySem.W.Looks renaming here -> qgF
open PySem.W.WShape renaming has -> qgE
open PySem.WalksT renaming enumerateD -> qd0
open PySem.Within renaming cons -> qhs
namespace L2
open PySem PySem.Spec PyProof.Rows
abbrev Key:=Sum Int Str
def wq:Key->Value->Bool
 |.inl k,v=>Value.isInt k v
 |.inr x,v=>Value.isStrOf x v
def zF (w:World):Key->Int
 |.inl k=>hashInt k
 |.inr x=>hashStr w x
theorem bS:∀ {k:Key}{v:Value},wq k v=true->(∃ i t,k=Sum.inl i/\v=Value.int i t)\/(∃ x t,k=Sum.inr x/\v=Value.str x t)
 |.inl i,v,h=>by
  obtain⟨t,e⟩:=Value.isInt_shape (k:=i) (v:=v) h
  exact .inl ⟨i,t,rfl,e⟩
 |.inr x,v,h=>by
  obtain⟨t,e⟩:=Value.isStrOf_shape (x:=x) (v:=v) h
  exact .inr ⟨x,t,rfl,e⟩
theorem wT (a b:Int):decide ((Sum.inl a:Key)=Sum.inl b)=(a==b):=by
 by_cases e:a=b
 ·subst e;simp
 ·have h:¬ (Sum.inl a:Key)=Sum.inl b:=λq=>e (Sum.inl.inj q)
  rw[decide_eq_false h]
  exact (beq_eq_false_iff_ne.mpr e).symm
theorem xT (a b:Str):decide ((Sum.inr a:Key)=Sum.inr b)=decide (a=b):=by
 by_cases e:a=b
 ·subst e;simp
 ·have h:¬ (Sum.inr a:Key)=Sum.inr b:=λq=>e (Sum.inr.inj q)
  rw[decide_eq_false h,decide_eq_false e]
theorem xi (a:Int) (b:Str):decide ((Sum.inl a:Key)=Sum.inr b)=false:=decide_eq_false (λq=>nomatch q)
theorem wO (a:Str) (b:Int):decide ((Sum.inr a:Key)=Sum.inl b)=false:=decide_eq_false (λq=>nomatch q)
def mM (prog:qa0) (w:World):PySem.KeyKind prog w Key where
 is:=wq
 hash:=zF w
 inj:=λv a b ha hb=>by
  rcases bS ha with⟨i,t,rfl,rfl⟩|⟨x,t,rfl,rfl⟩
  ·rcases bS hb with⟨j,u,rfl,e⟩|⟨y,u,rfl,e⟩
   ·injection e with e1 _;rw[e1]
   ·exact nomatch e
  ·rcases bS hb with⟨j,u,rfl,e⟩|⟨y,u,rfl,e⟩
   ·exact nomatch e
   ·injection e with e1 _;rw[e1]
 byValue:=λk v h=>by
  rcases bS h with⟨i,t,rfl,rfl⟩|⟨x,t,rfl,rfl⟩<;>rfl
 pyHash:=λhv h=>by
  rcases bS hv with⟨i,t,rfl,rfl⟩|⟨x,t,rfl,rfl⟩
  ·exact wpAny_pyHash_int h
  ·exact wpAny_pyHash_str h
 eqBool:=λhu hv h=>by
  rcases bS hu with⟨i,t,rfl,rfl⟩|⟨x,t,rfl,rfl⟩
  ·rcases bS hv with⟨j,u,rfl,rfl⟩|⟨y,u,rfl,rfl⟩
   ·rw[wT]at h;exact wpAny_eqBool_int h
   ·rw[xi]at h;exact qeR i t y u _ _ _ _ h
  ·rcases bS hv with⟨j,u,rfl,rfl⟩|⟨y,u,rfl,rfl⟩
   ·rw[wO]at h;exact qeQ x t j u _ _ _ _ h
   ·rw[xT]at h;exact wpAny_eqBool_str h
 «strs»:=λk x t v h=>by
  rcases bS h with⟨i,u,rfl,e⟩|⟨y,u,rfl,e⟩
  ·exact nomatch e
  ·injection e with e1 _
   subst e1
   cases v<;>rfl
inductive V where
 |non|bl (b:Bool)|int (i:Int)|str (x:Str)|byt (b:Array UInt8)|flt (b:UInt64)|ref (a:Addr)|ty (n:String)
 deriving DecidableEq
def bo:V->Value->Prop
 |.non,u=>u=Value.none
 |.bl b,u=>u=Value.bool b
 |.int i,u=>∃ t,u=Value.int i t
 |.str x,u=>∃ t,u=Value.str x t
 |.byt b,u=>∃ t,u=Value.bytes b t
 |.flt b,u=>∃ t,u=Value.float b t
 |.ref a,u=>u=Value.ref a
 |.ty n,u=>u=Value.type n
abbrev aJ:List V->List Value->Prop:=qfl bo
theorem aJ.length {xs:List V}{us:List Value} (r:aJ xs us):xs.length=us.length:=qf7 r
theorem aJ.get:∀ {xs:List V}{us:List Value}{i:Nat}{x:V},aJ xs us->xs[i]?=some x->∃ u,us[i]?=some u/\bo x u
 |_,_,_,_,.nil,e=>by simp at e
 |_,_,0,_,.cons r _,e=>by simp at e;subst e;exact⟨_,rfl,r⟩
 |_,_,i+1,x,.cons _ t,e=>by
  obtain⟨u,h1,h2⟩:=aJ.get (i:=i) (x:=x) t (by simpa using e)
  exact⟨u,by simpa using h1,h2⟩
theorem aJ.set {x:V}{u:Value} (r:bo x u):∀ {xs:List V}{us:List Value} (i:Nat),aJ xs us->aJ (xs.set i x) (us.set i u)
 |_,_,_,.nil=>.nil
 |_,_,0,.cons _ t=>.cons r t
 |_,_,i+1,.cons q t=>.cons q (aJ.set r i t)
theorem aJ.append:∀ {xs ys:List V}{us ws:List Value},aJ xs us->aJ ys ws->aJ (xs++ys) (us++ws)
 |_,_,_,_,.nil,s=>s
 |_,_,_,_,.cons r t,s=>.cons r (aJ.append t s)
theorem aJ.take:∀ {xs:List V}{us:List Value} (n:Nat),aJ xs us->aJ (xs.take n) (us.take n)
 |_,_,0,_=>.nil
 |_,_,_+1,.nil=>.nil
 |_,_,n+1,.cons r t=>.cons r (aJ.take n t)
theorem aJ.drop:∀ {xs:List V}{us:List Value} (n:Nat),aJ xs us->aJ (xs.drop n) (us.drop n)
 |_,_,0,r=>r
 |_,_,_+1,.nil=>.nil
 |_,_,n+1,.cons _ t=>aJ.drop n t
def pf:Option V->Option Value->Prop
 |some v,some u=>bo v u
 |none,none=>True
 |_,_=>False
def KV {κ:Type}:List (κ×V)->List (κ×Value)->Prop:=qfl λ(p:κ×V) (q:κ×Value)=>p.1=q.1/\bo p.2 q.2
def kV:Key->V
 |.inl i=>.int i
 |.inr x=>.str x
inductive HO where
 |lst (xs:List V)
 |tup (xs:List V)
 |dK (kvs:List (Key×V))|dT (kvs:List (List Key×V))
 |set (S:Int->Bool) (n:Nat)
 |ins (C dx:Addr) (fs:List (Str×V))
 |own (x:Addr)
 |xd (fs:List (Str×V))
 |met (f x:Addr)
 |rng (lo hi:Int)
 |frz (o:Obj) (u:HO)
 |tbl (ps:Array Value)
 |ext (φ:Heap->Prop)
abbrev Hp:=Addr->Option HO
def upd (H:Hp) (a:Addr) (o:HO):Hp:=λb=>if b=a then some o else H b
theorem upd_same {H:Hp}{a:Addr}{o:HO}:upd H a o a=some o:=by unfold upd;rw[if_pos rfl]
theorem upd_ne {H:Hp}{a b:Addr}{o:HO} (h:b≠a):upd H a o b=H b:=by unfold upd;rw[if_neg h]
theorem aE {H:Hp}{a b:Addr}{o:HO} (h:H a=some o) (h':H b=none):a≠b:=by
 intro e;subst e;rw[h]at h';cases h'
def dC (h:Heap) (a:Addr) (its:Array Value):Prop:=∃ o:Obj,h.get? a=some o/\o.cls=.type "tuple"/\(∃ n,o.data=.seq its n)/\o.dict=none
theorem dC.tup {h:Heap}{a:Addr}{its:Array Value} (x:dC h a its):IsTup h a its:=let ⟨o,e,c,n,_⟩:=x;⟨o,e,c,n⟩
theorem dC.new (h:Heap) (its:Array Value):dC (h.push { cls:=.type "tuple",data:=.seq its }) h.objs.size its:=⟨_,qaA _ rfl,rfl,⟨_,rfl⟩,rfl⟩
section
variable (P:qa0) (w:World)
def dN (H:Hp) (h:Heap) (a:Addr):HO->Prop
 |.lst xs=>xs.length<=qaM/\∃ (its:List Value) (n:Nat),aJ xs its/\h.get? a=some { cls:=.type "list",data:=.seq its.toArray n }
 |.tup xs=>xs.length<=qaM/\∃ its:List Value,aJ xs its/\dC h a its.toArray
 |.dK kvs=>kvs.length<=qaM/\(a==qgC)=false/\∃ vs,KV kvs vs/\h.DictOf (mM P w) a vs
 |.dT kvs=>kvs.length<=qaM/\(a==qgC)=false/\∃ xs:List (List Key×Addr×Value),
   qfl (λ(p:List Key×V) (q:List Key×Addr×Value)=>p.1=q.1/\H q.2.1=some (.tup (p.1.map kV))/\bo p.2 q.2.2) kvs xs/\
   ∃ o es ep,h.get? a=some o/\o.ExactDict/\o.data=.dict es ep/\es.toList=xs.map (entryOfKey (tupleKind (mM P w)))/\(xs.map (·.1)).Nodup
 |.set S n=>h.SetOf (intKind P w) a S n
 |.ins C dx fs=>H dx=some (.own a)/\fs.length<=1000/\dx≠a/\h.get? a=some (qbU C dx)/\
   ∃ mA,h.Ns1 dx mA/\(∀ f,pf (fs.lookup f) (mA f))/\qe3 mA (fs.map (·.1))
 |.own _=>∃ o,h.get? a=some o
 |.xd fs=>∃ mA,h.Ns1 a mA/\∀ f,pf (fs.lookup f) (mA f)
 |.rng lo hi=>∃ t u v,h.get? a=some { cls:=.type "range",data:=.fields #[.int lo t,.int hi u,.int 1 v] }
 |.frz o u=>h.get? a=some o/\dN H h a u
 |.tbl ps=>h.get? a=some { cls:=.none,data:=.fields ps }
 |.met f x=>h.get? a=some (qdU (.ref f) (.ref x))
 |.ext φ=>φ h/\(∃ o,h.get? a=some o)/\∀ h1 h2:Heap,φ h1->(∀ o,h1.get? a=some o->h2.get? a=some o)->φ h2
def HOk (H:Hp) (h:Heap):Prop:=∀ a o,H a=some o->dN P w H h a o
end
section
variable {P:qa0}{w:World}{H H':Hp}{h h':Heap}{a:Addr}{o:HO}
theorem dN.lt (x:dN P w H h a o):a<h.objs.size:=by
 cases o with
 |lst xs=>obtain⟨_,_,_,_,e⟩:=x;exact qax e
 |tup xs=>obtain⟨_,_,_,p⟩:=x;exact p.tup.lt
 |dK kvs=>obtain⟨_,_,_,_,o,_,_,e,_⟩:=x;exact qax e
 |dT kvs=>obtain⟨_,_,_,_,o,_,_,e,_⟩:=x;exact qax e
 |set S n=>obtain⟨o,_,_,_,e,_⟩:=x;exact qax e
 |ins C dx fs=>obtain⟨_,_,_,e,_⟩:=x;exact qax e
 |own y=>obtain⟨_,e⟩:=x;exact qax e
 |xd fs=>obtain⟨_,⟨_,_,_,e,_⟩,_⟩:=x;exact qax e
 |rng lo hi=>obtain⟨_,_,_,e⟩:=x;exact qax e
 |frz ob u=>obtain⟨e,_⟩:=x;exact qax e
 |tbl ps=>exact qax (show h.get? a=some _ from x)
 |met f y=>exact qax (show h.get? a=some _ from x)
 |ext φ=>obtain⟨_,⟨_,e⟩,_⟩:=x;exact qax e
theorem qfl.mapP {α β:Type}{F G:α->β->Prop}:∀ {l₁:List α}{l₂:List β},qfl F l₁ l₂->(∀ a b,F a b->G a b)->qfl G l₁ l₂
 |_,_,.nil,_=>.nil
 |_,_,.cons r t,f=>.cons (f _ _ r) (qfl.mapP t f)
theorem dN.stay (x:dN P w H h a o) (k:∀ b u,(b=a\/H b=some (.own a))->h.get? b=some u->h'.get? b=some u)
  (ho:∀ b,H b=some (.own a)->H' b=some (.own a)) (ht:∀ b xs,H b=some (.tup xs)->H' b=some (.tup xs)):dN P w H' h' a o:=by
 induction o with
 |lst xs=>obtain⟨z,its,n,r,e⟩:=x;exact⟨z,its,n,r,k _ _ (.inl rfl) e⟩
 |tup xs=>obtain⟨z,its,r,ob,e,c⟩:=x;exact⟨z,its,r,ob,k _ _ (.inl rfl) e,c⟩
 |dK kvs=>obtain⟨z,y,vs,r,ob,es,ep,e,c⟩:=x;exact⟨z,y,vs,r,ob,es,ep,k _ _ (.inl rfl) e,c⟩
 |dT kvs=>
  obtain⟨z,y,xs,r,ob,es,ep,e,c⟩:=x
  exact⟨z,y,xs,qfl.mapP r λp q z=>⟨z.1,ht _ _ z.2.1,z.2.2⟩,ob,es,ep,k _ _ (.inl rfl) e,c⟩
 |set S n=>obtain⟨ob,es,ep,t,e,c⟩:=x;exact⟨ob,es,ep,t,k _ _ (.inl rfl) e,c⟩
 |ins C dx fs=>
  obtain⟨d,z,ne,e,mA,⟨od,es,ep,e2,c⟩,r⟩:=x
  exact⟨ho _ d,z,ne,k _ _ (.inl rfl) e,mA,⟨od,es,ep,k _ _ (.inr d) e2,c⟩,r⟩
 |own y=>obtain⟨ob,e⟩:=x;exact⟨ob,k _ _ (.inl rfl) e⟩
 |xd fs=>obtain⟨mA,⟨od,es,ep,e,c⟩,r⟩:=x;exact⟨mA,⟨od,es,ep,k _ _ (.inl rfl) e,c⟩,r⟩
 |rng lo hi=>obtain⟨t,u,v,e⟩:=x;exact⟨t,u,v,k _ _ (.inl rfl) e⟩
 |frz ob u ih=>obtain⟨e,q⟩:=x;exact⟨k _ _ (.inl rfl) e,ih q⟩
 |tbl ps=>
  have e:h.get? a=some { cls:=.none,data:=.fields ps }:=x
  show h'.get? a=some { cls:=.none,data:=.fields ps }
  exact k a _ (.inl rfl) e
 |met f y=>
  have e:h.get? a=some (qdU (.ref f) (.ref y)):=x
  show h'.get? a=some (qdU (.ref f) (.ref y))
  exact k a _ (.inl rfl) e
 |ext φ=>obtain⟨p,⟨o,e⟩,st⟩:=x;exact⟨st _ _ p λo q=>k _ _ (.inl rfl) q,⟨o,k _ _ (.inl rfl) e⟩,st⟩
theorem HOk.lt (x:HOk P w H h) (e:H a=some o):a<h.objs.size:=(x a o e).lt
theorem HOk.fresh (x:HOk P w H h) (e:h.objs.size<=a):H a=none:=by
 cases q:H a with
 |none=>rfl
 |some u=>exact absurd (qaN (x.lt q) e) (qaR _)
theorem HOk.kept (x:HOk P w H h) (k:∀ b u,h.get? b=some u->h'.get? b=some u):HOk P w H h':=λa o e=>
 (x a o e).stay (λb u _ q=>k b u q) (λ_ q=>q) λ_ _ q=>q
theorem HOk.laid (x:HOk P w H h) (k:∀ b u,h.get? b=some u->h'.get? b=some u) (hp:h.objs.size<=a) (new:dN P w (upd H a o) h' a o):HOk P w (upd H a o) h':=λb u e=>by
 have hn:=x.fresh hp
 by_cases hb:b=a
 ·subst hb;rw[upd_same]at e;cases e;exact new
 ·rw[upd_ne hb]at e
  exact (x b u e).stay (λc v _ q=>k c v q) (λc q=>by rw[upd_ne (aE q hn)];exact q) λc xs q=>by rw[upd_ne (aE q hn)];exact q
end
def Rd (H:Hp) (a:Addr) (u:HO):Prop:=H a=some u\/∃ o,H a=some (.frz o u)
theorem Rd.of {H:Hp}{a:Addr}{u:HO} (h:H a=some u):Rd H a u:=.inl h
theorem Rd.ok {P:qa0}{w:World}{H:Hp}{h:Heap}{a:Addr}{u:HO} (r:Rd H a u) (x:HOk P w H h):dN P w H h a u:=by
 rcases r with r|⟨o,r⟩
 ·exact x a u r
 ·obtain⟨_,q⟩:=x a _ r
  exact q
def Mut:Option HO->Prop
 |some (.lst _)=>True
 |some (.dK _)=>True
 |some (.dT _)=>True
 |some (.set _ _)=>True
 |some (.ins _ _ _)=>True
 |some (.ext _)=>True
 |_=>False
section
variable {P:qa0}{w:World}{H:Hp}{h h':Heap}{x e:Addr}{o':HO}
theorem HOk.write (ok:HOk P w H h) (mu:Mut (H x)) (he:e=x\/H e=some (.own x)) (k:∀ b u,b≠e->h.get? b=some u->h'.get? b=some u) (heo:∃ u,h'.get? e=some u)
  (new:dN P w (upd H x o') h' x o'):HOk P w (upd H x o') h':=λb u q=>by
 have nown:∀ c y,H c=some (.own y)->c≠x:=λc y r z=>by subst z;rw[r]at mu;exact mu
 have ntup:∀ c xs,H c=some (.tup xs)->c≠x:=λc xs r z=>by subst z;rw[r]at mu;exact mu
 by_cases hb:b=x
 ·subst hb;rw[upd_same]at q;cases q;exact new
 ·rw[upd_ne hb]at q
  by_cases hbe:b=e
  ·have q':H b=some (.own x):=by
    rcases he with z|z
    ·exact absurd (hbe.trans z) hb
    ·rw[hbe];exact z
   rw[q]at q';cases q'
   obtain⟨v,hv⟩:=heo
   exact⟨v,by rw[hbe];exact hv⟩
  ·refine (ok b u q).stay (λc v hc r=>k c v ?_ r) (λc r=>by rw[upd_ne (nown c b r)];exact r) λc xs r=>by rw[upd_ne (ntup c xs r)];exact r
   rcases hc with rfl|hc
   ·exact hbe
   ·rintro rfl
    rcases he with z|z
    ·exact nown c b hc z
    ·rw[hc]at z;cases z;exact hb rfl
end
structure Un (fs ex:List Addr) (H H':Hp) (h h':Heap):Prop where
 keep:∀ b o,h.get? b=some o->H b=none->b∉fs->b∉ex->h'.get? b=some o
 slot:∀ b o,h.get? b=some o->H b=none->b∈fs->b∉ex->∃ sl,h'.get? b=some { o with slots:=sl }
 free:∀ b o,h.get? b=some o->H b=none->b∉ex->H' b=none
 there:∀ b o,h.get? b=some o->b∉ex->∃ o',h'.get? b=some o'
 tups:∀ b xs,H b=some (.tup xs)->H' b=some (.tup xs)
 frzs:∀ b o u,H b=some (.frz o u)->H' b=some (.frz o u)
 tbls:∀ b ps,H b=some (.tbl ps)->∃ more,H' b=some (.tbl (ps++more))
section
variable {fs fs' ex ex':List Addr}{H H1 H2:Hp}{h h1 h2 h':Heap}{a x e:Addr}{o:HO}
theorem Un.any (u:Un fs ex H H1 h h1) {b:Addr}{ob:Obj} (q:h.get? b=some ob) (n:H b=none) (hx:b∉ex):∃ sl,h1.get? b=some { ob with slots:=sl }:=by
 by_cases hb:b∈fs
 ·exact u.slot b ob q n hb hx
 ·exact⟨ob.slots,u.keep b ob q n hb hx⟩
theorem Un.kept (k:∀ b u,h.get? b=some u->h'.get? b=some u):Un fs ex H H h h':=
 ⟨λb ob q _ _ _=>k b ob q,λb ob q _ _ _=>⟨ob.slots,k b ob q⟩,λ_ _ _ n _=>n,λb ob q _=>⟨ob,k b ob q⟩,λ_ _ q=>q,λ_ _ _ q=>q,λ_ ps q=>⟨#[],by rw[q];simp⟩⟩
theorem Un.refl:Un fs ex H H h h:=Un.kept λ_ _ q=>q
theorem Un.laid (k:∀ b u,h.get? b=some u->h'.get? b=some u) (hp:h.objs.size<=a) (hn:H a=none):Un fs ex H (upd H a o) h h' where
 keep:=λb u q _ _ _=>k b u q
 slot:=λb u q _ _ _=>⟨u.slots,k b u q⟩
 free:=λb u q n _=>by rw[upd_ne (qaP (qaN (qax q) hp))];exact n
 there:=λb u q _=>⟨u,k b u q⟩
 tups:=λb xs q=>by rw[upd_ne (aE q hn)];exact q
 frzs:=λb u xs q=>by rw[upd_ne (aE q hn)];exact q
 tbls:=λb ps q=>⟨#[],by rw[upd_ne (aE q hn),q];simp⟩
theorem Un.write (mu:Mut (H x)) (he:e=x\/H e=some (.own x)) (k:∀ b u,b≠e->h.get? b=some u->h'.get? b=some u) (heo:∃ u,h'.get? e=some u):Un fs ex H (upd H x o) h h':=by
 have hx:∀ b,H b=none->b≠x:=λb n z=>by subst z;rw[n]at mu;exact mu
 have hb:∀ b,H b=none->b≠e:=λb n z=>by
  subst z
  rcases he with r|r
  ·exact hx b n r
  ·rw[n]at r;cases r
 have hm:∀ b u,H b=some u->¬ Mut (some u)->b≠x:=λb u q nm z=>by subst z;rw[q]at mu;exact nm mu
 refine⟨λb u q n _ _=>k b u (hb b n) q,λb u q n _ _=>⟨u.slots,k b u (hb b n) q⟩,λb u q n _=>by rw[upd_ne (hx b n)];exact n,λb u q _=>?_,
  λb xs q=>by rw[upd_ne (hm b _ q λz=>z)];exact q,λb u xs q=>by rw[upd_ne (hm b _ q λz=>z)];exact q,λb ps q=>⟨#[],by rw[upd_ne (hm b _ q λz=>z),q];simp⟩⟩
 by_cases hbe:b=e
 ·subst hbe;exact heo
 ·exact⟨u,k b u hbe q⟩
end
def trk (h:Heap) (H:Hp):List Addr:=(qag h.objs.size).filter λa=>(H a).isSome
def mL (h:Heap) (H:Hp):Heap:=PySem.W.hideAll h (trk h H)
theorem sA (h:Heap) (H:Hp):(mL h H).objs.size=h.objs.size:=PySem.W.hideAll_size _ _
theorem sW {h:Heap}{H:Hp}{b:Addr}{o:Obj} (e:h.get? b=some o) (n:H b=none):(mL h H).get? b=some o:=
 PySem.W.hideAll_get _ e λhm=>by
  have q:(H b).isSome=true:=(qcC.mp hm).2
  rw[n]at q;simp at q
theorem vB {h:Heap}{H:Hp}{b:Addr}{o:Obj} (e:(mL h H).get? b=some o):h.get? b=some o/\H b=none:=by
 have e':h.get? b=some o:=PySem.W.of_hideAll (trk h H) e
 refine⟨e',?_⟩
 cases q:H b with
 |none=>rfl
 |some x=>
  have hm:b∈trk h H:=qcC.mpr ⟨qaB.mpr (qax e'),by simp[q]⟩
  have z:(mL h H).get? b=none:=PySem.W.hideAll_none (trk h H) hm
  rw[z]at e;cases e
structure Mod (K:qac) (mg:Str->Option Value) (base:Heap):Prop where
 kin:K.In base
 glob:base.Ns qaE mg
 blt:∃ mb,base.Ns qfj mb/\∀ x:Str,x≠"__name__"->mb x=qcG x
 nolimit:base.NoLimit
structure Cx where
 prog:qa0
 w:World
 K:qac
 mg:Str->Option Value
 base:Heap
 A:qbb
 N:List Str
 s₀:qak
 H₀:Hp
 env:Env
 outer:List Env
 stack:List Env
 ex:List Addr
 fn:Str->Bool
 calm:Bool
 pn:List (Addr×Obj)
 xe:Value->qak->Prop
def frs (l:List Env):List Addr:=l.filterMap (·.frame)
abbrev Cx.fs (X:Cx):List Addr:=frs X.outer
def Vis (sc:Scope) (x:Str):Prop:=sc.names.lookup x=some .local\/sc.names.lookup x=some .cell\/sc.names.lookup x=some .free
def Loc (sc:Scope) (x:Str):Prop:=sc.names.lookup x=some .local\/sc.names.lookup x=some .cell
def zY (env:Env) (h:Heap) (m:Str->Option Value) (x:Str) (u:Value):Prop:=
 (env.kindOf x=some .local/\m x=some u)\/((env.kindOf x=some .cell\/env.kindOf x=some .free)/\∃ c,env.cells.lookup x=some c/\h.IsCell c (some u))
structure Cx.Ok (X:Cx):Prop where
 mod:Mod X.K X.mg X.base
 kind:X.env.scope.kind=.function
 glob:X.env.globals=qaE
 blt:X.env.builtins=qfj
 above:X.s₀.heap.objs.size<=X.env.locals
 inj:∀ x y c,X.env.cells.lookup x=some c->X.env.cells.lookup y=some c->x=y
 has:∀ x,(X.env.kindOf x=some .cell\/X.env.kindOf x=some .free)->∃ c,X.env.cells.lookup x=some c
 cab:∀ x c,X.fn x=true->X.env.cells.lookup x=some c->X.s₀.heap.objs.size<=c
 hd:X.calm=true->X.A.handled=none
 frames:X.A.frames=some X.stack
 stk:X.stack=X.outer\/(X.stack=X.env::X.outer/\X.env.frame=some X.env.locals)
 exf:∀ b∈X.ex,b≠X.env.locals/\∀ x c,X.env.cells.lookup x=some c->c≠b
 bs:∀ b o,X.base.get? b=some o->X.s₀.heap.get? b=some o/\X.H₀ b=none
 bsz:X.base.objs.size<=X.s₀.heap.objs.size
 noex:∀ b o,X.base.get? b=some o->b∉X.ex
 exfs:∀ b∈X.ex,b∉X.fs
 funs:X.s₀.heap.FunFrames X.base X.outer
 frf:∀ b∈X.fs,X.H₀ b=none
structure Inv (X:Cx) (pins:List (Addr×Obj)) (σ:List (Option V)) (H:Hp) (s:qak):Prop where
 ok:X.Ok
 os:s.os=X.s₀.os
 bare:qej s.gens
 base:Un X.fs X.ex X.H₀ H X.s₀.heap s.heap
 loc:∃ m,s.heap.Ns X.env.locals m/\∀ (i:Nat) (x:Str) (v:V),X.N[i]?=some x->σ[i]?=some (some v)->Vis X.env.scope x->∃ u,bo v u/\zY X.env s.heap m x u
 cell:∀ x c,X.env.cells.lookup x=some c->∃ v,s.heap.IsCell c v
 free:H X.env.locals=none
 freeC:∀ x c,X.env.cells.lookup x=some c->H c=none
 pin:∀ p∈X.pn++pins,s.heap.get? p.1=some p.2/\H p.1=none/\p.1≠X.env.locals/\p.1∉X.fs/\∀ v,p.2.data≠.cell v
 hok:HOk X.prog X.w H s.heap
 len:σ.length=X.N.length
section
variable {X:Cx}{pins:List (Addr×Obj)}{σ:List (Option V)}{H H':Hp}{s:qak}{h':Heap}
theorem Cx.Ok.nofr (ok:X.Ok) {b:Addr}{o:Obj} (e:X.base.get? b=some o):b∉X.fs:=λhb=>by
 have:=(ok.funs.mem hb).1
 rw[e]at this;cases this
theorem Inv.bs (I:Inv X pins σ H s):∀ b o,X.base.get? b=some o->s.heap.get? b=some o/\H b=none:=λb o e=>
 ⟨I.base.keep b o (I.ok.bs b o e).1 (I.ok.bs b o e).2 (I.ok.nofr e) (I.ok.noex b o e),I.base.free b o (I.ok.bs b o e).1 (I.ok.bs b o e).2 (I.ok.noex b o e)⟩
theorem Inv.bk (I:Inv X pins σ H s):∀ b o,X.base.get? b=some o->s.heap.get? b=some o:=λb o e=>(I.bs b o e).1
theorem Inv.mod (I:Inv X pins σ H s):Mod X.K X.mg X.base:=I.ok.mod
theorem Inv.kIn (I:Inv X pins σ H s):X.K.In s.heap:=I.ok.mod.kin.keeps I.bk
theorem Inv.fr (I:Inv X pins σ H s):∃ m,Fr X.base X.env.locals s.heap m:=
 let ⟨m,hn,_⟩:=I.loc
 ⟨m,hn,I.bk,qa3 I.ok.bsz I.ok.above⟩
theorem Inv.lt (I:Inv X pins σ H s):X.env.locals<s.heap.objs.size:=let ⟨_,hn,_⟩:=I.loc;hn.lt
theorem Inv.sz (I:Inv X pins σ H s):X.s₀.heap.objs.size<=s.heap.objs.size:=qa3 I.ok.above (qen I.lt)
theorem Inv.nofs (I:Inv X pins σ H s) {a:Addr} (h:s.heap.objs.size<=a):a∉X.fs:=λhb=>by
 obtain⟨_,o,ho,_⟩:=I.ok.funs.mem hb
 exact absurd (qaN (qax ho) (qa3 I.sz h)) (qaR _)
theorem Inv.cne (I:Inv X pins σ H s):∀ x c,X.env.cells.lookup x=some c->c≠X.env.locals:=λx c e z=>by
 obtain⟨v,o,ho,hd⟩:=I.cell x c e
 obtain⟨m,⟨o',es,ep,ho',hd',_⟩,_⟩:=I.loc
 rw[z,ho']at ho;cases ho;rw[hd']at hd;cases hd
theorem Inv.funs (I:Inv X pins σ H s):s.heap.FunFrames X.base X.outer:=by
 have all:∀ (l:List Env),(∀ b∈frs l,b∈X.fs)->X.s₀.heap.FunFrames X.base l->s.heap.FunFrames X.base l:=by
  intro l
  induction l with
  |nil=>intro _ _;trivial
  |cons env r ih=>
   intro hs hl
   obtain⟨hk,⟨L,o,hf,hn,ho,hd⟩,hr⟩:=hl
   have hL:L∈X.fs:=hs L (by unfold frs;rw[qdK,hf];exact qae)
   obtain⟨sl,e⟩:=I.base.slot L o ho (I.ok.frf L hL) hL λz=>I.ok.exfs L z hL
   exact⟨hk,⟨L,_,hf,hn,e,hd⟩,ih (λb hb=>hs b (by unfold frs;rw[qdK,hf];exact qah _ hb)) hr⟩
 exact all X.outer (λ_ hb=>hb) I.ok.funs
theorem Inv.stack (I:Inv X pins σ H s):s.heap.FunFrames X.base X.stack:=by
 rcases I.ok.stk with e|⟨e,hf⟩
 ·rw[e];exact I.funs
 ·rw[e]
  obtain⟨m,hn,_⟩:=I.loc
  refine .cons (by rw[I.ok.kind];decide) hf hn ?_ I.funs
  exact Heap.get?_none_of_le (qa3 I.ok.bsz I.ok.above)
theorem Inv.stkSub (I:Inv X pins σ H s):∀ b∈frs X.stack,b∈X.env.locals::X.fs:=λb hb=>by
 rcases I.ok.stk with e|⟨e,hf⟩
 ·rw[e]at hb;exact qah _ hb
 ·rw[e]at hb
  unfold frs at hb
  rw[qdK,hf]at hb
  exact hb
theorem Inv.stkFree (I:Inv X pins σ H s):∀ b∈frs X.stack,H b=none:=λb hb=>by
 rcases qaH.mp (I.stkSub b hb) with e|hb
 ·rw[e];exact I.free
 ·obtain⟨_,o,ho,_⟩:=I.ok.funs.mem hb
  exact I.base.free b o ho (I.ok.frf b hb) λz=>I.ok.exfs b z hb
theorem Inv.step {g':Array GenState}{t':Nat}{d':Drawn}{ch:List Addr} (I:Inv X pins σ H s)
  (hch:∀ b∈ch,(b∈X.ex\/X.s₀.heap.objs.size<=b)/\b≠X.env.locals/\(∀ x c,X.env.cells.lookup x=some c->c≠b)/\∀ p∈X.pn++pins,p.1≠b)
  (keep:∀ b o,b≠X.env.locals->b∉X.fs->b∉ch->s.heap.get? b=some o->H b=none->h'.get? b=some o)
  (slot:∀ b o,b≠X.env.locals->b∈X.fs->b∉ch->s.heap.get? b=some o->H b=none->∃ sl,h'.get? b=some { o with slots:=sl }) (free:∀ b o,b∉ch->s.heap.get? b=some o->H b=none->H' b=none)
  (there:∀ b o,b∉ch->s.heap.get? b=some o->∃ o',h'.get? b=some o')
  (tups:∀ b xs,H b=some (.tup xs)->H' b=some (.tup xs)) (frzs:∀ b o u,H b=some (.frz o u)->H' b=some (.frz o u)) (tbls:∀ b ps,H b=some (.tbl ps)->∃ more,H' b=some (.tbl (ps++more)))
  (ns:∀ m,s.heap.Ns X.env.locals m->h'.Ns X.env.locals m) (hok:HOk X.prog X.w H' h') (hg:qej g') :
  Inv X pins σ H' { s with heap:=h',gens:=g',drawn:=d',toks:=t' }:=by
 have neL:∀ b o,X.s₀.heap.get? b=some o->b≠X.env.locals:=λb o e=>qaP (qaN (qax e) I.ok.above)
 have neC:∀ b o,X.s₀.heap.get? b=some o->b∉X.ex->b∉ch:=λb o e hx hb=>by
  rcases (hch b hb).1 with z|z
  ·exact hx z
  ·exact absurd (qaN (qax e) z) (qaR _)
 have cellK:∀ x c,X.env.cells.lookup x=some c->∀ v,s.heap.IsCell c v->h'.IsCell c v:=λx c e v ⟨o,ho,hd⟩=>by
  have nch:c∉ch:=λz=>(hch c z).2.2.1 x c e rfl
  by_cases hc:c∈X.fs
  ·obtain⟨sl,q⟩:=slot c o (I.cne x c e) hc nch ho (I.freeC x c e)
   exact⟨_,q,hd⟩
  ·exact⟨o,keep c o (I.cne x c e) hc nch ho (I.freeC x c e),hd⟩
 refine⟨I.ok,I.os,hg,⟨λb o e n hb hx=>?_,λb o e n hb hx=>?_,λb o e n hx=>?_,λb o e hx=>?_,λb xs e=>tups b xs (I.base.tups b xs e),λb o xs e=>frzs b o xs (I.base.frzs b o xs e),λb ps e=>?_⟩,?_,λx c e=>?_,?_,λx c e=>?_,λp hp=>?_,hok,I.len⟩
 ·exact keep b o (neL b o e) hb (neC b o e hx) (I.base.keep b o e n hb hx) (I.base.free b o e n hx)
 ·obtain⟨sl,e1⟩:=I.base.slot b o e n hb hx
  obtain⟨sl',e2⟩:=slot b _ (neL b o e) hb (neC b o e hx) e1 (I.base.free b o e n hx)
  exact⟨sl',e2⟩
 ·obtain⟨o',e1⟩:=I.base.there b o e hx
  exact free b o' (neC b o e hx) e1 (I.base.free b o e n hx)
 ·obtain⟨o',e1⟩:=I.base.there b o e hx
  exact there b o' (neC b o e hx) e1
 ·obtain⟨m1,e1⟩:=I.base.tbls b ps e
  obtain⟨m2,e2⟩:=tbls b _ e1
  exact⟨m1++m2,by rw[e2,Array.append_assoc]⟩
 ·obtain⟨m,hn,hl⟩:=I.loc
  refine⟨m,ns m hn,λi x v e1 e2 e3=>?_⟩
  obtain⟨u,r,l⟩:=hl i x v e1 e2 e3
  refine⟨u,r,?_⟩
  rcases l with l|⟨k,c,e,z⟩
  ·exact .inl l
  ·exact .inr ⟨k,c,e,cellK x c e _ z⟩
 ·obtain⟨v,z⟩:=I.cell x c e
  exact⟨v,cellK x c e v z⟩
 ·obtain⟨m,⟨o,_,_,ho,_⟩,_⟩:=I.loc
  exact free _ o (λz=>(hch _ z).2.1 rfl) ho I.free
 ·obtain⟨v,o,ho,hd⟩:=I.cell x c e
  exact free c o (λz=>(hch c z).2.2.1 x c e rfl) ho (I.freeC x c e)
 ·obtain⟨e,n,ne,nf,d⟩:=I.pin p hp
  have nch:p.1∉ch:=λz=>(hch p.1 z).2.2.2 p hp rfl
  exact⟨keep p.1 p.2 ne nf nch e n,free p.1 p.2 nch e n,ne,nf,d⟩
theorem Inv.un {t':Nat} (I:Inv X pins σ H s) (u:Un X.fs [] H H' s.heap h') (hok:HOk X.prog X.w H' h'):Inv X pins σ H' { s with heap:=h',toks:=t' }:=by
 obtain⟨m,⟨o,es,ep,ho,r⟩,_⟩:=id I.loc
 obtain⟨sl,hL⟩:=u.any ho I.free (by simp)
 exact I.step (g':=s.gens) (d':=s.drawn) (ch:=[]) (λ_ z=>nomatch z) (λb o _ hb _ e n=>u.keep b o e n hb (by simp)) (λb o _ hb _ e n=>u.slot b o e n hb (by simp)) (λb o _ e n=>u.free b o e n (by simp)) (λb o _ e=>u.there b o e (by simp)) u.tups u.frzs u.tbls (λm' hm=>by
  obtain⟨o',es',ep',ho',r'⟩:=hm
  rw[ho]at ho';cases ho'
  exact⟨_,es',ep',hL,r'⟩) hok I.bare
theorem Inv.call {g':Array GenState}{t':Nat}{d':Drawn}{ch:List Addr} (I:Inv X pins σ H s) (u:Un (frs X.stack) ch H H' s.heap h') (hok:HOk X.prog X.w H' h') (hg:qej g')
  (hch:∀ b∈ch,(b∈X.ex\/X.s₀.heap.objs.size<=b)/\b≠X.env.locals/\(∀ x c,X.env.cells.lookup x=some c->c≠b)/\∀ p∈X.pn++pins,p.1≠b) :
  Inv X pins σ H' { s with heap:=h',gens:=g',drawn:=d',toks:=t' }:=by
 obtain⟨m,⟨o,es,ep,ho,r⟩,_⟩:=id I.loc
 obtain⟨sl,hL⟩:=u.any ho I.free λz=>(hch _ z).2.1 rfl
 exact I.step (ch:=ch) hch (λb o hL hb hc e n=>u.keep b o e n (λz=>(qaH.mp (I.stkSub b z)).elim hL hb) hc) (λb o _ _ hc e n=>u.any e n hc) (λb o hc e n=>u.free b o e n hc) (λb o hc e=>u.there b o e hc) u.tups u.frzs u.tbls (λm' hm=>by
  obtain⟨o',es',ep',ho',r'⟩:=hm
  rw[ho]at ho';cases ho'
  exact⟨_,es',ep',hL,r'⟩) hok hg
theorem Inv.turned {t':Nat}{it:Addr} (I:Inv X pins σ H s) (k:∀ b o,b≠it->s.heap.get? b=some o->h'.get? b=some o) (hn:H it=none) (hL:it≠X.env.locals)
  (h1:it∈X.ex\/X.s₀.heap.objs.size<=it) (h2:∀ x c,X.env.cells.lookup x=some c->c≠it) (h3:∀ p∈X.pn++pins,p.1≠it):Inv X pins σ H { s with heap:=h',toks:=t' }:=by
 have nit:∀ b u,H b=some u->b≠it:=λb u e z=>by rw[z,hn]at e;cases e
 refine I.step (g':=s.gens) (d':=s.drawn) (ch:=[it]) (λb hb=>?_) (λb o _ _ hc e _=>k b o (λz=>hc (by simp[z])) e) (λb o _ _ hc e _=>⟨o.slots,k b o (λz=>hc (by simp[z])) e⟩) (λ_ _ _ _ n=>n)
  (λb o hc e=>⟨o,k b o (λz=>hc (by simp[z])) e⟩) (λ_ _ e=>e) (λ_ _ _ e=>e) (λb ps e=>⟨#[],by rw[e];simp⟩) (λm hm=>?_) (λb u e=>?_) I.bare
 ·have e:b=it:=by simpa using hb
  subst e
  exact⟨h1,hL,h2,h3⟩
 ·obtain⟨o,es,ep,ho,r⟩:=hm
  exact⟨o,es,ep,k _ o (qbo hL) ho,r⟩
 ·refine (I.hok b u e).stay (λc v hc q=>k c v ?_ q) (λ_ q=>q) λ_ _ q=>q
  rcases hc with z|z
  ·rw[z];exact nit b u e
  ·exact nit c _ z
theorem Inv.tok (I:Inv X pins σ H s) (t:Nat):Inv X pins σ H { s with toks:=t }:=I.un (h':=s.heap) (t':=t) Un.refl I.hok
theorem Inv.kept {t':Nat} (I:Inv X pins σ H s) (k:∀ b u,s.heap.get? b=some u->h'.get? b=some u):Inv X pins σ H { s with heap:=h',toks:=t' }:=I.un (Un.kept k) (I.hok.kept k)
theorem Inv.laid {a:Addr}{o:HO}{t':Nat} (I:Inv X pins σ H s) (k:∀ b u,s.heap.get? b=some u->h'.get? b=some u) (hp:s.heap.objs.size<=a) (new:dN X.prog X.w (upd H a o) h' a o) :
  Inv X pins σ (upd H a o) { s with heap:=h',toks:=t' }:=I.un (Un.laid k hp (I.hok.fresh hp)) (I.hok.laid k hp new)
theorem Inv.write {x e:Addr}{o:HO}{t':Nat} (I:Inv X pins σ H s) (mu:Mut (H x)) (he:e=x\/H e=some (.own x)) (k:∀ b u,b≠e->s.heap.get? b=some u->h'.get? b=some u) (heo:∃ u,h'.get? e=some u)
  (new:dN X.prog X.w (upd H x o) h' x o):Inv X pins σ (upd H x o) { s with heap:=h',toks:=t' }:=I.un (Un.write mu he k heo) (I.hok.write mu he k heo new)
theorem Inv.weak {σ':List (Option V)} (I:Inv X pins σ H s) (hl:σ'.length=σ.length) (w:∀ (i:Nat) v,σ'[i]?=some (some v)->σ[i]?=some (some v)):Inv X pins σ' H s:=
 ⟨I.ok,I.os,I.bare,I.base,let ⟨m,hn,hl'⟩:=I.loc;⟨m,hn,λi x v e1 e2 e3=>hl' i x v e1 (w i v e2) e3⟩,I.cell,I.free,I.freeC,I.pin,I.hok,hl.trans I.len⟩
theorem Inv.pins_of {pins':List (Addr×Obj)} (I:Inv X pins σ H s) (h:∀ p∈pins',s.heap.get? p.1=some p.2/\H p.1=none/\p.1≠X.env.locals/\p.1∉X.fs/\∀ v,p.2.data≠.cell v):Inv X pins' σ H s:=
 ⟨I.ok,I.os,I.bare,I.base,I.loc,I.cell,I.free,I.freeC,λp hp=>(qaQ.mp hp).elim (λz=>I.pin p (qaU _ z)) (h p),I.hok,I.len⟩
theorem oV {N:List Str} (hN:N.Nodup) {i j:Nat}{x:Str} (a:N[i]?=some x) (b:N[j]?=some x):i=j:=by
 obtain⟨h1,e1⟩:=qan.mp a
 obtain⟨h2,e2⟩:=qan.mp b
 exact (qep hN).mp (e1.trans e2.symm)
theorem rR {M:Model}{A:qbb}{E:Value->qak->Prop}{i:Nat}{x:Str}{v:V}{u:Value}{Q:Unit->qak->Prop} (I:Inv X pins σ H s) (hN:X.N.Nodup) (hi:X.N[i]?=some x) (hx:Loc X.env.scope x) (r:bo v u)
  (h:∀ s',Inv X pins (σ.set i (some v)) H s'->(∃ a,qc6 a s.heap s'.heap/\(a=X.env.locals\/X.env.cells.lookup x=some a))->Q () s') (hf:X.fn x=true\/X.env.scope.names.lookup x=some .local:=by first|exact .inl rfl|exact .inr rfl|assumption):wpAny M A (storeName X.env x u) Q E s:=by
 obtain⟨m,hn,hl⟩:=id I.loc
 have hcls:(X.env.scope.kind==.class||(X.env.scope.kind==.module&&X.env.locals != X.env.globals))=false:=by rw[I.ok.kind];rfl
 have hiσ:i<σ.length:=by rw[I.len];exact (qan.mp hi).1
 have cne:=I.cne
 have tracked:∀ {a:Addr}{h':Heap},(∃ o,s.heap.get? a=some o/\H a=none)->qc6 a s.heap h'->HOk X.prog X.w H h':=λ{a h'} ha hs b ob e=>by
  obtain⟨_,_,hfree⟩:=ha
  refine (I.hok b ob e).stay (λc w' hc q=>(hs.2 c ?_).trans q) (λ_ q=>q) λ_ _ q=>q
  rintro rfl
  rcases hc with rfl|hc
  ·rw[hfree]at e;cases e
  ·rw[hfree]at hc;cases hc
 rcases hx with hk|hk
 ·refine wpAny_storeName_local hk hn (λh' hn' hs=>?_) hcls
  obtain⟨oL,_,_,hoL,_⟩:=id hn
  refine h _ ⟨I.ok,I.os,I.bare,⟨λb o e n hb hx=>?_,λb o e n hb hx=>?_,I.base.free,λb o e hx=>?_,I.base.tups,I.base.frzs,I.base.tbls⟩,⟨_,hn',λj y v' e1 e2 e3=>?_⟩,λy c e=>?_,I.free,I.freeC,λp hp=>?_,tracked ⟨oL,hoL,I.free⟩ hs,by simpa using I.len⟩ ⟨_,hs,.inl rfl⟩
  ·exact (hs.2 b (qaP (qaN (qax e) I.ok.above))).trans (I.base.keep b o e n hb hx)
  ·obtain⟨sl,e1⟩:=I.base.slot b o e n hb hx
   exact⟨sl,(hs.2 b (qaP (qaN (qax e) I.ok.above))).trans e1⟩
  ·obtain⟨o',e1⟩:=I.base.there b o e hx
   exact⟨o',(hs.2 b (qaP (qaN (qax e) I.ok.above))).trans e1⟩
  ·by_cases hj:j=i
   ·subst hj
    rw[hi]at e1;cases e1
    rw[qa5 hiσ]at e2
    cases e2
    exact⟨u,r,.inl ⟨hk,by simp⟩⟩
   ·rw[qbc (qbo hj)]at e2
    obtain⟨u',r',q⟩:=hl j y v' e1 e2 e3
    refine⟨u',r',?_⟩
    rcases q with⟨k,e⟩|⟨k,c,e,z⟩
    ·refine .inl ⟨k,?_⟩
     have:y≠x:=λe=>hj (oV hN e1 (e ▸ hi))
     simp[this,e]
    ·exact .inr ⟨k,c,e,z.sameBut hs (cne y c e)⟩
  ·obtain⟨w',z⟩:=I.cell y c e
   exact⟨w',z.sameBut hs (cne y c e)⟩
  ·obtain⟨e,n,ne,nf,d⟩:=I.pin p hp
   exact⟨(hs.2 p.1 ne).trans e,n,ne,nf,d⟩
 ·have hfn:X.fn x=true:=by
   rcases hf with z|z
   ·exact z
   ·rw[z]at hk;cases hk
  obtain⟨c,hc⟩:=I.ok.has x (.inl hk)
  obtain⟨w',z⟩:=I.cell x c hc
  refine wpAny_storeName_cell I.ok.kind hk hc z (λh' hc' hs=>?_)
  obtain⟨oc,hoc,hocd⟩:=id z
  refine h { s with heap:=h' } ⟨I.ok,I.os,I.bare,⟨λb o e n hb hx=>?_,λb o e n hb hx=>?_,I.base.free,λb o e hx=>?_,I.base.tups,I.base.frzs,I.base.tbls⟩,⟨m,hn.sameBut hs (qbo (cne x c hc)),λj y v' e1 e2 e3=>?_⟩,λy c' e=>?_,I.free,I.freeC,λp hp=>?_,tracked ⟨oc,hoc,I.freeC x c hc⟩ hs,by simpa using I.len⟩ ⟨c,hs,.inr hc⟩
  ·exact (hs.2 b (qaP (qaN (qax e) (I.ok.cab x c hfn hc)))).trans (I.base.keep b o e n hb hx)
  ·obtain⟨sl,e1⟩:=I.base.slot b o e n hb hx
   exact⟨sl,(hs.2 b (qaP (qaN (qax e) (I.ok.cab x c hfn hc)))).trans e1⟩
  ·obtain⟨o',e1⟩:=I.base.there b o e hx
   exact⟨o',(hs.2 b (qaP (qaN (qax e) (I.ok.cab x c hfn hc)))).trans e1⟩
  ·by_cases hj:j=i
   ·subst hj
    rw[hi]at e1;cases e1
    rw[qa5 hiσ]at e2
    cases e2
    exact⟨u,r,.inr ⟨.inl hk,c,hc,hc'⟩⟩
   ·rw[qbc (qbo hj)]at e2
    obtain⟨u',r',q⟩:=hl j y v' e1 e2 e3
    refine⟨u',r',?_⟩
    rcases q with q|⟨k,c',e,z'⟩
    ·exact .inl q
    ·refine .inr ⟨k,c',e,z'.sameBut hs ?_⟩
     rintro rfl
     exact hj (oV hN e1 (I.ok.inj _ _ _ e hc ▸ hi))
  ·by_cases hcc:c'=c
   ·subst hcc;exact⟨_,hc'⟩
   ·obtain⟨w2,z2⟩:=I.cell y c' e
    exact⟨w2,z2.sameBut hs hcc⟩
  ·obtain⟨e,n,ne,nf,d⟩:=I.pin p hp
   refine⟨(hs.2 p.1 ?_).trans e,n,ne,nf,d⟩
   intro q
   rw[q,hoc]at e
   have q':oc=p.2:=qaS e
   exact d w' (by rw[<-q'];exact hocd)
theorem lu {M:Model}{A:qbb}{E:Value->qak->Prop}{i:Nat}{x:Str}{v:V}{u:Value}{Q:Unit->qak->Prop} (I:Inv X pins σ H s) (hN:X.N.Nodup) (hi:X.N[i]?=some x) (hx:Loc X.env.scope x) (r:bo v u)
  (h:∀ s',Inv X pins (σ.set i (some v)) H s'->Q () s') (hf:X.fn x=true\/X.env.scope.names.lookup x=some .local:=by first|exact .inl rfl|exact .inr rfl|assumption):wpAny M A (storeName X.env x u) Q E s:=
 rR I hN hi hx r (λs' I' _=>h s' I') hf
theorem Inv.call' {s':qak}{ch:List Addr} (I:Inv X pins σ H s) (ho:s'.os=s.os) (u:Un (frs X.stack) ch H H' s.heap s'.heap) (hok:HOk X.prog X.w H' s'.heap) (hg:qej s'.gens)
  (hch:∀ b∈ch,(b∈X.ex\/X.s₀.heap.objs.size<=b)/\b≠X.env.locals/\(∀ x c,X.env.cells.lookup x=some c->c≠b)/\∀ p∈X.pn++pins,p.1≠b):Inv X pins σ H' s':=by
 obtain⟨h',g',d',t',o'⟩:=s'
 have e:o'=s.os:=ho
 subst e
 exact I.call (g':=g') (t':=t') (d':=d') u hok hg hch
end
abbrev XK:=Value->Option Addr->Hp->Prop
abbrev St:=List (Option V)
abbrev VK:=V->Hp->Prop
abbrev TE:=St->Hp->VK->Prop
abbrev TT:=St->Hp->(Bool->Hp->Prop)->Prop
abbrev TA:=St->Hp->(List V->Hp->Prop)->Prop
structure lK where
 nx:St->Hp->Prop
 rt:VK
 bk:St->Hp->Prop:=λ_ _=>False
 ct:St->Hp->Prop:=λ_ _=>False
abbrev TS:=lK->St->Hp->Prop
def EP (X:Cx) (pins:List (Addr×Obj)) (σ:St) (Q:VK) (u:Value) (s':qak):Prop:=∃ v H',Inv X pins σ H' s'/\bo v u/\Q v H'
def TP (X:Cx) (pins:List (Addr×Obj)) (σ:St) (Q:Bool->Hp->Prop) (b:Bool) (s':qak):Prop:=∃ H',Inv X pins σ H' s'/\Q b H'
def AP (X:Cx) (pins:List (Addr×Obj)) (σ:St) (Q:List V->Hp->Prop) (us:List Value) (s':qak):Prop:=∃ vs H',Inv X pins σ H' s'/\aJ vs us/\Q vs H'
def SP (X:Cx) (pins:List (Addr×Obj)) (D:lK) (f:Flow) (s':qak):Prop:=
 match f with
 |.next=>∃ σ' H',Inv X pins σ' H' s'/\D.nx σ' H'
 |.brk=>∃ σ' H',Inv X pins σ' H' s'/\D.bk σ' H'
 |.cont=>∃ σ' H',Inv X pins σ' H' s'/\D.ct σ' H'
 |.ret u=>∃ v σ' H',Inv X pins σ' H' s'/\bo v u/\D.rt v H'
def PE (X:Cx) (e:Expr) (t:TE):Prop:=
 ∀ (pins:List (Addr×Obj)) (s:qak) (σ:St) (H:Hp) (Q:VK),Inv X pins σ H s->t σ H Q->wpAny (model X.prog X.w) X.A (eval e X.env) (EP X pins σ Q) X.xe s
def PT (X:Cx) (e:Expr) (t:TT):Prop:=
 ∀ (pins:List (Addr×Obj)) (s:qak) (σ:St) (H:Hp) (Q:Bool->Hp->Prop),Inv X pins σ H s->t σ H Q->wpAny (model X.prog X.w) X.A (qhF e X.env (eval e X.env)) (TP X pins σ Q) X.xe s
def PW (X:Cx) (e:Expr) (t:TT):Prop:=
 ∀ (whole:Sem Value) (pins:List (Addr×Obj)) (s:qak) (σ:St) (H:Hp) (Q:Bool->Hp->Prop),Inv X pins σ H s->t σ H Q->wpAny (model X.prog X.w) X.A (qhF e X.env whole) (TP X pins σ Q) X.xe s
theorem PW.pt {X:Cx}{e:Expr}{t:TT} (h:PW X e t):PT X e t:=h _
def PA (X:Cx) (es:List Expr) (t:TA):Prop:=
 ∀ (pos:Pos) (pins:List (Addr×Obj)) (s:qak) (σ:St) (H:Hp) (Q:List V->Hp->Prop),Inv X pins σ H s->t σ H Q->wpAny (model X.prog X.w) X.A (spliced (qdA pos (qbg es X.env))) (AP X pins σ Q) X.xe s
def PS (X:Cx) (st:Stmt) (t:TS):Prop:=
 ∀ (pins:List (Addr×Obj)) (s:qak) (σ:St) (H:Hp) (D:lK),Inv X pins σ H s->t D σ H->wpAny (model X.prog X.w) X.A (exec st X.env) (SP X pins D) X.xe s
def PSs (X:Cx) (st:List Stmt) (t:TS):Prop:=
 ∀ (pins:List (Addr×Obj)) (s:qak) (σ:St) (H:Hp) (D:lK),Inv X pins σ H s->t D σ H->wpAny (model X.prog X.w) X.A (execs st X.env) (SP X pins D) X.xe s
theorem thn {α:Type}{t:Sem α}{Q Q':α->qak->Prop}{M:Model}{A:qbb}{E:Value->qak->Prop}{s:qak} (h:wpAny M A t Q E s) (hQ:∀ a s,Q a s->Q' a s):wpAny M A t Q' E s:=qcF h hQ λ_ _ x=>x
section
variable {X:Cx}
def oK (i:Nat):TE:=λσ H Q=>∃ v,σ[i]?=some (some v)/\Q v H
def tC (v:V):TE:=λ_ H Q=>Q v H
theorem iY {i:Nat}{x:Str}{pos:Pos} (hN:X.N[i]?=some x) (hv:Vis X.env.scope x) (hd:(x==("__debug__" : Str))=false:=by decide) (hcd:(x==("__classdict__" : Str))=false:=by decide):PE X (.Name x pos) (oK i):=by
 intro pins s σ H Q I h
 obtain⟨v,e,h⟩:=h
 obtain⟨m,hn,hl⟩:=I.loc
 obtain⟨u,r,l⟩:=hl i x v hN e hv
 have fin:EP X pins σ Q u s:=⟨v,H,I,r,h⟩
 rcases l with⟨hk,hm⟩|⟨hk,c,hc,hcell⟩
 ·exact qgB (wpAny_loadName_local I.ok.kind hk hn hm fin) hd
 ·rcases hk with hk|hk
  ·exact qgB (wpAny_loadName_cell I.ok.kind hk hc hcell fin) hd
  ·exact qgB (wpAny_loadName_free I.ok.kind hk hc hcell fin hcd) hd
theorem wM {i j pos}:PE X (.Constant (.int i) j pos) (tC (.int i)):=λ_ _ _ H _ I h=>wpAny_Constant_int ⟨.int i,H,I.tok _,⟨_,rfl⟩,h⟩
theorem yG {b j pos}:PE X (.Constant (.bool b) j pos) (tC (.bl b)):=λ_ _ _ H _ I h=>Constant_bool ⟨.bl b,H,I,rfl,h⟩
theorem wW {j pos}:PE X (.Constant .none j pos) (tC .non):=λ_ _ _ H _ I h=>Constant_none ⟨.non,H,I,rfl,h⟩
theorem yi {x j pos}:PE X (.Constant (.str x) j pos) (tC (.str x)):=λ_ _ _ H _ I h=>Calls.Constant_str ⟨.str x,H,I.tok _,⟨_,rfl⟩,h⟩
def Gl (X:Cx) (x:Str):Prop:=X.env.kindOf x=some .globalImplicit
theorem qV {E:Value->qak->Prop}{pins:List (Addr×Obj)}{s:qak}{σ:St}{H:Hp}{x:Str}{u:Value}{pos:Pos}{Q:Value->qak->Prop} (I:Inv X pins σ H s) (hg:Gl X x) (hm:X.mg x=some u) (h:Q u s)
  (hd:(x==("__debug__" : Str))=false:=by decide):wpAny (model X.prog X.w) X.A (eval (.Name x pos) X.env) Q E s:=
 qeA I.ok.kind hg (Calls.loadGlobal_global (by rw[I.ok.glob];exact I.mod.glob.keeps I.bk) hm h) hd
theorem jI {E:Value->qak->Prop}{pins:List (Addr×Obj)}{s:qak}{σ:St}{H:Hp}{x:Str}{u:Value}{pos:Pos}{Q:Value->qak->Prop} (I:Inv X pins σ H s) (hg:Gl X x) (hm:X.mg x=none) (hv:qcG x=some u) (h:Q u s)
  (hn:x≠"__name__":=by decide) (hd:(x==("__debug__" : Str))=false:=by decide):wpAny (model X.prog X.w) X.A (eval (.Name x pos) X.env) Q E s:=by
 obtain⟨mb,h1,h2⟩:=I.mod.blt
 exact qeA I.ok.kind hg (Calls.loadGlobal_builtin (by rw[I.ok.glob];exact I.mod.glob.keeps I.bk) hm (by rw[I.ok.blt];exact h1.keeps I.bk) ((h2 x hn).trans hv) h) hd
variable {a b:Expr}{ta tb:TE}{pos:Pos}
variable {tA tB':TT}{rest:List Expr}
def zP (t u:TT):TT:=λσ H Q=>t σ H λc H1=>if c=true then u σ H1 Q else Q false H1
def tOr (t u:TT):TT:=λσ H Q=>t σ H λc H1=>if c=true then Q true H1 else u σ H1 Q
def zG (t:TT):TT:=λσ H Q=>t σ H λc H1=>Q (!c) H1
theorem u8 (ha:PT X a tA):PW X (.BoolOp .And [a] pos) tA:=by
 intro wh pins s σ H Q I h
 refine isTrue_and (thn (ha pins s σ H Q I h) λc s1 e=>?_)
 cases c with
 |true=>exact isTrue_and_nil e
 |false=>exact e
theorem x4 (ha:PT X a tA):PW X (.BoolOp .Or [a] pos) tA:=by
 intro wh pins s σ H Q I h
 refine isTrue_or (thn (ha pins s σ H Q I h) λc s1 e=>?_)
 cases c with
 |false=>exact isTrue_or_nil e
 |true=>exact e
theorem uA (ha:PT X a tA) (hb:PW X (.BoolOp .And (b::rest) pos) tB'):PW X (.BoolOp .And (a::b::rest) pos) (zP tA tB'):=by
 intro wh pins s σ H Q I h
 refine isTrue_and (thn (ha pins s σ H _ I h) λc s1 ⟨H1,I1,q1⟩=>?_)
 cases c with
 |true=>exact hb wh pins s1 σ H1 Q I1 q1
 |false=>exact⟨H1,I1,q1⟩
theorem wC (ha:PT X a tA) (hb:PW X (.BoolOp .Or (b::rest) pos) tB'):PW X (.BoolOp .Or (a::b::rest) pos) (tOr tA tB'):=by
 intro wh pins s σ H Q I h
 refine isTrue_or (thn (ha pins s σ H _ I h) λc s1 ⟨H1,I1,q1⟩=>?_)
 cases c with
 |true=>exact⟨H1,I1,q1⟩
 |false=>exact hb wh pins s1 σ H1 Q I1 q1
theorem xM (ha:PT X a tA):PT X (.UnaryOp .Not a pos) (zG tA):=by
 intro pins s σ H Q I h
 exact isTrue_not (ha pins s σ H (λc H1=>Q (!c) H1) I h)
def tIf (t:TT) (ta tb:TE):TE:=λσ H Q=>t σ H λc H1=>if c=true then ta σ H1 Q else tb σ H1 Q
theorem nZ {c:Expr} (hc:PT X c tA) (ha:PE X a ta) (hb:PE X b tb):PE X (.IfExp c a b pos) (tIf tA ta tb):=by
 intro pins s σ H Q I h
 refine wpAny_IfExp (thn (hc pins s σ H _ I h) λd s1 ⟨H1,I1,q1⟩=>?_)
 cases d with
 |true=>exact ha pins s1 σ H1 Q I1 q1
 |false=>exact hb pins s1 σ H1 Q I1 q1
end
def SqL (K:qac) (H:Hp) (a:Addr) (xs:List V):Prop:=
 Rd H a (.lst xs)\/
  ∃ (o:Obj) (its:Array Value) (n:Nat),K.lookup a=some o/\o.cls=.type "list"/\o.dict=none/\o.data=.seq its n/\its.size<=qaM/\aJ xs its.toList
def SqT (K:qac) (H:Hp) (a:Addr) (xs:List V):Prop:=
 H a=some (.tup xs)\/
  ∃ (o:Obj) (its:Array Value) (n:Nat),K.lookup a=some o/\o.cls=.type "tuple"/\o.data=.seq its n/\its.size<=qaM/\aJ xs its.toList/\o.dict=none
def z8:Value->Option V
 |.none=>some .non
 |.bool b=>some (.bl b)
 |.int i _=>some (.int i)
 |.str x _=>some (.str x)
 |.bytes b _=>some (.byt b)
 |.float b _=>some (.flt b)
 |.ref a=>some (.ref a)
 |.type n=>some (.ty n)
 |_=>none
theorem bo.abs {x:V}{u:Value} (r:bo x u):z8 u=some x:=by
 cases x with
 |non=>cases r;rfl
 |bl _=>cases r;rfl
 |int _=>obtain⟨t,rfl⟩:=r;rfl
 |str _=>obtain⟨t,rfl⟩:=r;rfl
 |byt _=>obtain⟨t,rfl⟩:=r;rfl
 |flt _=>obtain⟨t,rfl⟩:=r;rfl
 |ref _=>cases r;rfl
 |ty _=>cases r;rfl
theorem bo.inj {x y:V}{u:Value} (r:bo x u) (q:bo y u):x=y:=qaS (r.abs.symm.trans q.abs)
theorem aJ.inj:∀ {xs ys:List V}{us:List Value},aJ xs us->aJ ys us->xs=ys
 |_,_,_,.nil,.nil=>rfl
 |_,_,_,.cons r t,.cons r' t'=>by rw[r.inj r',aJ.inj t t']
section
variable {X:Cx}{pins:List (Addr×Obj)}{σ:St}{H:Hp}{s:qak}{a:Addr}{xs ys:List V}
theorem SqL.of {K:qac} (h:H a=some (.lst xs)):SqL K H a xs:=.inl (.inl h)
theorem SqT.of {K:qac} (h:H a=some (.tup xs)):SqT K H a xs:=.inl h
theorem Inv.list (I:Inv X pins σ H s) (h:SqL X.K H a xs):∃ its:List Value,aJ xs its/\PlainL s.heap a its.toArray/\xs.length<=qaM:=by
 rcases h with h|⟨o,its,n,hk,hc,hd,hs,hz,r⟩
 ·obtain⟨z,its,n,r,e⟩:=h.ok I.hok
  exact⟨its,r,⟨_,n,e,rfl,rfl,rfl⟩,z⟩
 ·refine⟨its.toList,r,⟨o,n,I.kIn a o hk,hc,hd,by simpa using hs⟩,?_⟩
  have e:=r.length
  simp only[qcW]at e
  lia
theorem Inv.tuple (I:Inv X pins σ H s) (h:SqT X.K H a xs):∃ its:List Value,aJ xs its/\IsTup s.heap a its.toArray/\xs.length<=qaM:=by
 rcases h with h|⟨o,its,n,hk,hc,hs,hz,r,_⟩
 ·obtain⟨z,its,r,p⟩:=(Rd.of h).ok I.hok
  exact⟨its,r,p.tup,z⟩
 ·refine⟨its.toList,r,⟨o,I.kIn a o hk,hc,n,by simpa using hs⟩,?_⟩
  have e:=r.length
  simp only[qcW]at e
  lia
theorem Inv.tuple1 (I:Inv X pins σ H s) (h:SqT X.K H a xs):∃ o:Obj,s.heap.get? a=some o/\o.cls=.type "tuple"/\o.dict=none:=by
 rcases h with h|⟨o,its,n,hk,hc,hs,hz,r,hd⟩
 ·obtain⟨z,its,r,o,e,c,_,hd⟩:=(Rd.of h).ok I.hok
  exact⟨o,e,c,hd⟩
 ·exact⟨o,I.kIn a o hk,hc,hd⟩
theorem Inv.list_inj (I:Inv X pins σ H s) (h:SqL X.K H a xs) (h':SqL X.K H a ys):xs=ys:=by
 obtain⟨its,r,⟨o,n,e,_,_,d⟩,_⟩:=I.list h
 obtain⟨its',r',⟨o',n',e',_,_,d'⟩,_⟩:=I.list h'
 rw[e]at e';cases e'
 rw[d]at d'
 injection d' with d1 _
 have:its=its':=by simpa using congrArg qgy d1
 subst this
 exact r.inj r'
theorem Inv.tuple_inj (I:Inv X pins σ H s) (h:SqT X.K H a xs) (h':SqT X.K H a ys):xs=ys:=by
 obtain⟨its,r,⟨o,e,_,n,d⟩,_⟩:=I.tuple h
 obtain⟨its',r',⟨o',e',_,n',d'⟩,_⟩:=I.tuple h'
 rw[e]at e';cases e'
 rw[d]at d'
 injection d' with d1 _
 have:its=its':=by simpa using congrArg qgy d1
 subst this
 exact r.inj r'
end
abbrev Cx.wish (X:Cx) (E:Value->qak->Prop):Cx:={ X with xe:=E }
abbrev Cx.nox (X:Cx):Cx:=X.wish λ_ _=>False
theorem Cx.Ok.wish {X:Cx} (ok:X.Ok) (E:Value->qak->Prop):(X.wish E).Ok:=
 ⟨ok.mod,ok.kind,ok.glob,ok.blt,ok.above,ok.inj,ok.has,ok.cab,ok.hd,ok.frames,ok.stk,ok.exf,ok.bs,ok.bsz,ok.noex,ok.exfs,ok.funs,ok.frf⟩
theorem Cx.Ok.unwish {X:Cx}{E:Value->qak->Prop} (ok:(X.wish E).Ok):X.Ok:=
 ⟨ok.mod,ok.kind,ok.glob,ok.blt,ok.above,ok.inj,ok.has,ok.cab,ok.hd,ok.frames,ok.stk,ok.exf,ok.bs,ok.bsz,ok.noex,ok.exfs,ok.funs,ok.frf⟩
section
variable {X:Cx}{pins:List (Addr×Obj)}{σ:St}{H:Hp}{s:qak}{E:Value->qak->Prop}
theorem Inv.wish (I:Inv X pins σ H s) (E:Value->qak->Prop):Inv (X.wish E) pins σ H s:=⟨I.ok.wish E,I.os,I.bare,I.base,I.loc,I.cell,I.free,I.freeC,I.pin,I.hok,I.len⟩
theorem Inv.unwish (I:Inv (X.wish E) pins σ H s):Inv X pins σ H s:=⟨I.ok.unwish,I.os,I.bare,I.base,I.loc,I.cell,I.free,I.freeC,I.pin,I.hok,I.len⟩
theorem SP.unwish {D:lK}{f:Flow}{s':qak} (h:SP (X.wish E) pins D f s'):SP X pins D f s':=by
 cases f with
 |next=>obtain⟨σ',H',I,q⟩:=h;exact⟨σ',H',I.unwish,q⟩
 |brk=>obtain⟨σ',H',I,q⟩:=h;exact⟨σ',H',I.unwish,q⟩
 |cont=>obtain⟨σ',H',I,q⟩:=h;exact⟨σ',H',I.unwish,q⟩
 |ret u=>obtain⟨v,σ',H',I,r,q⟩:=h;exact⟨v,σ',H',I.unwish,r,q⟩
theorem PSs.nox {st:List Stmt}{t:TS} (h:PSs X.nox st t):PSs X st t:=λpins s σ H D I hw=>
 qcF (h pins s σ H D (I.wish _) hw) (λ_ _ q=>q.unwish) λ_ _ z=>qbW z
end
section
variable {X:Cx}{st:Stmt}{rest:List Stmt}{t u:TS}{e:Expr}{te:TE}{pos:Pos}
def zr:TS:=λD σ H=>D.nx σ H
def zN (t u:TS):TS:=λD σ H=>t { D with nx:=u D } σ H
theorem wj:PSs X [] zr:=λ_ _ σ H _ I h=>qdQ ⟨σ,H,I,h⟩
theorem eD (h1:PS X st t) (h2:PSs X rest u):PSs X (st::rest) (zN t u):=by
 intro pins s σ H D I h
 refine qgQ (thn (h1 pins s σ H { D with nx:=u D } I h) λf s1 q=>?_)
 cases f with
 |next=>
  obtain⟨σ',H',I',q⟩:=q
  exact h2 pins s1 σ' H' D I' q
 |ret v=>exact q
 |brk=>exact q
 |cont=>exact q
theorem rE (h1:PS X st t):PSs X [st] t:=by
 intro pins s σ H D I h
 refine qgQ (thn (h1 pins s σ H D I h) λf s1 q=>?_)
 cases f with
 |next=>exact qdQ q
 |ret v=>exact q
 |brk=>exact q
 |cont=>exact q
def xA:TS:=λD σ H=>D.bk σ H
def yW:TS:=λD σ H=>D.ct σ H
theorem uM:PS X (.Break pos) xA:=λ_ _ σ H _ I h=>wpAny_Break ⟨σ,H,I,h⟩
theorem oJ:PS X (.Continue pos) yW:=λ_ _ σ H _ I h=>wpAny_Continue ⟨σ,H,I,h⟩
theorem Inv.quiet {pins:List (Addr×Obj)}{σ:St}{H:Hp}{s:qak} (I:Inv X pins σ H s):interactive X.env=false:=by simp[interactive,I.ok.kind]
def yF (te:TE):TS:=λD σ H=>te σ H λ_ H1=>D.nx σ H1
theorem vM (he:PE X e te) (hs:qcw e none pos.line X.env=pure false:=by rfl):PS X (.Expr e pos) (yF te):=by
 intro pins s σ H D I h
 exact wpAny_Expr_any (thn (he pins s σ H _ I h) λv s1 ⟨x,H1,I1,r1,q1⟩=>⟨σ,H1,I1,q1⟩) I.quiet hs
def zK (te:TE):TS:=λD σ H=>te σ H D.rt
theorem xC (he:PE X e te):PS X (.Return (some e) pos) (zK te):=by
 intro pins s σ H D I h
 exact wpAny_Return_some (thn (he pins s σ H _ I h) λv s1 ⟨x,H1,I1,r1,q1⟩=>⟨x,σ,H1,I1,r1,q1⟩)
def zU (c:TT) (t u:TS):TS:=λD σ H=>c σ H λb H1=>if b=true then t D σ H1 else u D σ H1
theorem wG {c:Expr}{a b:List Stmt}{tc:TT} (hc:PT X c tc) (ha:PSs X a t) (hb:PSs X b u):PS X (.If c a b pos) (zU tc t u):=by
 intro pins s σ H D I h
 refine wpAny_If (thn (hc pins s σ H _ I h) λd s1 ⟨H1,I1,q1⟩=>?_)
 cases d with
 |true=>exact ha pins s1 σ H1 D I1 q1
 |false=>exact hb pins s1 σ H1 D I1 q1
def xg:TS:=λ_ _ _=>False
theorem gi {sts:List Stmt}:PSs X sts xg:=λ_ _ _ _ _ _ h=>h.elim
end
abbrev TG:=V->St->Hp->(St->Hp->Prop)->Prop
abbrev TGs:=List V->St->Hp->(St->Hp->Prop)->Prop
def PG (X:Cx) (target:Expr) (t:TG):Prop:=
 ∀ (pins:List (Addr×Obj)) (s:qak) (σ:St) (H:Hp) (v:V) (u:Value) (Q:St->Hp->Prop),Inv X pins σ H s->bo v u->t v σ H Q->
  wpAny (model X.prog X.w) X.A (qd9 target X.env u) (λ_ s'=>∃ σ' H',Inv X pins σ' H' s'/\Q σ' H') X.xe s
def PGs (X:Cx) (ts:List Expr) (t:TGs):Prop:=
 ∀ (pins:List (Addr×Obj)) (s:qak) (σ:St) (H:Hp) (vs:List V) (us:List Value) (Q:St->Hp->Prop),Inv X pins σ H s->aJ vs us->t vs σ H Q->
  wpAny (model X.prog X.w) X.A (assignInOrder ((qbt ts X.env).map (·.2)) us) (λ_ s'=>∃ σ' H',Inv X pins σ' H' s'/\Q σ' H') X.xe s
abbrev xS:=V->V->V->Hp->(Hp->Prop)->Prop
def ym (X:Cx) (t:xS):Prop:=
 ∀ (pins:List (Addr×Obj)) (s:qak) (σ:St) (H:Hp) (o i v:V) (ov iv u:Value) (Q:Hp->Prop),Inv X pins σ H s->bo o ov->bo i iv->bo v u->t o i v H Q->
  wpAny (model X.prog X.w) X.A (setItem ov iv u) (λ_ s'=>∃ H',Inv X pins σ H' s'/\Q H') X.xe s
section
variable {X:Cx}{pos:Pos}
def mt (i:Nat):TG:=λv σ H Q=>Q (σ.set i (some v)) H
theorem aw {i:Nat}{x:Str} (hN:X.N.Nodup) (hi:X.N[i]?=some x) (hx:Loc X.env.scope x) (hf:X.fn x=true\/X.env.scope.names.lookup x=some .local:=by first|exact .inl rfl|exact .inr rfl|assumption):PG X (.Name x pos) (mt i):=by
 intro pins s σ H v u Q I r h
 exact qgA (lu I hN hi hx r (λs' I'=>⟨_,H,I',h⟩) hf)
def z5:TGs:=λvs σ H Q=>vs=[]/\Q σ H
def yM (t:TG) (u:TGs):TGs:=λvs σ H Q=>∃ v r,vs=v::r/\t v σ H λσ' H'=>u r σ' H' Q
theorem qD:PGs X [] z5:=by
 intro pins s σ H vs us Q I r h
 obtain⟨e,h⟩:=h
 subst e
 cases r
 exact assignInOrder_nil ⟨σ,H,I,h⟩
theorem lh {e:Expr}{es:List Expr}{t:TG}{u:TGs} (h1:PG X e t) (h2:PGs X es u)
  (hs:(qbt (e::es) X.env).map (·.2)=qd9 e X.env::(qbt es X.env).map (·.2):=by rfl):PGs X (e::es) (yM t u):=by
 intro pins s σ H vs us Q I r h
 obtain⟨v,vr,e1,h⟩:=h
 subst e1
 cases r with
 |cons r rr=>
  rw[hs]
  refine assignInOrder_cons (thn (h1 pins s σ H _ _ _ I r h) λ_ s1 ⟨σ1,H1,I1,q1⟩=>?_)
  exact h2 pins s1 σ1 H1 _ _ Q I1 rr q1
def zL (K:qac) (n:Nat) (t:TGs):TG:=λv σ H Q=>∃ a xs,v=.ref a/\SqT K H a xs/\xs.length=n/\t xs σ H Q
theorem uC {es:List Expr}{k:Nat}{t:TGs}{n:Nat} (hc:X.calm=true) (h:PGs X es t)
  (hn:(qbt es X.env).length=n:=by rfl) (hst:(qbt es X.env).findIdx? (·.1)=none:=by rfl):PG X (.Tuple es k pos) (zL X.K n t):=by
 intro pins s σ H v u Q I r hw
 obtain⟨a,xs,e1,hq,hl,hw⟩:=hw
 subst e1
 cases r
 obtain⟨its,rv,ht,hz⟩:=I.tuple hq
 refine assign_Tuple_tuple (I.ok.hd hc) ht (by simp[hn,<-hl,rv.length]) hst λh' hx=>?_
 have I1:Inv X pins σ H { s with heap:=h' }:=I.kept (t':=s.toks) λb o e=>hx b o (qaP (qax e)) e
 exact h pins _ σ H xs _ Q I1 (by simpa using rv) hw
def Aa (to ti:TE) (t:xS):TG:=λv σ H Q=>to σ H λo H1=>ti σ H1 λi H2=>t o i v H2 λH3=>Q σ H3
theorem pO {o i:Expr}{to ti:TE}{t:xS} (ho:PE X o to) (hi:PE X i ti) (hs:ym X t)
  (ha:∀ v,qd9 (.Subscript o i pos) X.env v=(do
    let ov <-qeE [v] (eval o X.env)
    let iv <-qeE [v,ov] (eval i X.env)
    qhE pos
    qeE [v,ov,iv] (setItem ov iv v)
    release [v,ov,iv] []):=by intro _;rfl):PG X (.Subscript o i pos) (Aa to ti t):=by
 intro pins s σ H v u Q I r h
 rw[ha]
 refine qaf (qc1 (thn (ho pins s σ H _ I h) λov s1 ⟨x,H1,I1,r1,q1⟩=>?_))
 refine qaf (qc1 (thn (hi pins s1 σ H1 _ I1 q1) λiv s2 ⟨y,H2,I2,r2,q2⟩=>?_))
 refine qaf (qer (qaf (qc1 (thn (hs pins s2 σ H2 x y v ov iv u _ I2 r1 r2 r q2) λ_ s3 ⟨H3,I3,q3⟩=>?_))))
 exact wpAny_release ⟨σ,H3,I3,q3⟩
def wP (te:TE) (g:TG):TS:=λD σ H=>te σ H λx H1=>g x σ H1 D.nx
theorem no {tg e:Expr}{te:TE}{g:TG} (he:PE X e te) (hg:PG X tg g) (hs:qdu [tg] e pos.line X.env=pure false:=by rfl) (hw:qdv [tg] e X.env=pure none:=by rfl)
  (h1:(qbt [tg] X.env).map (·.2)=[qd9 tg X.env]:=by rfl):PS X (.Assign [tg] e pos) (wP te g):=by
 intro pins s σ H D I h
 refine wpAny_Assign_stores (thn (he pins s σ H _ I h) λv s1 ⟨x,H1,I1,r1,q1⟩=>?_) hs hw
 rw[h1]
 exact thn (hg pins s1 σ H1 x v _ I1 r1 q1) λ_ s2 q=>q
theorem xj {i:Nat}{x:Str}{e:Expr}{te:TE}{pos':Pos} (hN:X.N.Nodup) (hi:X.N[i]?=some x) (hx:Loc X.env.scope x) (he:PE X e te) (hs:qcw e (some (.Name x pos')) pos.line X.env=pure false:=by rfl) (hf:X.fn x=true\/X.env.scope.names.lookup x=some .local:=by first|exact .inl rfl|exact .inr rfl|assumption) :
  PS X (.Assign [.Name x pos'] e pos) (wP te (mt i)):=by
 intro pins s σ H D I h
 refine wpAny_Assign_Name (thn (he pins s σ H _ I h) λv s1 ⟨y,H1,I1,r1,q1⟩=>?_) hs
 exact lu I1 hN hi hx r1 (λs2 I2=>⟨_,H1,I2,q1⟩) hf
end
section
variable {X:Cx}{pos:Pos}
def xr (c:TT) (tb:TS):TS:=λD σ H=>∃ W:Nat->St->Hp->Prop,(∃ m,W m σ H)/\∀ m σ H,W m σ H->
 c σ H λb H1=>if b=true then ∃ N:St->Hp->Prop,(∀ σ' H',N σ' H'->∃ m',m'<m/\W m' σ' H')/\tb { D with nx:=N,ct:=N,bk:=D.nx } σ H1 else D.nx σ H1
theorem tZ {c:Expr}{body:List Stmt}{tc:TT}{tb:TS} (hp:qfT (model X.prog X.w) X.A X.env X.xe) (hc:PT X c tc) (hb:PSs X body tb):PS X (.While c body [] pos) (xr tc tb):=by
 intro pins s σ H D I h
 obtain⟨W,⟨m0,w0⟩,turn⟩:=h
 refine wpAny_While (codeAny_whileLoop (λn s'=>∃ σ' H',Inv X pins σ' H' s'/\W n σ' H') ?_ m0 ⟨σ,H,I,w0⟩)
 rintro n s1 ⟨σ1,H1,I1,w1⟩
 refine qci hp (thn (hc pins s1 σ1 H1 _ I1 (turn n σ1 H1 w1)) λb s2 ⟨H2,I2,q2⟩=>?_)
 cases b with
 |true=>
  obtain⟨N,hN,q2⟩:=q2
  rw[if_pos rfl]
  refine qci hp (thn (hb pins s2 σ1 H2 _ I2 q2) λf s3 q3=>?_)
  cases f with
  |next=>
   obtain⟨σ3,H3,I3,n3⟩:=q3
   obtain⟨m',hm,w3⟩:=hN σ3 H3 n3
   exact⟨m',hm,σ3,H3,I3,w3⟩
  |cont=>
   obtain⟨σ3,H3,I3,n3⟩:=q3
   obtain⟨m',hm,w3⟩:=hN σ3 H3 n3
   exact⟨m',hm,σ3,H3,I3,w3⟩
  |brk=>exact q3
  |ret v=>exact q3
 |false=>
  rw[if_neg qaF]
  exact qdQ ⟨σ1,H2,I2,q2⟩
end
structure It where
 go:Nat->Hp->Prop
 yld:Nat->Hp->V->Hp->Prop
 stop:Nat->Hp->Prop
def iB (X:Cx) (pins:List (Addr×Obj)) (H:Hp) (b:Addr):Prop:=
 H b=none/\b≠X.env.locals/\b∉X.fs/\(b∈X.ex\/X.s₀.heap.objs.size<=b)/\(∀ x c,X.env.cells.lookup x=some c->c≠b)/\∀ p∈X.pn++pins,p.1≠b
theorem Inv.fpOk {X:Cx}{pins:List (Addr×Obj)}{σ:St}{H H':Hp}{s:qak}{b:Addr} (I:Inv X pins σ H s) (hb:s.heap.objs.size<=b) (hn:H' b=none):iB X pins H' b:=by
 refine⟨hn,qb0 (qaN I.lt hb),I.nofs hb,.inr (qa3 I.sz hb),λx c e z=>?_,λp hp z=>?_⟩
 ·obtain⟨v,q⟩:=I.cell x c e
  exact absurd (qaN q.lt (by rw[z];exact hb)) (qaR _)
 ·exact absurd (qaN (qax (I.pin p hp).1) (by rw[z];exact hb)) (qaR _)
structure pP (P:qa0) (w:World) (K:qac) (tg:Expr) (J:It) (fp:List Addr) (it:Addr) (tn:Nat->Heap->Prop):Prop where
 mem:it∈fp
 obj:∀ i h,tn i h->∀ b∈fp,∃ o,h.get? b=some o/\∀ v,o.data≠.cell v
 keep:∀ i h h',tn i h->(∀ b∈fp,∀ o,h.get? b=some o->h'.get? b=some o)->tn i h'
 item:∀ (X:Cx),X.prog=P->X.w=w->X.K=K->X.calm=true->∀ (i:Nat) (pins:List (Addr×Obj)) (s:qak) (σ:St) (H:Hp) (E:Value->qak->Prop),Inv X pins σ H s->(∀ b∈fp,iB X pins H b)->tn i s.heap->J.go i H->
  wpAny (model P w) X.A (qfP (.ref it)) (λr s1=>∃ u,r=some u/\
   wpAny (model P w) X.A (qdS tg (.ref it) u) (λ_ s2=>∃ x H',Inv X pins σ H' s2/\bo x u/\J.yld i H x H'/\tn (i+1) s2.heap/\∀ b∈fp,H' b=none) E s1) E s
 done:∀ (X:Cx),X.prog=P->X.w=w->X.K=K->X.calm=true->∀ (i:Nat) (pins:List (Addr×Obj)) (s:qak) (σ:St) (H:Hp) (E:Value->qak->Prop),Inv X pins σ H s->(∀ b∈fp,iB X pins H b)->tn i s.heap->J.stop i H->
  wpAny (model P w) X.A (qfP (.ref it)) (λr s1=>r=none/\Inv X pins σ H s1) E s
 self:∀ (A:qbb) (i:Nat) (s:qak) (Q:Value->qak->Prop) (E:Value->qak->Prop),tn i s.heap->Q (.ref it) s->wpAny (model P w) A (pyIter (.ref it)) Q E s
abbrev TI:=St->Hp->(It->Hp->Prop)->Prop
def PIE (X:Cx) (pins:List (Addr×Obj)) (σ:St) (tg:Expr) (R:It->Hp->Prop) (itv:Value) (s2:qak):Prop:=
 ∃ (it:Addr) (fp:List Addr) (tn:Nat->Heap->Prop) (J:It) (H':Hp),itv=.ref it/\Inv X pins σ H' s2/\pP X.prog X.w X.K tg J fp it tn/\tn 0 s2.heap/\(∀ b∈fp,iB X pins H' b)/\R J H'
def PI (X:Cx) (tg iter:Expr) (wi:TI):Prop:=
 ∀ (pins:List (Addr×Obj)) (s:qak) (σ:St) (H:Hp) (R:It->Hp->Prop),Inv X pins σ H s->wi σ H R->
  wpAny (model X.prog X.w) X.A (eval iter X.env) (λv s1=>wpAny (model X.prog X.w) X.A (pyIter v) (PIE X pins σ tg R) X.xe s1) X.xe s
theorem uh {M:Model}{A:qbb}{E:Value->qak->Prop}{s:qak}{tg:Expr}{it:Addr}{u:Value}{o:Obj}{n:String}{vs:Array Value}{Q:Unit->qak->Prop} (ho:s.heap.get? it=some o) (hc:o.cls=.type n) (hd:o.data=.fields vs)
  (hn:["enumerate","zip","dict_itemiterator","dict_reverseitemiterator","odict_iterator","itertools.zip_longest","itertools.pairwise"].contains n=false) (hQ:Q () s):wpAny M A (qdS tg (.ref it) u) Q E s:=by
 unfold qdS
 cases tg<;>first
  |exact qaw hQ
  | (cases u<;>first
      |exact qaw hQ
      | (refine qaf (wpAny_load ho ?_)
         rw[hc,hd]
         show wpAny M A (if (["enumerate","zip","dict_itemiterator","dict_reverseitemiterator","odict_iterator","itertools.zip_longest","itertools.pairwise"].contains n&&vs[0]?==some (qfi _))=true then _ else _) Q E s
         rw[if_neg (by intro h;rw[hn,Bool.false_and]at h;cases h)]
         exact qaw hQ))
def Itl (K:qac) (a:Addr):It:=
 ⟨λi H=>∃ xs x,SqL K H a xs/\xs[i]?=some x,λi H x H'=>H'=H/\∀ xs,SqL K H a xs->xs[i]?=some x,λi H=>∃ xs,SqL K H a xs/\xs.length<=i⟩
def Itt (K:qac) (a:Addr):It:=
 ⟨λi H=>∃ xs x,SqT K H a xs/\xs[i]?=some x,λi H x H'=>H'=H/\∀ xs,SqT K H a xs->xs[i]?=some x,λi H=>∃ xs,SqT K H a xs/\xs.length<=i⟩
def Itr (lo:Int) (n:Nat):It:=⟨λi _=>i<n,λi H x H'=>H'=H/\x=.int (lo+i),λi _=>n<=i⟩
theorem rO {P:qa0}{w:World}{K:qac}{tg:Expr} (a it:Addr):pP P w K tg (Itl K a) [it] it (λi h=>h.IsListIter it a i) where
 mem:=by simp
 obj:=λi h st b hb=>by
  have e:b=it:=by simpa using hb
  subst e
  obtain⟨o,e,c,d⟩:=st
  exact⟨o,e,λv z=>by rw[d]at z;cases z⟩
 keep:=λi h h' st k=>st.at λo e=>k it (by simp) o e
 item:=by
  intro X hP hw hK hc i pins s σ H E I hf st hg
  subst hP hw hK
  obtain⟨xs,x,hq,hx⟩:=hg
  obtain⟨its,rv,p,hz⟩:=I.list hq
  obtain⟨u,hu,ru⟩:=rv.get hx
  obtain⟨f0,f1,f2,f3,f4,f5⟩:=hf it (by simp)
  refine wpAny_pyNext_list_item st p.isList (x:=u) (by simpa using hu) λh' st' sb=>?_
  have I1:Inv X pins σ H { s with heap:=h' }:=I.turned (t':=s.toks) (λb o hb e=>(sb.2 b hb).trans e) f0 f1 f3 f4 f5
  obtain⟨o,e,c,d⟩:=id st'
  exact⟨u,rfl,uh (s:={ s with heap:=h' }) e c d (by decide) ⟨x,H,I1,ru,⟨rfl,λys hy=>by rw[I.list_inj hy hq];exact hx⟩,st',λb hb=>(hf b hb).1⟩⟩
 done:=by
  intro X hP hw hK hc i pins s σ H E I hf st hg
  subst hP hw hK
  obtain⟨xs,hq,hx⟩:=hg
  obtain⟨its,rv,p,hz⟩:=I.list hq
  obtain⟨f0,f1,f2,f3,f4,f5⟩:=hf it (by simp)
  have hl:=rv.length
  exact wpAny_pyNext_list_end (I.ok.hd hc) st p.isList (by simp;lia) λh' eb=>⟨rfl,I.turned (t':=s.toks) (λb o hb e=>eb b o hb e) f0 f1 f3 f4 f5⟩
 self:=λ_ _ _ _ _ st h=>wpAny_pyIter_listiter st h
theorem qq {P:qa0}{w:World}{K:qac}{tg:Expr} (a it:Addr):pP P w K tg (Itt K a) [it] it (λi h=>h.IsTupleIter it a i) where
 mem:=by simp
 obj:=λi h st b hb=>by
  have e:b=it:=by simpa using hb
  subst e
  obtain⟨o,e,c,d⟩:=st
  exact⟨o,e,λv z=>by rw[d]at z;cases z⟩
 keep:=λi h h' st k=>st.at λo e=>k it (by simp) o e
 item:=by
  intro X hP hw hK hc i pins s σ H E I hf st hg
  subst hP hw hK
  obtain⟨xs,x,hq,hx⟩:=hg
  obtain⟨its,rv,p,hz⟩:=I.tuple hq
  obtain⟨u,hu,ru⟩:=rv.get hx
  obtain⟨f0,f1,f2,f3,f4,f5⟩:=hf it (by simp)
  refine wpAny_pyNext_tuple_item st (show s.heap.IsTuple a its.toArray from p) (x:=u) (by simpa using hu) λh' st' sb=>?_
  have I1:Inv X pins σ H { s with heap:=h' }:=I.turned (t':=s.toks) (λb o hb e=>(sb.2 b hb).trans e) f0 f1 f3 f4 f5
  obtain⟨o,e,c,d⟩:=id st'
  exact⟨u,rfl,uh (s:={ s with heap:=h' }) e c d (by decide) ⟨x,H,I1,ru,⟨rfl,λys hy=>by rw[I.tuple_inj hy hq];exact hx⟩,st',λb hb=>(hf b hb).1⟩⟩
 done:=by
  intro X hP hw hK hc i pins s σ H E I hf st hg
  subst hP hw hK
  obtain⟨xs,hq,hx⟩:=hg
  obtain⟨its,rv,p,hz⟩:=I.tuple hq
  obtain⟨f0,f1,f2,f3,f4,f5⟩:=hf it (by simp)
  have hl:=rv.length
  exact wpAny_pyNext_tuple_end (I.ok.hd hc) st (show s.heap.IsTuple a its.toArray from p) (by simp;lia) λh' eb=>⟨rfl,I.turned (t':=s.toks) (λb o hb e=>eb b o hb e) f0 f1 f3 f4 f5⟩
 self:=λ_ _ _ _ _ st h=>wpAny_pyIter_tupleiter st h
theorem pT {P:qa0}{w:World}{K:qac}{tg:Expr} (it:Addr) (lo:Int) (n:Nat):pP P w K tg (Itr lo n) [it] it (λi h=>IsRangeIter h it (lo+(i:Nat)*1) ((n:Int) - (i:Nat)) 1) where
 mem:=by simp
 obj:=λi h st b hb=>by
  have e:b=it:=by simpa using hb
  subst e
  exact⟨_,st,λv z=>by
   have z':Data.fields _=Data.cell v:=z
   cases z'⟩
 keep:=λi h h' st k=>k it (by simp) _ st
 item:=by
  intro X hP hw hK hc i pins s σ H E I hf st hg
  subst hP hw hK
  obtain⟨f0,f1,f2,f3,f4,f5⟩:=hf it (by simp)
  have W:=Walks.range (prog:=X.prog) (w:=X.w) (I.ok.hd hc) it lo 1 n
  refine W.item i s _ _ hg st λv h' tk hv st' kk=>?_
  obtain⟨t,rfl⟩:=hv
  have I1:Inv X pins σ H { s with heap:=h',toks:=tk }:=I.turned (λb o hb e=>kk b o (by simpa using hb) e) f0 f1 f3 f4 f5
  refine⟨_,rfl,uh (s:={ s with heap:=h',toks:=tk }) (n:="range_iterator") st' rfl rfl (by decide) ⟨.int (lo+i),H,I1,⟨t,?_⟩,⟨rfl,rfl⟩,st',λb hb=>(hf b hb).1⟩⟩
  rw[qb4]
 done:=by
  intro X hP hw hK hc i pins s σ H E I hf st hg
  subst hP hw hK
  obtain⟨f0,f1,f2,f3,f4,f5⟩:=hf it (by simp)
  exact wpAny_pyNext_range_end (I.ok.hd hc) st (by have:n<=i:=hg;lia) λh' eb=>⟨rfl,I.turned (t':=s.toks) (λb o hb e=>eb b o hb e) f0 f1 f3 f4 f5⟩
 self:=λ_ _ _ _ _ st h=>wpAny_pyIter_rangeiter st h
section
variable {X:Cx}{tg:Expr}
def yr (K:qac) (tl:TE):TI:=λσ H R=>tl σ H λx H1=>∃ a,x=.ref a/\(∃ xs,SqL K H1 a xs)/\R (Itl K a) H1
def zE (K:qac) (tl:TE):TI:=λσ H R=>tl σ H λx H1=>∃ a,x=.ref a/\(∃ xs,SqT K H1 a xs)/\R (Itt K a) H1
theorem vI {l:Expr}{tl:TE} (hl:PE X l tl):PI X tg l (yr X.K tl):=by
 intro pins s σ H R I h
 refine thn (hl pins s σ H _ I h) λv s1 ⟨x,H1,I1,r1,q1⟩=>?_
 obtain⟨a,e,⟨xs,hq⟩,q⟩:=q1
 subst e
 cases r1
 obtain⟨its,rv,p,hz⟩:=I1.list hq
 refine qeC p.isList ?_
 refine⟨s1.heap.objs.size,[s1.heap.objs.size],_,_,H1,rfl,I1.kept (t':=s1.toks) λb o e=>qai _ e,rO a _,⟨_,qaA _ rfl,rfl,rfl⟩,λb hb=>?_,q⟩
 have e:b=s1.heap.objs.size:=by simpa using hb
 subst e
 exact I1.fpOk (qal _) (I1.hok.fresh (qal _))
theorem yj {l:Expr}{tl:TE} (hl:PE X l tl):PI X tg l (zE X.K tl):=by
 intro pins s σ H R I h
 refine thn (hl pins s σ H _ I h) λv s1 ⟨x,H1,I1,r1,q1⟩=>?_
 obtain⟨a,e,⟨xs,hq⟩,q⟩:=q1
 subst e
 cases r1
 obtain⟨its,rv,p,hz⟩:=I1.tuple hq
 refine qcI (show s1.heap.IsTuple a its.toArray from p) ?_
 refine⟨s1.heap.objs.size,[s1.heap.objs.size],_,_,H1,rfl,I1.kept (t':=s1.toks) λb o e=>qai _ e,qq a _,⟨_,qaA _ rfl,rfl,rfl⟩,λb hb=>?_,q⟩
 have e:b=s1.heap.objs.size:=by simpa using hb
 subst e
 exact I1.fpOk (qal _) (I1.hok.fresh (qal _))
theorem tm {pins:List (Addr×Obj)}{σ:St}{H:Hp}{s:qak}{R:It->Hp->Prop}{E:Value->qak->Prop}{lo hi:Int}{t u v:Tok}{tk:Nat} (I:Inv X pins σ H s) (h1:-(2^62)<=lo) (h2:lo<2^62) (h3:-(2^62)<=hi) (h4:hi<2^62)
  (q:R (Itr lo (hi - lo).toNat) H):wpAny (model X.prog X.w) X.A (pyIter (.ref s.heap.objs.size)) (PIE X pins σ tg R) E { s with heap:=s.heap.push { cls:=.type "range",data:=.fields #[.int lo t,.int hi u,.int 1 v] },toks:=tk }:=by
 refine wpAny_pyIter_range (IsRange.new ..) (small_one h1 h2 h3 h4) ?_
 have I1:Inv X pins σ H { s with heap:=s.heap.push { cls:=.type "range",data:=.fields #[.int lo t,.int hi u,.int 1 v] },toks:=tk }:=I.kept λb o e=>qai _ e
 refine⟨(s.heap.push { cls:=.type "range",data:=.fields #[.int lo t,.int hi u,.int 1 v] }).objs.size,[(s.heap.push { cls:=.type "range",data:=.fields #[.int lo t,.int hi u,.int 1 v] }).objs.size],_,_,H,rfl,
  I1.kept (t':=tk) λb o e=>qai _ e,pT _ lo (hi - lo).toNat,?_,λb hb=>?_,q⟩
 ·have e1:lo+((0:Nat):Int)*1=lo:=by simp
  have e2:(((hi - lo).toNat:Nat):Int) - ((0:Nat):Int)=qd6 lo hi 1:=by rw[qfr];split<;>lia
  show IsRangeIter _ _ (lo+((0:Nat):Int)*1) ((((hi - lo).toNat:Nat):Int) - ((0:Nat):Int)) 1
  rw[e1,e2]
  exact qaA _ rfl
 ·have e:b=(s.heap.push { cls:=.type "range",data:=.fields #[.int lo t,.int hi u,.int 1 v] }).objs.size:=by simpa using hb
  subst e
  exact I1.fpOk (qal _) (I1.hok.fresh (qal _))
def zd (ta:TA):TI:=λσ H R=>ta σ H λvs H1=>∃ j:Int,vs=[.int j]/\-(2^62)<=j/\j<2^62/\R (Itr 0 j.toNat) H1
theorem sq {a:Expr}{ta:TA}{p pos:Pos} (hg:Gl X "range") (hm:X.mg "range" = none) (ha:PA X [a] ta) (hs:qbg [a] X.env=[(false,eval a X.env)]:=by rfl):PI X tg (.Call (.Name "range" p) [a] [] pos) (zd ta):=by
 intro pins s σ H R I h
 refine Call_ (jI I hg hm boot_range (qbL (thn (ha pos pins s σ H _ I h) λus s1 ⟨vs,H1,I1,r1,q1⟩=>?_) hs rfl))
 obtain⟨j,e,q1,q2,q⟩:=q1
 subst e
 cases r1 with
 |cons r rr=>
  cases rr
  obtain⟨t,rfl⟩:=r
  exact call_range_1 (tm I1 (by lia) (by lia) q1 q2 (by simpa using q))
def zS (wi:TI) (g:TG) (tb:TS):TS:=λD σ H=>wi σ H λJ H1=>∃ W:Nat->Nat->St->Hp->Prop,(∃ m,W 0 m σ H1)/\∀ i m σ H,W i m σ H->
 (J.stop i H/\D.nx σ H)\/(J.go i H/\∃ N:St->Hp->Prop,(∀ σ' H',N σ' H'->∃ m',m'<m/\W (i+1) m' σ' H')/\∀ x H',J.yld i H x H'->g x σ H' λσ2 H2=>tb { D with nx:=N,ct:=N,bk:=D.nx } σ2 H2)
def jp (fp:List Addr) (h:Heap):List (Addr×Obj):=fp.filterMap λb=>(h.get? b).map λo=>(b,o)
theorem cZ {fp:List Addr}{h:Heap}{b:Addr}{o:Obj} (hb:b∈fp) (e:h.get? b=some o):(b,o)∈jp fp h:=qfz.mpr ⟨b,hb,by rw[e];rfl⟩
theorem sF {fp:List Addr}{h:Heap}{p:Addr×Obj} (hp:p∈jp fp h):p.1∈fp/\h.get? p.1=some p.2:=by
 obtain⟨b,hb,e⟩:=qfz.mp hp
 cases q:h.get? b with
 |none=>rw[q]at e;cases e
 |some o=>
  rw[q]at e
  have e':(b,o)=p:=qaS e
  subst e'
  exact⟨hb,q⟩
theorem Inv.pinned {pins:List (Addr×Obj)}{σ:St}{H:Hp}{s:qak}{fp:List Addr} (I:Inv X pins σ H s) (hf:∀ b∈fp,iB X pins H b) (ho:∀ b∈fp,∃ o,s.heap.get? b=some o/\∀ v,o.data≠.cell v):Inv X (pins++jp fp s.heap) σ H s:=
 I.pins_of λp hp=>(qaQ.mp hp).elim (λz=>I.pin p (qap _ z)) λz=>by
  obtain⟨hb,e⟩:=sF z
  obtain⟨f0,f1,f2,_⟩:=hf p.1 hb
  obtain⟨o,e',d⟩:=ho p.1 hb
  rw[e]at e';cases e'
  exact⟨e,f0,f1,f2,d⟩
theorem Inv.unpinned {pins pl:List (Addr×Obj)}{σ:St}{H:Hp}{s:qak} (I:Inv X (pins++pl) σ H s):Inv X pins σ H s:=I.pins_of λp hp=>I.pin p (qap _ (qaU _ hp))
theorem yd {iter:Expr}{body:List Stmt}{wi:TI}{g:TG}{tb:TS}{pos:Pos} (hp:qfT (model X.prog X.w) X.A X.env X.xe) (hc:X.calm=true) (hi:PI X tg iter wi) (hg:PG X tg g) (hb:PSs X body tb)
  (hs:∀ x,qb3 iter X.env x=pure x:=by intro _;rfl):PS X (.For tg iter body [] pos) (zS wi g tb):=by
 intro pins s σ H D I h
 refine wpAny_For (thn (hi pins s σ H _ I h) λv s1 h1=>thn h1 λitv s2 h2=>?_) hs
 obtain⟨it,fp,tn,J,H2,e,I2,T,st2,f2,W,⟨m0,w0⟩,turn⟩:=h2
 subst e
 -- what stays true of the iterator's objects through the loop
 have stat:∀ {H':Hp},(∀ b∈fp,H' b=none)->∀ b∈fp,iB X pins H' b:=λhn b hb=>⟨hn b hb,(f2 b hb).2⟩
 refine codeAny_forLoop_any (λn s'=>∃ i σ' H',Inv X pins σ' H' s'/\tn i s'.heap/\(∀ b∈fp,H' b=none)/\W i n σ' H') ?_ m0 ⟨0,σ,H2,I2,st2,λb hb=>(f2 b hb).1,w0⟩
 rintro n s3 ⟨i,σ3,H3,I3,st3,fr3,w3⟩
 rcases turn i n σ3 H3 w3 with⟨stop,qn⟩|⟨go,N,hN,step⟩
 ·refine qci hp (thn (T.done X rfl rfl rfl hc i pins s3 σ3 H3 X.xe I3 (stat fr3) st3 stop) λr s4 ⟨hr,I4⟩=>?_)
  subst hr
  exact qdQ ⟨σ3,H3,I4,qn⟩
 ·refine qci hp (thn (T.item X rfl rfl rfl hc i pins s3 σ3 H3 X.xe I3 (stat fr3) st3 go) λr s4 ⟨u,hr,h4⟩=>?_)
  subst hr
  refine qci hp (thn h4 λ_ s5 ⟨x,H5,I5,r5,y5,st5,fr5⟩=>?_)
  have I5':=I5.pinned (stat fr5) (T.obj _ _ st5)
  refine qci hp (thn (hg _ s5 σ3 H5 x u _ I5' r5 (step x H5 y5)) λ_ s6 ⟨σ6,H6,I6,q6⟩=>?_)
  refine qci hp (thn (hb _ s6 σ6 H6 _ I6 q6) λf s7 q7=>?_)
  have again:∀ {σ7:St}{H7:Hp},Inv X (pins++jp fp s5.heap) σ7 H7 s7->N σ7 H7->∃ m,m<n/\∃ i σ' H',Inv X pins σ' H' s7/\tn i s7.heap/\(∀ b∈fp,H' b=none)/\W i m σ' H':=λ{σ7 H7} I7 n7=>by
   obtain⟨m',hm,w7⟩:=hN σ7 H7 n7
   refine⟨m',hm,i+1,σ7,H7,I7.unpinned,T.keep _ _ _ st5 λb hb o e=>(I7.pin (b,o) (qap _ (qap _ (cZ hb e)))).1,λb hb=>?_,w7⟩
   obtain⟨o,e,d⟩:=T.obj _ _ st5 b hb
   exact (I7.pin (b,o) (qap _ (qap _ (cZ hb e)))).2.1
  cases f with
  |next=>obtain⟨σ7,H7,I7,n7⟩:=q7;exact again I7 n7
  |cont=>obtain⟨σ7,H7,I7,n7⟩:=q7;exact again I7 n7
  |brk=>obtain⟨σ7,H7,I7,q7⟩:=q7;exact⟨σ7,H7,I7.unpinned,q7⟩
  |ret v=>obtain⟨x7,σ7,H7,I7,r7,q7⟩:=q7;exact⟨x7,σ7,H7,I7.unpinned,r7,q7⟩
end
abbrev R2:=V->V->Hp->VK->Prop
def OpR (X:Cx) (f:Value->Value->Sem Value) (r:R2):Prop:=
 ∀ (pins:List (Addr×Obj)) (s:qak) (σ:St) (H:Hp) (x y:V) (v u:Value) (Q:VK),Inv X pins σ H s->bo x v->bo y u->r x y H Q->
  wpAny (model X.prog X.w) X.A (f v u) (EP X pins σ Q) X.xe s
def UnR (X:Cx) (f:Value->Sem Value) (r:V->Hp->VK->Prop):Prop:=
 ∀ (pins:List (Addr×Obj)) (s:qak) (σ:St) (H:Hp) (x:V) (v:Value) (Q:VK),Inv X pins σ H s->bo x v->r x H Q->
  wpAny (model X.prog X.w) X.A (f v) (EP X pins σ Q) X.xe s
def di (X:Cx) (f:Value) (r:List V->Hp->VK->Prop):Prop:=
 ∀ (pins:List (Addr×Obj)) (s:qak) (σ:St) (H:Hp) (xs:List V) (us:List Value) (Q:VK),Inv X pins σ H s->aJ xs us->r xs H Q->
  wpAny (model X.prog X.w) X.A (call f us) (EP X pins σ Q) X.xe s
def zR (X:Cx) (r:V->Hp->(Bool->Hp->Prop)->Prop):Prop:=
 ∀ (pins:List (Addr×Obj)) (s:qak) (σ:St) (H:Hp) (x:V) (v:Value) (Q:Bool->Hp->Prop),Inv X pins σ H s->bo x v->r x H Q->
  wpAny (model X.prog X.w) X.A (truthy v) (TP X pins σ Q) X.xe s
def tOp (r:R2) (ta tb:TE):TE:=λσ H Q=>ta σ H λx H1=>tb σ H1 λy H2=>r x y H2 Q
def tUn (r:V->Hp->VK->Prop) (ta:TE):TE:=λσ H Q=>ta σ H λx H1=>r x H1 Q
def rI (C:Int->Int->Prop) (g:Int->Int->V):R2:=λx y H Q=>∃ i j,x=.int i/\y=.int j/\C i j/\Q (g i j) H
def rI0 (g:Int->Int->V):R2:=λx y H Q=>∃ i j,x=.int i/\y=.int j/\Q (g i j) H
def rU (g:Int->V):V->Hp->VK->Prop:=λx H Q=>∃ i,x=.int i/\Q (g i) H
section
variable {X:Cx}{a b c:Expr}{ta tb tc:TE}{pos:Pos}
theorem xG (ha:PE X a ta) (hb:PE X b tb) {pins:List (Addr×Obj)}{s:qak}{σ:St}{H:Hp}{R:V->V->Hp->Prop} (I:Inv X pins σ H s)
  (h:ta σ H λx H1=>tb σ H1 λy H2=>R x y H2) {Q:Value->qak->Prop}{f:Value->Value->Sem Value}
  (hf:∀ v u s2 x y H2,Inv X pins σ H2 s2->bo x v->bo y u->R x y H2->wpAny (model X.prog X.w) X.A (f v u) Q X.xe s2) :
  wpAny (model X.prog X.w) X.A (eval a X.env) (λv s₁=>wpAny (model X.prog X.w) X.A (eval b X.env) (λu s₂=>wpAny (model X.prog X.w) X.A (f v u) Q X.xe s₂) X.xe s₁) X.xe s:=by
 refine thn (ha pins s σ H _ I h) λv s1 ⟨x,H1,I1,r1,q1⟩=>?_
 refine thn (hb pins s1 σ H1 _ I1 q1) λu s2 ⟨y,H2,I2,r2,q2⟩=>?_
 exact hf v u s2 x y H2 I2 r1 r2 q2
theorem wE {op:Operator}{r:R2} (ho:OpR X (qbu op) r) (ha:PE X a ta) (hb:PE X b tb):PE X (.BinOp a op b pos) (tOp r ta tb):=by
 intro pins s σ H Q I h
 exact wpAny_BinOp (xG ha hb I h λv u s2 x y H2 I2 rx ry q=>ho pins s2 σ H2 x y v u Q I2 rx ry q)
theorem zy {op:UnaryOp}{r:V->Hp->VK->Prop} (ho:UnR X (unaryOp op) r) (ha:PE X a ta):PE X (.UnaryOp op a pos) (tUn r ta):=by
 intro pins s σ H Q I h
 exact UnaryOp_ (thn (ha pins s σ H _ I h) λv s1 ⟨x,H1,I1,r1,q1⟩=>ho pins s1 σ H1 x v Q I1 r1 q1)
theorem opI {f:Value->Value->Sem Value}{C:Int->Int->Prop}{g:Int->Int->Int}
  (rule:∀ (i j:Int) (t u:Tok) (s:qak) (Q:Value->qak->Prop) (E:Value->qak->Prop),C i j->Q (.int (g i j) s.toks) { s with toks:=s.toks+1 }->wpAny (model X.prog X.w) X.A (f (.int i t) (.int j u)) Q E s) :
  OpR X f (rI C λi j=>.int (g i j)):=by
 intro pins s σ H x y v u Q I rx ry h
 obtain⟨i,j,rfl,rfl,hc,q⟩:=h
 obtain⟨t,rfl⟩:=rx
 obtain⟨t',rfl⟩:=ry
 exact rule i j t t' s _ _ hc ⟨.int (g i j),H,I.tok _,⟨_,rfl⟩,q⟩
theorem yn {f:Value->Value->Sem Value}{g:Int->Int->Int}
  (rule:∀ (i j:Int) (t u:Tok) (s:qak) (Q:Value->qak->Prop) (E:Value->qak->Prop),Q (.int (g i j) s.toks) { s with toks:=s.toks+1 }->wpAny (model X.prog X.w) X.A (f (.int i t) (.int j u)) Q E s) :
  OpR X f (rI0 λi j=>.int (g i j)):=by
 intro pins s σ H x y v u Q I rx ry h
 obtain⟨i,j,rfl,rfl,q⟩:=h
 obtain⟨t,rfl⟩:=rx
 obtain⟨t',rfl⟩:=ry
 exact rule i j t t' s _ _ ⟨.int (g i j),H,I.tok _,⟨_,rfl⟩,q⟩
theorem uX {f:Value->Value->Sem Value}{g:Int->Int->Bool}
  (rule:∀ (i j:Int) (t u:Tok) (s:qak) (Q:Value->qak->Prop) (E:Value->qak->Prop),Q (.bool (g i j)) s->wpAny (model X.prog X.w) X.A (f (.int i t) (.int j u)) Q E s) :
  OpR X f (rI0 λi j=>.bl (g i j)):=by
 intro pins s σ H x y v u Q I rx ry h
 obtain⟨i,j,rfl,rfl,q⟩:=h
 obtain⟨t,rfl⟩:=rx
 obtain⟨t',rfl⟩:=ry
 exact rule i j t t' s _ _ ⟨.bl (g i j),H,I,rfl,q⟩
def zI (i j:Int):Prop:=0<j/\j<1073741824
def pU (i j:Int):Prop:=0<=j/\j<=1000000/\i.natAbs<2^64
def vL (i j:Int):Prop:=(-(2^64)<i/\i<2^64)\/(-(2^64)<j/\j<2^64)
theorem vL.ok {i j:Int} (h:vL i j):qfC i j:=by
 rcases h with⟨h1,h2⟩|⟨h1,h2⟩
 ·exact .of_left (intBits_le_64 h1 h2)
 ·exact .of_right (intBits_le_64 h1 h2)
theorem xx:OpR X (qbu .Add) (rI0 λi j=>.int (i+j)):=yn λ_ _ _ _ _ _ _ q=>add_int q
theorem xm:OpR X (qbu .Sub) (rI0 λi j=>.int (i - j)):=yn λ_ _ _ _ _ _ _ q=>sub_int q
theorem vF:OpR X (qbu .FloorDiv) (rI zI λi j=>.int (i / j)):=opI λi j _ _ _ _ _ hc q=>by
 have h1:(0:Int)<j:=hc.1
 have h2:j<1073741824:=hc.2
 exact floordiv_int (by lia) (by rw[qeM i (by lia)];exact q) (.inl (PyProof.noPylong_small (by lia)))
theorem xB:OpR X (qbu .Mod) (rI (λ_ j=>0<j) λi j=>.int (i%j)):=opI λi j _ _ _ _ _ hc q=>by
 have h1:(0:Int)<j:=hc
 exact mod_int' (by lia) (by rw[Int.fmod_eq_emod_of_nonneg i (by lia)];exact q)
theorem x8:OpR X (qbu .Pow) (rI pU λi j=>.int (i^j.toNat)):=opI λ_ _ _ _ _ _ _ hc q=>pow_int_small hc.1 hc.2.1 hc.2.2 q
theorem unI {f:Value->Sem Value}{g:Int->Int}
  (rule:∀ (i:Int) (t:Tok) (s:qak) (Q:Value->qak->Prop) (E:Value->qak->Prop),Q (.int (g i) s.toks) { s with toks:=s.toks+1 }->wpAny (model X.prog X.w) X.A (f (.int i t)) Q E s) :
  UnR X f (rU λi=>.int (g i)):=by
 intro pins s σ H x v Q I rx h
 obtain⟨i,rfl,q⟩:=h
 obtain⟨t,rfl⟩:=rx
 exact rule i t s _ _ ⟨.int (g i),H,I.tok _,⟨_,rfl⟩,q⟩
theorem xJ:UnR X (unaryOp .USub) (rU λi=>.int (-i)):=unI λ_ _ _ _ _ q=>neg_int q
end
section
variable {X:Cx}{a b c:Expr}{ta tb tc:TE}{pos:Pos}
theorem tw {pins:List (Addr×Obj)}{σ:St}{H:Hp}{s:qak}{Q:VK}{k k':Bool} (I:Inv X pins σ H s) (q:Q (.bl k) H) (e:k=k'):EP X pins σ Q (.bool k') s:=by
 subst e
 exact⟨.bl k,H,I,rfl,q⟩
theorem yT:OpR X (qbD .Lt) (rI0 λi j=>.bl (decide (i<j))):=uX λ_ _ _ _ _ _ _ q=>lt_int q
theorem zh:OpR X (qbD .LtE) (rI0 λi j=>.bl (decide (i<=j))):=uX λ_ _ _ _ _ _ _ q=>le_int q
theorem zl:OpR X (qbD .Gt) (rI0 λi j=>.bl (decide (j<i))):=uX λ_ _ _ _ _ _ _ q=>gt_int q
theorem zo:OpR X (qbD .GtE) (rI0 λi j=>.bl (decide (j<=i))):=uX λ_ _ _ _ _ _ _ q=>ge_int q
theorem ye:OpR X (qbD .Is) (λx y H Q=>y=.non/\Q (.bl (decide (x=.non))) H):=by
 intro pins s σ H x y v u Q I rx ry h
 obtain⟨rfl,q⟩:=h
 cases ry
 refine is_none_gen (tw I q ?_)
 cases x<;>first
  |(cases rx;rfl)
  |(obtain⟨t,rfl⟩:=rx;rfl)
theorem wg:OpR X (qbD .IsNot) (λx y H Q=>y=.non/\Q (.bl (!decide (x=.non))) H):=by
 intro pins s σ H x y v u Q I rx ry h
 obtain⟨rfl,q⟩:=h
 cases ry
 refine isnot_none_gen (tw I q ?_)
 cases x<;>first
  |(cases rx;rfl)
  |(obtain⟨t,rfl⟩:=rx;rfl)
theorem bb (b:Expr) {op:CmpOp} (h:op≠.In:=by decide) (h2:op≠.NotIn:=by decide):qc2 op b=false:=by
 have e1:(op==CmpOp.In)=false:=by cases op<;>first|rfl|exact absurd rfl h
 have e2:(op==CmpOp.NotIn)=false:=by cases op<;>first|rfl|exact absurd rfl h2
 cases b<;>simp[qc2,e1,e2]
theorem wn {op:CmpOp}{r:R2} (ho:OpR X (qbD op) r) (ha:PE X a ta) (hb:PE X b tb) (hm:qc2 op b=false):PE X (.Compare a [op] [b] pos) (tOp r ta tb):=by
 intro pins s σ H Q I h
 exact wpAny_Compare1 (xG ha hb I h λv u s2 x y H2 I2 rx ry q=>ho pins s2 σ H2 x y v u Q I2 rx ry q) hm
def yY (t:TE):TT:=λσ H Q=>t σ H λx H'=>∃ k,x=.bl k/\Q k H'
theorem vA {op:CmpOp}{r:R2} (ho:OpR X (qbD op) r) (ha:PE X a ta) (hb:PE X b tb) (hm:qc2 op b=false):PT X (.Compare a [op] [b] pos) (yY (tOp r ta tb)):=by
 intro pins s σ H Q I h
 refine wpAny_isTrue_Compare1 (thn (ha pins s σ H _ I h) λv s1 ⟨x,H1,I1,r1,q1⟩=>thn (hb pins s1 σ H1 _ I1 q1) λu s2 ⟨y,H2,I2,r2,q2⟩=>
  thn (ho pins s2 σ H2 x y v u _ I2 r1 r2 q2) λc s3 ⟨z,H3,I3,r3,k,e,q3⟩=>?_) hm
 subst e
 cases r3
 exact qeB ⟨H3,I3,q3⟩
def wm (K:qac) (x:V) (H:Hp) (k:Bool):Prop:=
 match x with
 |.non=>k=false
 |.bl b=>k=b
 |.int i=>k=(i != 0)
 |.str y=>y.length<=qaM/\k=((y.length:Int) != 0)
 |.byt y=>y.size<=qaM/\k=((y.size:Int) != 0)
 |.ref p=>(∃ xs,SqL K H p xs/\k=!xs.isEmpty)\/(∃ xs,SqT K H p xs/\k=!xs.isEmpty)\/∃ kvs,H p=some (.dK kvs)/\k=!kvs.isEmpty
 |_=>False
theorem pY {κ:Type}{kvs:List (κ×V)}{vs:List (κ×Value)} (r:KV kvs vs):(!vs.isEmpty)=!kvs.isEmpty:=by
 cases r<;>rfl
theorem lE {xs:List V}{its:List Value} (r:aJ xs its):(!its.toArray.isEmpty)=!xs.isEmpty:=by
 cases r<;>simp
theorem iQ:(qaM:Nat)<2^63:=by rw[qeb];decide
theorem x9:zR X (λx H Q=>∃ k,wm X.K x H k/\Q k H):=by
 intro pins s σ H x v Q I rx h
 obtain⟨k,e,q⟩:=h
 have hl:=iQ
 have hs:qaM=16777216:=qeb
 cases x with
 |non=>
  cases rx
  have e':k=false:=e
  subst e'
  exact truthy_none ⟨H,I,q⟩
 |bl b=>
  cases rx
  have e':k=b:=e
  subst e'
  exact qeB ⟨H,I,q⟩
 |int i=>
  obtain⟨t,rfl⟩:=rx
  have e':k=(i != 0):=e
  subst e'
  exact PySem.P.truthy_int ⟨H,I,q⟩
 |str y=>
  obtain⟨t,rfl⟩:=rx
  obtain⟨hy,e'⟩:y.length<=qaM/\k=((y.length:Int) != 0):=e
  subst e'
  exact PySem.P.truthy_str (by lia) ⟨H,I.tok _,q⟩
 |byt y=>
  obtain⟨t,rfl⟩:=rx
  obtain⟨hy,e'⟩:y.size<=qaM/\k=((y.size:Int) != 0):=e
  subst e'
  exact PySem.W.truthy_bytes (by lia) ⟨H,I.tok _,q⟩
 |ref p=>
  cases rx
  have e':(∃ xs,SqL X.K H p xs/\k=!xs.isEmpty)\/(∃ xs,SqT X.K H p xs/\k=!xs.isEmpty)\/∃ kvs,H p=some (.dK kvs)/\k=!kvs.isEmpty:=e
  rcases e' with⟨xs,hx,e'⟩|⟨xs,hx,e'⟩|⟨kvs,hx,e'⟩
  ·subst e'
   obtain⟨its,r,pl,hz⟩:=I.list hx
   have hlen:=r.length
   exact wpAny_truthy_list pl.isList (by simp only[qat];lia) ⟨H,I.tok _,by rw[lE r];exact q⟩
  ·subst e'
   obtain⟨its,r,pl,hz⟩:=I.tuple hx
   have hlen:=r.length
   exact truthy_tuple pl (by simp only[qat];lia) ⟨H,I.tok _,by rw[lE r];exact q⟩
  ·subst e'
   obtain⟨hz,hS,vs,r,m⟩:kvs.length<=qaM/\(p==qgC)=false/\∃ vs,KV kvs vs/\s.heap.DictOf (mM X.prog X.w) p vs:=I.hok p _ hx
   have hlen:kvs.length=vs.length:=qf7 r
   exact wpAny_truthy_dict hS m (by lia) ⟨H,I.tok _,by rw[pY r];exact q⟩
 |_=>exact (show False from e).elim
theorem uG (ha:PE X a ta) (he:∀ whole,qhF a X.env whole=(do let v <-whole;qhE a.pos;qeE [v] (truthy v))) :
  PT X a (λσ H Q=>ta σ H λx H'=>∃ k,wm X.K x H' k/\Q k H'):=by
 intro pins s σ H Q I h
 exact isTrue_plain (thn (ha pins s σ H _ I h) λv s1 ⟨x,H1,I1,r1,q1⟩=>x9 pins s1 σ H1 x v Q I1 r1 q1) (he _)
theorem qs:OpR X (qbu .Add) (λx y H Q=>∃ i j,x=.str i/\y=.str j/\i.length+j.length<=qaM/\Q (.str (i++j)) H):=by
 intro pins s σ H x y v u Q I rx ry h
 obtain⟨i,j,rfl,rfl,hz,q⟩:=h
 obtain⟨t,rfl⟩:=rx
 obtain⟨t',rfl⟩:=ry
 exact add_str (λt' tk=>⟨.str (i++j),H,I.tok _,⟨_,rfl⟩,q⟩) hz
theorem kM {x:V}{us:List Value} (r:aJ [x] us):∃ u,us=[u]/\bo x u:=by
 cases r with
 |cons r1 r2=>cases r2;exact⟨_,rfl,r1⟩
theorem yZ {x y:V}{us:List Value} (r:aJ [x,y] us):∃ u w',us=[u,w']/\bo x u/\bo y w':=by
 cases r with
 |cons r1 r2=>
  cases r2 with
  |cons r3 r4=>cases r4;exact⟨_,_,rfl,r1,r3⟩
theorem ux:di X (.builtin "abs") (λxs H Q=>∃ i,xs=[.int i]/\Q (.int (if i<0 then -i else i)) H):=by
 intro pins s σ H xs us Q I r h
 obtain⟨i,rfl,q⟩:=h
 obtain⟨u,rfl,t,rfl⟩:=kM r
 exact call_abs_int λu tk=>⟨.int (if i<0 then -i else i),H,I.tok _,⟨_,rfl⟩,q⟩
theorem su (hc:X.calm=true):di X (.builtin "min") (λxs H Q=>∃ i j,xs=[.int i,.int j]/\Q (.int (if j<i then j else i)) H):=by
 intro pins s σ H xs us Q I r h
 obtain⟨i,j,rfl,q⟩:=h
 obtain⟨u,w',rfl,⟨t,rfl⟩,⟨t',rfl⟩⟩:=yZ r
 refine min_two_ints (I.ok.hd hc) λh' tk k=>⟨_,H,I.kept k,?_,q⟩
 by_cases hj:j<i
 ·rw[if_pos hj,if_pos hj];exact⟨_,rfl⟩
 ·rw[if_neg hj,if_neg hj];exact⟨_,rfl⟩
theorem mn:di X (.type "int") (λxs H Q=>(∃ i,xs=[.int i]/\Q (.int i) H)\/∃ k,xs=[.bl k]/\Q (.int (if k then 1 else 0)) H):=by
 intro pins s σ H xs us Q I r h
 rcases h with⟨i,rfl,q⟩|⟨k,rfl,q⟩
 ·obtain⟨u,rfl,t,rfl⟩:=kM r
  exact call_int_int ⟨.int i,H,I,⟨_,rfl⟩,q⟩
 ·obtain⟨u,rfl,r1⟩:=kM r
  cases r1
  exact call_int_bool ⟨.int (if k then 1 else 0),H,I.tok _,⟨_,rfl⟩,q⟩
end
structure rN (h:Heap) (x dx C:Addr) (mA:Str->Option Value):Prop where
 obj:h.get? x=some (qbU C dx)
 ns:h.Ns1 dx mA
 ne:dx≠x
theorem sB {h:Heap}{dx:Addr}{mA:Str->Option Value} (n:h.Ns1 dx mA):∃ od,h.get? dx=some od/\∀ name,qeu name od=some (mA name):=by
 obtain⟨o,es,ep,ho,hd,hk,_,hm⟩:=n
 refine⟨o,ho,λname=>?_⟩
 have e:=hm name
 unfold nsFind findBy at e
 rw[<-Array.find?_toList]at e
 unfold qeu
 rw[hd]
 dsimp only
 split
 ·rename_i y q
  rw[q]at e
  exact congrArg some e
 ·rename_i q
  rw[q]at e
  have a:es.toList.any (·.refKey)=false:=by
   rw[qfK]
   intro y hy
   obtain⟨z,t,hkey⟩:=hk y (Array.mem_toList_iff.mp hy)
   simp[DictEntry.refKey,hkey]
  have a':¬ es.toList.any (·.refKey)=true:=by rw[a];exact qaF
  rw[if_neg a']
  exact congrArg some e
theorem rN.look {h:Heap}{x dx C:Addr}{mA:Str->Option Value} (I:rN h x dx C mA):∃ od,PySem.W.InstAt h x (qbU C dx) C (some od)/\∀ name,qeu name od=some (mA name):=
 let ⟨od,ho,hl⟩:=sB I.ns
 ⟨od,⟨I.obj,rfl,rfl,ho⟩,hl⟩
section
variable {prog:qa0}{w:World}{A:qbb}{E:Value->qak->Prop}{s:qak}{K:qac}{x dx C f:Addr}{mA:Str->Option Value}{name:Str}{v:Value}
theorem vw {expr:Bool}{Q:Value->qak->Prop} (X:K.In s.heap) (I:rN s.heap x dx C mA) (hg:qde K C name=true) (hh:qc3 K C=true)
  (ha:qbh K (.ref C) name=some none) (hv:mA name=some v) (hv':qfk v=true) (h:Q v { s with toks:=s.toks+1 }) :
  wpAny (model prog w) A (getAttr (.ref x) name expr) Q E s:=by
 obtain⟨od,J,hl⟩:=I.look
 exact PySem.W.get_value X J (PySem.W.plainGet_of hg).1 (PySem.W.findObj_own hh ha rfl (by rw[hl,hv])) hv' h
theorem vm {ns:List Str}{Q:Unit->qak->Prop} (X:K.In s.heap) (I:rN s.heap x dx C mA)
  (hs:qbh K (.ref C) "__setattr__" = some (some (.builtin "object.__setattr__"))) (hp:qdT K C=true) (ht:qee K C name=some none) (hh:qc3 K C=true)
  (hw:qe3 mA ns) (hsz:ns.length<=qaM)
  (h:∀ h',rN h' x dx C (λy=>if y=name then some v else mA y)->qc6 dx s.heap h'->Q () { s with heap:=h',toks:=s.toks+2 }) :
  wpAny (model prog w) A (setAttr (.ref x) name v) Q E s:=by
 obtain⟨od,J,hl⟩:=I.look
 refine PySem.W.set_plain X J hs (PySem.W.osa_open (s:={ s with toks:=s.toks+1 }) (r:=none) X J hp ht λb=>?_)
 obtain⟨cd,hc,hd'⟩:=PySem.W.any_some hh
 have hx:s.heap.get? x=some ⟨.ref C,some dx,.plain,#[]⟩:=I.obj
 refine qaf (qaw (qaf (qaf (wpAny_loadPart hx (qaf (qgF (s:={ s with toks:=s.toks+1 }) (PySem.W.looks_clsIn X hc) ?_))))))
 rw[hd']
 refine qaw (a:=some dx) (qaf (qaw (qaf ?_)))
 refine wpAny_nsSet1 (s:={ s with toks:=s.toks+1 }) I.ns λh' hn2 hs2=>?_
 obtain⟨oD,esD,epD,hoD,hdD,hcD⟩:=hn2.count (qhs name v hw)
 refine qaf (wpAny_lookBehind hoD (by rw[hdD];exact pastItsLine_dict (qa3 hcD (by rw[qaq];lia))) ?_)
 exact qaw (h _ ⟨(hs2.2 _ (qbo I.ne)).trans I.obj,hn2,I.ne⟩ hs2)
theorem sX {R:Result->qak->Prop}{vs:List Value}{kw:List (Str×Value)} (X:K.In s.heap) (hm:qef K C=true)
  (hi:qbh K (.ref C) "__init__" = some (some (.ref f))) (hf:PySem.W.typeIn K (.ref f)=some (.type "function"))
  (h:qec (model prog w) (A.under (.builtin "type.__call__" ⟨.ref C::vs,kw⟩)) (.call (.ref f) ⟨.ref (s.heap.objs.size+1)::vs,kw⟩) (PySem.W.InitBack (s.heap.objs.size+1) R)
    { s with heap:=(s.heap.push qbz).push (qbU C s.heap.objs.size) }) :
  qec (model prog w) A (.call (.ref C) ⟨vs,kw⟩) R s:=by
 obtain⟨hh,g,d,t,os⟩:=s
 exact PySem.W.make_core (PySem.W.makes_of X hm) (PySem.W.looks_findIn X hi) (λself=>PySem.W.bind_fn X self hf) (.inl rfl) h
end
def fV (f:Str) (v:V):List (Str×V)->List (Str×V)
 |[]=>[(f,v)]
 |(g,x)::r=>if g=f then (g,v)::r else (g,x)::fV f v r
theorem jM (f g:Str) (v:V):∀ fs:List (Str×V),(fV f v fs).lookup g=if g=f then some v else fs.lookup g
 |[]=>by
  show qcX g [(f,v)]=_
  by_cases h:g=f
  ·have hb:(g==f)=true:=beq_iff_eq.mpr h
   simp only[qcX,hb,if_pos h]
  ·have hb:(g==f)=false:=beq_eq_false_iff_ne.mpr h
   simp only[qcX,hb,if_neg h]
 |(k,x)::r=>by
  have ih:=jM f g v r
  rw[show fV f v ((k,x)::r)=(if k=f then (k,v)::r else (k,x)::fV f v r) from rfl]
  by_cases hk:k=f
  ·rw[if_pos hk]
   by_cases h:g=k
   ·have hb:(g==k)=true:=beq_iff_eq.mpr h
    simp only[qcX,hb,if_pos (h.trans hk)]
   ·have hb:(g==k)=false:=beq_eq_false_iff_ne.mpr h
    simp only[qcX,hb,if_neg (λe:g=f=>h (e.trans hk.symm))]
  ·rw[if_neg hk]
   by_cases h:g=k
   ·have hb:(g==k)=true:=beq_iff_eq.mpr h
    simp only[qcX,hb,if_neg (λe:g=f=>hk (h.symm.trans e))]
   ·have hb:(g==k)=false:=beq_eq_false_iff_ne.mpr h
    simp only[qcX,hb]
    exact ih
theorem jC (f:Str) (v:V):∀ fs:List (Str×V),f∈(fV f v fs).map (·.1)/\∀ g,g∈fs.map (·.1)->g∈(fV f v fs).map (·.1)
 |[]=>⟨by simp[fV],λg h=>by simp at h⟩
 |(k,x)::r=>by
  obtain⟨i1,i2⟩:=jC f v r
  rw[show fV f v ((k,x)::r)=(if k=f then (k,v)::r else (k,x)::fV f v r) from rfl]
  by_cases hk:k=f
  ·rw[if_pos hk]
   subst hk
   exact⟨by simp,λg h=>by simpa using h⟩
  ·rw[if_neg hk]
   refine⟨?_,λg h=>?_⟩
   ·rw[qay]
    exact qah _ i1
   ·rw[qay]at h ⊢
    rcases qaH.mp h with e|e
    ·exact qaH.mpr (.inl e)
    ·exact qah _ (i2 g e)
theorem jR (f:Str) (v:V):∀ fs:List (Str×V),(fV f v fs).length<=fs.length+1
 |[]=>by simp[fV]
 |(k,x)::r=>by
  have ih:=jR f v r
  rw[show fV f v ((k,x)::r)=(if k=f then (k,v)::r else (k,x)::fV f v r) from rfl]
  by_cases hk:k=f
  ·rw[if_pos hk,qaq,qaq];lia
  ·rw[if_neg hk,qaq,qaq];lia
theorem pf.some_of {v:V}{o:Option Value} (r:pf (some v) o):∃ u,o=some u/\bo v u:=by
 cases o with
 |none=>exact (show False from r).elim
 |some u=>exact⟨u,rfl,r⟩
theorem sD {v:V}{u:Value} (r:bo v u):qfk u=true:=by
 cases v with
 |non=>cases (show u=Value.none from r);rfl
 |bl b=>cases (show u=Value.bool b from r);rfl
 |int i=>obtain⟨t,e⟩:=(show ∃ t,u=Value.int i t from r);cases e;rfl
 |str x=>obtain⟨t,e⟩:=(show ∃ t,u=Value.str x t from r);cases e;rfl
 |byt b=>obtain⟨t,e⟩:=(show ∃ t,u=Value.bytes b t from r);cases e;rfl
 |flt b=>obtain⟨t,e⟩:=(show ∃ t,u=Value.float b t from r);cases e;rfl
 |ref a=>cases (show u=Value.ref a from r);rfl
 |ty n=>cases (show u=Value.type n from r);rfl
section
variable {P:qa0}{w:World}{H H':Hp}{h h':Heap}{a C dx:Addr}{fs fs':List (Str×V)}
theorem qE (hok:HOk P w H h) (e:H a=some (.ins C dx fs)):∃ mA,rN h a dx C mA/\(∀ f,pf (fs.lookup f) (mA f))/\qe3 mA (fs.map (·.1))/\fs.length<=1000/\H dx=some (.own a):=by
 obtain⟨d,z,ne,ob,mA,n,r,q⟩:=(show dN P w H h a (.ins C dx fs) from hok a _ e)
 exact⟨mA,⟨ob,n,ne⟩,r,q,z,d⟩
end
structure Cls (K:qac) (C:Addr):Prop where
 pg:qde K C Str.empty=true
 hd:qc3 K C=true
 po:qdT K C=true
 sa:qbh K (.ref C) "__setattr__" = some (some (.builtin "object.__setattr__"))
theorem Cls.get {K:qac}{C:Addr} (c:Cls K C) (f:Str):qde K C f=true:=c.pg
def cR (K:qac) (C:Addr) (f:Str):Prop:=qbh K (.ref C) f=some none
theorem cR.taker {K:qac}{C:Addr}{f:Str} (n:cR K C f):qee K C f=some none:=by
 unfold qee
 rw[show qbh K (.ref C) f=some none from n]
 rfl
section
variable {X:Cx}{pins:List (Addr×Obj)}{σ:St}{H:Hp}{s:qak}{a C dx:Addr}{fs:List (Str×V)}{f:Str}{v:V}{A:qbb}{E:Value->qak->Prop}
theorem qA {b:Bool}{Q:Value->qak->Prop} (I:Inv X pins σ H s) (e:H a=some (.ins C dx fs)) (c:Cls X.K C) (n:cR X.K C f) (l:fs.lookup f=some v)
  (h:∀ u s',Inv X pins σ H s'->bo v u->Q u s'):wpAny (model X.prog X.w) A (getAttr (.ref a) f b) Q E s:=by
 obtain⟨mA,O,r,_,_,_⟩:=qE I.hok e
 obtain⟨u,hu,ru⟩:=pf.some_of (v:=v) (o:=mA f) (by rw[<-l];exact r f)
 exact vw I.kIn O (c.get f) c.hd n hu (sD ru) (h u _ (I.tok _) ru)
theorem pF {y:V}{u:Value}{Q:Unit->qak->Prop} (I:Inv X pins σ H s) (e:H a=some (.ins C dx fs)) (c:Cls X.K C) (n:cR X.K C f) (hl:fs.length<1000) (ry:bo y u)
  (h:∀ s',Inv X pins σ (upd H a (.ins C dx (fV f y fs))) s'->Q () s'):wpAny (model X.prog X.w) A (setAttr (.ref a) f u) Q E s:=by
 obtain⟨mA,O,r,wi,_,ho⟩:=qE I.hok e
 have hz:(fs.map (·.1)).length<=qaM:=by rw[qam,qeb];lia
 refine vm I.kIn O c.sa c.po n.taker c.hd wi hz λh' O' sb=>h _ ?_
 have hd:∃ o,h'.get? dx=some o:=let ⟨o,_,_,e',_⟩:=O'.ns;⟨o,e'⟩
 refine I.write (x:=a) (e:=dx) (by rw[e];exact True.intro) (.inr ho) (λb q hb z=>(sb.2 b hb).trans z) hd ?_
 refine⟨by rw[upd_ne O.ne];exact ho,?_,O.ne,O'.obj,_,O'.ns,λg=>?_,λg hg=>?_⟩
 ·have:=jR f y fs;lia
 ·show pf ((fV f y fs).lookup g) (if g=f then some u else mA g)
  rw[jM]
  by_cases q:g=f
  ·rw[if_pos q,if_pos q];exact ry
  ·rw[if_neg q,if_neg q];exact r g
 ·by_cases q:g=f
  ·rw[q];exact (jC f y fs).1
  ·refine (jC f y fs).2 g (wi g λz=>hg ?_)
   show (if g=f then some u else mA g)=none
   rw[if_neg q];exact z
theorem Inv.made (I:Inv X pins σ H s):Inv X pins σ (upd (upd H s.heap.objs.size (.own (s.heap.objs.size+1))) (s.heap.objs.size+1) (.ins C s.heap.objs.size []))
  { s with heap:=(s.heap.push qbz).push (qbU C s.heap.objs.size) }:=by
 have e1:(s.heap.push qbz).get? s.heap.objs.size=some qbz:=qaA s.heap rfl
 have e2:((s.heap.push qbz).push (qbU C s.heap.objs.size)).get? (s.heap.objs.size+1)=some (qbU C s.heap.objs.size):=by
  have:=qaA (s.heap.push qbz) (o:=qbU C s.heap.objs.size) rfl
  rwa [qbd]at this
 have e3:(s.heap.push qbz).Ns s.heap.objs.size (λ_=>none):=⟨qbz,#[],_,e1,rfl,(λe he=>absurd he (by simp)),λ_=>rfl⟩
 have I1:=I.laid (a:=s.heap.objs.size) (o:=.own (s.heap.objs.size+1)) (h':=s.heap.push qbz) (t':=s.toks) (λb u q=>qai _ q) (qal _) ⟨_,e1⟩
 refine I1.laid (a:=s.heap.objs.size+1) (o:=.ins C s.heap.objs.size []) (t':=s.toks) (λb u q=>qai _ q) (qcP (qbd _ _)) ?_
 have ne:s.heap.objs.size≠s.heap.objs.size+1:=qaP (qby _)
 refine⟨by rw[upd_ne ne,upd_same],qcL _,ne,e2,λ_=>none,(Heap.Ns1.of_empty e3).at λo q=>qai _ q,λ_=>True.intro,λy hy=>absurd rfl hy⟩
theorem u3 {prog:qa0}{w:World}{env:Env}{e:Expr}{f:Str}{pos:Pos}{s:qak}{Q:Value->qak->Prop} (hb:qcJ e f env (eval e env)=eval e env)
  (h:wpAny (model prog w) A (eval e env) (λo s₁=>wpAny (model prog w) A (getAttr o f true) Q E s₁) E s):wpAny (model prog w) A (eval (.Attribute e f pos) env) Q E s:=
 Attribute_any_ h (by rw[arm_eval_Attribute,hb])
end
def zC (K:qac) (ta:TE) (f:Str):TE:=λσ H Q=>ta σ H λx H1=>∃ a C dx fs v,x=.ref a/\H1 a=some (.ins C dx fs)/\Cls K C/\cR K C f/\fs.lookup f=some v/\Q v H1
def zZ (K:qac) (ta tv:TE) (f:Str):TS:=λD σ H=>tv σ H λy H1=>ta σ H1 λx H2=>∃ a C dx fs,x=.ref a/\H2 a=some (.ins C dx fs)/\Cls K C/\cR K C f/\fs.length<1000/\
 D.nx σ (upd H2 a (.ins C dx (fV f y fs)))
section
variable {X:Cx}{o e value:Expr}{f:Str}{pos pos' tpos:Pos}{ta tv:TE}
theorem wN (he:PE X e ta) (hb:qcJ e f X.env (eval e X.env)=eval e X.env):PE X (.Attribute e f pos) (zC X.K ta f):=by
 intro pins s σ H Q I h
 refine u3 hb (thn (he pins s σ H _ I h) λu s1 ⟨x,H1,I1,rx,a,C,dx,fs,v,ex,ea,c,n,l,q⟩=>?_)
 subst ex
 obtain rfl:u=Value.ref a:=rx
 exact qA I1 ea c n l λu' s2 I2 ru=>⟨v,H1,I2,ru,q⟩
theorem tu (ha:PE X o ta) (hv:PE X value tv) (hs:qcw value (some (.Attribute o f pos')) pos.line X.env=pure false):PS X (.Assign [.Attribute o f pos'] value pos) (zZ X.K ta tv f):=by
 intro pins s σ H D I h
 refine plainObj_wpAny_Assign_Attribute (thn (hv pins s σ H _ I h) λu s1 ⟨y,H1,I1,ry,q⟩=>thn (ha pins s1 σ H1 _ I1 q) λov s2 ⟨x,H2,I2,rx,a,C,dx,fs,ex,ea,c,n,l,q2⟩=>?_) hs
 subst ex
 obtain rfl:ov=Value.ref a:=rx
 exact pF I2 ea c n l ry λs3 I3=>⟨σ,_,I3,q2⟩
end
section
variable {X:Cx}{pins:List (Addr×Obj)}{σ:St}{H:Hp}{s:qak}{A:qbb}{E:Value->qak->Prop}{Q:Value->qak->Prop}{c:Value}{b:Bool}
end
structure cN (k:Nat) (A:qbb):Prop where
 hd:A.handled=none
 dp:A.depth+3*k+5<qhL
 un:A.units+16*k+200<cLine
 gd:A.guards=some []
theorem cN.mono {j k:Nat}{A:qbb} (r:cN k A) (h:j<=k):cN j A:=⟨r.hd,by have:=r.dp;lia,by have:=r.un;lia,r.gd⟩
theorem cN.deeper {k:Nat}{A:qbb} (r:cN (k+1) A) (env:Env):cN k (A.deeper env):=
 ⟨r.hd,by have:=r.dp;show A.depth+1+3*k+5<_;lia,by have:=r.un;show A.units+3+16*k+200<_;lia,r.gd⟩
theorem pB {A:qbb}{C:Addr}{us:List Value}{kw:List (Str×Value)}:(A.under (.builtin "type.__call__" ⟨.ref C::us,kw⟩)).depth=A.depth+1:=by
 first|rfl|simp[qd7,Code.weight,Code.isCreation,qgK,Code.isCaller,qhD,qfa,guardIds]
theorem pv {A:qbb}{C:Addr}{us:List Value}{kw:List (Str×Value)}:(A.under (.builtin "type.__call__" ⟨.ref C::us,kw⟩)).units=A.units+1:=by
 first|rfl|simp[qd7,Code.cUnits,qhD,qfa]
theorem cN.make {k:Nat}{A:qbb} (r:cN (k+1) A) (C:Addr) (us:List Value) (kw:List (Str×Value)):cN k (A.under (.builtin "type.__call__" ⟨.ref C::us,kw⟩)):=
 ⟨r.hd,by have:=r.dp;rw[pB];lia,by have:=r.un;rw[pv];lia,by
  unfold qd7
  simp[r.gd,pushGuards,Code.guards,qgK,guardIds]⟩
theorem cN.depth {k:Nat}{A:qbb} (r:cN k A):A.depth<qhL:=by have:=r.dp;lia
theorem cN.units0 {k:Nat}{A:qbb} (r:cN k A):A.units<cLine:=by have:=r.un;lia
def zQ:TA:=λ_ H Q=>Q [] H
def zv (ta:TE) (tr:TA):TA:=λσ H Q=>ta σ H λx H1=>tr σ H1 λxs H2=>Q (x::xs) H2
section
variable {X:Cx}{e:Expr}{es:List Expr}{te:TE}{t:TA}{pos:Pos}
theorem mT:PA X [] zQ:=λ_ _ _ _ H Q I h=>Calls.spliced_nil ⟨[],H,I,.nil,h⟩
theorem kz (ha:PE X e te) (hr:PA X es t) (hs:qbg (e::es) X.env=(false,eval e X.env)::qbg es X.env:=by rfl):PA X (e::es) (zv te t):=by
 intro pos pins s σ H Q I h
 rw[hs]
 show wpAny _ _ (spliced ((false,eval e X.env)::qdA pos (qbg es X.env))) _ _ s
 refine Calls.spliced_cons (thn (ha pins s σ H _ I h) λu s1 ⟨x,H1,I1,r1,q1⟩=>?_)
 exact thn (hr pos pins s1 σ H1 _ I1 q1) λus s2 ⟨xs,H2,I2,r2,q2⟩=>⟨x::xs,H2,I2,.cons r1 r2,q2⟩
def zX (t:TA):TE:=λσ H Q=>t σ H λxs H1=>xs.length<=qaM/\∀ p,H1 p=none->Q (.ref p) (upd H1 p (.tup xs))
def zM (t:TA):TE:=λσ H Q=>t σ H λxs H1=>xs.length<=qaM/\∀ p,H1 p=none->Q (.ref p) (upd H1 p (.lst xs))
theorem xV {x1} (h:PA X es t):PE X (.Tuple es x1 pos) (zX t):=by
 intro pins s σ H Q I hq
 refine wpAny_Tuple_spliced (thn (h pos pins s σ H _ I hq) λus s1 ⟨xs,H1,I1,r,z,q⟩=>⟨by rw[<-r.length];exact z,?_⟩)
 have hf:H1 s1.heap.objs.size=none:=I1.hok.fresh (qal _)
 refine⟨.ref s1.heap.objs.size,upd H1 s1.heap.objs.size (.tup xs),I1.laid (t':=s1.toks) (λb u e=>qai _ e) (qal _) ?_,rfl,q _ hf⟩
 exact⟨z,us,r,dC.new _ _⟩
theorem w6 (h:PA X es t):PE X (.List es pos) (zM t):=by
 intro pins s σ H Q I hq
 refine wpAny_List_spliced (thn (h pos pins s σ H _ I hq) λus s1 ⟨xs,H1,I1,r,z,q⟩=>⟨by rw[<-r.length];exact z,?_⟩)
 have hf:H1 s1.heap.objs.size=none:=I1.hok.fresh (qal _)
 refine⟨.ref s1.heap.objs.size,upd H1 s1.heap.objs.size (.lst xs),I1.laid (t':=s1.toks) (λb u e=>qai _ e) (qal _) ?_,rfl,q _ hf⟩
 exact⟨z,us,0,r,qaA _ rfl⟩
end
abbrev Sp:=List V->Hp->VK->XK->Prop
abbrev CXT:=List Env->Hp->qak->XK->Value->qak->Prop
structure pS (P:qa0) (w:World) (K:qac) (mg:Str->Option Value) (base:Heap) (A:qbb) (outer:List Env) (s:qak) (H:Hp):Prop where
 frames:A.frames=some outer
 mod:Mod K mg base
 bs:∀ b o,base.get? b=some o->s.heap.get? b=some o/\H b=none
 bsz:base.objs.size<=s.heap.objs.size
 funs:s.heap.FunFrames base outer
 frf:∀ b∈frs outer,H b=none
 hok:HOk P w H s.heap
 bare:qej s.gens
def CE (outer:List Env) (P:qa0) (w:World) (H:Hp) (s:qak) (Q:VK) (u:Value) (s':qak):Prop:=
 ∃ v H',s'.os=s.os/\qej s'.gens/\Un (frs outer) [] H H' s.heap s'.heap/\HOk P w H' s'.heap/\bo v u/\Q v H'
def CR (CX:CXT) (outer:List Env) (P:qa0) (w:World) (H:Hp) (s:qak) (Q:VK) (E:XK) (r:Result) (s':qak):Prop:=
 match r with
 |.ok (.ret u)=>CE outer P w H s Q u s'
 |.ok _=>False
 |.error e=>CX outer H s E e s'
structure bO (P:qa0) (w:World) (K:qac) (mg:Str->Option Value) (base:Heap) (CX:CXT) (k:Nat) (f:Addr) (fd:qa2) (ps:List Str) (sp:Sp):Prop where
 len:∀ vs H Q E,sp vs H Q E->vs.length=ps.length
 run:∀ (A:qbb) (outer:List Env) (s:qak) (H:Hp) (args:Args) (us:List Value) (vs:List V) (Q:VK) (E:XK),cN k A->pS P w K mg base A outer s H->qfE s fd args (ps.zip us)->aJ vs us->sp vs H Q E->
  qec (model P w) A (.call (.ref f) args) (CR CX outer P w H s Q E) s
theorem bO.mono {P:qa0}{w:World}{K:qac}{mg:Str->Option Value}{base:Heap}{CX:CXT}{j k:Nat}{f:Addr}{fd:qa2}{ps:List Str}{sp:Sp} (F:bO P w K mg base CX j f fd ps sp) (h:j<=k) :
  bO P w K mg base CX k f fd ps sp:=⟨F.len,λA outer s H args us vs Q E hr=>F.run A outer s H args us vs Q E (hr.mono h)⟩
theorem pS.make {P:qa0}{w:World}{K:qac}{mg:Str->Option Value}{base:Heap}{A:qbb}{outer:List Env}{s:qak}{H:Hp} (e:pS P w K mg base A outer s H) (C:Addr) (us:List Value) (kw:List (Str×Value)) :
  pS P w K mg base (A.under (.builtin "type.__call__" ⟨.ref C::us,kw⟩)) outer s H:=⟨by first|exact e.frames|(simpa [qd7,Code.envs,qfa,pushEnvs] using e.frames),e.mod,e.bs,e.bsz,e.funs,e.frf,e.hok,e.bare⟩
section
variable {X:Cx}{pins:List (Addr×Obj)}{σ:St}{H:Hp}{s s':qak}
theorem Inv.env0 (I:Inv X pins σ H s):pS X.prog X.w X.K X.mg X.base X.A X.stack s H:=
 ⟨I.ok.frames,I.ok.mod,I.bs,qa3 I.ok.bsz I.sz,I.stack,I.stkFree,I.hok,I.bare⟩
theorem Inv.after {Q:VK}{u:Value} (I:Inv X pins σ H s) (h:CE X.stack X.prog X.w H s Q u s'):EP X pins σ Q u s':=by
 obtain⟨v,H',os,bare,un,hok,r,q⟩:=h
 obtain⟨hh,g,d,t,os'⟩:=s'
 obtain rfl:os'=s.os:=os
 exact⟨v,H',I.call (h':=hh) (g':=g) (d':=d) (t':=t) (ch:=[]) un hok bare (λb z=>absurd z (by simp)),r,q⟩
end
def yU (sp:Sp) (dvs:List V) (E:XK) (t:TA):TE:=λσ H Q=>t σ H λvs H1=>sp (vs++dvs) H1 Q E
def yI (C:Addr) (sp:Sp) (dvs:List V) (E:XK) (t:TA):TE:=λσ H Q=>t σ H λvs H1=>∀ x dx,H1 x=none->H1 dx=none->dx≠x->
 sp (.ref x::(vs++dvs)) (upd (upd H1 dx (.own x)) x (.ins C dx [])) (λv H2=>v=.non/\Q (.ref x) H2) E
def bB (K:qac) (fd:qa2) (ps:List Str) (ds:List Value):Prop:=
 ∀ (s:qak) (us:List Value),K.In s.heap->(us++ds).length=ps.length->qfE s fd ⟨us,[]⟩ (ps.zip (us++ds))
theorem bB.all {K:qac}{fd:qa2}{ps:List Str} (h:∀ us:List Value,us.length=ps.length->bindArgs fd ⟨us,[]⟩=pure (ps.zip us)):bB K fd ps []:=λs us _ hl=>by
 rw[qbw]at hl ⊢
 exact .of_eq (h us hl)
def kT (CX:CXT) (X:Cx) (E:XK):Prop:=∀ (pins:List (Addr×Obj)) (σ:St) (H:Hp) (s:qak) (e:Value) (s':qak),Inv X pins σ H s->CX X.stack H s E e s'->X.xe e s'
section
variable {X:Cx}{CX:CXT}{k:Nat}{f C:Addr}{fd:qa2}{ps:List Str}{sp:Sp}{dvs:List V}{ds:List Value}{E:XK}{x m:Str}{p pos apos:Pos}{e o:Expr}{es:List Expr}{ta:TE}{t:TA}
theorem xZ {pins:List (Addr×Obj)}{σ:St}{H:Hp}{s:qak}{Q:VK}{us:List Value}{vs:List V} (F:bO X.prog X.w X.K X.mg X.base CX k f fd ps sp) (hr:cN k X.A) (hb:bB X.K fd ps ds) (hd:aJ dvs ds) (hx:kT CX X E)
  (I:Inv X pins σ H s) (r:aJ vs us) (h:sp (vs++dvs) H Q E):wpAny (model X.prog X.w) X.A (call (.ref f) us) (EP X pins σ Q) X.xe s:=by
 have r2:aJ (vs++dvs) (us++ds):=r.append hd
 have hl:(us++ds).length=ps.length:=by rw[<-r2.length];exact F.len _ _ _ _ h
 refine wpAny_call (qeJ (F.run X.A X.stack s H ⟨us,[]⟩ (us++ds) (vs++dvs) Q E hr I.env0 (hb s us I.kIn hl) r2 h) λr s' hq=>?_)
 cases r with
 |error e=>exact hx pins σ H s e s' I hq
 |ok fl=>
  cases fl with
  |ret u=>exact I.after hq
  |next=>exact qbW hq
  |brk=>exact qbW hq
  |cont=>exact qbW hq
theorem rg (F:bO X.prog X.w X.K X.mg X.base CX k f fd ps sp) (hr:cN k X.A) (hg:Gl X x) (hm:X.mg x=some (.ref f)) (hk:qaG X.K (.ref f)=true) (hb:bB X.K fd ps ds) (hd:aJ dvs ds) (hx:kT CX X E)
  (ha:PA X (e::es) t) (hdb:(x==("__debug__" : Str))=false:=by decide) (he:qbg (e::es) X.env=(false,eval e X.env)::qbg es X.env:=by rfl) (hpl:(qdA pos (qbg es X.env)).any (·.1)=false:=by rfl) :
  PE X (.Call (.Name x p) (e::es) [] pos) (yU sp dvs E t):=by
 intro pins s σ H Q I h
 refine qdg (qV I hg hm ?_ hdb)
 refine qe8 (h₀:=X.base) I.ok.mod.kin hk (thn (ha pos pins s σ H _ I h) λus s1 ⟨vs,H1,I1,r,q⟩=>⟨I1.kIn,?_⟩) he hpl
 exact xZ F hr hb hd hx I1 r q
structure Mk (K:qac) (C f:Addr):Prop where
 makes:qef K C=true
 init:qbh K (.ref C) "__init__" = some (some (.ref f))
 fn:qf6 K (.ref f)=true
 kp:qaG K (.ref C)=true
theorem ut {pins:List (Addr×Obj)}{σ:St}{H:Hp}{s:qak}{Q:VK}{us:List Value}{vs:List V} (M:Mk X.K C f) (F:bO X.prog X.w X.K X.mg X.base CX k f fd ps sp) (hr:cN (k+1) X.A) (hb:bB X.K fd ps ds) (hd:aJ dvs ds)
  (hx:kT CX X E) (I:Inv X pins σ H s) (r:aJ vs us)
  (h:∀ x dx,H x=none->H dx=none->dx≠x->sp (.ref x::(vs++dvs)) (upd (upd H dx (.own x)) x (.ins C dx [])) (λv H2=>v=.non/\Q (.ref x) H2) E) :
  wpAny (model X.prog X.w) X.A (call (.ref C) us) (EP X pins σ Q) X.xe s:=by
 have hq:=h (s.heap.objs.size+1) s.heap.objs.size (I.hok.fresh (qdl _)) (I.hok.fresh (qal _)) (qaP (qby _))
 have I2:=Inv.made (C:=C) I
 have r2:aJ (V.ref (s.heap.objs.size+1)::(vs++dvs)) (Value.ref (s.heap.objs.size+1)::(us++ds)):=.cons rfl (r.append hd)
 have hl:(Value.ref (s.heap.objs.size+1)::us++ds).length=ps.length:=by
  have e:=r2.length
  rw[F.len _ _ _ _ hq]at e
  exact e.symm
 refine wpAny_call (sX (f:=f) I.kIn M.makes M.init (beq_iff_eq.mp M.fn) (qeJ (F.run _ X.stack _ _ ⟨Value.ref (s.heap.objs.size+1)::us,[]⟩ (Value.ref (s.heap.objs.size+1)::(us++ds)) _ _ E (hr.make C us [])
  (I2.env0.make C us []) (hb _ (Value.ref (s.heap.objs.size+1)::us) I2.kIn hl) r2 hq) λr s' hq'=>?_))
 cases r with
 |error e=>exact hx pins σ _ _ e s' I2 hq'
 |ok fl=>
  cases fl with
  |ret u=>
   obtain⟨v,H',I3,rv,ev,q3⟩:=I2.after hq'
   subst ev
   exact⟨rv,⟨V.ref (s.heap.objs.size+1),H',I3,rfl,q3⟩⟩
  |next=>exact qbW hq'
  |brk=>exact qbW hq'
  |cont=>exact qbW hq'
theorem vN (M:Mk X.K C f) (F:bO X.prog X.w X.K X.mg X.base CX k f fd ps sp) (hr:cN (k+1) X.A) (hg:Gl X x) (hm:X.mg x=some (.ref C)) (hb:bB X.K fd ps ds) (hd:aJ dvs ds) (hx:kT CX X E)
  (ha:PA X (e::es) t) (hdb:(x==("__debug__" : Str))=false:=by decide) (he:qbg (e::es) X.env=(false,eval e X.env)::qbg es X.env:=by rfl) (hpl:(qdA pos (qbg es X.env)).any (·.1)=false:=by rfl) :
  PE X (.Call (.Name x p) (e::es) [] pos) (yI C sp dvs E t):=by
 intro pins s σ H Q I h
 refine qdg (qV I hg hm ?_ hdb)
 refine qe8 (h₀:=X.base) I.ok.mod.kin M.kp (thn (ha pos pins s σ H _ I h) λus s1 ⟨vs,H1,I1,r,q⟩=>⟨I1.kIn,?_⟩) he hpl
 exact ut M F hr hb hd hx I1 r q
end
section
variable {X:Cx}{CX:CXT}{k:Nat}{f C:Addr}{fd:qa2}{ps ks:List Str}{sp:Sp}{E:XK}{x m:Str}{p pos apos kpos:Pos}{e o:Expr}{es:List Expr}{kws:List qgj}{te ta:TE}{t tk:TA}{nm:Option Str}
variable {g:List Value->List Value->List Value}{gV:List V->List V->List V}
end
structure aK (N P:List Str) (sc:Scope):Prop where
 kind:sc.kind=.function
 co:sc.isCoroutine=false
 gen:sc.isGenerator=false
 nd:N.Nodup
 pre:N.take P.length=P
 par:∀ x∈P,sc.names.lookup x=some .local\/sc.names.lookup x=some .cell
 nofree:∀ y∈sc.names,y.2≠.free
theorem ml {kindOf:Str->Option qbP}{x:Str}:∀ {binds:List (Str×Value)}{m:Str->Option Value},(∀ v,(x,v)∉binds)->bindL kindOf binds m x=m x
 |[],_,_=>rfl
 |(n,v)::r,m,h=>by
  unfold bindL
  rw[ml λw hw=>h w (qah _ hw)]
  split
  ·have:x≠n:=by rintro rfl;exact h v qae
   simp[this]
  ·rfl
theorem mm {kindOf:Str->Option qbP}{x:Str}:∀ {binds:List (Str×Value)}{m:Str->Option Value},(∀ v,(x,v)∉binds)->bindC kindOf binds m x=m x
 |[],_,_=>rfl
 |(n,v)::r,m,h=>by
  unfold bindC
  rw[mm λw hw=>h w (qah _ hw)]
  split
  ·rfl
  ·have:x≠n:=by rintro rfl;exact h v qae
   simp[this]
theorem ms {kindOf:Str->Option qbP}{x:Str}{v:Value}:∀ {P:List Str}{vs:List Value}{i:Nat}{m:Str->Option Value},P.Nodup->P[i]?=some x->vs[i]?=some v->kindOf x=some .local->
  bindL kindOf (P.zip vs) m x=some v
 |[],_,_,_,_,h,_,_=>by simp at h
 |_::_,[],_,_,_,_,h,_=>by simp at h
 |p::P,w::vs,0,m,nd,h1,h2,hk=>by
  simp at h1 h2;subst h1;subst h2
  show bindL kindOf ((p,w)::P.zip vs) m p=_
  unfold bindL
  rw[ml λv hv=>(qbY.mp nd).1 (qew hv).1,if_pos hk]
  simp
 |p::P,w::vs,i+1,m,nd,h1,h2,hk=>by
  show bindL kindOf ((p,w)::P.zip vs) m x=_
  unfold bindL
  exact ms (i:=i) (qbY.mp nd).2 (by simpa using h1) (by simpa using h2) hk
theorem mw {kindOf:Str->Option qbP}{x:Str}{v:Value}:∀ {P:List Str}{vs:List Value}{i:Nat}{m:Str->Option Value},P.Nodup->P[i]?=some x->vs[i]?=some v->kindOf x≠some .local->
  bindC kindOf (P.zip vs) m x=some v
 |[],_,_,_,_,h,_,_=>by simp at h
 |_::_,[],_,_,_,_,h,_=>by simp at h
 |p::P,w::vs,0,m,nd,h1,h2,hk=>by
  simp at h1 h2;subst h1;subst h2
  show bindC kindOf ((p,w)::P.zip vs) m p=_
  unfold bindC
  rw[mm λv hv=>(qbY.mp nd).1 (qew hv).1,if_neg hk]
  simp
 |p::P,w::vs,i+1,m,nd,h1,h2,hk=>by
  show bindC kindOf ((p,w)::P.zip vs) m x=_
  unfold bindC
  exact mw (i:=i) (qbY.mp nd).2 (by simpa using h1) (by simpa using h2) hk
def fP (N:List Str) (vs:List V):St:=vs.map some++qav (N.length - vs.length) none
def ma (CX:CXT) (P:qa0) (w:World) (K:qac) (mg:Str->Option Value) (base:Heap) (N:List Str) (qual:Str) (scope:Scope) (f:Addr) (cd:Value) (A:qbb) (outer:List Env) (s:qak) (H:Hp) (E:XK):Cx where
 prog:=P
 w:=w
 K:=K
 mg:=mg
 base:=base
 A:=A.deeper (qd8 qual scope s.heap.objs.size f cd)
 N:=N
 s₀:=s
 H₀:=H
 env:=qd8 qual scope s.heap.objs.size f cd
 outer:=outer
 stack:=qd8 qual scope s.heap.objs.size f cd::outer
 ex:=[]
 calm:=true
 fn:=λ_=>true
 pn:=[]
 xe:=λe s'=>wpAny (model P w) (A.deeper (qd8 qual scope s.heap.objs.size f cd)) (leaving (qd8 qual scope s.heap.objs.size f cd) e) (λ_ s''=>CX outer H s E e s'') (λe' s''=>CX outer H s E e' s'') s'
theorem o0 {sc:Scope}{n:Nat}{x:Str} (h:sc.names.lookup x=some .cell):∃ c,(qbE n sc.names []).lookup x=some c:=by
 have q:=qcy sc.names n [] (.inl h)
 exact qcn.mp q
theorem r8 {CX:CXT}{P:qa0}{w:World}{K:qac}{mg:Str->Option Value}{base:Heap}{N ps:List Str}{qual:Str}{scope:Scope}{f:Addr}{cd:Value}{A:qbb}{outer:List Env}{s s1:qak}{H:Hp}{E:XK}{us:List Value}{vs:List V}
  (S:aK N ps scope) (hd:A.handled=none) (e0:pS P w K mg base A outer s H) (hl:vs.length=ps.length) (r:aJ vs us)
  (x:InCallC s s.heap.objs.size (bindL (qd8 qual scope s.heap.objs.size f cd).kindOf (ps.zip us) λ_=>none) (qbE (s.heap.objs.size+1) scope.names []) (bindC (qd8 qual scope s.heap.objs.size f cd).kindOf (ps.zip us) λ_=>none) s1) :
  Inv (ma CX P w K mg base N qual scope f cd A outer s H E) [] (fP N vs) H s1:=by
 have hpl:ps.length<=N.length:=by have:=congrArg List.length S.pre;rw[qdm]at this;lia
 obtain⟨h1,tk,rfl,hk⟩:=x.done
 have noA:∀ b:Addr,b∉(ma CX P w K mg base N qual scope f cd A outer s H E).ex:=λb z=>absurd (show b∈([]:List Addr) from z) (by simp)
 refine⟨⟨e0.mod,S.kind,rfl,rfl,qal _,λy z c h1 h2=>?_,λy hy=>?_,λy c _ h=>?_,λ_=>hd,Around.frames_deeper e0.frames,.inr ⟨rfl,rfl⟩,λb z=>absurd z (noA b),e0.bs,e0.bsz,λb _ _=>noA b,λb z=>absurd z (noA b),e0.funs,e0.frf⟩,
  rfl,e0.bare,Un.kept hk,⟨_,x.toInCall.ns,λi y v h1 h2 h3=>?_⟩,λy c h=>⟨_,x.cell y c h⟩,e0.hok.fresh (qal _),λy c h=>?_,λp hp=>absurd (show p∈([]:List (Addr×Obj)) from hp) (by simp),e0.hok.kept hk,?_⟩
 ·exact name_of_addr x.apart (qbf h1) (qbf h2)
 ·have hy:scope.names.lookup y=some .cell\/scope.names.lookup y=some .free:=hy
  rcases hy with hy|hy
  ·exact o0 hy
  ·exact absurd rfl (S.nofree _ (qbf hy))
 ·exact qen (x.above y c (qbf h))
 ·have hi:i<vs.length:=by
   unfold fP at h2
   by_cases hi:i<vs.length
   ·exact hi
   ·rw[qaJ (by simpa using hi)]at h2
    rw[qcD]at h2
    split at h2<;>cases h2
  have ha:vs[i]?=some v:=by
   unfold fP at h2
   rw[qaC (by simpa using hi),qaI]at h2
   cases e:vs[i]? with
   |none=>rw[e]at h2;cases h2
   |some a=>rw[e]at h2;cases h2;rfl
  obtain⟨u,hu,rv⟩:=r.get ha
  have hp:ps[i]?=some y:=by
   rw[<-S.pre,qeS (by lia)];exact h1
  have ndP:ps.Nodup:=by rw[<-S.pre];exact S.nd.sublist (List.take_sublist _ _)
  refine⟨u,rv,?_⟩
  rcases S.par y (qbN hp) with k|k
  ·exact .inl ⟨k,ms ndP hp hu k⟩
  ·obtain⟨c,e⟩:=o0 (n:=s.heap.objs.size+1) k
   refine .inr ⟨.inl k,c,e,?_⟩
   have q:=x.cell y c e
   rw[mw ndP hp hu (by show scope.names.lookup y≠_;rw[k];decide)]at q
   exact q
 ·exact e0.hok.fresh (qen (x.above y c (qbf h)))
 ·unfold fP
  show _=N.length
  rw[qau,qam,qca]
  lia
theorem zi {CX:CXT}{P:qa0}{w:World}{K:qac}{mg:Str->Option Value}{base:Heap}{k:Nat}{f:Addr}{name qual:Str}{params:Arguments}{body:List Stmt}{scope:Scope}{dV kV doc pm cdv ct oc:Value}{an od:Option Addr}
  {osl:Array (Option Value)}{N ps:List Str}{sp:Sp} (lk:K.lookup f=some ⟨oc,od,.func (qaO name qual params body scope dV kV doc pm an cdv ct),osl⟩) (hcd:qaL K cdv qual=true) (S:aK N ps scope)
  (len:∀ vs H Q E,sp vs H Q E->vs.length=ps.length)
  (hbody:∀ (A:qbb) (outer:List Env) (s:qak) (H:Hp) (vs:List V) (Q:VK) (E:XK),cN k (A.deeper (qd8 qual scope s.heap.objs.size f cdv))->sp vs H Q E->
    ∃ t,PSs (ma CX P w K mg base N qual scope f cdv A outer s H E) body t/\t { nx:=λ_ H'=>Q .non H',rt:=Q } (fP N vs) H) :
  bO P w K mg base CX (k+1) f (qaO name qual params body scope dV kV doc pm an cdv ct) ps sp:=by
 refine⟨len,λA outer s H args us vs Q E hr e0 hb r hsp=>?_⟩
 have hl:=len _ _ _ _ hsp
 have KX:K.In s.heap:=e0.mod.kin.keeps λb o e=>(e0.bs b o e).1
 have lim:s.heap.NoLimit:=e0.mod.nolimit.keeps λb o e=>(e0.bs b o e).1
 have hkind:∀ y∈ps.zip us,scope.names.lookup y.1=some .local\/(scope.names.lookup y.1=some .cell/\((qbE (s.heap.objs.size+1) scope.names []).lookup y.1).isSome=true):=λ⟨n,v⟩ hy=>by
  rcases S.par n (qew hy).1 with q|q
  ·exact .inl q
  ·exact .inr ⟨q,qcy _ _ _ (.inl q)⟩
 refine codeAny_call_function hr.depth (KX _ _ lk) rfl S.co S.gen rfl (PySem.W.codeRec_of KX hcd) (hb _ _ _ _ ?_)
 refine wpAny_newFunctionEnv_cells S.kind hkind λenv he s1 x=>?_
 subst he
 refine⟨lim.keeps x.toInCall.keep,codeAny_func ?_⟩
 obtain⟨t,ht,hq⟩:=hbody A outer s H vs Q E (hr.deeper _) hsp
 have I:Inv (ma CX P w K mg base N qual scope f cdv A outer s H E) [] (fP N vs) H s1:=r8 S hr.hd e0 hl r x
 refine qcF (ht [] s1 (fP N vs) H _ I hq) (λfl s' hs=>?_) λe s' hs=>hs
 have fin:∀ {σ':St}{H':Hp}{v:V}{u:Value},Inv (ma CX P w K mg base N qual scope f cdv A outer s H E) [] σ' H' s'->bo v u->Q v H'->CE outer P w H s Q u s':=
  λ{σ' H' v u} J rv q=>⟨v,H',J.os,J.bare,J.base,J.hok,rv,q⟩
 cases fl with
 |ret u=>
  obtain⟨v,σ',H',J,rv,q⟩:=hs
  exact fin J rv q
 |next=>
  obtain⟨σ',H',J,q⟩:=hs
  exact fin (v:=V.non) (u:=Value.none) J rfl q
 |brk=>
  obtain⟨_,_,_,q⟩:=hs
  exact qbW q
 |cont=>
  obtain⟨_,_,_,q⟩:=hs
  exact qbW q
section
variable {X:Cx}{x:Str}{p pos:Pos}{e:Expr}{es:List Expr}{t:TA}{id T:String}{r:List V->Hp->VK->Prop}
def tCB (r:List V->Hp->VK->Prop) (t:TA):TE:=λσ H Q=>t σ H λvs H1=>r vs H1 Q
theorem uq (hc:di X (.builtin id) r) (hg:Gl X x) (hm:X.mg x=none) (hv:qcG x=some (.builtin id)) (ha:PA X (e::es) t) (hn:x≠"__name__":=by decide) (hdb:(x==("__debug__" : Str))=false:=by decide)
  (he:qbg (e::es) X.env=(false,eval e X.env)::qbg es X.env:=by rfl) (hpl:(qdA pos (qbg es X.env)).any (·.1)=false:=by rfl):PE X (.Call (.Name x p) (e::es) [] pos) (tCB r t):=by
 intro pins s σ H Q I h
 refine qdg (jI I hg hm hv ?_ hn hdb)
 exact qhu (thn (ha pos pins s σ H _ I h) λus s1 ⟨vs,H1,I1,r1,q1⟩=>hc pins s1 σ H1 vs us Q I1 r1 q1) he hpl
theorem dR (hc:di X (.type T) r) (hg:Gl X x) (hm:X.mg x=none) (hv:qcG x=some (.type T)) (ha:PA X (e::es) t) (hn:x≠"__name__":=by decide) (hdb:(x==("__debug__" : Str))=false:=by decide)
  (he:qbg (e::es) X.env=(false,eval e X.env)::qbg es X.env:=by rfl) (hpl:(qdA pos (qbg es X.env)).any (·.1)=false:=by rfl):PE X (.Call (.Name x p) (e::es) [] pos) (tCB r t):=by
 intro pins s σ H Q I h
 refine qdg (jI I hg hm hv ?_ hn hdb)
 exact qbL (thn (ha pos pins s σ H _ I h) λus s1 ⟨vs,H1,I1,r1,q1⟩=>hc pins s1 σ H1 vs us Q I1 r1 q1) he hpl
end
end L2
namespace HT
open PySem PyProof.Rows
section
open PySem.SeqAt
open PySem.AutoSeq1 (wpAny_loadPart')
open PySem.MeetsSeq PySem.MeetsSeq2 PySem.MeetsSeq3
end
section
variable {prog:qa0}{w:World}{A:qbb}{E:Value->qak->Prop}{s:qak}
theorem cat_tup {t b:Addr}{vs ws:List Value}{Q:Value->qak->Prop} (ht:IsTup s.heap t vs.toArray) (hb:IsTup s.heap b ws.toArray) (hv:vs≠[])
  (h1:ws=[]->Q (.ref t) s) (h2:ws≠[]->Q (.ref s.heap.objs.size) { s with heap:=s.heap.push { cls:=.type "tuple",data:=.seq (vs++ws).toArray } })
  (hsz:vs.length+ws.length<=qaM):wpAny (model prog w) A (qbu .Add (.ref t) (.ref b)) Q E s:=by
 obtain⟨⟨cls,dd,data,sl⟩,ho,hc,n,hd⟩:=id ht
 obtain⟨⟨cls2,dd2,data2,sl2⟩,ho2,hc2,n2,hd2⟩:=id hb
 simp only at hc hd hc2 hd2
 subst hc hd hc2 hd2
 have e:vs.toArray++ws.toArray=(vs++ws).toArray:=by simp
 by_cases hw:ws=[]
 ·exact qfQ ⟨_,ho,rfl⟩ ⟨_,ho2,rfl⟩ qeP qfq qdf qdc (qc4 _ _)
   (tuple_addW1 t b vs.toArray ws.toArray n n2 dd dd2 sl sl2 (by simpa using hv) (by simp[hw])) ⟨ho,ho2,h1 hw⟩
 ·refine qfQ ⟨_,ho,rfl⟩ ⟨_,ho2,rfl⟩ qeP qfq qdf qdc (qc4 _ _)
   (tuple_addW2 t b vs.toArray ws.toArray n n2 dd dd2 sl sl2 (by simpa using hv) (by simpa using hw) (by rw[qat,qat];exact hsz)) ⟨ho,ho2,?_⟩
  rw[e]
  exact h2 hw
def sIx (n d:Nat):Option Int->Nat
 |none=>d
 |some v=>if v<0 then (v+(n:Int)).toNat else min v.toNat n
theorem sIx_none (n d:Nat):sIx n d none=d:=rfl
theorem sIx_nat (n d k:Nat):sIx n d (some (k:Int))=min k n:=by
 show (if (k:Int)<0 then ((k:Int)+(n:Int)).toNat else min (k:Int).toNat n)=min k n
 rw[if_neg (by lia),qch]
theorem xI (n d:Nat) (hd:d<=n) (o:Option Int):sIx n d o<=n:=by
 cases o with
 |none=>exact hd
 |some v=>
  show (if v<0 then (v+(n:Int)).toNat else min v.toNat n)<=n
  by_cases hv:v<0
  ·rw[if_pos hv];lia
  ·rw[if_neg hv];exact Nat.min_le_right _ _
theorem qL (v:Int) (n d:Nat):(if v<0 then max (v+(n:Int)) 0 else min v (n:Int))=((sIx n d (some v):Nat):Int):=by
 show (if v<0 then max (v+(n:Int)) 0 else min v (n:Int))=(((if v<0 then (v+(n:Int)).toNat else min v.toNat n):Nat):Int)
 by_cases hv:v<0
 ·simp only[if_pos hv];lia
 ·simp only[if_neg hv];lia
theorem pK (lo hi:Option Int) (n:Nat):qcR lo hi 1 (n:Int)=(((sIx n 0 lo:Nat):Int),((sIx n n hi:Nat):Int)):=by
 have h1:¬ ((1:Int)<0):=by lia
 unfold qcR
 simp only[h1,if_false]
 refine Prod.ext ?_ ?_
 ·cases lo with
  |none=>rfl
  |some v=>exact qL v n 0
 ·cases hi with
  |none=>rfl
  |some v=>exact qL v n n
theorem qx (i j:Nat):qb6 (i:Int) (j:Int) 1=j - i:=by
 unfold qb6
 have h1:(1:Int) > 0:=by lia
 simp only[h1,if_true,Int.ediv_one]
 split<;>lia
theorem kP {v:Value}{o:Option Int}{Q:Option Int->qak->Prop} (p:qeL v o) (h:Q o s):wpAny (model prog w) A (qgM v) Q E s:=by
 cases p with
 |none=>exact qhK h
 |int i t=>exact slicePart_int h
theorem gj {sl:Addr}{vl vu:Value}{lo hi:Option Int}{n:Nat}{Q:Int×Int×Nat->qak->Prop} (hs:s.heap.IsSliceOf sl vl vu .none) (pl:qeL vl lo) (pu:qeL vu hi)
  (h:Q (((sIx n 0 lo:Nat):Int),1,sIx n n hi - sIx n 0 lo) s):wpAny (model prog w) A (qdO (.ref sl) (pure (n:Int))) Q E s:=by
 obtain⟨os,hos,hcs,hds⟩:=id hs
 unfold qdO qgN
 refine qaf (qaf (qbH hos hds (x:=vl) rfl (qaf (qbH hos hds (x:=vu) rfl (qaf (qbH hos hds (x:=.none) rfl (qaw ?_)))))))
 refine qaf (qhK ?_)
 show wpAny _ _ (if ((1:Int)==0)=true then _ else _) _ _ s
 rw[if_neg (by decide)]
 refine qaf (kP pl (qaf (kP pu (qaf (qaw ?_)))))
 show wpAny _ _ (match qcR lo hi 1 (n:Int) with|(lo,hi)=>pure (lo,(1:Int),qb6 lo hi 1)) _ _ s
 rw[pK lo hi n]
 show wpAny _ _ (pure (((sIx n 0 lo:Nat):Int),(1:Int),qb6 ((sIx n 0 lo:Nat):Int) ((sIx n n hi:Nat):Int) 1)) _ _ s
 rw[qx]
 exact qaw h
theorem t9 (xs:Array Value) (i k:Nat):((qag k).filterMap λ(m:Nat)=>xs[((i:Int)+(m:Int)*1).toNat]?).toArray=((xs.toList.drop i).take k).toArray:=by
 have e:(λ(m:Nat)=>xs[((i:Int)+(m:Int)*1).toNat]?)=λm=>xs[i+m]?:=by
  funext m
  have:((i:Int)+(m:Int)*1).toNat=i+m:=by lia
  rw[this]
 rw[e]
 have:=pick_run xs i k
 rw[List.filterMap_map]at this
 have e2:((λx=>xs[x]?) ∘ λx=>i+x)=λm=>xs[i+m]?:=rfl
 rw[e2]at this
 rw[this]
theorem getItem_tuple_cut {t sl:Addr}{items:Array Value}{vl vu:Value}{lo hi:Option Int}{Q:Value->qak->Prop} (ht:IsTup s.heap t items) (hs:s.heap.IsSliceOf sl vl vu .none) (pl:qeL vl lo) (pu:qeL vu hi)
  (hw:¬ (sIx items.size 0 lo=0/\sIx items.size items.size hi=items.size))
  (h:Q (.ref s.heap.objs.size) { s with heap:=s.heap.push { cls:=.type "tuple",data:=.seq ((items.toList.drop (sIx items.size 0 lo)).take (sIx items.size items.size hi - sIx items.size 0 lo)).toArray } })
  (hsz:items.size<=qaM):wpAny (model prog w) A (qe0 (.ref t) (.ref sl)) Q E s:=by
 have htake:sizeOk (.seq ((items.toList.drop (sIx items.size 0 lo)).take (sIx items.size items.size hi - sIx items.size 0 lo)).toArray):=by
  show ((items.toList.drop (sIx items.size 0 lo)).take (sIx items.size items.size hi - sIx items.size 0 lo)).toArray.size<=qaM
  rw[qat,qdm,qfY,qcW]
  lia
 have hj:sIx items.size items.size hi<=items.size:=xI _ _ (qal _) hi
 obtain⟨os,hos,hcs,hds⟩:=id hs
 have hTs:s.TypeIs (.ref sl) "slice":=⟨os,hos,hcs⟩
 unfold qe0
 try with_reducible refine qc1 ?_
 first|refine qaf (qaw ?_)|skip
 refine qaf (qgz ht.typeIs (by decide) ?_)
 refine qaf (qbO (name:=qc7 "__getitem__") ht.typeIs qbl
  (qcx qbl ht.typeIs qgf ?_ (qgq _ _)))
 show wpAny _ _ (qdN (.ref t) >>= _) _ _ s
 refine qaf (tupleItemsOf_ ht ?_)
 refine qaf (qfN hTs ?_)
 rw[if_pos (by decide)]
 refine qaf (gj hs pl pu ?_)
 have hno:¬ ((((sIx items.size 0 lo:Nat):Int)==0&&(1:Int)==1&&(sIx items.size items.size hi - sIx items.size 0 lo)==items.size)=true):=by
  intro q
  rw[qaV,qaV]at q
  have q1:((sIx items.size 0 lo:Nat):Int)=0:=eq_of_beq q.1.1
  have q2:sIx items.size items.size hi - sIx items.size 0 lo=items.size:=eq_of_beq q.2
  exact hw ⟨by lia,by lia⟩
 show wpAny _ _ (if (((sIx items.size 0 lo:Nat):Int)==0&&(1:Int)==1&&(sIx items.size items.size hi - sIx items.size 0 lo)==items.size)=true then _ else _) _ _ s
 rw[if_neg hno,t9]
 first
  |exact qaf (m:=qcc _) (qbS (qaw ⟨_,rfl,qaw h⟩) htake)
  |exact qaf (m:=qcc _) (qbS (qaf (qaw (qaw ⟨_,rfl,qaw h⟩))) htake)
  |exact qaf (qaf (m:=qcc _) (qbS (qaw (qaw ⟨_,rfl,qaw h⟩)) htake))
  |exact qaf (qaf (m:=qcc _) (qbS (qaw ⟨_,rfl,qaw h⟩) htake))
end
end HT
namespace L2
open PySem PySem.Spec PyProof.Rows
abbrev TO:=St->Hp->(Option Int->Hp->Prop)->Prop
def PO (X:Cx) (e:Option Expr) (t:TO):Prop:=
 ∀ (pins:List (Addr×Obj)) (s:qak) (σ:St) (H:Hp) (Q:Option Int->Hp->Prop),Inv X pins σ H s->t σ H Q->
  wpAny (model X.prog X.w) X.A (evalPart e X.env) (λu s'=>∃ o H',Inv X pins σ H' s'/\qeL u o/\Q o H') X.xe s
def vW:TO:=λ_ H Q=>Q none H
def yR (t:TE):TO:=λσ H Q=>t σ H λx H1=>∃ i,x=.int i/\Q (some i) H1
theorem pI {ns:List Int}:∀ {us:List Value},aJ (ns.map V.int) us->qfB us ns:=by
 induction ns with
 |nil=>intro us r;rw[qcu]at r;cases r;exact .nil
 |cons n ns ih=>
  intro us r
  rw[qay]at r
  cases r with
  |cons r1 r2=>
   obtain⟨t,e⟩:=r1
   subst e
   exact .cons n t (ih r2)
section
variable {X:Cx}{e:Expr}{te:TE}{lo hi:Option Expr}{tl th:TO}{pos p2:Pos}
theorem wc:PO X none vW:=by
 intro pins s σ H Q I h
 rw[evalPart_none]
 exact qaw ⟨none,H,I,.none,h⟩
theorem uV (h:PE X e te):PO X (some e) (yR te):=by
 intro pins s σ H Q I hw
 rw[evalPart_some]
 refine thn (h pins s σ H _ I hw) λu s1 ⟨x,H1,I1,r1,q1⟩=>?_
 obtain⟨i,rfl,q⟩:=q1
 obtain⟨t,rfl⟩:=r1
 exact⟨some i,H1,I1,.int i t,q⟩
def SlR (X:Cx) (r:V->Option Int->Option Int->Hp->VK->Prop):Prop:=
 ∀ (pins:List (Addr×Obj)) (s:qak) (σ:St) (H:Hp) (x:V) (v vl vu:Value) (lo hi:Option Int) (sl:Addr) (Q:VK),Inv X pins σ H s->bo x v->s.heap.IsSliceOf sl vl vu .none->qeL vl lo->qeL vu hi->r x lo hi H Q->
  ∃ T id,typeLookup (.type T) "__getitem__" = pure (some (.builtin id))/\s.TypeIs v T/\wpAny (model X.prog X.w) X.A (qe0 v (.ref sl)) (EP X pins σ Q) X.xe s
def tSl (r:V->Option Int->Option Int->Hp->VK->Prop) (te:TE) (tl th:TO):TE:=λσ H Q=>te σ H λx H1=>tl σ H1 λl H2=>th σ H2 λu H3=>r x l u H3 Q
theorem om {r:V->Option Int->Option Int->Hp->VK->Prop} (hr:SlR X r) (he:PE X e te) (hl:PO X lo tl) (hu:PO X hi th):PE X (.Subscript e (.Slice lo hi none p2) pos) (tSl r te tl th):=by
 intro pins s σ H Q I h
 refine Subscript_ (thn (he pins s σ H _ I h) λv s1 ⟨x,H1,I1,r1,q1⟩=>?_)
 refine wpAny_Slice (thn (hl pins s1 σ H1 _ I1 q1) λvl s2 ⟨l,H2,I2,pl,q2⟩=>thn (hu pins s2 σ H2 _ I2 q2) λvu s3 ⟨u,H3,I3,pu,q3⟩=>?_)
 rw[evalPart_none]
 refine qaw ?_
 have I4:Inv X pins σ H3 { s3 with heap:=s3.heap.push { cls:=.type "slice",data:=.fields #[vl,vu,.none] } }:=I3.kept (t':=s3.toks) λb ob q=>qai _ q
 obtain⟨T,id,hT,ht,hg⟩:=hr pins { s3 with heap:=s3.heap.push { cls:=.type "slice",data:=.fields #[vl,vu,.none] } } σ H3 x v vl vu l u s3.heap.objs.size Q I4 r1 (qgt ..) pl pu q3
 show wpAny (model X.prog X.w) X.A (subscriptTail e (.Slice lo hi none p2) v (.ref s3.heap.objs.size)) (EP X pins σ Q) X.xe { s3 with heap:=s3.heap.push { cls:=.type "slice",data:=.fields #[vl,vu,.none] } }
 exact tail_any (ops:=[.ref s3.heap.objs.size,v]) ht hT hg (by with_unfolding_all rfl)
def nr (xs:List V) (lo hi:Option Int):List V:=(xs.drop (HT.sIx xs.length 0 lo)).take (HT.sIx xs.length xs.length hi - HT.sIx xs.length 0 lo)
theorem jN (xs:List V) (lo hi:Option Int):(nr xs lo hi).length<=xs.length:=by
 unfold nr
 rw[qdm,qfY]
 lia
def zH (K:qac):V->Option Int->Option Int->Hp->VK->Prop:=λx lo hi H Q=>∃ a xs,x=.ref a/\SqT K H a xs/\
 ¬ (HT.sIx xs.length 0 lo=0/\HT.sIx xs.length xs.length hi=xs.length)/\∀ p,H p=none->Q (.ref p) (upd H p (.tup (nr xs lo hi)))
theorem yb:SlR X (zH X.K):=by
 intro pins s σ H x v vl vu lo hi sl Q I rx hs pl pu h
 obtain⟨a,xs,rfl,hx,hw,q⟩:=h
 cases rx
 obtain⟨its,r,ht,hz⟩:=I.tuple hx
 have hlen:its.toArray.size=xs.length:=by rw[qat];exact r.length.symm
 refine⟨"tuple",_,qbl.lookup,ht.typeIs,?_⟩
 refine HT.getItem_tuple_cut ht hs pl pu (by rw[hlen];exact hw) ?_ (by rw[hlen];exact hz)
 rw[hlen]
 refine⟨.ref s.heap.objs.size,_,I.laid (t':=s.toks) (o:=.tup (nr xs lo hi)) (λb ob q=>qai _ q) (qal _) ?_,rfl,q _ (I.hok.fresh (qal _))⟩
 exact⟨qa3 (jN xs lo hi) hz,_,(r.drop (HT.sIx xs.length 0 lo)).take (HT.sIx xs.length xs.length hi - HT.sIx xs.length 0 lo),dC.new _ _⟩
def yC (K:qac):R2:=λx y H Q=>∃ a b xs ys,x=.ref a/\y=.ref b/\SqT K H a xs/\SqT K H b ys/\xs≠[]/\xs.length+ys.length<=qaM/\
 (ys=[]->Q (.ref a) H)/\(ys≠[]->∀ p,H p=none->Q (.ref p) (upd H p (.tup (xs++ys))))
theorem aJ.nil_iff {xs:List V}{us:List Value} (r:aJ xs us):us=[]↔xs=[]:=by
 cases r with
 |nil=>simp
 |cons _ _=>simp
theorem uY:OpR X (qbu .Add) (yC X.K):=by
 intro pins s σ H x y v u Q I rx ry h
 obtain⟨a,b,xs,ys,rfl,rfl,ha,hb,hx,hz,q1,q2⟩:=h
 cases rx
 cases ry
 obtain⟨its,r1,p1,_⟩:=I.tuple ha
 obtain⟨its2,r2,p2,_⟩:=I.tuple hb
 refine HT.cat_tup p1 p2 (λz=>hx (r1.nil_iff.mp z)) (λz=>⟨.ref a,H,I,rfl,q1 (r2.nil_iff.mp z)⟩) (λz=>?_) (by rw[<-r1.length,<-r2.length];exact hz)
 refine⟨.ref s.heap.objs.size,_,I.laid (t':=s.toks) (o:=.tup (xs++ys)) (λb ob q=>qai _ q) (qal _) ?_,rfl,q2 (λw=>z (r2.nil_iff.mpr w)) _ (I.hok.fresh (qal _))⟩
 exact⟨by rw[qau];exact hz,_,r1.append r2,dC.new _ _⟩
end
def ixN (n:Nat) (i:Int):Option Nat:=if 0<=i then (if i<n then some i.toNat else none) else if -(n:Int)<=i then some (i+n).toNat else none
def atI {α:Type} (xs:List α) (i:Int):Option α:=(ixN xs.length i).bind λj=>xs[j]?
theorem mK {n:Nat}{i:Int}{j:Nat} (h:ixN n i=some j):seqIndex? i n=some j/\j<n/\-(n:Int)<=i/\i<n:=by
 unfold ixN at h
 by_cases h0:0<=i
 ·rw[if_pos h0]at h
  by_cases h1:i<n
  ·rw[if_pos h1]at h
   have e:i.toNat=j:=qaS h
   exact⟨by rw[qge h0 h1,e],by lia,by lia,h1⟩
  ·rw[if_neg h1]at h;cases h
 ·rw[if_neg h0]at h
  by_cases h1:-(n:Int)<=i
  ·rw[if_pos h1]at h
   have e:(i+n).toNat=j:=qaS h
   exact⟨by rw[qfO (by lia) h1,e],by lia,h1,by lia⟩
  ·rw[if_neg h1]at h;cases h
theorem nD {α:Type}{xs:List α}{i:Int}{v:α} (h:atI xs i=some v):∃ j,seqIndex? i xs.length=some j/\xs[j]?=some v/\j<xs.length/\-(xs.length:Int)<=i/\i<xs.length:=by
 unfold atI at h
 cases e:ixN xs.length i with
 |none=>rw[e]at h;cases h
 |some j=>
  rw[e]at h
  obtain⟨h1,h2,h3,h4⟩:=mK e
  exact⟨j,h1,h,h2,h3,h4⟩
theorem fJ {α:Type}{xs:List α}{j:Nat}{v:α} (h:xs[j]?=some v):atI xs (j:Int)=some v:=by
 have hj:j<xs.length:=(qan.mp h).1
 have e:ixN xs.length (j:Int)=some j:=by
  unfold ixN
  rw[if_pos (by lia),if_pos (by lia)];simp
 unfold atI;rw[e];exact h
theorem ul {α:Type} (xs:List α) (v:α):atI (xs++[v]) (-1)=some v:=by
 have hl:(xs++[v]).length=xs.length+1:=by simp
 have e:ixN (xs++[v]).length (-1)=some xs.length:=by
  unfold ixN
  rw[hl,if_neg (by decide),if_pos (by lia)]
  congr 1
  lia
 unfold atI
 rw[e]
 show (xs++[v])[xs.length]?=some v
 simp
def qP (b:Expr):Prop:=∀ o i,subscripted b false o i=operate [o,i] (qe0 o i)
def IxR (X:Cx) (r:R2):Prop:=
 ∀ (value slice:Expr) (pins:List (Addr×Obj)) (s:qak) (σ:St) (H:Hp) (x y:V) (v u:Value) (Q:VK),Inv X pins σ H s->bo x v->bo y u->r x y H Q->
  subscripted slice false v u=operate [v,u] (qe0 v u)->wpAny (model X.prog X.w) X.A (subscriptTail value slice v u) (EP X pins σ Q) X.xe s
def MtR (X:Cx) (id:String) (r:V->List V->Hp->VK->Prop):Prop:=
 ∀ (pins:List (Addr×Obj)) (s:qak) (σ:St) (H:Hp) (x:V) (xs:List V) (v:Value) (us:List Value) (Q:VK),Inv X pins σ H s->bo x v->aJ xs us->r x xs H Q->
  wpAny (model X.prog X.w) X.A (call (.builtin id) (v::us)) (EP X pins σ Q) X.xe s
section
variable {X:Cx}{a b:Expr}{ta tb:TE}{pos:Pos}
theorem IxR.or {r r':R2} (h:IxR X r) (h':IxR X r'):IxR X (λx y H Q=>r x y H Q\/r' x y H Q):=by
 intro value slice pins s σ H x y v u Q I rx ry q hs
 rcases q with q|q
 ·exact h value slice pins s σ H x y v u Q I rx ry q hs
 ·exact h' value slice pins s σ H x y v u Q I rx ry q hs
theorem ww {r:R2} (hr:IxR X r) (ha:PE X a ta) (hb:PE X b tb) (hs:qP b):PE X (.Subscript a b pos) (tOp r ta tb):=by
 intro pins s σ H Q I h
 exact Subscript_ (xG ha hb I h λv u s2 x y H2 I2 rx ry q=>hr a b pins s2 σ H2 x y v u Q I2 rx ry q (hs _ _))
def yE (K:qac):R2:=λx y H Q=>∃ p xs i v,x=.ref p/\y=.int i/\SqL K H p xs/\atI xs i=some v/\Q v H
def y3 (K:qac):R2:=λx y H Q=>∃ p xs i v,x=.ref p/\y=.int i/\SqT K H p xs/\atI xs i=some v/\Q v H
def zm:R2:=λx y H Q=>∃ z i c,x=.str z/\y=.int i/\z.length<=qaM/\atI z.cps.toList i=some c/\Q (.str ⟨#[c]⟩) H
theorem vD:IxR X (yE X.K):=by
 intro value slice pins s σ H x y v u Q I rx ry h hs
 obtain⟨p,xs,i,z,rfl,rfl,hq,he,q⟩:=h
 cases rx
 obtain⟨t,rfl⟩:=ry
 obtain⟨its,r,pl,hz⟩:=I.list hq
 obtain⟨j,h1,h2,h3,h4,h5⟩:=nD he
 obtain⟨w,ew,rw'⟩:=r.get h2
 have hl:=r.length
 have hn:=iQ
 have fin:EP X pins σ Q w s:=⟨z,H,I,rw',q⟩
 by_cases h0:0<=i
 ·have hj:i.toNat=j:=by
   rw[qge h0 h5]at h1
   exact qaS h1
  exact item_listR pl.isList h0 (by lia) (by rw[hj];simpa using ew) fin hs
 ·have hj:(i+(its.toArray.size:Int)).toNat=j:=by
   rw[qfO (by lia) h4]at h1
   rw[qat,<-hl]
   exact qaS h1
  exact qfF (x:=w) pl.isList.typeIs qgD.lookup
   (wpAny_getItem_list_neg (Q:=λr s'=>r=w/\EP X pins σ Q r s') pl.isList (by lia) (by rw[qat]<;>lia) (by lia) (by rw[hj];simpa using ew) ⟨rfl,fin⟩) hs
theorem yh:IxR X (y3 X.K):=by
 intro value slice pins s σ H x y v u Q I rx ry h hs
 obtain⟨p,xs,i,z,rfl,rfl,hq,he,q⟩:=h
 cases rx
 obtain⟨t,rfl⟩:=ry
 obtain⟨its,r,pl,hz⟩:=I.tuple hq
 obtain⟨j,h1,h2,h3,h4,h5⟩:=nD he
 obtain⟨w,ew,rw'⟩:=r.get h2
 have hl:=r.length
 have hn:=iQ
 have fin:EP X pins σ Q w s:=⟨z,H,I,rw',q⟩
 exact qfF (x:=w) pl.typeIs slot_tuple_getitem.lookup
  (getItem_tuple (j:=j) (Q:=λr s'=>r=w/\EP X pins σ Q r s') pl (by lia) (by lia) (by rw[qat,<-hl];exact h1) (by simpa using ew) ⟨rfl,fin⟩) hs
theorem wQ:IxR X zm:=by
 intro value slice pins s σ H x y v u Q I rx ry h hs
 obtain⟨z,i,c,rfl,rfl,hz,he,q⟩:=h
 obtain⟨t,rfl⟩:=rx
 obtain⟨t',rfl⟩:=ry
 obtain⟨j,h1,h2,h3,h4,h5⟩:=nD he
 have hl:z.cps.toList.length=z.length:=by simp[Str.length]
 rw[hl]at h1 h4 h5
 have hn:=iQ
 exact tail_any (typeIs_str s z t) slot_str_getitem.lookup (getItem_str (c:=c) (by
  have e1:decide (i < -(2^63:Int))=false:=decide_eq_false (by lia)
  have e2:decide (i>=2^63)=false:=decide_eq_false (by lia)
  rw[e1,e2,Bool.or_false]) (by rw[h1];simpa using h2) ⟨.str ⟨#[c]⟩,H,I.tok _,⟨_,rfl⟩,q⟩) hs
def rIx (K:qac):R2:=λx y H Q=>yE K x y H Q\/y3 K x y H Q\/zm x y H Q
theorem pG:IxR X (rIx X.K):=vD.or (yh.or wQ)
theorem pk (its:List Value) (n j:Nat) (u:Value):qcK (·.setIfInBounds j u) { cls:=.type "list",data:=.seq its.toArray n }={ cls:=.type "list",data:=.seq (its.set j u).toArray n }:=by
 simp[qcK]
theorem Inv.lst {pins:List (Addr×Obj)}{σ:St}{H:Hp}{s:qak}{p:Addr}{xs:List V} (I:Inv X pins σ H s) (h:H p=some (.lst xs)) :
  ∃ (its:List Value) (n:Nat),aJ xs its/\s.heap.get? p=some { cls:=.type "list",data:=.seq its.toArray n }/\xs.length<=qaM:=by
 obtain⟨z,its,n,r,e⟩:=I.hok p _ h
 exact⟨its,n,r,e,z⟩
theorem Inv.lstUpd {pins:List (Addr×Obj)}{σ:St}{H:Hp}{s:qak}{p:Addr}{xs ys:List V}{its its':List Value}{n n':Nat}{f:Obj->Obj} (I:Inv X pins σ H s) (h:H p=some (.lst xs))
  (ho:s.heap.get? p=some { cls:=.type "list",data:=.seq its.toArray n }) (hf:f { cls:=.type "list",data:=.seq its.toArray n }={ cls:=.type "list",data:=.seq its'.toArray n' }) (r:aJ ys its') (hz:ys.length<=qaM) (t:Nat) :
  Inv X pins σ (upd H p (.lst ys)) { s with heap:=s.heap.update p f,toks:=t }:=by
 have e:(s.heap.update p f).get? p=some { cls:=.type "list",data:=.seq its'.toArray n' }:=by
  rw[qe9 f ho (by rw[hf]<;>rfl),hf]
 refine I.write (x:=p) (e:=p) (by rw[h];trivial) (.inl rfl) (λb u hb q=>(qcH _ _ (qbo hb)).trans q) ⟨_,e⟩ ?_
 exact⟨hz,its',n',r,e⟩
def zb:V->V->V->Hp->(Hp->Prop)->Prop:=λo i v H Q=>∃ p xs k j,o=.ref p/\i=.int k/\H p=some (.lst xs)/\ixN xs.length k=some j/\Q (upd H p (.lst (xs.set j v)))
theorem lG:ym X zb:=by
 intro pins s σ H o i v ov iv u Q I ro ri rv h
 obtain⟨p,xs,k,j,rfl,rfl,hp,hj,q⟩:=h
 cases ro
 obtain⟨t,rfl⟩:=ri
 obtain⟨its,n,r,ho,hz⟩:=I.lst hp
 obtain⟨h1,h2,h3,h4⟩:=mK hj
 have hl:=r.length
 have hn:=iQ
 have I':Inv X pins σ (upd H p (.lst (xs.set j v))) { s with heap:=s.heap.update p (qcK (·.setIfInBounds j u)) }:=
  I.lstUpd hp ho (pk its n j u) (r.set rv j) (by rw[qbv];exact hz) s.toks
 by_cases h0:0<=k
 ·have hk:k.toNat=j:=by
   rw[qge h0 h4]at h1
   exact qaS h1
  exact PySem.W.ki_setAt ho h0 (by lia) (by rw[qat,<-hl];exact h4) (by rw[hk];exact⟨_,I',q⟩)
 ·have hk:(k+(its.toArray.size:Int)).toNat=j:=by
   rw[qfO (by lia) h3]at h1
   rw[qat,<-hl]
   exact qaS h1
  exact PySem.W.ki_setBack ho (by lia) (by rw[qat,<-hl];exact h3) (by lia) (by rw[hk];exact⟨_,I',q⟩)
theorem nv (lo hi:Option Int) (n:Nat):(qda lo hi none n).1=((HT.sIx n 0 lo:Nat):Int)/\(qda lo hi none n).2.1=((HT.sIx n n hi:Nat):Int)/\(qda lo hi none n).2.2=1:=by
 refine⟨?_,?_,rfl⟩
 ·cases lo with
  |none=>simp[qda,HT.sIx]
  |some i=>
   simp only[qda,HT.sIx,qfu,show (1:Int) > 0 by decide,if_true]
   by_cases h:i<0
   ·simp only[h,if_true]<;>lia
   ·simp only[h,if_false]<;>lia
 ·cases hi with
  |none=>simp[qda,HT.sIx]
  |some i=>
   simp only[qda,HT.sIx,qfu,show (1:Int) > 0 by decide,if_true]
   by_cases h:i<0
   ·simp only[h,if_true]<;>lia
   ·simp only[h,if_false]<;>lia
theorem lX (its:List Value) (lo hi:Option Int):slicePick its.toArray lo hi none=((its.drop (HT.sIx its.length 0 lo)).take (HT.sIx its.length its.length hi - HT.sIx its.length 0 lo)).toArray:=by
 obtain⟨h1,h2,h3⟩:=nv lo hi its.toArray.size
 unfold slicePick
 rw[h1,h2,h3]
 simp only[sliceRange_one,pick_run,qat]<;>rfl
def zT (K:qac):V->Option Int->Option Int->Hp->VK->Prop:=λx lo hi H Q=>∃ a xs,x=.ref a/\SqL K H a xs/\∀ p,H p=none->Q (.ref p) (upd H p (.lst (nr xs lo hi)))
theorem u6:SlR X (zT X.K):=by
 intro pins s σ H x v vl vu lo hi sl Q I rx hs pl pu h
 obtain⟨a,xs,rfl,hx,q⟩:=h
 cases rx
 obtain⟨its,r,ht,hz⟩:=I.list hx
 have hlen:=r.length
 refine⟨"list",_,qgD.lookup,ht.isList.typeIs,?_⟩
 refine wpAny_getItem_list_slice ht.isList hs pl pu .none (by simp) ?_ (by rw[qat]<;>lia)
 rw[lX,<-hlen]
 refine⟨.ref s.heap.objs.size,_,I.laid (t':=s.toks) (o:=.lst (nr xs lo hi)) (λb ob q=>qai _ q) (qal _) ?_,rfl,q _ (I.hok.fresh (qal _))⟩
 exact⟨qa3 (jN xs lo hi) hz,_,0,(r.drop (HT.sIx xs.length 0 lo)).take (HT.sIx xs.length xs.length hi - HT.sIx xs.length 0 lo),qaA _ rfl⟩
def fL:V->Bool
 |.non=>true
 |.bl _=>true
 |.int _=>true
 |.str _=>true
 |_=>false
def eqV:V->V->Bool
 |.non,.non=>true
 |.bl a,.bl b=>a==b
 |.bl a,.int b=>(if a then 1 else 0)==b
 |.int a,.bl b=>a==(if b then 1 else 0)
 |.int a,.int b=>a==b
 |.str a,.str b=>a==b
 |_,_=>false
theorem tQ {A:qbb}{s:qak}{y x:V}{u v:Value} (ry:bo y u) (rx:bo x v) (fy:fL y=true) (fx:fL x=true):qdb A s u v (eqV y x):=by
 cases y with
 |non=>
  cases ry
  cases x with
  |non=>cases rx;exact qd1 _
  |bl b=>cases rx;exact qiB b
  |int b=>obtain⟨t,rfl⟩:=rx;exact qiA b t
  |str b=>obtain⟨t,rfl⟩:=rx;exact qiy b t
  |_=>exact absurd (show false=true from fx) qaF
 |bl a=>
  cases ry
  cases x with
  |non=>cases rx;exact qiO a
  |bl b=>cases rx;exact qiR a b
  |int b=>obtain⟨t,rfl⟩:=rx;exact qiQ a b t
  |str b=>obtain⟨t,rfl⟩:=rx;exact qiN a b t
  |_=>exact absurd (show false=true from fx) qaF
 |int a=>
  obtain⟨t',rfl⟩:=ry
  cases x with
  |non=>cases rx;exact qiI a t'
  |bl b=>cases rx;exact qiL a t' b
  |int b=>obtain⟨t,rfl⟩:=rx;exact qiK a t' b t
  |str b=>obtain⟨t,rfl⟩:=rx;exact qeR a t' b t
  |_=>exact absurd (show false=true from fx) qaF
 |str a=>
  obtain⟨t',rfl⟩:=ry
  cases x with
  |non=>cases rx;exact qiu a t'
  |bl b=>cases rx;exact qiw a t' b
  |int b=>obtain⟨t,rfl⟩:=rx;exact qeQ a t' b t
  |str b=>obtain⟨t,rfl⟩:=rx;exact qit a t' b t
  |_=>exact absurd (show false=true from fx) qaF
 |_=>exact absurd (show false=true from fy) qaF
def eqU (x:V) (u:Value):Bool:=match u with
 |.none=>eqV .non x
 |.bool b=>eqV (.bl b) x
 |.int i _=>eqV (.int i) x
 |.str z _=>eqV (.str z) x
 |_=>false
theorem sM {x y:V}{u:Value} (r:bo y u) (f:fL y=true):eqU x u=eqV y x:=by
 cases y with
 |non=>cases r;rfl
 |bl b=>cases r;rfl
 |int i=>obtain⟨t,rfl⟩:=r;rfl
 |str z=>obtain⟨t,rfl⟩:=r;rfl
 |_=>exact absurd (show false=true from f) qaF
theorem mJ {x:V}:∀ {xs:List V}{us:List Value},aJ xs us->xs.all fL=true->us.any (eqU x)=xs.any λy=>eqV y x
 |_,_,.nil,_=>rfl
 |y::xs,u::us,.cons r t,f=>by
  rw[qbx,qaV]at f
  rw[qcU,qcU,sM r f.1,mJ t f.2]
theorem lA {A:qbb}{s:qak}{x:V}{v:Value} (rx:bo x v) (fx:fL x=true):∀ {xs:List V}{us:List Value},aJ xs us->xs.all fL=true->∀ u∈us,qdb A s u v (eqU x u)
 |_,_,.nil,_=>λu hu=>by cases hu
 |y::xs,u::us,.cons r t,f=>λu' hu=>by
  rw[qbx,qaV]at f
  rcases qaH.mp hu with rfl|hu
  ·rw[sM r f.1];exact tQ r rx f.1 fx
  ·exact lA rx fx t f.2 u' hu
def inV (x:V) (xs:List V):Bool:=xs.any λy=>eqV y x
def rIn (K:qac) (neg:Bool):R2:=λx y H Q=>∃ p xs,y=.ref p/\(SqL K H p xs\/SqT K H p xs)/\fL x=true/\xs.all fL=true/\Q (.bl (if neg then !inV x xs else inV x xs)) H
theorem rQ:OpR X (qbD .In) (rIn X.K false):=by
 intro pins s σ H x y v u Q I rx ry h
 obtain⟨p,xs,rfl,hq,fx,fs,q⟩:=h
 cases ry
 rcases hq with hq|hq
 ·obtain⟨its,r,pl,hz⟩:=I.list hq
  refine SeqAt.in_listAt (eqU x) pl.isList (λw hw=>lA rx fx r fs w (by simpa using hw)) ⟨.bl _,H,I,rfl,?_⟩
  rw[show its.toArray.any (eqU x)=its.any (eqU x) by simp,mJ r fs]
  exact q
 ·obtain⟨its,r,pl,hz⟩:=I.tuple hq
  refine SeqAt.in_tupleAt (eqU x) pl (λw hw=>lA rx fx r fs w (by simpa using hw)) ⟨.bl _,H,I,rfl,?_⟩
  rw[show its.toArray.any (eqU x)=its.any (eqU x) by simp,mJ r fs]
  exact q
theorem nA:di X (.builtin "len") (λxs H Q=>∃ p ys,xs=[.ref p]/\(SqL X.K H p ys\/SqT X.K H p ys)/\Q (.int ys.length) H):=by
 intro pins s σ H xs us Q I r h
 obtain⟨p,ys,rfl,hq,q⟩:=h
 obtain⟨u,rfl,rx⟩:=kM r
 cases rx
 have hn:=iQ
 rcases hq with hq|hq
 ·obtain⟨its,r',pl,hz⟩:=I.list hq
  have hlen:=r'.length
  exact Calls.call_len_list pl.isList (by simp only[qat]<;>lia) ⟨.int ys.length,H,I.tok _,⟨s.toks+1,by rw[qat,hlen]⟩,q⟩
 ·obtain⟨its,r',pl,hz⟩:=I.tuple hq
  have hlen:=r'.length
  exact len_tuple pl (by simp only[qat]<;>lia) ⟨.int ys.length,H,I.tok _,⟨s.toks+1,by rw[qat,hlen]⟩,q⟩
theorem nO:di X (.builtin "len") (λxs H Q=>∃ z,xs=[.str z]/\z.length<=qaM/\Q (.int z.length) H):=by
 intro pins s σ H xs us Q I r h
 obtain⟨z,rfl,hz,q⟩:=h
 obtain⟨u,rfl,t,rfl⟩:=kM r
 have hn:=iQ
 exact len_str (by lia) ⟨.int z.length,H,I.tok _,⟨_,rfl⟩,q⟩
theorem nL:di X (.type "list") (λxs H Q=>∃ p ys,xs=[.ref p]/\(SqL X.K H p ys\/SqT X.K H p ys)/\∀ l,H l=none->Q (.ref l) (upd H l (.lst ys))):=by
 intro pins s σ H xs us Q I r h
 obtain⟨p,ys,rfl,hq,q⟩:=h
 obtain⟨u,rfl,rx⟩:=kM r
 cases rx
 have fin:∀ (its:List Value),aJ ys its->ys.length<=qaM->∀ (h':Heap) (c':Nat),(∀ b o',s.heap.get? b=some o'->h'.get? b=some o')->
   h'.get? s.heap.objs.size=some { cls:=.type "list",dict:=none,data:=.seq its.toArray c',slots:=#[] }->EP X pins σ Q (.ref s.heap.objs.size) { s with heap:=h' }:=λits r' hz h' c' kp e=>
  ⟨.ref s.heap.objs.size,_,I.laid (t':=s.toks) kp (qal _) (show dN X.prog X.w _ h' _ (.lst ys) from ⟨hz,its,c',r',e⟩),rfl,q _ (I.hok.fresh (qal _))⟩
 rcases hq with hq|hq
 ·obtain⟨its,r',pl,hz⟩:=I.list hq
  have hlen:=r'.length
  obtain⟨o,ho,hc,n,hd⟩:=pl.isList
  exact call_list_seq p (.inl rfl) ho hc hd (λh' c' kp e=>fin its r' hz h' c' kp e) (by simp only[qat]<;>lia)
 ·obtain⟨its,r',pl,hz⟩:=I.tuple hq
  have hlen:=r'.length
  obtain⟨o,ho,hc,n,hd⟩:=pl
  exact call_list_seq p (.inr rfl) ho hc hd (λh' c' kp e=>fin its r' hz h' c' kp e) (by simp only[qat]<;>lia)
theorem lL:di X (.type "tuple") (λxs H Q=>∃ p ys,xs=[.ref p]/\((SqL X.K H p ys/\∀ l,H l=none->Q (.ref l) (upd H l (.tup ys)))\/(SqT X.K H p ys/\Q (.ref p) H))):=by
 intro pins s σ H xs us Q I r h
 obtain⟨p,ys,rfl,h⟩:=h
 obtain⟨u,rfl,rx⟩:=kM r
 cases rx
 rcases h with⟨hq,q⟩|⟨hq,q⟩
 ·obtain⟨its,r',pl,hz⟩:=I.list hq
  have hlen:=r'.length
  refine call_tuple_list pl.isList (λh' kp=>?_) (by simp only[qat]<;>lia)
  have I1:Inv X pins σ H { s with heap:=h' }:=I.kept (t':=s.toks) kp
  have I2:Inv X pins σ (upd H h'.objs.size (.tup ys)) { s with heap:=h'.push { cls:=.type "tuple",data:=.seq its.toArray } }:=
   I1.laid (t':=s.toks) (λb o e=>qai _ e) (qal _) (show dN X.prog X.w _ _ _ (.tup ys) from ⟨hz,its,r',dC.new _ _⟩)
  exact⟨.ref h'.objs.size,_,I2,rfl,q _ (I1.hok.fresh (qal _))⟩
 ·obtain⟨its,r',pl,hz⟩:=I.tuple hq
  exact call_tuple_same pl ⟨.ref p,H,I,rfl,q⟩
def tyV (K:qac) (T:String) (x:V) (H:Hp):Prop:=match x with
 |.str _=>T = "str"
 |.int _=>T = "int"
 |.ref p=>(T = "list"/\∃ xs,SqL K H p xs)\/(T = "tuple"/\((∃ o,K.lookup p=some o/\o.cls=.type "tuple"/\o.dict=none)\/∃ xs,SqT K H p xs))\/
   (T = "dict"/\((∃ kvs,H p=some (.dK kvs))\/∃ kvs,H p=some (.dT kvs)))\/(T = "set"/\∃ S n,H p=some (.set S n))
 |_=>False
theorem wJ {pins:List (Addr×Obj)}{σ:St}{H:Hp}{s:qak}{T:String}{x:V}{v:Value} (I:Inv X pins σ H s) (r:bo x v) (ty:tyV X.K T x H) :
  s.TypeIs v T/\∀ a,v=.ref a->∃ ob,s.heap.get? a=some ob/\ob.dict=none:=by
 cases x with
 |str z=>
  obtain⟨t,rfl⟩:=r
  cases (show T = "str" from ty)
  exact⟨typeIs_str s z t,λ_ e=>nomatch e⟩
 |int i=>
  obtain⟨t,rfl⟩:=r
  cases (show T = "int" from ty)
  exact⟨qeD s i t,λ_ e=>nomatch e⟩
 |ref p=>
  cases r
  rcases ty with⟨rfl,xs,hq⟩|⟨rfl,ht⟩|⟨rfl,hk⟩|⟨rfl,S,n,hk⟩
  ·obtain⟨its,_,pl,_⟩:=I.list hq
   refine⟨pl.isList.typeIs,λa e=>?_⟩
   cases e
   obtain⟨o,n,e,c,hd,_⟩:=pl
   exact⟨o,e,hd⟩
  ·have z:∃ o:Obj,s.heap.get? p=some o/\o.cls=.type "tuple"/\o.dict=none:=by
    rcases ht with⟨o,hk,hc,hd⟩|⟨xs,hq⟩
    ·exact⟨o,I.kIn p o hk,hc,hd⟩
    ·exact I.tuple1 hq
   obtain⟨o,e1,hc,hd⟩:=z
   refine⟨⟨o,e1,hc⟩,λa e=>?_⟩
   cases e
   exact⟨o,e1,hd⟩
  ·have z:∃ o,s.heap.get? p=some o/\o.ExactDict:=by
    rcases hk with⟨kvs,hk⟩|⟨kvs,hk⟩
    ·obtain⟨_,_,_,_,o,_,_,e,ex,_⟩:=I.hok p _ hk
     exact⟨o,e,ex⟩
    ·obtain⟨_,_,_,_,o,_,_,e,ex,_⟩:=I.hok p _ hk
     exact⟨o,e,ex⟩
   obtain⟨o,e,ex⟩:=z
   refine⟨⟨o,e,ex.1⟩,λa e2=>?_⟩
   cases e2
   exact⟨o,e,ex.2.1⟩
  ·obtain⟨o,_,_,_,e,ex,_⟩:=I.hok p _ hk
   refine⟨⟨o,e,ex.1⟩,λa e2=>?_⟩
   cases e2
   exact⟨o,e,ex.2.1⟩
 |_=>exact qbW ty
def tBM (K:qac) (T:String) (r:V->List V->Hp->VK->Prop) (to:TE) (t:TA):TE:=λσ H Q=>to σ H λx H1=>tyV K T x H1/\t σ H1 λxs H2=>r x xs H2 Q
variable {o e:Expr}{es:List Expr}{to:TE}{t:TA}{name:Str}{apos cpos:Pos}{T id:String}{r:V->List V->Hp->VK->Prop}
theorem wy (pa:PlainAttrs T) (slot:Slot T name id) (hty:typeOf (.builtin id)=pure (.type "method_descriptor")) (hm:MtR X id r) (ho:PE X o to) (ha:PA X (e::es) t)
  (hbase:qcJ o name X.env (eval o X.env)=eval o X.env:=by rfl)
  (hfew:((qdA cpos (qbg (e::es) X.env)).all (λx=>!x.1) && (qgp cpos (qeZ [] X.env)).all (λx=>x.1.isSome)
    && decide ((e::es).length+([]:List qgj).length+(if ([]:List qgj).isEmpty then 0 else 1)<30))=true:=by rfl)
  (hline:(apos.endLine==cpos.line)=true:=by rfl) (hs:qbg (e::es) X.env=(false,eval e X.env)::qbg es X.env:=by rfl) (hplain:(qdA cpos (qbg es X.env)).any (·.1)=false:=by rfl) :
  PE X (.Call (.Attribute o name apos) (e::es) [] cpos) (tBM X.K T r to t):=by
 intro pins s σ H Q I h
 refine wpAny_Call_method_late hbase hfew hline rfl (thn (ho pins s σ H _ I h) λv s1 ⟨x,H1,I1,r1,ty,q1⟩=>?_)
 obtain⟨h1,h2⟩:=wJ I1 r1 ty
 refine⟨T,id,pa,slot,hty,h1,h2,?_⟩
 have hA:=ha cpos pins s1 σ H1 _ I1 q1
 rw[hs]at hA ⊢
 refine Calls.callWith_builtin (by show (false||(qdA cpos (qbg es X.env)).any (·.1))=false;rw[hplain]<;>rfl) (Calls.evalArgs_plain ?_)
 exact thn hA λus s2 ⟨vs,H2,I2,r2,q2⟩=>hm pins s2 σ H2 x vs v us Q I2 r1 r2 q2
end
def MtM (X:Cx) (id:String) (r:V->List V->Hp->VK->Prop):Prop:=
 ∀ (pins:List (Addr×Obj)) (s:qak) (σ:St) (H:Hp) (x:V) (xs:List V) (v:Value) (us:List Value) (Q:VK),Inv X pins σ H s->bo x v->aJ xs us->r x xs H Q->
  wpAny (model X.prog X.w) X.A (call (.builtin id) (v::us)) (EP X pins σ Q) X.xe s
theorem aJ.one:∀ {x:V}{us:List Value},aJ [x] us->∃ u,us=[u]/\bo x u
 |_,_,.cons r .nil=>⟨_,rfl,r⟩
theorem aJ.rep {xs:List V}{us:List Value} (h:aJ xs us):∀ k:Nat,aJ (qav k xs).flatten (qav k us).flatten
 |0=>.nil
 |k+1=>by
  rw[qa8,qa8,qcg,qcg]
  exact aJ.append h (aJ.rep h k)
theorem jE (its:List Value):∀ (k:Nat) (acc:List Value),
  qeT (λx1 x2=>x1++x2) acc.toArray (qav k its.toArray)=(acc++(qav k its).flatten).toArray
 |0,acc=>by simp
 |k+1,acc=>by
  have e:acc.toArray++its.toArray=(acc++its).toArray:=by simp
  have e2:(acc++its)++(qav k its).flatten=acc++(qav (k+1) its).flatten:=by
   rw[qa8,qcg,qbA]
  rw[<-e2,<-jE its k (acc++its),<-e,qa8,List.foldl_cons]
section
variable {X:Cx}{pins:List (Addr×Obj)}{σ:St}{H:Hp}{s:qak}{l b:Addr}{xs ys zs:List V}
theorem Inv.lset {its its':List Value}{n:Nat}{f:Array Value->Array Value}{t':Nat} (I:Inv X pins σ H s) (hH:H l=some (.lst xs))
  (e:s.heap.get? l=some { cls:=.type "list",data:=.seq its.toArray n }) (hf:f its.toArray=its'.toArray) (hv:aJ ys its') (hz:ys.length<=qaM) :
  Inv X pins σ (upd H l (.lst ys)) { s with heap:=s.heap.update l (qcK f),toks:=t' }:=by
 have q:=qdV e f
 rw[hf]at q
 refine I.write (x:=l) (e:=l) (by rw[hH];exact trivial) (.inl rfl) (λb' u hb hu=>(qcH s.heap (qcK f) (qbo hb)).trans hu) ⟨_,q⟩ ?_
 exact⟨hz,its',_,hv,q⟩
theorem Inv.lnew {its:List Value}{t':Nat} (I:Inv X pins σ H s) (hv:aJ ys its) (hz:ys.length<=qaM) :
  Inv X pins σ (upd H s.heap.objs.size (.lst ys)) { s with heap:=s.heap.push { cls:=.type "list",data:=.seq its.toArray },toks:=t' }:=
 I.laid (λ_ _ q=>qai _ q) (qal _) ⟨hz,its,0,hv,qaA _ rfl⟩
theorem Inv.fresh (I:Inv X pins σ H s):H s.heap.objs.size=none:=I.hok.fresh (qal _)
theorem Inv.lstM (I:Inv X pins σ H s) (hH:H l=some (.lst xs)):xs.length<=qaM/\∃ (its:List Value) (n:Nat),aJ xs its/\xs.length=its.length/\s.heap.get? l=some { cls:=.type "list",data:=.seq its.toArray n }:=by
 obtain⟨z,its,n,r,e⟩:=I.hok l _ hH
 exact⟨z,its,n,r,r.length,e⟩
theorem tH {n:Nat} (h:n<=qaM):qcV n=false:=by
 unfold qcV
 exact decide_eq_false (by lia)
end
section
variable {X:Cx}
def wf:V->List V->Hp->VK->Prop:=λx vs H Q=>∃ l xs y,x=.ref l/\vs=[y]/\H l=some (.lst xs)/\xs.length<qaM/\Q .non (upd H l (.lst (xs++[y])))
theorem sH:MtM X "list.append" wf:=by
 intro pins s σ H x vs v us Q I rx rv h
 obtain⟨l,xs,y,rfl,rfl,hH,hz,q⟩:=h
 cases rx
 obtain⟨u,rfl,ru⟩:=rv.one
 obtain⟨z,its,n,r,hl,e⟩:=I.lstM hH
 refine qcT qei ⟨_,e,rfl⟩ qd5 (qdZ _ _) (qd3 l its.toArray n u (by rw[qat];lia)) ⟨e,?_⟩
 refine⟨.non,_,I.lset (its':=its++[u]) hH e (by simp) (r.append (.cons ru .nil)) ?_,rfl,q⟩
 rw[qau,qbT]
 lia
theorem mG {α:Type} (xs:List α) (k:Nat):(qav k xs).flatten.length=k*xs.length:=by
 induction k with
 |zero=>simp
 |succ k ih=>rw[qa8,qcg,qau,ih,Nat.succ_mul,Nat.add_comm]
end
section
variable {prog:qa0}{w:World}{A:qbb}{E:Value->qak->Prop}{s:qak}
end
section
variable {X:Cx}
end
end L2
namespace Att
open PySem PySem.W PySem.Calls PyProof.Rows
theorem kh {P:Params}{h:Heap}:∀ (ns:List Int) (vs:List Value),WellAll P h vs (ns.map WData.int)->qfB vs ns:=by
 intro ns
 induction ns with
 |nil=>
  intro vs w
  rw[qcu]at w
  cases w
  exact .nil
 |cons n ns ih=>
  intro vs w
  rw[qay]at w
  cases w with
  |cons a b=>
   cases a
   exact .cons _ _ (ih _ b)
theorem rY {l:OpenLaw}{n:Nat} (hn:l.most=some n) {P:Params}{h:Heap}{args:List WData}{vals:List Value}
  (hpre:l.row.toRowW.claim.pre args=true) (hwl:WellAll P h vals args) :
  ∃ a vs ns,vals=[Value.ref a]/\args=[WData.list (ns.map WData.int)]/\h.get? a=some { cls:=.type "list",data:=.seq vs.toArray }/\qfB vs ns/\ns.length<=n:=by
 have hsh:WShape.hasAll [] args [.list .int]=true:=(pre_splitW hpre).1
 have hc:l.pre.holds [] { args:=args }=true:=(pre_splitW hpre).2
 obtain⟨d,r,rfl,h1,h2⟩:=hasAllW_cons hsh
 obtain rfl:=hasAllW_nil h2
 obtain⟨xs,rfl,h3⟩:=hasW_list h1
 obtain⟨ns,rfl⟩:=items_int h3
 have hlen:ns.length<=n:=by
  unfold OpenLaw.pre at hc
  have h4:(WTm.not (.lt (.lit (.int (n:Int))) (.len (.arg 0)))).holds [] { args:=[.list (ns.map .int)] }=true:=by
   have h4:=(holds_andW hc).1
   rw[hn]at h4
   exact h4
  have h5:=condW_of h4 (w_not (w_lt w_lit (w_len_list (w_arg rfl))))
  rw[qam]at h5
  refine Nat.le_of_not_lt λq=>?_
  have q':(n:Int)<((ns.length:Nat):Int):=by lia
  first
   |(rw[decide_eq_true q']at h5;exact absurd h5 (by decide))
   |(simp at h5;lia)
 cases hwl with
 |cons w1 w2=>
  cases w2
  cases w1 with
  |list ho hall=>exact⟨_,_,ns,rfl,rfl,ho,kh ns _ hall,hlen⟩
theorem rM (l:OpenLaw) (args:List WData):l.row.toRowW.claim.post args (.bool true) args=true:=
 postW_of (r:=l.row.toRowW) (X:=(true==true))
  (show qgE [] (.bool true) .bool=true by first|rfl|decide|simp[qgE,WShape.arms,WShape.armsAll])
  (show (WTm.eq .res (.lit (.bool true))).value [] { args:=args,res:=some (.bool true),after:=args }=some (.bool (true==true)) from w_eq_bool (w_res rfl) w_lit) rfl
theorem attach_call {l:OpenLaw}{n:Nat}{q:qa0}{loose:List Str}{XP:(Str->Option Value)->Heap->Prop}{YP:World->Heap->Prop}{d:DefRec}
  (hn:l.most=some n) (hdf:d.params.defaults=[])
  (call:∀ (w:World) (s₀ s₁:qak) (mg mb:Str->Option Value) (fa:Addr) (o:Obj) (pm cd doc:Value) (a:Addr) (vs:List Value) (ns:List Int),
    Ground q loose [] XP w s₀ mg mb s₁.heap->YP w s₁.heap->
    s₁.heap.get? fa=some o->o.data=.func (docDef d.name d.params d.body d.scope pm cd doc)->s₁.heap.CodeRec cd d.name->mg d.name=some (.ref fa)->
    s₁.heap.get? a=some { cls:=.type "list",data:=.seq vs.toArray }->qfB vs ns->ns.length<=n->s₁.gens=#[]->
    qec (model l.prog w) qe1 (.call (.ref fa) ⟨[.ref a],[]⟩) (λr s'=>r=.ok (.ret (.bool true))/\OldK s₁.heap s'.heap/\s'.os=s₁.os/\qej s'.gens) s₁) :
  WalkO q loose XP YP l.row.toRowW d [] (λf vs=>qft f vs):=by
 intro w s₀ s₁ mg mb G Y fa o pm cd doc dV kV ho hd hcd hD hmg hg args vals as hpre hlay hrd hwl hlo
 obtain rfl:dV=.none:=Dflts.none hD hdf
 obtain rfl:kV=.none:=Dflts.noKw hD
 obtain⟨a,vs,ns,rfl,rfl,hobj,hints,hlen⟩:=rY hn hpre hwl
 refine enter_call (qeJ (call w s₀ s₁ mg mb fa o pm cd doc a vs ns G Y ho (fd_plain hd) hcd hmg hobj hints hlen hg) λr s' hq=>?_)
 obtain⟨rfl,h2,h3,h4⟩:=hq
 exact⟨.inl ⟨.bool true,.bool true,[],rfl,λ_=>rfl,.bool true,rM l _,λ_=>⟨List.Pairwise.nil,λ_ hm=>(nomatch hm)⟩⟩,h2,h3,h4⟩
section
variable {prog:qa0}{w:World}{A:qbb}{E:Value->qak->Prop}{s:qak}{K:Frag}
end
end Att
namespace L2
open PySem PySem.Spec PyProof.Rows
theorem mk:∀ {vs:List Value}{ns:List Int},qfB vs ns->aJ (ns.map V.int) vs
 |_,_,.nil=>.nil
 |_,_,.cons n t h=>.cons ⟨t,rfl⟩ (mk h)
def vH (H:Hp):Prop:=∀ b,H b=none\/∃ o xs,H b=some (.frz o (.lst xs))
theorem uP {P:qa0}{w:World}{K:qac}{mg mb:Str->Option Value}{CX:CXT}{k:Nat}{fa a:Addr}{fd:qa2}{x:Str}{sp:Sp}{s₁:qak}{vs:List Value}{ns:List Int}
  (KX:K.In s₁.heap) (hns:s₁.heap.Ns qaE mg) (hb:s₁.heap.Ns qfj mb) (hbb:∀ x:Str,x≠"__name__"->mb x=qcG x) (hlim:s₁.heap.NoLimit) (hg:s₁.gens=#[])
  (ha:s₁.heap.get? a=some { cls:=.type "list",data:=.seq vs.toArray }) (hi:qfB vs ns) (hl:ns.length<=qaM) (hr:cN k qe1)
  (F:∀ base:Heap,K.In base->base.Ns qaE mg->bO P w K mg base CX k fa fd [x] sp) (hbind:∀ (s:qak) (u:Value),qfE s fd ⟨[u],[]⟩ [(x,u)])
  (hsp:∀ H:Hp,vH H->SqL K H a (ns.map V.int)->sp [.ref a] H (λv _=>v=.bl true) λ_ _ _=>False)
  (hCX:∀ H e s',CX [] H s₁ (λ_ _ _=>False) e s'->False) :
  qec (model P w) qe1 (.call (.ref fa) ⟨[.ref a],[]⟩) (λr s'=>r=.ok (.ret (.bool true))/\OldK s₁.heap s'.heap/\s'.os=s₁.os/\qej s'.gens) s₁:=by
 have rv:=mk hi
 have lenV:=hi.length
 -- from an abstract heap in which nothing but the script may be tracked
 have core:∀ H:Hp,vH H->SqL K H a (ns.map V.int)->HOk P w H s₁.heap->(∀ b,H b≠none->b=a)->(H a≠none->K.lookup a=none)->
   qec (model P w) qe1 (.call (.ref fa) ⟨[.ref a],[]⟩) (λr s'=>r=.ok (.ret (.bool true))/\OldK s₁.heap s'.heap/\s'.os=s₁.os/\qej s'.gens) s₁:=by
  intro H hO hS hok hA hK
  have base_of:∀ {b:Addr}{o:Obj},s₁.heap.get? b=some o->H b=none->(mL s₁.heap H).get? b=some o:=λe n=>sW e n
  have noA:∀ {b:Addr}{o:Obj}{es:Array DictEntry}{ep:Nat},s₁.heap.get? b=some o->o.data=.dict es ep->H b=none:=λ{b o es ep} e d=>by
   cases q:H b with
   |none=>rfl
   |some u=>
    have e':b=a:=hA b (by rw[q];simp)
    subst e'
    rw[ha]at e;cases e
    have d':Data.seq vs.toArray _=Data.dict es ep:=d
    cases d'
  have nsK:∀ {b:Addr}{m:Str->Option Value},s₁.heap.Ns b m->(mL s₁.heap H).Ns b m:=λ{b m} ⟨o,es,ep,e,d,r⟩=>⟨o,es,ep,base_of e (noA e d),d,r⟩
  have hKb:K.In (mL s₁.heap H):=λb o e=>base_of (KX b o e) (by
   cases q:H b with
   |none=>rfl
   |some u=>
    have e':b=a:=hA b (by rw[q];simp)
    subst e'
    rw[hK (by rw[q];simp)]at e;cases e)
  have hM:Mod K mg (mL s₁.heap H):=⟨hKb,nsK hns,⟨mb,nsK hb,hbb⟩,let ⟨mc,h1,h2⟩:=hlim;⟨mc,nsK h1,h2⟩⟩
  have e0:pS P w K mg (mL s₁.heap H) qe1 [] s₁ H:=⟨rfl,hM,λb o e=>vB e,qcP (sA _ _),trivial,λb hb=>absurd (show b∈([]:List Addr) from hb) (by simp),hok,.of_eq hg⟩
  refine qeJ ((F _ hKb (nsK hns)).run qe1 [] s₁ H ⟨[.ref a],[]⟩ [.ref a] [.ref a] _ _ hr e0 (hbind s₁ (.ref a)) (.cons rfl .nil) (hsp H hO hS)) λr s' h=>?_
  cases r with
  |error e=>exact (hCX H e s' h).elim
  |ok fl=>
   cases fl with
   |next=>exact qbW h
   |brk=>exact qbW h
   |cont=>exact qbW h
   |ret u=>
    obtain⟨v,H',os,bare,un,hok',r',q⟩:=h
    have q':v=.bl true:=q
    subst q'
    obtain rfl:u=Value.bool true:=r'
    refine⟨rfl,OldK.of_keep λb o e=>?_,os,bare⟩
    cases q:H b with
    |none=>exact un.keep b o e q (by intro z;exact absurd (show b∈([]:List Addr) from z) (by simp)) (by simp)
    |some u=>
     rcases hO b with z|⟨ob,xs,z⟩
     ·rw[q]at z;cases z
     ·have z2:=un.frzs b ob _ z
      obtain⟨e1,_⟩:=hok b _ z
      obtain⟨e2,_⟩:=hok' b _ z2
      rw[e]at e1;cases e1
      exact e2
 cases hk:K.lookup a with
 |some o=>
  -- the script is one of the module's own objects
  have e:=KX a o hk
  rw[ha]at e
  cases e
  refine core (λ_=>none) (λ_=>.inl rfl) (.inr ⟨_,vs.toArray,_,hk,rfl,rfl,rfl,by rw[qat,lenV];exact hl,by simpa using rv⟩) (λb u z=>by have z':(none:Option HO)=some u:=z;cases z') (λb z=>absurd rfl z) λz=>absurd rfl z
 |none=>
  refine core (λb=>if b=a then some (.frz { cls:=.type "list",data:=.seq vs.toArray } (.lst (ns.map V.int))) else none) (λb=>?_) (.inl (.inr ⟨{ cls:=.type "list",data:=.seq vs.toArray },if_pos rfl⟩)) (λb u z=>?_) (λb z=>?_) λ_=>hk
  ·by_cases hb:b=a
   ·exact .inr ⟨_,_,if_pos hb⟩
   ·exact .inl (if_neg hb)
  ·by_cases hb:b=a
   ·have z':=(if_pos hb).symm.trans z
    cases z'
    subst hb
    exact⟨ha,by rw[qam];exact hl,vs,_,rv,ha⟩
   ·have z':=(if_neg hb).symm.trans z
    cases z'
  ·by_cases hb:b=a
   ·exact hb
   ·exact absurd (if_neg hb) z
theorem walk_of {l:qeg}{n k:Nat}{q:qa0}{loose:List Str}{XP:(Str->Option Value)->Heap->Prop}{YP:World->Heap->Prop}{d:DefRec}{K:Params->qac}{CX:World->CXT}{sp:World->Sp}{x:Str}
  (hn:l.most=some n) (hn2:n<=qaM) (hdf:d.params.defaults=[]) (hr:cN k qe1)
  (hY:∀ (w:World) (h:Heap),YP w h->(K w.params).In h)
  (F:∀ (w:World) (mg:Str->Option Value) (fa:Addr) (h:Heap),(K w.params).In h->h.Ns qaE mg->mg d.name=some (.ref fa)->
    ∃ fd:qa2,(∀ (s:qak) (u:Value),qfE s fd ⟨[u],[]⟩ [(x,u)])/\
     ∀ base:Heap,(K w.params).In base->base.Ns qaE mg->bO l.prog w (K w.params) mg base (CX w) k fa fd [x] (sp w))
  (hsp:∀ (w:World) (H:Hp) (a:Addr) (ns:List Int),ns.length<=n->vH H->SqL (K w.params) H a (ns.map V.int)->sp w [.ref a] H (λv _=>v=.bl true) λ_ _ _=>False)
  (hCX:∀ (w:World) (H:Hp) (s:qak) (e:Value) (s':qak),CX w [] H s (λ_ _ _=>False) e s'->False) :
  qfS q loose XP YP l.row.toRowW d [] (λf vs=>qft f vs):=by
 refine Att.attach_call hn hdf λw s₀ s₁ mg mb fa o pm cd doc a vs ns G Y ho hd hcd hmg hobj hints hlen hg=>?_
 have KX:=hY w _ Y
 obtain⟨fd,hb,hF⟩:=F w mg fa _ KX G.T.g hmg
 exact uP KX G.T.g G.T.b G.T.builtins G.T.nolimit hg hobj hints (qa3 hlen hn2) hr hF hb (λH hO hS=>hsp w H a ns hlen hO hS) λH e s'=>hCX w H s₁ e s'
def aN (s:Stmt):Arguments:=match s with
 |.FunctionDef _ a _ _ _ _ _ _ _ _=>a
 |_=>{ posonlyargs:=[],args:=[],vararg:=none,kwonlyargs:=[],kw_defaults:=[],kwarg:=none,defaults:=[] }
def aF (s:Stmt):List Stmt:=match s with
 |.FunctionDef _ _ b _ _ _ _ _ _ _=>b
 |_=>[]
def ac (s:Stmt):Scope:=match s with
 |.FunctionDef _ _ _ _ _ _ sc _ _ _=>sc
 |_=>{ kind:=.function,names:=[],isGenerator:=false,isCoroutine:=false }
abbrev CX0:CXT:=λ_ _ _ _ _ _=>False
abbrev E0:XK:=λ_ _ _=>False
theorem uD {X:Cx}:kT CX0 X E0:=λ_ _ _ _ _ _ _ h=>h.elim
structure Fun (K:qac) (x qual:Str) (st:Stmt) (f:Addr) (fd:qa2):Prop where
 ex:∃ (oc:Value) (od:Option Addr) (kV doc pm:Value) (an:Option Addr) (cdv ct:Value) (osl:Array (Option Value)),
  fd=qaO x qual (aN st) (aF st) (ac st) .none kV doc pm an cdv ct/\K.lookup f=some ⟨oc,od,.func fd,osl⟩/\qaL K cdv qual=true
 kp:qaG K (.ref f)=true
section
variable {P:qa0}{w:World}{K:qac}{mg:Str->Option Value}{base:Heap}
theorem Fun.ok {x qual:Str}{st:Stmt}{f:Addr}{fd:qa2}{N ps:List Str}{k:Nat}{sp:Sp} (F:Fun K x qual st f fd) (S:aK N ps (ac st)) (len:∀ vs H Q E,sp vs H Q E->vs.length=ps.length)
  (hbody:∀ (cdv:Value) (A:qbb) (outer:List Env) (s:qak) (H:Hp) (vs:List V) (Q:VK) (E:XK),cN k (A.deeper (qd8 qual (ac st) s.heap.objs.size f cdv))->sp vs H Q E->
    ∃ t,PSs (ma CX0 P w K mg base N qual (ac st) f cdv A outer s H E).nox (aF st) t/\t { nx:=λ_ H'=>Q .non H',rt:=Q } (fP N vs) H):bO P w K mg base CX0 (k+1) f fd ps sp:=by
 obtain⟨oc,od,kV,doc,pm,an,cdv,ct,osl,rfl,lk,hcd⟩:=F.ex
 refine zi lk hcd S len λA outer s H vs Q E hr hsp=>?_
 obtain⟨t,h,q⟩:=hbody cdv A outer s H vs Q E hr hsp
 exact⟨t,h.nox,q⟩
theorem Fun.binds {x qual:Str}{st:Stmt}{f:Addr}{fd:qa2}{ps:List Str} (F:Fun K x qual st f fd)
  (h:∀ (kV doc pm:Value) (an:Option Addr) (cdv ct:Value) (us:List Value),us.length=ps.length->bindArgs (qaO x qual (aN st) (aF st) (ac st) .none kV doc pm an cdv ct) ⟨us,[]⟩=pure (ps.zip us)):bB K fd ps []:=by
 obtain⟨oc,od,kV,doc,pm,an,cdv,ct,osl,rfl,lk,hcd⟩:=F.ex
 exact .all (h kV doc pm an cdv ct)
theorem bD {x qual:Str}{st:Stmt}{f:Addr}{oc:Value}{od an:Option Addr}{osl:Array (Option Value)}{kV doc pm cdv ct:Value} (l:K.lookup f=some ⟨oc,od,.func (qaO x qual (aN st) (aF st) (ac st) .none kV doc pm an cdv ct),osl⟩)
  (c:qaL K cdv qual=true) (k:qaG K (.ref f)=true):Fun K x qual st f (qaO x qual (aN st) (aF st) (ac st) .none kV doc pm an cdv ct):=⟨⟨oc,od,kV,doc,pm,an,cdv,ct,osl,rfl,l,c⟩,k⟩
end
theorem rS {n:Nat} (h:n<=1000):n<qaM:=qbe h (by decide)
section
variable {X:Cx}
end
theorem sE {A B:Prop} (h:B):if false=true then A else B:=by
 rw[if_neg qaF]
 exact h
theorem rW {A B:Prop} (h:A):if true=true then A else B:=by
 rw[if_pos rfl]
 exact h
def aY (H H':Hp):Prop:=∀ b o,H b=some o->H' b=some o
theorem aY.refl (H:Hp):aY H H:=λ_ _ h=>h
theorem aY.trans {H H1 H2:Hp} (a:aY H H1) (b:aY H1 H2):aY H H2:=λc o h=>b c o (a c o h)
def bL (cells:List (Str×Addr)):List (Str×qbP)->List (Str×Addr)->List (Str×Addr)
 |[],acc=>acc
 |(n,k)::r,acc=>if k==.free then bL cells r ((n,(cells.lookup n).getD 0)::acc) else bL cells r acc
theorem iU {env:Env} (f:Str×qbP->List (Str×Addr)->Sem (ForInStep (List (Str×Addr))))
  (hf:∀ n k cs,f (n,k) cs=if k==.free then (do let c <-cellOf env n;pure (.yield ((n,c)::cs))) else pure (.yield cs)) :
  ∀ (names:List (Str×qbP)) (acc:List (Str×Addr)),(∀ x∈names,x.2=.free->∃ c,env.cells.lookup x.1=some c)->
   forIn names acc f=pure (bL env.cells names acc)
 |[],acc,_=>by rw[qdE];rfl
 |(n,k)::r,acc,h=>by
  rw[qey,hf]
  unfold bL
  by_cases hk:(k==.free)=true
  ·obtain⟨c,hc⟩:=h (n,k) qae (beq_iff_eq.mp hk)
   have hc':env.cells.lookup n=some c:=hc
   rw[if_pos hk,if_pos hk]
   have:cellOf env n=pure c:=by unfold cellOf;rw[hc']
   rw[this,hc']
   simp only[pure_bind,Option.getD_some]
   exact iU f hf r _ λx hx=>h x (qah _ hx)
  ·rw[if_neg hk,if_neg hk]
   simp only[pure_bind]
   exact iU f hf r _ λx hx=>h x (qah _ hx)
theorem iE {scope:Scope}{env:Env} (h:∀ x∈scope.names,x.2=.free->∃ c,env.cells.lookup x.1=some c) :
  closureFor scope env=pure (bL env.cells scope.names []):=by
 simp only[closureFor]
 rw[iU (env:=env) _ (λn k cs=>by cases hk:k==NameKind.free<;>simp[hk]) scope.names [] h]
 simp
theorem fT {cells:List (Str×Addr)}:∀ (names:List (Str×qbP)) (acc:List (Str×Addr)) {x:Str}{c:Addr},(bL cells names acc).lookup x=some c->
  acc.lookup x=some c\/((x,NameKind.free)∈names/\c=(cells.lookup x).getD 0)
 |[],_,_,_,h=>.inl h
 |(n,k)::r,acc,x,c,h=>by
  unfold bL at h
  by_cases hk:(k==.free)=true
  ·rw[if_pos hk]at h
   rcases fT r _ h with q|⟨q1,q2⟩
   ·rw[qbi]at q
    cases hx:x==n with
    |true=>
     rw[hx]at q
     have e:=beq_iff_eq.mp hx
     subst e
     exact .inr ⟨by rw[<-beq_iff_eq.mp hk];exact qae,(qaS q).symm⟩
    |false=>rw[hx]at q;exact .inl q
   ·exact .inr ⟨qah _ q1,q2⟩
  ·rw[if_neg hk]at h
   rcases fT r _ h with q|⟨q1,q2⟩
   ·exact .inl q
   ·exact .inr ⟨qah _ q1,q2⟩
theorem fO {cells:List (Str×Addr)}{x:Str}:∀ (names:List (Str×qbP)) (acc:List (Str×Addr)),((x,NameKind.free)∈names\/(acc.lookup x).isSome=true)->((bL cells names acc).lookup x).isSome=true
 |[],_,h=>h.elim (λz=>nomatch z) id
 |(n,k)::r,acc,h=>by
  unfold bL
  by_cases hk:(k==.free)=true
  ·rw[if_pos hk]
   refine fO r _ ?_
   rcases h with h|h
   ·rcases qaH.mp h with e|h
    ·cases e
     exact .inr (by rw[qbi,beq_self_eq_true];rfl)
    ·exact .inl h
   ·refine .inr ?_
    rw[qbi]
    cases x==n
    ·exact h
    ·rfl
  ·rw[if_neg hk]
   refine fO r _ ?_
   rcases h with h|h
   ·rcases qaH.mp h with e|h
    ·cases e;exact absurd rfl hk
    ·exact .inl h
   ·exact .inr h
theorem d6:∀ (names:List (Str×qbP)) (n:Nat) (acc:List (Str×Addr)) {x:Str}{c:Addr},(qbE n names acc).lookup x=some c->acc.lookup x=some c\/((x,NameKind.cell)∈names/\n<=c)
 |[],_,_,_,_,h=>.inl h
 |(m,k)::r,n,acc,x,c,h=>by
  unfold qbE at h
  by_cases hk:(k==.cell)=true
  ·rw[if_pos hk]at h
   rcases d6 r _ _ h with q|⟨q1,q2⟩
   ·rw[qbi]at q
    cases hx:x==m with
    |true=>
     rw[hx]at q
     have e:=beq_iff_eq.mp hx
     subst e
     exact .inr ⟨by rw[<-beq_iff_eq.mp hk];exact qae,by rw[qaS q];exact qal _⟩
    |false=>rw[hx]at q;exact .inl q
   ·exact .inr ⟨qah _ q1,Nat.le_of_succ_le q2⟩
  ·rw[if_neg hk]at h
   rcases d6 r _ _ h with q|⟨q1,q2⟩
   ·exact .inl q
   ·exact .inr ⟨qah _ q1,q2⟩
theorem lY:∀ (names:List (Str×qbP)) (n:Nat) (acc:List (Str×Addr)),(∀ p∈acc,p.2<n)->∀ {x y:Str}{c:Addr},(qbE n names acc).lookup x=some c->(qbE n names acc).lookup y=some c->n<=c->x=y:=by
 have key:∀ (names:List (Str×qbP)) (n:Nat) (acc:List (Str×Addr)) (lo:Nat),lo<=n->(∀ p∈acc,p.2<n)->(∀ p∈acc,∀ q∈acc,lo<=p.2->p.2=q.2->p.1=q.1)->
   ∀ p∈qbE n names acc,∀ q∈qbE n names acc,lo<=p.2->p.2=q.2->p.1=q.1:=by
  intro names
  induction names with
  |nil=>intro n acc lo _ _ h;exact h
  |cons z r ih=>
   intro n acc lo hlo hlt h
   obtain⟨m,k⟩:=z
   unfold qbE
   by_cases hk:(k==.cell)=true
   ·rw[if_pos hk]
    refine ih _ _ lo (Nat.le_succ_of_le hlo) (λp hp=>?_) (λp hp q hq l e=>?_)
    ·rcases qaH.mp hp with e|hp
     ·rw[e];exact qby _
     ·exact qbk (hlt p hp)
    ·rcases qaH.mp hp with e1|hp<;>rcases qaH.mp hq with e2|hq
     ·rw[e1,e2]
     ·rw[e1]at e;exact absurd (hlt q hq) (by rw[<-e];exact qaR _)
     ·rw[e2]at e;exact absurd (hlt p hp) (by rw[e];exact qaR _)
     ·exact h p hp q hq l e
   ·rw[if_neg hk]
    exact ih _ _ lo hlo hlt h
 intro names n acc hlt x y c hx hy hc
 exact key names n acc n (qal _) hlt (λp hp q hq l _=>absurd (hlt p hp) (qfU.mpr l)) _ (qbf hx) _ (qbf hy) hc rfl
theorem eO:∀ (names:List (Str×qbP)) (h:Heap) (acc:List (Str×Addr)),(∀ p∈acc,∃ v,h.IsCell p.2 v)->∀ p∈qbE h.objs.size names acc,∃ v,(qdR h names).IsCell p.2 v
 |[],_,_,h=>h
 |(m,k)::r,h,acc,hc=>by
  unfold qbE qdR
  by_cases hk:(k==.cell)=true
  ·rw[if_pos hk,if_pos hk]
   have:=eO r (h.push { cls:=.type "cell",data:=.cell none }) ((m,h.objs.size)::acc) (λp hp=>by
    rcases qaH.mp hp with e|hp
    ·rw[e];exact⟨none,_,qaA _ rfl,rfl⟩
    ·obtain⟨v,z⟩:=hc p hp
     exact⟨v,z.keeps λb o e=>qai _ e⟩)
   rwa [qbd]at this
  ·rw[if_neg hk,if_neg hk]
   exact eO r h acc hc
theorem eU {names:List (Str×qbP)} (nd:(names.map (·.1)).Nodup):∀ {x:Str}{k:qbP},(x,k)∈names->names.lookup x=some k:=by
 induction names with
 |nil=>intro x k h;cases h
 |cons z r ih=>
  intro x k h
  obtain⟨m,k'⟩:=z
  rw[qay,qbY]at nd
  rw[qbi]
  rcases qaH.mp h with e|h
  ·cases e;rw[beq_self_eq_true]
  ·have:(x==m)=false:=beq_eq_false_iff_ne.mpr λe=>nd.1 (e ▸ qa7.mpr ⟨(x,k),by assumption,rfl⟩)
   rw[this]
   exact ih nd.2 h
theorem dJ {env:Env}:∀ {names:List (Str×qbP)}{x:Str}{k:qbP},
  (names.map λ(n,k)=>if (k==NameKind.free&&env.scope.kind==.function&&env.kindOf n==some .cell) then (n,NameKind.cell) else (n,k)).lookup x=some k->
  ∃ k0,names.lookup x=some k0/\(k=k0\/(k0=.free/\k=.cell))
 |[],_,_,h=>by cases h
 |(n,k0)::r,x,k,h=>by
  rw[qay]at h
  dsimp only at h
  rw[qbi]
  by_cases hc:(k0==NameKind.free&&env.scope.kind==.function&&env.kindOf n==some .cell)=true
  ·rw[if_pos hc,qbi]at h
   cases hx:x==n with
   |true=>
    rw[hx]at h
    refine⟨k0,rfl,.inr ⟨?_,(qaS h).symm⟩⟩
    simp only[qaV]at hc
    exact beq_iff_eq.mp hc.1.1
   |false=>rw[hx]at h;exact dJ h
  ·rw[if_neg hc,qbi]at h
   cases hx:x==n with
   |true=>rw[hx]at h;exact⟨k0,rfl,.inl (qaS h).symm⟩
   |false=>rw[hx]at h;exact dJ h
theorem gv {env:Env}:∀ {names:List (Str×qbP)}{x:Str},names.lookup x=some .free->
  (names.map λ(n,k)=>if (k==NameKind.free&&env.scope.kind==.function&&env.kindOf n==some .cell) then (n,NameKind.cell) else (n,k)).lookup x=some .free\/
  (names.map λ(n,k)=>if (k==NameKind.free&&env.scope.kind==.function&&env.kindOf n==some .cell) then (n,NameKind.cell) else (n,k)).lookup x=some .cell
 |[],_,h=>by cases h
 |(n,k0)::r,x,h=>by
  rw[qay]
  dsimp only
  rw[qbi]at h
  by_cases hc:(k0==NameKind.free&&env.scope.kind==.function&&env.kindOf n==some .cell)=true
  ·rw[if_pos hc,qbi]
   cases hx:x==n with
   |true=>exact .inr rfl
   |false=>rw[hx]at h;exact gv h
  ·rw[if_neg hc,qbi]
   cases hx:x==n with
   |true=>rw[hx]at h;exact .inl h
   |false=>rw[hx]at h;exact gv h
theorem i9 {M:Model}{A:qbb}{E:Value->qak->Prop}{s:qak}{scope:Scope}{env:Env}{cl:List (Str×Addr)}{Q:Env->qak->Prop}
  (hQ:Q (newEnv scope s.heap.objs.size env.globals (qbE (s.heap.objs.size+1) scope.names cl) env.qual none .none (some env) qfj)
    { s with heap:=qdR (s.heap.push { cls:=.type "dict",data:=.dict #[] }) scope.names }) :
  wpAny M A (qhM scope env.globals cl [] env.qual none .none (some env)) Q E s:=by
 simp only[qhM,Option.isSome_some,if_true]
 refine qaf (wpAny_alloc ?_)
 refine qaf (wpAny_layCells _ (λname kind cells=>by cases hkc:kind==NameKind.cell<;>simp[hkc]) _ _ _ _ ?_)
 rw[show ({ s with heap:=s.heap.push { cls:=.type "dict",data:=.dict #[] } }:qak).heap.objs.size=s.heap.objs.size+1 from qbd ..]
 refine qaf ?_
 rw[qdE]
 exact qaw (qaw hQ)
theorem eB {prog:qa0}{w:World}{A:qbb}{R:Result->qak->Prop}{s:qak}{elt target iter:Expr}{ifs:List Expr}{scope:Scope}{pos:Pos}{it acc:Value}{env:Env} (I:Nat->qak->Prop)
  (turn:∀ n s,I n s->wpAny (model prog w) A (qfP it) (λr s₁=>match r with
    |none=>R (.ok .next) s₁
    | some v=>wpAny (model prog w) A (qdS target it v) (λ_ s₁'=>wpAny (model prog w) A (qd9 target env v) (λ_ s₂=>
      wpAny (model prog w) A (forIn ifs true λc r=>if r=true then do let ok <-qhF c env (eval c env);pure (ForInStep.yield ok) else pure (ForInStep.yield r)) (λok s₃=>
       if ok=true then wpAny (model prog w) A (eval elt env) (λx s₄=>
        wpAny (model prog w) A (call (.builtin "list.append") [acc,x]) (λ_ s₅=>∃ m,m<n/\I m s₅) (λ_ _=>False) s₄) (λ_ _=>False) s₃
       else ∃ m,m<n/\I m s₃) (λ_ _=>False) s₂) (λ_ _=>False) s₁') (λ_ _=>False) s₁) (λ_ _=>False) s)
  (n:Nat) (h:I n s) :
  qec (model prog w) A (.compLoop (.ListComp elt [⟨target,iter,ifs,0⟩] scope pos) 0 it acc env) R s:=by
 refine codeAny_loop rfl I (λn s hI=>?_) n h
 show wpAny _ A ((compTurn (.ListComp elt [⟨target,iter,ifs,0⟩] scope pos) 0 it acc env).onRaise (λx=>do noteFrame x env;theTreesLotGoes x)) _ _ s
 refine wpAny_noted ?_
 rw[compTurn_list]
 refine qaf (qer (qaf (qcF (turn n s hI) (λr s₁ h₁=>?_) λ_ _ h'=>h'.elim)))
 cases r with
 |none=>exact qaw h₁
 |some v=>
  refine qaf (qcF h₁ (λ_ s₁' h₁'=>?_) λ_ _ h'=>h'.elim)
  refine qaf (qcF h₁' (λ_ s₂ h₂=>qaf (qcF h₂ (λok s₃ h₃=>?_) λ_ _ h'=>h'.elim)) λ_ _ h'=>h'.elim)
  cases ok with
  |false=>exact qaw ⟨rfl,h₃⟩
  |true=>
   exact qaf (qaf (qcF h₃ (λx s₄ h₄=>qaf (qcF h₄ (λ_ s₅ h₅=>qaw (qaw ⟨rfl,h₅⟩)) λ_ _ h'=>h'.elim)) λ_ _ h'=>h'.elim))
def lcX (X:Cx) (scope:Scope) (cells:List (Str×Addr)) (Nc:List Str) (s:qak) (H:Hp) (C:Addr) (fp:List Addr):Cx where
 prog:=X.prog
 w:=X.w
 K:=X.K
 mg:=X.mg
 base:=X.base
 A:=X.A
 N:=Nc
 s₀:=s
 H₀:=H
 env:=qfs scope cells C X.env
 outer:=X.stack
 stack:=X.stack
 ex:=fp
 fn:=λx=>scope.names.lookup x==some .cell
 calm:=X.calm
 pn:=[]
 xe:=λ_ _=>False
structure eZ (X:Cx) (scope:Scope) (Nc:List Str) (emb:St->St):Prop where
 kind:scope.kind=.function
 nd:(scope.names.map (·.1)).Nodup
 nN:Nc.Nodup
 free:∀ x∈scope.names,x.2=.free->X.env.kindOf x.1=some .cell\/X.env.kindOf x.1=some .free
 len:∀ σ:St,σ.length=X.N.length->(emb σ).length=Nc.length
 emb:∀ σ:St,σ.length=X.N.length->∀ (i:Nat) (x:Str) (v:V),Nc[i]?=some x->(emb σ)[i]?=some (some v)->∃ j:Nat,X.N[j]?=some x/\σ[j]?=some (some v)/\scope.names.lookup x=some .free
section
variable {X:Cx}{pins:List (Addr×Obj)}{σ:St}{H:Hp}{s:qak}{scope:Scope}{Nc:List Str}{emb:St->St}
theorem eZ.clos (S:eZ X scope Nc emb) (ok:X.Ok):∀ x∈scope.names,x.2=.free->∃ c,X.env.cells.lookup x.1=some c:=λx hx h=>ok.has x.1 (S.free x hx h)
theorem pb (S:eZ X scope Nc emb) (I:Inv X pins σ H s) {fp:List Addr} (hf:∀ b∈fp,iB X pins H b) (hfo:∀ b∈fp,∃ o,s.heap.get? b=some o) {lo:Obj} (hlo:∀ v,lo.data≠.cell v) (hfr:lo.isFreed=false) :
  Inv (lcX X scope (qbE (s.heap.objs.size+2) scope.names (bL X.env.cells scope.names [])) Nc s H (s.heap.objs.size+1) fp) [(s.heap.objs.size,lo)] (emb σ) H
   { s with heap:=qdR ((s.heap.push lo).push { cls:=.type "dict",data:=.dict #[] }) scope.names }:=by
 have hsz2:((s.heap.push lo).push { cls:=.type "dict",data:=.dict #[] }).objs.size=s.heap.objs.size+2:=by rw[qbd,qbd]
 have hsz1:(s.heap.push lo).objs.size=s.heap.objs.size+1:=by rw[qbd]
 have hk:∀ b o,s.heap.get? b=some o->(qdR ((s.heap.push lo).push { cls:=.type "dict",data:=.dict #[] }) scope.names).get? b=some o:=λb o e=>
  qcj _ _ b o (qai _ (qai _ e))
 have has:=S.clos I.ok
 have cl_old:∀ {x:Str}{c:Addr},(bL X.env.cells scope.names []).lookup x=some c->X.env.cells.lookup x=some c/\(x,NameKind.free)∈scope.names:=λ{x c} h=>by
  rcases fT _ _ h with q|⟨q1,q2⟩
  ·cases q
  ·obtain⟨c',hc'⟩:=has _ q1 rfl
   have hc'':X.env.cells.lookup x=some c':=hc'
   rw[hc'']at q2
   exact⟨by rw[hc'',q2];rfl,q1⟩
 have cells_cases:∀ {x:Str}{c:Addr},(qbE (s.heap.objs.size+2) scope.names (bL X.env.cells scope.names [])).lookup x=some c->
   (X.env.cells.lookup x=some c/\(x,NameKind.free)∈scope.names)\/((x,NameKind.cell)∈scope.names/\s.heap.objs.size+2<=c):=λ{x c} h=>by
  rcases d6 _ _ _ h with q|q
  ·exact .inl (cl_old q)
  ·exact .inr q
 have oldlt:∀ {x:Str}{c:Addr},X.env.cells.lookup x=some c->c<s.heap.objs.size:=λ{x c} h=>by
  obtain⟨v,z⟩:=I.cell x c h
  exact z.lt
 have fplt:∀ b∈fp,b<s.heap.objs.size:=λb hb=>by obtain⟨o,e⟩:=hfo b hb;exact qax e
 have accmem:∀ p∈bL X.env.cells scope.names [],∃ x,X.env.cells.lookup x=some p.2:=by
  have key:∀ (names:List (Str×qbP)) (acc:List (Str×Addr)),(∀ x∈names,x.2=.free->∃ c,X.env.cells.lookup x.1=some c)->(∀ p∈acc,∃ x,X.env.cells.lookup x=some p.2)->∀ p∈bL X.env.cells names acc,∃ x,X.env.cells.lookup x=some p.2:=by
   intro names
   induction names with
   |nil=>intro acc _ h;exact h
   |cons z r ih=>
    intro acc hn h
    obtain⟨m,k⟩:=z
    unfold bL
    by_cases hk:(k==.free)=true
    ·rw[if_pos hk]
     refine ih _ (λx hx=>hn x (qah _ hx)) λp hp=>?_
     rcases qaH.mp hp with e|hp
     ·obtain⟨c,hc⟩:=hn _ qae (beq_iff_eq.mp hk)
      have hc':X.env.cells.lookup m=some c:=hc
      exact⟨m,by rw[e,hc'];rfl⟩
     ·exact h p hp
    ·rw[if_neg hk]
     exact ih _ (λx hx=>hn x (qah _ hx)) h
  exact key _ _ has λp hp=>nomatch hp
 refine⟨⟨I.ok.mod,S.kind,I.ok.glob,I.ok.blt,qdl _,λx y c h1 h2=>?_,λx hx=>?_,λx c hx h=>?_,I.ok.hd,I.ok.frames,.inl rfl,λb hb=>?_,I.bs,qa3 I.ok.bsz I.sz,λb o e hb=>?_,λb hb=>?_,I.stack,I.stkFree⟩,
  rfl,I.bare,Un.kept hk,⟨_,(Heap.Ns.new (s.heap.push lo) (.type "dict")).keeps (qcj _ _) |> λq=>by rw[hsz1]at q;exact q,λi x v h1 h2 _=>?_⟩,λx c h=>?_,I.hok.fresh (qdl _),λx c h=>?_,λp hp=>?_,I.hok.kept hk,S.len σ I.len⟩
 ·-- inj
  have h1':(qbE (s.heap.objs.size+2) scope.names (bL X.env.cells scope.names [])).lookup x=some c:=h1
  have h2':(qbE (s.heap.objs.size+2) scope.names (bL X.env.cells scope.names [])).lookup y=some c:=h2
  rcases cells_cases h1' with⟨q1,_⟩|⟨_,q1⟩
  ·rcases cells_cases h2' with⟨q2,_⟩|⟨_,q2⟩
   ·exact I.ok.inj x y c q1 q2
   ·exact absurd (qaN (qbk (qbk (oldlt q1))) q2) (qaR _)
  ·refine lY scope.names _ _ (λp hp=>?_) h1' h2' q1
   obtain⟨z,hz⟩:=accmem p hp
   exact qbk (qbk (oldlt hz))
 ·-- has
  have hx':(relabel scope X.env).names.lookup x=some .cell\/(relabel scope X.env).names.lookup x=some .free:=hx
  have:∃ k0,scope.names.lookup x=some k0/\(k0=.cell\/k0=.free):=by
   rcases hx' with q|q
   ·obtain⟨k0,h1,h2⟩:=dJ q
    exact⟨k0,h1,h2.elim (λe=>.inl e.symm) λe=>.inr e.1⟩
   ·obtain⟨k0,h1,h2⟩:=dJ q
    exact⟨k0,h1,h2.elim (λe=>.inr e.symm) λe=>by cases e.2⟩
  obtain⟨k0,h1,h2⟩:=this
  refine qcn.mp (qcy scope.names _ _ ?_)
  rcases h2 with rfl|rfl
  ·exact .inl h1
  ·exact .inr (fO _ _ (.inl (qbf h1)))
 ·-- cab
  have hx':scope.names.lookup x=some .cell:=beq_iff_eq.mp hx
  rcases cells_cases h with⟨_,q⟩|⟨_,q⟩
  ·have:=eU S.nd q
   rw[hx']at this;cases this
  ·exact qa3 (qcr _ 2) q
 ·-- exf
  refine⟨qaP (qbk (fplt b hb)),λx c h=>?_⟩
  rcases cells_cases h with⟨q,_⟩|⟨_,q⟩
  ·exact (hf b hb).2.2.2.2.1 x c q
  ·intro e
   exact absurd (qaN (qbk (qbk (fplt b hb))) (e ▸ q)) (qaR _)
 ·-- noex
  have hb':b∈fp:=hb
  rcases (hf b hb').2.2.2.1 with q|q
  ·exact I.ok.noex b o e q
  ·exact absurd (qaN (qax (I.ok.bs b o e).1) q) (qaR _)
 ·-- exfs
  intro hb2
  rcases qaH.mp (I.stkSub b hb2) with q|q
  ·exact (hf b hb).2.1 q
  ·exact (hf b hb).2.2.1 q
 ·-- loc
  obtain⟨j,e1,e2,e3⟩:=S.emb σ I.len i x v h1 h2
  have kx:=S.free (x,.free) (qbf e3) rfl
  have kx':X.env.kindOf x=some .cell\/X.env.kindOf x=some .free:=kx
  obtain⟨m,hn,hl⟩:=I.loc
  obtain⟨u,ru,lk⟩:=hl j x v e1 e2 (.inr kx')
  refine⟨u,ru,.inr ⟨?_,?_⟩⟩
  ·rcases gv (env:=X.env) e3 with q|q
   ·exact .inr q
   ·exact .inl q
  ·rcases lk with⟨z,_⟩|⟨_,c,hc,hcell⟩
   ·rcases kx' with q|q<;>(rw[z]at q;cases q)
   ·obtain⟨c',hc'⟩:=qcn.mp (qcy scope.names (s.heap.objs.size+2) (bL X.env.cells scope.names []) (x:=x) (.inr (fO _ _ (.inl (qbf e3)))))
    rcases cells_cases hc' with⟨q,_⟩|⟨q,_⟩
    ·rw[hc]at q
     cases q
     exact⟨c,hc',hcell.keeps hk⟩
    ·have:=eU S.nd q
     rw[e3]at this;cases this
 ·-- cell
  have h':(qbE (s.heap.objs.size+2) scope.names (bL X.env.cells scope.names [])).lookup x=some c:=h
  have:=eO scope.names ((s.heap.push lo).push { cls:=.type "dict",data:=.dict #[] }) (bL X.env.cells scope.names []) (λp hp=>by
   obtain⟨z,hz⟩:=accmem p hp
   obtain⟨v,q⟩:=I.cell z p.2 hz
   exact⟨v,q.keeps λb o e=>qai _ (qai _ e)⟩) (x,c) (by rw[hsz2];exact qbf h')
  exact this
 ·-- freeC
  rcases cells_cases h with⟨q,_⟩|⟨_,q⟩
  ·exact I.freeC x c q
  ·exact I.hok.fresh (qa3 (qcr _ 2) q)
 ·-- pin
  have hp':p=(s.heap.objs.size,lo):=by
   have:p∈([]:List (Addr×Obj))++[(s.heap.objs.size,lo)]:=hp
   simpa using this
  subst hp'
  refine⟨qcj _ _ _ _ (qai _ (qaA _ hfr)),I.hok.fresh (qal _),qaP (qby _),λhb=>?_,hlo⟩
  rcases qaH.mp (I.stkSub _ hb) with q|q
  ·exact absurd I.lt (by rw[<-q];exact qaR _)
  ·exact I.nofs (qal _) q
end
def PTs (X:Cx) (ifs:List Expr) (t:TT):Prop:=
 ∀ (pins:List (Addr×Obj)) (s:qak) (σ:St) (H:Hp) (Q:Bool->Hp->Prop),Inv X pins σ H s->t σ H Q->
  wpAny (model X.prog X.w) X.A (forIn ifs true λc r=>if r=true then do let ok <-qhF c X.env (eval c X.env);pure (ForInStep.yield ok) else pure (ForInStep.yield r)) (TP X pins σ Q) X.xe s
def zA:TT:=λ_ H Q=>Q true H
theorem vd {X:Cx}:PTs X [] zA:=λ_ _ _ H _ I h=>wpAny_tests_nil ⟨H,I,h⟩
theorem vG {X:Cx}{c:Expr}{t:TT} (hc:PT X c t):PTs X [c] t:=λpins s σ H Q I h=>wpAny_tests_one (hc pins s σ H Q I h)
def Sub (σ σ':St):Prop:=σ.length=σ'.length/\∀ (i:Nat) (v:V),σ[i]?=some (some v)->σ'[i]?=some (some v)
def zx (J:It) (σe:St) (g:TG) (tt:TT) (te:TE) (H1:Hp) (Q:VK):Prop:=∃ W:Nat->Nat->List V->Hp->Prop,(∃ m,W 0 m [] H1)/\∀ i m ys H,W i m ys H->
 (J.stop i H/\∀ D,H D=none->Q (.ref D) (upd H D (.lst ys)))\/
 (J.go i H/\ys.length<qaM/\∃ N:List V->Hp->Prop,(∀ ys' H',N ys' H'->∃ m',m'<m/\W (i+1) m' ys' H')/\∀ x H',J.yld i H x H'->g x σe H' λσ2 H2=>Sub σe σ2/\tt σ2 H2 λb H3=>if b=true then te σ2 H3 λv H4=>N (ys++[v]) H4 else N ys H3)
def tLc (emb:St->St) (wi:TI) (g:TG) (tt:TT) (te:TE):TE:=λσ H Q=>wi σ H λJ H1=>zx J (emb σ) g tt te H1 Q
section
variable {X:Cx}{scope:Scope}{Nc:List Str}{emb:St->St}{elt iter tg:Expr}{ifs:List Expr}{pos:Pos}{wi:TI}{g:TG}{tt:TT}{te:TE}
theorem yH (S:eZ X scope Nc emb) (hc:X.calm=true) (hi:PI X tg iter wi)
  (hg:∀ cells s H C fp,PG (lcX X scope cells Nc s H C fp) tg g) (ht:∀ cells s H C fp,PTs (lcX X scope cells Nc s H C fp) ifs tt) (he:∀ cells s H C fp,PE (lcX X scope cells Nc s H C fp) elt te)
  (hs:∀ x,qb3 iter X.env x=pure x:=by intro _;rfl):PE X (.ListComp elt [⟨tg,iter,ifs,0⟩] scope pos) (tLc emb wi g tt te):=by
 intro pins s σ H Q I h
 rw[eval_ListComp]
 refine qfh (use:=none) rfl hs (iE (S.clos I.ok)) S.kind (λx hx hl=>eU S.nd (by rw[<-hl];exact hx)) ?_
 refine thn (hi pins s σ H _ I h) λv s1 h1=>thn h1 λitv s2 h2=>?_
 obtain⟨it,fp,tn,J,H2,e,I2,T,st2,f2,W,⟨m0,w0⟩,turn⟩:=h2
 subst e
 refine qbS (i9 ?_)
 rw[show (s2.heap.push { cls:=.type "list",dict:=none,data:=.seq ([]:List Value).toArray }).objs.size=s2.heap.objs.size+1 from qbd ..]
 generalize hD:s2.heap.objs.size=D
 generalize hlo:({ cls:=.type "list",dict:=none,data:=.seq ([]:List Value).toArray }:Obj)=lo
 have fplt:∀ b∈fp,b<s2.heap.objs.size:=λb hb=>by obtain⟨o,e,_⟩:=T.obj _ _ st2 b hb;exact qax e
 have I3:=pb (lo:=lo) S I2 f2 (λb hb=>by obtain⟨o,e,_⟩:=T.obj _ _ st2 b hb;exact⟨o,e⟩) (by rw[<-hlo];intro v z;cases z) (by rw[<-hlo];rfl)
 rw[hD]at I3
 generalize hcells:qbE (D+2) scope.names (bL X.env.cells scope.names [])=cells at I3
 generalize hX':lcX X scope cells Nc s2 H2 (D+1) fp=X' at I3
 have hfpX:∀ {H':Hp}{ps:List (Addr×Obj)},(∀ b∈fp,H' b=none)->(∀ p∈ps,p.1=D)->∀ b∈fp,iB X' ps H' b:=λ{H' ps} hn hps b hb=>by
  have ok:=I3.ok
  refine⟨hn b hb,?_,?_,.inl (by rw[<-hX'];exact hb),?_,λp hp=>?_⟩
  ·exact (ok.exf b (by rw[<-hX'];exact hb)).1
  ·exact ok.exfs b (by rw[<-hX'];exact hb)
  ·exact (ok.exf b (by rw[<-hX'];exact hb)).2
  ·have hp':p∈([]:List (Addr×Obj))++ps:=by rw[<-hX']at hp;exact hp
   have e:p.1=D:=hps p (by simpa using hp')
   rw[e,<-hD]
   exact qb0 (fplt b hb)
 have Dex:D∈X'.ex\/X'.s₀.heap.objs.size<=D:=.inr (by rw[<-hX',<-hD];exact qal _)
 have Dloc:D≠X'.env.locals:=by rw[<-hX'];exact qaP (qby _)
 have pD:=I3.pin (D,lo) (by rw[<-hX'];exact qap _ qae)
 have Dfs:D∉X'.fs:=pD.2.2.2.1
 have Dcell:∀ x c,X'.env.cells.lookup x=some c->c≠D:=λx c hc' e=>by
  obtain⟨v,o,ho,hd⟩:=I3.cell x c hc'
  rw[e,pD.1]at ho
  cases ho
  exact pD.2.2.2.2 v hd
 -- the loop
 have loop:∀ s3:qak,s3={ s2 with heap:=qdR ((s2.heap.push lo).push { cls:=.type "dict",data:=.dict #[] }) scope.names }->
   qec (model X.prog X.w) X.A (.compLoop (.ListComp elt [⟨tg,iter,ifs,0⟩] scope pos) 0 (.ref it) (.ref D) (qfs scope cells (D+1) X.env))
    (compPost (model X.prog X.w) X.A X.xe none (EP X pins σ Q) (.ref D) (D+1)) s3:=by
  rintro s3 rfl
  refine eB (λn s'=>∃ i ys its k H',Inv X' [(D,{ cls:=.type "list",data:=.seq its.toArray k })] (emb σ) H' s'/\aJ ys its/\tn i s'.heap/\(∀ b∈fp,H' b=none)/\ys.length<=qaM/\W i n ys H') ?_ m0
   ⟨0,[],[],0,H2,?_,.nil,?_,λb hb=>(f2 b hb).1,qcL _,w0⟩
  ·rintro n s4 ⟨i,ys,its,k,H4,I4,rv,st4,fr4,hlen,w4⟩
   have hps:∀ p∈[(D,({ cls:=.type "list",data:=.seq its.toArray k }:Obj))],p.1=D:=λp hp=>by
    have:=qaj.mp hp
    rw[this]
   rcases turn i n ys H4 w4 with⟨stop,qn⟩|⟨go,hlt,N,hN,step⟩
   ·-- the end
    have TD:=T.done X' (by rw[<-hX'];rfl) (by rw[<-hX'];rfl) (by rw[<-hX'];rfl) (by rw[<-hX'];exact hc) i _ s4 (emb σ) H4 (λ_ _=>False) I4 (hfpX fr4 hps) st4 stop
    rw[show X'.A=X.A by rw[<-hX'];rfl]at TD
    refine thn TD λr s5 ⟨hr,I5⟩=>?_
    subst hr
    obtain⟨m5,hn5,_⟩:=id I5.loc
    have eC:X'.env.locals=D+1:=by rw[<-hX'];rfl
    rw[eC]at hn5
    refine⟨m5,hn5,λh' hsb=>?_⟩
    have pD5:=I5.pin (D,{ cls:=.type "list",data:=.seq its.toArray k }) (by rw[<-hX'];exact qap _ qae)
    have neC:∀ b u,H4 b=some u->b≠D+1:=λb u e z=>by
     have:=I5.free
     rw[eC,<-z,e]at this
     cases this
    have hD4:H4 D=none:=pD5.2.1
    have un:=I5.base
    have un':Un (frs X.stack) fp H2 H4 s2.heap s5.heap:=by rw[<-hX']at un;exact un
    have old_ne:∀ b o,s2.heap.get? b=some o->b≠D/\b≠D+1:=λb o e=>by
     have q:=qax e
     rw[hD]at q
     exact⟨qaP q,qaP (qbk q)⟩
    have h2D:H2 D=none:=by rw[<-hD];exact I2.fresh
    have hok':HOk X.prog X.w H4 h':=λb u e=>by
     have ob:dN X.prog X.w H4 s5.heap b u:=by have:=I5.hok b u e;rw[<-hX']at this;exact this
     refine ob.stay (λc v hcv q=>(hsb.2 c ?_).trans q) (λ_ q=>q) λ_ _ q=>q
     rcases hcv with z|z
     ·rw[z];exact neC b u e
     ·exact neC c _ z
    have hokD:HOk X.prog X.w (upd H4 D (.lst ys)) h':=λb u e=>by
     by_cases hb:b=D
     ·subst hb
      rw[upd_same]at e
      cases e
      exact⟨hlen,its,k,rv,(hsb.2 b (qaP (qby _))).trans pD5.1⟩
     ·rw[upd_ne hb]at e
      refine (hok' b u e).stay (λ_ _ _ q=>q) (λc q=>?_) λc z q=>?_
      all_goals first
       |(rw[upd_ne (aE q hD4)];exact q)
       |(rw[upd_ne (aE z hD4)];exact z)
    refine⟨.ref D,upd H4 D (.lst ys),?_,rfl,qn D hD4⟩
    refine I2.call' (s':={ s5 with heap:=h' }) (ch:=fp) ?_ ⟨λb o e nb hb hx=>?_,λb o e nb hb hx=>?_,λb o e nb hx=>?_,λb o e hx=>?_,λb xs e=>?_,λb o u e=>?_,λb ps e=>?_⟩ hokD I5.bare (λb hb=>?_)
    ·have:=I5.os
     rw[<-hX']at this
     exact this
    ·exact (hsb.2 b (old_ne b o e).2).trans (un'.keep b o e nb hb hx)
    ·obtain⟨sl,q⟩:=un'.slot b o e nb hb hx
     exact⟨sl,(hsb.2 b (old_ne b o e).2).trans q⟩
    ·rw[upd_ne (old_ne b o e).1]
     exact un'.free b o e nb hx
    ·obtain⟨o',q⟩:=un'.there b o e hx
     exact⟨o',(hsb.2 b (old_ne b o e).2).trans q⟩
    ·rw[upd_ne (aE e h2D)]
     exact un'.tups b xs e
    ·rw[upd_ne (aE e h2D)]
     exact un'.frzs b o u e
    ·obtain⟨m,q⟩:=un'.tbls b ps e
     exact⟨m,by rw[upd_ne (aE e h2D)];exact q⟩
    ·obtain⟨q0,q1,q2,q3,q4,q5⟩:=f2 b hb
     exact⟨q3,q1,q4,q5⟩
   ·-- a turn
    have hA:X'.A=X.A:=by rw[<-hX'];rfl
    have hP:X'.prog=X.prog:=by rw[<-hX'];rfl
    have hw:X'.w=X.w:=by rw[<-hX'];rfl
    have hE:X'.env=qfs scope cells (D+1) X.env:=by rw[<-hX'];rfl
    have hxe:X'.xe=λ_ _=>False:=by rw[<-hX'];rfl
    have TI':=T.item X' hP hw (by rw[<-hX'];rfl) (by rw[<-hX'];exact hc) i _ s4 (emb σ) H4 (λ_ _=>False) I4 (hfpX fr4 hps) st4 go
    rw[hA]at TI'
    refine thn TI' λr s5 ⟨u,hr,h5⟩=>?_
    subst hr
    refine thn h5 λ_ s6 ⟨x,H6,I6,r6,y6,st6,fr6⟩=>?_
    have I6':=I6.pinned (hfpX fr6 hps) (T.obj _ _ st6)
    have G:=hg cells s2 H2 (D+1) fp
    have TT':=ht cells s2 H2 (D+1) fp
    have EE:=he cells s2 H2 (D+1) fp
    rw[hX']at G TT' EE
    have G':=G _ s6 (emb σ) H6 x u _ I6' r6 (step x H6 y6)
    rw[hA,hP,hw,hE,hxe]at G'
    refine thn G' λ_ s7 ⟨σ7,H7,I7,sb7,q7⟩=>?_
    have T':=TT' _ s7 σ7 H7 _ I7 q7
    rw[hA,hP,hw,hE,hxe]at T'
    refine thn T' λok s8 ⟨H8,I8,q8⟩=>?_
    -- what is pinned
    have pin_fp:∀ {σ9:St}{H9:Hp}{s9:qak},Inv X' ([(D,({ cls:=.type "list",data:=.seq its.toArray k }:Obj))]++jp fp s6.heap) σ9 H9 s9->tn (i+1) s9.heap/\∀ b∈fp,H9 b=none:=λ{σ9 H9 s9} I9=>
     ⟨T.keep _ _ _ st6 λb hb o e=>(I9.pin (b,o) (qap _ (qap _ (cZ hb e)))).1,λb hb=>by
      obtain⟨o,e,_⟩:=T.obj _ _ st6 b hb
      exact (I9.pin (b,o) (qap _ (qap _ (cZ hb e)))).2.1⟩
    cases ok with
    |false=>
     rw[if_neg (by decide)]at q8
     rw[if_neg (by decide)]
     obtain⟨m',hm,w8⟩:=hN _ _ q8
     exact⟨m',hm,i+1,ys,its,k,H8,I8.unpinned.weak sb7.1 sb7.2,rv,(pin_fp I8).1,(pin_fp I8).2,hlen,w8⟩
    |true=>
     rw[if_pos rfl]at q8
     rw[if_pos rfl]
     have E':=EE _ s8 σ7 H8 _ I8 q8
     rw[hA,hP,hw,hE,hxe]at E'
     refine thn E' λy s9 ⟨v9,H9,I9,r9,n9⟩=>?_
     obtain⟨m',hm,w9⟩:=hN _ _ n9
     have pD9:=I9.pin (D,{ cls:=.type "list",data:=.seq its.toArray k }) (qap _ (qaU _ qae))
     have hl:=rv.length
     have I9n:Inv X' [] σ7 H9 s9:=I9.pins_of λp hp=>nomatch hp
     refine qcT qei ⟨_,pD9.1,rfl⟩ qd5 (qdZ _ _) (qd3 D its.toArray k y (by rw[qat];lia)) ⟨pD9.1,?_⟩
     have up:∃ k':Nat,(s9.heap.update D (qcK λxs=>xs.push y)).get? D=some { cls:=.type "list",data:=.seq (its++[y]).toArray k' }:=by
      have q:=qdV pD9.1 (λxs:Array Value=>xs.push y)
      simp only[qfJ]at q
      exact⟨_,q⟩
     obtain⟨k',up⟩:=up
     have hoth:∀ b o,b≠D->s9.heap.get? b=some o->(s9.heap.update D (qcK λxs=>xs.push y)).get? b=some o:=λb o hb e=>(qcH s9.heap _ (qbo hb)).trans e
     have I10:=I9n.turned (t':=s9.toks) hoth pD9.2.1 Dloc Dex Dcell (λp hp=>absurd (show p∈([]:List (Addr×Obj)) by rw[<-hX']at hp;exact hp) (by simp))
     refine⟨m',hm,i+1,ys++[v9],its++[y],k',H9,(I10.weak sb7.1 sb7.2).pins_of (λp hp=>?_),rv.append (.cons r9 .nil),T.keep _ _ _ (pin_fp I9).1 (λb hb o e=>hoth b o (by rw[<-hD];exact qaP (fplt b hb)) e),(pin_fp I9).2,?_,w9⟩
     ·have:=qaj.mp hp
      subst this
      exact⟨up,pD9.2.1,Dloc,Dfs,λv z=>by cases z⟩
     ·rw[qau,qbT]
      lia
  ·have q:lo={ cls:=.type "list",data:=.seq ([]:List Value).toArray 0 }:=hlo.symm
   rw[<-q]
   exact I3
  ·exact T.keep _ _ _ st2 λb hb o e=>qcj _ _ b o (qai _ (qai _ e))
 refine qfG ?_ ?_
 ·exact loop _ rfl
 ·refine T.self X.A 0 _ _ _ (T.keep _ _ _ st2 λb hb o e=>qcj _ _ b o (qai _ (qai _ e))) ?_
  exact loop _ rfl
end
end L2
namespace L2
open PySem PySem.Spec PyProof.Rows
open PySem.AutoSeq1 (wpAny_loadPart')
section
variable {prog:qa0}{w:World}{A:qbb}{E:Value->qak->Prop}{s:qak}
theorem fI {it l:Addr}{i:Nat}{items}{x:Value}{Q:Value->qak->Prop} (hit:s.heap.IsTupleIter it l i)
  (hl:s.heap.IsTuple l items) (hx:items[i]?=some x)
  (hQ:∀ h',h'.IsTupleIter it l (i+1)->qc6 it s.heap h'->Q x { s with heap:=h' }) :
  wpAny (model prog w) A (qa1 (.ref it)) Q E s:=by
 obtain⟨o,ho,hc,hd⟩:=id hit
 obtain⟨ol,hol,_,nl,hdl⟩:=hl
 unfold qa1
 refine qaf (qbO (name:=qc7 "__next__") hit.typeIs qcl
  (qcx qcl hit.typeIs qeV ?_ (qeO _)))
 show wpAny _ _ (field (.ref it) 0 >>= _) _ _ s
 refine qaf (qbH ho hd (x:=.ref l) rfl ?_)
 show wpAny _ _ (if (Value.ref l==Value.none)=true then _ else _) _ _ s
 rw[if_neg (show ¬ ((Value.ref l==Value.none)=true) from qaF)]
 show wpAny _ _ (field (.ref it) 1 >>= _) _ _ s
 refine qaf (qbH ho hd (x:=.int i 0) rfl ?_)
 show wpAny _ _ (seqItems? (.ref l) >>= _) _ _ s
 refine qaf (qb8 hol hdl ?_)
 simp only[qch,hx]
 refine qaf (qhJ ho hd (by simp) (qaw ⟨x,rfl,qaw (hQ _ ?_ (qez ..))⟩))
 exact⟨_,qe9 _ ho (Obj.isFreed_of_fields (qfI hd _)),(Obj.cls_mapFields ..).trans hc,by
  rw[qfI hd];simp[qfi]⟩
theorem gg {it l:Addr}{i:Nat}{items}{Q:Value->qak->Prop} (hh:A.handled=none)
  (hit:s.heap.IsTupleIter it l i) (hl:s.heap.IsTuple l items) (hx:items[i]?=none)
  (hE:∀ h' e,qhB it s.heap h'->(∃ o,h'.get? e=some o/\o.cls=.type "StopIteration")->E (.ref e) { s with heap:=h' }) :
  wpAny (model prog w) A (qa1 (.ref it)) Q E s:=by
 obtain⟨o,ho,hc,hd⟩:=id hit
 obtain⟨ol,hol,_,nl,hdl⟩:=hl
 unfold qa1
 refine qaf (qbO (name:=qc7 "__next__") hit.typeIs qcl
  (qcx qcl hit.typeIs qeV ?_ (qeO _)))
 show wpAny _ _ (field (.ref it) 0 >>= _) _ _ s
 refine qaf (qbH ho hd (x:=.ref l) rfl ?_)
 show wpAny _ _ (if (Value.ref l==Value.none)=true then _ else _) _ _ s
 rw[if_neg (show ¬ ((Value.ref l==Value.none)=true) from qaF)]
 show wpAny _ _ (field (.ref it) 1 >>= _) _ _ s
 refine qaf (qbH ho hd (x:=.int i 0) rfl ?_)
 show wpAny _ _ (seqItems? (.ref l) >>= _) _ _ s
 refine qaf (qb8 hol hdl ?_)
 simp only[qch,hx]
 refine qaf (qdq (qaf (qhJ ho hd (by simp) ?_)))
 show wpAny _ _ (newExc (.type "StopIteration") [] >>= _) _ _ _
 refine qaf ?_
 simp only[newExc,newTuple]
 refine qaf (qbS ?_ (by size_fits))
 refine qaf (m:=qhN _ _) (wpAny_of_eq (a:=Value.none) (by first|rfl|(simp only[qhN];rfl)) ?_)
 refine qbS ?_ (by size_fits)
 simp only[raiseNew]
 refine qaf (wpAny_handled ?_)
 first|rw[show A.in1.handled=none from hh]|rw[hh]
 refine qaf (qaw (wpAny_throw ?_))
 exact hE _ _ (((qez ..).extBut.push _).push _) ⟨_,qaA _ rfl,rfl⟩
theorem gZ (hh:A.handled=none) (it l:Addr) (hne:l≠it) (items:Array Value) :
  Draws prog w A it [it,l] items.size (λi v=>items[i]?=some v) (λi h=>h.IsTupleIter it l i/\h.IsTuple l items) where
 live:=λ_ _ st=>let ⟨o,ho,_⟩:=st.1;⟨o,ho⟩
 frame:=λ_ _ _ st hk=>⟨st.1.at λo e=>hk it (by simp) o e,by
  obtain⟨o,e,r⟩:=st.2
  exact⟨o,hk l (by simp) o e,r⟩⟩
 item:=λi s Q E hi st hQ=>by
  refine fI st.1 st.2 (x:=items[i]) (by simp[hi]) λh' hit' hs'=>?_
  refine hQ _ h' s.toks (by simp[hi]) ⟨hit',?_⟩ hs'
  obtain⟨o,e,r⟩:=st.2
  exact⟨o,(hs'.2 l hne).trans e,r⟩
 done:=λs Q E st hE=>gg hh st.1 st.2 (by simp) hE
end
theorem ig (l:Addr) (items:Array Value) (n:Nat) (dct:Option Addr) (sl:Array (Option Value)) :
  Meets (qgo.«enumerate.__new__» ⟨[.type "enumerate",.ref l],[]⟩) (λ_ R s=>s.heap.get? l=some { cls:=.type "tuple",dict:=dct,data:=.seq items n,slots:=sl }/\
   R (.ok (.ret (.ref (s.heap.push { cls:=.type "tuple_iterator",data:=.fields #[.ref l,.int 0 0] }).objs.size)))
    { s with heap:=(s.heap.push { cls:=.type "tuple_iterator",data:=.fields #[.ref l,.int 0 0] }).push { cls:=.type "enumerate",data:=.fields #[.none,.bool false,.ref s.heap.objs.size,qfi 0,.none,.none] } }):=
 .of_wp λprog w A R s h=>by
  obtain⟨hp,g,d,tk,os⟩:=s;obtain⟨hl,h⟩:=h
  have hsub:=sub_enumerate
  have hL:Heap.IsTuple (qe6 ⟨hp,g,d,tk,os⟩) l items:=⟨_,hl,rfl,n,rfl⟩
  wp_walk using wpAny_loadPart' hl
  refine wpAny_stack_any λst=>qaw ?_
  split
  ·rename_i c _ _ _ _ _
   cases (c==Value.type "enumerate")
   ·wp_walk using wpAny_loadPart' hl,qcI hL
    exact⟨_,rfl,h⟩
   ·wp_walk using wpAny_loadPart' hl,qcI hL
    exact⟨_,rfl,h⟩
  ·wp_walk using wpAny_loadPart' hl,qcI hL
   exact⟨_,rfl,h⟩
theorem hZ {prog:qa0}{w:World}{A:qbb}{E:Value->qak->Prop}{s:qak}{l:Addr}{items:Array Value}{Q:Value->qak->Prop} (hL:s.heap.IsTuple l items)
  (h:∀ h',IsEnum h' (s.heap.objs.size+1) s.heap.objs.size 0 .none->h'.IsTupleIter s.heap.objs.size l 0->h'.objs.size=s.heap.objs.size+2->
    (∀ b o,s.heap.get? b=some o->h'.get? b=some o)->Q (.ref (s.heap.objs.size+1)) { s with heap:=h' }) :
  wpAny (model prog w) A (call (.type "enumerate") [.ref l]) Q E s:=by
 obtain⟨⟨c,dct,dt,sl⟩,hl,hc,n,hd⟩:=hL
 replace hc:c=.type "tuple":=hc
 replace hd:dt=.seq items n:=hd
 subst hc hd
 refine callType_new F.called_enumerate (by decide) (F.typeCall_enumerate_1 _) (F.newCall_enumerate_1 _) (λobj=>F.args_object_init_2 obj _) F.entry_enumerate_new
  (ig l items n dct sl) ⟨hl,?_⟩
 have hz:(s.heap.push { cls:=.type "tuple_iterator",data:=.fields #[.ref l,.int 0 0] }).objs.size=s.heap.objs.size+1:=qbd ..
 show _/\_
 rw[hz]
 have he:IsEnum ((s.heap.push { cls:=.type "tuple_iterator",data:=.fields #[.ref l,.int 0 0] }).push
   { cls:=.type "enumerate",data:=.fields #[.none,.bool false,.ref s.heap.objs.size,qfi 0,.none,.none] }) (s.heap.objs.size+1) s.heap.objs.size 0 .none:=by
  have:=qaA (s.heap.push { cls:=.type "tuple_iterator",data:=.fields #[.ref l,.int 0 0] })
   (o:={ cls:=.type "enumerate",data:=.fields #[.none,.bool false,.ref s.heap.objs.size,qfi 0,.none,.none] }) rfl
  rw[hz]at this;exact this
 refine⟨⟨_,he,rfl⟩,h _ he ⟨_,qai _ (qaA _ rfl),rfl,rfl⟩ (by rw[qbd,hz]) λb o x=>qai _ (qai _ x)⟩
section
variable {X:Cx}{pins:List (Addr×Obj)}{σ:St}{H:Hp}{s:qak}{h':Heap}{fp:List Addr}
theorem iB.ch (hf:∀ b∈fp,iB X pins H b):∀ b∈fp,(b∈X.ex\/X.s₀.heap.objs.size<=b)/\b≠X.env.locals/\(∀ x c,X.env.cells.lookup x=some c->c≠b)/\∀ p∈X.pn++pins,p.1≠b:=λb hb=>
 let ⟨_,f1,_,f3,f4,f5⟩:=hf b hb
 ⟨f3,f1,f4,f5⟩
theorem Inv.turns {t':Nat} (I:Inv X pins σ H s) (hf:∀ b∈fp,iB X pins H b) (k:∀ b o,b∉fp->s.heap.get? b=some o->h'.get? b=some o):Inv X pins σ H { s with heap:=h',toks:=t' }:=by
 have nit:∀ b u,H b=some u->b∉fp:=λb u e z=>by have:=(hf b z).1;rw[e]at this;cases this
 refine I.step (g':=s.gens) (d':=s.drawn) (ch:=fp) (iB.ch hf) (λb o _ _ hc e _=>k b o hc e) (λb o _ _ hc e _=>⟨o.slots,k b o hc e⟩) (λ_ _ _ _ n=>n)
  (λb o hc e=>⟨o,k b o hc e⟩) (λ_ _ e=>e) (λ_ _ _ e=>e) (λb ps e=>⟨#[],by rw[e];simp⟩) (λm hm=>?_) (λb u e=>?_) I.bare
 ·obtain⟨o,es,ep,ho,r⟩:=hm
  exact⟨o,es,ep,k _ o (λz=>(hf _ z).2.1 rfl) ho,r⟩
 ·refine (I.hok b u e).stay (λc v hc q=>k c v ?_ q) (λ_ q=>q) λ_ _ q=>q
  rcases hc with z|z
  ·rw[z];exact nit b u e
  ·exact nit c _ z
theorem Inv.turnsT {t':Nat}{T:Addr}{xs:List V}{its:Array Value} (I:Inv X pins σ H s) (hf:∀ b∈fp,iB X pins H b) (k:∀ b o,b∉fp->s.heap.get? b=some o->h'.get? b=some o)
  (hT:s.heap.objs.size<=T) (ht:dC h' T its) (rv:aJ xs its.toList) (hz:xs.length<=qaM):Inv X pins σ (upd H T (.tup xs)) { s with heap:=h',toks:=t' }:=by
 have nit:∀ b u,H b=some u->b∉fp:=λb u e z=>by have:=(hf b z).1;rw[e]at this;cases this
 have hTn:H T=none:=I.hok.fresh hT
 have lt:∀ b o,s.heap.get? b=some o->b≠T:=λb o e=>qaP (qaN (qax e) hT)
 refine I.step (g':=s.gens) (d':=s.drawn) (ch:=fp) (iB.ch hf) (λb o _ _ hc e _=>k b o hc e) (λb o _ _ hc e _=>⟨o.slots,k b o hc e⟩) (λb o _ e n=>by rw[upd_ne (lt b o e)];exact n)
  (λb o hc e=>⟨o,k b o hc e⟩) (λb _ e=>by rw[upd_ne (aE e hTn)];exact e) (λb _ _ e=>by rw[upd_ne (aE e hTn)];exact e) (λb ps e=>⟨#[],by rw[upd_ne (aE e hTn),e];simp⟩) (λm hm=>?_) (λb u e=>?_) I.bare
 ·obtain⟨o,es,ep,ho,r⟩:=hm
  exact⟨o,es,ep,k _ o (λz=>(hf _ z).2.1 rfl) ho,r⟩
 ·by_cases hb:b=T
  ·subst hb
   rw[upd_same]at e
   cases e
   refine⟨hz,its.toList,rv,?_⟩
   show dC h' b its.toList.toArray
   simpa using ht
  ·rw[upd_ne hb]at e
   refine (I.hok b u e).stay (λc v hc q=>k c v ?_ q) (λc q=>?_) λc z q=>?_
   ·rcases hc with z|z
    ·rw[z];exact nit b u e
    ·exact nit c _ z
   all_goals first
    |(rw[upd_ne (aE q hTn)];exact q)
    |(rw[upd_ne (aE z hTn)];exact z)
end
def Ite (S:Hp->List V->Prop):It:=
 ⟨λi H=>∃ xs x,S H xs/\xs[i]?=some x,λi H x H'=>∃ T v,(∀ xs,S H xs->xs[i]?=some v)/\H T=none/\x=.ref T/\H'=upd H T (.tup [.int i,v]),λi H=>∃ xs,S H xs/\xs.length=i⟩
theorem qt {P:qa0}{w:World}{K:qac}{elts:List Expr}{k:Nat}{pos:Pos} (a it e:Addr) (hei:e≠it) (hae:a≠e) (hai:a≠it) :
  pP P w K (.Tuple elts k pos) (Ite λH xs=>SqL K H a xs) [e,it] e (λi h=>(∃ old,IsEnum h e it i old)/\h.IsListIter it a i) where
 mem:=by simp
 obj:=λi h st b hb=>by
  rcases qaH.mp hb with rfl|hb
  ·obtain⟨⟨old,q⟩,_⟩:=st
   exact⟨_,q,λv z=>by cases z⟩
  ·rw[qaj.mp hb]
   obtain⟨_,o,e,c,d⟩:=st
   exact⟨o,e,λv z=>by rw[d]at z;cases z⟩
 keep:=λi h h' st kk=>⟨let ⟨old,q⟩:=st.1;⟨old,kk e (by simp) _ q⟩,st.2.at λo q=>kk it (by simp) o q⟩
 item:=by
  intro X hP hw hK hc i pins s σ H E I hf st hg
  subst hP hw hK
  obtain⟨xs,x,hq,hx⟩:=hg
  obtain⟨its,rv,p,hz⟩:=I.list hq
  obtain⟨u,hu,ru⟩:=rv.get hx
  have W:=qd0 (qhC (prog:=X.prog) (w:=X.w) (A:=X.A.in1) (I.ok.hd hc) it a hai its.toArray) e hei (by simp[hei,qbo hae]) (by simp)
  have hi:i<its.toArray.size:=by
   have:=(qan.mp hu).1
   simpa using this
  obtain⟨⟨ol,he0⟩,hit0⟩:=st
  refine qfp (qhC (prog:=X.prog) (w:=X.w) (A:=X.A.in1) (I.ok.hd hc) it a hai its.toArray) he0 ⟨hit0,p.isList⟩ hi hei (by simp[hei,qbo hae]) λy h1 t hy ho hs' ht hsz hk=>⟨_,rfl,?_⟩
  have hm:(λ(i:Nat) (T:Addr) (h:Heap)=>(∃ x,IsEnumOut h e it ((i:Int)+1) x T)/\_/\T≠e/\T≠it) i s.heap.objs.size h1:=⟨⟨_,ho⟩,hs',qb0 (qax he0),qb0 (let ⟨_,q,_⟩:=hit0;qax q)⟩
  have kk:∀ b o,b∉[e,it]->s.heap.get? b=some o->h1.get? b=some o:=λb o hb q=>hk b o (λz=>hb (by simp[z])) (λz=>hb (by simp[z])) q
  generalize eT:s.heap.objs.size=T at ht ho hm ⊢
  have hT:s.heap.objs.size<=T:=qcP eT
  have etk:∃ tk,tk=t+1:=⟨_,rfl⟩
  obtain⟨tk,etk⟩:=etk
  rw[<-etk]
  have ey:y=u:=by
   have hy':its[i]?=some y:=by simpa using hy
   rw[hu]at hy'
   exact (qaS hy').symm
  subst ey
  refine W.go elts k pos i T _ _ _ hm λh2 hst kk2=>?_
  have nT:T∉[e,it]:=W.apart i T _ hm
  refine⟨.ref T,upd H T (.tup [.int i,x]),?_,rfl,⟨T,x,λys hy=>by rw[I.list_inj hy hq];exact hx,I.hok.fresh hT,rfl,rfl⟩,⟨hst.1,hst.2.1⟩,λb hb=>?_⟩
  ·have ht2:dC h2 T #[.int i t,y]:=⟨_,kk2 T _ nT ht,rfl,⟨_,rfl⟩,rfl⟩
   have I2:Inv X pins σ (upd H T (.tup [.int i,x])) { s with heap:=h2,toks:=tk }:=
    I.turnsT (fp:=[e,it]) (h':=h2) (t':=tk) (its:=#[.int i t,y]) hf (λb o hb q=>kk2 b o hb (kk b o hb q)) hT ht2 (.cons ⟨t,rfl⟩ (.cons ru .nil)) (by show 2<=qaM;decide)
   exact I2
  ·rw[upd_ne (show b≠T from λz=>nT (z ▸ hb))]
   exact (hf b hb).1
 done:=by
  intro X hP hw hK hc i pins s σ H E I hf st hg
  subst hP hw hK
  obtain⟨xs,hq,hx⟩:=hg
  obtain⟨its,rv,p,hz⟩:=I.list hq
  have hl:=rv.length
  have hx':its.toArray[i]?=none:=by simp;lia
  obtain⟨⟨old,he⟩,hit⟩:=st
  -- the end at place i
  obtain⟨f0,f1,f2,f3,f4,f5⟩:=hf e (by simp)
  refine wpAny_pyNext_enum_end (I.ok.hd hc) he hit p.isList hx' λh' eb=>⟨rfl,?_⟩
  exact I.turns (t':=s.toks) (fp:=[e,it]) hf λb o hb q=>eb b o (by simp at hb;exact hb.2) q
 self:=λ_ _ _ _ _ st h=>let ⟨⟨_,he⟩,_⟩:=st;qdr he h
theorem qw {P:qa0}{w:World}{K:qac}{elts:List Expr}{k:Nat}{pos:Pos} (a it e:Addr) (hei:e≠it) (hae:a≠e) (hai:a≠it) :
  pP P w K (.Tuple elts k pos) (Ite λH xs=>SqT K H a xs) [e,it] e (λi h=>(∃ old,IsEnum h e it i old)/\h.IsTupleIter it a i) where
 mem:=by simp
 obj:=λi h st b hb=>by
  rcases qaH.mp hb with rfl|hb
  ·obtain⟨⟨old,q⟩,_⟩:=st
   exact⟨_,q,λv z=>by cases z⟩
  ·rw[qaj.mp hb]
   obtain⟨_,o,e,c,d⟩:=st
   exact⟨o,e,λv z=>by rw[d]at z;cases z⟩
 keep:=λi h h' st kk=>⟨let ⟨old,q⟩:=st.1;⟨old,kk e (by simp) _ q⟩,st.2.at λo q=>kk it (by simp) o q⟩
 item:=by
  intro X hP hw hK hc i pins s σ H E I hf st hg
  subst hP hw hK
  obtain⟨xs,x,hq,hx⟩:=hg
  obtain⟨its,rv,p,hz⟩:=I.tuple hq
  obtain⟨u,hu,ru⟩:=rv.get hx
  have W:=qd0 (gZ (prog:=X.prog) (w:=X.w) (A:=X.A.in1) (I.ok.hd hc) it a hai its.toArray) e hei (by simp[hei,qbo hae]) (by simp)
  have hi:i<its.toArray.size:=by
   have:=(qan.mp hu).1
   simpa using this
  obtain⟨⟨ol,he0⟩,hit0⟩:=st
  refine qfp (gZ (prog:=X.prog) (w:=X.w) (A:=X.A.in1) (I.ok.hd hc) it a hai its.toArray) he0 ⟨hit0,p⟩ hi hei (by simp[hei,qbo hae]) λy h1 t hy ho hs' ht hsz hk=>⟨_,rfl,?_⟩
  have hm:(λ(i:Nat) (T:Addr) (h:Heap)=>(∃ x,IsEnumOut h e it ((i:Int)+1) x T)/\_/\T≠e/\T≠it) i s.heap.objs.size h1:=⟨⟨_,ho⟩,hs',qb0 (qax he0),qb0 (let ⟨_,q,_⟩:=hit0;qax q)⟩
  have kk:∀ b o,b∉[e,it]->s.heap.get? b=some o->h1.get? b=some o:=λb o hb q=>hk b o (λz=>hb (by simp[z])) (λz=>hb (by simp[z])) q
  generalize eT:s.heap.objs.size=T at ht ho hm ⊢
  have hT:s.heap.objs.size<=T:=qcP eT
  have etk:∃ tk,tk=t+1:=⟨_,rfl⟩
  obtain⟨tk,etk⟩:=etk
  rw[<-etk]
  have ey:y=u:=by
   have hy':its[i]?=some y:=by simpa using hy
   rw[hu]at hy'
   exact (qaS hy').symm
  subst ey
  refine W.go elts k pos i T _ _ _ hm λh2 hst kk2=>?_
  have nT:T∉[e,it]:=W.apart i T _ hm
  refine⟨.ref T,upd H T (.tup [.int i,x]),?_,rfl,⟨T,x,λys hy=>by rw[I.tuple_inj hy hq];exact hx,I.hok.fresh hT,rfl,rfl⟩,⟨hst.1,hst.2.1⟩,λb hb=>?_⟩
  ·have ht2:dC h2 T #[.int i t,y]:=⟨_,kk2 T _ nT ht,rfl,⟨_,rfl⟩,rfl⟩
   have I2:Inv X pins σ (upd H T (.tup [.int i,x])) { s with heap:=h2,toks:=tk }:=
    I.turnsT (fp:=[e,it]) (h':=h2) (t':=tk) (its:=#[.int i t,y]) hf (λb o hb q=>kk2 b o hb (kk b o hb q)) hT ht2 (.cons ⟨t,rfl⟩ (.cons ru .nil)) (by show 2<=qaM;decide)
   exact I2
  ·rw[upd_ne (show b≠T from λz=>nT (z ▸ hb))]
   exact (hf b hb).1
 done:=by
  intro X hP hw hK hc i pins s σ H E I hf st hg
  subst hP hw hK
  obtain⟨xs,hq,hx⟩:=hg
  obtain⟨its,rv,p,hz⟩:=I.tuple hq
  have hl:=rv.length
  have W:=qd0 (gZ (prog:=X.prog) (w:=X.w) (A:=X.A.in1) (I.ok.hd hc) it a hai its.toArray) e hei (by simp[hei,qbo hae]) (by simp)
  have hi:i=its.toArray.size:=by simp;lia
  subst hi
  refine W.done s _ _ ⟨st.1,st.2,p⟩ λh' tk kk=>⟨rfl,I.turns (fp:=[e,it]) hf kk⟩
 self:=λ_ _ _ _ _ st h=>let ⟨⟨_,he⟩,_⟩:=st;qdr he h
end L2
namespace L2
open PySem PySem.Spec PyProof.Rows
section
variable {X:Cx}
def xv (K:qac) (ta:TA):TI:=λσ H R=>ta σ H λvs H1=>∃ a,vs=[.ref a]/\(∃ xs,SqL K H1 a xs)/\R (Ite λH xs=>SqL K H a xs) H1
theorem tY {elts:List Expr}{k:Nat}{tpos:Pos}{a:Expr}{ta:TA}{p pos:Pos} (hg:Gl X "enumerate") (hm:X.mg "enumerate" = none) (ha:PA X [a] ta) (hs:qbg [a] X.env=[(false,eval a X.env)]:=by rfl) :
  PI X (.Tuple elts k tpos) (.Call (.Name "enumerate" p) [a] [] pos) (xv X.K ta):=by
 intro pins s σ H R I h
 refine Call_ (jI I hg hm qhO (qbL (thn (ha pos pins s σ H _ I h) λus s1 ⟨vs,H1,I1,r1,q1⟩=>?_) hs rfl))
 obtain⟨l,e,⟨xs,hq⟩,q⟩:=q1
 subst e
 cases r1 with
 |cons r rr=>
  cases rr
  cases r
  obtain⟨its,rv,p',hz⟩:=I1.list hq
  refine call_enumerate_list p'.isList λh' he hit hsz hk=>qdr he ?_
  have hlt:l<s1.heap.objs.size:=by obtain⟨_,_,e,_⟩:=p';exact qax e
  refine⟨_,[s1.heap.objs.size+1,s1.heap.objs.size],_,_,H1,rfl,I1.kept (t':=s1.toks) hk,qt l s1.heap.objs.size (s1.heap.objs.size+1) (qf8 _) (qaP (qbk hlt)) (qaP hlt),⟨⟨_,he⟩,hit⟩,λb hb=>?_,q⟩
  have hb':s1.heap.objs.size<=b:=by
   rcases qaH.mp hb with e|hb
   ·rw[e];exact qdl _
   ·rw[qaj.mp hb];exact qal _
  exact I1.fpOk hb' (I1.hok.fresh hb')
def wR (K:qac) (ta:TA):TI:=λσ H R=>ta σ H λvs H1=>∃ a,vs=[.ref a]/\(∃ xs,SqT K H1 a xs)/\R (Ite λH xs=>SqT K H a xs) H1
theorem uy {elts:List Expr}{k:Nat}{tpos:Pos}{a:Expr}{ta:TA}{p pos:Pos} (hg:Gl X "enumerate") (hm:X.mg "enumerate" = none) (ha:PA X [a] ta) (hs:qbg [a] X.env=[(false,eval a X.env)]:=by rfl) :
  PI X (.Tuple elts k tpos) (.Call (.Name "enumerate" p) [a] [] pos) (wR X.K ta):=by
 intro pins s σ H R I h
 refine Call_ (jI I hg hm qhO (qbL (thn (ha pos pins s σ H _ I h) λus s1 ⟨vs,H1,I1,r1,q1⟩=>?_) hs rfl))
 obtain⟨l,e,⟨xs,hq⟩,q⟩:=q1
 subst e
 cases r1 with
 |cons r rr=>
  cases rr
  cases r
  obtain⟨its,rv,p',hz⟩:=I1.tuple hq
  refine hZ p' λh' he hit hsz hk=>qdr he ?_
  have hlt:l<s1.heap.objs.size:=by obtain⟨_,e,_⟩:=p';exact qax e
  refine⟨_,[s1.heap.objs.size+1,s1.heap.objs.size],_,_,H1,rfl,I1.kept (t':=s1.toks) hk,qw l s1.heap.objs.size (s1.heap.objs.size+1) (qf8 _) (qaP (qbk hlt)) (qaP hlt),⟨⟨_,he⟩,hit⟩,λb hb=>?_,q⟩
  have hb':s1.heap.objs.size<=b:=by
   rcases qaH.mp hb with e|hb
   ·rw[e];exact qdl _
   ·rw[qaj.mp hb];exact qal _
  exact I1.fpOk hb' (I1.hok.fresh hb')
theorem tK:di X (.builtin "all") (λxs H Q=>X.calm=true/\∃ (a:Addr) (bs:List Bool),xs=[.ref a]/\SqL X.K H a (bs.map V.bl)/\Q (.bl (bs.all id)) H):=by
 intro pins s σ H xs us Q I rv h
 obtain⟨hc,a,bs,rfl,hq,q⟩:=h
 cases rv with
 |cons r rr=>
  cases rr
  cases r
  obtain⟨its,rv,p,hz⟩:=I.list hq
  have hlt:a<s.heap.objs.size:=by obtain⟨_,_,e,_⟩:=p;exact qax e
  have hlen:its.length=bs.length:=by have:=rv.length;simpa using this.symm
  refine call_all_walk (qeC p.isList ?_)
  refine⟨s.heap.objs.size,_,_,_,_,_,λi=>(bs[i]?).getD true,rfl,Walks.list (A:=X.A.in1) (I.ok.hd hc) s.heap.objs.size a (qaP hlt) its.toArray,⟨⟨_,qaA _ rfl,rfl,rfl⟩,p.isList.push _⟩,?_,λh' tk hk=>?_⟩
  ·intro i v s' Q' E' hv hQ'
   have hv':its[i]?=some v:=by simpa using hv
   have hi:i<its.length:=(qan.mp hv').1
   obtain⟨b,hb⟩:∃ b,bs[i]?=some b:=⟨bs[i]'(by lia),by simp[show i<bs.length by lia]⟩
   have:(bs.map V.bl)[i]?=some (.bl b):=by rw[qaI,hb];rfl
   obtain⟨u,hu,ru⟩:=rv.get this
   rw[hv']at hu
   cases hu
   cases ru
   have hQ2:Q' ((bs[i]?).getD true) s':=hQ'
   rw[hb]at hQ2
   exact qeB hQ2
  ·refine⟨.bl (bs.all id),H,I.kept (t':=tk) (λb o e=>hk b o (λz=>absurd (qax e) (by rw[qaj.mp z];exact qaR _)) (qai _ e)),?_,q⟩
   show Value.bool _=Value.bool _
   congr 1
   have:∀ n,n=bs.length->((qag n).all λi=>(bs[i]?).getD true)=bs.all id:=by
    intro n hn
    rw[qcY,qaY,qaY]
    constructor
    ·intro h b hb
     obtain⟨i,hi,e⟩:=qdC.mp hb
     have:=h i (qaB.mpr (by lia))
     simp[hi,e]at this
     exact this
    ·intro h i hi
     have hi':=qaB.mp hi
     have hlt':i<bs.length:=by lia
     simp[hlt']
     exact h _ (qf0 _)
   exact this _ (by simpa using hlen)
end
def gf (k:Nat) (js:List Nat) (σ:St):St:=qav k none++js.map λj=>(σ[j]?).getD none
def yX (scope:Scope) (ns:List (Str×qbP)) (N Nc:List Str) (k:Nat) (js:List Nat):Bool:=
 decide ((scope.names.map (·.1)).Nodup)&&decide Nc.Nodup&&decide (Nc.length=k+js.length) &&
 (scope.names.all λx=>x.2 != .free||ns.lookup x.1==some .cell||ns.lookup x.1==some .free) &&
 ((qag js.length).all λi=>match Nc[k+i]?,js[i]? with|some x,some j=>N[j]?==some x&&scope.names.lookup x==some .free|_,_=>false)
theorem dO {X:Cx}{scope:Scope} (ns:List (Str×qbP)) (N Nc:List Str) (k:Nat) (js:List Nat) (hns:X.env.scope.names=ns) (hN:X.N=N) (hk:scope.kind=.function) (h:yX scope ns N Nc k js=true):eZ X scope Nc (gf k js):=by
 unfold yX at h
 simp only[qaV,decide_eq_true_eq]at h
 obtain⟨⟨⟨⟨h1,h2⟩,h3⟩,h4⟩,h5⟩:=h
 refine⟨hk,h1,h2,λx hx hf=>?_,λσ _=>?_,λσ _ i x v e1 e2=>?_⟩
 ·have:=qaY.mp h4 x hx
  rw[hf]at this
  simp only[qgc,beq_iff_eq,bne_self_eq_false,qbK,false_or]at this
  unfold Env.kindOf
  rw[hns]
  exact this
 ·unfold gf
  rw[qau,qca,qam,h3]
 ·unfold gf at e2
  by_cases hi:i<k
  ·rw[qaC (by simpa using hi),qcD,if_pos hi]at e2
   cases e2
  ·rw[qaJ (by simpa using hi),qca,qaI]at e2
   cases ej:js[i - k]? with
   |none=>rw[ej]at e2;cases e2
   |some j=>
    rw[ej]at e2
    have hlt:=(qan.mp ej).1
    have:=qaY.mp h5 (i - k) (qaB.mpr hlt)
    rw[show k+(i - k)=i by lia,e1,ej]at this
    simp only[qaV,beq_iff_eq]at this
    refine⟨j,by rw[hN];exact this.1,?_,this.2⟩
    have e3:(σ[j]?).getD none=some v:=qaS e2
    cases eq:σ[j]? with
    |none=>rw[eq]at e3;cases e3
    |some o=>rw[eq]at e3;rw[show o=some v from e3]
section
variable {σe tl:St}{tt:TT}{te:TE}{H:Hp}{Q:VK}
end
section
variable {X:Cx}
theorem vj:OpR X (qbu .Mult) (rI qfC λi j=>.int (i*j)):=opI λ_ _ _ _ _ _ _ hc q=>mul_int q hc
end
theorem aY.new {H:Hp}{p:Addr} (h:H p=none) (o:HO):aY H (upd H p o):=λb u q=>by rw[upd_ne (aE q h)];exact q
theorem nF {n:Nat} (h:n<=1000):n<=qaM:=qen (rS h)
theorem p18:pU 10 18:=⟨by decide,by decide,by decide⟩
end L2
namespace L2
open PySem PySem.Spec PyProof.Rows
open PySem.AutoSeq1 (wpAny_loadPart')
theorem td (l:Addr) (items:Array Value) (n:Nat) (dct:Option Addr) (sl:Array (Option Value)) (u:Tok) :
  Meets (qgo.«tuple.__mul__» ⟨[.ref l,.int 1 u],[]⟩) (λ_ R s=>s.heap.get? l=some { cls:=.type "tuple",dict:=dct,data:=.seq items n,slots:=sl }/\R (.ok (.ret (.ref l))) s):=
 .of_wp λprog w A R s h=>by
  obtain⟨hp,g,d,tk,os⟩:=s;obtain⟨hl,h⟩:=h
  wp_walk using wpAny_loadPart' hl
  exact⟨_,rfl,h⟩
theorem sv (l:Addr) (items:Array Value) (n:Nat) (dct:Option Addr) (sl:Array (Option Value)) (x:Int) (u:Tok) (h2:2<=x) (h3:x<1000) (he:items.isEmpty=false) (hz:items.size<=1000)
  (hsz:((qav x.toNat items).foldl (λx1 x2=>x1++x2) #[]).size<=qaM) :
  Meets (qgo.«tuple.__mul__» ⟨[.ref l,.int x u],[]⟩) (λ_ R s=>s.heap.get? l=some { cls:=.type "tuple",dict:=dct,data:=.seq items n,slots:=sl }/\
   R (.ok (.ret (.ref s.heap.objs.size))) { s with heap:=s.heap.push { cls:=.type "tuple",data:=.seq ((qav x.toNat items).foldl (λx1 x2=>x1++x2) #[]) } }):=
 .of_wp λprog w A R s h=>by
  obtain⟨hp,g,d,tk,os⟩:=s;obtain⟨hl,h⟩:=h
  have c1:(x < -(2^63)||x>=2^63)=false:=by simp;lia
  have c2:(items.isEmpty||x==1)=false:=by rw[he];simp;lia
  have c3:(x<=0||items.isEmpty)=false:=by rw[he];simp;lia
  have hpr:(items.size:Int)*x<=1000000:=by
   have a1:(items.size:Int)*x<=1000*x:=qbp (by lia) (by lia)
   lia
  have c4:¬ ((items.size:Int)*x > (2^63 - 1) / 8):=by lia
  have c5:qdM ((items.size:Int)*x)=false:=by
   unfold qdM
   exact decide_eq_false (by have:(qaM:Nat)=16777216:=rfl
                             lia)
  wp_walk using wpAny_loadPart' hl
  refine qdP (decide_eq_false (by rw[c1];exact qaF)) ?_
  wp_walk using wpAny_loadPart' hl
  refine qdP (decide_eq_false (by rw[c2];exact qaF)) ?_
  wp_walk using wpAny_loadPart' hl
  refine qdP (decide_eq_false (by rw[c3];exact qaF)) ?_
  wp_walk using wpAny_loadPart' hl
  refine qdP (decide_eq_false c4) ?_
  wp_walk using wpAny_loadPart' hl
  exact⟨_,rfl,h⟩
theorem jB:fillsNumberSlot (.type "tuple") "mul" = pure false:=
 PySem.fillsNumberSlot_seq (id:="tuple.__mul__") (r:=some (.builtin "tuple.__rmul__")) qdt.lookup (by decide +kernel) qgk.lookup (by decide +kernel)
theorem mX:seqRepeat? (.type "tuple")=pure (some (.builtin "tuple.__mul__")):=by
 unfold seqRepeat?
 rw[qfH (T:="tuple") (name:="__mul__") (id:="tuple.__mul__") qdt.lookup (by decide +kernel),qfH (T:="tuple") (name:="__rmul__") (id:="tuple.__rmul__") qgk.lookup (by decide +kernel)]
 rfl
theorem kK (a:Int) (t:Tok) (l:Addr) (items:Array Value) (n:Nat) (dct:Option Addr) (sl:Array (Option Value)) :
  Meets (qgo.«int.__rmul__» ⟨[.int a t,.ref l],[]⟩) (λ_ R s=>s.heap.get? l=some { cls:=.type "tuple",dict:=dct,data:=.seq items n,slots:=sl }/\R (.ok (.ret Value.notImplemented)) s):=
 .of_wp λprog w A R s h=>by obtain⟨hp,g,d,tk,os⟩:=s;obtain⟨hl,h⟩:=h;wp_walk using wpAny_loadPart' hl;exact⟨_,rfl,h⟩
section
variable {X:Cx}
def yL (K:qac):R2:=λx y H Q=>∃ l k xs,x=.ref l/\y=.int k/\SqT K H l xs/\xs≠[]/\xs.length<=1000/\1<=k/\k<1000/\(k=1->Q (.ref l) H)/\
 (k≠1->∀ p,H p=none->Q (.ref p) (upd H p (.tup (qav k.toNat xs).flatten)))
theorem uU:OpR X (qbu .Mult) (yL X.K):=by
 intro pins s σ H x y v u Q I rx ry h
 obtain⟨l,k,xs,rfl,rfl,hq,hne,hl1,h1,h2,q1,q2⟩:=h
 cases rx
 obtain⟨t,rfl⟩:=ry
 obtain⟨its,rv,p,hz⟩:=I.tuple hq
 obtain⟨⟨c,dct,dt,sl⟩,e,hc,n,hd⟩:=p
 replace hc:c=.type "tuple":=hc
 replace hd:dt=.seq its.toArray n:=hd
 subst hc hd
 have hlen:=rv.length
 refine qfb (T:="tuple") (U:="int") (by decide) ⟨_,e,rfl⟩ (λs'=>qeD s' k t) jB qgJ qdG mX qgu.lookup
  (qcT qdG (qeD s k t) qgw (qgn _ _) (kK k t l its.toArray n dct sl) ⟨e,rfl,⟨_,e,rfl⟩,?_⟩)
 by_cases hk:k=1
 ·subst hk
  exact qcT qdt ⟨_,e,rfl⟩ qgl (qgb _ _) (td l its.toArray n dct sl t) ⟨e,.ref l,H,I,rfl,q1 rfl⟩
 ·have f0:qeT (λx1 x2=>x1++x2) #[] (qav k.toNat its.toArray)=(qav k.toNat its).flatten.toArray:=by
   have:=jE its k.toNat []
   rw[qb9]at this
   exact this
  have hsz:(qav k.toNat xs).flatten.length<=qaM:=by
   rw[mG]
   have:k.toNat*xs.length<=1000*1000:=qcN (by lia) hl1
   have hs:qaM=16777216:=rfl
   lia
  have hsz2:(qav k.toNat its).flatten.length<=qaM:=by
   rw[mG]at hsz ⊢
   rw[<-hlen];exact hsz
  refine qcT qdt ⟨_,e,rfl⟩ qgl (qgb _ _) (sv l its.toArray n dct sl k t (by lia) h2 ?_ (by rw[qat];lia) (by rw[f0,qat];exact hsz2)) ⟨e,?_⟩
  ·cases its with
   |nil=>cases xs with
    |nil=>exact absurd rfl hne
    |cons _ _=>cases hlen
   |cons _ _=>rfl
  ·rw[f0]
   refine⟨.ref _,_,I.laid (t':=s.toks) (o:=.tup (qav k.toNat xs).flatten) (λ_ _ q=>qai _ q) (qal _) ⟨hsz,(qav k.toNat its).flatten,rv.rep k.toNat,⟨_,qaA _ rfl,rfl,⟨0,rfl⟩,rfl⟩⟩,rfl,q2 hk _ I.fresh⟩
end
end L2
namespace L2
open PySem PySem.Spec PyProof.Rows
section
variable {X:Cx}{K:qac}
theorem y4 (hc:X.calm=true:=by rfl) (hK:X.K=K:=by rfl):di X (.builtin "all") (λxs H Q=>∃ (a:Addr) (bs:List Bool),xs=[.ref a]/\SqL K H a (bs.map V.bl)/\Q (.bl (bs.all id)) H):=by
 subst hK
 intro pins s σ H xs us Q I rv h
 exact tK pins s σ H xs us Q I rv ⟨hc,h⟩
end
section
variable {X:Cx}
end
theorem ef {n j:Nat} (h:j<n):ixN n (j:Int)=some j:=by
 unfold ixN
 rw[if_pos (by lia),if_pos (by lia),qch]
section
variable {X:Cx}{e:Expr}{ty:TE}{p1 p2 p3 p4 dpos apos cpos:Pos}{j1 j2 j3 j4:Nat}
end
end L2
namespace L2
open PySem PySem.Spec PyProof.Rows
open PySem.AutoSeq1 (wpAny_loadPart')
section
variable {prog:qa0}{w:World}{A:qbb}{E:Value->qak->Prop}{s:qak}
end
section
variable {X:Cx}
theorem vE:di X (.type "range") (λxs H Q=>∃ j:Int,xs=[.int j]/\∀ p,H p=none->Q (.ref p) (upd H p (.rng 0 j))):=by
 intro pins s σ H xs us Q I rv h
 obtain⟨j,rfl,q⟩:=h
 cases rv with
 |cons r rr=>
  cases rr
  obtain⟨t,rfl⟩:=r
  exact call_range_1 ⟨.ref _,_,I.laid (o:=.rng 0 j) (λ_ _ q=>qai _ q) (qal _) ⟨_,_,_,qaA _ rfl⟩,rfl,q _ I.fresh⟩
end
section
variable {prog:qa0}{w:World}{A:qbb}{E:Value->qak->Prop}{s:qak}
end
section
variable {X:Cx}{e:Expr}{te:TE}{p1 p2 p3 pos:Pos}{j:Nat}
end
end L2
namespace L2
open PySem PySem.Spec PyProof.Rows
theorem aJ.at {xs:List V}{us:List Value} (r:aJ xs us):∀ (j:Nat) (h:j<us.length) ,∃ h':j<xs.length,bo xs[j] us[j]:=by
 induction r with
 |nil=>intro j h;exact absurd h (qdx j)
 |cons a t ih=>
  intro j h
  cases j with
  |zero=>exact⟨Nat.zero_lt_succ _,a⟩
  |succ j=>
   obtain⟨h1,r1⟩:=ih j (Nat.lt_of_succ_lt_succ h)
   exact⟨Nat.succ_lt_succ h1,r1⟩
theorem lF (e:Nat->Bool) (n:Nat):(qag (n+1)).all e=(e 0&&(qag n).all λj=>e (j+1)):=by
 rw[qb5,qbx,qgH];rfl
section
variable {X:Cx}{K:qac}{pins:List (Addr×Obj)}{σ:St}{H:Hp}{s:qak}{A:qbb}{a b:Addr}{xs ys:List V}
end
section
variable {X:Cx}{pos p1 p2:Pos}{j1 j2:Nat}
end
section
variable {K:qac}{H:Hp}
end
section
variable {X:Cx}{K:qac}
end
end L2
namespace HT
open PySem PySem.Spec PyProof.Rows L2
section
variable {prog:qa0}{w:World}{A:qbb}{E:Value->qak->Prop}{s:qak}
theorem getItem_tuple_all {t sl:Addr}{items:Array Value}{vl vu:Value}{lo hi:Option Int}{Q:Value->qak->Prop} (ht:IsTup s.heap t items) (hs:s.heap.IsSliceOf sl vl vu .none) (pl:qeL vl lo) (pu:qeL vu hi)
  (hw:sIx items.size 0 lo=0/\sIx items.size items.size hi=items.size) (h:Q (.ref t) s):wpAny (model prog w) A (qe0 (.ref t) (.ref sl)) Q E s:=by
 obtain⟨os,hos,hcs,hds⟩:=id hs
 have hTs:s.TypeIs (.ref sl) "slice":=⟨os,hos,hcs⟩
 unfold qe0
 try with_reducible refine qc1 ?_
 first|refine qaf (qaw ?_)|skip
 refine qaf (qgz ht.typeIs (by decide) ?_)
 refine qaf (qbO (name:=qc7 "__getitem__") ht.typeIs qbl
  (qcx qbl ht.typeIs qgf ?_ (qgq _ _)))
 show wpAny _ _ (qdN (.ref t) >>= _) _ _ s
 refine qaf (tupleItemsOf_ ht ?_)
 refine qaf (qfN hTs ?_)
 rw[if_pos (by decide)]
 refine qaf (gj hs pl pu ?_)
 have hyes:(((sIx items.size 0 lo:Nat):Int)==0&&(1:Int)==1&&(sIx items.size items.size hi - sIx items.size 0 lo)==items.size)=true:=by
  rw[hw.1,hw.2]
  simp
 show wpAny _ _ (if (((sIx items.size 0 lo:Nat):Int)==0&&(1:Int)==1&&(sIx items.size items.size hi - sIx items.size 0 lo)==items.size)=true then _ else _) _ _ s
 rw[if_pos hyes]
 unfold qgL
 refine qaf (qaf (qfN ht.typeIs (qaw ?_)))
 show wpAny _ _ (if ((Value.type "tuple")==(Value.type "tuple"))=true then _ else _) _ _ s
 rw[if_pos (beq_self_eq_true _)]
 first
  |exact qaf (qdq (qaw ⟨_,rfl,qaw h⟩))
  |exact qaf (qaf (qdq (qaw (qaw ⟨_,rfl,qaw h⟩))))
  |exact qaf (qdq (qaf (qaw (qaw ⟨_,rfl,qaw h⟩))))
  |exact qaf (qdq (qaf (qaw ⟨_,rfl,qaw h⟩)))
end
end HT
namespace L2
open PySem PySem.Spec PyProof.Rows
def yN (K:qac):V->Option Int->Option Int->Hp->VK->Prop:=λx lo hi H Q=>∃ a xs,x=.ref a/\SqT K H a xs/\
 ((¬ (HT.sIx xs.length 0 lo=0/\HT.sIx xs.length xs.length hi=xs.length)/\∀ p,H p=none->Q (.ref p) (upd H p (.tup (nr xs lo hi))))\/
   ((HT.sIx xs.length 0 lo=0/\HT.sIx xs.length xs.length hi=xs.length)/\Q (.ref a) H))
theorem xW {X:Cx}{K:qac} (hK:X.K=K:=by rfl):SlR X (yN K):=by
 subst hK
 intro pins s σ H x v vl vu lo hi sl Q I rx hs pl pu h
 obtain⟨a,xs,rfl,hx,h⟩:=h
 rcases h with⟨hw,q⟩|⟨hw,q⟩
 ·exact yb pins s σ H _ v vl vu lo hi sl Q I rx hs pl pu ⟨a,xs,rfl,hx,hw,q⟩
 ·cases rx
  obtain⟨its,r,ht,hz⟩:=I.tuple hx
  have hlen:its.toArray.size=xs.length:=by rw[qat];exact r.length.symm
  refine⟨"tuple",_,qbl.lookup,ht.typeIs,?_⟩
  exact HT.getItem_tuple_all ht hs pl pu (by rw[hlen];exact hw) ⟨.ref a,H,I,rfl,q⟩
section
variable {X:Cx}{scope:Scope}{Nc:List Str}{emb:St->St}{elt iter tg:Expr}{ifs:List Expr}{pos:Pos}{wi:TI}{g:TG}{tt:TT}{te:TE}
theorem wt {i0:Nat}{x0:Str}{py spos:Pos} (hN0:X.N.Nodup) (hi0:X.N[i0]?=some x0) (hx0:Loc X.env.scope x0) (S:eZ X scope Nc emb) (hc:X.calm=true) (hi:PI X tg iter wi)
  (hg:∀ cells s H C fp,PG (lcX X scope cells Nc s H C fp) tg g) (ht:∀ cells s H C fp,PTs (lcX X scope cells Nc s H C fp) ifs tt) (he:∀ cells s H C fp,PE (lcX X scope cells Nc s H C fp) elt te)
  (hsw:qcw (.ListComp elt [⟨tg,iter,ifs,0⟩] scope pos) (some (.Name x0 py)) spos.line X.env=pure true:=by rfl)
  (hf0:X.fn x0=true\/X.env.scope.names.lookup x0=some .local:=by first|exact .inl rfl|exact .inr rfl|assumption)
  (hs:∀ x,qb3 iter X.env x=pure x:=by intro _;rfl):PS X (.Assign [.Name x0 py] (.ListComp elt [⟨tg,iter,ifs,0⟩] scope pos) spos) (wP (tLc emb wi g tt te) (mt i0)):=by
 intro pins s σ H DD I h
 rw[exec_Assign_Name_used _ _ _ _ hsw]
 refine qaf (qer (qaf ?_))
 show wpAny _ X.A (do let _ <-comprehension (.ListComp elt [⟨tg,iter,ifs,0⟩] scope pos) scope X.env _ (newList []) false (eval iter X.env) (some (qd9 (.Name x0 py) X.env))) _ _ s
 refine qaf (qcF (qfh (use:=some (qd9 (.Name x0 py) X.env)) (Q:=λ_ s'=>SP X pins DD .next s') rfl hs (iE (S.clos I.ok)) S.kind (λx hx hl=>eU S.nd (by rw[<-hl];exact hx)) ?_) (λ_ s' hq=>qaw (qaw hq)) λ_ _ e=>e)
 refine thn (hi pins s σ H _ I h) λv s1 h1=>thn h1 λitv s2 h2=>?_
 obtain⟨it,fp,tn,J,H2,e,I2,T,st2,f2,W,⟨m0,w0⟩,turn⟩:=h2
 subst e
 refine qbS (i9 ?_)
 rw[show (s2.heap.push { cls:=.type "list",dict:=none,data:=.seq ([]:List Value).toArray }).objs.size=s2.heap.objs.size+1 from qbd ..]
 generalize hD:s2.heap.objs.size=D
 generalize hlo:({ cls:=.type "list",dict:=none,data:=.seq ([]:List Value).toArray }:Obj)=lo
 have fplt:∀ b∈fp,b<s2.heap.objs.size:=λb hb=>by obtain⟨o,e,_⟩:=T.obj _ _ st2 b hb;exact qax e
 have I3:=pb (lo:=lo) S I2 f2 (λb hb=>by obtain⟨o,e,_⟩:=T.obj _ _ st2 b hb;exact⟨o,e⟩) (by rw[<-hlo];intro v z;cases z) (by rw[<-hlo];rfl)
 rw[hD]at I3
 generalize hcells:qbE (D+2) scope.names (bL X.env.cells scope.names [])=cells at I3
 generalize hX':lcX X scope cells Nc s2 H2 (D+1) fp=X' at I3
 have hfpX:∀ {H':Hp}{ps:List (Addr×Obj)},(∀ b∈fp,H' b=none)->(∀ p∈ps,p.1=D)->∀ b∈fp,iB X' ps H' b:=λ{H' ps} hn hps b hb=>by
  have ok:=I3.ok
  refine⟨hn b hb,?_,?_,.inl (by rw[<-hX'];exact hb),?_,λp hp=>?_⟩
  ·exact (ok.exf b (by rw[<-hX'];exact hb)).1
  ·exact ok.exfs b (by rw[<-hX'];exact hb)
  ·exact (ok.exf b (by rw[<-hX'];exact hb)).2
  ·have hp':p∈([]:List (Addr×Obj))++ps:=by rw[<-hX']at hp;exact hp
   have e:p.1=D:=hps p (by simpa using hp')
   rw[e,<-hD]
   exact qb0 (fplt b hb)
 have Dex:D∈X'.ex\/X'.s₀.heap.objs.size<=D:=.inr (by rw[<-hX',<-hD];exact qal _)
 have Dloc:D≠X'.env.locals:=by rw[<-hX'];exact qaP (qby _)
 have pD:=I3.pin (D,lo) (by rw[<-hX'];exact qap _ qae)
 have Dfs:D∉X'.fs:=pD.2.2.2.1
 have Dcell:∀ x c,X'.env.cells.lookup x=some c->c≠D:=λx c hc' e=>by
  obtain⟨v,o,ho,hd⟩:=I3.cell x c hc'
  rw[e,pD.1]at ho
  cases ho
  exact pD.2.2.2.2 v hd
 -- the loop
 have loop:∀ s3:qak,s3={ s2 with heap:=qdR ((s2.heap.push lo).push { cls:=.type "dict",data:=.dict #[] }) scope.names }->
   qec (model X.prog X.w) X.A (.compLoop (.ListComp elt [⟨tg,iter,ifs,0⟩] scope pos) 0 (.ref it) (.ref D) (qfs scope cells (D+1) X.env))
    (compPost (model X.prog X.w) X.A X.xe (some (qd9 (.Name x0 py) X.env)) (λ_ s'=>SP X pins DD .next s') (.ref D) (D+1)) s3:=by
  rintro s3 rfl
  refine eB (λn s'=>∃ i ys its k H',Inv X' [(D,{ cls:=.type "list",data:=.seq its.toArray k })] (emb σ) H' s'/\aJ ys its/\tn i s'.heap/\(∀ b∈fp,H' b=none)/\ys.length<=qaM/\W i n ys H') ?_ m0
   ⟨0,[],[],0,H2,?_,.nil,?_,λb hb=>(f2 b hb).1,qcL _,w0⟩
  ·rintro n s4 ⟨i,ys,its,k,H4,I4,rv,st4,fr4,hlen,w4⟩
   have hps:∀ p∈[(D,({ cls:=.type "list",data:=.seq its.toArray k }:Obj))],p.1=D:=λp hp=>by
    have:=qaj.mp hp
    rw[this]
   rcases turn i n ys H4 w4 with⟨stop,qn⟩|⟨go,hlt,N,hN,step⟩
   ·-- the end
    have TD:=T.done X' (by rw[<-hX'];rfl) (by rw[<-hX'];rfl) (by rw[<-hX'];rfl) (by rw[<-hX'];exact hc) i _ s4 (emb σ) H4 (λ_ _=>False) I4 (hfpX fr4 hps) st4 stop
    rw[show X'.A=X.A by rw[<-hX'];rfl]at TD
    refine thn TD λr s5 ⟨hr,I5⟩=>?_
    subst hr
    obtain⟨m5,hn5,_⟩:=id I5.loc
    have eC:X'.env.locals=D+1:=by rw[<-hX'];rfl
    rw[eC]at hn5
    suffices inv5:∀ h',qc6 (D+1) s5.heap h'->Inv X pins σ (upd H4 D (.lst ys)) { s5 with heap:=h' } by
     have I5X:Inv X pins σ (upd H4 D (.lst ys)) s5:=inv5 s5.heap ⟨rfl,λ_ _=>rfl⟩
     have hD4':H4 D=none:=(I5.pin (D,{ cls:=.type "list",data:=.seq its.toArray k }) (by rw[<-hX'];exact qap _ qae)).2.1
     have hC4:upd H4 D (.lst ys) (D+1)=none:=by
      have:=I5.free
      rw[eC]at this
      rw[upd_ne (qb0 (qby D))]
      exact this
     have fpC:∀ b∈[D+1],iB X pins (upd H4 D (.lst ys)) b:=λb hb=>by
      have e:=qaj.mp hb
      subst e
      exact I2.fpOk (by rw[hD];exact qdl D) hC4
     obtain⟨oC,esC,epC,getC,datC,relC⟩:=id hn5
     have I5p:=I5X.pinned fpC λb hb=>by
      have e:=qaj.mp hb
      subst e
      exact⟨oC,getC,λv z=>by rw[datC]at z;cases z⟩
     refine qgA (lu I5p hN0 hi0 hx0 (v:=.ref D) rfl (λs6 I6=>?_) hf0)
     have pC:=(I6.pin (D+1,oC) (qap _ (qap _ (cZ qae getC)))).1
     refine⟨m5,⟨oC,esC,epC,pC,datC,relC⟩,λh' hsb=>?_⟩
     have I6u:=I6.unpinned
     exact⟨_,_,I6u.turns (t':=s6.toks) fpC (λb o hb e=>(hsb.2 b (λz=>hb (by rw[z];exact qae))).trans e),qn D hD4'⟩
    intro h' hsb
    have pD5:=I5.pin (D,{ cls:=.type "list",data:=.seq its.toArray k }) (by rw[<-hX'];exact qap _ qae)
    have neC:∀ b u,H4 b=some u->b≠D+1:=λb u e z=>by
     have:=I5.free
     rw[eC,<-z,e]at this
     cases this
    have hD4:H4 D=none:=pD5.2.1
    have un:=I5.base
    have un':Un (frs X.stack) fp H2 H4 s2.heap s5.heap:=by rw[<-hX']at un;exact un
    have old_ne:∀ b o,s2.heap.get? b=some o->b≠D/\b≠D+1:=λb o e=>by
     have q:=qax e
     rw[hD]at q
     exact⟨qaP q,qaP (qbk q)⟩
    have h2D:H2 D=none:=by rw[<-hD];exact I2.fresh
    have hok':HOk X.prog X.w H4 h':=λb u e=>by
     have ob:dN X.prog X.w H4 s5.heap b u:=by have:=I5.hok b u e;rw[<-hX']at this;exact this
     refine ob.stay (λc v hcv q=>(hsb.2 c ?_).trans q) (λ_ q=>q) λ_ _ q=>q
     rcases hcv with z|z
     ·rw[z];exact neC b u e
     ·exact neC c _ z
    have hokD:HOk X.prog X.w (upd H4 D (.lst ys)) h':=λb u e=>by
     by_cases hb:b=D
     ·subst hb
      rw[upd_same]at e
      cases e
      exact⟨hlen,its,k,rv,(hsb.2 b (qaP (qby _))).trans pD5.1⟩
     ·rw[upd_ne hb]at e
      refine (hok' b u e).stay (λ_ _ _ q=>q) (λc q=>?_) λc z q=>?_
      all_goals first
       |(rw[upd_ne (aE q hD4)];exact q)
       |(rw[upd_ne (aE z hD4)];exact z)
    refine I2.call' (s':={ s5 with heap:=h' }) (ch:=fp) ?_ ⟨λb o e nb hb hx=>?_,λb o e nb hb hx=>?_,λb o e nb hx=>?_,λb o e hx=>?_,λb xs e=>?_,λb o u e=>?_,λb ps e=>?_⟩ hokD I5.bare (λb hb=>?_)
    ·have:=I5.os
     rw[<-hX']at this
     exact this
    ·exact (hsb.2 b (old_ne b o e).2).trans (un'.keep b o e nb hb hx)
    ·obtain⟨sl,q⟩:=un'.slot b o e nb hb hx
     exact⟨sl,(hsb.2 b (old_ne b o e).2).trans q⟩
    ·rw[upd_ne (old_ne b o e).1]
     exact un'.free b o e nb hx
    ·obtain⟨o',q⟩:=un'.there b o e hx
     exact⟨o',(hsb.2 b (old_ne b o e).2).trans q⟩
    ·rw[upd_ne (aE e h2D)]
     exact un'.tups b xs e
    ·rw[upd_ne (aE e h2D)]
     exact un'.frzs b o u e
    ·obtain⟨m,q⟩:=un'.tbls b ps e
     exact⟨m,by rw[upd_ne (aE e h2D)];exact q⟩
    ·obtain⟨q0,q1,q2,q3,q4,q5⟩:=f2 b hb
     exact⟨q3,q1,q4,q5⟩
   ·-- a turn
    have hA:X'.A=X.A:=by rw[<-hX'];rfl
    have hP:X'.prog=X.prog:=by rw[<-hX'];rfl
    have hw:X'.w=X.w:=by rw[<-hX'];rfl
    have hE:X'.env=qfs scope cells (D+1) X.env:=by rw[<-hX'];rfl
    have hxe:X'.xe=λ_ _=>False:=by rw[<-hX'];rfl
    have TI':=T.item X' hP hw (by rw[<-hX'];rfl) (by rw[<-hX'];exact hc) i _ s4 (emb σ) H4 (λ_ _=>False) I4 (hfpX fr4 hps) st4 go
    rw[hA]at TI'
    refine thn TI' λr s5 ⟨u,hr,h5⟩=>?_
    subst hr
    refine thn h5 λ_ s6 ⟨x,H6,I6,r6,y6,st6,fr6⟩=>?_
    have I6':=I6.pinned (hfpX fr6 hps) (T.obj _ _ st6)
    have G:=hg cells s2 H2 (D+1) fp
    have TT':=ht cells s2 H2 (D+1) fp
    have EE:=he cells s2 H2 (D+1) fp
    rw[hX']at G TT' EE
    have G':=G _ s6 (emb σ) H6 x u _ I6' r6 (step x H6 y6)
    rw[hA,hP,hw,hE,hxe]at G'
    refine thn G' λ_ s7 ⟨σ7,H7,I7,sb7,q7⟩=>?_
    have T':=TT' _ s7 σ7 H7 _ I7 q7
    rw[hA,hP,hw,hE,hxe]at T'
    refine thn T' λok s8 ⟨H8,I8,q8⟩=>?_
    -- what is pinned
    have pin_fp:∀ {σ9:St}{H9:Hp}{s9:qak},Inv X' ([(D,({ cls:=.type "list",data:=.seq its.toArray k }:Obj))]++jp fp s6.heap) σ9 H9 s9->tn (i+1) s9.heap/\∀ b∈fp,H9 b=none:=λ{σ9 H9 s9} I9=>
     ⟨T.keep _ _ _ st6 λb hb o e=>(I9.pin (b,o) (qap _ (qap _ (cZ hb e)))).1,λb hb=>by
      obtain⟨o,e,_⟩:=T.obj _ _ st6 b hb
      exact (I9.pin (b,o) (qap _ (qap _ (cZ hb e)))).2.1⟩
    cases ok with
    |false=>
     rw[if_neg (by decide)]at q8
     rw[if_neg (by decide)]
     obtain⟨m',hm,w8⟩:=hN _ _ q8
     exact⟨m',hm,i+1,ys,its,k,H8,I8.unpinned.weak sb7.1 sb7.2,rv,(pin_fp I8).1,(pin_fp I8).2,hlen,w8⟩
    |true=>
     rw[if_pos rfl]at q8
     rw[if_pos rfl]
     have E':=EE _ s8 σ7 H8 _ I8 q8
     rw[hA,hP,hw,hE,hxe]at E'
     refine thn E' λy s9 ⟨v9,H9,I9,r9,n9⟩=>?_
     obtain⟨m',hm,w9⟩:=hN _ _ n9
     have pD9:=I9.pin (D,{ cls:=.type "list",data:=.seq its.toArray k }) (qap _ (qaU _ qae))
     have hl:=rv.length
     have I9n:Inv X' [] σ7 H9 s9:=I9.pins_of λp hp=>nomatch hp
     refine qcT qei ⟨_,pD9.1,rfl⟩ qd5 (qdZ _ _) (qd3 D its.toArray k y (by rw[qat];lia)) ⟨pD9.1,?_⟩
     have up:∃ k':Nat,(s9.heap.update D (qcK λxs=>xs.push y)).get? D=some { cls:=.type "list",data:=.seq (its++[y]).toArray k' }:=by
      have q:=qdV pD9.1 (λxs:Array Value=>xs.push y)
      simp only[qfJ]at q
      exact⟨_,q⟩
     obtain⟨k',up⟩:=up
     have hoth:∀ b o,b≠D->s9.heap.get? b=some o->(s9.heap.update D (qcK λxs=>xs.push y)).get? b=some o:=λb o hb e=>(qcH s9.heap _ (qbo hb)).trans e
     have I10:=I9n.turned (t':=s9.toks) hoth pD9.2.1 Dloc Dex Dcell (λp hp=>absurd (show p∈([]:List (Addr×Obj)) by rw[<-hX']at hp;exact hp) (by simp))
     refine⟨m',hm,i+1,ys++[v9],its++[y],k',H9,(I10.weak sb7.1 sb7.2).pins_of (λp hp=>?_),rv.append (.cons r9 .nil),T.keep _ _ _ (pin_fp I9).1 (λb hb o e=>hoth b o (by rw[<-hD];exact qaP (fplt b hb)) e),(pin_fp I9).2,?_,w9⟩
     ·have:=qaj.mp hp
      subst this
      exact⟨up,pD9.2.1,Dloc,Dfs,λv z=>by cases z⟩
     ·rw[qau,qbT]
      lia
  ·have q:lo={ cls:=.type "list",data:=.seq ([]:List Value).toArray 0 }:=hlo.symm
   rw[<-q]
   exact I3
  ·exact T.keep _ _ _ st2 λb hb o e=>qcj _ _ b o (qai _ (qai _ e))
 refine qfG ?_ ?_
 ·exact loop _ rfl
 ·refine T.self X.A 0 _ _ _ (T.keep _ _ _ st2 λb hb o e=>qcj _ _ b o (qai _ (qai _ e))) ?_
  exact loop _ rfl
end
def aB:Expr->Bool
 |.Starred _ _=>false
 |_=>true
theorem aZ {e:Expr}{es:List Expr}{env:Env} (h:aB e=true):qbg (e::es) env=(false,eval e env)::qbg es env:=by
 cases e<;>first|(cases h;done)|rfl
theorem bQ {pos:Pos}{env:Env}:∀ {es:List Expr},es.all aB=true->(qdA pos (qbg es env)).any (·.1)=false
 |[],_=>by simp[qbg,qdA]
 |e::es,h=>by
  rw[qbx,qaV]at h
  rw[aZ h.1]
  have:=bQ (pos:=pos) (env:=env) h.2
  unfold qdA at this ⊢
  rw[qay,qcU,this]
  rfl
theorem oE {pos:Pos}{env:Env}{es:List Expr} (h:es.all aB=true) (hl:es.length < 30):((qdA pos (qbg es env)).all (λx=>!x.1) && (qgp pos (qeZ [] env)).all (λx=>x.1.isSome)
   && decide (es.length+([]:List qgj).length+(if ([]:List qgj).isEmpty then 0 else 1)<30))=true:=by
 have h1:(qdA pos (qbg es env)).all (λx=>!x.1)=true:=by
  have:=bQ (pos:=pos) (env:=env) h
  rw[qaY]
  intro x hx
  rw[qfK]at this
  simpa using this x hx
 have h2:(qgp pos (qeZ [] env)).all (λx=>x.1.isSome)=true:=by simp[qeZ,qgp]
 rw[h1,h2]
 simpa using hl
theorem gW {e:Expr}{env:Env} (h:aB e=true):qbg [e] env=[(false,eval e env)]:=by rw[aZ h];rfl
theorem uB {e e2:Expr}{env:Env} (h:aB e=true) (h2:aB e2=true):qbg [e,e2] env=[(false,eval e env),(false,eval e2 env)]:=by rw[aZ h,gW h2]
def tR:Expr->Bool
 |.UnaryOp .Not _ _=>false
 |.BoolOp _ _ _=>false
 |.IfExp _ _ _ _=>false
 |.Compare _ _ _ _=>false
 |_=>true
theorem rK {a:Expr}{env:Env} (h:tR a=true):∀ whole,PySem.isTrue a env whole=(do let v <-whole;qhE a.pos;qeE [v] (truthy v)):=by
 intro whole
 cases a with
 |UnaryOp op x p=>cases op<;>first|(cases h;done)|rfl
 |BoolOp _ _ _=>cases h
 |IfExp _ _ _ _=>cases h
 |Compare _ _ _ _=>cases h
 |_=>rfl
theorem lz {t:Expr}{ts:List Expr}{env:Env} (h:aB t=true):qbt (t::ts) env=(false,qd9 t env)::qbt ts env:=by
 cases t<;>first|(cases h;done)|rfl
theorem kt {env:Env}:∀ {ts:List Expr},ts.all aB=true->(qbt ts env).length=ts.length
 |[],_=>by simp[qbt]
 |t::ts,h=>by
  rw[qbx,qaV]at h
  rw[lz h.1,qaq,kt h.2,qaq]
theorem jn {env:Env}:∀ {ts:List Expr},ts.all aB=true->(qbt ts env).findIdx? (·.1)=none
 |[],_=>by simp[qbt]
 |t::ts,h=>by
  rw[qbx,qaV]at h
  rw[lz h.1,List.findIdx?_cons,jn h.2]
  rfl
theorem kA {t:Expr}{ts:List Expr}{env:Env} (h:aB t=true):(qbt (t::ts) env).map (·.2)=qd9 t env::(qbt ts env).map (·.2):=by rw[lz h];rfl
theorem kF {t:Expr}{env:Env} (h:aB t=true):(qbt [t] env).map (·.2)=[qd9 t env]:=by rw[kA h];simp[qbt]
def mO:Expr->Bool
 |.Slice _ _ _ _=>false
 |_=>true
theorem mx {o i:Expr}{pos:Pos}{env:Env} (h:mO i=true) (v:Value):qd9 (.Subscript o i pos) env v=(do
   let ov <-qeE [v] (eval o env)
   let iv <-qeE [v,ov] (eval i env)
   qhE pos
   qeE [v,ov,iv] (setItem ov iv v)
   release [v,ov,iv] []):=by
 cases i<;>first|(cases h;done)|rfl
theorem nY {i:Expr} (h:mO i=true):qP i:=by
 intro o j
 cases i<;>first|(cases h;done)|rfl
inductive D where
 |non|bl (b:Bool)|int (i:Int)|str (x:Str)|ty (n:String)|dct|scr (ns:List Int)|tup (ds:List D)|lst (ds:List D)|ob (ns:List Str) (ds:List D)
 deriving Inhabited
inductive W where
 |d (x:D)|h (n:Nat)
 deriving Inhabited
inductive C where
 |l (ds:List D)|n (ws:List W)|m (kvs:List (List Int×D))|k (kvs:List (Int×D))|o (fs:List (Str×W))
 deriving Inhabited
abbrev Sto:=List C
def lg (st:Sto) (n:Nat):Option (List D):=match st[n]? with
 |some (.l ds)=>some ds
 |_=>none
def zB (l:List Int):List Key:=l.map Sum.inl
abbrev Ev:=List (Option W)
def KLs (K:qac) (a:Addr) (xs:List V):Prop:=
 ∃ (o:Obj) (its:Array Value) (n:Nat),K.lookup a=some o/\o.cls=.type "list"/\o.dict=none/\o.data=.seq its n/\its.size<=qaM/\aJ xs its.toList
section
variable (K:qac) (H:Hp) (φ:List Addr)
mutual
def Rl:D->V->Prop
 |.non,v=>v=.non
 |.bl b,v=>v=.bl b
 |.int i,v=>v=.int i
 |.str x,v=>v=.str x
 |.ty n,v=>v=.ty n
 |.dct,v=>∃ a,v=.ref a/\a∉φ/\((∃ d,H a=some (.dK d))\/∃ d,H a=some (.dT d))
 |.scr ns,v=>∃ a,v=.ref a/\((∃ o,H a=some (.frz o (.lst (ns.map V.int))))\/KLs K a (ns.map V.int))
 |.tup ds,v=>∃ a vs,v=.ref a/\H a=some (.tup vs)/\Rls ds vs
 |.lst ds,v=>∃ a vs,v=.ref a/\a∉φ/\Rd H a (.lst vs)/\Rls ds vs
 |.ob ns ds,v=>∃ a Cl dx fs vs,v=.ref a/\a∉φ/\H a=some (.ins Cl dx fs)/\fs=ns.zip vs/\ns.length=vs.length/\5<ns.length/\Cls K Cl/\(∀ f∈ns,cR K Cl f)/\Rls ds vs
def Rls:List D->List V->Prop
 |[],vs=>vs=[]
 |d::ds,vs=>∃ v r,vs=v::r/\Rl d v/\Rls ds r
end
def Rw:W->V->Prop
 |.d x,v=>Rl K H φ x v
 |.h n,v=>∃ a,φ[n]?=some a/\v=.ref a
def Rws:List W->List V->Prop
 |[],vs=>vs=[]
 |d::ds,vs=>∃ v r,vs=v::r/\Rw K H φ d v/\Rws ds r
def Rkv:List (List Int×D)->List (List Key×V)->Prop
 |[],vs=>vs=[]
 |(k,d)::ds,vs=>∃ v r,vs=(zB k,v)::r/\Rl K H φ d v/\Rkv ds r
def Rkk:List (Int×D)->List (Key×V)->Prop
 |[],vs=>vs=[]
 |(k,d)::ds,vs=>∃ v r,vs=(Sum.inl k,v)::r/\Rl K H φ d v/\Rkk ds r
def Rfs:List (Str×W)->List (Str×V)->Prop
 |[],vs=>vs=[]
 |(k,d)::ds,vs=>∃ v r,vs=(k,v)::r/\Rw K H φ d v/\Rfs ds r
def Rc (k:Nat) (a:Addr):C->Prop
 |.l ds=>∃ vs,H a=some (.lst vs)/\Rls K H φ ds vs
 |.n ws=>∃ vs,H a=some (.lst vs)/\Rws K H φ ws vs/\∀ m,W.h m∈ws->m<k
 |.m kvs=>∃ vs,H a=some (.dT vs)/\Rkv K H φ kvs vs
 |.k kvs=>∃ vs,H a=some (.dK vs)/\Rkk K H φ kvs vs
 |.o fs=>∃ Cl dx vs,H a=some (.ins Cl dx vs)/\Rfs K H φ fs vs/\(∀ m,W.h m∈fs.map (·.2)->m<k)/\Cls K Cl/\∀ p∈fs,cR K Cl p.1
structure Sr (st:Sto):Prop where
 nd:φ.Nodup
 len:φ.length=st.length
 at_:∀ (n:Nat) a c,φ[n]?=some a->st[n]?=some c->Rc K H φ n a c
structure Er (env:Ev) (σ:St):Prop where
 len:env.length=σ.length
 at_:∀ (i:Nat) w,env[i]?=some (some w)->∃ v,σ[i]?=some (some v)/\Rw K H φ w v
end
structure Fw (φ φ':List Addr) (H H':Hp):Prop where
 ext:∃ ψ,φ'=φ++ψ/\∀ a∈ψ,H a=none
 keep:∀ b o,b∉φ->H b=some o->H' b=some o
 there:∀ b o,H b=some o->∃ o',H' b=some o'
section
variable {K:qac}{H H1 H2 H':Hp}{φ φ1 φ2 φ':List Addr}{st st':Sto}
theorem Fw.refl (φ:List Addr) (H:Hp):Fw φ φ H H:=⟨⟨[],by simp,by simp⟩,λ_ _ _ h=>h,λ_ o h=>⟨o,h⟩⟩
theorem Fw.trans (a:Fw φ φ1 H H1) (b:Fw φ1 φ2 H1 H2):Fw φ φ2 H H2:=by
 obtain⟨ψ,rfl,e1⟩:=a.ext
 obtain⟨ψ2,rfl,e2⟩:=b.ext
 refine⟨⟨ψ++ψ2,by rw[qbA],λc hc=>?_⟩,λc o hc h=>?_,λc o h=>?_⟩
 ·rcases qaQ.mp hc with z|z
  ·exact e1 c z
  ·cases q:H c with
   |none=>rfl
   |some o=>
    obtain⟨o',q'⟩:=a.there c o q
    rw[e2 c z]at q';cases q'
 ·refine b.keep c o (λz=>?_) (a.keep c o hc h)
  rcases qaQ.mp z with z|z
  ·exact hc z
  ·rw[e1 c z]at h;cases h
 ·obtain⟨o',q⟩:=a.there c o h
  exact b.there c o' q
theorem Fw.same (s:aY H H'):Fw φ φ H H':=⟨⟨[],by simp,by simp⟩,λb o _ h=>s b o h,λb o h=>⟨o,s b o h⟩⟩
theorem Fw.new {p:Addr}{o:HO} (hp:H p=none):Fw φ φ H (upd H p o):=.same (aY.new hp o)
theorem Fw.get (f:Fw φ φ' H H') {n:Nat}{a:Addr} (h:φ[n]?=some a):φ'[n]?=some a:=by
 obtain⟨ψ,rfl,_⟩:=f.ext
 rw[qaC (qan.mp h).1];exact h
theorem Fw.nin (f:Fw φ φ' H H') {a:Addr}{o:HO} (h:a∉φ) (q:H a=some o):a∉φ':=by
 obtain⟨ψ,rfl,e⟩:=f.ext
 intro z
 rcases qaQ.mp z with z|z
 ·exact h z
 ·rw[e a z]at q;cases q
def yA:HO->Bool
 |.lst _=>true
 |.dT _=>true
 |.dK _=>true
 |.ins _ _ _=>true
 |_=>false
theorem Rc.ob {k:Nat}{a:Addr}{c:C} (h:Rc K H φ k a c):∃ o,H a=some o/\yA o=true:=by
 cases c with
 |l ds=>obtain⟨vs,q,_⟩:=h;exact⟨_,q,rfl⟩
 |n ds=>obtain⟨vs,q,_⟩:=h;exact⟨_,q,rfl⟩
 |m ds=>obtain⟨vs,q,_⟩:=h;exact⟨_,q,rfl⟩
 |k ds=>obtain⟨vs,q,_⟩:=h;exact⟨_,q,rfl⟩
 |o ds=>obtain⟨_,_,vs,q,_⟩:=h;exact⟨_,q,rfl⟩
theorem Sr.lst (S:Sr K H φ st) {a:Addr} (h:a∈φ):∃ o,H a=some o/\yA o=true:=by
 obtain⟨n,hn,e⟩:=qdC.mp h
 have hs:n<st.length:=by rw[<-S.len];exact hn
 exact (S.at_ n a st[n] (by rw[qaW hn,e]) (by rw[qaW hs])).ob
theorem rz {st:Sto}{n:Nat}{ds:List D} (h:lg st n=some ds):st[n]?=some (.l ds):=by
 unfold lg at h
 split at h
 ·rename_i q;cases h;exact q
 ·cases h
theorem Sr.atl (S:Sr K H φ st) (n:Nat) (a:Addr) (ds:List D) (e1:φ[n]?=some a) (e2:lg st n=some ds):∃ vs,H a=some (.lst vs)/\Rls K H φ ds vs:=S.at_ n a _ e1 (rz e2)
theorem Sr.nin (S:Sr K H φ st) {a:Addr} (h:H a=none):a∉φ:=λz=>by
 obtain⟨vs,q,_⟩:=S.lst z
 rw[q]at h;cases h
theorem Rd.nin (S:Sr K H φ st) {a:Addr}{vs:List V} (h:Rd H a (.tup vs)):a∉φ:=λz=>by
 obtain⟨ws,q,qm⟩:=S.lst z
 rcases h with h|⟨o,h⟩<;>(rw[q]at h;cases h;cases qm)
theorem Rd.fw (f:Fw φ φ' H H') {a:Addr}{u:HO} (hn:a∉φ) (h:Rd H a u):Rd H' a u:=by
 rcases h with h|⟨o,h⟩
 ·exact .inl (f.keep _ _ hn h)
 ·exact .inr ⟨o,f.keep _ _ hn h⟩
theorem SqT.fw (S:Sr K H φ st) (f:Fw φ φ' H H') {a:Addr}{vs:List V} (h:SqT K H a vs):SqT K H' a vs:=by
 rcases h with h|h
 ·exact .inl (f.keep _ _ (Rd.nin S (.inl h)) h)
 ·exact .inr h
theorem Rd.some {a:Addr}{u:HO} (h:Rd H a u):∃ o,H a=some o:=by
 rcases h with h|⟨o,h⟩
 ·exact⟨_,h⟩
 ·exact⟨_,h⟩
mutual
theorem Rl.fw (S:Sr K H φ st) (f:Fw φ φ' H H'):∀ {d:D}{v:V},Rl K H φ d v->Rl K H' φ' d v
 |.non,_,h=>h
 |.bl _,_,h=>h
 |.int _,_,h=>h
 |.str _,_,h=>h
 |.ty _,_,h=>h
 |.dct,_,h=>by
  obtain⟨a,rfl,hn,h⟩:=h
  rcases h with⟨d,h⟩|⟨d,h⟩
  ·exact⟨a,rfl,f.nin hn h,.inl ⟨d,f.keep _ _ hn h⟩⟩
  ·exact⟨a,rfl,f.nin hn h,.inr ⟨d,f.keep _ _ hn h⟩⟩
 |.scr ns,_,h=>by
  obtain⟨a,rfl,h⟩:=h
  refine⟨a,rfl,?_⟩
  rcases h with⟨o,h⟩|h
  ·refine .inl ⟨o,f.keep _ _ (λz=>?_) h⟩
   obtain⟨ws,q,qm⟩:=S.lst z
   rw[q]at h;cases h;cases qm
  ·exact .inr h
 |.tup ds,_,h=>by
  obtain⟨a,vs,rfl,h1,h2⟩:=h
  exact⟨a,vs,rfl,f.keep _ _ (Rd.nin S (.inl h1)) h1,Rls.fw S f h2⟩
 |.lst ds,_,h=>by
  obtain⟨a,vs,rfl,h0,h1,h2⟩:=h
  obtain⟨o,e⟩:=h1.some
  exact⟨a,vs,rfl,f.nin h0 e,h1.fw f h0,Rls.fw S f h2⟩
 |.ob ns ds,_,h=>by
  obtain⟨a,Cl,dx,fs,vs,rfl,h0,h1,h2,h3,h4,h5,h7,h6⟩:=h
  exact⟨a,Cl,dx,fs,vs,rfl,f.nin h0 h1,f.keep _ _ h0 h1,h2,h3,h4,h5,h7,Rls.fw S f h6⟩
theorem Rls.fw (S:Sr K H φ st) (f:Fw φ φ' H H'):∀ {ds:List D}{vs:List V},Rls K H φ ds vs->Rls K H' φ' ds vs
 |[],_,h=>h
 |d::ds,_,h=>by
  obtain⟨v,r,rfl,h1,h2⟩:=h
  exact⟨v,r,rfl,Rl.fw S f h1,Rls.fw S f h2⟩
end
theorem Rw.fw (S:Sr K H φ st) (f:Fw φ φ' H H') {w:W}{v:V} (h:Rw K H φ w v):Rw K H' φ' w v:=by
 cases w with
 |d x=>exact Rl.fw S f h
 |h n=>obtain⟨a,e,rfl⟩:=h;exact⟨a,f.get e,rfl⟩
theorem Rws.fw (S:Sr K H φ st) (f:Fw φ φ' H H'):∀ {ws:List W}{vs:List V},Rws K H φ ws vs->Rws K H' φ' ws vs
 |[],_,h=>h
 |d::ds,_,h=>by
  obtain⟨v,r,rfl,h1,h2⟩:=h
  exact⟨v,r,rfl,h1.fw S f,Rws.fw S f h2⟩
theorem Er.fw (S:Sr K H φ st) (f:Fw φ φ' H H') {env:Ev}{σ:St} (h:Er K H φ env σ):Er K H' φ' env σ:=
 ⟨h.len,λi w e=>let ⟨v,e1,r⟩:=h.at_ i w e;⟨v,e1,r.fw S f⟩⟩
theorem Rkv.fw (S:Sr K H φ st) (f:Fw φ φ' H H'):∀ {ds:List (List Int×D)}{vs:List (List Key×V)},Rkv K H φ ds vs->Rkv K H' φ' ds vs
 |[],_,h=>h
 |(k,d)::ds,_,h=>by
  obtain⟨v,r,rfl,h1,h2⟩:=h
  exact⟨v,r,rfl,Rl.fw S f h1,Rkv.fw S f h2⟩
theorem Rkk.fw (S:Sr K H φ st) (f:Fw φ φ' H H'):∀ {ds:List (Int×D)}{vs:List (Key×V)},Rkk K H φ ds vs->Rkk K H' φ' ds vs
 |[],_,h=>h
 |(k,d)::ds,_,h=>by
  obtain⟨v,r,rfl,h1,h2⟩:=h
  exact⟨v,r,rfl,Rl.fw S f h1,Rkk.fw S f h2⟩
theorem Rfs.fw (S:Sr K H φ st) (f:Fw φ φ' H H'):∀ {ds:List (Str×W)}{vs:List (Str×V)},Rfs K H φ ds vs->Rfs K H' φ' ds vs
 |[],_,h=>h
 |(k,d)::ds,_,h=>by
  obtain⟨v,r,rfl,h1,h2⟩:=h
  exact⟨v,r,rfl,h1.fw S f,Rfs.fw S f h2⟩
theorem Rc.fw (S:Sr K H φ st) (f:Fw φ φ' H H') {k:Nat}{a:Addr}{c:C} (e:∀ o,H a=some o->H' a=some o) (h:Rc K H φ k a c):Rc K H' φ' k a c:=by
 cases c with
 |l ds=>obtain⟨vs,q,r⟩:=h;exact⟨vs,e _ q,r.fw S f⟩
 |n ds=>obtain⟨vs,q,r,b⟩:=h;exact⟨vs,e _ q,r.fw S f,b⟩
 |m ds=>obtain⟨vs,q,r⟩:=h;exact⟨vs,e _ q,r.fw S f⟩
 |k ds=>obtain⟨vs,q,r⟩:=h;exact⟨vs,e _ q,r.fw S f⟩
 |o ds=>obtain⟨Cl,dx,vs,q,r,b⟩:=h;exact⟨Cl,dx,vs,e _ q,r.fw S f,b⟩
theorem Sr.same (S:Sr K H φ st) (s:aY H H'):Sr K H' φ st:=
 ⟨S.nd,S.len,λn a c e1 e2=>(S.at_ n a c e1 e2).fw S (Fw.same s) λo h=>s _ _ h⟩
theorem Sr.new (S:Sr K H φ st) {p:Addr}{o:HO} (hp:H p=none):Sr K (upd H p o) φ st:=S.same (aY.new hp o)
theorem Rls.length:∀ {ds:List D}{vs:List V},Rls K H φ ds vs->ds.length=vs.length
 |[],_,h=>by cases h;rfl
 |d::ds,_,h=>by
  obtain⟨v,r,rfl,h1,h2⟩:=h
  rw[qaq,qaq,Rls.length h2]
theorem Rws.length:∀ {ds:List W}{vs:List V},Rws K H φ ds vs->ds.length=vs.length
 |[],_,h=>by cases h;rfl
 |d::ds,_,h=>by
  obtain⟨v,r,rfl,h1,h2⟩:=h
  rw[qaq,qaq,Rws.length h2]
theorem Rls.append:∀ {ds es:List D}{vs us:List V},Rls K H φ ds vs->Rls K H φ es us->Rls K H φ (ds++es) (vs++us)
 |[],_,_,_,h,h'=>by cases h;exact h'
 |d::ds,_,_,_,h,h'=>by
  obtain⟨v,r,rfl,h1,h2⟩:=h
  exact⟨v,r++_,rfl,h1,Rls.append h2 h'⟩
theorem Rls.get:∀ {ds:List D}{vs:List V},Rls K H φ ds vs->∀ {i:Nat}{d:D},ds[i]?=some d->∃ v,vs[i]?=some v/\Rl K H φ d v
 |[],_,h,i,d,e=>by simp at e
 |d::ds,_,h,i,e,q=>by
  obtain⟨v,r,rfl,h1,h2⟩:=h
  cases i with
  |zero=>simp at q;subst q;exact⟨v,rfl,h1⟩
  |succ i=>simpa using Rls.get h2 (i:=i) (d:=e) (by simpa using q)
theorem Rls.take:∀ {ds:List D}{vs:List V} (n:Nat),Rls K H φ ds vs->Rls K H φ (ds.take n) (vs.take n)
 |_,_,0,_=>by rw[qgh,qgh];exact rfl
 |[],_,n+1,h=>by cases h;exact rfl
 |d::ds,_,n+1,h=>by
  obtain⟨v,r,rfl,h1,h2⟩:=h
  exact⟨v,_,rfl,h1,Rls.take n h2⟩
theorem Rls.drop:∀ {ds:List D}{vs:List V} (n:Nat),Rls K H φ ds vs->Rls K H φ (ds.drop n) (vs.drop n)
 |_,_,0,h=>h
 |[],_,n+1,h=>by cases h;exact rfl
 |d::ds,_,n+1,h=>by
  obtain⟨v,r,rfl,h1,h2⟩:=h
  exact Rls.drop n h2
theorem Rls.set:∀ {ds:List D}{vs:List V} (n:Nat) {d:D}{v:V},Rls K H φ ds vs->Rl K H φ d v->Rls K H φ (ds.set n d) (vs.set n v)
 |[],_,_,_,_,h,_=>by cases h;exact rfl
 |e::ds,_,0,d,v,h,hd=>by
  obtain⟨u,r,rfl,h1,h2⟩:=h
  exact⟨v,r,rfl,hd,h2⟩
 |e::ds,_,n+1,d,v,h,hd=>by
  obtain⟨u,r,rfl,h1,h2⟩:=h
  exact⟨u,_,rfl,h1,Rls.set n h2 hd⟩
theorem Rls.rep {ds:List D}{vs:List V} (h:Rls K H φ ds vs):∀ k:Nat,Rls K H φ (qav k ds).flatten (qav k vs).flatten
 |0=>rfl
 |k+1=>by rw[qa8,qa8,qcg,qcg];exact h.append (Rls.rep h k)
theorem Rls.ints:∀ {ns:List Int}{vs:List V},Rls K H φ (ns.map D.int) vs->vs=ns.map V.int
 |[],_,h=>h
 |n::ns,_,h=>by
  obtain⟨v,r,rfl,h1,h2⟩:=h
  rw[show v=.int n from h1,Rls.ints h2];rfl
theorem Rls.bools:∀ {ns:List Bool}{vs:List V},Rls K H φ (ns.map D.bl) vs->vs=ns.map V.bl
 |[],_,h=>h
 |n::ns,_,h=>by
  obtain⟨v,r,rfl,h1,h2⟩:=h
  rw[show v=.bl n from h1,Rls.bools h2];rfl
theorem Rls.of_ints:∀ (ns:List Int),Rls K H φ (ns.map D.int) (ns.map V.int)
 |[]=>rfl
 |n::ns=>⟨_,_,rfl,rfl,Rls.of_ints ns⟩
theorem Rl.less {ψ:List Addr}:∀ {d:D}{v:V},Rl K H (φ++ψ) d v->Rl K H φ d v:=by
 intro d v
 refine (?_:∀ v,Rl K H (φ++ψ) d v->Rl K H φ d v) v
 refine D.rec (motive_1:=λd=>∀ v,Rl K H (φ++ψ) d v->Rl K H φ d v) (motive_2:=λds=>∀ vs,Rls K H (φ++ψ) ds vs->Rls K H φ ds vs) ?_ ?_ ?_ ?_ ?_ ?_ ?_ ?_ ?_ ?_ ?_ ?_ d
 ·exact λv h=>h
 ·exact λb v h=>h
 ·exact λb v h=>h
 ·exact λb v h=>h
 ·exact λb v h=>h
 ·rintro v ⟨a,e,hn,h⟩;exact⟨a,e,λz=>hn (qaU _ z),h⟩
 ·exact λns v h=>h
 ·rintro ds ih v ⟨a,vs,rfl,h1,h2⟩;exact⟨a,vs,rfl,h1,ih vs h2⟩
 ·rintro ds ih v ⟨a,vs,rfl,h0,h1,h2⟩;exact⟨a,vs,rfl,λz=>h0 (qaU _ z),h1,ih vs h2⟩
 ·rintro ns ds ih v ⟨a,Cl,dx,fs,vs,rfl,h0,h1,h2,h3,h4,h5,h7,h6⟩;exact⟨a,Cl,dx,fs,vs,rfl,λz=>h0 (qaU _ z),h1,h2,h3,h4,h5,h7,ih vs h6⟩
 ·exact λvs h=>h
 ·rintro d ds ih1 ih2 vs ⟨v,r,rfl,h1,h2⟩;exact⟨v,r,rfl,ih1 v h1,ih2 r h2⟩
theorem Rls.less {ψ:List Addr}:∀ {ds:List D}{vs:List V},Rls K H (φ++ψ) ds vs->Rls K H φ ds vs
 |[],_,h=>h
 |d::ds,_,h=>by
  obtain⟨v,r,rfl,h1,h2⟩:=h
  exact⟨v,r,rfl,Rl.less h1,Rls.less h2⟩
theorem Rkv.less {ψ:List Addr}:∀ {ds:List (List Int×D)}{vs:List (List Key×V)},Rkv K H (φ++ψ) ds vs->Rkv K H φ ds vs
 |[],_,h=>h
 |(k,d)::ds,_,h=>by
  obtain⟨v,r,rfl,h1,h2⟩:=h
  exact⟨v,r,rfl,Rl.less h1,Rkv.less h2⟩
theorem Rkk.less {ψ:List Addr}:∀ {ds:List (Int×D)}{vs:List (Key×V)},Rkk K H (φ++ψ) ds vs->Rkk K H φ ds vs
 |[],_,h=>h
 |(k,d)::ds,_,h=>by
  obtain⟨v,r,rfl,h1,h2⟩:=h
  exact⟨v,r,rfl,Rl.less h1,Rkk.less h2⟩
theorem Rws.less {ψ:List Addr}:∀ {ds:List W}{vs:List V},(∀ m,W.h m∈ds->m<φ.length)->Rws K H (φ++ψ) ds vs->Rws K H φ ds vs
 |[],_,_,h=>h
 |d::ds,_,hm,h=>by
  obtain⟨v,r,rfl,h1,h2⟩:=h
  refine⟨v,r,rfl,?_,Rws.less (λm z=>hm m (qah _ z)) h2⟩
  cases d with
  |d x=>exact Rl.less h1
  |h m=>
   obtain⟨a,e,rfl⟩:=h1
   rw[qaC (hm m qae)]at e
   exact⟨a,e,rfl⟩
theorem Rfs.less {ψ:List Addr}:∀ {ds:List (Str×W)}{vs:List (Str×V)},(∀ m,W.h m∈ds.map (·.2)->m<φ.length)->Rfs K H (φ++ψ) ds vs->Rfs K H φ ds vs
 |[],_,_,h=>h
 |(k,d)::ds,_,hm,h=>by
  obtain⟨v,r,rfl,h1,h2⟩:=h
  refine⟨v,r,rfl,?_,Rfs.less (λm z=>hm m (qah _ z)) h2⟩
  cases d with
  |d x=>exact Rl.less h1
  |h m=>
   obtain⟨a,e,rfl⟩:=h1
   rw[qaC (hm m qae)]at e
   exact⟨a,e,rfl⟩
theorem Rc.less {ψ:List Addr}{k:Nat}{a:Addr}{c:C} (hk:k<φ.length) (h:Rc K H (φ++ψ) k a c):Rc K H φ k a c:=by
 cases c with
 |l ds=>obtain⟨vs,q,r⟩:=h;exact⟨vs,q,r.less⟩
 |n ds=>obtain⟨vs,q,r,b⟩:=h;exact⟨vs,q,r.less λm z=>qem (b m z) hk,b⟩
 |m ds=>obtain⟨vs,q,r⟩:=h;exact⟨vs,q,r.less⟩
 |k ds=>obtain⟨vs,q,r⟩:=h;exact⟨vs,q,r.less⟩
 |o ds=>obtain⟨Cl,dx,vs,q,r,b,c⟩:=h;exact⟨Cl,dx,vs,q,r.less λm z=>qem (b m z) hk,b,c⟩
theorem Sr.less {ψ:List Addr} (S:Sr K H (φ++ψ) st):Sr K H φ (st.take φ.length):=by
 have hl:=S.len
 rw[qau]at hl
 refine⟨(qcf.mp S.nd).1,by rw[qdm];lia,λn a ds e1 e2=>?_⟩
 have hn:=(qan.mp e1).1
 rw[qeS hn]at e2
 exact (S.at_ n a ds (by rw[qaC hn];exact e1) e2).less hn
end
end L2
namespace L2
open PySem PySem.Spec PyProof.Rows
abbrev Ef:=Ev->Sto->Option (W×Sto)
abbrev Af:=Ev->Sto->Option (List W×Sto)
abbrev Tf:=Ev->Sto->Option (Bool×Sto)
abbrev Lf:=Ev->Sto->Option (List D×Sto)
abbrev Fn:=List W->Sto->Option (W×Sto)
section
variable (K:qac)
def tI (env:Ev) (st:Sto) (r:W×Sto):TE:=λσ H Q=>∃ φ,Er K H φ env σ/\Sr K H φ st/\∀ v H' φ',Fw φ φ' H H'->Sr K H' φ' r.2->Rw K H' φ' r.1 v->Q v H'
def tIA (env:Ev) (st:Sto) (r:List W×Sto):TA:=λσ H Q=>∃ φ,Er K H φ env σ/\Sr K H φ st/\∀ vs H' φ',Fw φ φ' H H'->Sr K H' φ' r.2->Rws K H' φ' r.1 vs->Q vs H'
def tIT (env:Ev) (st:Sto) (r:Bool×Sto):TT:=λσ H Q=>∃ φ,Er K H φ env σ/\Sr K H φ st/\∀ H' φ',Fw φ φ' H H'->Sr K H' φ' r.2->Q r.1 H'
def tIL (env:Ev) (st:Sto) (r:List D×Sto):TE:=λσ H Q=>∃ φ,Er K H φ env σ/\Sr K H φ st/\∀ a vs H1 φ',Fw φ φ' H H1->Sr K H1 φ' r.2->H1 a=none->Rls K H1 φ' r.1 vs->Q (.ref a) (upd H1 a (.lst vs))
structure IE (X:Cx) (e:Expr) (f:Ef):Prop where
 run:∀ env st r,f env st=some r->PE X e (tI K env st r)
structure IA (X:Cx) (es:List Expr) (f:Af):Prop where
 run:∀ env st r,f env st=some r->PA X es (tIA K env st r)
structure IT (X:Cx) (e:Expr) (f:Tf):Prop where
 run:∀ env st r,f env st=some r->PT X e (tIT K env st r)
structure ITW (X:Cx) (e:Expr) (f:Tf):Prop where
 run:∀ env st r,f env st=some r->PW X e (tIT K env st r)
structure IL (X:Cx) (e:Expr) (f:Lf):Prop where
 run:∀ env st r,f env st=some r->PE X e (tIL K env st r)
def rD (st:Sto) (x y:W) (d:D):R2:=λvx vy H Q=>∃ φ,Sr K H φ st/\Rw K H φ x vx/\Rw K H φ y vy/\∀ v H',aY H H'->Rl K H' φ d v->Q v H'
structure OpD (X:Cx) (f:Value->Value->Sem Value) (g:Sto->W->W->Option D):Prop where
 run:∀ st x y d,g st x y=some d->OpR X f (rD K st x y d)
def rCD (st:Sto) (ws:List W) (d:D):List V->Hp->VK->Prop:=λvs H Q=>∃ φ,Sr K H φ st/\Rws K H φ ws vs/\∀ v H',aY H H'->Rl K H' φ d v->Q v H'
structure jX (X:Cx) (f:Value) (g:Sto->List W->Option D):Prop where
 run:∀ st ws d,g st ws=some d->di X f (rCD K st ws d)
def rCL (st:Sto) (ws:List W) (ds:List D):List V->Hp->VK->Prop:=λvs H Q=>∃ φ,Sr K H φ st/\Rws K H φ ws vs/\∀ a us H1,aY H H1->H1 a=none->Rls K H1 φ ds us->Q (.ref a) (upd H1 a (.lst us))
structure wp (X:Cx) (f:Value) (g:Sto->List W->Option (List D)):Prop where
 run:∀ st ws d,g st ws=some d->di X f (rCL K st ws d)
end
def iV (i:Nat):Ef
 |env,st=>(env.getD i none).map λw=>(w,st)
def iC (d:D):Ef
 |_,st=>some (.d d,st)
def iOp (g:Sto->W->W->Option D) (a b:Ef):Ef
 |env,st=>(a env st).bind λx=>(b env x.2).bind λy=>(g y.2 x.1 y.1).map λd=>(.d d,y.2)
def nV:D->Option Bool
 |.bl b=>some b
 |_=>none
def bm (g:Sto->W->W->Option D) (a b:Ef):Tf
 |env,st=>(a env st).bind λx=>(b env x.2).bind λy=>(g y.2 x.1 y.1).bind λd=>(nV d).map λk=>(k,y.2)
def iUn (g:W->Option D) (a:Ef):Ef
 |env,st=>(a env st).bind λx=>(g x.1).map λd=>(.d d,x.2)
def j0 (c:Tf) (a b:Ef):Ef
 |env,st=>(c env st).bind λr=>if r.1=true then a env r.2 else b env r.2
def n6 (c:Tf):Tf
 |env,st=>(c env st).map λr=>(!r.1,r.2)
def iL (a b:Tf):Tf
 |env,st=>(a env st).bind λr=>if r.1=true then b env r.2 else some (false,r.2)
def pH (a b:Tf):Tf
 |env,st=>(a env st).bind λr=>if r.1=true then some (true,r.2) else b env r.2
def fE (g:Sto->W->Option Bool) (a:Ef):Tf
 |env,st=>(a env st).bind λx=>(g x.2 x.1).map λk=>(k,x.2)
def ak:Af
 |_,st=>some ([],st)
def aa (a:Ef) (r:Af):Af
 |env,st=>(a env st).bind λx=>(r env x.2).map λy=>(x.1::y.1,y.2)
def iCB (g:Sto->List W->Option D) (a:Af):Ef
 |env,st=>(a env st).bind λr=>(g r.2 r.1).map λd=>(.d d,r.2)
def iCL (g:Sto->List W->Option (List D)) (a:Af):Lf
 |env,st=>(a env st).bind λr=>(g r.2 r.1).map λd=>(d,r.2)
def aS (m:Fn) (a:Af):Ef
 |env,st=>(a env st).bind λr=>m r.1 r.2
def oS:List W->Option (List D)
 |[]=>some []
 |.d x::ws=>(oS ws).map λr=>x::r
 |.h _::_=>none
def dj (a:Af):Ef
 |env,st=>(a env st).bind λr=>(oS r.1).bind λds=>if ds.length<=1000 then some (.d (.tup ds),r.2) else none
def cQ (a:Af):Lf
 |env,st=>(a env st).bind λr=>(oS r.1).bind λds=>if ds.length<=1000 then some (ds,r.2) else none
def aM (a:Lf):Ef
 |env,st=>(a env st).map λr=>(.d (.lst r.1),r.2)
def dZ (a:Lf):Ef
 |env,st=>(a env st).map λr=>(.h r.2.length,r.2++[.l r.1])
section
variable {K:qac}{X:Cx}{e a b c:Expr}{es:List Expr}{pos:Pos}{f fa fb fc:Ef}
theorem PE.imp {t t':TE} (h:PE X e t) (m:∀ σ H Q,t' σ H Q->t σ H Q):PE X e t':=λpins s σ H Q I q=>h pins s σ H Q I (m σ H Q q)
theorem PT.imp {t t':TT} (h:PT X e t) (m:∀ σ H Q,t' σ H Q->t σ H Q):PT X e t':=λpins s σ H Q I q=>h pins s σ H Q I (m σ H Q q)
theorem PW.imp {t t':TT} (h:PW X e t) (m:∀ σ H Q,t' σ H Q->t σ H Q):PW X e t':=λwh pins s σ H Q I q=>h wh pins s σ H Q I (m σ H Q q)
theorem PA.imp {t t':TA} (h:PA X es t) (m:∀ σ H Q,t' σ H Q->t σ H Q):PA X es t':=λpos pins s σ H Q I q=>h pos pins s σ H Q I (m σ H Q q)
theorem OpR.imp {g:Value->Value->Sem Value}{r r':R2} (h:OpR X g r) (m:∀ x y H Q,r' x y H Q->r x y H Q):OpR X g r':=λpins s σ H x y v u Q I rx ry q=>h pins s σ H x y v u Q I rx ry (m _ _ _ _ q)
theorem di.imp {g:Value}{r r':List V->Hp->VK->Prop} (h:di X g r) (m:∀ xs H Q,r' xs H Q->r xs H Q):di X g r':=λpins s σ H xs us Q I rx q=>h pins s σ H xs us Q I rx (m _ _ _ q)
theorem oZ:PE X e (λ_ _ _=>False):=λ_ _ _ _ _ _ q=>q.elim
theorem oG:PW X e (λ_ _ _=>False):=λ_ _ _ _ _ _ _ q=>q.elim
theorem xD {i:Nat}{x:Str}{t:TE} (h:PE X (.Name x pos) (oK i)):IE K X (.Name x pos) (iV i):=by
 refine⟨λenv st r hr=>?_⟩
 unfold iV at hr
 obtain⟨w,hw,rfl⟩:=qad.mp hr
 refine h.imp ?_
 rintro σ H Q ⟨φ,hE,hS,q⟩
 have hi:env[i]?=some (some w):=by
  rw[qex]at hw
  cases q:env[i]? with
  |none=>rw[q]at hw;cases hw
  |some o=>rw[q]at hw;rw[show o=some w from hw]
 obtain⟨v,e1,r⟩:=hE.at_ i w hi
 exact⟨v,e1,q v H φ (Fw.refl φ H) hS r⟩
theorem iv (i:Nat) {x:Str} (hN:X.N[i]?=some x:=by rfl) (hv:Vis X.env.scope x:=by first|exact Or.inl rfl|exact Or.inr (Or.inl rfl)|exact Or.inr (Or.inr rfl)) (hd:(x==("__debug__" : Str))=false:=by decide)
  (hcd:(x==("__classdict__" : Str))=false:=by decide):IE K X (.Name x pos) (iV i):=xD (t:=oK i) (iY hN hv hd hcd)
theorem uW {d:D}{v:V} (h:PE X e (tC v)) (r:∀ H φ,Rl K H φ d v):IE K X e (iC d):=by
 refine⟨λenv st r hr=>?_⟩
 cases hr
 refine h.imp ?_
 rintro σ H Q ⟨φ,hE,hS,q⟩
 exact q v H φ (Fw.refl φ H) hS (r H φ)
theorem ag {i j}:IE K X (.Constant (.int i) j pos) (iC (.int i)):=uW wM λ_ _=>rfl
theorem mf {i j}:IE K X (.Constant (.bool i) j pos) (iC (.bl i)):=uW yG λ_ _=>rfl
theorem gJ {j}:IE K X (.Constant .none j pos) (iC .non):=uW wW λ_ _=>rfl
theorem nE {x j}:IE K X (.Constant (.str x) j pos) (iC (.str x)):=uW yi λ_ _=>rfl
theorem mW {env:Ev}{st:Sto}{x y:W×Sto}{d:D}{σ:St}{H:Hp}{Q:VK} (h:tI K env st (.d d,y.2) σ H Q):tOp (rD K y.2 x.1 y.1 d) (tI K env st x) (tI K env x.2 y) σ H Q:=by
 obtain⟨φ,hE,hS,q⟩:=h
 refine⟨φ,hE,hS,λv H1 φ1 f1 s1 w1=>⟨φ1,hE.fw hS f1,s1,λu H2 φ2 f2 s2 w2=>⟨φ2,s2,w1.fw s1 f2,w2,λv3 H3 f3 w3=>?_⟩⟩⟩
 exact q v3 H3 φ2 ((f1.trans f2).trans (Fw.same f3)) (s2.same f3) w3
theorem av {op:Operator}{g:Sto->W->W->Option D} (ho:OpD K X (qbu op) g) (ha:IE K X a fa) (hb:IE K X b fb):IE K X (.BinOp a op b pos) (iOp g fa fb):=by
 refine⟨λenv st r hr=>?_⟩
 simp only[iOp,qab,qad]at hr
 obtain⟨x,hx,y,hy,d,hd,rfl⟩:=hr
 exact (wE (ho.run _ _ _ _ hd) (ha.run _ _ _ hx) (hb.run _ _ _ hy)).imp λσ H Q h=>mW h
theorem ju {op:CmpOp}{g:Sto->W->W->Option D} (ho:OpD K X (qbD op) g) (ha:IE K X a fa) (hb:IE K X b fb) (hm:qc2 op b=false):IE K X (.Compare a [op] [b] pos) (iOp g fa fb):=by
 refine⟨λenv st r hr=>?_⟩
 simp only[iOp,qab,qad]at hr
 obtain⟨x,hx,y,hy,d,hd,rfl⟩:=hr
 exact (wn (ho.run _ _ _ _ hd) (ha.run _ _ _ hx) (hb.run _ _ _ hy) hm).imp λσ H Q h=>mW h
theorem rP {d:D}{k:Bool} (h:nV d=some k):d=.bl k:=by
 cases d<;>first|(cases h;done)|(injection h with h;subst h;rfl)
theorem bu {op:CmpOp}{g:Sto->W->W->Option D} (ho:OpD K X (qbD op) g) (ha:IE K X a fa) (hb:IE K X b fb) (hm:qc2 op b=false):IT K X (.Compare a [op] [b] pos) (bm g fa fb):=by
 refine⟨λenv st r hr=>?_⟩
 simp only[bm,qab,qad]at hr
 obtain⟨x,hx,y,hy,d,hd,k,hk,rfl⟩:=hr
 cases rP hk
 refine (vA (ho.run _ _ _ _ hd) (ha.run _ _ _ hx) (hb.run _ _ _ hy) hm).imp λσ H Q h=>?_
 obtain⟨φ,hE,hS,q⟩:=h
 refine mW ⟨φ,hE,hS,λv H1 φ1 f1 s1 w1=>⟨k,w1,q H1 φ1 f1 s1⟩⟩
def j5:W->Option D
 |.d (.int i)=>some (.int (-i))
 |_=>none
theorem iP (ha:IE K X a fa):IE K X (.UnaryOp .USub a pos) (iUn j5 fa):=by
 refine⟨λenv st r hr=>?_⟩
 simp only[iUn,qab,qad]at hr
 obtain⟨⟨x,s1⟩,hx,d,hd,rfl⟩:=hr
 cases x with
 |h n=>cases hd
 |d x=>
  cases x with
  |int i=>
   cases hd
   refine (zy xJ (ha.run _ _ _ hx)).imp ?_
   rintro σ H Q ⟨φ,hE,hS,q⟩
   exact⟨φ,hE,hS,λv H1 φ1 f1 s1 w1=>⟨i,w1,q _ H1 φ1 f1 s1 rfl⟩⟩
  |_=>cases hd
variable {ta tb:Tf}
theorem xU (ha:IT K X a ta):IT K X (.UnaryOp .Not a pos) (n6 ta):=by
 refine⟨λenv st r hr=>?_⟩
 simp only[n6,qad]at hr
 obtain⟨x,hx,rfl⟩:=hr
 refine (xM (ha.run _ _ _ hx)).imp ?_
 rintro σ H Q ⟨φ,hE,hS,q⟩
 exact⟨φ,hE,hS,λH1 φ1 f1 s1=>q H1 φ1 f1 s1⟩
theorem qy (h:ITW K X a ta):IT K X a ta:=⟨λenv st r hr=>(h.run env st r hr).pt⟩
theorem oI (h:IT K X a ta):ITW K X (.BoolOp .And [a] pos) ta:=⟨λenv st r hr=>u8 (h.run env st r hr)⟩
theorem vS (h:IT K X a ta):ITW K X (.BoolOp .Or [a] pos) ta:=⟨λenv st r hr=>x4 (h.run env st r hr)⟩
theorem qH {rest:List Expr} (ha:IT K X a ta) (hb:ITW K X (.BoolOp .And (b::rest) pos) tb):ITW K X (.BoolOp .And (a::b::rest) pos) (iL ta tb):=by
 refine⟨λenv st r hr=>?_⟩
 simp only[iL,qab]at hr
 obtain⟨⟨k,s1⟩,hx,hr⟩:=hr
 cases k with
 |false=>
  rw[if_neg qaF]at hr
  cases hr
  refine (uA (ha.run _ _ _ hx) oG).imp ?_
  rintro σ H Q ⟨φ,hE,hS,q⟩
  refine⟨φ,hE,hS,λH1 φ1 f1 s1=>?_⟩
  refine sE ?_
  exact q H1 φ1 f1 s1
 |true=>
  rw[if_pos rfl]at hr
  refine (uA (ha.run _ _ _ hx) (hb.run _ _ _ hr)).imp ?_
  rintro σ H Q ⟨φ,hE,hS,q⟩
  refine⟨φ,hE,hS,λH1 φ1 f1 s1=>?_⟩
  refine rW ?_
  exact⟨φ1,hE.fw hS f1,s1,λH2 φ2 f2 s2=>q H2 φ2 (f1.trans f2) s2⟩
theorem x3 {rest:List Expr} (ha:IT K X a ta) (hb:ITW K X (.BoolOp .Or (b::rest) pos) tb):ITW K X (.BoolOp .Or (a::b::rest) pos) (pH ta tb):=by
 refine⟨λenv st r hr=>?_⟩
 simp only[pH,qab]at hr
 obtain⟨⟨k,s1⟩,hx,hr⟩:=hr
 cases k with
 |true=>
  rw[if_pos rfl]at hr
  cases hr
  refine (wC (ha.run _ _ _ hx) oG).imp ?_
  rintro σ H Q ⟨φ,hE,hS,q⟩
  refine⟨φ,hE,hS,λH1 φ1 f1 s1=>?_⟩
  refine rW ?_
  exact q H1 φ1 f1 s1
 |false=>
  rw[if_neg qaF]at hr
  refine (wC (ha.run _ _ _ hx) (hb.run _ _ _ hr)).imp ?_
  rintro σ H Q ⟨φ,hE,hS,q⟩
  refine⟨φ,hE,hS,λH1 φ1 f1 s1=>?_⟩
  refine sE ?_
  exact⟨φ1,hE.fw hS f1,s1,λH2 φ2 f2 s2=>q H2 φ2 (f1.trans f2) s2⟩
theorem uz {tc:Tf} (hc:IT K X c tc) (ha:IE K X a fa) (hb:IE K X b fb):IE K X (.IfExp c a b pos) (j0 tc fa fb):=by
 refine⟨λenv st r hr=>?_⟩
 simp only[j0,qab]at hr
 obtain⟨⟨k,s1⟩,hx,hr⟩:=hr
 cases k with
 |true=>
  rw[if_pos rfl]at hr
  refine (nZ (hc.run _ _ _ hx) (ha.run _ _ _ hr) oZ).imp ?_
  rintro σ H Q ⟨φ,hE,hS,q⟩
  refine⟨φ,hE,hS,λH1 φ1 f1 s1=>?_⟩
  refine rW ?_
  exact⟨φ1,hE.fw hS f1,s1,λu H2 φ2 f2 s2 w2=>q u H2 φ2 (f1.trans f2) s2 w2⟩
 |false=>
  rw[if_neg qaF]at hr
  refine (nZ (hc.run _ _ _ hx) oZ (hb.run _ _ _ hr)).imp ?_
  rintro σ H Q ⟨φ,hE,hS,q⟩
  refine⟨φ,hE,hS,λH1 φ1 f1 s1=>?_⟩
  refine sE ?_
  exact⟨φ1,hE.fw hS f1,s1,λu H2 φ2 f2 s2 w2=>q u H2 φ2 (f1.trans f2) s2 w2⟩
def gH (st:Sto):W->Option (List D)
 |.d (.tup ds)=>some ds
 |.d (.lst ds)=>some ds
 |.d (.scr ns)=>some (ns.map D.int)
 |.h n=>lg st n
 |_=>none
theorem nQ {st:Sto}{H:Hp}{φ:List Addr}{w:W}{v:V}{ds:List D} (S:Sr K H φ st) (r:Rw K H φ w v) (e:gH st w=some ds):∃ a vs,v=.ref a/\(SqL K H a vs\/H a=some (.tup vs))/\Rls K H φ ds vs:=by
 cases w with
 |h n=>
  obtain⟨a,ea,rfl⟩:=r
  obtain⟨vs,q,rl⟩:=S.atl n a ds ea e
  exact⟨a,vs,rfl,.inl (SqL.of q),rl⟩
 |d x=>
  cases x with
  |tup es=>cases e;obtain⟨a,vs,rfl,h1,h2⟩:=r;exact⟨a,vs,rfl,.inr h1,h2⟩
  |lst es=>cases e;obtain⟨a,vs,rfl,h0,h1,h2⟩:=r;exact⟨a,vs,rfl,.inl (.inl h1),h2⟩
  |scr ns=>
   cases e
   obtain⟨a,rfl,h⟩:=r
   refine⟨a,_,rfl,.inl ?_,Rls.of_ints ns⟩
   rcases h with⟨o,h⟩|h
   ·exact .inl (.inr ⟨o,h⟩)
   ·exact .inr h
  |_=>cases e
theorem jc {st:Sto}{H:Hp}{φ:List Addr}{w:W}{v:V}{ds:List D} (S:Sr K H φ st) (r:Rw K H φ w v) (e:gH st w=some ds):∃ a vs,v=.ref a/\(SqL K H a vs\/SqT K H a vs)/\Rls K H φ ds vs:=by
 obtain⟨a,vs,h0,h1,h2⟩:=nQ S r e
 exact⟨a,vs,h0,h1.imp id SqT.of,h2⟩
def gh (st:Sto):W->Option Bool
 |.d .non=>some false
 |.d (.bl b)=>some b
 |.d (.int i)=>some (i != 0)
 |w=>(gH st w).map λds=>!ds.isEmpty
theorem vJ {st:Sto}{H:Hp}{φ:List Addr}{w:W}{v:V}{k:Bool} (S:Sr K H φ st) (r:Rw K H φ w v) (e:gh st w=some k):wm K v H k:=by
 have seq:∀ ds,gH st w=some ds->k=!ds.isEmpty->wm K v H k:=λds h hk=>by
  obtain⟨a,vs,rfl,h1,h2⟩:=jc S r h
  have hl:=h2.length
  have e':k=!vs.isEmpty:=by
   rw[hk]
   cases ds<;>cases vs<;>first|rfl|cases hl
  rcases h1 with h1|h1
  ·exact .inl ⟨vs,h1,e'⟩
  ·exact .inr (.inl ⟨vs,h1,e'⟩)
 cases w with
 |h n=>
  obtain⟨ds,h1,h2⟩:=qad.mp e
  exact seq ds h1 h2.symm
 |d x=>
  cases x with
  |non=>have r':v=.non:=r;subst r';cases e;exact rfl
  |bl b=>have r':v=.bl b:=r;subst r';cases e;exact rfl
  |int i=>have r':v=.int i:=r;subst r';cases e;exact rfl
  |tup ds=>exact seq ds rfl (qaS e).symm
  |lst ds=>exact seq ds rfl (qaS e).symm
  |scr ds=>exact seq _ rfl (qaS e).symm
  |_=>cases e
theorem iW (ha:IE K X a fa) (he:tR a=true:=by rfl) (hK:X.K=K:=by rfl):IT K X a (fE gh fa):=by
 subst hK
 refine⟨λenv st r hr=>?_⟩
 simp only[fE,qab,qad]at hr
 obtain⟨x,hx,k,hk,rfl⟩:=hr
 refine (uG (ha.run _ _ _ hx) (rK he)).imp ?_
 rintro σ H Q ⟨φ,hE,hS,q⟩
 exact⟨φ,hE,hS,λv H1 φ1 f1 s1 w1=>⟨k,vJ s1 w1 hk,q H1 φ1 f1 s1⟩⟩
variable {af:Af}
theorem aj:IA K X [] ak:=by
 refine⟨λenv st r hr=>?_⟩
 cases hr
 refine mT.imp ?_
 rintro σ H Q ⟨φ,hE,hS,q⟩
 exact q [] H φ (Fw.refl φ H) hS rfl
theorem ab (ha:IE K X e fa) (hr:IA K X es af) (hs:aB e=true:=by rfl):IA K X (e::es) (aa fa af):=by
 refine⟨λenv st r h=>?_⟩
 simp only[aa,qab,qad]at h
 obtain⟨x,hx,y,hy,rfl⟩:=h
 refine (kz (ha.run _ _ _ hx) (hr.run _ _ _ hy) (aZ hs)).imp ?_
 rintro σ H Q ⟨φ,hE,hS,q⟩
 refine⟨φ,hE,hS,λv H1 φ1 f1 s1 w1=>⟨φ1,hE.fw hS f1,s1,λu H2 φ2 f2 s2 w2=>?_⟩⟩
 exact q _ H2 φ2 (f1.trans f2) s2 ⟨v,u,rfl,w1.fw s1 f2,w2⟩
theorem eE {x:Str}{id:String}{p:Pos}{g:Sto->List W->Option D} (hc:jX K X (.builtin id) g) (hg:Gl X x) (hm:X.mg x=none) (hv:qcG x=some (.builtin id)) (ha:IA K X (e::es) af)
  (hn:x≠"__name__":=by decide) (hdb:(x==("__debug__" : Str))=false:=by decide) (hs:aB e=true:=by rfl) (hp:es.all aB=true:=by rfl) :
  IE K X (.Call (.Name x p) (e::es) [] pos) (iCB g af):=by
 refine⟨λenv st r hr=>?_⟩
 simp only[iCB,qab,qad]at hr
 obtain⟨y,hy,d,hd,rfl⟩:=hr
 refine (uq (hc.run _ _ _ hd) hg hm hv (ha.run _ _ _ hy) hn hdb (aZ hs) (bQ hp)).imp ?_
 rintro σ H Q ⟨φ,hE,hS,q⟩
 exact⟨φ,hE,hS,λv H1 φ1 f1 s1 w1=>⟨φ1,s1,w1,λu H2 f2 w2=>q u H2 φ1 (f1.trans (Fw.same f2)) (s1.same f2) w2⟩⟩
theorem lB {x:Str}{T:String}{p:Pos}{g:Sto->List W->Option D} (hc:jX K X (.type T) g) (hg:Gl X x) (hm:X.mg x=none) (hv:qcG x=some (.type T)) (ha:IA K X (e::es) af)
  (hn:x≠"__name__":=by decide) (hdb:(x==("__debug__" : Str))=false:=by decide) (hs:aB e=true:=by rfl) (hp:es.all aB=true:=by rfl) :
  IE K X (.Call (.Name x p) (e::es) [] pos) (iCB g af):=by
 refine⟨λenv st r hr=>?_⟩
 simp only[iCB,qab,qad]at hr
 obtain⟨y,hy,d,hd,rfl⟩:=hr
 refine (dR (hc.run _ _ _ hd) hg hm hv (ha.run _ _ _ hy) hn hdb (aZ hs) (bQ hp)).imp ?_
 rintro σ H Q ⟨φ,hE,hS,q⟩
 exact⟨φ,hE,hS,λv H1 φ1 f1 s1 w1=>⟨φ1,s1,w1,λu H2 f2 w2=>q u H2 φ1 (f1.trans (Fw.same f2)) (s1.same f2) w2⟩⟩
theorem yu {x:Str}{T:String}{p:Pos}{g:Sto->List W->Option (List D)} (hc:wp K X (.type T) g) (hg:Gl X x) (hm:X.mg x=none) (hv:qcG x=some (.type T)) (ha:IA K X (e::es) af)
  (hn:x≠"__name__":=by decide) (hdb:(x==("__debug__" : Str))=false:=by decide) (hs:aB e=true:=by rfl) (hp:es.all aB=true:=by rfl) :
  IL K X (.Call (.Name x p) (e::es) [] pos) (iCL g af):=by
 refine⟨λenv st r hr=>?_⟩
 simp only[iCL,qab,qad]at hr
 obtain⟨y,hy,d,hd,rfl⟩:=hr
 refine (dR (hc.run _ _ _ hd) hg hm hv (ha.run _ _ _ hy) hn hdb (aZ hs) (bQ hp)).imp ?_
 rintro σ H Q ⟨φ,hE,hS,q⟩
 exact⟨φ,hE,hS,λv H1 φ1 f1 s1 w1=>⟨φ1,s1,w1,λa us H2 f2 n2 w2=>q a us H2 φ1 (f1.trans (Fw.same f2)) (s1.same f2) n2 w2⟩⟩
theorem kS {H:Hp}{φ:List Addr}:∀ {ws:List W}{vs:List V}{ds:List D},oS ws=some ds->Rws K H φ ws vs->Rls K H φ ds vs
 |[],_,_,e,h=>by cases e;exact h
 |.d x::ws,_,_,e,h=>by
  obtain⟨v,r,rfl,h1,h2⟩:=h
  obtain⟨es,e1,rfl⟩:=qad.mp e
  exact⟨v,r,rfl,h1,kS e1 h2⟩
 |.h n::ws,_,_,e,h=>by cases e
theorem dQ {x1} (h:IA K X es af):IE K X (.Tuple es x1 pos) (dj af):=by
 refine⟨λenv st r hr=>?_⟩
 simp only[dj,qab]at hr
 obtain⟨y,hy,ds,hd,hr⟩:=hr
 split at hr
 ·cases hr
  rename_i hl
  refine (xV (h.run _ _ _ hy)).imp ?_
  rintro σ H Q ⟨φ,hE,hS,q⟩
  refine⟨φ,hE,hS,λvs H1 φ1 f1 s1 w1=>?_⟩
  have w:=kS hd w1
  refine⟨by rw[<-w.length];exact nF hl,λp hp=>?_⟩
  exact q _ _ φ1 (f1.trans (Fw.new hp)) (s1.new hp) ⟨p,vs,rfl,upd_same,w.fw s1 (Fw.new hp)⟩
 ·cases hr
theorem de (h:IA K X es af):IL K X (.List es pos) (cQ af):=by
 refine⟨λenv st r hr=>?_⟩
 simp only[cQ,qab]at hr
 obtain⟨y,hy,ds,hd,hr⟩:=hr
 split at hr
 ·cases hr
  rename_i hl
  refine (w6 (h.run _ _ _ hy)).imp ?_
  rintro σ H Q ⟨φ,hE,hS,q⟩
  refine⟨φ,hE,hS,λvs H1 φ1 f1 s1 w1=>?_⟩
  have w:=kS hd w1
  exact⟨by rw[<-w.length];exact nF hl,λp hp=>q p vs H1 φ1 f1 s1 hp w⟩
 ·cases hr
theorem aT {lf:Lf} (h:IL K X e lf):IE K X e (aM lf):=by
 refine⟨λenv st r hr=>?_⟩
 simp only[aM,qad]at hr
 obtain⟨y,hy,rfl⟩:=hr
 refine (h.run _ _ _ hy).imp ?_
 rintro σ H Q ⟨φ,hE,hS,q⟩
 refine⟨φ,hE,hS,λa vs H1 φ1 f1 s1 n1 w1=>?_⟩
 exact q _ _ φ1 (f1.trans (Fw.new n1)) (s1.new n1) ⟨a,vs,rfl,s1.nin n1,.inl upd_same,w1.fw s1 (Fw.new n1)⟩
theorem Sr.moreC {H:Hp}{φ:List Addr}{st:Sto}{a:Addr}{o:HO}{c:C} (S:Sr K H φ st) (n:H a=none) (w:Rc K (upd H a o) (φ++[a]) φ.length a c):Sr K (upd H a o) (φ++[a]) (st++[c]):=by
 have f:Fw φ (φ++[a]) H (upd H a o):=⟨⟨[a],rfl,λb hb=>by rw[qaj.mp hb];exact n⟩,λb o _ h=>aY.new n _ b o h,λb o h=>⟨o,aY.new n _ b o h⟩⟩
 refine⟨?_,by rw[qau,qau,S.len];rfl,λi b es e1 e2=>?_⟩
 ·rw[qcf]
  refine⟨S.nd,by simp,λx hx y hy e=>?_⟩
  rw[qaj.mp hy]at e
  rw[e]at hx
  exact S.nin n hx
 ·by_cases hi:i<φ.length
  ·rw[qaC hi]at e1
   rw[qaC (by rw[<-S.len];exact hi)]at e2
   exact (S.at_ i b es e1 e2).fw S f λo h=>aY.new n _ _ _ h
  ·have e:i=φ.length:=by
    have:=(qan.mp e1).1
    rw[qau]at this
    simp at this
    lia
   subst e
   rw[qaJ (qal _)]at e1
   rw[S.len,qaJ (qal _)]at e2
   simp at e1 e2
   subst e1 e2
   exact w
theorem Fw.moreO {H:Hp}{φ:List Addr}{a:Addr}{o:HO} (n:H a=none):Fw φ (φ++[a]) H (upd H a o):=
 ⟨⟨[a],rfl,λb hb=>by rw[qaj.mp hb];exact n⟩,λb o _ h=>aY.new n _ b o h,λb o h=>⟨o,aY.new n _ b o h⟩⟩
theorem Fw.more {H:Hp}{φ:List Addr}{a:Addr}{vs:List V} (n:H a=none):Fw φ (φ++[a]) H (upd H a (.lst vs)):=Fw.moreO n
theorem Sr.more {H:Hp}{φ:List Addr}{st:Sto}{a:Addr}{vs:List V}{ds:List D} (S:Sr K H φ st) (n:H a=none) (w:Rls K H φ ds vs):Sr K (upd H a (.lst vs)) (φ++[a]) (st++[.l ds]):=
 S.moreC n ⟨vs,upd_same,w.fw S (Fw.moreO n)⟩
theorem gx {lf:Lf} (h:IL K X e lf):IE K X e (dZ lf):=by
 refine⟨λenv st r hr=>?_⟩
 simp only[dZ,qad]at hr
 obtain⟨y,hy,rfl⟩:=hr
 refine (h.run _ _ _ hy).imp ?_
 rintro σ H Q ⟨φ,hE,hS,q⟩
 refine⟨φ,hE,hS,λa vs H1 φ1 f1 s1 n1 w1=>?_⟩
 exact q _ _ (φ1++[a]) (f1.trans (Fw.more n1)) (s1.more n1 w1) ⟨a,by rw[<-s1.len];simp,rfl⟩
def spI (K:qac) (m:Fn):Sp:=λvs H Q _=>∃ φ st ws r,m ws st=some r/\Rws K H φ ws vs/\Sr K H φ st/\∀ v H' φ',Fw φ φ' H H'->Sr K H' φ' r.2->Rw K H' φ' r.1 v->Q v H'
theorem aP {x:Str}{k j:Nat}{ff:Addr}{fd:qa2}{ps:List Str}{m:Fn}{p:Pos} (F:bO X.prog X.w X.K X.mg X.base CX0 j ff fd ps (spI K m)) (hjk:j<=k) (hr:cN k X.A) (hg:Gl X x) (hm:X.mg x=some (.ref ff)) (hk:qaG X.K (.ref ff)=true) (hb:bB X.K fd ps [])
  (ha:IA K X (e::es) af) (hdb:(x==("__debug__" : Str))=false:=by decide) (hs:aB e=true:=by rfl) (hp:es.all aB=true:=by rfl) :
  IE K X (.Call (.Name x p) (e::es) [] pos) (aS m af):=by
 refine⟨λenv st r h=>?_⟩
 simp only[aS,qab]at h
 obtain⟨y,hy,h⟩:=h
 refine (rg (F.mono hjk) hr hg hm hk hb .nil uD (ha.run _ _ _ hy) hdb (aZ hs) (bQ hp)).imp ?_
 rintro σ H Q ⟨φ,hE,hS,q⟩
 refine⟨φ,hE,hS,λvs H1 φ1 f1 s1 w1=>?_⟩
 show spI K m (vs++[]) H1 Q E0
 rw[qbw]
 exact⟨φ1,y.2,y.1,r,h,w1,s1,λv H2 φ2 f2 s2 w2=>q v H2 φ2 (f1.trans f2) s2 w2⟩
end
inductive Fl where
 |nx (env:Ev) (st:Sto)|rt (w:W) (st:Sto)|bk (env:Ev) (st:Sto)|ct (env:Ev) (st:Sto)
abbrev Sf:=Ev->Sto->Option Fl
def ug (K:qac) (φ:List Addr) (H:Hp) (D:lK):Fl->Prop
 |.nx e s=>∀ σ' H' φ',Fw φ φ' H H'->Er K H' φ' e σ'->Sr K H' φ' s->D.nx σ' H'
 |.rt w s=>∀ v H' φ',Fw φ φ' H H'->Sr K H' φ' s->Rw K H' φ' w v->D.rt v H'
 |.bk e s=>∀ σ' H' φ',Fw φ φ' H H'->Er K H' φ' e σ'->Sr K H' φ' s->D.bk σ' H'
 |.ct e s=>∀ σ' H' φ',Fw φ φ' H H'->Er K H' φ' e σ'->Sr K H' φ' s->D.ct σ' H'
theorem ug.fw {K:qac}{φ φ1:List Addr}{H H1:Hp}{D:lK}{r:Fl} (h:ug K φ H D r) (f:Fw φ φ1 H H1):ug K φ1 H1 D r:=by
 cases r with
 |nx e s=>exact λσ' H' φ' f'=>h σ' H' φ' (f.trans f')
 |rt w s=>exact λv H' φ' f'=>h v H' φ' (f.trans f')
 |bk e s=>exact λσ' H' φ' f'=>h σ' H' φ' (f.trans f')
 |ct e s=>exact λσ' H' φ' f'=>h σ' H' φ' (f.trans f')
def tS (K:qac) (env:Ev) (st:Sto) (r:Fl):TS:=λD σ H=>∃ φ,Er K H φ env σ/\Sr K H φ st/\ug K φ H D r
structure IS (K:qac) (X:Cx) (s:Stmt) (g:Sf):Prop where
 run:∀ env st r,g env st=some r->PS X s (tS K env st r)
structure ISs (K:qac) (X:Cx) (s:List Stmt) (g:Sf):Prop where
 run:∀ env st r,g env st=some r->PSs X s (tS K env st r)
inductive Tg where
 |nm (i:Nat)|tp (is:List Nat)|tq (i:Nat) (is:List Nat)
def sJ:Tg->List Nat
 |.nm i=>[i]
 |.tp is=>is
 |.tq i is=>i::is
def jQ:List Nat->List D->Ev->Ev
 |i::is,d::ds,env=>jQ is ds (env.set i (some (.d d)))
 |_,_,env=>env
def eG:Tg->W->Ev->Option Ev
 |.nm i,w,env=>some (env.set i (some w))
 |.tp is,.d (.tup ds),env=>if is.length=ds.length then some (jQ is ds env) else none
 |.tp is,.d (.lst ds),env=>if is.length=ds.length then some (jQ is ds env) else none
 |.tq i is,.d (.tup [d,.tup ds]),env=>if is.length=ds.length then some (jQ is ds (env.set i (some (.d d)))) else none
 |_,_,_=>none
def wb (is:List Nat) (σ σ':St):Prop:=σ'.length=σ.length/\∀ j,j∉is->σ'[j]?=σ[j]?
def tG (K:qac) (g:Tg):TG:=λv σ H Q=>∃ φ st env w env',Er K H φ env σ/\Sr K H φ st/\Rw K H φ w v/\eG g w env=some env'/\∀ σ',Er K H φ env' σ'->wb (sJ g) σ σ'->Q σ' H
def tGs (K:qac) (is:List Nat):TGs:=λvs σ H Q=>∃ φ st env ds,Er K H φ env σ/\Sr K H φ st/\Rls K H φ ds vs/\is.length=ds.length/\∀ σ',Er K H φ (jQ is ds env) σ'->wb is σ σ'->Q σ' H
def bz:Sf
 |env,st=>some (.nx env st)
def aq (a b:Sf):Sf
 |env,st=>(a env st).bind λr=>match r with
 |.nx e s=>b e s
 |r=>some r
def aD (g:Tg) (f:Ef):Sf
 |env,st=>(f env st).bind λr=>(eG g r.1 env).map λe=>.nx e r.2
def fR (st:Sto) (o i v:W):Option Sto:=match o,i,v with
 |.h n,.d (.int k),.d x=>(lg st n).bind λds=>(ixN ds.length k).map λj=>st.set n (.l (ds.set j x))
 |_,_,_=>none
def bE (o i v:Ef):Sf
 |env,st=>(v env st).bind λrv=>(o env rv.2).bind λro=>(i env ro.2).bind λri=>(fR ri.2 ro.1 ri.1 rv.1).map λs=>.nx env s
def bY (f:Ef):Sf
 |env,st=>(f env st).map λr=>.rt r.1 r.2
def gD (f:Ef):Sf
 |env,st=>(f env st).map λr=>.nx env r.2
def cy (c:Tf) (a b:Sf):Sf
 |env,st=>(c env st).bind λr=>if r.1=true then a env r.2 else b env r.2
def pZ:Sf
 |env,st=>some (.bk env st)
def mv:Sf
 |env,st=>some (.ct env st)
def cC (g:Tg) (body:Sf):List D->Ev->Sto->Option Fl
 |[],env,st=>some (.nx env st)
 |d::ds,env,st=>(eG g (.d d) env).bind λe=>(body e st).bind λr=>match r with
  |.nx e s=>cC g body ds e s
  |.ct e s=>cC g body ds e s
  |.bk e s=>some (.nx e s)
  |.rt w s=>some (.rt w s)
def gI (fi:Lf) (g:Tg) (body:Sf):Sf
 |env,st=>(fi env st).bind λr=>cC g body r.1 env r.2
def cP (c:Tf) (body:Sf):Nat->Ev->Sto->Option Fl
 |0,_,_=>none
 |n+1,env,st=>(c env st).bind λk=>if k.1=true then (body env k.2).bind λr=>match r with
   |.nx e s=>cP c body n e s
   |.ct e s=>cP c body n e s
   |.bk e s=>some (.nx e s)
   |.rt w s=>some (.rt w s)
  else some (.nx env k.2)
def lcI (g:Tg) (tt:Tf) (te:Ef) (env:Ev):List D->Sto->Option (List D×Sto)
 |[],st=>some ([],st)
 |d::ds,st=>(eG g (.d d) env).bind λe=>(tt e st).bind λb=>if b.1=true then (te e b.2).bind λx=>(oS [x.1]).bind λys=>(lcI g tt te env ds x.2).map λr=>(ys++r.1,r.2)
   else lcI g tt te env ds b.2
def jl (k:Nat) (js:List Nat) (env:Ev):Ev:=qav k none++js.map λj=>env.getD j none
def iLc (k:Nat) (js:List Nat) (fi:Lf) (g:Tg) (tt:Tf) (te:Ef):Lf
 |env,st=>(fi env st).bind λr=>if r.1.length<=1000000 then lcI g tt te (jl k js env) r.1 r.2 else none
def bG:Tf
 |_,st=>some (true,st)
def aL (f:Ef):Lf
 |env,st=>(f env st).bind λr=>match r.1 with
 |.d (.tup ds)=>some (ds,r.2)
 |.d (.lst ds)=>some (ds,r.2)
 |_=>none
def dL (lo:Int) (n:Nat):List D:=(qag n).map λk:Nat=>D.int (lo+k)
def eJ (a:Af):Lf
 |env,st=>(a env st).bind λr=>match r.1 with
 |[.d (.int j)]=>if -(2^62)<=j/\j<2^62 then some (dL 0 j.toNat,r.2) else none
 |_=>none
def gF:Nat->List D->List D
 |_,[]=>[]
 |k,d::ds=>.tup [.int k,d]::gF (k+1) ds
def eL (a:Af):Lf
 |env,st=>(a env st).bind λr=>match r.1 with
 |[.d (.tup ds)]=>some (gF 0 ds,r.2)
 |[.d (.lst ds)]=>some (gF 0 ds,r.2)
 |_=>none
section
variable {K:qac}{X:Cx}{pos:Pos}
theorem PS.imp {s:Stmt}{t t':TS} (h:PS X s t) (m:∀ D σ H,t' D σ H->t D σ H):PS X s t':=λpins s σ H D I q=>h pins s σ H D I (m D σ H q)
theorem PSs.imp {s:List Stmt}{t t':TS} (h:PSs X s t) (m:∀ D σ H,t' D σ H->t D σ H):PSs X s t':=λpins s σ H D I q=>h pins s σ H D I (m D σ H q)
theorem Er.set {H:Hp}{φ:List Addr}{env:Ev}{σ:St} (h:Er K H φ env σ) (i:Nat) {w:W}{v:V} (r:Rw K H φ w v):Er K H φ (env.set i (some w)) (σ.set i (some v)):=by
 refine⟨by rw[qbv,qbv,h.len],λj w' e=>?_⟩
 by_cases hj:i=j
 ·subst hj
  have hi:i<env.length:=by
   have:=(qan.mp e).1
   rwa [qbv]at this
  rw[qa5 hi]at e
  cases e
  exact⟨v,by rw[qa5 (by rw[<-h.len];exact hi)],r⟩
 ·rw[qbc hj]at e
  obtain⟨v',e1,r1⟩:=h.at_ j w' e
  exact⟨v',by rw[qbc hj];exact e1,r1⟩
theorem sP (i:Nat) (σ:St) (v:Option V):wb [i] σ (σ.set i v):=⟨by rw[qbv],λj hj=>by rw[qbc (by rintro rfl;simp at hj)]⟩
theorem bJ {i:Nat}{x:Str} (h:PG X (.Name x pos) (mt i)):PG X (.Name x pos) (tG K (.nm i)):=by
 intro pins s σ H v u Q I rv q
 obtain⟨φ,st,env,w,env',hE,hS,r,e,q⟩:=q
 cases e
 exact h pins s σ H v u Q I rv (q _ (hE.set i r) (sP i σ _))
theorem cm:PGs X [] (tGs K []):=by
 intro pins s σ H vs us Q I rv q
 obtain⟨φ,st,env,ds,hE,hS,r,e,q⟩:=q
 cases ds with
 |nil=>cases r;exact qD pins s σ H [] us Q I rv ⟨rfl,q σ hE ⟨rfl,λ_ _=>rfl⟩⟩
 |cons _ _=>cases e
theorem az {i:Nat}{is:List Nat}{x:Str}{es:List Expr} (h1:PG X (.Name x pos) (mt i)) (h2:PGs X es (tGs K is)):PGs X (.Name x pos::es) (tGs K (i::is)):=by
 intro pins s σ H vs us Q I rv q
 obtain⟨φ,st,env,ds,hE,hS,r,e,q⟩:=q
 cases ds with
 |nil=>cases e
 |cons d ds=>
  obtain⟨v,vr,rfl,r1,r2⟩:=r
  refine lh h1 h2 (kA rfl) pins s σ H _ us Q I rv ⟨v,vr,rfl,φ,st,_,ds,hE.set i (w:=.d d) r1,hS,r2,by simpa using e,λσ' e' s'=>q σ' e' ?_⟩
  refine⟨by rw[s'.1,qbv],λj hj=>?_⟩
  rw[s'.2 j (λz=>hj (qah _ z)),qbc (by rintro rfl;exact hj qae)]
def z6 (K:qac) (n:Nat) (t:TGs):TG:=λv σ H Q=>∃ a xs,v=.ref a/\SqL K H a xs/\xs.length=n/\t xs σ H Q
theorem xE {es:List Expr}{k:Nat}{t:TGs}{n:Nat} (hc:X.calm=true) (h:PGs X es t) (hn:(qbt es X.env).length=n) (hst:(qbt es X.env).findIdx? (·.1)=none):PG X (.Tuple es k pos) (z6 X.K n t):=by
 intro pins s σ H v u Q I r hw
 obtain⟨a,xs,e1,hq,hl,hw⟩:=hw
 subst e1
 cases r
 obtain⟨its,rv,p,hz⟩:=I.list hq
 rw[assign_Tuple]
 refine qaf (qer ?_)
 unfold unpack
 rw[show (qbt es X.env).length=its.toArray.size by simp[hn,<-hl,rv.length],hst]
 refine qaf (qc1 (PySem.W.kun_itemsOf (I.ok.hd hc) p.isList λh' hx=>?_))
 have I1:Inv X pins σ H { s with heap:=h' }:=I.kept (t':=s.toks) λb o e=>hx b o (qaP (qax e)) e
 exact h pins _ σ H xs _ Q I1 (by simpa using rv) hw
theorem dc {es:List Expr}{k n:Nat}{is:List Nat} (h:PGs X es (tGs K is)) (hes:es.all aB=true:=by rfl) (hn:es.length=n:=by rfl) (hi:is.length=n:=by rfl) (hc:X.calm=true:=by rfl) (hK:X.K=K:=by rfl):PG X (.Tuple es k pos) (tG K (.tp is)):=by
 subst hK
 intro pins s σ H v u Q I rv q
 obtain⟨φ,st,env,w,env',hE,hS,r,e,q⟩:=q
 cases w with
 |h n=>cases e
 |d x=>
  cases x with
  |tup ds=>
   have e':(if is.length=ds.length then some (jQ is ds env) else none)=some env':=e
   by_cases hl:is.length=ds.length
   ·rw[if_pos hl]at e'
    cases e'
    obtain⟨a,vs,rfl,hq,hr⟩:=r
    exact uC hc h ((kt hes).trans hn) (jn hes) pins s σ H _ u Q I rv ⟨a,vs,rfl,(SqT.of hq),by rw[<-hr.length,<-hl,hi],φ,st,env,ds,hE,hS,hr,hl,q⟩
   ·rw[if_neg hl]at e'
    cases e'
  |lst ds=>
   have e':(if is.length=ds.length then some (jQ is ds env) else none)=some env':=e
   by_cases hl:is.length=ds.length
   ·rw[if_pos hl]at e'
    cases e'
    obtain⟨a,vs,rfl,_,hq,hr⟩:=r
    exact xE hc h ((kt hes).trans hn) (jn hes) pins s σ H _ u Q I rv ⟨a,vs,rfl,.inl hq,by rw[<-hr.length,<-hl,hi],φ,st,env,ds,hE,hS,hr,hl,q⟩
   ·rw[if_neg hl]at e'
    cases e'
  |_=>cases e
theorem wk {x:Str}{px p2:Pos}{k k2 n i:Nat}{is:List Nat}{es:List Expr} (h1:PG X (.Name x px) (mt i)) (h2:PGs X es (tGs K is)) (hes:es.all aB=true:=by rfl) (hn:es.length=n:=by rfl) (hi:is.length=n:=by rfl) (hc:X.calm=true:=by rfl) (hK:X.K=K:=by rfl):PG X (.Tuple [.Name x px,.Tuple es k2 p2] k pos) (tG K (.tq i is)):=by
 subst hK
 intro pins s σ H v u Q I rv q
 obtain⟨φ,st,env,w,env',hE,hS,r,e,q⟩:=q
 match w,e,r with
 |.d (.tup [d,.tup ds]),e,r=>
  have e':(if is.length=ds.length then some (jQ is ds (env.set i (some (.d d)))) else none)=some env':=e
  by_cases hl:is.length=ds.length
  ·rw[if_pos hl]at e'
   cases e'
   obtain⟨a,vs,rfl,hq,hr⟩:=r
   obtain⟨v0,r0,rfl,r1,r2⟩:=hr
   obtain⟨v1,r3,rfl,r4,r5⟩:=r2
   cases r5
   have g2:=lh h1 (lh (dc (k:=k2) (pos:=p2) h2 hes hn hi hc rfl) qD (kA rfl)) (kA rfl)
   refine uC hc g2 ((kt rfl).trans rfl) (jn rfl) pins s σ H _ u Q I rv ⟨a,_,rfl,SqT.of hq,rfl,v0,_,rfl,v1,[],rfl,?_⟩
   refine⟨φ,st,env.set i (some (.d d)),.d (.tup ds),_,hE.set i (w:=.d d) r1,hS,r4,if_pos hl,λσ' e' s'=>⟨rfl,q σ' e' ?_⟩⟩
   refine⟨by rw[s'.1,qbv],λj hj=>?_⟩
   rw[s'.2 j (λz=>hj (qah _ z)),qbc (by rintro rfl;exact hj qae)]
  ·rw[if_neg hl]at e'
   cases e'
variable {s:Stmt}{ss rest:List Stmt}{e a b c:Expr}{ga gb:Sf}{f fa fb fc:Ef}
theorem bg:ISs K X [] bz:=by
 refine⟨λenv st r hr=>?_⟩
 cases hr
 exact wj.imp λD σ H ⟨φ,hE,hS,q⟩=>q σ H φ (Fw.refl φ H) hE hS
theorem ao (h:IS K X s ga):ISs K X [s] ga:=⟨λenv st r hr=>rE (h.run env st r hr)⟩
theorem ae (h1:IS K X s ga) (h2:ISs K X rest gb):ISs K X (s::rest) (aq ga gb):=by
 refine⟨λenv st r hr=>?_⟩
 simp only[aq,qab]at hr
 obtain⟨r1,e1,hr⟩:=hr
 cases r1 with
 |nx e s1=>
  refine (eD (h1.run _ _ _ e1) (h2.run _ _ _ hr)).imp ?_
  rintro D σ H ⟨φ,hE,hS,q⟩
  exact⟨φ,hE,hS,λσ' H' φ' f' e' s'=>⟨φ',e',s',q.fw f'⟩⟩
 |rt w s1=>
  cases hr
  exact (eD (h1.run _ _ _ e1) gi).imp λD σ H ⟨φ,hE,hS,q⟩=>⟨φ,hE,hS,q⟩
 |bk w s1=>
  cases hr
  exact (eD (h1.run _ _ _ e1) gi).imp λD σ H ⟨φ,hE,hS,q⟩=>⟨φ,hE,hS,q⟩
 |ct w s1=>
  cases hr
  exact (eD (h1.run _ _ _ e1) gi).imp λD σ H ⟨φ,hE,hS,q⟩=>⟨φ,hE,hS,q⟩
theorem aC {i:Nat}{x:Str}{pos':Pos} (hN:X.N.Nodup) (hi:X.N[i]?=some x) (hx:Loc X.env.scope x) (he:IE K X e f) (hs:qcw e (some (.Name x pos')) pos.line X.env=pure false:=by rfl) (hf:X.fn x=true\/X.env.scope.names.lookup x=some .local:=by first|exact .inl rfl|exact .inr rfl|assumption) :
  IS K X (.Assign [.Name x pos'] e pos) (aD (.nm i) f):=by
 refine⟨λenv st r hr=>?_⟩
 simp only[aD,eG,qab,qad]at hr
 obtain⟨y,hy,e',ee,rfl⟩:=hr
 cases ee
 refine (xj hN hi hx (he.run _ _ _ hy) hs hf).imp ?_
 rintro D σ H ⟨φ,hE,hS,q⟩
 exact⟨φ,hE,hS,λv H1 φ1 f1 s1 w1=>q _ H1 φ1 f1 ((hE.fw hS f1).set i w1) s1⟩
theorem xL {tg:Expr}{g:Tg} (he:IE K X e f) (hg:PG X tg (tG K g)) (hs:qdu [tg] e pos.line X.env=pure false:=by rfl) (hw:qdv [tg] e X.env=pure none:=by rfl)
  (h1:aB tg=true:=by rfl):IS K X (.Assign [tg] e pos) (aD g f):=by
 refine⟨λenv st r hr=>?_⟩
 simp only[aD,qab,qad]at hr
 obtain⟨y,hy,e',ee,rfl⟩:=hr
 refine (no (he.run _ _ _ hy) hg hs hw (kF h1)).imp ?_
 rintro D σ H ⟨φ,hE,hS,q⟩
 exact⟨φ,hE,hS,λv H1 φ1 f1 s1 w1=>⟨φ1,y.2,env,y.1,e',hE.fw hS f1,s1,w1,ee,λσ' e'' _=>q σ' H1 φ1 f1 e'' s1⟩⟩
theorem Sr.putC {H:Hp}{φ:List Addr}{st:Sto}{n:Nat}{a:Addr}{o:HO}{c:C} (S:Sr K H φ st) (hn:φ[n]?=some a) (w:Fw φ φ H (upd H a o)->Rc K (upd H a o) φ n a c) :
  Fw φ φ H (upd H a o)/\Sr K (upd H a o) φ (st.set n c):=by
 have ha:a∈φ:=qbN hn
 have f:Fw φ φ H (upd H a o):=⟨⟨[],by simp,by simp⟩,λb o hb h=>by rw[upd_ne (λz=>hb (by rw[z];exact ha))];exact h,λb o h=>by
  by_cases z:b=a
  ·subst z;exact⟨_,upd_same⟩
  ·exact⟨o,by rw[upd_ne z];exact h⟩⟩
 refine⟨f,S.nd,by rw[qbv];exact S.len,λm b es e1 e2=>?_⟩
 by_cases hm:n=m
 ·subst hm
  rw[e1]at hn;cases hn
  have hl:n<st.length:=by rw[<-S.len];exact (qan.mp e1).1
  rw[qa5 hl]at e2
  cases e2
  exact w f
 ·rw[qbc hm]at e2
  have q:=S.at_ m b es e1 e2
  have hne:b≠a:=by
   rintro rfl
   obtain⟨h1,h1'⟩:=qan.mp hn
   obtain⟨h2,h2'⟩:=qan.mp e1
   exact hm ((qep S.nd).mp (h1'.trans h2'.symm))
  exact q.fw S f λo h=>by rw[upd_ne hne];exact h
theorem Sr.put {H:Hp}{φ:List Addr}{st:Sto}{n:Nat}{a:Addr}{vs:List V}{ds:List D} (S:Sr K H φ st) (hn:φ[n]?=some a) (w:Rls K H φ ds vs) :
  Fw φ φ H (upd H a (.lst vs))/\Sr K (upd H a (.lst vs)) φ (st.set n (.l ds)):=S.putC hn λf=>⟨vs,upd_same,w.fw S f⟩
theorem qk {st s':Sto}{o i v:W} (h:fR st o i v=some s'):∃ n k x ds j,o=.h n/\i=.d (.int k)/\v=.d x/\lg st n=some ds/\ixN ds.length k=some j/\s'=st.set n (.l (ds.set j x)):=by
 unfold fR at h
 split at h
 ·obtain⟨ds,e1,h⟩:=qab.mp h
  obtain⟨j,e2,h⟩:=qad.mp h
  exact⟨_,_,_,ds,j,rfl,rfl,rfl,e1,e2,h.symm⟩
 ·cases h
theorem cT {tpos:Pos} (ho:IE K X a fa) (hi:IE K X b fb) (hv:IE K X e f) (hb:mO b=true:=by rfl) (hs:qdu [.Subscript a b tpos] e pos.line X.env=pure false:=by rfl) (hw:qdv [.Subscript a b tpos] e X.env=pure none:=by rfl) :
  IS K X (.Assign [.Subscript a b tpos] e pos) (bE fa fb f):=by
 refine⟨λenv st r hr=>?_⟩
 simp only[bE,qab,qad]at hr
 obtain⟨rv,ev,ro,eo,ri,ei,s',es,rfl⟩:=hr
 refine (no (hv.run _ _ _ ev) (pO (ho.run _ _ _ eo) (hi.run _ _ _ ei) lG (mx hb)) hs hw (kF rfl)).imp ?_
 rintro D σ H ⟨φ,hE,hS,q⟩
 refine⟨φ,hE,hS,λv H1 φ1 f1 s1 w1=>⟨φ1,hE.fw hS f1,s1,λo H2 φ2 f2 s2 w2=>⟨φ2,(hE.fw hS f1).fw s1 f2,s2,λi H3 φ3 f3 s3 w3=>?_⟩⟩⟩
 have e3:=((hE.fw hS f1).fw s1 f2).fw s2 f3
 have w1':=(w1.fw s1 f2).fw s2 f3
 have w2':=w2.fw s2 f3
 obtain⟨ro1,ro2⟩:=ro
 obtain⟨rv1,rv2⟩:=rv
 obtain⟨ri1,ri2⟩:=ri
 obtain⟨n,k,x,ds,j,rfl,rfl,rfl,eds,ej,rfl⟩:=qk es
 obtain⟨p,ep,rfl⟩:=w2'
 obtain⟨vs,hp,rl⟩:=s3.atl n p ds ep eds
 have w3':i=.int k:=w3
 subst w3'
 obtain⟨f4,s4⟩:=s3.put ep (Rls.set j rl w1')
 refine⟨p,vs,k,j,rfl,rfl,hp,by rw[<-rl.length];exact ej,?_⟩
 exact q _ _ φ3 (((f1.trans f2).trans f3).trans f4) (e3.fw s3 f4) s4
theorem aU (h:IE K X e f):IS K X (.Return (some e) pos) (bY f):=by
 refine⟨λenv st r hr=>?_⟩
 simp only[bY,qad]at hr
 obtain⟨y,hy,rfl⟩:=hr
 exact (xC (h.run _ _ _ hy)).imp λD σ H ⟨φ,hE,hS,q⟩=>⟨φ,hE,hS,q⟩
theorem km (h:IE K X e f) (hs:qcw e none pos.line X.env=pure false:=by rfl):IS K X (.Expr e pos) (gD f):=by
 refine⟨λenv st r hr=>?_⟩
 simp only[gD,qad]at hr
 obtain⟨y,hy,rfl⟩:=hr
 exact (vM (h.run _ _ _ hy) hs).imp λD σ H ⟨φ,hE,hS,q⟩=>⟨φ,hE,hS,λv H1 φ1 f1 s1 w1=>q σ H1 φ1 f1 (hE.fw hS f1) s1⟩
theorem cw {tc:Tf}{sa sb:List Stmt} (hc:IT K X c tc) (ha:ISs K X sa ga) (hb:ISs K X sb gb):IS K X (.If c sa sb pos) (cy tc ga gb):=by
 refine⟨λenv st r hr=>?_⟩
 simp only[cy,qab]at hr
 obtain⟨⟨k,s1⟩,hx,hr⟩:=hr
 cases k with
 |true=>
  rw[if_pos rfl]at hr
  refine (wG (hc.run _ _ _ hx) (ha.run _ _ _ hr) gi).imp ?_
  rintro D σ H ⟨φ,hE,hS,q⟩
  refine⟨φ,hE,hS,λH1 φ1 f1 s1=>rW ?_⟩
  exact⟨φ1,hE.fw hS f1,s1,q.fw f1⟩
 |false=>
  rw[if_neg qaF]at hr
  refine (wG (hc.run _ _ _ hx) gi (hb.run _ _ _ hr)).imp ?_
  rintro D σ H ⟨φ,hE,hS,q⟩
  refine⟨φ,hE,hS,λH1 φ1 f1 s1=>sE ?_⟩
  exact⟨φ1,hE.fw hS f1,s1,q.fw f1⟩
theorem ua:IS K X (.Break pos) pZ:=by
 refine⟨λenv st r hr=>?_⟩
 cases hr
 exact uM.imp λD σ H ⟨φ,hE,hS,q⟩=>q σ H φ (Fw.refl φ H) hE hS
theorem rA:IS K X (.Continue pos) mv:=by
 refine⟨λenv st r hr=>?_⟩
 cases hr
 exact oJ.imp λD σ H ⟨φ,hE,hS,q⟩=>q σ H φ (Fw.refl φ H) hE hS
def yx (K:qac) (g:Sf):TS:=λD σ H=>∃ env st r,g env st=some r/\tS K env st r D σ H
def wx (K:qac) (f:Ef):TE:=λσ H Q=>∃ env st r,f env st=some r/\tI K env st r σ H Q
def sO (K:qac) (f:Tf):TT:=λσ H Q=>∃ env st r,f env st=some r/\tIT K env st r σ H Q
theorem ISs.any (h:ISs K X ss ga):PSs X ss (yx K ga):=λpins s σ H D I ⟨env,st,r,e,q⟩=>h.run env st r e pins s σ H D I q
theorem IE.any (h:IE K X e f):PE X e (wx K f):=λpins s σ H D I ⟨env,st,r,e,q⟩=>h.run env st r e pins s σ H D I q
theorem IT.any {tf:Tf} (h:IT K X e tf):PT X e (sO K tf):=λpins s σ H D I ⟨env,st,r,e,q⟩=>h.run env st r e pins s σ H D I q
def Yl (K:qac) (φ0:List Addr) (H0:Hp) (J:It) (ds:List D):Prop:=∀ (H:Hp) (φ:List Addr) (st:Sto) (i:Nat),Fw φ0 φ H0 H->Sr K H φ st->
 (∀ d,ds[i]?=some d->J.go i H/\∀ x H',J.yld i H x H'->aY H H'/\Rl K H' φ d x)/\(ds.length=i->J.stop i H)
def tII (K:qac) (env:Ev) (st:Sto) (r:List D×Sto):TI:=λσ H R=>∃ φ,Er K H φ env σ/\Sr K H φ st/\∀ J H' φ',Fw φ φ' H H'->Sr K H' φ' r.2->Yl K φ' H' J r.1->R J H'
structure II (K:qac) (X:Cx) (tg iter:Expr) (f:Lf):Prop where
 run:∀ env st r,f env st=some r->PI X tg iter (tII K env st r)
theorem PI.imp {tg iter:Expr}{t t':TI} (h:PI X tg iter t) (m:∀ σ H R,t' σ H R->t σ H R):PI X tg iter t':=λpins s σ H R I q=>h pins s σ H R I (m σ H R q)
variable {tg:Expr}
end
section
variable {K:qac}{X:Cx}{pos:Pos}{tg e a b:Expr}{f:Ef}{af:Af}
theorem cb (h:IE K X e f) (hK:X.K=K:=by rfl):II K X tg e (aL f):=by
 subst hK
 refine⟨λenv st r hr=>?_⟩
 simp only[aL,qab]at hr
 obtain⟨⟨w,s1⟩,hy,hr⟩:=hr
 match w,hr with
 |.d (.tup ds),hr=>
  cases hr
  refine (yj (h.run _ _ _ hy)).imp ?_
  rintro σ H R ⟨φ,hE,hS,q⟩
  refine⟨φ,hE,hS,λv H1 φ1 f1 s1 w1=>?_⟩
  obtain⟨a,vs,rfl,hq,hr⟩:=w1
  refine⟨a,rfl,⟨vs,(SqT.of hq)⟩,q _ H1 φ1 f1 s1 λH2 φ2 st2 i f2 s2=>?_⟩
  have hq2:=(SqT.of hq).fw s1 f2
  have hr2:=hr.fw s1 f2
  refine⟨λd hd=>?_,λhi=>⟨vs,hq2,by rw[<-hr2.length];exact qcP hi⟩⟩
  obtain⟨v,ev,rv⟩:=hr2.get hd
  refine⟨⟨vs,v,hq2,ev⟩,λx H' y=>?_⟩
  obtain⟨rfl,y⟩:=y
  have:=y vs hq2
  rw[ev]at this
  cases this
  exact⟨aY.refl _,rv⟩
 |.d (.lst ds),hr=>
  cases hr
  refine (vI (h.run _ _ _ hy)).imp ?_
  rintro σ H R ⟨φ,hE,hS,q⟩
  refine⟨φ,hE,hS,λv H1 φ1 f1 s1 w1=>?_⟩
  obtain⟨a,vs,rfl,h0,hq,hr⟩:=w1
  refine⟨a,rfl,⟨vs,.inl hq⟩,q _ H1 φ1 f1 s1 λH2 φ2 st2 i f2 s2=>?_⟩
  have hq2:SqL X.K H2 a vs:=.inl (hq.fw f2 h0)
  have hr2:=hr.fw s1 f2
  refine⟨λd hd=>?_,λhi=>⟨vs,hq2,by rw[<-hr2.length];exact qcP hi⟩⟩
  obtain⟨v,ev,rv⟩:=hr2.get hd
  refine⟨⟨vs,v,hq2,ev⟩,λx H' y=>?_⟩
  obtain⟨rfl,y⟩:=y
  have:=y vs hq2
  rw[ev]at this
  cases this
  exact⟨aY.refl _,rv⟩
theorem sI (lo:Int) (n i:Nat):(dL lo n)[i]?=if i<n then some (.int (lo+i)) else none:=by
 unfold dL
 rw[qaI]
 by_cases h:i<n
 ·rw[qa9 h,if_pos h];rfl
 ·rw[qa4 (by simpa using h),if_neg h];rfl
theorem ou (lo:Int) (n:Nat):(dL lo n).length=n:=by unfold dL;rw[qam,qao]
theorem xk (lo:Int) (n:Nat) {φ:List Addr}{H:Hp}:Yl K φ H (Itr lo n) (dL lo n):=by
 intro H2 φ2 st2 i f2 s2
 refine⟨λd hd=>?_,λhi=>by rw[ou]at hi;exact qcP hi⟩
 rw[sI]at hd
 by_cases h:i<n
 ·rw[if_pos h]at hd
  cases hd
  refine⟨h,λx H' y=>?_⟩
  obtain⟨rfl,rfl⟩:=y
  exact⟨aY.refl _,rfl⟩
 ·rw[if_neg h]at hd;cases hd
theorem kq {p:Pos} (hg:Gl X "range") (hm:X.mg "range" = none) (ha:IA K X [a] af) (hs:aB a=true:=by rfl):II K X tg (.Call (.Name "range" p) [a] [] pos) (eJ af):=by
 refine⟨λenv st r hr=>?_⟩
 simp only[eJ,qab]at hr
 obtain⟨⟨ws,s1⟩,hy,hr⟩:=hr
 match ws,hr with
 |[.d (.int j)],hr=>
  have hr':(if -(2^62)<=j/\j<2^62 then some (dL 0 j.toNat,s1) else none)=some r:=hr
  by_cases hj:-(2^62)<=j/\j<2^62
  ·rw[if_pos hj]at hr'
   cases hr'
   refine (sq hg hm (ha.run _ _ _ hy) (gW hs)).imp ?_
   rintro σ H R ⟨φ,hE,hS,q⟩
   refine⟨φ,hE,hS,λvs H1 φ1 f1 s1 w1=>?_⟩
   obtain⟨v,r,rfl,r1,rfl⟩:=w1
   exact⟨j,by rw[show v=.int j from r1],hj.1,hj.2,q _ H1 φ1 f1 s1 (xk 0 _)⟩
  ·rw[if_neg hj]at hr';cases hr'
theorem ik:∀ (ds:List D) (k i:Nat),(gF k ds)[i]?=(ds[i]?).map λd=>D.tup [.int ((k+i:Nat):Int),d]
 |[],k,i=>by simp[gF]
 |d::ds,k,0=>by simp[gF]
 |d::ds,k,i+1=>by
  have:=ik ds (k+1) i
  rw[show k+1+i=k+(i+1) by lia]at this
  simpa [gF] using this
theorem mh:∀ (ds:List D) (k:Nat),(gF k ds).length=ds.length
 |[],_=>rfl
 |d::ds,k=>by rw[gF,qaq,qaq,mh ds]
theorem qT {S:Hp->List V->Prop}{ds:List D}{vs:List V}{φ:List Addr}{H:Hp} (hS:∀ H' φ',Fw φ φ' H H'->S H' vs) (hr:∀ H' φ',Fw φ φ' H H'->Rls K H' φ' ds vs):Yl K φ H (Ite S) (gF 0 ds):=by
 intro H2 φ2 st2 i f2 s2
 have q2:=hS H2 φ2 f2
 have r2:=hr H2 φ2 f2
 refine⟨λd hd=>?_,λhi=>⟨vs,q2,by rw[<-r2.length,<-mh ds 0];exact hi⟩⟩
 rw[ik,qad]at hd
 obtain⟨d',hd',rfl⟩:=hd
 obtain⟨v,ev,rv⟩:=r2.get hd'
 refine⟨⟨vs,v,q2,ev⟩,λx H' y=>?_⟩
 obtain⟨T,v',y1,hT,rfl,rfl⟩:=y
 have:=y1 vs q2
 rw[ev]at this
 cases this
 refine⟨aY.new hT _,T,_,rfl,upd_same,_,_,rfl,?_,_,_,rfl,rv.fw s2 (Fw.new hT),rfl⟩
 show V.int (i:Int)=V.int ((0+i:Nat):Int)
 rw[qbI]
theorem jd {elts:List Expr}{k:Nat}{tpos p:Pos} (hg:Gl X "enumerate") (hm:X.mg "enumerate" = none) (ha:IA K X [a] af) (hs:aB a=true:=by rfl) (hK:X.K=K:=by rfl) :
  II K X (.Tuple elts k tpos) (.Call (.Name "enumerate" p) [a] [] pos) (eL af):=by
 subst hK
 refine⟨λenv st r hr=>?_⟩
 simp only[eL,qab]at hr
 obtain⟨⟨ws,s1⟩,hy,hr⟩:=hr
 match ws,hr with
 |[.d (.tup ds)],hr=>
  cases hr
  refine (uy hg hm (ha.run _ _ _ hy) (gW hs)).imp ?_
  rintro σ H R ⟨φ,hE,hS,q⟩
  refine⟨φ,hE,hS,λvs H1 φ1 f1 s1 w1=>?_⟩
  obtain⟨v,r,rfl,⟨a,us,rfl,hq,hr⟩,rfl⟩:=w1
  exact⟨a,rfl,⟨us,(SqT.of hq)⟩,q _ H1 φ1 f1 s1 (qT (λH' φ' f=>(SqT.of hq).fw s1 f) λH' φ' f=>hr.fw s1 f)⟩
 |[.d (.lst ds)],hr=>
  cases hr
  refine (tY hg hm (ha.run _ _ _ hy) (gW hs)).imp ?_
  rintro σ H R ⟨φ,hE,hS,q⟩
  refine⟨φ,hE,hS,λvs H1 φ1 f1 s1 w1=>?_⟩
  obtain⟨v,r,rfl,⟨a,us,rfl,h0,hq,hr⟩,rfl⟩:=w1
  exact⟨a,rfl,⟨us,.inl hq⟩,q _ H1 φ1 f1 s1 (qT (λH' φ' f=>.inl (hq.fw f h0)) λH' φ' f=>hr.fw s1 f)⟩
theorem dH {iter:Expr}{body:List Stmt}{fi:Lf}{g:Tg}{gb:Sf} (hi:II K X tg iter fi) (hg:PG X tg (tG K g)) (hb:ISs K X body gb) (hp:qfT (model X.prog X.w) X.A X.env X.xe) (hc:X.calm=true:=by rfl)
  (hs:∀ x,qb3 iter X.env x=pure x:=by intro _;rfl):IS K X (.For tg iter body [] pos) (gI fi g gb):=by
 refine⟨λenv st r hr=>?_⟩
 simp only[gI,qab]at hr
 obtain⟨⟨ds,s1⟩,hy,hr⟩:=hr
 refine (yd hp hc (hi.run _ _ _ hy) hg hb.any hs).imp ?_
 rintro D σ H ⟨φ,hE,hS,q⟩
 refine⟨φ,hE,hS,λJ H1 φ1 f1 S1 yl=>?_⟩
 refine⟨λi m σ H=>m=ds.length - i/\i<=ds.length/\∃ env st φ2,Fw φ1 φ2 H1 H/\Er K H φ2 env σ/\Sr K H φ2 st/\cC g gb (ds.drop i) env st=some r,⟨ds.length,by simp,qcL _,env,s1,φ1,Fw.refl _ _,hE.fw hS f1,S1,hr⟩,?_⟩
 rintro i m σ H2 ⟨rfl,hi,env2,st2,φ2,f2,e2,S2,h2⟩
 obtain⟨y1,y2⟩:=yl H2 φ2 st2 i f2 S2
 by_cases hlt:i<ds.length
 ·obtain⟨go,yld⟩:=y1 ds[i] (qaW hlt)
  rw[qeK hlt]at h2
  simp only[cC,qab]at h2
  obtain⟨e3,he3,r3,hr3,h3⟩:=h2
  refine .inr ⟨go,λσ' H'=>i+1<=ds.length/\∃ env st φ2,Fw φ1 φ2 H1 H'/\Er K H' φ2 env σ'/\Sr K H' φ2 st/\cC g gb (ds.drop (i+1)) env st=some r,λσ' H' ⟨hn,p'⟩=>⟨ds.length - (i+1),by lia,rfl,hn,p'⟩,λx H' y=>?_⟩
  obtain⟨sm,rx⟩:=yld x H' y
  have S3:=S2.same sm
  have f3:=f2.trans (Fw.same (φ:=φ2) sm)
  refine⟨φ2,st2,env2,.d ds[i],e3,e2.fw S2 (Fw.same sm),S3,rx,he3,λσ' e' _=>?_⟩
  refine⟨e3,st2,r3,hr3,φ2,e',S3,?_⟩
  cases r3 with
  |nx e4 s4=>exact λσ4 H4 φ4 f4 e4' s4'=>⟨hlt,e4,s4,φ4,f3.trans f4,e4',s4',h3⟩
  |ct e4 s4=>exact λσ4 H4 φ4 f4 e4' s4'=>⟨hlt,e4,s4,φ4,f3.trans f4,e4',s4',h3⟩
  |bk e4 s4=>
   cases h3
   exact λσ4 H4 φ4 f4 e4' s4'=>q σ4 H4 φ4 (f1.trans (f3.trans f4)) e4' s4'
  |rt w s4=>
   cases h3
   exact λv H4 φ4 f4 s4' w4=>q v H4 φ4 (f1.trans (f3.trans f4)) s4' w4
 ·have hi':i=ds.length:=by lia
  subst hi'
  rw[qf3]at h2
  cases h2
  exact .inl ⟨y2 rfl,q σ H2 φ2 (f1.trans f2) e2 S2⟩
def pX (n:Nat) (c:Tf) (b:Sf):Sf
 |env,st=>cP c b n env st
theorem oF {c:Expr}{body:List Stmt}{tc:Tf}{gb:Sf} (n:Nat) (hc:IT K X c tc) (hb:ISs K X body gb) (hp:qfT (model X.prog X.w) X.A X.env X.xe):IS K X (.While c body [] pos) (pX n tc gb):=by
 refine⟨λenv st r hr=>?_⟩
 refine (tZ hp hc.any hb.any).imp ?_
 rintro D σ H ⟨φ,hE,hS,q⟩
 refine⟨λm σ H'=>∃ env st φ2,Fw φ φ2 H H'/\Er K H' φ2 env σ/\Sr K H' φ2 st/\cP tc gb m env st=some r,⟨n,env,st,φ,Fw.refl _ _,hE,hS,hr⟩,?_⟩
 rintro m σ H2 ⟨env2,st2,φ2,f2,e2,S2,h2⟩
 cases m with
 |zero=>cases h2
 |succ m=>
  simp only[cP,qab]at h2
  obtain⟨⟨k,s3⟩,hk,h2⟩:=h2
  refine⟨env2,st2,_,hk,φ2,e2,S2,λH3 φ3 f3 S3=>?_⟩
  cases k with
  |false=>
   rw[if_neg qaF]at h2
   cases h2
   exact sE (q σ H3 φ3 (f2.trans f3) (e2.fw S2 f3) S3)
  |true=>
   simp only[if_true,qab]at h2
   obtain⟨r3,hr3,h3⟩:=h2
   refine rW ⟨λσ' H'=>∃ env st φ2,Fw φ φ2 H H'/\Er K H' φ2 env σ'/\Sr K H' φ2 st/\cP tc gb m env st=some r,λσ' H' p'=>⟨m,qby _,p'⟩,?_⟩
   refine⟨env2,s3,r3,hr3,φ3,e2.fw S2 f3,S3,?_⟩
   have f3':=f2.trans f3
   cases r3 with
   |nx e4 s4=>exact λσ4 H4 φ4 f4 e4' s4'=>⟨e4,s4,φ4,f3'.trans f4,e4',s4',h3⟩
   |ct e4 s4=>exact λσ4 H4 φ4 f4 e4' s4'=>⟨e4,s4,φ4,f3'.trans f4,e4',s4',h3⟩
   |bk e4 s4=>
    cases h3
    exact λσ4 H4 φ4 f4 e4' s4'=>q σ4 H4 φ4 (f3'.trans f4) e4' s4'
   |rt w s4=>
    cases h3
    exact λv H4 φ4 f4 s4' w4=>q v H4 φ4 (f3'.trans f4) s4' w4
structure ITs (K:qac) (X:Cx) (ifs:List Expr) (t:Tf):Prop where
 run:PTs X ifs (sO K t)
theorem bP:ITs K X [] bG:=by
 refine⟨λpins s σ H Q I ⟨env,st,r,e,φ,hE,hS,q⟩=>?_⟩
 cases e
 exact vd pins s σ H Q I (q H φ (Fw.refl φ H) hS)
theorem vY {c:Expr}{t:Tf} (h:IT K X c t):ITs K X [c] t:=⟨vG h.any⟩
theorem Er.emb {H:Hp}{φ:List Addr}{env:Ev}{σ:St} (h:Er K H φ env σ) (k:Nat) (js:List Nat):Er K H φ (jl k js env) (gf k js σ):=by
 refine⟨by unfold jl gf;simp,λi w e=>?_⟩
 unfold jl at e
 unfold gf
 by_cases hi:i<k
 ·rw[qaC (by simpa using hi),qcD,if_pos hi]at e
  cases e
 ·rw[qaJ (by simpa using hi),qca,qaI,qad]at e
  obtain⟨j,ej,e⟩:=e
  have ej2:env[j]?=some (some w):=by
   rw[qex]at e
   cases q:env[j]? with
   |none=>rw[q]at e;cases e
   |some o=>rw[q]at e;rw[show o=some w from e]
  obtain⟨v,ev,rv⟩:=h.at_ j w ej2
  refine⟨v,?_,rv⟩
  rw[qaJ (by simpa using hi),qca,qaI,ej]
  show some ((σ[j]?).getD none)=_
  rw[ev];rfl
theorem Sub.stay {k:Nat}{js is:List Nat}{σ σ':St} (h:wb is (gf k js σ) σ') (hi:∀ j∈is,j<k):Sub (gf k js σ) σ':=by
 refine⟨h.1.symm,λj v e=>?_⟩
 by_cases hj:j∈is
 ·have:=hi j hj
  unfold gf at e
  rw[qaC (by simpa using this),qcD,if_pos this]at e
  cases e
 ·rw[h.2 j hj];exact e
theorem pM {k:Nat}{js:List Nat}{g:Tg}{tt:Tf}{te:Ef}{env:Ev}{st s1:Sto}{ds:List D}{r:List D×Sto} (hgi:∀ j∈sJ g,j<k) (hdl:ds.length<=1000000) (hr':lcI g tt te (jl k js env) ds s1=some r) :
  ∀ σ H Q,tIL K env st r σ H Q->tLc (gf k js) (tII K env st (ds,s1)) (tG K g) (sO K tt) (wx K te) σ H Q:=by
 rintro σ H Q ⟨φ,hE,hS,q⟩
 refine⟨φ,hE,hS,λJ H1 φ1 f1 S1 yl=>?_⟩
 have hE1:=(hE.fw hS f1).emb k js
 refine⟨λi m ys H2=>m=ds.length - i/\i<=ds.length/\∃ st φ2 es r2,Fw φ1 φ2 H1 H2/\Sr K H2 φ2 st/\Rls K H2 φ2 es ys/\es.length<=i/\lcI g tt te (jl k js env) (ds.drop i) st=some r2/\r=(es++r2.1,r2.2),⟨ds.length,by simp,qcL _,s1,φ1,[],r,Fw.refl _ _,S1,rfl,qal _,hr',rfl⟩,?_⟩
 rintro i m ys H2 ⟨rfl,hi,st2,φ2,es,r2,f2,S2,rl2,hle,h2,rfl⟩
 obtain⟨y1,y2⟩:=yl H2 φ2 st2 i f2 S2
 by_cases hlt:i<ds.length
 ·obtain⟨go,yld⟩:=y1 ds[i] (qaW hlt)
  rw[qeK hlt]at h2
  simp only[lcI,qab]at h2
  obtain⟨e3,he3,⟨kb,s3⟩,hb3,h3⟩:=h2
  have hz:ys.length<qaM:=by
   rw[<-rl2.length]
   have:qaM=16777216:=qeb
   lia
  refine .inr ⟨go,hz,λys' H'=>i+1<=ds.length/\∃ st φ2 es' r2',Fw φ1 φ2 H1 H'/\Sr K H' φ2 st/\Rls K H' φ2 es' ys'/\es'.length<=i+1/\lcI g tt te (jl k js env) (ds.drop (i+1)) st=some r2'/\(es++r2.1,r2.2)=(es'++r2'.1,r2'.2),λys' H' ⟨hn,p'⟩=>⟨ds.length - (i+1),by lia,rfl,hn,p'⟩,λx H' y=>?_⟩
  obtain⟨sm,rx⟩:=yld x H' y
  have S3:=S2.same sm
  have f3:=f2.trans (Fw.same (φ:=φ2) sm)
  refine⟨φ2,st2,jl k js env,.d ds[i],e3,hE1.fw S1 f3,S3,rx,he3,λσ' e' stay=>⟨Sub.stay stay hgi,?_⟩⟩
  refine⟨e3,st2,_,hb3,φ2,e',S3,λH4 φ4 f4 S4=>?_⟩
  cases kb with
  |false=>
   rw[if_neg qaF]at h3
   exact sE ⟨hlt,s3,φ4,es,r2,f3.trans f4,S4,(rl2.fw S2 (Fw.same sm)).fw S3 f4,by lia,h3,rfl⟩
  |true=>
   simp only[if_true,qab,qad]at h3
   obtain⟨x5,hx5,zs,hzs,r5,hr5,rfl⟩:=h3
   refine rW ⟨e3,s3,x5,hx5,φ4,e'.fw S3 f4,S4,λv H5 φ5 f5 S5 w5=>?_⟩
   obtain⟨x5,s5⟩:=x5
   cases x5 with
   |h n=>cases hzs
   |d z=>
    cases hzs
    refine⟨hlt,s5,φ5,es++[z],r5,(f3.trans f4).trans f5,S5,(((rl2.fw S2 (Fw.same sm)).fw S3 f4).fw S4 f5).append ⟨v,[],rfl,w5,rfl⟩,by rw[qau];simp;lia,hr5,?_⟩
    simp
 ·have hi':i=ds.length:=by lia
  subst hi'
  rw[qf3]at h2
  cases h2
  refine .inl ⟨y2 rfl,λDn hD=>?_⟩
  have:=q Dn ys H2 φ2 (f1.trans f2) S2 hD
  exact this (by simpa using rl2)
theorem fK {scope:Scope}{Nc:List Str}{k:Nat}{js:List Nat}{elt iter:Expr}{ifs:List Expr}{fi:Lf}{g:Tg}{tt:Tf}{te:Ef}
  (S:eZ X scope Nc (gf k js)) (hc:X.calm=true) (hgi:∀ j∈sJ g,j<k) (hi:II K X tg iter fi)
  (hg:∀ cells s H C fp,PG (lcX X scope cells Nc s H C fp) tg (tG K g)) (ht:∀ cells s H C fp,ITs K (lcX X scope cells Nc s H C fp) ifs tt) (he:∀ cells s H C fp,IE K (lcX X scope cells Nc s H C fp) elt te)
  (hs:∀ x,qb3 iter X.env x=pure x:=by intro _;rfl):IL K X (.ListComp elt [⟨tg,iter,ifs,0⟩] scope pos) (iLc k js fi g tt te):=by
 refine⟨λenv st r hr=>?_⟩
 simp only[iLc,qab]at hr
 obtain⟨⟨ds,s1⟩,hy,hr⟩:=hr
 have hr':(if ds.length<=1000000 then lcI g tt te (jl k js env) ds s1 else none)=some r:=hr
 by_cases hdn:¬ ds.length<=1000000
 ·rw[if_neg hdn]at hr';cases hr'
 have hdl:ds.length<=1000000:=by lia
 rw[if_pos hdl]at hr'
 refine (yH S hc (hi.run _ _ _ hy) hg (λcells s H C fp=>(ht cells s H C fp).run) (λcells s H C fp=>(he cells s H C fp).any) hs).imp (pM hgi hdl hr')
theorem sZ {scope:Scope}{Nc:List Str}{k:Nat}{js:List Nat}{elt iter:Expr}{ifs:List Expr}{fi:Lf}{g:Tg}{tt:Tf}{te:Ef}{i0:Nat}{x0:Str}{py spos:Pos}
  (hN0:X.N.Nodup) (hi0:X.N[i0]?=some x0) (hx0:Loc X.env.scope x0) (S:eZ X scope Nc (gf k js)) (hc:X.calm=true) (hgi:∀ j∈sJ g,j<k) (hi:II K X tg iter fi)
  (hg:∀ cells s H C fp,PG (lcX X scope cells Nc s H C fp) tg (tG K g)) (ht:∀ cells s H C fp,ITs K (lcX X scope cells Nc s H C fp) ifs tt) (he:∀ cells s H C fp,IE K (lcX X scope cells Nc s H C fp) elt te)
  (hsw:qcw (.ListComp elt [⟨tg,iter,ifs,0⟩] scope pos) (some (.Name x0 py)) spos.line X.env=pure true:=by rfl)
  (hf0:X.fn x0=true\/X.env.scope.names.lookup x0=some .local:=by first|exact .inl rfl|exact .inr rfl|assumption)
  (hs:∀ x,qb3 iter X.env x=pure x:=by intro _;rfl):IS K X (.Assign [.Name x0 py] (.ListComp elt [⟨tg,iter,ifs,0⟩] scope pos) spos) (aD (.nm i0) (aM (iLc k js fi g tt te)))/\
   IS K X (.Assign [.Name x0 py] (.ListComp elt [⟨tg,iter,ifs,0⟩] scope pos) spos) (aD (.nm i0) (dZ (iLc k js fi g tt te))):=by
 have key:∀ env st r0 r,iLc k js fi g tt te env st=some r->(∀ σ φ H (D:lK),Er K H φ env σ->Sr K H φ st->ug K φ H D r0->∀ a vs H1 φ',Fw φ φ' H H1->Sr K H1 φ' r.2->H1 a=none->Rls K H1 φ' r.1 vs->D.nx (σ.set i0 (some (.ref a))) (upd H1 a (.lst vs)))->
   PS X (.Assign [.Name x0 py] (.ListComp elt [⟨tg,iter,ifs,0⟩] scope pos) spos) (tS K env st r0):=by
  intro env st r0 r hr h
  simp only[iLc,qab]at hr
  obtain⟨⟨ds,s1⟩,hy,hr⟩:=hr
  have hr':(if ds.length<=1000000 then lcI g tt te (jl k js env) ds s1 else none)=some r:=hr
  by_cases hdn:¬ ds.length<=1000000
  ·rw[if_neg hdn]at hr';cases hr'
  have hdl:ds.length<=1000000:=by lia
  rw[if_pos hdl]at hr'
  refine (wt hN0 hi0 hx0 S hc (hi.run _ _ _ hy) hg (λcells s H C fp=>(ht cells s H C fp).run) (λcells s H C fp=>(he cells s H C fp).any) hsw hf0 hs).imp ?_
  rintro D σ H ⟨φ,hE,hS,q⟩
  exact pM hgi hdl hr' σ H _ ⟨φ,hE,hS,h σ φ H D hE hS q⟩
 constructor
 ·refine⟨λenv st r hr=>?_⟩
  simp only[aD,aM,eG,qab,qad]at hr
  obtain⟨y,⟨r2,hy,rfl⟩,e',ee,rfl⟩:=hr
  cases ee
  refine key _ _ _ _ hy λσ φ H D hE hS q a vs H1 φ1 f1 s1 n1 w1=>?_
  exact q _ _ φ1 (f1.trans (Fw.new n1)) ((((hE.fw hS f1).fw s1 (Fw.new n1))).set i0 (w:=.d (.lst r2.1)) ⟨a,vs,rfl,s1.nin n1,.inl upd_same,w1.fw s1 (Fw.new n1)⟩) (s1.new n1)
 ·refine⟨λenv st r hr=>?_⟩
  simp only[aD,dZ,eG,qab,qad]at hr
  obtain⟨y,⟨r2,hy,rfl⟩,e',ee,rfl⟩:=hr
  cases ee
  refine key _ _ _ _ hy λσ φ H D hE hS q a vs H1 φ1 f1 s1 n1 w1=>?_
  exact q _ _ (φ1++[a]) (f1.trans (Fw.more n1)) (((hE.fw hS f1).fw s1 (Fw.more n1)).set i0 (w:=.h r2.2.length) ⟨a,by rw[<-s1.len];simp,rfl⟩) (s1.more n1 w1)
end
def eH (n k:Nat) (b:Sf):Fn
 |ws,st=>if ws.length=k then (b (ws.map some++qav (n - k) none) st).bind λr=>match r with
 |.nx _ s=>some (.d .non,s)
 |.rt w s=>some (w,s)
 |_=>none
 else none
def qu (n:Nat) (w:W) (s:Sto):Option (W×Sto):=match w with
 |.d x=>some (.d x,s.take n)
 |.h m=>if m<n then some (.h m,s.take n) else (lg s m).map λds=>(.d (.lst ds),s.take n)
def hJ (n k:Nat) (b:Sf):Fn
 |ws,st=>if ws.length=k then (b (ws.map some++qav (n - k) none) st).bind λr=>match r with
 |.nx _ s=>some (.d .non,s.take st.length)
 |.rt w s=>qu st.length w s
 |_=>none
 else none
section
variable {P:qa0}{w:World}{K:qac}{mg:Str->Option Value}{base:Heap}
theorem ld {H:Hp}{φ:List Addr}{N:List Str}{k:Nat}:∀ {ws:List W}{vs:List V},Rws K H φ ws vs->ws.length=k->Er K H φ (ws.map some++qav (N.length - k) none) (fP N vs):=by
 intro ws vs r hk
 have hl:=r.length
 refine⟨by unfold fP;simp;lia,λi x e=>?_⟩
 unfold fP
 by_cases hi:i<ws.length
 ·rw[qaC (by simpa using hi),qaI,qad]at e
  obtain⟨y,ey,e⟩:=e
  have:∃ v,vs[i]?=some v/\Rw K H φ y v:=by
   clear hk hl hi e
   induction ws generalizing vs i with
   |nil=>simp at ey
   |cons w ws ih=>
    obtain⟨v,r',rfl,r1,r2⟩:=r
    cases i with
    |zero=>simp at ey;subst ey;exact⟨v,rfl,r1⟩
    |succ i=>simpa using ih r2 i (by simpa using ey)
  obtain⟨v,ev,rv⟩:=this
  cases e
  refine⟨v,?_,rv⟩
  rw[qaC (by rw[qam,<-hl];exact hi),qaI,ev];rfl
 ·rw[qaJ (by simpa using hi)]at e
  have:=qbN e
  have:=(List.mem_replicate.mp this).2
  cases this
theorem iz {x qual:Str}{st:Stmt}{f:Addr}{fd:qa2}{N ps:List Str}{k:Nat}{b:Sf} (F:Fun K x qual st f fd) (S:aK N ps (ac st))
  (hb:∀ (cdv:Value) (A:qbb) (outer:List Env) (s:qak) (H:Hp) (E:XK),cN k (A.deeper (qd8 qual (ac st) s.heap.objs.size f cdv))->ISs K (ma CX0 P w K mg base N qual (ac st) f cdv A outer s H E).nox (aF st) b) :
  bO P w K mg base CX0 (k+1) f fd ps (spI K (eH N.length ps.length b)):=by
 refine F.ok S (λvs H Q E h=>?_) λcdv A outer s H vs Q E hr h=>?_
 ·obtain⟨φ,st,ws,r,e,rw,_⟩:=h
  rw[eH]at e
  by_cases hl:ws.length=ps.length
  ·rw[<-rw.length,hl]
  ·rw[if_neg hl]at e;cases e
 ·obtain⟨φ,st',ws,r,e,rw,S',q⟩:=h
  rw[eH]at e
  by_cases hl:ws.length=ps.length
  ·rw[if_pos hl]at e
   obtain⟨fl,e1,e2⟩:=qab.mp e
   refine⟨_,(hb cdv A outer s H E hr).run _ _ _ e1,φ,ld rw hl,S',?_⟩
   cases fl with
   |nx e s=>cases e2;exact λσ' H' φ' f' e' s'=>q .non H' φ' f' s' rfl
   |rt w s=>cases e2;exact λv H' φ' f' s' w'=>q v H' φ' f' s' w'
   |bk e s=>cases e2
   |ct e s=>cases e2
  ·rw[if_neg hl]at e;cases e
theorem Fw.less {φ φ':List Addr}{H H':Hp} (f:Fw φ φ' H H'):Fw φ φ H H':=⟨⟨[],by simp,by simp⟩,f.keep,f.there⟩
theorem oN {x qual:Str}{st:Stmt}{f:Addr}{fd:qa2}{N ps:List Str}{k:Nat}{b:Sf} (F:Fun K x qual st f fd) (S:aK N ps (ac st))
  (hb:∀ (cdv:Value) (A:qbb) (outer:List Env) (s:qak) (H:Hp) (E:XK),cN k (A.deeper (qd8 qual (ac st) s.heap.objs.size f cdv))->ISs K (ma CX0 P w K mg base N qual (ac st) f cdv A outer s H E).nox (aF st) b) :
  bO P w K mg base CX0 (k+1) f fd ps (spI K (hJ N.length ps.length b)):=by
 refine F.ok S (λvs H Q E h=>?_) λcdv A outer s H vs Q E hr h=>?_
 ·obtain⟨φ,st,ws,r,e,rw,_⟩:=h
  rw[hJ]at e
  by_cases hl:ws.length=ps.length
  ·rw[<-rw.length,hl]
  ·rw[if_neg hl]at e;cases e
 ·obtain⟨φ,st',ws,r,e,rw,S',q⟩:=h
  rw[hJ]at e
  by_cases hl:ws.length=ps.length
  ·rw[if_pos hl]at e
   obtain⟨fl,e1,e2⟩:=qab.mp e
   refine⟨_,(hb cdv A outer s H E hr).run _ _ _ e1,φ,ld rw hl,S',?_⟩
   have less:∀ {H':Hp}{φ':List Addr}{s':Sto},Fw φ φ' H H'->Sr K H' φ' s'->Sr K H' φ (s'.take st'.length):=λ{H' φ' s'} f' S2=>by
    obtain⟨ψ,rfl,_⟩:=f'.ext
    rw[<-S'.len]
    exact S2.less
   cases fl with
   |nx e s=>cases e2;exact λσ' H' φ' f' e' s'=>q .non H' φ f'.less (less f' s') rfl
   |rt w s=>
    intro v H' φ' f' s' w'
    have e3:qu st'.length w s=some r:=e2
    obtain⟨ψ,eψ,_⟩:=f'.ext
    cases w with
    |d x=>
     cases e3
     subst eψ
     exact q v H' φ f'.less (less f' s') (Rl.less w')
    |h m=>
     obtain⟨a,ea,rfl⟩:=w'
     unfold qu at e3
     by_cases hm:m<st'.length
     ·have e4:some (W.h m,s.take st'.length)=some r:=by
       have:=e3
       simp only[hm,if_true]at this
       exact this
      cases e4
      subst eψ
      rw[qaC (by rw[S'.len];exact hm)]at ea
      exact q _ H' φ f'.less (less f' s') ⟨a,ea,rfl⟩
     ·simp only[hm,if_false]at e3
      obtain⟨ds,eds,rfl⟩:=qad.mp e3
      obtain⟨vs,hv,rl⟩:=s'.atl m a ds ea eds
      have hn:a∉φ:=λz=>by
       obtain⟨i,hi,ei⟩:=qdC.mp z
       have h1:φ'[i]?=some a:=by subst eψ;rw[qaC hi,qaW hi,ei]
       obtain⟨h2,h2'⟩:=qan.mp h1
       obtain⟨h3,h3'⟩:=qan.mp ea
       have:=(qep s'.nd).mp (h2'.trans h3'.symm)
       rw[S'.len]at hi
       lia
      subst eψ
      exact q _ H' φ f'.less (less f' s') ⟨a,vs,rfl,hn,.inl hv,rl.less⟩
   |bk e s=>cases e2
   |ct e s=>cases e2
  ·rw[if_neg hl]at e;cases e
end
def dM:D->Bool
 |.non=>true
 |.bl _=>true
 |.int _=>true
 |.str _=>true
 |_=>false
def vOf:D->V
 |.bl b=>.bl b
 |.int i=>.int i
 |.str x=>.str x
 |_=>.non
mutual
def eqD:D->D->Bool
 |.non,.non=>true
 |.bl a,.bl b=>a==b
 |.bl a,.int b=>(if a then 1 else 0)==b
 |.int a,.bl b=>a==(if b then 1 else 0)
 |.int a,.int b=>a==b
 |.str a,.str b=>a==b
 |.tup as,.tup bs=>iD as bs
 |.lst as,.lst bs=>iD as bs
 |_,_=>false
def iD:List D->List D->Bool
 |[],[]=>true
 |a::as,b::bs=>eqD a b&&iD as bs
 |_,_=>false
end
def okD:Nat->D->Bool
 |_,.non=>true
 |_,.bl _=>true
 |_,.int _=>true
 |_,.str _=>true
 |n+1,.tup ds=>ds.all (okD n)
 |n+1,.lst ds=>ds.all (okD n)
 |_,_=>false
def lsD (st:Sto):W->Option (List D)
 |.d (.lst ds)=>some ds
 |.h n=>lg st n
 |_=>none
def bW (st:Sto) (x y:W):Option D:=match x,y with
 |.d (.int i),.d (.int j)=>some (.int (i+j))
 |.d (.tup a),.d (.tup b)=>if a.length+b.length<=1000000 then some (.tup (a++b)) else none
 |.d (.str a),.d (.str b)=>if a.length+b.length<=1000000 then some (.str (a++b)) else none
 |x,y=>(lsD st x).bind λa=>(lsD st y).bind λb=>if a.length+b.length<=1000000 then some (.lst (a++b)) else none
def fW (_:Sto):W->W->Option D
 |.d (.int i),.d (.int j)=>some (.int (i - j))
 |_,_=>none
instance (a b:Int):Decidable (qfC a b):=by unfold qfC;infer_instance
def aO (_:Sto):W->W->Option D
 |.d (.int i),.d (.int j)=>if qfC i j then some (.int (i*j)) else none
 |.d (.tup a),.d (.int k)=>if a≠[]/\a.length<=1000/\1<=k/\k<1000 then some (.tup (qav k.toNat a).flatten) else none
 |.d (.lst a),.d (.int k)=>if a.length<=1000/\-1000<=k/\k<1000 then some (.lst (qav k.toNat a).flatten) else none
 |_,_=>none
def le (_:Sto):W->W->Option D
 |.d (.int i),.d (.int j)=>if 0<j/\j<1073741824 then some (.int (i / j)) else none
 |_,_=>none
def hU (_:Sto):W->W->Option D
 |.d (.int i),.d (.int j)=>if 0<j then some (.int (i%j)) else none
 |_,_=>none
instance (i j:Int):Decidable (pU i j):=by unfold pU;infer_instance
def oW (_:Sto):W->W->Option D
 |.d (.int i),.d (.int j)=>if pU i j then some (.int (i^j.toNat)) else none
 |_,_=>none
def dLt (_:Sto):W->W->Option D
 |.d (.int i),.d (.int j)=>some (.bl (decide (i<j)))
 |_,_=>none
def dLe (_:Sto):W->W->Option D
 |.d (.int i),.d (.int j)=>some (.bl (decide (i<=j)))
 |_,_=>none
def dGt (_:Sto):W->W->Option D
 |.d (.int i),.d (.int j)=>some (.bl (decide (j<i)))
 |_,_=>none
def dGe (_:Sto):W->W->Option D
 |.d (.int i),.d (.int j)=>some (.bl (decide (j<=i)))
 |_,_=>none
def tN:D->Bool
 |.non=>true
 |_=>false
def iZ (_:Sto):W->W->Option D
 |.d x,.d .non=>some (.bl (tN x))
 |_,_=>none
def wu (_:Sto):W->W->Option D
 |.d x,.d .non=>some (.bl (!tN x))
 |_,_=>none
def inD (x:D) (ds:List D):Bool:=ds.any λy=>eqD y x
def dIn (st:Sto) (x y:W):Option D:=match x with
 |.d x=>(gH st y).bind λds=>if dM x=true/\ds.all dM=true then some (.bl (inD x ds)) else none
 |_=>none
section
variable {K:qac}{X:Cx}
theorem ir {H:Hp}{φ:List Addr}{d:D}{v:V} (h:dM d=true) (r:Rl K H φ d v):v=vOf d/\fL v=true:=by
 cases d with
 |non=>cases (show v=.non from r);exact⟨rfl,rfl⟩
 |bl b=>cases (show v=.bl b from r);exact⟨rfl,rfl⟩
 |int b=>cases (show v=.int b from r);exact⟨rfl,rfl⟩
 |str b=>cases (show v=.str b from r);exact⟨rfl,rfl⟩
 |_=>cases h
theorem nn {a b:D} (ha:dM a=true) (hb:dM b=true):eqV (vOf a) (vOf b)=eqD a b:=by
 cases a<;>cases b<;>first|rfl|(cases ha;done)|(cases hb;done)|(simp[eqV,vOf,eqD];done)
theorem oR {H:Hp}{φ:List Addr}:∀ {ds:List D}{vs:List V},ds.all dM=true->Rls K H φ ds vs->vs=ds.map vOf/\vs.all fL=true
 |[],_,_,h=>by cases h;exact⟨rfl,rfl⟩
 |d::ds,_,h,r=>by
  rw[qbx,qaV]at h
  obtain⟨v,vr,rfl,r1,r2⟩:=r
  obtain⟨e1,e2⟩:=ir h.1 r1
  obtain⟨e3,e4⟩:=oR h.2 r2
  exact⟨by rw[e1,e3];rfl,by rw[qbx,e2,e4];rfl⟩
theorem qB {x:D} (hx:dM x=true):∀ {ds:List D},ds.all dM=true->inV (vOf x) (ds.map vOf)=inD x ds
 |[],_=>rfl
 |d::ds,h=>by
  rw[qbx,qaV]at h
  have ih:=qB hx h.2
  unfold inV inD at ih ⊢
  rw[qay,qcU,qcU,ih,nn h.1 hx]
theorem gA {f:Value->Value->Sem Value}{g:Sto->W->W->Option D} (h:∀ st x y d,g st x y=some d->∃ i j,x=.d (.int i)/\y=.d (.int j)/\OpR X f (λvx vy H Q=>vx=.int i/\vy=.int j/\Q (vOf d) H)/\dM d=true):OpD K X f g:=by
 refine⟨λst x y d hd=>?_⟩
 obtain⟨i,j,rfl,rfl,ho,hf⟩:=h st x y d hd
 refine ho.imp ?_
 rintro vx vy H Q ⟨φ,S,r1,r2,q⟩
 refine⟨r1,r2,q _ H (aY.refl H) ?_⟩
 cases d<;>first|rfl|cases hf
theorem dX:OpD K X (qbu .Sub) fW:=gA λst x y d h=>by
 match x,y,h with
 |.d (.int i),.d (.int j),h=>cases h;exact⟨i,j,rfl,rfl,xm.imp λvx vy H Q ⟨a,b,q⟩=>⟨i,j,a,b,q⟩,rfl⟩
theorem kU:OpD K X (qbD .Lt) dLt:=gA λst x y d h=>by
 match x,y,h with
 |.d (.int i),.d (.int j),h=>cases h;exact⟨i,j,rfl,rfl,yT.imp λvx vy H Q ⟨a,b,q⟩=>⟨i,j,a,b,q⟩,rfl⟩
theorem ui:OpD K X (qbD .LtE) dLe:=gA λst x y d h=>by
 match x,y,h with
 |.d (.int i),.d (.int j),h=>cases h;exact⟨i,j,rfl,rfl,zh.imp λvx vy H Q ⟨a,b,q⟩=>⟨i,j,a,b,q⟩,rfl⟩
theorem lq:OpD K X (qbD .Gt) dGt:=gA λst x y d h=>by
 match x,y,h with
 |.d (.int i),.d (.int j),h=>cases h;exact⟨i,j,rfl,rfl,zl.imp λvx vy H Q ⟨a,b,q⟩=>⟨i,j,a,b,q⟩,rfl⟩
theorem uS:OpD K X (qbD .GtE) dGe:=gA λst x y d h=>by
 match x,y,h with
 |.d (.int i),.d (.int j),h=>cases h;exact⟨i,j,rfl,rfl,zo.imp λvx vy H Q ⟨a,b,q⟩=>⟨i,j,a,b,q⟩,rfl⟩
theorem qI:OpD K X (qbu .FloorDiv) le:=gA λst x y d h=>by
 match x,y,h with
 |.d (.int i),.d (.int j),h=>
  simp only[le]at h
  split at h
  ·rename_i hc
   cases h;exact⟨i,j,rfl,rfl,vF.imp λvx vy H Q ⟨a,b,q⟩=>⟨i,j,a,b,hc,q⟩,rfl⟩
  ·cases h
theorem gU:OpD K X (qbu .Mod) hU:=gA λst x y d h=>by
 match x,y,h with
 |.d (.int i),.d (.int j),h=>
  simp only[hU]at h
  split at h
  ·rename_i hc
   cases h;exact⟨i,j,rfl,rfl,xB.imp λvx vy H Q ⟨a,b,q⟩=>⟨i,j,a,b,hc,q⟩,rfl⟩
  ·cases h
theorem uk:OpD K X (qbu .Pow) oW:=gA λst x y d h=>by
 match x,y,h with
 |.d (.int i),.d (.int j),h=>
  simp only[oW]at h
  split at h
  ·rename_i hc
   cases h;exact⟨i,j,rfl,rfl,x8.imp λvx vy H Q ⟨a,b,q⟩=>⟨i,j,a,b,hc,q⟩,rfl⟩
  ·cases h
theorem uI {H:Hp}{φ:List Addr}{d:D}{v:V} (r:Rl K H φ d v):decide (v=.non)=tN d:=by
 cases d with
 |non=>cases (show v=.non from r);rfl
 |bl b=>cases (show v=.bl b from r);rfl
 |int b=>cases (show v=.int b from r);rfl
 |str b=>cases (show v=.str b from r);rfl
 |ty b=>cases (show v=.ty b from r);rfl
 |dct=>obtain⟨a,rfl,_⟩:=r;rfl
 |scr ns=>obtain⟨a,rfl,_⟩:=r;rfl
 |tup ds=>obtain⟨a,vs,rfl,_⟩:=r;rfl
 |lst ds=>obtain⟨a,vs,rfl,_⟩:=r;rfl
 |ob ns ds=>obtain⟨a,_,_,_,vs,rfl,_⟩:=r;rfl
theorem nC:OpD K X (qbD .Is) iZ:=by
 refine⟨λst x y d h=>?_⟩
 match x,y,h with
 |.d x,.d .non,h=>
  cases h
  refine ye.imp ?_
  rintro vx vy H Q ⟨φ,S,r1,r2,q⟩
  refine⟨r2,q _ H (aY.refl H) ?_⟩
  rw[uI r1];rfl
theorem wa:OpD K X (qbD .IsNot) wu:=by
 refine⟨λst x y d h=>?_⟩
 match x,y,h with
 |.d x,.d .non,h=>
  cases h
  refine wg.imp ?_
  rintro vx vy H Q ⟨φ,S,r1,r2,q⟩
  refine⟨r2,q _ H (aY.refl H) ?_⟩
  rw[uI r1];rfl
theorem yt (hK:X.K=K:=by rfl):OpD K X (qbD .In) dIn:=by
 subst hK
 refine⟨λst x y d h=>?_⟩
 match x,h with
 |.d x,h=>
  simp only[dIn,qab]at h
  obtain⟨ds,hs,h⟩:=h
  split at h
  ·rename_i hc
   cases h
   refine rQ.imp ?_
   rintro vx vy H Q ⟨φ,S,r1,r2,q⟩
   obtain⟨a,vs,rfl,h1,h2⟩:=jc S r2 hs
   obtain⟨e1,e2⟩:=ir hc.1 r1
   obtain⟨e3,e4⟩:=oR hc.2 h2
   refine⟨a,vs,rfl,h1,e2,e4,q _ H (aY.refl H) ?_⟩
   rw[e1,e3,qB hc.1 hc.2];rfl
  ·cases h
end
end L2
namespace L2
open PySem PySem.Spec PyProof.Rows
section
variable {K:qac}{X:Cx}
theorem vi:OpR X (qbu .Add) (λx y H Q=>∃ l b xs zs,x=.ref l/\y=.ref b/\Rd H l (.lst xs)/\Rd H b (.lst zs)/\xs.length+zs.length<=qaM/\∀ p,H p=none->Q (.ref p) (upd H p (.lst (xs++zs)))):=by
 intro pins s σ H x y v u Q I rx ry h
 obtain⟨l,b,xs,zs,rfl,rfl,hH,hB,hz,q⟩:=h
 cases rx
 cases ry
 obtain⟨z,its,n,r,e⟩:=hH.ok I.hok
 obtain⟨z2,its2,n2,r2,e2⟩:=hB.ok I.hok
 have hl:=r.length
 have hl2:=r2.length
 refine PySem.P.add_list e e2 ?_ (by rw[qat,qat];lia)
 have ea:its.toArray++its2.toArray=(its++its2).toArray:=by simp
 rw[ea]
 exact⟨.ref _,_,I.lnew (t':=s.toks) (r.append r2) (by rw[qau];lia),rfl,q _ I.fresh⟩
theorem tV:OpR X (qbu .Add) (λx y H Q=>∃ a b xs ys,x=.ref a/\y=.ref b/\SqT X.K H a xs/\SqT X.K H b ys/\xs.length+ys.length<=qaM/\
  (xs=[]->Q (.ref b) H)/\(ys=[]->Q (.ref a) H)/\∀ p,H p=none->Q (.ref p) (upd H p (.tup (xs++ys)))):=by
 intro pins s σ H x y v u Q I rx ry h
 obtain⟨a,b,xs,ys,rfl,rfl,ha,hb,hz,q0,q1,q2⟩:=h
 by_cases hx:xs=[]
 ·cases rx
  cases ry
  obtain⟨its,r1,p1,_⟩:=I.tuple ha
  obtain⟨its2,r2,p2,_⟩:=I.tuple hb
  obtain⟨⟨cls,dd,data,sl⟩,ho,hc,n,hd⟩:=id p1
  obtain⟨⟨cls2,dd2,data2,sl2⟩,ho2,hc2,n2,hd2⟩:=id p2
  simp only at hc hd hc2 hd2
  subst hc hd hc2 hd2
  exact qfQ ⟨_,ho,rfl⟩ ⟨_,ho2,rfl⟩ qeP qfq qdf qdc (qc4 _ _)
   (tuple_addW0 a b its.toArray its2.toArray n n2 dd dd2 sl sl2 (by simp[r1.nil_iff.mpr hx])) ⟨ho,ho2,.ref b,H,I,rfl,q0 hx⟩
 ·exact uY pins s σ H _ _ v u Q I rx ry ⟨a,b,xs,ys,rfl,rfl,ha,hb,hx,hz,q1,λ_ p hp=>q2 p hp⟩
theorem tO {st:Sto}{H:Hp}{φ:List Addr}{w:W}{v:V}{ds:List D} (S:Sr K H φ st) (r:Rw K H φ w v) (e:lsD st w=some ds):∃ a vs,v=.ref a/\Rd H a (.lst vs)/\Rls K H φ ds vs:=by
 cases w with
 |h n=>
  obtain⟨a,ea,rfl⟩:=r
  obtain⟨vs,q,rl⟩:=S.atl n a ds ea e
  exact⟨a,vs,rfl,.inl q,rl⟩
 |d x=>
  cases x with
  |lst es=>cases e;obtain⟨a,vs,rfl,h0,h1,h2⟩:=r;exact⟨a,vs,rfl,h1,h2⟩
  |_=>cases e
theorem mil:(1000000:Nat)<=qaM:=by rw[qeb];decide
theorem bV (hK:X.K=K:=by rfl):OpD K X (qbu .Add) bW:=by
 subst hK
 refine⟨λst x y d h=>?_⟩
 have lists:(lsD st x).bind (λa=>(lsD st y).bind λb=>if a.length+b.length<=1000000 then some (.lst (a++b)) else none)=some d->OpR X (qbu .Add) (rD X.K st x y d):=λh=>by
  simp only[qab]at h
  obtain⟨as,ha,bs,hb,h⟩:=h
  split at h
  ·rename_i hl
   cases h
   refine vi.imp ?_
   rintro vx vy H Q ⟨φ,S,r1,r2,q⟩
   obtain⟨a,us,rfl,h1,h2⟩:=tO S r1 ha
   obtain⟨b,vs,rfl,h3,h4⟩:=tO S r2 hb
   refine⟨a,b,us,vs,rfl,rfl,h1,h3,by rw[<-h2.length,<-h4.length];exact qa3 hl mil,λp hp=>q _ _ (aY.new hp _) ?_⟩
   exact⟨p,_,rfl,S.nin hp,.inl upd_same,(h2.append h4).fw S (Fw.new hp)⟩
  ·cases h
 match x,y,h with
 |.d (.int i),.d (.int j),h=>
  cases h
  refine xx.imp ?_
  rintro vx vy H Q ⟨φ,S,r1,r2,q⟩
  exact⟨i,j,r1,r2,q _ H (aY.refl H) rfl⟩
 |.d (.tup as),.d (.tup bs),h=>
  simp only[bW]at h
  split at h
  ·rename_i hl
   cases h
   refine tV.imp ?_
   rintro vx vy H Q ⟨φ,S,⟨a,us,rfl,h1,h2⟩,⟨b,vs,rfl,h3,h4⟩,q⟩
   refine⟨a,b,us,vs,rfl,rfl,(SqT.of h1),(SqT.of h3),by rw[<-h2.length,<-h4.length];exact qa3 hl mil,λe=>?_,λe=>?_,λp hp=>?_⟩
   ·subst e
    have:as=[]:=by cases as with|nil=>rfl|cons _ _=>cases h2.length
    subst this
    exact q _ H (aY.refl H) ⟨b,vs,rfl,h3,h4⟩
   ·subst e
    have:bs=[]:=by cases bs with|nil=>rfl|cons _ _=>cases h4.length
    subst this
    exact q _ H (aY.refl H) ⟨a,us,rfl,h1,by rw[qbw];exact h2⟩
   ·exact q _ _ (aY.new hp _) ⟨p,_,rfl,upd_same,(h2.append h4).fw S (Fw.new hp)⟩
  ·cases h
 |.d (.str as),.d (.str bs),h=>
  simp only[bW]at h
  split at h
  ·rename_i hl
   cases h
   refine qs.imp ?_
   rintro vx vy H Q ⟨φ,S,r1,r2,q⟩
   exact⟨as,bs,r1,r2,qa3 hl mil,q _ H (aY.refl H) rfl⟩
  ·cases h
 |.d (.lst as),y,h=>exact lists (by cases y with|h n=>exact h|d y=>cases y<;>exact h)
 |.h n,y,h=>exact lists (by cases y with|h n=>exact h|d y=>cases y<;>exact h)
theorem rH:OpR X (qbu .Mult) (λx y H Q=>∃ l k xs,x=.ref l/\y=.int k/\Rd H l (.lst xs)/\-(2 ^ 63)<=k/\k < 2 ^ 63/\xs.length*k.toNat<=qaM/\
 ∀ p,H p=none->Q (.ref p) (upd H p (.lst (qav k.toNat xs).flatten))):=by
 intro pins s σ H x y v u Q I rx ry h
 obtain⟨l,k,xs,rfl,rfl,hH,h1,h2,hz,q⟩:=h
 cases rx
 obtain⟨t,rfl⟩:=ry
 obtain⟨z,its,n,r,e⟩:=hH.ok I.hok
 have hl:=r.length
 have hlen:its.toArray.size*k.toNat<=qaM:=by rw[qat,<-hl];exact hz
 have hcap:¬ its.toArray.size*k.toNat > (2^63 - 1) / 8:=by
  have:(qaM:Nat)<=(2^63 - 1) / 8:=by decide
  lia
 have hfit:¬ (!Builtin.List.listFitsIndex k)=true:=by
  rw[fitsIndex_both h1 h2]
  exact qaF
 have hlong:¬ qcV (its.toArray.size*k.toNat)=true:=by
  rw[tH hlen]
  exact qaF
 have hnew:qeT (λx1 x2=>x1++x2) #[] (qav (if its.toArray.isEmpty=true then 0 else k.toNat) its.toArray)=(qav k.toNat its).flatten.toArray:=by
  have f0:∀ m:Nat,qeT (λx1 x2=>x1++x2) #[] (qav m its.toArray)=(qav m its).flatten.toArray:=λm=>by
   have:=jE its m []
   rw[qb9]at this
   exact this
  rw[f0]
  cases its with
  |nil=>simp
  |cons a r'=>rw[if_neg (by simp)]
 refine qfb (T:="list") (U:="int") (by decide) ⟨_,e,rfl⟩ (λs'=>qeD s' k t) noFill_list_mul qgJ qdG repeat_list qgu.lookup
  (qcT qdG (qeD s k t) qgw (qgn _ _) (int___rmul___int_list k t l its.toArray n)
    ⟨e,rfl,⟨_,e,rfl⟩,qcT F.slot_list_mul ⟨_,e,rfl⟩ F.entry_list_mul (F.args_list_mul_2 _ _) (AutoListH.list___mul___list_int_3 l its.toArray n k t hfit hcap hlong) ⟨e,?_⟩⟩)
 rw[hnew]
 exact⟨.ref _,_,I.lnew (t':=s.toks) (r.rep k.toNat) (by rw[mG,qfc];exact hz),rfl,q _ I.fresh⟩
theorem aG (hK:X.K=K:=by rfl):OpD K X (qbu .Mult) aO:=by
 subst hK
 refine⟨λst x y d h=>?_⟩
 match x,y,h with
 |.d (.int i),.d (.int j),h=>
  simp only[aO]at h
  split at h
  ·rename_i hl
   cases h
   refine vj.imp ?_
   rintro vx vy H Q ⟨φ,S,r1,r2,q⟩
   exact⟨i,j,r1,r2,hl,q _ H (aY.refl H) rfl⟩
  ·cases h
 |.d (.tup as),.d (.int k),h=>
  simp only[aO]at h
  split at h
  ·rename_i hl
   cases h
   refine uU.imp ?_
   rintro vx vy H Q ⟨φ,S,⟨a,us,rfl,h1,h2⟩,r2,q⟩
   have hne:us≠[]:=by rintro rfl;cases as with|nil=>exact hl.1 rfl|cons _ _=>cases h2.length
   refine⟨a,k,us,rfl,r2,(SqT.of h1),hne,by rw[<-h2.length];exact hl.2.1,hl.2.2.1,hl.2.2.2,λe=>?_,λ_ p hp=>?_⟩
   ·subst e
    exact q _ H (aY.refl H) ⟨a,us,rfl,h1,by simpa using h2⟩
   ·exact q _ _ (aY.new hp _) ⟨p,_,rfl,upd_same,(h2.rep _).fw S (Fw.new hp)⟩
  ·cases h
 |.d (.lst as),.d (.int k),h=>
  simp only[aO]at h
  split at h
  ·rename_i hl
   cases h
   refine rH.imp ?_
   rintro vx vy H Q ⟨φ,S,⟨a,us,rfl,h0,h1,h2⟩,r2,q⟩
   refine⟨a,k,us,rfl,r2,h1,by lia,by lia,?_,λp hp=>?_⟩
   ·rw[<-h2.length]
    have:as.length*k.toNat<=1000*1000:=qcN hl.1 (by lia)
    exact qa3 this mil
   ·exact q _ _ (aY.new hp _) ⟨p,_,rfl,S.nin hp,.inl upd_same,(h2.rep _).fw S (Fw.new hp)⟩
  ·cases h
def dIx (st:Sto) (x y:W):Option D:=match x,y with
 |.d (.str z),.d (.int i)=>if z.length<=1000000 then (atI z.cps.toList i).map λc=>.str ⟨#[c]⟩ else none
 |x,.d (.int i)=>(gH st x).bind λds=>atI ds i
 |_,_=>none
theorem yk {H:Hp}{φ:List Addr}{ds:List D}{vs:List V}{i:Int}{d:D} (r:Rls K H φ ds vs) (e:atI ds i=some d):∃ v,atI vs i=some v/\Rl K H φ d v:=by
 unfold atI at e ⊢
 rw[<-r.length]
 obtain⟨j,e1,e2⟩:=qab.mp e
 obtain⟨v,ev,rv⟩:=r.get e2
 exact⟨v,by rw[e1];exact ev,rv⟩
theorem IxR.imp {r r':R2} (h:IxR X r) (m:∀ x y H Q,r' x y H Q->r x y H Q):IxR X r':=λvalue slice pins s σ H x y v u Q I rx ry q hs=>h value slice pins s σ H x y v u Q I rx ry (m _ _ _ _ q) hs
theorem zq (st:Sto) (x y:W) (d:D) (h:dIx st x y=some d) (hK:X.K=K):IxR X (rD K st x y d):=by
 subst hK
 match y,h with
 |.d (.int i),h=>
  have seq:(gH st x).bind (λds=>atI ds i)=some d->IxR X (rD X.K st x (.d (.int i)) d):=λh=>by
   obtain⟨ds,e1,e2⟩:=qab.mp h
   refine pG.imp ?_
   rintro vx vy H Q ⟨φ,S,r1,r2,q⟩
   obtain⟨a,vs,rfl,h1,h2⟩:=jc S r1 e1
   obtain⟨v,ev,rv⟩:=yk h2 e2
   rcases h1 with h1|h1
   ·exact .inl ⟨a,vs,i,v,rfl,r2,h1,ev,q _ H (aY.refl H) rv⟩
   ·exact .inr (.inl ⟨a,vs,i,v,rfl,r2,h1,ev,q _ H (aY.refl H) rv⟩)
  match x,h with
  |.d (.str z),h=>
   simp only[dIx]at h
   split at h
   ·rename_i hl
    obtain⟨c,e1,rfl⟩:=qad.mp h
    refine pG.imp ?_
    rintro vx vy H Q ⟨φ,S,r1,r2,q⟩
    exact .inr (.inr ⟨z,i,c,r1,r2,qa3 hl mil,e1,q _ H (aY.refl H) rfl⟩)
   ·cases h
  |.d (.tup z),h=>exact seq h
  |.d (.lst z),h=>exact seq h
  |.d (.scr z),h=>exact seq h
  |.h z,h=>exact seq h
 |.d .non,h=>cases x with|h n=>cases h|d x=>cases x<;>cases h
 |.d (.ob _ _),h=>cases x with|h n=>cases h|d x=>cases x<;>cases h
 |.d (.bl _),h=>cases x with|h n=>cases h|d x=>cases x<;>cases h
 |.d (.str _),h=>cases x with|h n=>cases h|d x=>cases x<;>cases h
 |.d (.ty _),h=>cases x with|h n=>cases h|d x=>cases x<;>cases h
 |.d (.scr _),h=>cases x with|h n=>cases h|d x=>cases x<;>cases h
 |.d .dct,h=>cases x with|h n=>cases h|d x=>cases x<;>cases h
 |.d (.tup _),h=>cases x with|h n=>cases h|d x=>cases x<;>cases h
 |.d (.lst _),h=>cases x with|h n=>cases h|d x=>cases x<;>cases h
 |.h _,h=>cases x with|h n=>cases h|d x=>cases x<;>cases h
variable {e a b:Expr}{pos p2:Pos}{f fa fb:Ef}
theorem ay (ha:IE K X a fa) (hb:IE K X b fb) (hs:mO b=true:=by rfl) (hK:X.K=K:=by rfl):IE K X (.Subscript a b pos) (iOp dIx fa fb):=by
 refine⟨λenv st r hr=>?_⟩
 simp only[iOp,qab,qad]at hr
 obtain⟨x,hx,y,hy,d,hd,rfl⟩:=hr
 exact (ww (zq _ _ _ _ hd hK) (ha.run _ _ _ hx) (hb.run _ _ _ hy) (nY hs)).imp λσ H Q h=>mW h
abbrev Pf:=Ev->Sto->Option (Option Int×Sto)
def iPn:Pf
 |_,st=>some (none,st)
def ze:W->Option Int
 |.d (.int i)=>some i
 |_=>none
theorem si {w:W}{i:Int} (h:ze w=some i):w=.d (.int i):=by
 cases w with
 |h n=>cases h
 |d x=>cases x<;>first|(cases h;done)|(injection h with h;subst h;rfl)
def iPs (f:Ef):Pf
 |env,st=>(f env st).bind λr=>(ze r.1).map λi=>(some i,r.2)
def tIO (K:qac) (env:Ev) (st:Sto) (r:Option Int×Sto):TO:=λσ H Q=>∃ φ,Er K H φ env σ/\Sr K H φ st/\∀ H' φ',Fw φ φ' H H'->Sr K H' φ' r.2->Q r.1 H'
structure IO (K:qac) (X:Cx) (e:Option Expr) (f:Pf):Prop where
 run:∀ env st r,f env st=some r->PO X e (tIO K env st r)
theorem PO.imp {e:Option Expr}{t t':TO} (h:PO X e t) (m:∀ σ H Q,t' σ H Q->t σ H Q):PO X e t':=λpins s σ H Q I q=>h pins s σ H Q I (m σ H Q q)
theorem u9:IO K X none iPn:=by
 refine⟨λenv st r hr=>?_⟩
 cases hr
 exact wc.imp λσ H Q ⟨φ,hE,hS,q⟩=>q H φ (Fw.refl φ H) hS
theorem wo (h:IE K X e f):IO K X (some e) (iPs f):=by
 refine⟨λenv st r hr=>?_⟩
 simp only[iPs,qab,qad]at hr
 obtain⟨⟨x,s1⟩,hx,i,hi,rfl⟩:=hr
 cases si hi
 refine (uV (h.run _ _ _ hx)).imp ?_
 rintro σ H Q ⟨φ,hE,hS,q⟩
 exact⟨φ,hE,hS,λv H1 φ1 f1 s1 w1=>⟨i,w1,q H1 φ1 f1 s1⟩⟩
def j9 (xs:List D) (lo hi:Option Int):List D:=(xs.drop (HT.sIx xs.length 0 lo)).take (HT.sIx xs.length xs.length hi - HT.sIx xs.length 0 lo)
theorem rh {H:Hp}{φ:List Addr}{ds:List D}{vs:List V} (r:Rls K H φ ds vs) (lo hi:Option Int):Rls K H φ (j9 ds lo hi) (nr vs lo hi):=by
 unfold j9 nr
 rw[r.length]
 exact (r.drop _).take _
def dSl (st:Sto) (x:W) (lo hi:Option Int):Option D:=match x with
 |.d (.tup ds)=>some (.tup (j9 ds lo hi))
 |.d (.lst ds)=>some (.lst (j9 ds lo hi))
 |.h n=>(lg st n).map λds=>.lst (j9 ds lo hi)
 |.d (.scr ns)=>some (.lst (j9 (ns.map D.int) lo hi))
 |_=>none
def iSl (f:Ef) (lo hi:Pf):Ef
 |env,st=>(f env st).bind λx=>(lo env x.2).bind λl=>(hi env l.2).bind λu=>(dSl u.2 x.1 l.1 u.1).map λd=>(.d d,u.2)
theorem yV {lo hi:Option Expr}{fl fh:Pf} (h:IE K X e f) (hl:IO K X lo fl) (hh:IO K X hi fh) (hK:X.K=K:=by rfl):IE K X (.Subscript e (.Slice lo hi none p2) pos) (iSl f fl fh):=by
 subst hK
 refine⟨λenv st r hr=>?_⟩
 simp only[iSl,qab,qad]at hr
 obtain⟨⟨x,s1⟩,hx,l,hl',u,hu',d,hd,rfl⟩:=hr
 have list:(∀ {H:Hp}{φ:List Addr}{v:V},Sr X.K H φ u.2->Rw X.K H φ x v->∃ a vs ds,v=.ref a/\SqL X.K H a vs/\Rls X.K H φ ds vs/\d=.lst (j9 ds l.1 u.1))->PE X (.Subscript e (.Slice lo hi none p2) pos) (tI X.K env st (.d d,u.2)):=λhq=>by
  refine (om u6 (h.run _ _ _ hx) (hl.run _ _ _ hl') (hh.run _ _ _ hu')).imp ?_
  rintro σ H Q ⟨φ,hE,hS,q⟩
  refine⟨φ,hE,hS,λv H1 φ1 f1 s1 w1=>⟨φ1,hE.fw hS f1,s1,λH2 φ2 f2 s2=>⟨φ2,(hE.fw hS f1).fw s1 f2,s2,λH3 φ3 f3 s3=>?_⟩⟩⟩
  obtain⟨a,vs,ds,rfl,h1,h2,rfl⟩:=hq s3 ((w1.fw s1 f2).fw s2 f3)
  refine⟨a,vs,rfl,h1,λp hp=>q _ _ φ3 (((f1.trans f2).trans f3).trans (Fw.new hp)) (s3.new hp) ?_⟩
  exact⟨p,_,rfl,s3.nin hp,.inl upd_same,(rh h2 _ _).fw s3 (Fw.new hp)⟩
 match x,hd with
 |.d (.tup ds),hd=>
  cases hd
  refine (om (xW (K:=X.K) rfl) (h.run _ _ _ hx) (hl.run _ _ _ hl') (hh.run _ _ _ hu')).imp ?_
  rintro σ H Q ⟨φ,hE,hS,q⟩
  refine⟨φ,hE,hS,λv H1 φ1 f1 s1 w1=>⟨φ1,hE.fw hS f1,s1,λH2 φ2 f2 s2=>⟨φ2,(hE.fw hS f1).fw s1 f2,s2,λH3 φ3 f3 s3=>?_⟩⟩⟩
  obtain⟨a,vs,rfl,h1,h2⟩:=(w1.fw s1 f2).fw s2 f3
  refine⟨a,vs,rfl,(SqT.of h1),?_⟩
  by_cases hc:HT.sIx vs.length 0 l.1=0/\HT.sIx vs.length vs.length u.1=vs.length
  ·refine .inr ⟨hc,q _ _ φ3 ((f1.trans f2).trans f3) s3 ⟨a,vs,rfl,h1,?_⟩⟩
   have e:j9 ds l.1 u.1=ds:=by
    unfold j9
    rw[h2.length,hc.1,hc.2,qgi,qhx,<-h2.length,qeo]
   rw[e]
   exact h2
  ·exact .inl ⟨hc,λp hp=>q _ _ φ3 (((f1.trans f2).trans f3).trans (Fw.new hp)) (s3.new hp) ⟨p,_,rfl,upd_same,(rh h2 _ _).fw s3 (Fw.new hp)⟩⟩
 |.d (.lst ds),hd=>
  cases hd
  refine list λ{H φ v} S w=>?_
  obtain⟨a,vs,rfl,h0,h1,h2⟩:=w
  exact⟨a,vs,ds,rfl,.inl h1,h2,rfl⟩
 |.d (.scr ns),hd=>
  cases hd
  refine list λ{H φ v} S w=>?_
  obtain⟨a,rfl,h⟩:=w
  refine⟨a,_,_,rfl,?_,Rls.of_ints ns,rfl⟩
  rcases h with⟨o,h⟩|h
  ·exact .inl (.inr ⟨o,h⟩)
  ·exact .inr h
 |.h n,hd=>
  obtain⟨ds,e1,rfl⟩:=qad.mp hd
  refine list λ{H φ v} S w=>?_
  obtain⟨a,ea,rfl⟩:=w
  obtain⟨vs,q,rl⟩:=S.atl n a ds ea e1
  exact⟨a,vs,ds,rfl,SqL.of q,rl,rfl⟩
end
section
variable {K:qac}{X:Cx}{pins:List (Addr×Obj)}{σ:St}{H:Hp}{s:qak}{φ:List Addr}{st:Sto}
theorem fm:∀ (xs ys:List D),((qag (min xs.length ys.length)).all (λj=>eqD (xs.getD j .non) (ys.getD j .non))&&xs.length==ys.length)=iD xs ys
 |[],[]=>rfl
 |[],y::ys=>by simp[iD]
 |x::xs,[]=>by simp[iD]
 |x::xs,y::ys=>by
  show ((qag (min (xs.length+1) (ys.length+1))).all (λj=>eqD ((x::xs).getD j .non) ((y::ys).getD j .non))&&(xs.length+1==ys.length+1))=(eqD x y&&iD xs ys)
  rw[show min (xs.length+1) (ys.length+1)=min xs.length ys.length+1 by lia,lF,<-fm xs ys]
  have e:(xs.length+1==ys.length+1)=(xs.length==ys.length):=by rw[qcY];simp
  rw[e,Bool.and_assoc]
  rfl
theorem iH {xs ys:List D} (h:xs.length=ys.length):(qag xs.length).all (λj=>eqD (xs.getD j .non) (ys.getD j .non))=iD xs ys:=by
 rw[<-fm xs ys,<-h,Nat.min_self];simp
theorem nW:∀ {xs ys:List D},xs.length≠ys.length->iD xs ys=false
 |[],[],h=>absurd rfl h
 |[],_::_,_=>rfl
 |_::_,[],_=>rfl
 |x::xs,y::ys,h=>by
  show (eqD x y&&iD xs ys)=false
  rw[nW (by intro e;apply h;rw[qaq,qaq,e]),Bool.and_false]
theorem uZ (I:Inv X pins σ H s) {a:Addr}{vs ws:List V} (h:Rd H a (.lst vs)) (h':Rd H a (.lst ws)):vs=ws:=I.list_inj (.inl h) (.inl h')
theorem rB (I:Inv X pins σ H s):∀ (n:Nat) {d e:D}{v:V},Rl X.K H φ d v->Rl X.K H φ e v->okD n d=true->okD n e=true->eqD d e=true:=by
 intro n
 induction n with
 |zero=>
  intro d e v r1 r2 o1 o2
  cases d<;>first|(cases o1;done)|skip
  all_goals (cases e<;>first|(cases o2;done)|skip)
  all_goals (first|rfl|(cases r1.symm.trans r2;done)|(cases r1.symm.trans r2;simp[eqD]))
 |succ n ih=>
  have lists:∀ {ds es:List D}{vs:List V},Rls X.K H φ ds vs->Rls X.K H φ es vs->(∀ d∈ds,okD n d=true)->(∀ d∈es,okD n d=true)->iD ds es=true:=by
   intro ds
   induction ds with
   |nil=>
    intro es vs r1 r2 _ _
    cases r1
    cases es with
    |nil=>rfl
    |cons e es=>obtain⟨_,_,q,_⟩:=r2;cases q
   |cons d ds ihd=>
    intro es vs r1 r2 o1 o2
    obtain⟨v,r,rfl,a1,a2⟩:=r1
    cases es with
    |nil=>cases r2
    |cons e es=>
     obtain⟨v',r',q,b1,b2⟩:=r2
     cases q
     show (eqD d e&&iD ds es)=true
     rw[ih a1 b1 (o1 d qae) (o2 e qae),ihd a2 b2 (λx hx=>o1 x (qah _ hx)) (λx hx=>o2 x (qah _ hx))]
     rfl
  intro d e v r1 r2 o1 o2
  cases d with
  |tup ds=>
   obtain⟨a,vs,rfl,h1,h2⟩:=r1
   cases e with
   |tup es=>
    obtain⟨b,us,q,h3,h4⟩:=r2
    cases q
    rw[I.tuple_inj (SqT.of h3) (SqT.of h1)]at h4
    exact lists h2 h4 (qaY.mp o1) (qaY.mp o2)
   |lst es=>
    obtain⟨b,us,q,_,h3,h4⟩:=r2
    cases q
    obtain⟨_,_,p1,_⟩:=I.tuple (SqT.of h1)
    obtain⟨_,_,p2,_⟩:=I.list (.inl h3)
    exact absurd rfl (qeW p2.isList p1)
   |_=>first|(cases o2;done)|(cases r2;done)
  |lst ds=>
   obtain⟨a,vs,rfl,h0,h1,h2⟩:=r1
   cases e with
   |lst es=>
    obtain⟨b,us,q,_,h3,h4⟩:=r2
    cases q
    rw[uZ I h3 h1]at h4
    exact lists h2 h4 (qaY.mp o1) (qaY.mp o2)
   |tup es=>
    obtain⟨b,us,q,h3,h4⟩:=r2
    cases q
    obtain⟨_,_,p1,_⟩:=I.tuple (SqT.of h3)
    obtain⟨_,_,p2,_⟩:=I.list (.inl h1)
    exact absurd rfl (qeW p2.isList p1)
   |_=>first|(cases o2;done)|(cases r2;done)
  |non=>cases e<;>first|rfl|(cases o2;done)|(cases r1.symm.trans r2;done)|(cases r1;obtain⟨_,_,q,_⟩:=r2;cases q)
  |bl b=>cases e<;>first|(cases o2;done)|(cases r1.symm.trans r2;simp[eqD];done)|(cases r1.symm.trans r2;done)|(cases r1;obtain⟨_,_,q,_⟩:=r2;cases q)
  |int b=>cases e<;>first|(cases o2;done)|(cases r1.symm.trans r2;simp[eqD];done)|(cases r1.symm.trans r2;done)|(cases r1;obtain⟨_,_,q,_⟩:=r2;cases q)
  |str b=>cases e<;>first|(cases o2;done)|(cases r1.symm.trans r2;simp[eqD];done)|(cases r1.symm.trans r2;done)|(cases r1;obtain⟨_,_,q,_⟩:=r2;cases q)
  |ty b=>cases o1
  |scr b=>cases o1
  |dct=>cases o1
  |ob _ _=>cases o1
theorem fg {ds:List D}{vs:List V}{us:List Value} (r:Rls K H φ ds vs) (rv:aJ vs us):∀ (j:Nat) (h:j<us.length),∃ v,Rl K H φ (ds.getD j .non) v/\bo v us[j]/\ds.getD j .non∈ds:=by
 intro j h
 obtain⟨h',q⟩:=rv.at j h
 have hd:j<ds.length:=by rw[r.length];exact h'
 have e:ds[j]?=some ds[j]:=qaW hd
 obtain⟨v,ev,rl⟩:=r.get e
 rw[qaW h']at ev
 cases ev
 refine⟨_,?_,q,?_⟩
 ·rw[qex,e];exact rl
 ·rw[qex,e];exact qf0 hd
theorem ya (I:Inv X pins σ H s):∀ (n:Nat) {A:qbb}{d e:D}{v u:V}{vv uu:Value},Rl X.K H φ d v->Rl X.K H φ e u->bo v vv->bo u uu->okD n d=true->okD n e=true->A.units+n<cLine->qdb A s vv uu (eqD d e):=by
 have flat:∀ {A:qbb}{d e:D}{v u:V}{vv uu:Value},dM d=true->dM e=true->Rl X.K H φ d v->Rl X.K H φ e u->bo v vv->bo u uu->qdb A s vv uu (eqD d e):=by
  intro A d e v u vv uu f1 f2 r1 r2 q1 q2
  obtain⟨e1,g1⟩:=ir f1 r1
  obtain⟨e2,g2⟩:=ir f2 r2
  rw[<-nn f1 f2,<-e1,<-e2]
  exact tQ q1 q2 g1 g2
 intro n
 induction n with
 |zero=>
  intro A d e v u vv uu r1 r2 q1 q2 o1 o2 hu
  refine flat ?_ ?_ r1 r2 q1 q2
  ·cases d<;>first|rfl|cases o1
  ·cases e<;>first|rfl|cases o2
 |succ n ih=>
  intro A d e v u vv uu r1 r2 q1 q2 o1 o2 hu
  have hu0:A.units<cLine:=by lia
  have hu1:A.in1.units+n<cLine:=by show A.units+1+n<cLine;lia
  cases d with
  |tup ds=>
   obtain⟨a,vs,rfl,h1,h2⟩:=r1
   cases q1
   obtain⟨its,rv,p1,_⟩:=I.tuple (SqT.of h1)
   cases e with
   |tup es=>
    obtain⟨b,us,rfl,h3,h4⟩:=id r2
    cases q2
    by_cases hab:a=b
    ·subst hab
     rw[rB I (n+1) (d:=.tup ds) ⟨a,vs,rfl,h1,h2⟩ r2 o1 o2]
     exact qd1 _
    ·obtain⟨its2,rv2,p2,_⟩:=I.tuple (SqT.of h3)
     have z:=qdB (A:=A) (e:=λj=>eqD (ds.getD j .non) (es.getD j .non)) p1 p2 hu0 λj g1 g2=>by
      obtain⟨v1,k1,k2,k3⟩:=fg h2 rv j (by simpa using g1)
      obtain⟨v2,k4,k5,k6⟩:=fg h4 rv2 j (by simpa using g2)
      exact ih k1 k4 (by simpa using k2) (by simpa using k5) (qaY.mp o1 _ k3) (qaY.mp o2 _ k6) hu1
     have e1:its.toArray.size=ds.length:=by simp[<-rv.length,h2.length]
     have e2:its2.toArray.size=es.length:=by simp[<-rv2.length,h4.length]
     rw[e1,e2,fm]at z
     exact qds hab z
   |lst es=>
    obtain⟨b,us,rfl,_,h3,h4⟩:=id r2
    cases q2
    obtain⟨its2,rv2,p2,_⟩:=I.list (.inl h3)
    exact qip p1 p2.isList hu0
   |non=>cases r2;cases q2;exact qio p1 hu0
   |bl x=>cases r2;cases q2;exact qir x p1 hu0
   |int x=>cases r2;obtain⟨t,rfl⟩:=q2;exact qiq x t p1 hu0
   |str x=>cases r2;obtain⟨t,rfl⟩:=q2;exact qin x t p1 hu0
   |ty _=>cases o2
   |scr _=>cases o2
   |dct=>cases o2
   |ob _ _=>cases o2
  |lst ds=>
   obtain⟨a,vs,rfl,h0,h1,h2⟩:=r1
   cases q1
   obtain⟨its,rv,p1,_⟩:=I.list (.inl h1)
   cases e with
   |lst es=>
    obtain⟨b,us,rfl,_,h3,h4⟩:=id r2
    cases q2
    by_cases hab:a=b
    ·subst hab
     rw[rB I (n+1) (d:=.lst ds) ⟨a,vs,rfl,h0,h1,h2⟩ r2 o1 o2]
     exact qd1 _
    ·obtain⟨its2,rv2,p2,_⟩:=I.list (.inl h3)
     have e1:its.toArray.size=ds.length:=by simp[<-rv.length,h2.length]
     have e2:its2.toArray.size=es.length:=by simp[<-rv2.length,h4.length]
     by_cases hl:ds.length=es.length
     ·have z:=qe2 (A:=A) (e:=λj=>eqD (ds.getD j .non) (es.getD j .non)) p1.isList p2.isList (by rw[e1,e2,hl]) hu0 λj g1 g2=>by
       obtain⟨v1,k1,k2,k3⟩:=fg h2 rv j (by simpa using g1)
       obtain⟨v2,k4,k5,k6⟩:=fg h4 rv2 j (by simpa using g2)
       exact ih k1 k4 (by simpa using k2) (by simpa using k5) (qaY.mp o1 _ k3) (qaY.mp o2 _ k6) hu1
      rw[e1,iH hl]at z
      exact qds hab z
     ·have z:=qed (A:=A) p1.isList p2.isList (by rw[e1,e2];simpa using hl) hu0
      show qdb A s _ _ (iD ds es)
      rw[nW hl]
      exact qds hab z
   |tup es=>
    obtain⟨b,us,rfl,h3,h4⟩:=id r2
    cases q2
    obtain⟨its2,rv2,p2,_⟩:=I.tuple (SqT.of h3)
    exact qiC p1.isList p2 hu0
   |non=>cases r2;cases q2;exact qiE p1.isList hu0
   |bl x=>cases r2;cases q2;exact qiG x p1.isList hu0
   |int x=>cases r2;obtain⟨t,rfl⟩:=q2;exact qiF x t p1.isList hu0
   |str x=>cases r2;obtain⟨t,rfl⟩:=q2;exact qiD x t p1.isList hu0
   |ty _=>cases o2
   |scr _=>cases o2
   |dct=>cases o2
   |ob _ _=>cases o2
  |non=>
   cases r1;cases q1
   cases e with
   |tup es=>obtain⟨b,us,rfl,h3,h4⟩:=r2;cases q2;obtain⟨_,_,p2,_⟩:=I.tuple (SqT.of h3);exact qix p2 hu0
   |lst es=>obtain⟨b,us,rfl,_,h3,h4⟩:=r2;cases q2;obtain⟨_,_,p2,_⟩:=I.list (.inl h3);exact qiz p2.isList hu0
   |_=>first|(cases o2;done)|exact flat rfl rfl (d:=.non) rfl r2 (v:=.non) rfl q2
  |bl x=>
   cases r1;cases q1
   cases e with
   |tup es=>obtain⟨b,us,rfl,h3,h4⟩:=r2;cases q2;obtain⟨_,_,p2,_⟩:=I.tuple (SqT.of h3);exact qiM x p2 hu0
   |lst es=>obtain⟨b,us,rfl,_,h3,h4⟩:=r2;cases q2;obtain⟨_,_,p2,_⟩:=I.list (.inl h3);exact qiP x p2.isList hu0
   |_=>first|(cases o2;done)|exact flat rfl rfl (d:=.bl x) rfl r2 (v:=.bl x) rfl q2
  |int x=>
   cases r1;obtain⟨t1,rfl⟩:=q1
   cases e with
   |tup es=>obtain⟨b,us,rfl,h3,h4⟩:=r2;cases q2;obtain⟨_,_,p2,_⟩:=I.tuple (SqT.of h3);exact qiH x t1 p2 hu0
   |lst es=>obtain⟨b,us,rfl,_,h3,h4⟩:=r2;cases q2;obtain⟨_,_,p2,_⟩:=I.list (.inl h3);exact qiJ x t1 p2.isList hu0
   |_=>first|(cases o2;done)|exact flat rfl rfl (d:=.int x) rfl r2 (v:=.int x) ⟨t1,rfl⟩ q2
  |str x=>
   cases r1;obtain⟨t1,rfl⟩:=q1
   cases e with
   |tup es=>obtain⟨b,us,rfl,h3,h4⟩:=r2;cases q2;obtain⟨_,_,p2,_⟩:=I.tuple (SqT.of h3);exact qis x t1 p2 hu0
   |lst es=>obtain⟨b,us,rfl,_,h3,h4⟩:=r2;cases q2;obtain⟨_,_,p2,_⟩:=I.list (.inl h3);exact qiv x t1 p2.isList hu0
   |_=>first|(cases o2;done)|exact flat rfl rfl (d:=.str x) rfl r2 (v:=.str x) ⟨t1,rfl⟩ q2
  |ty _=>cases o1
  |scr _=>cases o1
  |dct=>cases o1
  |ob _ _=>cases o1
theorem xR {A:qbb}{y x:V}{u v:Value} (ry:bo y u) (rx:bo x v) (fy:fL y=true) (fx:fL x=true):qhr A s u v (eqV y x):=by
 cases y with
 |non=>
  cases ry
  cases x with
  |non=>cases rx;exact qh2
  |bl b=>cases rx;exact qh5 b
  |int b=>obtain⟨t,rfl⟩:=rx;exact qh4 b t
  |str b=>obtain⟨t,rfl⟩:=rx;exact qh1 b t
  |_=>cases fx
 |bl a=>
  cases ry
  cases x with
  |non=>cases rx;exact qij a
  |bl b=>cases rx;exact qim a b
  |int b=>obtain⟨t,rfl⟩:=rx;exact qil a b t
  |str b=>obtain⟨t,rfl⟩:=rx;exact qii a b t
  |_=>cases fx
 |int a=>
  obtain⟨t',rfl⟩:=ry
  cases x with
  |non=>cases rx;exact qid a t'
  |bl b=>cases rx;exact qig a t' b
  |int b=>obtain⟨t,rfl⟩:=rx;exact qif a t' b t
  |str b=>obtain⟨t,rfl⟩:=rx;exact qic a t' b t
  |_=>cases fx
 |str a=>
  obtain⟨t',rfl⟩:=ry
  cases x with
  |non=>cases rx;exact qhW a t'
  |bl b=>cases rx;exact qhZ a t' b
  |int b=>obtain⟨t,rfl⟩:=rx;exact qhY a t' b t
  |str b=>obtain⟨t,rfl⟩:=rx;exact qhV a t' b t
  |_=>cases fx
 |_=>cases fy
theorem uw {A:qbb}{y x:V}{u v:Value} (ry:bo y u) (rx:bo x v) (fy:fL y=true) (fx:fL x=true):qgr A s u v (!eqV y x):=by
 cases y with
 |non=>
  cases ry
  cases x with
  |non=>cases rx;exact qg4
  |bl b=>cases rx;exact qg7 b
  |int b=>obtain⟨t,rfl⟩:=rx;exact qg6 b t
  |str b=>obtain⟨t,rfl⟩:=rx;exact qg3 b t
  |_=>cases fx
 |bl a=>
  cases ry
  cases x with
  |non=>cases rx;exact qhn a
  |bl b=>cases rx;exact qhq a b
  |int b=>obtain⟨t,rfl⟩:=rx;exact qhp a b t
  |str b=>obtain⟨t,rfl⟩:=rx;exact qhm a b t
  |_=>cases fx
 |int a=>
  obtain⟨t',rfl⟩:=ry
  cases x with
  |non=>cases rx;exact qhh a t'
  |bl b=>cases rx;exact qhk a t' b
  |int b=>obtain⟨t,rfl⟩:=rx;exact qhj a t' b t
  |str b=>obtain⟨t,rfl⟩:=rx;exact qhg a t' b t
  |_=>cases fx
 |str a=>
  obtain⟨t',rfl⟩:=ry
  cases x with
  |non=>cases rx;exact qgY a t'
  |bl b=>cases rx;exact qg1 a t' b
  |int b=>obtain⟨t,rfl⟩:=rx;exact qg0 a t' b t
  |str b=>obtain⟨t,rfl⟩:=rx;exact qgX a t' b t
  |_=>cases fx
 |_=>cases fy
inductive Kin where
 |fl (d:D)|tp (ds:List D)|ls (ds:List D)
def nX (st:Sto):W->Option Kin
 |.d (.tup ds)=>some (.tp ds)
 |.d (.lst ds)=>some (.ls ds)
 |.h n=>(lg st n).map .ls
 |.d .non=>some (.fl .non)
 |.d (.bl b)=>some (.fl (.bl b))
 |.d (.int i)=>some (.fl (.int i))
 |.d (.str x)=>some (.fl (.str x))
 |_=>none
def eqK:Kin->Kin->Option Bool
 |.fl a,.fl b=>some (eqD a b)
 |.tp as,.tp bs=>if (as.isEmpty||bs.isEmpty)=true then some (as.isEmpty&&bs.isEmpty) else if as.all (okD 60)=true/\bs.all (okD 60)=true then some (iD as bs) else none
 |.ls as,.ls bs=>if as.length=bs.length then (if as.all (okD 60)=true/\bs.all (okD 60)=true then some (iD as bs) else none) else some false
 |.fl _,.tp _=>some false
 |.tp _,.fl _=>some false
 |.fl _,.ls _=>some false
 |.ls _,.fl _=>some false
 |.tp _,.ls _=>some false
 |.ls _,.tp _=>some false
def dEq (st:Sto) (x y:W):Option D:=(nX st x).bind λa=>(nX st y).bind λb=>(eqK a b).map λk=>.bl k
def dNe (st:Sto) (x y:W):Option D:=(nX st x).bind λa=>(nX st y).bind λb=>(eqK a b).map λk=>.bl (!k)
def xO (K:qac) (H:Hp) (φ:List Addr):Kin->V->Prop
 |.fl d,v=>dM d=true/\Rl K H φ d v
 |.tp ds,v=>∃ a vs,v=.ref a/\SqT K H a vs/\Rls K H φ ds vs
 |.ls ds,v=>∃ a vs,v=.ref a/\Rd H a (.lst vs)/\Rls K H φ ds vs
theorem kD {w:W}{v:V}{k:Kin} (S:Sr K H φ st) (r:Rw K H φ w v) (e:nX st w=some k):xO K H φ k v:=by
 cases w with
 |h n=>
  obtain⟨a,ea,rfl⟩:=r
  obtain⟨ds,e1,rfl⟩:=qad.mp e
  obtain⟨vs,q,rl⟩:=S.atl n a ds ea e1
  exact⟨a,vs,rfl,.inl q,rl⟩
 |d x=>
  cases x with
  |tup es=>cases e;obtain⟨a,vs,rfl,h1,h2⟩:=r;exact⟨a,vs,rfl,SqT.of h1,h2⟩
  |lst es=>cases e;obtain⟨a,vs,rfl,h0,h1,h2⟩:=r;exact⟨a,vs,rfl,h1,h2⟩
  |non=>cases e;exact⟨rfl,r⟩
  |bl b=>cases e;exact⟨rfl,r⟩
  |int b=>cases e;exact⟨rfl,r⟩
  |str b=>cases e;exact⟨rfl,r⟩
  |_=>cases e
theorem xb {A:qbb}{k:Nat} (hr:cN k A):A.in1.units+60<cLine:=by
 have:=hr.un
 show A.units+1+60<cLine
 lia
theorem uc {k:Nat} (hr:cN k X.A) (I:Inv X pins σ H s) {a b:Kin}{v u:V}{vv uu:Value}{r:Bool} (ra:xO X.K H φ a v) (rb:xO X.K H φ b u) (qa:bo v vv) (qb:bo u uu) (e:eqK a b=some r) :
  qhr X.A s vv uu r/\qgr X.A s vv uu (!r):=by
 have hu0:=hr.units0
 have items:∀ {ds es:List D}{vs us:List V}{its its2:List Value},Rls X.K H φ ds vs->Rls X.K H φ es us->aJ vs its->aJ us its2->ds.all (okD 60)=true->es.all (okD 60)=true->
   ∀ j (g1:j<its.toArray.size) (g2:j<its2.toArray.size),qdb X.A.in1 s its.toArray[j] its2.toArray[j] (eqD (ds.getD j .non) (es.getD j .non)):=by
  intro ds es vs us its its2 h2 h4 rv rv2 o1 o2 j g1 g2
  obtain⟨v1,k1,k2,k3⟩:=fg h2 rv j (by simpa using g1)
  obtain⟨v2,k4,k5,k6⟩:=fg h4 rv2 j (by simpa using g2)
  exact ya I 60 k1 k4 (by simpa using k2) (by simpa using k5) (qaY.mp o1 _ k3) (qaY.mp o2 _ k6) (xb hr)
 match a,b,e with
 |.fl d,.fl d',e=>
  cases e
  obtain⟨f1,r1⟩:=ra
  obtain⟨f2,r2⟩:=rb
  obtain⟨e1,g1⟩:=ir f1 r1
  obtain⟨e2,g2⟩:=ir f2 r2
  rw[<-nn f1 f2,<-e1,<-e2]
  exact⟨xR qa qb g1 g2,uw qa qb g1 g2⟩
 |.tp ds,.tp es,e=>
  simp only[eqK]at e
  obtain⟨a,vs,rfl,h1,h2⟩:=ra
  obtain⟨b,us,rfl,h3,h4⟩:=rb
  cases qa;cases qb
  obtain⟨its,rv,p1,_⟩:=I.tuple h1
  obtain⟨its2,rv2,p2,_⟩:=I.tuple h3
  have e1:its.toArray.size=ds.length:=by simp[<-rv.length,h2.length]
  have e2:its2.toArray.size=es.length:=by simp[<-rv2.length,h4.length]
  split at e
  ·rename_i hc
   cases e
   have hv:∀ j (g1:j<its.toArray.size) (g2:j<its2.toArray.size),qdb X.A.in1 s its.toArray[j] its2.toArray[j] (eqD (ds.getD j .non) (es.getD j .non)):=λj g1 g2=>by
    rw[e1]at g1
    rw[e2]at g2
    rw[qgc]at hc
    rcases hc with hc|hc
    ·rw[qfZ.mp hc]at g1;exact absurd g1 (qdx _)
    ·rw[qfZ.mp hc]at g2;exact absurd g2 (qdx _)
   have z:=qdB (A:=X.A) p1 p2 hu0 hv
   have z':=qev (A:=X.A) p1 p2 hu0 hv
   rw[e1,e2,fm]at z z'
   have e3:iD ds es=(ds.isEmpty&&es.isEmpty):=by
    cases ds with
    |nil=>cases es<;>rfl
    |cons _ _=>cases es with
     |nil=>rfl
     |cons _ _=>cases hc
   rw[e3]at z z'
   exact⟨z,z'⟩
  ·split at e
   ·rename_i hc
    cases e
    have z:=qdB (A:=X.A) p1 p2 hu0 (items h2 h4 rv rv2 hc.1 hc.2)
    have z':=qev (A:=X.A) p1 p2 hu0 (items h2 h4 rv rv2 hc.1 hc.2)
    rw[e1,e2,fm]at z z'
    exact⟨z,z'⟩
   ·cases e
 |.ls ds,.ls es,e=>
  simp only[eqK]at e
  obtain⟨a,vs,rfl,h1,h2⟩:=ra
  obtain⟨b,us,rfl,h3,h4⟩:=rb
  cases qa;cases qb
  obtain⟨its,rv,p1,_⟩:=I.list (.inl h1)
  obtain⟨its2,rv2,p2,_⟩:=I.list (.inl h3)
  have e1:its.toArray.size=ds.length:=by simp[<-rv.length,h2.length]
  have e2:its2.toArray.size=es.length:=by simp[<-rv2.length,h4.length]
  split at e
  ·rename_i hl
   split at e
   ·rename_i hc
    cases e
    have z:=qe2 (A:=X.A) p1.isList p2.isList (by rw[e1,e2,hl]) hu0 (items h2 h4 rv rv2 hc.1 hc.2)
    have z':=qg9 (A:=X.A) p1.isList p2.isList (by rw[e1,e2,hl]) hu0 (items h2 h4 rv rv2 hc.1 hc.2)
    rw[e1,iH hl]at z z'
    exact⟨z,z'⟩
   ·cases e
  ·rename_i hl
   cases e
   have z:=qed (A:=X.A) p1.isList p2.isList (by rw[e1,e2];simpa using hl) hu0
   have z':=qg8 (A:=X.A) p1.isList p2.isList (by rw[e1,e2];simpa using hl) hu0
   exact⟨z,z'⟩
 |.fl d,.tp es,e=>
  cases e
  obtain⟨f1,r1⟩:=ra
  obtain⟨b,us,rfl,h3,h4⟩:=rb
  cases qb
  obtain⟨its2,rv2,p2,_⟩:=I.tuple h3
  cases d with
  |non=>cases r1;cases qa;exact⟨qh0 p2 hu0,qg2 p2 hu0⟩
  |bl x=>cases r1;cases qa;exact⟨qih x p2 hu0,qhl x p2 hu0⟩
  |int x=>cases r1;obtain⟨t,rfl⟩:=qa;exact⟨qib x t p2 hu0,qhf x t p2 hu0⟩
  |str x=>cases r1;obtain⟨t,rfl⟩:=qa;exact⟨qhU x t p2 hu0,qgW x t p2 hu0⟩
  |_=>cases f1
 |.tp es,.fl d,e=>
  cases e
  obtain⟨f1,r1⟩:=rb
  obtain⟨b,us,rfl,h3,h4⟩:=ra
  cases qa
  obtain⟨its2,rv2,p2,_⟩:=I.tuple h3
  cases d with
  |non=>cases r1;cases qb;exact⟨qhQ p2 hu0,qgS p2 hu0⟩
  |bl x=>cases r1;cases qb;exact⟨qhT x p2 hu0,qgV x p2 hu0⟩
  |int x=>cases r1;obtain⟨t,rfl⟩:=qb;exact⟨qhS x t p2 hu0,qgU x t p2 hu0⟩
  |str x=>cases r1;obtain⟨t,rfl⟩:=qb;exact⟨qhP x t p2 hu0,qgR x t p2 hu0⟩
  |_=>cases f1
 |.fl d,.ls es,e=>
  cases e
  obtain⟨f1,r1⟩:=ra
  obtain⟨b,us,rfl,h3,h4⟩:=rb
  cases qb
  obtain⟨its2,rv2,p2,_⟩:=I.list (.inl h3)
  replace p2:=p2.isList
  cases d with
  |non=>cases r1;cases qa;exact⟨qh3 p2 hu0,qg5 p2 hu0⟩
  |bl x=>cases r1;cases qa;exact⟨qik x p2 hu0,qho x p2 hu0⟩
  |int x=>cases r1;obtain⟨t,rfl⟩:=qa;exact⟨qie x t p2 hu0,qhi x t p2 hu0⟩
  |str x=>cases r1;obtain⟨t,rfl⟩:=qa;exact⟨qhX x t p2 hu0,qgZ x t p2 hu0⟩
  |_=>cases f1
 |.ls es,.fl d,e=>
  cases e
  obtain⟨f1,r1⟩:=rb
  obtain⟨b,us,rfl,h3,h4⟩:=ra
  cases qa
  obtain⟨its2,rv2,p2,_⟩:=I.list (.inl h3)
  replace p2:=p2.isList
  cases d with
  |non=>cases r1;cases qb;exact⟨qh8 p2 hu0,qhc p2 hu0⟩
  |bl x=>cases r1;cases qb;exact⟨qia x p2 hu0,qhe x p2 hu0⟩
  |int x=>cases r1;obtain⟨t,rfl⟩:=qb;exact⟨qh9 x t p2 hu0,qhd x t p2 hu0⟩
  |str x=>cases r1;obtain⟨t,rfl⟩:=qb;exact⟨qh7 x t p2 hu0,qhb x t p2 hu0⟩
  |_=>cases f1
 |.tp ds,.ls es,e=>
  cases e
  obtain⟨a,vs,rfl,h1,h2⟩:=ra
  obtain⟨b,us,rfl,h3,h4⟩:=rb
  cases qa;cases qb
  obtain⟨its,rv,p1,_⟩:=I.tuple h1
  obtain⟨its2,rv2,p2,_⟩:=I.list (.inl h3)
  exact⟨qhR p1 p2.isList hu0,qgT p1 p2.isList hu0⟩
 |.ls ds,.tp es,e=>
  cases e
  obtain⟨a,vs,rfl,h1,h2⟩:=ra
  obtain⟨b,us,rfl,h3,h4⟩:=rb
  cases qa;cases qb
  obtain⟨its,rv,p1,_⟩:=I.list (.inl h1)
  obtain⟨its2,rv2,p2,_⟩:=I.tuple h3
  exact⟨qh6 p1.isList p2 hu0,qha p1.isList p2 hu0⟩
theorem qW {k:Nat} (hr:cN k X.A) (hK:X.K=K:=by rfl):OpD K X (qbD .Eq) dEq:=by
 subst hK
 refine⟨λst x y d h=>?_⟩
 simp only[dEq,qab,qad]at h
 obtain⟨a,ha,b,hb,r,e,rfl⟩:=h
 intro pins s σ H vx vy v u Q I rx ry q
 obtain⟨φ,S,r1,r2,q⟩:=q
 exact (uc hr I (kD S r1 ha) (kD S r2 hb) rx ry e).1 _ _ _ _ ⟨.bl r,H,I,rfl,q _ H (aY.refl H) rfl⟩
theorem uj {k:Nat} (hr:cN k X.A) (hK:X.K=K:=by rfl):OpD K X (qbD .NotEq) dNe:=by
 subst hK
 refine⟨λst x y d h=>?_⟩
 simp only[dNe,qab,qad]at h
 obtain⟨a,ha,b,hb,r,e,rfl⟩:=h
 intro pins s σ H vx vy v u Q I rx ry q
 obtain⟨φ,S,r1,r2,q⟩:=q
 exact (uc hr I (kD S r1 ha) (kD S r2 hb) rx ry e).2 _ _ _ _ ⟨.bl (!r),H,I,rfl,q _ H (aY.refl H) rfl⟩
end
section
variable {K:qac}{X:Cx}
def jD:List D->Option (List Int)
 |[]=>some []
 |.int i::ds=>(jD ds).map λr=>i::r
 |_=>none
theorem jW:∀ {ds:List D}{ns:List Int},jD ds=some ns->ds=ns.map D.int
 |[],_,h=>by cases h;rfl
 |.int i::ds,_,h=>by
  obtain⟨r,e,rfl⟩:=qad.mp h
  rw[jW e];rfl
 |.non::_,_,h=>by cases h
 |.bl _::_,_,h=>by cases h
 |.str _::_,_,h=>by cases h
 |.ty _::_,_,h=>by cases h
 |.dct::_,_,h=>by cases h
 |.scr _::_,_,h=>by cases h
 |.tup _::_,_,h=>by cases h
 |.lst _::_,_,h=>by cases h
theorem kL:∀ (ns:List Int),jD (ns.map D.int)=some ns
 |[]=>rfl
 |n::ns=>by rw[qay,jD,kL ns];rfl
def jH:List D->Option (List Bool)
 |[]=>some []
 |.bl i::ds=>(jH ds).map λr=>i::r
 |_=>none
theorem jS:∀ {ds:List D}{ns:List Bool},jH ds=some ns->ds=ns.map D.bl
 |[],_,h=>by cases h;rfl
 |.bl i::ds,_,h=>by
  obtain⟨r,e,rfl⟩:=qad.mp h
  rw[jS e];rfl
 |.non::_,_,h=>by cases h
 |.int _::_,_,h=>by cases h
 |.str _::_,_,h=>by cases h
 |.ty _::_,_,h=>by cases h
 |.dct::_,_,h=>by cases h
 |.scr _::_,_,h=>by cases h
 |.tup _::_,_,h=>by cases h
 |.lst _::_,_,h=>by cases h
theorem kI:∀ (ns:List Bool),jH (ns.map D.bl)=some ns
 |[]=>rfl
 |n::ns=>by rw[qay,jH,kI ns];rfl
def cv (st:Sto):List W->Option D
 |[.d (.str x)]=>if x.length<=1000000 then some (.int x.length) else none
 |[w]=>(gH st w).map λds=>.int ds.length
 |_=>none
def pA (_:Sto):List W->Option D
 |[.d (.int i)]=>some (.int (if i<0 then -i else i))
 |_=>none
def vZ (_:Sto):List W->Option D
 |[.d (.int i),.d (.int j)]=>some (.int (if j<i then j else i))
 |_=>none
def v7 (_:Sto):List W->Option D
 |[.d (.int i)]=>some (.int i)
 |[.d (.bl k)]=>some (.int (if k then 1 else 0))
 |_=>none
def so (_:Sto):List W->Option D
 |[.d (.lst ds)]=>(jH ds).map λns=>.bl (ns.all id)
 |_=>none
def kO (st:Sto):List W->Option D
 |[w]=>(gH st w).map λds=>.tup ds
 |_=>none
def rC (st:Sto):List W->Option (List D)
 |[w]=>gH st w
 |_=>none
theorem fB (hK:X.K=K:=by rfl):jX K X (.builtin "len") cv:=by
 subst hK
 refine⟨λst ws d h=>?_⟩
 have seq:∀ w,(gH st w).map (λds=>D.int ds.length)=some d->di X (.builtin "len") (rCD X.K st [w] d):=λw h=>by
  obtain⟨ds,e,rfl⟩:=qad.mp h
  refine nA.imp ?_
  rintro vs H Q ⟨φ,S,⟨v,r,rfl,r1,rfl⟩,q⟩
  obtain⟨a,us,rfl,h1,h2⟩:=jc S r1 e
  exact⟨a,us,rfl,h1,q _ H (aY.refl H) (by rw[<-h2.length];rfl)⟩
 cases ws with
 |nil=>cases h
 |cons w tl=>
  cases tl with
  |cons _ _=>
   cases w with
   |h n=>cases h
   |d x=>cases x<;>cases h
  |nil=>
   cases w with
   |h n=>exact seq _ h
   |d x=>
    cases x with
    |str x=>
     simp only[cv]at h
     split at h
     ·rename_i hl
      cases h
      refine nO.imp ?_
      rintro vs H Q ⟨φ,S,⟨v,r,rfl,r1,rfl⟩,q⟩
      exact⟨x,by rw[show v=.str x from r1],qa3 hl mil,q _ H (aY.refl H) rfl⟩
     ·cases h
    |tup ds=>exact seq _ h
    |lst ds=>exact seq _ h
    |scr ds=>exact seq _ h
    |_=>cases h
theorem qg:jX K X (.builtin "abs") pA:=by
 refine⟨λst ws d h=>?_⟩
 match ws,h with
 |[.d (.int i)],h=>
  cases h
  refine ux.imp ?_
  rintro vs H Q ⟨φ,S,⟨v,r,rfl,r1,rfl⟩,q⟩
  exact⟨i,by rw[show v=.int i from r1],q _ H (aY.refl H) rfl⟩
theorem xP (hc:X.calm=true:=by rfl):jX K X (.builtin "min") vZ:=by
 refine⟨λst ws d h=>?_⟩
 match ws,h with
 |[.d (.int i),.d (.int j)],h=>
  cases h
  refine (su hc).imp ?_
  rintro vs H Q ⟨φ,S,⟨v,r,rfl,r1,u,r',rfl,r2,rfl⟩,q⟩
  exact⟨i,j,by rw[show v=.int i from r1,show u=.int j from r2],q _ H (aY.refl H) rfl⟩
theorem xo:jX K X (.type "int") v7:=by
 refine⟨λst ws d h=>?_⟩
 match ws,h with
 |[.d (.int i)],h=>
  cases h
  refine mn.imp ?_
  rintro vs H Q ⟨φ,S,⟨v,r,rfl,r1,rfl⟩,q⟩
  exact .inl ⟨i,by rw[show v=.int i from r1],q _ H (aY.refl H) rfl⟩
 |[.d (.bl i)],h=>
  cases h
  refine mn.imp ?_
  rintro vs H Q ⟨φ,S,⟨v,r,rfl,r1,rfl⟩,q⟩
  exact .inr ⟨i,by rw[show v=.bl i from r1],q _ H (aY.refl H) rfl⟩
theorem sU (hc:X.calm=true:=by rfl) (hK:X.K=K:=by rfl):jX K X (.builtin "all") so:=by
 subst hK
 refine⟨λst ws d h=>?_⟩
 match ws,h with
 |[.d (.lst ds)],h=>
  obtain⟨ns,e,rfl⟩:=qad.mp h
  cases jS e
  refine (y4 (K:=X.K) hc rfl).imp ?_
  rintro vs H Q ⟨φ,S,⟨v,r,rfl,⟨a,us,rfl,h0,h1,h2⟩,rfl⟩,q⟩
  cases h2.bools
  exact⟨a,ns,rfl,.inl h1,q _ H (aY.refl H) rfl⟩
theorem jw (hK:X.K=K:=by rfl):jX K X (.type "tuple") kO:=by
 subst hK
 refine⟨λst ws d h=>?_⟩
 match ws,h with
 |[w],h=>
  obtain⟨ds,e,rfl⟩:=qad.mp h
  refine lL.imp ?_
  rintro vs H Q ⟨φ,S,⟨v,r,rfl,r1,rfl⟩,q⟩
  obtain⟨a,us,rfl,h1,h2⟩:=nQ S r1 e
  refine⟨a,us,rfl,?_⟩
  rcases h1 with h1|h1
  ·exact .inl ⟨h1,λl hl=>q _ _ (aY.new hl _) ⟨l,us,rfl,upd_same,h2.fw S (Fw.new hl)⟩⟩
  ·exact .inr ⟨SqT.of h1,q _ H (aY.refl H) ⟨a,us,rfl,h1,h2⟩⟩
theorem qO (hK:X.K=K:=by rfl):wp K X (.type "list") rC:=by
 subst hK
 refine⟨λst ws d h=>?_⟩
 match ws,h with
 |[w],h=>
  refine nL.imp ?_
  rintro vs H Q ⟨φ,S,⟨v,r,rfl,r1,rfl⟩,q⟩
  obtain⟨a,us,rfl,h1,h2⟩:=jc S r1 h
  exact⟨a,us,rfl,h1,λl hl=>q l us H (aY.refl H) hl h2⟩
variable {e a b:Expr}{es:List Expr}{pos:Pos}{f fa fb:Ef}{af:Af}
def iJ (g:List D->List W->Option (D×List D)) (o:Ef) (a:Af):Ef
 |env,st=>(o env st).bind λx=>(a env x.2).bind λr=>match x.1 with
 |.h n=>(lg x.2 n).bind λ_=>(lg r.2 n).bind λds=>(g ds r.1).map λy=>(.d y.1,r.2.set n (.l y.2))
 |_=>none
def eA (ds:List D):List W->Option (D×List D)
 |[.d x]=>if ds.length<1000000 then some (.non,ds++[x]) else none
 |_=>none
theorem wH {name:Str}{id:String}{apos:Pos}{rr:V->List V->Hp->VK->Prop}{g:List D->List W->Option (D×List D)} (slot:Slot "list" name id) (hty:typeOf (.builtin id)=pure (.type "method_descriptor")) (hm:MtR X id rr)
  (hg:∀ (H:Hp) (φ:List Addr) (st:Sto) (n:Nat) (ad:Addr) (ds:List D) (vs:List V) (ws:List W) (us:List V) (y:D×List D) (Q:VK),Sr K H φ st->φ[n]?=some ad->lg st n=some ds->H ad=some (.lst vs)->Rls K H φ ds vs->Rws K H φ ws us->g ds ws=some y->
    (∀ v vs',Rl K H φ y.1 v->Rls K H φ y.2 vs'->(∀ b,v≠.ref b)->Q v (upd H ad (.lst vs')))->rr (.ref ad) us H Q)
  (hfl:∀ ds ws y,g ds ws=some y->dM y.1=true)
  (ho:IE K X a fa) (ha:IA K X (e::es) af) (hbase:qcJ a name X.env (eval a X.env)=eval a X.env:=by rfl)
  (hall:(e::es).all aB=true:=by rfl) (hfl30:(e::es).length<30:=by decide) (hline:(apos.endLine==pos.line)=true:=by rfl) (hK:X.K=K:=by rfl) :
  IE K X (.Call (.Attribute a name apos) (e::es) [] pos) (iJ g fa af):=by
 subst hK
 have hall2:aB e=true/\es.all aB=true:=by rw[qbx,qaV]at hall;exact hall
 refine⟨λenv st r hr=>?_⟩
 simp only[iJ,qab]at hr
 obtain⟨⟨x,s1⟩,hx,⟨ws,s2⟩,hw,hr⟩:=hr
 cases x with
 |d x=>cases hr
 |h n=>
  simp only[qab,qad]at hr
  obtain⟨ds1,hds1,ds,hds,y,hy,rfl⟩:=hr
  refine (wy qeG slot hty hm (ho.run _ _ _ hx) (ha.run _ _ _ hw) hbase (oE hall hfl30) hline (aZ hall2.1) (bQ hall2.2)).imp ?_
  rintro σ H Q ⟨φ,hE,hS,q⟩
  refine⟨φ,hE,hS,λv H1 φ1 f1 S1 w1=>?_⟩
  obtain⟨ad,ea,rfl⟩:=w1
  obtain⟨vs1,hv1,_⟩:=S1.atl n ad _ ea hds1
  refine⟨.inl ⟨rfl,vs1,SqL.of hv1⟩,φ1,hE.fw hS f1,S1,λus H2 φ2 f2 S2 w2=>?_⟩
  have ea2:=f2.get ea
  obtain⟨vs2,hv2,rl2⟩:=S2.atl n ad ds ea2 hds
  refine hg H2 φ2 s2 n ad ds vs2 ws us y _ S2 ea2 hds hv2 rl2 w2 hy λv vs' r1 r2 hb=>?_
  obtain⟨f3,S3⟩:=S2.put ea2 r2
  exact q v _ φ2 ((f1.trans f2).trans f3) S3 (r1.fw S2 f3)
theorem jy {apos:Pos} (ho:IE K X a fa) (ha:IA K X (e::es) af) (hbase:qcJ a "append" X.env (eval a X.env)=eval a X.env:=by rfl)
  (hall:(e::es).all aB=true:=by rfl) (hfl30:(e::es).length<30:=by decide) (hline:(apos.endLine==pos.line)=true:=by rfl) (hK:X.K=K:=by rfl) :
  IE K X (.Call (.Attribute a "append" apos) (e::es) [] pos) (iJ eA fa af):=by
 refine wH PySem.F.slot_list_append PySem.F.type_list_append sH (λH φ st n ad ds vs ws us y Q S ea eds hv rl rw hy q=>?_) (λds ws y h=>?_) ho ha hbase hall hfl30 hline hK
 ·match ws,hy with
  |[.d x],hy=>
   simp only[eA]at hy
   split at hy
   ·rename_i hl
    cases hy
    obtain⟨v,r,rfl,r1,rfl⟩:=rw
    exact⟨ad,vs,v,rfl,rfl,hv,by rw[<-rl.length];exact qaN hl mil,q _ _ rfl (rl.append ⟨v,[],rfl,r1,rfl⟩) (λb z=>nomatch z)⟩
   ·cases hy
 ·match ws,h with
  |[.d x],h=>
   simp only[eA]at h
   split at h
   ·cases h;rfl
   ·cases h
end
section
variable {K:qac}{X:Cx}{e a b:Expr}{es:List Expr}{pos:Pos}{f fa fb:Ef}{af:Af}
def rL (K:qac) (st:Sto) (x y:W) (ds:List D):R2:=λvx vy H Q=>∃ φ,Sr K H φ st/\Rw K H φ x vx/\Rw K H φ y vy/\∀ p us,H p=none->Rls K H φ ds us->Q (.ref p) (upd H p (.lst us))
structure OpL (K:qac) (X:Cx) (f:Value->Value->Sem Value) (g:Sto->W->W->Option (List D)):Prop where
 run:∀ st x y d,g st x y=some d->OpR X f (rL K st x y d)
def pQ (g:Sto->W->W->Option (List D)) (a b:Ef):Lf
 |env,st=>(a env st).bind λx=>(b env x.2).bind λy=>(g y.2 x.1 y.1).map λd=>(d,y.2)
theorem uF {op:Operator}{g:Sto->W->W->Option (List D)} (ho:OpL K X (qbu op) g) (ha:IE K X a fa) (hb:IE K X b fb):IL K X (.BinOp a op b pos) (pQ g fa fb):=by
 refine⟨λenv st r hr=>?_⟩
 simp only[pQ,qab,qad]at hr
 obtain⟨x,hx,y,hy,d,hd,rfl⟩:=hr
 refine (wE (ho.run _ _ _ _ hd) (ha.run _ _ _ hx) (hb.run _ _ _ hy)).imp ?_
 rintro σ H Q ⟨φ,hE,hS,q⟩
 exact⟨φ,hE,hS,λv H1 φ1 f1 s1 w1=>⟨φ1,hE.fw hS f1,s1,λu H2 φ2 f2 s2 w2=>⟨φ2,s2,w1.fw s1 f2,w2,λp us hp r=>q p us H2 φ2 (f1.trans f2) s2 hp r⟩⟩⟩
def lW (_:Sto):W->W->Option (List D)
 |.d (.lst a),.d (.int k)=>if a.length<=1000/\-1000<=k/\k<1000 then some (qav k.toNat a).flatten else none
 |_,_=>none
theorem ph:OpL K X (qbu .Mult) lW:=by
 refine⟨λst x y d h=>?_⟩
 match x,y,h with
 |.d (.lst as),.d (.int k),h=>
  simp only[lW]at h
  split at h
  ·rename_i hl
   cases h
   refine rH.imp ?_
   rintro vx vy H Q ⟨φ,S,⟨a,us,rfl,h0,h1,h2⟩,r2,q⟩
   refine⟨a,k,us,rfl,r2,h1,by lia,by lia,?_,λp hp=>q p _ hp (h2.rep _)⟩
   rw[<-h2.length]
   have:as.length*k.toNat<=1000*1000:=qcN hl.1 (by lia)
   exact qa3 this mil
  ·cases h
theorem vz {H:Hp}{ad:Addr}{ns:List Int}{m:Fn} (hO:vH H) (hS:SqL K H ad (ns.map V.int)) (h:∃ st,m [.d (.scr ns)] []=some (.d (.bl true),st)):spI K m [.ref ad] H (λv _=>v=.bl true) λ_ _ _=>False:=by
 obtain⟨st,h⟩:=h
 refine⟨[],[],[.d (.scr ns)],_,h,⟨_,[],rfl,⟨ad,rfl,?_⟩,rfl⟩,⟨qc9,rfl,λn a ds e=>by simp at e⟩,λv H' φ' _ _ r=>r⟩
 rcases hS with (h|h)|h
 ·rcases hO ad with z|⟨o,xs,z⟩
  ·rw[h]at z;cases z
  ·rw[h]at z;cases z
 ·exact .inl h
 ·exact .inr h
end
end L2
namespace L2
open PySem
theorem dB {g:Tg}{body:Sf}:∀ {ds:List D} (Pv:Nat->Ev->Sto->Prop) {env:Ev}{st:Sto},Pv 0 env st->
  (∀ i d env st,ds[i]?=some d->Pv i env st->∃ e1 e2 s2,eG g (.d d) env=some e1/\(body e1 st=some (.nx e2 s2)\/body e1 st=some (.ct e2 s2))/\Pv (i+1) e2 s2)->
  ∃ env' st',cC g body ds env st=some (.nx env' st')/\Pv ds.length env' st'
 |[],Pv,env,st,h0,_=>⟨env,st,rfl,h0⟩
 |d::ds,Pv,env,st,h0,hs=>by
  obtain⟨e1,e2,s2,h1,h2,h3⟩:=hs 0 d env st rfl h0
  obtain⟨e',s',h4,h5⟩:=dB (g:=g) (body:=body) (ds:=ds) (λi=>Pv (i+1)) h3 λi d' env' st' hd p=>hs (i+1) d' env' st' (by simpa using hd) p
  refine⟨e',s',?_,h5⟩
  unfold cC
  rw[h1,qaa]
  rcases h2 with h2|h2<;>(rw[h2,qaa];exact h4)
theorem nK {g:Tg}{tt:Tf}{te:Ef}{env:Ev}:∀ {ds:List D} (Pv:Nat->List D->Sto->Prop) {st:Sto}{ys0:List D},Pv 0 ys0 st->
  (∀ i d ys st,ds[i]?=some d->Pv i ys st->∃ e1,eG g (.d d) env=some e1/\((∃ s1 x s2,tt e1 st=some (true,s1)/\te e1 s1=some (.d x,s2)/\Pv (i+1) (ys++[x]) s2)\/∃ s1,tt e1 st=some (false,s1)/\Pv (i+1) ys s1))->
  ∃ ys st',lcI g tt te env ds st=some (ys,st')/\Pv ds.length (ys0++ys) st'
 |[],Pv,st,ys0,h0,_=>⟨[],st,rfl,by rw[qbw];exact h0⟩
 |d::ds,Pv,st,ys0,h0,hs=>by
  obtain⟨e1,h1,h2⟩:=hs 0 d ys0 st rfl h0
  rcases h2 with⟨s1,x,s2,h2,h3,h4⟩|⟨s1,h2,h4⟩
  ·obtain⟨ys,s',h5,h6⟩:=nK (g:=g) (tt:=tt) (te:=te) (env:=env) (ds:=ds) (λi=>Pv (i+1)) h4 λi d' ys' st' hd p=>hs (i+1) d' ys' st' (by simpa using hd) p
   refine⟨x::ys,s',?_,by simpa using h6⟩
   unfold lcI
   rw[h1,qaa,h2,qaa,if_pos rfl,h3,qaa,h5]
   rfl
  ·obtain⟨ys,s',h5,h6⟩:=nK (g:=g) (tt:=tt) (te:=te) (env:=env) (ds:=ds) (λi=>Pv (i+1)) h4 λi d' ys' st' hd p=>hs (i+1) d' ys' st' (by simpa using hd) p
   refine⟨ys,s',?_,by simpa using h6⟩
   unfold lcI
   rw[h1,qaa,h2,qaa,if_neg qaF,h5]
theorem pd {g:Tg}{tt:Tf}{te:Ef}{env:Ev}{st:Sto} (p:D->Bool) (F:D->D):∀ {ds:List D},(∀ d∈ds,∃ e1,eG g (.d d) env=some e1/\tt e1 st=some (p d,st)/\(p d=true->te e1 st=some (.d (F d),st)))->
  lcI g tt te env ds st=some ((ds.filter p).map F,st)
 |[],_=>rfl
 |d::ds,h=>by
  obtain⟨e1,h1,h2,h3⟩:=h d qae
  have ih:=pd (g:=g) (tt:=tt) (te:=te) (env:=env) (st:=st) p F (ds:=ds) λx hx=>h x (qah _ hx)
  unfold lcI
  rw[h1,qaa,h2,qaa]
  cases hp:p d with
  |true=>rw[if_pos rfl,h3 hp,qaa,ih,qf2,hp];rfl
  |false=>rw[if_neg qaF,ih,qf2,hp];rfl
theorem vb {g:Tg}{te:Ef}{env:Ev}{st:Sto} (F:D->D) {ds:List D} (h:∀ d∈ds,∃ e1,eG g (.d d) env=some e1/\te e1 st=some (.d (F d),st)):lcI g bG te env ds st=some (ds.map F,st):=by
 have:=pd (g:=g) (tt:=bG) (te:=te) (env:=env) (st:=st) (λ_=>true) F (ds:=ds) λd hd=>by
  obtain⟨e1,h1,h2⟩:=h d hd
  exact⟨e1,h1,rfl,λ_=>h2⟩
 rw[this,qfo.mpr λ_ _=>rfl]
def eM (st:Sto) (n:Nat):Prop:=∃ x y z:Int,0<=x/\st[n]?=some (.l [.int x,.int y,.int z])
def Stp (n:Nat) (st st':Sto):Prop:=(∃ v,st'=st.set n v)/\eM st' n
theorem eM.lt {st:Sto}{n:Nat} (h:eM st n):n<st.length:=by
 obtain⟨x,y,z,_,e⟩:=h
 exact (qan.mp e).1
theorem Stp.refl {st:Sto}{n:Nat} (h:eM st n):Stp n st st:=by
 obtain⟨x,y,z,h0,e⟩:=id h
 exact⟨⟨_,(List.set_getElem_self (h.lt)).symm⟩,h⟩
theorem Stp.trans {n:Nat}{a b c:Sto} (h:Stp n a b) (h':Stp n b c):Stp n a c:=by
 obtain⟨⟨v,rfl⟩,_⟩:=h
 obtain⟨⟨u,rfl⟩,q⟩:=h'
 exact⟨⟨u,by rw[qeh]⟩,q⟩
theorem Stp.hand {n:Nat}{a b:Sto} (h:Stp n a b):eM b n:=h.2
theorem i8 {a b:Int} (h:-(2^64)<a/\a<2^64):qbm a b:=vL.ok (.inl h)
theorem kj {a b:Int} (h:-(2^64)<b/\b<2^64):qbm a b:=vL.ok (.inr h)
theorem je {st:Sto}{n:Nat}{v:C} (h:n<st.length):(st.set n v)[n]?=some v:=qa5 h
theorem ud {α:Type} (a:α) (l:List α):atI (a::l) 0=some a:=fJ (j:=0) rfl
theorem y8 {α:Type} (a b:α) (l:List α):atI (a::b::l) 1=some b:=fJ (j:=1) rfl
theorem xh {α:Type} (a b c:α) (l:List α):atI (a::b::c::l) 2=some c:=fJ (j:=2) rfl
theorem Ab (n:Nat):ixN (n+1) 0=some 0:=ef (j:=0) (by lia)
theorem yK (n:Nat):ixN (n+2) 1=some 1:=ef (j:=1) (by lia)
theorem xq (n:Nat):ixN (n+3) 2=some 2:=ef (j:=2) (by lia)
end L2
namespace L2
open PySem PySem.Spec PyProof.Rows
section
variable {prog:qa0}{w:World}{A:qbb}{E:Value->qak->Prop}{s:qak}{κ:qet}{O:qe4}{rk:Keyed->O.α}{S:Keyed->Prop}
variable {a0:Array Keyed}{lo:Nat}{p0:Array (Nat×Nat×Nat)}{g0:Nat}{st:qfR}
end
section
variable {prog:qa0}{w:World}{A:qbb}{E:Value->qak->Prop}{s:qak}{κ:qet}{O:qe4}{rk:Keyed->O.α}{S:Keyed->Prop}
variable {a0:Array Keyed}{lo:Nat}{p0:Array (Nat×Nat×Nat)}{g0:Nat}{st:qfR}
end
section
variable {prog:qa0}{w:World}{A:qbb}{E:Value->qak->Prop}{s:qak}{κ:qet}{O:qe4}{rk:Keyed->O.α}{S:Keyed->Prop}
variable {a0:Array Keyed}{lo:Nat}{p0:Array (Nat×Nat×Nat)}{g0:Nat}{st:qfR}
end
section
variable {O:qe4}{rk:Keyed->O.α}
variable {a b out:Array Keyed}{ia ib:Nat}
variable {na nb:Nat}
end
section
variable {prog:qa0}{w:World}{A:qbb}{E:Value->qak->Prop}{s:qak}{κ:qet}{O:qe4}{rk:Keyed->O.α}{S:Keyed->Prop}{st:qfR}{a b:Array Keyed}
end
section
variable {prog:qa0}{w:World}{A:qbb}{E:Value->qak->Prop}{s:qak}{κ:qet}{O:qe4}{rk:Keyed->O.α}{S:Keyed->Prop}{st:qfR}{a b out:Array Keyed}{na nb:Nat}
end
section
variable {prog:qa0}{w:World}{A:qbb}{E:Value->qak->Prop}{s:qak}{κ:qet}{O:qe4}{rk:Keyed->O.α}{S:Keyed->Prop}{st:qfR}{arr:Array Keyed}{n1 n2:Nat}
end
section
variable {prog:qa0}{w:World}{A:qbb}{E:Value->qak->Prop}{s:qak}{κ:qet}{O:qe4}{rk:Keyed->O.α}{S:Keyed->Prop}{st:qfR}{a0:Array Keyed}
end
end L2
namespace L2
open PySem PySem.Spec PyProof.Rows PySem.SeqAt
open MeetsSeq MeetsSeq2 MeetsSeq3 SeqRoads2
open AutoSeq1 (wpAny_loadPart')
section
variable {A:qbb}{s:qak}{p q:Addr}{us vs:Array Value}{e l:Nat->Bool}
end
end L2
namespace L2
open PySem PySem.Spec PyProof.Rows PySem.SeqAt PySem.W
section
variable {prog:qa0}{w:World}{A:qbb}{E:Value->qak->Prop}{s:qak}{x y:Value}{l m:List Int}
end
section
variable {prog:qa0}{w:World}{A:qbb}{E:Value->qak->Prop}{s:qak}{O:qe4}{rk:Keyed->O.α}{S:Keyed->Prop}{vs:List Value}
end
section
variable {prog:qa0}{w:World}{A:qbb}{E:Value->qak->Prop}{s:qak}
end
section
variable {K:qac}{X:Cx}{pins:List (Addr×Obj)}{σ:St}{H:Hp}{s:qak}{φ:List Addr}
end
end L2
namespace L2
open PySem PySem.Spec PyProof.Rows
open PySem.AutoSeq1 (wpAny_loadPart')
def SIt (k:Bool) (h:Heap) (it l:Addr) (i:Nat):Prop:=match k with
 |true=>h.IsTupleIter it l i
 |false=>h.IsListIter it l i
def SIs (k:Bool) (h:Heap) (l:Addr) (xs:Array Value):Prop:=match k with
 |true=>h.IsTuple l xs
 |false=>h.IsList l xs
theorem SIt.to {k:Bool}{h h':Heap}{it l:Addr}{i:Nat} (a:SIt k h it l i) (f:∀ o,h.get? it=some o->h'.get? it=some o):SIt k h' it l i:=by
 cases k with
 |true=>exact Heap.IsTupleIter.at a f
 |false=>exact Heap.IsListIter.at a f
theorem SIs.to {k:Bool}{h h':Heap}{l:Addr}{xs:Array Value} (a:SIs k h l xs) (f:∀ o,h.get? l=some o->h'.get? l=some o):SIs k h' l xs:=by
 cases k with
 |true=>obtain⟨o,e,r⟩:=a;exact⟨o,f o e,r⟩
 |false=>exact Heap.IsList.at a f
theorem SIt.live {k:Bool}{h:Heap}{it l:Addr}{i:Nat} (a:SIt k h it l i):∃ o vs,h.get? it=some o/\o.data=.fields vs:=by
 cases k with
 |true=>obtain⟨o,e,_,d⟩:=a;exact⟨o,_,e,d⟩
 |false=>obtain⟨o,e,_,d⟩:=a;exact⟨o,_,e,d⟩
section
variable {prog:qa0}{w:World}{A:qbb}{E:Value->qak->Prop}{s:qak}{k k2:Bool}
theorem mB {it l:Addr}{i:Nat}{xs:Array Value}{x:Value}{Q:Value->qak->Prop} (hit:SIt k s.heap it l i) (hl:SIs k s.heap l xs) (hx:xs[i]?=some x)
  (hQ:∀ h',SIt k h' it l (i+1)->qc6 it s.heap h'->Q x { s with heap:=h' }):wpAny (model prog w) A (qa1 (.ref it)) Q E s:=by
 cases k with
 |true=>exact fI hit hl hx hQ
 |false=>exact wpAny_nextOf_list_item hit hl hx hQ
theorem tX {it l:Addr}{i:Nat}{xs:Array Value}{Q:Value->qak->Prop} (hh:A.handled=none) (hit:SIt k s.heap it l i) (hl:SIs k s.heap l xs) (hx:xs[i]?=none)
  (hE:∀ h' e,qhB it s.heap h'->(∃ o,h'.get? e=some o/\o.cls=.type "StopIteration")->E (.ref e) { s with heap:=h' }):wpAny (model prog w) A (qa1 (.ref it)) Q E s:=by
 cases k with
 |true=>exact gg hh hit hl hx hE
 |false=>exact wpAny_nextOf_list_end hh hit hl hx hE
variable {z TI TO i1 i2 l1 l2:Addr}{n:Nat}{xs ys:Array Value}{a b:Value}
structure ZSt (k k2:Bool) (z TI TO i1 i2 l1 l2:Addr) (f0:Value) (n:Nat) (h:Heap):Prop where
 z:IsZip h z TI TO f0
 ti:qe5 h TI (.ref i1) (.ref i2)
 to:∃ a b,qe5 h TO a b
 t1:SIt k h i1 l1 n
 t2:SIt k2 h i2 l2 n
set_option maxHeartbeats 1000000 in
theorem tM {x y:Value}{Q:Option Value->qak->Prop} (D:ZipApart z TI TO i1 i2 l1 l2) (hs:ZSt k k2 z TI TO i1 i2 l1 l2 .none n s.heap) (hl1:SIs k s.heap l1 xs) (hl2:SIs k2 s.heap l2 ys) (hx:xs[n]?=some x) (hy:ys[n]?=some y)
  (hQ:∀ h',ZSt k k2 z TI TO i1 i2 l1 l2 (qfi s.heap.objs.size) (n+1) h'->qe5 h' s.heap.objs.size x y->h'.objs.size=s.heap.objs.size+1->
    (∀ c o,c≠z->c≠TO->c≠i1->c≠i2->s.heap.get? c=some o->h'.get? c=some o)->Q (some (.ref s.heap.objs.size)) { s with heap:=h' }) :
  wpAny (model prog w) A (qfP (.ref z)) Q E s:=by
 obtain⟨hz,hTI,⟨a,b,hTO⟩,h1,h2⟩:=hs
 have hT:s.TypeIs (.ref z) "zip":=⟨_,hz,rfl⟩
 unfold qfP
 refine qaf (wpAny_attempt (qbO (name:=qc7 "__next__") hT qdF (qcx qdF hT qgv ?_ (qgm _))))
 show wpAny _ _ (field (.ref z) 2 >>= _) _ _ _
 refine qaf (qbH hz rfl (x:=.bool false) rfl ?_)
 show wpAny _ _ (field (.ref z) 3 >>= _) _ _ _
 refine qaf (qbH hz rfl (x:=.ref TI) rfl (qaf (qb8 hTI rfl ?_)))
 show wpAny _ _ (qbC (.ref z) >>= _) _ _ _
 refine qaf ?_
 unfold qbC
 refine qaf (qbH hz rfl (x:=.none) rfl (qaw ?_))
 simp only[if_true]
 refine qaf (qdq (qaf (qbH hz rfl (x:=.ref TO) rfl ?_)))
 refine qaf (qce hz (by simp) λg1 hz1 s1=>?_)
 replace hz1:IsZip g1 z TI TO .ellipsis:=hz1
 refine qaf ?_
 simp only[qfW,qga,qey,qdE]
 have e1:=s1.extBut
 refine qaf (qaf (qes ?_))
 show wpAny _ _ (qa1 (.ref i1) >>= _) _ _ _
 refine qaf (mB (h1.to λo q=>e1 _ o D.i1z q) (hl1.to λo q=>e1 _ o D.l1z q) hx λg2 h12 s2=>qaw ?_)
 have e2:=s2.extBut
 have hTO2:qe5 g2 TO a b:=e2 _ _ D.TOi1 (e1 _ _ D.TOz hTO)
 refine qaf (qb8 hTO2 rfl (qaf (qd2 hTO2 λg3 hTO3 s3=>?_)))
 replace hTO3:qe5 g3 TO x b:=hTO3
 have e3:=s3.extBut
 refine qaf (qgd (qaw ?_))
 refine qaf (qaf (qes ?_))
 show wpAny _ _ (qa1 (.ref i2) >>= _) _ _ _
 refine qaf (mB (h2.to λo q=>e3 _ o D.TOi2.symm (e2 _ o D.i12.symm (e1 _ o D.i2z q))) (hl2.to λo q=>e3 _ o D.l2TO (e2 _ o D.l2i1 (e1 _ o D.l2z q))) hy λg4 h24 s4=>qaw ?_)
 have e4:=s4.extBut
 have hTO4:qe5 g4 TO x b:=e4 _ _ D.TOi2 hTO3
 refine qaf (qb8 hTO4 rfl (qaf (qd2 hTO4 λg5 hTO5 s5=>?_)))
 replace hTO5:qe5 g5 TO x y:=hTO5
 have e5:=s5.extBut
 refine qaf (qgd (qaw (qaw ?_)))
 refine qaf (qb8 hTO5 rfl (qaf (wpAny_newTuple ?_)))
 have hsz:g5.objs.size=s.heap.objs.size:=by rw[s5.1,s4.1,s3.1,s2.1,s1.1]
 have hz5:IsZip g5 z TI TO .ellipsis:=e5 _ _ D.TOz.symm (e4 _ _ D.i2z.symm (e3 _ _ D.TOz.symm (e2 _ _ D.i1z.symm hz1)))
 have kp:∀ c o,c≠z->c≠TO->c≠i1->c≠i2->s.heap.get? c=some o->g5.get? c=some o:=λc o c1 c2 c3 c4 e=>e5 _ _ c2 (e4 _ _ c4 (e3 _ _ c2 (e2 _ _ c3 (e1 _ _ c1 e))))
 have h15:SIt k g5 i1 l1 (n+1):=h12.to λo q=>e5 _ o D.TOi1.symm (e4 _ o D.i12 (e3 _ o D.TOi1.symm q))
 have h25:SIt k2 g5 i2 l2 (n+1):=h24.to λo q=>e5 _ o D.TOi2.symm q
 have hzlt:z<g5.objs.size:=qax hz5
 show wpAny _ _ (qc0 (.ref z) (.ref g5.objs.size) >>= _) _ _ _
 refine qaf ?_
 unfold qc0
 have hz6:IsZip (g5.push { cls:=.type "tuple",data:=.seq #[x,y] }) z TI TO .ellipsis:=qai _ hz5
 refine qaf (qce hz6 (by simp) λg7 hz7 s7=>?_)
 replace hz7:IsZip g7 z TI TO (qfi g5.objs.size):=hz7
 refine qce hz7 (by simp) λg8 hz8 s8=>?_
 replace hz8:IsZip g8 z TI TO (qfi g5.objs.size):=hz8
 have up:∀ c o,c≠z->g5.get? c=some o->g8.get? c=some o:=λc o c1 e=>s8.extBut _ _ c1 (s7.extBut _ _ c1 (qai _ e))
 have hT8:qe5 g8 g5.objs.size x y:=s8.extBut _ _ (qb0 hzlt) (s7.extBut _ _ (qb0 hzlt) (qaA _ rfl))
 have hz9:g8.objs.size=g5.objs.size+1:=by rw[s8.1,s7.1,qbd]
 rw[hsz]at hz8 hT8 hz9
 refine qaw ⟨_,rfl,qaw ?_⟩
 show Q (some (.ref g5.objs.size)) _
 rw[hsz]
 exact hQ g8 ⟨hz8,up _ _ D.TIz (kp _ _ D.TIz D.TITO D.TIi1 D.TIi2 hTI),⟨_,_,up _ _ D.TOz hTO5⟩,h15.to λo q=>up _ o D.i1z q,h25.to λo q=>up _ o D.i2z q⟩ hT8 hz9 λc o c1 c2 c3 c4 e=>up c o c1 (kp c o c1 c2 c3 c4 e)
set_option maxHeartbeats 1000000 in
theorem vR {Q:Option Value->qak->Prop} (hh:A.in1.handled=none) (D:ZipApart z TI TO i1 i2 l1 l2) (hs:ZSt k k2 z TI TO i1 i2 l1 l2 .none n s.heap) (hl1:SIs k s.heap l1 xs) (hl2:SIs k2 s.heap l2 ys) (hend:xs[n]?=none\/ys[n]?=none)
  (hQ:∀ h',(∀ c o,c≠z->c≠TO->c≠i1->c≠i2->s.heap.get? c=some o->h'.get? c=some o)->Q none { s with heap:=h' }):wpAny (model prog w) A (qfP (.ref z)) Q E s:=by
 obtain⟨hz,hTI,⟨a,b,hTO⟩,h1,h2⟩:=hs
 have hT:s.TypeIs (.ref z) "zip":=⟨_,hz,rfl⟩
 have fin:∀ (h':Heap) (e:Addr),(∀ c o,c≠z->c≠TO->c≠i1->c≠i2->s.heap.get? c=some o->h'.get? c=some o)->(∃ o,h'.get? e=some o/\o.cls=.type "StopIteration")->
   wpAny (model prog w) A (do if (<-isInstance (.ref e) (.type "StopIteration")) then pure none else throw (.ref e)) Q E { s with heap:=h' }:=λh' e hk ⟨o,ho,hc⟩=>
  qaf (wpAny_isInstance (T:="StopIteration") (b:=true) ⟨o,ho,hc⟩ isSubtype_stop (qaw (hQ _ hk)))
 unfold qfP
 refine qaf (wpAny_attempt (qbO (name:=qc7 "__next__") hT qdF (qcx qdF hT qgv ?_ (qgm _))))
 show wpAny _ _ (field (.ref z) 2 >>= _) _ _ _
 refine qaf (qbH hz rfl (x:=.bool false) rfl ?_)
 show wpAny _ _ (field (.ref z) 3 >>= _) _ _ _
 refine qaf (qbH hz rfl (x:=.ref TI) rfl (qaf (qb8 hTI rfl ?_)))
 show wpAny _ _ (qbC (.ref z) >>= _) _ _ _
 refine qaf ?_
 unfold qbC
 refine qaf (qbH hz rfl (x:=.none) rfl (qaw ?_))
 simp only[if_true]
 refine qaf (qdq (qaf (qbH hz rfl (x:=.ref TO) rfl ?_)))
 refine qaf (qce hz (by simp) λg1 hz1 s1=>?_)
 replace hz1:IsZip g1 z TI TO .ellipsis:=hz1
 refine qaf ?_
 simp only[qfW,qga,qey,qdE]
 have e1:=s1.extBut
 refine qaf (qaf (qes ?_))
 show wpAny _ _ (qa1 (.ref i1) >>= _) _ _ _
 cases hx:xs[n]? with
 |none=>
  refine qaf (tX hh (h1.to λo q=>e1 _ o D.i1z q) (hl1.to λo q=>e1 _ o D.l1z q) hx λg2 e s2 he=>?_)
  obtain⟨oe,hoe,hce⟩:=he
  have hz2:IsZip g2 z TI TO .ellipsis:=s2 _ _ D.i1z.symm hz1
  have hez:e≠z:=λx=>by subst x;rw[hz2]at hoe;cases hoe;simp at hce
  exact qce hz2 (by simp) λg3 _ s3=>fin g3 e (λc o c1 _ c3 _ x=>s3.extBut _ _ c1 (s2 _ _ c3 (e1 _ _ c1 x))) ⟨oe,s3.extBut _ _ hez hoe,hce⟩
 |some x=>
  have hy:ys[n]?=none:=by rcases hend with h|h;rw[hx]at h;cases h;exact h
  refine qaf (mB (h1.to λo q=>e1 _ o D.i1z q) (hl1.to λo q=>e1 _ o D.l1z q) hx λg2 h12 s2=>qaw ?_)
  have e2:=s2.extBut
  have hTO2:qe5 g2 TO a b:=e2 _ _ D.TOi1 (e1 _ _ D.TOz hTO)
  refine qaf (qb8 hTO2 rfl (qaf (qd2 hTO2 λg3 hTO3 s3=>?_)))
  have e3:=s3.extBut
  refine qaf (qgd (qaw ?_))
  refine qaf (qaf (qes ?_))
  show wpAny _ _ (qa1 (.ref i2) >>= _) _ _ _
  refine qaf (tX hh (h2.to λo q=>e3 _ o D.TOi2.symm (e2 _ o D.i12.symm (e1 _ o D.i2z q))) (hl2.to λo q=>e3 _ o D.l2TO (e2 _ o D.l2i1 (e1 _ o D.l2z q))) hy λg4 e s4 he=>?_)
  obtain⟨oe,hoe,hce⟩:=he
  have hz4:IsZip g4 z TI TO .ellipsis:=s4 _ _ D.i2z.symm (e3 _ _ D.TOz.symm (e2 _ _ D.i1z.symm hz1))
  have hez:e≠z:=λx=>by subst x;rw[hz4]at hoe;cases hoe;simp at hce
  exact qce hz4 (by simp) λg5 _ s5=>fin g5 e (λc o c1 c2 c3 c4 x=>s5.extBut _ _ c1 (s4 _ _ c4 (e3 _ _ c2 (e2 _ _ c3 (e1 _ _ c1 x))))) ⟨oe,s5.extBut _ _ hez hoe,hce⟩
end
def yB (k:Bool):Value:=if k=true then .type "tuple_iterator" else .type "list_iterator"
def lw (k:Bool) (l:Addr):Obj:={ cls:=yB k,data:=.fields #[.ref l,.int 0 0] }
abbrev zH1 (k:Bool) (h:Heap) (l1:Addr):Heap:=h.push (lw k l1)
abbrev zH2 (k k2:Bool) (h:Heap) (l1 l2:Addr):Heap:=(zH1 k h l1).push (lw k2 l2)
abbrev zH3 (k k2:Bool) (h:Heap) (l1 l2:Addr):Heap:=(zH2 k k2 h l1 l2).push { cls:=.type "tuple",data:=.seq #[.ref h.objs.size,.ref (zH1 k h l1).objs.size] }
abbrev zH4 (k k2:Bool) (h:Heap) (l1 l2:Addr):Heap:=(zH3 k k2 h l1 l2).push { cls:=.type "tuple",data:=.seq #[.none,.none] }
abbrev zH5 (k k2:Bool) (h:Heap) (l1 l2:Addr):Heap:=(zH4 k k2 h l1 l2).push { cls:=.type "zip",data:=.fields #[.none,.bool false,.bool false,.ref (zH2 k k2 h l1 l2).objs.size,.ref (zH3 k k2 h l1 l2).objs.size] }
section
variable {prog:qa0}{w:World}{A:qbb}{E:Value->qak->Prop}{s:qak}{k k2:Bool}
theorem ow {l:Addr}{xs:Array Value}{Q:Value->qak->Prop} (hl:SIs k s.heap l xs) (h:Q (.ref s.heap.objs.size) { s with heap:=s.heap.push (lw k l) }):wpAny (model prog w) A (pyIter (.ref l)) Q E s:=by
 cases k with
 |true=>exact qcI hl h
 |false=>exact qeC hl h
theorem md (l1 l2:Addr) (xs ys:Array Value) (k k2:Bool) :
  Meets (qgo.«zip.__new__» ⟨[.type "zip",.ref l1,.ref l2],[]⟩) (λ_ R s=>SIs k s.heap l1 xs/\SIs k2 s.heap l2 ys/\R (.ok (.ret (.ref (zH4 k k2 s.heap l1 l2).objs.size))) { s with heap:=zH5 k k2 s.heap l1 l2 }):=
 .of_wp λprog w A R s h=>by
  obtain⟨hp,g,d,tk,os⟩:=s
  obtain⟨hl1,hl2,h⟩:=h
  have hsub:=sub_zip
  have hL1:SIs k (qe6 ⟨hp,g,d,tk,os⟩) l1 xs:=hl1
  have hL2:SIs k2 (qe6 ⟨hp.push (lw k l1),g,d,tk,os⟩) l2 ys:=hl2.to λo q=>qai _ q
  wp_walk using ow hL1,ow hL2
  exact⟨_,rfl,h⟩
theorem oA (k:Bool) {h:Heap}{it l:Addr} (e:h.get? it=some (lw k l)):SIt k h it l 0:=by
 cases k with
 |true=>exact⟨_,e,rfl,rfl⟩
 |false=>exact⟨_,e,rfl,rfl⟩
theorem nj {l1 l2:Addr}{xs ys:Array Value}{Q:Value->qak->Prop} (hl1:SIs k s.heap l1 xs) (hl2:SIs k2 s.heap l2 ys)
  (h:∀ h',ZSt k k2 (s.heap.objs.size+4) (s.heap.objs.size+2) (s.heap.objs.size+3) s.heap.objs.size (s.heap.objs.size+1) l1 l2 .none 0 h'->
    (∀ c o,s.heap.get? c=some o->h'.get? c=some o)->Q (.ref (s.heap.objs.size+4)) { s with heap:=h' }) :
  wpAny (model prog w) A (call (.type "zip") [.ref l1,.ref l2]) Q E s:=by
 refine callType_new F.called_zip (by decide) (F.typeCall_zip_2 _ _) (F.newCall_zip_2 _ _) (λobj=>F.args_object_init_3 obj _ _) F.entry_zip_new (md l1 l2 xs ys k k2) ⟨hl1,hl2,?_⟩
 have z1:(zH1 k s.heap l1).objs.size=s.heap.objs.size+1:=qbd ..
 have z2:(zH2 k k2 s.heap l1 l2).objs.size=s.heap.objs.size+2:=by rw[qbd,z1]
 have z3:(zH3 k k2 s.heap l1 l2).objs.size=s.heap.objs.size+3:=by rw[qbd,z2]
 have z4:(zH4 k k2 s.heap l1 l2).objs.size=s.heap.objs.size+4:=by rw[qbd,z3]
 have up:∀ {h:Heap}{o':Obj}{c:Addr}{o:Obj},h.get? c=some o->(h.push o').get? c=some o:=λe=>qai _ e
 have g5:(zH5 k k2 s.heap l1 l2).get? (zH4 k k2 s.heap l1 l2).objs.size=some _:=qaA _ rfl
 have g4:(zH5 k k2 s.heap l1 l2).get? (zH3 k k2 s.heap l1 l2).objs.size=some _:=up (qaA _ rfl)
 have g3:(zH5 k k2 s.heap l1 l2).get? (zH2 k k2 s.heap l1 l2).objs.size=some _:=up (up (qaA _ rfl))
 have g2:(zH5 k k2 s.heap l1 l2).get? (zH1 k s.heap l1).objs.size=some (lw k2 l2):=up (up (up (qaA _ rfl)))
 have g1:(zH5 k k2 s.heap l1 l2).get? s.heap.objs.size=some (lw k l1):=up (up (up (up (qaA _ rfl))))
 show _/\_
 rw[z2,z3,z4]at g5
 rw[z1,z2]at g3
 rw[z3]at g4
 rw[z1]at g2
 rw[z4]
 exact⟨⟨_,g5,rfl⟩,h _ ⟨g5,g3,⟨_,_,g4⟩,oA k g1,oA k2 g2⟩ λc o x=>up (up (up (up (up x))))⟩
end
def SqK (k:Bool) (K:qac) (H:Hp) (a:Addr) (xs:List V):Prop:=match k with
 |true=>SqT K H a xs
 |false=>SqL K H a xs
def Itz (S1 S2:Hp->List V->Prop):It:=
 ⟨λi H=>∃ xs ys x y,S1 H xs/\S2 H ys/\xs[i]?=some x/\ys[i]?=some y,λi H x H'=>∃ T v u,(∀ xs,S1 H xs->xs[i]?=some v)/\(∀ ys,S2 H ys->ys[i]?=some u)/\H T=none/\x=.ref T/\H'=upd H T (.tup [v,u]),
  λi H=>∃ xs ys,S1 H xs/\S2 H ys/\(xs[i]?=none\/ys[i]?=none)⟩
theorem Inv.seqK {X:Cx}{pins:List (Addr×Obj)}{σ:St}{H:Hp}{s:qak}{k:Bool}{a:Addr}{xs:List V} (I:Inv X pins σ H s) (h:SqK k X.K H a xs):∃ its:List Value,aJ xs its/\SIs k s.heap a its.toArray:=by
 cases k with
 |true=>obtain⟨its,r,p,_⟩:=I.tuple h;exact⟨its,r,p⟩
 |false=>obtain⟨its,r,p,_⟩:=I.list h;exact⟨its,r,p.isList⟩
theorem Inv.seqK_inj {X:Cx}{pins:List (Addr×Obj)}{σ:St}{H:Hp}{s:qak}{k:Bool}{a:Addr}{xs ys:List V} (I:Inv X pins σ H s) (h:SqK k X.K H a xs) (h':SqK k X.K H a ys):xs=ys:=by
 cases k with
 |true=>exact I.tuple_inj h h'
 |false=>exact I.list_inj h h'
theorem uL {P:qa0}{w:World}{K:qac}{elts:List Expr}{kk:Nat}{pos:Pos}{k k2:Bool}{z TI TO i1 i2 l1 l2:Addr} (D:ZipApart z TI TO i1 i2 l1 l2) :
  pP P w K (.Tuple elts kk pos) (Itz (λH xs=>SqK k K H l1 xs) λH xs=>SqK k2 K H l2 xs) [z,TI,TO,i1,i2] z (λi h=>ZSt k k2 z TI TO i1 i2 l1 l2 .none i h) where
 mem:=by simp
 obj:=λi h st b hb=>by
  simp only[qaH,qbq,or_false]at hb
  rcases hb with rfl|rfl|rfl|rfl|rfl
  ·exact⟨_,st.z,λv z=>by cases z⟩
  ·exact⟨_,st.ti,λv z=>by cases z⟩
  ·obtain⟨a,b,e⟩:=st.to;exact⟨_,e,λv z=>by cases z⟩
  ·obtain⟨o,vs,e,d⟩:=st.t1.live;exact⟨o,e,λv z=>by rw[d]at z;cases z⟩
  ·obtain⟨o,vs,e,d⟩:=st.t2.live;exact⟨o,e,λv z=>by rw[d]at z;cases z⟩
 keep:=λi h h' st kp=>by
  obtain⟨a,b,e⟩:=st.to
  exact⟨kp z (by simp) _ st.z,kp TI (by simp) _ st.ti,⟨a,b,kp TO (by simp) _ e⟩,st.t1.to λo q=>kp i1 (by simp) o q,st.t2.to λo q=>kp i2 (by simp) o q⟩
 item:=by
  intro X hP hw hK hc i pins s σ H E I hf st hg
  subst hP hw hK
  obtain⟨xs,ys,x,y,hq1,hq2,hx,hy⟩:=hg
  obtain⟨us,rv1,p1⟩:=I.seqK hq1
  obtain⟨vs,rv2,p2⟩:=I.seqK hq2
  obtain⟨u,hu,ru⟩:=rv1.get hx
  obtain⟨v,hv,rv⟩:=rv2.get hy
  refine tM D st p1 p2 (x:=u) (y:=v) (by simpa using hu) (by simpa using hv) λh1 st1 hT hsz kp=>⟨_,rfl,?_⟩
  refine wpAny_letOwnedTupleGo_zip st1.z λh2 hz2 s2=>?_
  have e2:=s2.extBut
  obtain⟨c1,c2,hto⟩:=st1.to
  have nz:∀ b∈[z,TI,TO,i1,i2],b≠s.heap.objs.size:=λb hb e=>by
   obtain⟨o,ho,_⟩:=(show ∃ o,s.heap.get? b=some o/\True by
    simp only[qaH,qbq,or_false]at hb
    obtain⟨a',b',e'⟩:=st.to
    obtain⟨o1,_,q1,_⟩:=st.t1.live
    obtain⟨o2,_,q2,_⟩:=st.t2.live
    rcases hb with rfl|rfl|rfl|rfl|rfl
    ·exact⟨_,st.z,trivial⟩
    ·exact⟨_,st.ti,trivial⟩
    ·exact⟨_,e',trivial⟩
    ·exact⟨_,q1,trivial⟩
    ·exact⟨_,q2,trivial⟩)
   have:=qax ho
   rw[e]at this
   exact qaR _ this
  have hT2:dC h2 s.heap.objs.size #[u,v]:=⟨_,e2 _ _ (qbo (nz z (by simp))) hT,rfl,⟨_,rfl⟩,rfl⟩
  refine⟨.ref s.heap.objs.size,upd H s.heap.objs.size (.tup [x,y]),?_,rfl,⟨s.heap.objs.size,x,y,λzs hz=>by rw[I.seqK_inj hz hq1];exact hx,λzs hz=>by rw[I.seqK_inj hz hq2];exact hy,I.hok.fresh (qal _),rfl,rfl⟩,?_,λb hb=>?_⟩
  ·have I2:Inv X pins σ (upd H s.heap.objs.size (.tup [x,y])) { s with heap:=h2,toks:=s.toks }:=I.turnsT (fp:=[z,TI,TO,i1,i2]) (h':=h2) (t':=s.toks) (its:=#[u,v]) hf (λb o hb q=>by
    simp only[qaH,qbq,or_false,not_or]at hb
    exact e2 b o hb.1 (kp b o hb.1 hb.2.2.1 hb.2.2.2.1 hb.2.2.2.2 q)) (qal _) hT2 (.cons ru (.cons rv .nil)) (by show 2<=qaM;decide)
   exact I2
  ·exact⟨hz2,e2 _ _ D.TIz st1.ti,⟨c1,c2,e2 _ _ D.TOz hto⟩,st1.t1.to λo q=>e2 _ o D.i1z q,st1.t2.to λo q=>e2 _ o D.i2z q⟩
  ·rw[upd_ne (nz b hb)];exact (hf b hb).1
 done:=by
  intro X hP hw hK hc i pins s σ H E I hf st hg
  subst hP hw hK
  obtain⟨xs,ys,hq1,hq2,hend⟩:=hg
  obtain⟨us,rv1,p1⟩:=I.seqK hq1
  obtain⟨vs,rv2,p2⟩:=I.seqK hq2
  have hl1:=rv1.length
  have hl2:=rv2.length
  refine vR (I.ok.hd hc) D st p1 p2 (by
   rcases hend with h|h
   ·left;rw[qck]at h;simp;lia
   ·right;rw[qck]at h;simp;lia) λh' kp=>⟨rfl,I.turns (t':=s.toks) (fp:=[z,TI,TO,i1,i2]) hf λb o hb q=>?_⟩
  simp only[qaH,qbq,or_false,not_or]at hb
  exact kp b o hb.1 hb.2.2.1 hb.2.2.2.1 hb.2.2.2.2 q
 self:=λ_ _ _ _ _ st h=>qgP st.z h
def zW (K:qac) (k k2:Bool) (ta:TA):L2.TI:=λσ H R=>ta σ H λvs H1=>∃ a b,vs=[.ref a,.ref b]/\(∃ xs,SqK k K H1 a xs)/\(∃ xs,SqK k2 K H1 b xs)/\R (Itz (λH xs=>SqK k K H a xs) λH xs=>SqK k2 K H b xs) H1
theorem xH {X:Cx}{elts:List Expr}{kk:Nat}{tpos:Pos}{a b:Expr}{ta:TA}{p pos:Pos}{k k2:Bool} (hg:Gl X "zip") (hm:X.mg "zip" = none) (ha:PA X [a,b] ta) (hs:qbg [a,b] X.env=[(false,eval a X.env),(false,eval b X.env)]:=by rfl) (hs2:qbg [b] X.env=[(false,eval b X.env)]:=by rfl) :
  PI X (.Tuple elts kk tpos) (.Call (.Name "zip" p) [a,b] [] pos) (zW X.K k k2 ta):=by
 intro pins s σ H R I h
 refine Call_ (jI I hg hm boot_zip (qbL (thn (ha pos pins s σ H _ I h) λus s1 ⟨vs,H1,I1,r1,q1⟩=>?_) (by rw[hs,hs2]) (by rw[hs2];rfl)))
 obtain⟨l,m,e,⟨xs,hq⟩,⟨ys,hq2⟩,q⟩:=q1
 subst e
 cases r1 with
 |cons r rr=>
  cases rr with
  |cons r' rr=>
   cases rr
   cases r
   cases r'
   obtain⟨us,rv1,p1⟩:=I1.seqK hq
   obtain⟨vs,rv2,p2⟩:=I1.seqK hq2
   have lt:∀ {k:Bool}{l:Addr}{us:Array Value},SIs k s1.heap l us->l<s1.heap.objs.size:=λ{k l us} hl=>by
    cases k with
    |true=>obtain⟨_,he,_⟩:=hl;exact qax he
    |false=>obtain⟨_,he,_⟩:=hl;exact qax he
   refine nj p1 p2 λh' hst hk=>qgP hst.z ?_
   refine⟨_,[s1.heap.objs.size+4,s1.heap.objs.size+2,s1.heap.objs.size+3,s1.heap.objs.size,s1.heap.objs.size+1],_,_,H1,rfl,I1.kept (t':=s1.toks) hk,uL (zipApart_new (lt p1) (lt p2)),hst,λb hb=>?_,q⟩
   have hb':s1.heap.objs.size<=b:=by
    simp only[qaH,qbq,or_false]at hb
    rcases hb with rfl|rfl|rfl|rfl|rfl
    ·exact qcr _ 4
    ·exact qcr _ 2
    ·exact qcr _ 3
    ·exact qal _
    ·exact qcr _ 1
   exact I1.fpOk hb' (I1.hok.fresh hb')
def iS:List D->List D->List D
 |d::ds,e::es=>.tup [d,e]::iS ds es
 |_,_=>[]
def xn:W->Option (Bool×List D)
 |.d (.tup ds)=>some (true,ds)
 |.d (.lst ds)=>some (false,ds)
 |_=>none
def gN (af:Af):Lf
 |env,st=>(af env st).bind λr=>match r.1 with
  |[x,y]=>(xn x).bind λa=>(xn y).map λb=>(iS a.2 b.2,r.2)
  |_=>none
theorem gY:∀ (ds es:List D) (i:Nat),(iS ds es)[i]?=(ds[i]?).bind λd=>(es[i]?).map λe=>D.tup [d,e]
 |[],es,i=>by simp[iS]
 |d::ds,[],i=>by cases i<;>simp[iS]
 |d::ds,e::es,0=>by simp[iS]
 |d::ds,e::es,i+1=>by simpa [iS] using gY ds es i
theorem ot:∀ (ds es:List D),(iS ds es).length=min ds.length es.length
 |[],es=>by simp[iS]
 |d::ds,[]=>by simp[iS]
 |d::ds,e::es=>by simp[iS,ot ds es]
section
variable {K:qac}{X:Cx}{a b:Expr}{pos:Pos}{af:Af}
theorem qZ {st:Sto}{H:Hp}{φ:List Addr}{w:W}{v:V}{p:Bool×List D} (r:Rw K H φ w v) (e:xn w=some p) (S:Sr K H φ st):∃ a vs,v=.ref a/\SqK p.1 K H a vs/\(∀ H' φ',Fw φ φ' H H'->SqK p.1 K H' a vs)/\Rls K H φ p.2 vs:=by
 cases w with
 |h n=>cases e
 |d x=>
  cases x with
  |tup ds=>
   cases e
   obtain⟨a,us,rfl,hq,hr⟩:=r
   exact⟨a,us,rfl,(SqT.of hq),λH' φ' f=>(SqT.of hq).fw S f,hr⟩
  |lst ds=>
   cases e
   obtain⟨a,us,rfl,h0,hq,hr⟩:=r
   exact⟨a,us,rfl,.inl hq,λH' φ' f=>.inl (hq.fw f h0),hr⟩
  |_=>cases e
theorem wZ {S1 S2:Hp->List V->Prop}{ds es:List D}{vs us:List V}{φ:List Addr}{H:Hp} (h1:∀ H' φ',Fw φ φ' H H'->S1 H' vs) (h2:∀ H' φ',Fw φ φ' H H'->S2 H' us) (r1:∀ H' φ',Fw φ φ' H H'->Rls K H' φ' ds vs) (r2:∀ H' φ',Fw φ φ' H H'->Rls K H' φ' es us) :
  Yl K φ H (Itz S1 S2) (iS ds es):=by
 intro H2 φ2 st2 i f2 s2
 have q1:=h1 H2 φ2 f2
 have q2:=h2 H2 φ2 f2
 have w1:=r1 H2 φ2 f2
 have w2:=r2 H2 φ2 f2
 refine⟨λd hd=>?_,λhi=>⟨vs,us,q1,q2,?_⟩⟩
 ·rw[gY,qab]at hd
  obtain⟨d1,hd1,hd⟩:=hd
  obtain⟨d2,hd2,rfl⟩:=qad.mp hd
  obtain⟨v,ev,rv⟩:=w1.get hd1
  obtain⟨u,eu,ru⟩:=w2.get hd2
  refine⟨⟨vs,us,v,u,q1,q2,ev,eu⟩,λx H' y=>?_⟩
  obtain⟨T,v',u',y1,y2,hT,rfl,rfl⟩:=y
  have z1:=y1 vs q1
  have z2:=y2 us q2
  rw[ev]at z1
  rw[eu]at z2
  cases z1
  cases z2
  exact⟨aY.new hT _,T,_,rfl,upd_same,_,_,rfl,rv.fw s2 (Fw.new hT),_,_,rfl,ru.fw s2 (Fw.new hT),rfl⟩
 ·rw[ot]at hi
  have l1:=w1.length
  have l2:=w2.length
  rw[qck,qck]
  lia
theorem ql {elts:List Expr}{k:Nat}{tpos p:Pos} (hg:Gl X "zip") (hm:X.mg "zip" = none) (ha:IA K X [a,b] af) (hs:aB a=true:=by rfl) (hs2:aB b=true:=by rfl) (hK:X.K=K:=by rfl) :
  II K X (.Tuple elts k tpos) (.Call (.Name "zip" p) [a,b] [] pos) (gN af):=by
 subst hK
 refine⟨λenv st r hr=>?_⟩
 simp only[gN,qab]at hr
 obtain⟨⟨ws,s1⟩,hy,hr⟩:=hr
 match ws,hr with
 |[x,y],hr=>
  simp only[qab,qad]at hr
  obtain⟨p1,hp1,p2,hp2,rfl⟩:=hr
  refine (xH (k:=p1.1) (k2:=p2.1) hg hm (ha.run _ _ _ hy) (uB hs hs2) (gW hs2)).imp ?_
  rintro σ H R ⟨φ,hE,hS,q⟩
  refine⟨φ,hE,hS,λvs H1 φ1 f1 s1 w1=>?_⟩
  obtain⟨v,r,rfl,rx,v2,r',rfl,ry,rfl⟩:=w1
  obtain⟨a,us,rfl,hq,hq',hr⟩:=qZ rx hp1 s1
  obtain⟨b,us2,rfl,hq2,hq2',hr2⟩:=qZ ry hp2 s1
  exact⟨a,b,rfl,⟨us,hq⟩,⟨us2,hq2⟩,q _ H1 φ1 f1 s1 (wZ hq' hq2' (λH' φ' f=>hr.fw s1 f) λH' φ' f=>hr2.fw s1 f)⟩
end
end L2
namespace L2
open PySem PySem.Spec PyProof.Rows
section
variable {prog:qa0}{w:World}{A:qbb}{s:qak}{I l S:Addr}{items:Array Value}{ns:List Int}{kw:List (Str×Value)}{R:Result->qak->Prop}
variable {E:Value->qak->Prop}
end
section
variable {K:qac}{X:Cx}{e a b:Expr}{es:List Expr}{pos:Pos}{f fa fb:Ef}{af:Af}
end
section
variable {K:qac}{X:Cx}
end
section
variable {K:qac}{X:Cx}{pos:Pos}{a b:Expr}{af:Af}
end
section
variable {K:qac}{X:Cx}{pos:Pos}{e a b c:Expr}{es:List Expr}{f fa fb:Ef}{af:Af}
end
def au (f:Str) (a:Ef):Ef
 |env,st=>(a env st).bind λx=>match x.1 with
 |.d (.ob ns ds)=>((ns.zip ds).lookup f).map λd=>(.d d,x.2)
 | .h n=>(match x.2[n]? with
  |some (.o fs)=>(fs.lookup f).map λw=>(w,x.2)
  |_=>none)
 |_=>none
section
variable {K:qac}{H:Hp}{φ:List Addr}
theorem oH {f:Str}{d:D}:∀ {ns:List Str}{ds:List D}{vs:List V},Rls K H φ ds vs->(ns.zip ds).lookup f=some d->∃ v,(ns.zip vs).lookup f=some v/\Rl K H φ d v/\f∈ns
 |[],ds,vs,r,h=>by rw[List.zip_nil_left]at h;cases h
 |n::ns,[],vs,r,h=>by rw[List.zip_nil_right]at h;cases h
 |n::ns,x::ds,vs,r,h=>by
  obtain⟨v,r',rfl,r1,r2⟩:=r
  rw[qfx,qbi]at h ⊢
  by_cases e:(f==n)=true
  ·rw[e]at h ⊢
   cases h
   exact⟨v,rfl,r1,by rw[beq_iff_eq.mp e];exact qae⟩
  ·rw[show (f==n)=false by simpa using e]at h ⊢
   obtain⟨v',h1,h2,h3⟩:=oH r2 h
   exact⟨v',h1,h2,qah _ h3⟩
theorem Rfs.look {f:Str}{w:W}:∀ {fs:List (Str×W)}{vs:List (Str×V)},Rfs K H φ fs vs->fs.lookup f=some w->∃ v,vs.lookup f=some v/\Rw K H φ w v/\∃ p∈fs,p.1=f
 |[],vs,r,h=>by cases h
 |(n,x)::fs,vs,r,h=>by
  obtain⟨v,r',rfl,r1,r2⟩:=r
  rw[qbi]at h ⊢
  by_cases e:(f==n)=true
  ·rw[e]at h ⊢
   cases h
   exact⟨v,rfl,r1,_,qae,(beq_iff_eq.mp e).symm⟩
  ·rw[show (f==n)=false by simpa using e]at h ⊢
   obtain⟨v',h1,h2,p,hp,h3⟩:=Rfs.look r2 h
   exact⟨v',h1,h2,p,qah _ hp,h3⟩
theorem Rfs.length:∀ {fs:List (Str×W)}{vs:List (Str×V)},Rfs K H φ fs vs->fs.length=vs.length
 |[],vs,r=>by cases r;rfl
 |(n,x)::fs,vs,r=>by
  obtain⟨v,r',rfl,r1,r2⟩:=r
  rw[qaq,qaq,Rfs.length r2]
theorem Rfs.mem {m:Nat}:∀ {fs:List (Str×W)}{vs:List (Str×V)},Rfs K H φ fs vs->W.h m∈fs.map (·.2)->m<φ.length
 |[],_,_,hm=>nomatch hm
 |(n,x)::fs,_,r,hm=>by
  obtain⟨v,r',rfl,r1,r2⟩:=r
  rcases qaH.mp hm with z|z
  ·dsimp only at z
   subst z
   obtain⟨a,e,_⟩:=r1
   exact (qan.mp e).1
  ·exact Rfs.mem r2 z
def jz (f:Str) (w:W):List (Str×W)->List (Str×W)
 |[]=>[(f,w)]
 |(g,x)::r=>if g=f then (g,w)::r else (g,x)::jz f w r
theorem Rfs.put {f:Str}{w:W}{v:V} (rw':Rw K H φ w v):∀ {fs:List (Str×W)}{vs:List (Str×V)},Rfs K H φ fs vs->Rfs K H φ (jz f w fs) (fV f v vs)
 |[],_,r=>by cases r;exact⟨v,[],rfl,rw',rfl⟩
 |(g,x)::fs,_,r=>by
  obtain⟨v',r',rfl,r1,r2⟩:=r
  unfold jz fV
  by_cases e:g=f
  ·rw[if_pos e,if_pos e];exact⟨v,r',rfl,rw',r2⟩
  ·rw[if_neg e,if_neg e];exact⟨v',_,rfl,r1,Rfs.put rw' r2⟩
theorem kY {f:Str}{w:W}:∀ {fs:List (Str×W)}{p:Str×W},p∈jz f w fs->p∈fs\/p=(f,w)
 |[],p,h=>.inr (qaj.mp h)
 |(g,x)::fs,p,h=>by
  unfold jz at h
  by_cases e:g=f
  ·rw[if_pos e]at h
   rcases qaH.mp h with z|z
   ·rw[e]at z;exact .inr z
   ·exact .inl (qah _ z)
  ·rw[if_neg e]at h
   rcases qaH.mp h with z|z
   ·exact .inl (z ▸ qae)
   ·rcases kY z with z|z
    ·exact .inl (qah _ z)
    ·exact .inr z
theorem oi {f:Str}{v:V}:∀ {vs:List (Str×V)},f∉vs.map (·.1)->fV f v vs=vs++[(f,v)]
 |[],_=>rfl
 |(g,x)::vs,h=>by
  unfold fV
  rw[if_neg (by intro e;exact h (e ▸ qae)),oi λz=>h (qah _ z)];rfl
theorem Rfs.keys:∀ {fs:List (Str×W)}{vs:List (Str×V)},Rfs K H φ fs vs->vs.map (·.1)=fs.map (·.1)
 |[],vs,r=>by cases r;rfl
 |(n,x)::fs,vs,r=>by
  obtain⟨v,r',rfl,r1,r2⟩:=r
  rw[qay,qay,Rfs.keys r2]
theorem Rfs.snoc {f:Str}{w:W}{v:V} (rw':Rw K H φ w v):∀ {fs:List (Str×W)}{vs:List (Str×V)},Rfs K H φ fs vs->Rfs K H φ (fs++[(f,w)]) (vs++[(f,v)])
 |[],_,r=>by cases r;exact⟨v,[],rfl,rw',rfl⟩
 |(g,x)::fs,_,r=>by
  obtain⟨v',r',rfl,r1,r2⟩:=r
  exact⟨v',_,rfl,r1,Rfs.snoc rw' r2⟩
end
section
variable {K:qac}{X:Cx}{pos pos':Pos}{e o:Expr}{fa fb:Ef}{f:Str}
theorem aA (h:IE K X e fa) (hb:qcJ e f X.env (eval e X.env)=eval e X.env:=by rfl) (hK:X.K=K:=by rfl):IE K X (.Attribute e f pos) (au f fa):=by
 subst hK
 refine⟨λenv st r hr=>?_⟩
 simp only[au,qab]at hr
 obtain⟨⟨x,s1⟩,hx,hr⟩:=hr
 refine (wN (h.run _ _ _ hx) hb).imp ?_
 rintro σ H Q ⟨φ,hE,hS,q⟩
 refine⟨φ,hE,hS,λv H1 φ1 f1 s1' w1=>?_⟩
 cases x with
 |d x=>
  cases x with
  |ob ns ds=>
   obtain⟨d,hd,rfl⟩:=qad.mp hr
   obtain⟨a,Cl,dx,fs,vs,rfl,h0,h1,rfl,h3,h4,h5,h6,h7⟩:=w1
   obtain⟨u,hu,ru,hf⟩:=oH h7 hd
   exact⟨a,Cl,dx,_,u,rfl,h1,h5,h6 f hf,hu,q u H1 φ1 f1 s1' ru⟩
  |_=>cases hr
 |h n=>
  dsimp only at hr
  split at hr
  ·rename_i fs hfs
   obtain⟨w,hw,rfl⟩:=qad.mp hr
   obtain⟨a,ea,rfl⟩:=w1
   obtain⟨Cl,dx,vs,h1,h2,h3,h4,h5⟩:=s1'.at_ n a _ ea hfs
   obtain⟨u,hu,ru,p,hp,rfl⟩:=h2.look hw
   exact⟨a,Cl,dx,vs,u,rfl,h1,h4,h5 p hp,hu,q u H1 φ1 f1 s1' ru⟩
  ·cases hr
def iK (f:Str) (o v:Ef):Sf
 |env,st=>(v env st).bind λrv=>(o env rv.2).bind λro=>match ro.1,rv.1 with
 | .h n,.d x=>(match ro.2[n]? with
  |some (.o fs)=>if fs.length<1000/\(fs.lookup f).isSome=true then some (.nx env (ro.2.set n (.o (jz f (.d x) fs)))) else none
  |_=>none)
 |_,_=>none
theorem mF (ho:IE K X o fa) (hv:IE K X e fb) (hs:qcw e (some (.Attribute o f pos')) pos.line X.env=pure false:=by rfl) (hK:X.K=K:=by rfl):IS K X (.Assign [.Attribute o f pos'] e pos) (iK f fa fb):=by
 subst hK
 refine⟨λenv st r hr=>?_⟩
 simp only[iK,qab]at hr
 obtain⟨⟨rv,s1⟩,ev,⟨ro,s2⟩,eo,hr⟩:=hr
 cases ro with
 |d x=>cases hr
 |h n=>
  cases rv with
  |h m=>cases hr
  |d x=>
   dsimp only at hr
   split at hr
   case h_2=>cases hr
   rename_i fs hfs
   split at hr
   case isFalse=>cases hr
   rename_i hc
   cases hr
   refine (tu (ho.run _ _ _ eo) (hv.run _ _ _ ev) hs).imp ?_
   rintro D σ H ⟨φ,hE,hS,q⟩
   refine⟨φ,hE,hS,λv H1 φ1 f1 s1 w1=>⟨φ1,hE.fw hS f1,s1,λu H2 φ2 f2 s2 w2=>?_⟩⟩
   obtain⟨a,ea,rfl⟩:=w2
   obtain⟨Cl,dx,vs,h1,h2,h3,h4,h5⟩:=s2.at_ n a _ ea hfs
   obtain⟨w0,hw0⟩:=qcn.mp hc.2
   obtain⟨u0,hu0,ru0,p,hp,hpf⟩:=h2.look hw0
   have na:cR X.K Cl f:=hpf ▸ h5 p hp
   refine⟨a,Cl,dx,vs,rfl,h1,h4,na,by rw[<-h2.length];exact hc.1,?_⟩
   have w1':=w1.fw s1 f2
   have k1:∀ m,W.h m∈(jz f (.d x) fs).map (·.2)->m<n:=λm hm=>by
    obtain⟨p',hp',e'⟩:=qa7.mp hm
    rcases kY hp' with z|z
    ·exact h3 m (e' ▸ qfn (f:=(·.2)) z)
    ·rw[z]at e';cases e'
   have k2:∀ p'∈jz f (.d x) fs,cR X.K Cl p'.1:=λp' hp'=>by
    rcases kY hp' with z|z
    ·exact h5 p' z
    ·rw[z];exact na
   obtain⟨f3,s3⟩:=s2.putC (o:=.ins Cl dx (fV f v vs)) (c:=.o (jz f (.d x) fs)) ea λg=>⟨Cl,dx,_,upd_same,(Rfs.put w1' h2).fw s2 g,k1,h4,k2⟩
   exact q σ _ φ2 ((f1.trans f2).trans f3) (((hE.fw hS f1).fw s1 f2).fw s2 f3) s3
end
section
variable {K:qac}{X:Cx}{pos:Pos}{a e:Expr}{fa:Ef}{af:Af}
def tW (o:Ef) (a:Af):Ef
 |env,st=>(o env st).bind λx=>(a env x.2).bind λr=>match x.1,r.1 with
 |.d (.lst ds),[.d (.int k)]=>(jD ds).bind λns=>if ns.length<=1000 then (ns.idxOf? k).map λj=>(.d (.int (j:Nat)),r.2) else none
 |_,_=>none
def zO (X:Cx):V->List V->Hp->VK->Prop:=λx xs H Q=>∃ (p:Addr) (ns:List Int) (k:Int) (j:Nat),x=.ref p/\xs=[.int k]/\SqL X.K H p (ns.map V.int)/\ns.length<=1000/\ns.idxOf? k=some j/\Q (.int (j:Nat)) H
theorem xw:∀ {ns:List Int}{k:Int}{j:Nat},ns.idxOf? k=some j->j<ns.length/\ns[j]?=some k/\∀ i,i<j->ns[i]?≠some k:=by
 intro ns k j h
 have h1:=qeX.mp h
 obtain⟨h2,h3,h4⟩:=h1
 refine⟨h2,by rw[qaW h2,h3],λi hi z=>?_⟩
 have hi':i<ns.length:=qem hi h2
 rw[qaW hi']at z
 exact h4 i hi (qaS z)
theorem xf:MtR X "list.index" (zO X):=by
 intro pins s σ H x xs v us Q I rx rv h
 obtain⟨p,ns,k,j,rfl,rfl,hq,hl,hj,q⟩:=h
 cases rx
 obtain⟨u,rfl,ru⟩:=rv.one
 obtain⟨t,rfl⟩:=ru
 obtain⟨its,r,pl,hz⟩:=I.list hq
 obtain⟨j1,j2,j3⟩:=xw hj
 have hlen:its.length=ns.length:=by rw[<-r.length,qam]
 have at_:∀ (i:Nat) (hi:i<its.length),∃ t,∃ hn:i<ns.length,its[i]=.int ns[i] t:=λi hi=>by
  obtain⟨h',q'⟩:=r.at i hi
  have hn:i<ns.length:=by rw[<-hlen];exact hi
  have e:(ns.map V.int)[i]=V.int ns[i]:=qf1 ..
  rw[e]at q'
  obtain⟨t,e'⟩:=q'
  exact⟨t,hn,e'⟩
 obtain⟨⟨c,dd,dt,sl⟩,eo,hc,n,hd⟩:=pl.isList
 simp only at hc hd
 subst hc hd
 have hj2:j<its.length:=by rw[hlen];exact j1
 refine qcT qeF ⟨_,eo,rfl⟩ PySem.F.entry_list_index (PySem.F.args_list_index_2 _ _) (qhG p its.toArray n dd sl (.int k t) (isInt k) j (by simpa using hj2) (by lia) ?_ (λm hm hlt=>?_)) ⟨eo,λy hy=>(eq_isInt k t (pI r) y (by simpa using hy)).at _ _,?_⟩
 ·obtain⟨t',hn,e⟩:=at_ j hj2
  rw[qaW hn]at j2
  have:its.toArray[j]'(by simpa using hj2)=.int k t':=by simpa [qaS j2] using e
  rw[this]
  simp[isInt]
 ·have hm2:m<its.length:=by simpa using hm
  obtain⟨t',hn,e⟩:=at_ m hm2
  have:its.toArray[m]'hm=.int ns[m] t':=by simpa using e
  rw[this]
  have:=j3 m hlt
  rw[qaW hn]at this
  have hne:ns[m]≠k:=λz=>this (by rw[z])
  simp[isInt,hne]
 ·exact⟨.int (j:Nat),H,I.kept (t':=s.toks+1) λb o e=>e,⟨_,rfl⟩,q⟩
theorem wV {apos:Pos} (ho:IE K X a fa) (ha:IA K X [e] af) (hbase:qcJ a "index" X.env (eval a X.env)=eval a X.env:=by rfl)
  (hall:[e].all aB=true:=by rfl) (hline:(apos.endLine==pos.line)=true:=by rfl) (hK:X.K=K:=by rfl) :
  IE K X (.Call (.Attribute a "index" apos) [e] [] pos) (tW fa af):=by
 subst hK
 have hall2:aB e=true:=by rw[qbx,qaV]at hall;exact hall.1
 refine⟨λenv st r hr'=>?_⟩
 simp only[tW,qab]at hr'
 obtain⟨⟨x,s1⟩,hx,⟨ws,s2⟩,hw,hr'⟩:=hr'
 match x,ws,hr' with
 |.d (.lst ds),[.d (.int k)],hr'=>
  simp only[qab]at hr'
  obtain⟨ns,hns,hr'⟩:=hr'
  split at hr'
  case isFalse=>cases hr'
  rename_i hl
  obtain⟨j,hj,rfl⟩:=qad.mp hr'
  have hds:=jW hns
  subst hds
  refine (wy qeG qeF PySem.F.type_list_index xf (ho.run _ _ _ hx) (ha.run _ _ _ hw) hbase (oE hall (by show 1<30;decide)) hline (aZ hall2) (bQ rfl)).imp ?_
  rintro σ H Q ⟨φ,hE,hS,q⟩
  refine⟨φ,hE,hS,λv H1 φ1 f1 S1 w1=>?_⟩
  obtain⟨p,vs,rfl,h0,hq,hrl⟩:=w1
  have ev:=Rls.ints hrl
  subst ev
  refine⟨.inl ⟨rfl,_,.inl hq⟩,φ1,hE.fw hS f1,S1,λus H2 φ2 f2 S2 w2=>?_⟩
  obtain⟨y,us',rfl,ry,rfl⟩:=w2
  cases (show y=.int k from ry)
  exact⟨p,ns,k,j,rfl,rfl,.inl (hq.fw f2 h0),hl,hj,q _ H2 φ2 (f1.trans f2) S2 rfl⟩
end
section
variable {K:qac}{H:Hp}{φ ψ:List Addr}{x Cl dx:Addr}{xs:List (Str×V)}{o:HO}
theorem Rl.chx (hx:H x=some (.ins Cl dx xs)) (hl:xs.length<=5) (hψ:∀ a∈ψ,a=x):∀ {d:D}{v:V},Rl K H φ d v->Rl K (upd H x o) (φ++ψ) d v:=by
 have ne:∀ {a:Addr}{u:HO},H a=some u->(∀ C d f,u≠.ins C d f)->a≠x:=λ{a u} h q z=>by
  subst z
  rw[hx]at h
  cases h
  exact q _ _ _ rfl
 have nin:∀ {a:Addr},a≠x->a∉φ->a∉φ++ψ:=λ{a} n h z=>by
  rcases qaQ.mp z with z|z
  ·exact h z
  ·exact n (hψ a z)
 intro d v
 refine (?_:∀ v,Rl K H φ d v->Rl K (upd H x o) (φ++ψ) d v) v
 refine D.rec (motive_1:=λd=>∀ v,Rl K H φ d v->Rl K (upd H x o) (φ++ψ) d v) (motive_2:=λds=>∀ vs,Rls K H φ ds vs->Rls K (upd H x o) (φ++ψ) ds vs) ?_ ?_ ?_ ?_ ?_ ?_ ?_ ?_ ?_ ?_ ?_ ?_ d
 ·exact λv h=>h
 ·exact λb v h=>h
 ·exact λb v h=>h
 ·exact λb v h=>h
 ·exact λb v h=>h
 ·rintro v ⟨a,e,hn,h⟩
  rcases h with⟨d,h⟩|⟨d,h⟩
  ·have n:=ne h (by intros;simp)
   exact⟨a,e,nin n hn,.inl ⟨d,by rw[upd_ne n];exact h⟩⟩
  ·have n:=ne h (by intros;simp)
   exact⟨a,e,nin n hn,.inr ⟨d,by rw[upd_ne n];exact h⟩⟩
 ·rintro ns v ⟨a,e,h⟩
  rcases h with⟨ob,h⟩|h
  ·have n:=ne h (by intros;simp)
   exact⟨a,e,.inl ⟨ob,by rw[upd_ne n];exact h⟩⟩
  ·exact⟨a,e,.inr h⟩
 ·rintro ds ih v ⟨a,vs,rfl,h1,h2⟩
  have n:=ne h1 (by intros;simp)
  exact⟨a,vs,rfl,by rw[upd_ne n];exact h1,ih vs h2⟩
 ·rintro ds ih v ⟨a,vs,rfl,h0,h1,h2⟩
  rcases h1 with h1|⟨ob,h1⟩
  ·have n:=ne h1 (by intros;simp)
   exact⟨a,vs,rfl,nin n h0,.inl (by rw[upd_ne n];exact h1),ih vs h2⟩
  ·have n:=ne h1 (by intros;simp)
   exact⟨a,vs,rfl,nin n h0,.inr ⟨ob,by rw[upd_ne n];exact h1⟩,ih vs h2⟩
 ·rintro ns ds ih v ⟨a,C',dx',fs,vs,rfl,h0,h1,h2,h3,h4,h5,h7,h6⟩
  have n:a≠x:=λz=>by
   subst z
   rw[hx]at h1
   cases h1
   rw[h2,List.length_zip]at hl
   lia
  exact⟨a,C',dx',fs,vs,rfl,nin n h0,by rw[upd_ne n];exact h1,h2,h3,h4,h5,h7,ih vs h6⟩
 ·exact λvs h=>h
 ·rintro d ds ih1 ih2 vs ⟨v,r,rfl,h1,h2⟩;exact⟨v,r,rfl,ih1 v h1,ih2 r h2⟩
variable (hx:H x=some (.ins Cl dx xs)) (hl:xs.length<=5) (hψ:∀ a∈ψ,a=x)
include hx hl hψ
theorem Rls.chx:∀ {ds:List D}{vs:List V},Rls K H φ ds vs->Rls K (upd H x o) (φ++ψ) ds vs
 |[],_,h=>h
 |d::ds,_,h=>by
  obtain⟨v,r,rfl,h1,h2⟩:=h
  exact⟨v,r,rfl,Rl.chx hx hl hψ h1,Rls.chx h2⟩
theorem Rw.chx {w:W}{v:V} (h:Rw K H φ w v):Rw K (upd H x o) (φ++ψ) w v:=by
 cases w with
 |d y=>exact Rl.chx hx hl hψ h
 |h n=>
  obtain⟨a,e,rfl⟩:=h
  exact⟨a,by rw[qaC (qan.mp e).1];exact e,rfl⟩
theorem Rws.chx:∀ {ds:List W}{vs:List V},Rws K H φ ds vs->Rws K (upd H x o) (φ++ψ) ds vs
 |[],_,h=>h
 |d::ds,_,h=>by
  obtain⟨v,r,rfl,h1,h2⟩:=h
  exact⟨v,r,rfl,Rw.chx hx hl hψ h1,Rws.chx h2⟩
theorem Rkv.chx:∀ {ds:List (List Int×D)}{vs:List (List Key×V)},Rkv K H φ ds vs->Rkv K (upd H x o) (φ++ψ) ds vs
 |[],_,h=>h
 |(k,d)::ds,_,h=>by
  obtain⟨v,r,rfl,h1,h2⟩:=h
  exact⟨v,r,rfl,Rl.chx hx hl hψ h1,Rkv.chx h2⟩
theorem Rkk.chx:∀ {ds:List (Int×D)}{vs:List (Key×V)},Rkk K H φ ds vs->Rkk K (upd H x o) (φ++ψ) ds vs
 |[],_,h=>h
 |(k,d)::ds,_,h=>by
  obtain⟨v,r,rfl,h1,h2⟩:=h
  exact⟨v,r,rfl,Rl.chx hx hl hψ h1,Rkk.chx h2⟩
theorem Rfs.chx:∀ {ds:List (Str×W)}{vs:List (Str×V)},Rfs K H φ ds vs->Rfs K (upd H x o) (φ++ψ) ds vs
 |[],_,h=>h
 |(k,d)::ds,_,h=>by
  obtain⟨v,r,rfl,h1,h2⟩:=h
  exact⟨v,r,rfl,Rw.chx hx hl hψ h1,Rfs.chx h2⟩
theorem Rc.chx {k:Nat}{a:Addr}{c:C} (ha:a≠x) (h:Rc K H φ k a c):Rc K (upd H x o) (φ++ψ) k a c:=by
 cases c with
 |l ds=>obtain⟨vs,q,r⟩:=h;exact⟨vs,by rw[upd_ne ha];exact q,Rls.chx hx hl hψ r⟩
 |n ds=>obtain⟨vs,q,r,b⟩:=h;exact⟨vs,by rw[upd_ne ha];exact q,Rws.chx hx hl hψ r,b⟩
 |m ds=>obtain⟨vs,q,r⟩:=h;exact⟨vs,by rw[upd_ne ha];exact q,Rkv.chx hx hl hψ r⟩
 |k ds=>obtain⟨vs,q,r⟩:=h;exact⟨vs,by rw[upd_ne ha];exact q,Rkk.chx hx hl hψ r⟩
 |o ds=>obtain⟨C',d',vs,q,r,b⟩:=h;exact⟨C',d',vs,by rw[upd_ne ha];exact q,Rfs.chx hx hl hψ r,b⟩
theorem Er.chx {env:Ev}{σ:St} (h:Er K H φ env σ):Er K (upd H x o) (φ++ψ) env σ:=
 ⟨h.len,λi w e=>let ⟨v,e1,r⟩:=h.at_ i w e;⟨v,e1,Rw.chx hx hl hψ r⟩⟩
end
section
variable {K:qac}{H:Hp}{φ:List Addr}{x Cl dx:Addr}{xs:List (Str×V)}{o:HO}{st:Sto}
theorem Sr.chx0 (S:Sr K H φ st) (hx:H x=some (.ins Cl dx xs)) (hl:xs.length<=5) (hn:x∉φ):Sr K (upd H x o) φ st:=by
 have e0:φ++[]=φ:=qbw _
 refine⟨S.nd,S.len,λn a c e1 e2=>?_⟩
 have:=Rc.chx (o:=o) (ψ:=[]) hx hl (λa z=>nomatch z) (λz=>hn (z ▸ qbN e1)) (S.at_ n a c e1 e2)
 rw[e0]at this
 exact this
theorem Sr.chx1 (S:Sr K H φ st) (hx:H x=some (.ins Cl dx xs)) (hl:xs.length<=5) (hn:x∉φ) {c:C} (hc:Rc K (upd H x o) (φ++[x]) st.length x c):Sr K (upd H x o) (φ++[x]) (st++[c]):=by
 refine⟨qcf.mpr ⟨S.nd,qbY.mpr ⟨qbq,qc9⟩,λa ha b hb z=>by rw[qaj.mp hb]at z;exact hn (z ▸ ha)⟩,by rw[qau,qau,S.len];rfl,λn a c' e1 e2=>?_⟩
 by_cases h:n<φ.length
 ·rw[qaC h]at e1
  rw[qaC (by rw[<-S.len];exact h)]at e2
  exact Rc.chx hx hl (λa z=>qaj.mp z) (λz=>hn (z ▸ qbN e1)) (S.at_ n a c' e1 e2)
 ·have h1:n<(φ++[x]).length:=(qan.mp e1).1
  rw[qau,qbT]at h1
  have hn':n=φ.length:=by lia
  subst hn'
  rw[qaJ (qal _),qdw]at e1
  rw[S.len,qaJ (qal _),qdw]at e2
  cases e1
  cases e2
  rw[S.len]
  exact hc
end
def ni:List (Str×Ef)->Ev->Sto->Option (List (Str×W)×Sto)
 |[],_,st=>some ([],st)
 |(f,g)::r,env,st=>(g env st).bind λx=>(ni r env x.2).map λy=>((f,x.1)::y.1,y.2)
structure FwX (x:Addr) (φ φ':List Addr) (H H':Hp):Prop where
 ext:∃ ψ,φ'=φ++ψ/\∀ a∈ψ,H a=none\/a=x
 keep:∀ b o,b∉φ->b≠x->H b=some o->H' b=some o
 there:∀ b o,H b=some o->∃ o',H' b=some o'
theorem FwX.pre {x:Addr}{φ φ1 φ2:List Addr}{H H1 H2:Hp}{o o':HO} (hx:H x=some o') (hn:x∉φ1) (f:Fw φ φ1 H H1) (g:FwX x φ1 φ2 (upd H1 x o) H2):FwX x φ φ2 H H2:=by
 obtain⟨ψ,rfl,e1⟩:=f.ext
 obtain⟨ψ2,rfl,e2⟩:=g.ext
 have th:∀ b u,H b=some u->∃ u',upd H1 x o b=some u':=λb u h=>by
  by_cases z:b=x
  ·exact⟨o,by rw[z,upd_same]⟩
  ·obtain⟨u',h'⟩:=f.there b u h
   exact⟨u',by rw[upd_ne z];exact h'⟩
 refine⟨⟨ψ++ψ2,by rw[qbA],λc hc=>?_⟩,λc u hc hcx h=>?_,λc u h=>?_⟩
 ·rcases qaQ.mp hc with z|z
  ·exact .inl (e1 c z)
  ·rcases e2 c z with q|q
   ·left
    cases q':H c with
    |none=>rfl
    |some u=>
     obtain⟨u',h'⟩:=th c u q'
     rw[q]at h';cases h'
   ·exact .inr q
 ·refine g.keep c u (λz=>?_) hcx (by rw[upd_ne hcx];exact f.keep c u hc h)
  rcases qaQ.mp z with z|z
  ·exact hc z
  ·rw[e1 c z]at h;cases h
 ·obtain⟨u',h'⟩:=th c u h
  exact g.there c u' h'
def zD (K:qac) (g:List (Str×Ef)) (env:Ev) (st:Sto) (y:List (Str×W)×Sto):TS:=λD σ H=>∃ φ x Cl dx xs fs,Er K H φ env σ/\Sr K H φ st/\σ[0]?=some (some (.ref x))/\x∉φ/\H x=some (.ins Cl dx xs)/\Rfs K H φ fs xs/\
 Cls K Cl/\(∀ p∈fs,cR K Cl p.1)/\(∀ p∈g,cR K Cl p.1)/\fs.length+g.length=6/\(∀ p∈g,p.1∉fs.map (·.1))/\(g.map (·.1)).Nodup/\
 ∀ H' φ',FwX x φ φ' H H'->Sr K H' φ' (y.2++[.o (fs++y.1)])->φ'[y.2.length]?=some x->D.nx σ H'
structure INI (K:qac) (X:Cx) (ss:List Stmt) (g:List (Str×Ef)):Prop where
 run:∀ env st y,ni g env st=some y->PSs X ss (zD K g env st y)
section
variable {K:qac}{X:Cx}{e:Expr}{fe:Ef}{f:Str}{ss:List Stmt}{g:List (Str×Ef)}{pos pos' p1:Pos}
theorem oz {env:Ev}{st:Sto}{w:W}{s1:Sto} (h0:X.N[0]?=some ("self" : Str)) (hv:Vis X.env.scope "self") (he:IE K X e fe) (hx:fe env st=some (w,s1)) (hK:X.K=K)
  (hs:qcw e (some (.Attribute (.Name "self" p1) f pos')) pos.line X.env=pure false) :
  PS X (.Assign [.Attribute (.Name "self" p1) f pos'] e pos) (λD σ H=>∃ φ x Cl dx xs,Er K H φ env σ/\Sr K H φ st/\σ[0]?=some (some (.ref x))/\x ∉ φ/\H x=some (.ins Cl dx xs)/\Cls K Cl/\cR K Cl f/\xs.length<=5/\f ∉ xs.map (·.1)/\
   ∀ v H1 φ1,Fw φ φ1 H H1->Sr K H1 φ1 s1->Rw K H1 φ1 w v->x∉φ1->H1 x=some (.ins Cl dx xs)->D.nx σ (upd H1 x (.ins Cl dx (xs++[(f,v)])))):=by
 subst hK
 refine (tu (iY h0 hv) (he.run _ _ _ hx) hs).imp ?_
 rintro D σ H ⟨φ,x,Cl,dx,xs,hE,hS,h1,h2,h3,h4,h5,h6,h7,q⟩
 refine⟨φ,hE,hS,λv H1 φ1 f1 s1' w1=>⟨_,h1,x,Cl,dx,xs,rfl,f1.keep _ _ h2 h3,h4,h5,by lia,?_⟩⟩
 rw[oi h7]
 exact q v H1 φ1 f1 s1' w1 (f1.nin h2 h3) (f1.keep _ _ h2 h3)
theorem u4 (h0:X.N[0]?=some ("self" : Str)) (hv:Vis X.env.scope "self") (he:IE K X e fe) (hK:X.K=K:=by rfl)
  (hs:qcw e (some (.Attribute (.Name "self" p1) f pos')) pos.line X.env=pure false:=by rfl):INI K X [.Assign [.Attribute (.Name "self" p1) f pos'] e pos] [(f,fe)]:=by
 refine⟨λenv st y hy=>?_⟩
 simp only[ni,qab,qar]at hy
 obtain⟨⟨w,s1⟩,hx,hy⟩:=hy
 cases hy
 refine (rE (oz h0 hv he hx hK hs)).imp ?_
 rintro D σ H ⟨φ,x,Cl,dx,xs,fs,hE,hS,h1,h2,h3,h4,h5,h6,h7,h8,h9,h10,q⟩
 have hl:xs.length=5:=by rw[<-h4.length];simpa using h8
 have nf:f∉xs.map (·.1):=by rw[h4.keys];exact h9 _ qae
 refine⟨φ,x,Cl,dx,xs,hE,hS,h1,h2,h3,h5,h7 _ qae,by lia,nf,λv H1 φ1 f1 s1' w1 hn hx1=>?_⟩
 have r1:=h4.fw hS f1
 have r2:=Rfs.chx (o:=.ins Cl dx (xs++[(f,v)])) (ψ:=[x]) hx1 (by lia) (λa z=>qaj.mp z) r1
 have w2:=Rw.chx (o:=.ins Cl dx (xs++[(f,v)])) (ψ:=[x]) hx1 (by lia) (λa z=>qaj.mp z) w1
 have r3:=Rfs.snoc (f:=f) w1 r1
 have hc:Rc K (upd H1 x (.ins Cl dx (xs++[(f,v)]))) (φ1++[x]) s1.length x (.o (fs++[(f,w)])):=⟨Cl,dx,_,upd_same,Rfs.snoc w2 r2,λm hm=>by rw[<-s1'.len];exact r3.mem hm,h5,λp hp=>by
  rcases qaQ.mp hp with z|z
  ·exact h6 p z
  ·rw[qaj.mp z];exact h7 _ qae⟩
 refine q _ (φ1++[x]) ?_ (s1'.chx1 hx1 (by lia) hn hc) (by rw[<-s1'.len,qaJ (qal _),qdw];rfl)
 refine FwX.pre h3 hn f1 ⟨⟨[x],rfl,λa z=>.inr (qaj.mp z)⟩,λb o _ _ h=>h,λb o h=>⟨o,h⟩⟩
theorem gT (h0:X.N[0]?=some ("self" : Str)) (hv:Vis X.env.scope "self") (he:IE K X e fe) (hr:INI K X ss g) (hg:g≠[]:=by intro z;cases z) (hK:X.K=K:=by rfl)
  (hs:qcw e (some (.Attribute (.Name "self" p1) f pos')) pos.line X.env=pure false:=by rfl):INI K X (.Assign [.Attribute (.Name "self" p1) f pos'] e pos::ss) ((f,fe)::g):=by
 refine⟨λenv st y hy=>?_⟩
 simp only[ni,qab]at hy
 obtain⟨⟨w,s1⟩,hx,hy⟩:=hy
 obtain⟨y',hy',rfl⟩:=qad.mp hy
 refine (eD (oz h0 hv he hx hK hs) (hr.run _ _ _ hy')).imp ?_
 rintro D σ H ⟨φ,x,Cl,dx,xs,fs,hE,hS,h1,h2,h3,h4,h5,h6,h7,h8,h9,h10,q⟩
 have hg1:1<=g.length:=List.length_pos_iff.mpr hg
 have hl:xs.length<=4:=by rw[<-h4.length];rw[qaq]at h8;lia
 have nf:f∉xs.map (·.1):=by rw[h4.keys];exact h9 _ qae
 refine⟨φ,x,Cl,dx,xs,hE,hS,h1,h2,h3,h5,h7 _ qae,by lia,nf,λv H1 φ1 f1 s1' w1 hn hx1=>?_⟩
 have e0:φ1++[]=φ1:=qbw _
 have r2:=Rfs.chx (o:=.ins Cl dx (xs++[(f,v)])) (ψ:=[]) hx1 (by lia) (λa z=>nomatch z) (h4.fw hS f1)
 have w2:=Rw.chx (o:=.ins Cl dx (xs++[(f,v)])) (ψ:=[]) hx1 (by lia) (λa z=>nomatch z) w1
 have hE2:=Er.chx (o:=.ins Cl dx (xs++[(f,v)])) (ψ:=[]) hx1 (by lia) (λa z=>nomatch z) (hE.fw hS f1)
 rw[e0]at r2 w2 hE2
 rw[qay,qbY]at h10
 refine⟨φ1,x,Cl,dx,_,fs++[(f,w)],hE2,s1'.chx0 hx1 (by lia) hn,h1,hn,upd_same,Rfs.snoc w2 r2,h5,λp hp=>?_,λp hp=>h7 p (qah _ hp),by rw[qau,qbT];rw[qaq]at h8;lia,λp hp z=>?_,h10.2,λH' φ' fx S' ex=>?_⟩
 ·rcases qaQ.mp hp with z|z
  ·exact h6 p z
  ·rw[qaj.mp z];exact h7 _ qae
 ·rw[qbG]at z
  rcases qaQ.mp z with z|z
  ·exact h9 p (qah _ hp) z
  ·rw[qay,qcu,qaj]at z
   exact h10.1 (z ▸ qfn (f:=(·.1)) hp)
 ·rw[qbA,List.singleton_append]at S'
  exact q H' φ' (FwX.pre h3 hn f1 fx) S' ex
end
def wd (K:qac) (n:Nat) (ps:Nat) (g:List (Str×Ef)):Sp:=λvs H Q _=>∃ φ st ws y x dx Cl rest H1,vs=.ref x::rest/\ws.length+1=ps/\ni g (none::(ws.map some++qav (n - ps) none)) st=some y/\Rws K H1 φ ws rest/\Sr K H1 φ st/\H1 x=none/\H1 dx=none/\dx≠x/\
 H=upd (upd H1 dx (.own x)) x (.ins Cl dx [])/\Cls K Cl/\(∀ p∈g,cR K Cl p.1)/\g.length=6/\(g.map (·.1)).Nodup/\∀ H' φ',Fw φ φ' H1 H'->Sr K H' φ' (y.2++[.o y.1])->φ'[y.2.length]?=some x->Q .non H'
theorem yS {P:qa0}{w:World}{K:qac}{mg:Str->Option Value}{base:Heap}{x qual:Str}{st:Stmt}{f:Addr}{fd:qa2}{N ps:List Str}{k:Nat}{g:List (Str×Ef)} (F:Fun K x qual st f fd) (S:aK N ps (ac st)) (hN:ps.length<=N.length)
  (hb:∀ (cdv:Value) (A:qbb) (outer:List Env) (s:qak) (H:Hp) (E:XK),cN k (A.deeper (qd8 qual (ac st) s.heap.objs.size f cdv))->INI K (ma CX0 P w K mg base N qual (ac st) f cdv A outer s H E).nox (aF st) g) :
  bO P w K mg base CX0 (k+1) f fd ps (wd K N.length ps.length g):=by
 refine F.ok S (λvs H Q E h=>?_) λcdv A outer s H vs Q E hr h=>?_
 ·obtain⟨φ,st,ws,y,x,dx,Cl,rest,H1,rfl,hl,e,rw,_⟩:=h
  rw[qaq,<-rw.length,hl]
 ·obtain⟨φ,st',ws,y,x,dx,Cl,rest,H1,rfl,hl,e,rw,S',hx,hd,hne,rfl,hC,hA,h6,hnd,q⟩:=h
  refine⟨_,(hb cdv A outer s _ E hr).run _ _ _ e,φ,x,Cl,dx,[],[],?_,?_,?_,?_,upd_same,rfl,hC,λp hp=>(nomatch hp),hA,by simpa using h6,λp _ z=>(nomatch z),hnd,λH' φ' fx S2 ex=>?_⟩
  ·have sm:aY H1 (upd (upd H1 dx (.own x)) x (.ins Cl dx [])):=(aY.new hd _).trans (aY.new (by rw[upd_ne (qbo hne)];exact hx) _)
   have r0:=rw.fw S' (Fw.same sm)
   have he:=ld (N:=N) (k:=ps.length) (ws:=.d .non::ws) (vs:=.non::rest) ⟨.non,rest,rfl,rfl,r0⟩ (by rw[qaq];exact hl)
   refine⟨?_,λi w ei=>?_⟩
   ·have:=he.len
    unfold fP at this ⊢
    simp at this ⊢
    lia
   ·cases i with
    |zero=>cases ei
    |succ i=>
     obtain⟨v,ev,rv⟩:=he.at_ (i+1) w ei
     refine⟨v,?_,rv⟩
     unfold fP at ev ⊢
     simpa using ev
  ·have sm:aY H1 (upd (upd H1 dx (.own x)) x (.ins Cl dx [])):=(aY.new hd _).trans (aY.new (by rw[upd_ne (qbo hne)];exact hx) _)
   exact S'.same sm
  ·unfold fP;rfl
  ·exact S'.nin hx
  ·refine q H' φ' ?_ S2 ex
   obtain⟨ψ,rfl,e1⟩:=fx.ext
   have sm:aY H1 (upd (upd H1 dx (.own x)) x (.ins Cl dx [])):=(aY.new hd _).trans (aY.new (by rw[upd_ne (qbo hne)];exact hx) _)
   refine⟨⟨ψ,rfl,λa ha=>?_⟩,λb o hb h=>?_,λb o h=>fx.there b o (sm b o h)⟩
   ·rcases e1 a ha with z|z
    ·cases q':H1 a with
     |none=>rfl
     |some o=>rw[sm a o q']at z;cases z
    ·rw[z];exact hx
   ·exact fx.keep b o hb (λz=>by rw[z,hx]at h;cases h) (sm b o h)
def mo (n ps:Nat) (g:List (Str×Ef)) (a:Af):Ef
 |env,st=>(a env st).bind λr=>if r.1.length+1=ps then (ni g (none::(r.1.map some++qav (n - ps) none)) r.2).map λy=>(.h y.2.length,y.2++[.o y.1]) else none
theorem v8 {K:qac}{X:Cx}{x:Str}{k j:Nat}{ff Cl:Addr}{fd:qa2}{N ps:List Str}{g:List (Str×Ef)}{p pos:Pos}{e:Expr}{es:List Expr}{af:Af} (M:Mk X.K Cl ff) (F:bO X.prog X.w X.K X.mg X.base CX0 j ff fd ps (wd K N.length ps.length g)) (hjk:j<=k) (hr:cN (k+1) X.A) (hg:Gl X x) (hm:X.mg x=some (.ref Cl)) (hb:bB X.K fd ps [])
  (hC:Cls K Cl) (hA:∀ p∈g,cR K Cl p.1) (h6:g.length=6) (hnd:(g.map (·.1)).Nodup)
  (ha:IA K X (e::es) af) (hdb:(x==("__debug__" : Str))=false:=by decide) (hs:aB e=true:=by rfl) (hp:es.all aB=true:=by rfl) :
  IE K X (.Call (.Name x p) (e::es) [] pos) (mo N.length ps.length g af):=by
 refine⟨λenv st r h=>?_⟩
 simp only[mo,qab]at h
 obtain⟨y,hy,h⟩:=h
 split at h
 case isFalse=>cases h
 rename_i hl
 obtain⟨z,hz,rfl⟩:=qad.mp h
 refine (vN M (F.mono hjk) hr hg hm hb .nil uD (ha.run _ _ _ hy) hdb (aZ hs) (bQ hp)).imp ?_
 rintro σ H Q ⟨φ,hE,hS,q⟩
 refine⟨φ,hE,hS,λvs H1 φ1 f1 s1 w1=>λx dx hx hd hne=>?_⟩
 show wd K N.length ps.length g (.ref x::(vs++[])) _ _ _
 rw[qbw]
 refine⟨φ1,y.2,y.1,z,x,dx,Cl,vs,H1,rfl,hl,hz,w1,s1,hx,hd,hne,rfl,hC,hA,h6,hnd,λH' φ' f2 S2 ex=>⟨rfl,?_⟩⟩
 exact q _ H' φ' (f1.trans f2) S2 ⟨x,ex,rfl⟩
def vwF (st:Sto):List (Str×W)->Option (List D)
 |[]=>some []
 |(_,.d x)::r=>(vwF st r).map λy=>x::y
 |(_,.h m)::r=>(lg st m).bind λds=>(vwF st r).map λy=>.lst ds::y
def vwW (st:Sto):W->Option W
 |.d x=>some (.d x)
 |.h n=>match st[n]? with
  |some (.o fs)=>if 5<fs.length then (vwF st fs).map λds=>.d (.ob (fs.map (·.1)) ds) else none
  |some (.l ds)=>some (.d (.lst ds))
  |_=>none
def vwA (st:Sto):List W->Option (List W)
 |[]=>some []
 |w::ws=>(vwW st w).bind λx=>(vwA st ws).map λy=>x::y
mutual
def okT:D->Bool
 |.non=>true
 |.bl _=>true
 |.int _=>true
 |.str _=>true
 |.tup ds=>qc ds
 |_=>false
def qc:List D->Bool
 |[]=>true
 |d::ds=>okT d&&qc ds
end
section
variable {K:qac}{H:Hp}{φ φ':List Addr}
mutual
theorem Rl.any:∀ {d:D}{v:V},okT d=true->Rl K H φ d v->Rl K H φ' d v
 |.non,_,_,h=>h
 |.bl _,_,_,h=>h
 |.int _,_,_,h=>h
 |.str _,_,_,h=>h
 |.tup ds,_,o,h=>by
  obtain⟨a,vs,rfl,h1,h2⟩:=h
  exact⟨a,vs,rfl,h1,Rls.any (by rw[okT]at o;exact o) h2⟩
 |.ty _,_,o,_=>by rw[okT]at o<;>first|cases o|(intros;simp)
 |.dct,_,o,_=>by rw[okT]at o<;>first|cases o|(intros;simp)
 |.scr _,_,o,_=>by rw[okT]at o<;>first|cases o|(intros;simp)
 |.lst _,_,o,_=>by rw[okT]at o<;>first|cases o|(intros;simp)
 |.ob _ _,_,o,_=>by rw[okT]at o<;>first|cases o|(intros;simp)
theorem Rls.any:∀ {ds:List D}{vs:List V},qc ds=true->Rls K H φ ds vs->Rls K H φ' ds vs
 |[],_,_,h=>h
 |d::ds,_,o,h=>by
  rw[qc,qaV]at o
  obtain⟨v,r,rfl,h1,h2⟩:=h
  exact⟨v,r,rfl,Rl.any o.1 h1,Rls.any o.2 h2⟩
end
theorem Rl.bare {d:D}{v:V} (h:Rl K H φ d v):Rl K H [] d v:=Rl.less (φ:=[]) (ψ:=φ) h
theorem Rls.bare {d:List D}{v:List V} (h:Rls K H φ d v):Rls K H [] d v:=Rls.less (φ:=[]) (ψ:=φ) h
theorem mj:∀ {fs:List (Str×W)}{vs:List (Str×V)},Rfs K H φ fs vs->vs=(fs.map (·.1)).zip (vs.map (·.2))
 |[],vs,r=>by cases r;rfl
 |(n,x)::fs,vs,r=>by
  obtain⟨v,r',rfl,r1,r2⟩:=r
  rw[qay,qay,qfx,<-mj r2]
theorem mV {st:Sto} (S:Sr K H φ st):∀ {fs:List (Str×W)}{vs:List (Str×V)}{ds:List D},Rfs K H φ fs vs->vwF st fs=some ds->Rls K H [] ds (vs.map (·.2))
 |[],vs,ds,r,h=>by cases r;cases h;rfl
 |(n,.d x)::fs,vs,ds,r,h=>by
  obtain⟨v,r',rfl,r1,r2⟩:=r
  obtain⟨y,hy,rfl⟩:=qad.mp h
  exact⟨v,_,rfl,Rl.bare r1,mV S r2 hy⟩
 |(n,.h m)::fs,vs,ds,r,h=>by
  obtain⟨v,r',rfl,r1,r2⟩:=r
  obtain⟨es,hes,h⟩:=qab.mp h
  obtain⟨y,hy,rfl⟩:=qad.mp h
  obtain⟨a,ea,rfl⟩:=r1
  obtain⟨us,hu,ru⟩:=S.atl m a es ea hes
  exact⟨_,_,rfl,⟨a,us,rfl,qbq,.inl hu,Rls.bare ru⟩,mV S r2 hy⟩
theorem qR {st:Sto} (S:Sr K H φ st):∀ {ws:List W}{vs:List V}{ws':List W},Rws K H φ ws vs->vwA st ws=some ws'->Rws K H [] ws' vs
 |[],vs,ws',r,h=>by cases h;exact r
 |w::ws,vs,ws',r,h=>by
  obtain⟨v,r',rfl,r1,r2⟩:=r
  obtain⟨x,hx,h⟩:=qab.mp h
  obtain⟨y,hy,rfl⟩:=qad.mp h
  refine⟨v,r',rfl,?_,qR S r2 hy⟩
  cases w with
  |d z=>cases hx;exact Rl.bare r1
  |h n=>
   unfold vwW at hx
   dsimp only at hx
   split at hx
   ·rename_i fs hfs
    split at hx
    ·rename_i h5
     obtain⟨ds,hds,rfl⟩:=qad.mp hx
     obtain⟨a,ea,rfl⟩:=r1
     obtain⟨Cl,dx,us,q,rf,b,hC,hA⟩:=S.at_ n a _ ea hfs
     refine⟨a,Cl,dx,us,us.map (·.2),rfl,qbq,q,mj rf,by rw[qam,qam,rf.length],by rw[qam];exact h5,hC,λf hf=>?_,mV S rf hds⟩
     obtain⟨p,hp,rfl⟩:=qa7.mp hf
     exact hA p hp
    ·cases hx
   ·rename_i ds hds
    cases hx
    obtain⟨a,ea,rfl⟩:=r1
    obtain⟨us,hu,ru⟩:=S.at_ n a _ ea hds
    exact⟨a,us,rfl,qbq,.inl hu,Rls.bare ru⟩
   ·cases hx
end
def eN (m:Fn) (a:Af):Ef
 |env,st=>(a env st).bind λr=>(vwA r.2 r.1).bind λws=>(m ws []).bind λy=>match y.1 with
 |.d x=>if okT x=true then some (.d x,r.2) else none
 |_=>none
theorem gL {K:qac}{X:Cx}{e:Expr}{es:List Expr}{pos:Pos}{af:Af}{x:Str}{k j:Nat}{ff:Addr}{fd:qa2}{ps:List Str}{m:Fn}{p:Pos} (F:bO X.prog X.w X.K X.mg X.base CX0 j ff fd ps (spI K m)) (hjk:j<=k) (hr:cN k X.A) (hg:Gl X x) (hm:X.mg x=some (.ref ff)) (hk:qaG X.K (.ref ff)=true) (hb:bB X.K fd ps [])
  (ha:IA K X (e::es) af) (hdb:(x==("__debug__" : Str))=false:=by decide) (hs:aB e=true:=by rfl) (hp:es.all aB=true:=by rfl) :
  IE K X (.Call (.Name x p) (e::es) [] pos) (eN m af):=by
 refine⟨λenv st r h=>?_⟩
 simp only[eN,qab]at h
 obtain⟨y,hy,ws,hws,⟨w,s2⟩,hz,h⟩:=h
 cases w with
 |h n=>cases h
 |d z=>
  dsimp only at h
  split at h
  case isFalse=>cases h
  rename_i hok
  cases h
  refine (rg (F.mono hjk) hr hg hm hk hb .nil uD (ha.run _ _ _ hy) hdb (aZ hs) (bQ hp)).imp ?_
  rintro σ H Q ⟨φ,hE,hS,q⟩
  refine⟨φ,hE,hS,λvs H1 φ1 f1 s1 w1=>?_⟩
  show spI K m (vs++[]) H1 Q E0
  rw[qbw]
  refine⟨[],[],ws,_,hz,qR s1 w1 hws,⟨qc9,rfl,λn a c e1 _=>by cases e1⟩,λv H2 φ2 f2 s2' w2=>?_⟩
  have sm:aY H1 H2:=λb o h=>f2.keep b o qbq h
  exact q v H2 φ1 (f1.trans (Fw.same sm)) (s1.same sm) (Rl.any hok w2)
theorem Rls.flat {K:qac}{H H':Hp}{φ φ':List Addr}:∀ {ds:List D}{vs:List V},ds.all dM=true->Rls K H φ ds vs->Rls K H' φ' ds vs
 |[],_,_,h=>h
 |d::ds,_,o,h=>by
  rw[qbx,qaV]at o
  obtain⟨v,r,rfl,h1,h2⟩:=h
  refine⟨v,r,rfl,?_,Rls.flat o.2 h2⟩
  cases d with
  |non=>exact h1
  |bl b=>exact h1
  |int b=>exact h1
  |str b=>exact h1
  |_=>exact absurd o.1 (by simp[dM])
def i3 (il ip ic it ia:Nat) (fl:Lf):Sf
 |env,st=>(fl env st).bind λr=>match env.getD ip none,env.getD ic none,env.getD it none,env.getD ia none with
 |some (.d (.int p)),some (.d (.int c)),some (.d (.lst ts)),some (.d a)=>(ixN r.1.length p).bind λj=>(ixN ts.length c).bind λi=>if ts.length<=1000000/\il<env.length/\ts.all dM=true then some (.nx (env.set il (some (.d (.lst (r.1.set j (.lst (ts.set i a))))))) r.2) else none
 |_,_,_,_=>none
theorem kv {env:Ev}{i:Nat}{w:W} (h:env.getD i none=some w):env[i]?=some (some w):=by
 rw[qex]at h
 cases q:env[i]? with
 |none=>rw[q]at h;cases h
 |some o=>rw[q]at h;rw[show o=some w from h]
theorem ve {α:Type}{xs:List α}{i:Int}{j:Nat}{v:α} (h:ixN xs.length i=some j) (hv:xs[j]?=some v):atI xs i=some v:=by
 unfold atI;rw[h];exact hv
theorem xz {n:Nat}{i:Int}{j:Nat} (h:ixN n i=some j):j<n:=(mK h).2.1
structure ISL (K:qac) (X:Cx) (s:Stmt) (i0:Nat) (fl:Lf):Prop where
 run:∀ env st r,fl env st=some r->PS X s (λD σ H=>∃ φ,Er K H φ env σ/\Sr K H φ st/\∀ a vs H1 φ',Fw φ φ' H H1->Sr K H1 φ' r.2->H1 a=none->Rls K H1 φ' r.1 vs->D.nx (σ.set i0 (some (.ref a))) (upd H1 a (.lst vs)))
theorem xQ {K:qac}{X:Cx}{pos:Pos}{tg:Expr}{scope:Scope}{Nc:List Str}{k:Nat}{js:List Nat}{elt iter:Expr}{ifs:List Expr}{fi:Lf}{g:Tg}{tt:Tf}{te:Ef}{i0:Nat}{x0:Str}{py spos:Pos}
  (hN0:X.N.Nodup) (hi0:X.N[i0]?=some x0) (hx0:Loc X.env.scope x0) (S:eZ X scope Nc (gf k js)) (hc:X.calm=true) (hgi:∀ j∈sJ g,j<k) (hi:II K X tg iter fi)
  (hg:∀ cells s H C fp,PG (lcX X scope cells Nc s H C fp) tg (tG K g)) (ht:∀ cells s H C fp,ITs K (lcX X scope cells Nc s H C fp) ifs tt) (he:∀ cells s H C fp,IE K (lcX X scope cells Nc s H C fp) elt te)
  (hsw:qcw (.ListComp elt [⟨tg,iter,ifs,0⟩] scope pos) (some (.Name x0 py)) spos.line X.env=pure true:=by rfl)
  (hf0:X.fn x0=true\/X.env.scope.names.lookup x0=some .local:=by first|exact .inl rfl|exact .inr rfl|assumption)
  (hs:∀ x,qb3 iter X.env x=pure x:=by intro _;rfl):ISL K X (.Assign [.Name x0 py] (.ListComp elt [⟨tg,iter,ifs,0⟩] scope pos) spos) i0 (iLc k js fi g tt te):=by
 refine⟨λenv st r hr=>?_⟩
 simp only[iLc,qab]at hr
 obtain⟨⟨ds,s1⟩,hy,hr⟩:=hr
 have hr':(if ds.length<=1000000 then lcI g tt te (jl k js env) ds s1 else none)=some r:=hr
 by_cases hdn:¬ ds.length<=1000000
 ·rw[if_neg hdn]at hr';cases hr'
 have hdl:ds.length<=1000000:=by lia
 rw[if_pos hdl]at hr'
 refine (wt hN0 hi0 hx0 S hc (hi.run _ _ _ hy) hg (λcells s H C fp=>(ht cells s H C fp).run) (λcells s H C fp=>(he cells s H C fp).any) hsw hf0 hs).imp ?_
 rintro D σ H ⟨φ,hE,hS,q⟩
 exact pM hgi hdl hr' σ H _ ⟨φ,hE,hS,q⟩
section
variable {K:qac}{X:Cx}{s1':Stmt}{xl xp xc xt xa:Str}{il ip ic it ia:Nat}{comp:Expr}{fl:Lf}{ss:List Stmt}{gb:Sf}{p1 p2 p3 p4 p5 p6 p7 p8 p9 q1 q2 q3 q4 q5 q6 q7:Pos}
theorem sw (hN:X.N.Nodup) (nl:X.N[il]?=some xl) (np:X.N[ip]?=some xp) (nc:X.N[ic]?=some xc) (nt:X.N[it]?=some xt) (na:X.N[ia]?=some xa)
  (ll:Loc X.env.scope xl) (vl:Vis X.env.scope xl) (vp:Vis X.env.scope xp) (vc:Vis X.env.scope xc) (vt:Vis X.env.scope xt) (va:Vis X.env.scope xa) (d1:il≠ip) (d2:il≠ic) (d3:il≠it) (d4:il≠ia)
  (bl:(xl==("__debug__" : Str))=false) (bp:(xp==("__debug__" : Str))=false) (bc:(xc==("__debug__" : Str))=false) (bt:(xt==("__debug__" : Str))=false) (ba:(xa==("__debug__" : Str))=false)
  (el:(xl==("__classdict__" : Str))=false) (ep:(xp==("__classdict__" : Str))=false) (ec:(xc==("__classdict__" : Str))=false) (et:(xt==("__classdict__" : Str))=false) (ea:(xa==("__classdict__" : Str))=false)
  (hcomp:ISL K X s1' il fl) (hgL:Gl X "list") (hmL:X.mg "list" = none) (hrest:ISs K X ss gb)
  (hs2:qdu [.Subscript (.Name xl p3) (.Name xp p4) p5] (.Call (.Name "list" p6) [.Name xt p7] [] p8) p9.line X.env=pure false) (hw2:qdv [.Subscript (.Name xl p3) (.Name xp p4) p5] (.Call (.Name "list" p6) [.Name xt p7] [] p8) X.env=pure none)
  (hs3:qdu [.Subscript (.Subscript (.Name xl q1) (.Name xp q2) q3) (.Name xc q4) q5] (.Name xa q6) q7.line X.env=pure false) (hw3:qdv [.Subscript (.Subscript (.Name xl q1) (.Name xp q2) q3) (.Name xc q4) q5] (.Name xa q6) X.env=pure none) (hK:X.K=K) :
  ISs K X (s1'::.Assign [.Subscript (.Name xl p3) (.Name xp p4) p5] (.Call (.Name "list" p6) [.Name xt p7] [] p8) p9::.Assign [.Subscript (.Subscript (.Name xl q1) (.Name xp q2) q3) (.Name xc q4) q5] (.Name xa q6) q7::ss) (aq (i3 il ip ic it ia fl) gb):=by
 subst hK
 refine⟨λenv st r hr=>?_⟩
 simp only[aq,i3,qab]at hr
 obtain⟨r1,⟨⟨ds,s1⟩,hfl,hr1⟩,hr⟩:=hr
 split at hr1
 case h_2=>cases hr1
 rename_i p c ts a hp hc ht ha'
 simp only[qab]at hr1
 obtain⟨j,hj,i,hi,hr1⟩:=hr1
 split at hr1
 case isFalse=>cases hr1
 rename_i hz
 cases hr1
 dsimp only at hr
 have hll:rC s1 [.d (.lst ts)]=some ts:=rfl
 have pl:∀ {q:Pos},PE X (.Name xl q) (oK il):=λ{q}=>iY nl vl bl el
 have pp:∀ {q:Pos},PE X (.Name xp q) (oK ip):=λ{q}=>iY np vp bp ep
 have pc:∀ {q:Pos},PE X (.Name xc q) (oK ic):=λ{q}=>iY nc vc bc ec
 have pt:∀ {q:Pos},PE X (.Name xt q) (oK it):=λ{q}=>iY nt vt bt et
 have pa:∀ {q:Pos},PE X (.Name xa q) (oK ia):=λ{q}=>iY na va ba ea
 refine (eD (hcomp.run _ _ _ hfl) (eD (no (dR ((qO (K:=X.K) rfl).run s1 [.d (.lst ts)] ts hll) hgL hmL qcm (kz pt mT) (by decide) (by decide)) (pO pl pp lG (mx rfl)) hs2 hw2 (kF rfl))
  (eD (no pa (pO (ww pG pl pp (nY rfl)) pc lG (mx rfl)) hs3 hw3 (kF rfl)) (hrest.run _ _ _ hr)))).imp ?_
 rintro D σ H ⟨φ,hE,hS,q⟩
 refine⟨φ,hE,hS,λal vs H1 φ1 f1 S1 hal rl=>?_⟩
 have hE1:=hE.fw hS f1
 obtain⟨vp',gp,rp⟩:=hE1.at_ ip _ (kv hp)
 obtain⟨vc',gc,rc⟩:=hE1.at_ ic _ (kv hc)
 obtain⟨vt',gt,rt⟩:=hE1.at_ it _ (kv ht)
 obtain⟨va',ga,ra⟩:=hE1.at_ ia _ (kv ha')
 have rp:vp'=.int p:=rp
 have rc:vc'=.int c:=rc
 subst rp rc
 have nep:il≠ip:=d1
 have set_at:∀ {k:Nat}{u:V}{v:V},il≠k->σ[k]?=some (some u)->(σ.set il (some v))[k]?=some (some u):=λ{k u v} h e=>by rw[qbc h];exact e
 -- the list's line
 refine⟨_,set_at d3 gt,φ1,S1.new hal,⟨vt',[],rfl,?_,rfl⟩,λbl us H2 sm hbl ru=>?_⟩
 ·exact (Rl.fw S1 (Fw.new hal) rt)
 have hal2:H2 al=some (.lst vs):=sm _ _ upd_same
 have hab:al≠bl:=aE hal2 hbl
 have hlen:vs.length=ds.length:=rl.length.symm
 have hul:us.length=ts.length:=ru.length.symm
 have hil:(σ.set il (some (.ref al)))[il]?=some (some (.ref al)):=by
  rw[qa5]
  rw[<-hE.len]
  exact hz.2.1
 refine⟨_,hil,_,set_at d1 gp,al,vs,p,j,rfl,rfl,by rw[upd_ne hab];exact hal2,by rw[hlen];exact hj,?_⟩
 have hjl:j<vs.length:=by rw[hlen];exact xz hj
 refine⟨_,set_at d4 ga,_,hil,_,set_at d1 gp,.inl ⟨al,vs.set j (.ref bl),p,.ref bl,rfl,rfl,SqL.of upd_same,ve (j:=j) (by rw[qbv,hlen];exact hj) (by rw[qa5 hjl]),?_⟩⟩
 refine⟨_,set_at d2 gc,bl,us,c,i,rfl,rfl,by rw[upd_ne (qbo hab),upd_same],by rw[hul];exact hi,?_⟩
 have sm5:aY H1 (upd (upd (upd H2 bl (.lst us)) al (.lst (vs.set j (.ref bl)))) bl (.lst (us.set i va'))):=λb o h=>by
  have e1:b≠al:=λz=>by rw[z,hal]at h;cases h
  have h2:H2 b=some o:=sm b o (by rw[upd_ne e1];exact h)
  have e2:b≠bl:=λz=>by rw[z,hbl]at h2;cases h2
  rw[upd_ne e2,upd_ne e1,upd_ne e2];exact h2
 have nal:al∉φ1:=S1.nin hal
 have nbl:bl∉φ1:=λz=>by
  obtain⟨o,ho,_⟩:=S1.lst z
  have:bl≠al:=qbo hab
  have h2:H2 bl=some o:=sm bl o (by rw[upd_ne this];exact ho)
  rw[hbl]at h2;cases h2
 dsimp only
 generalize hH:upd (upd (upd H2 bl (.lst us)) al (.lst (vs.set j (.ref bl)))) bl (.lst (us.set i va'))=H5 at sm5 ⊢
 have ha5:H5 al=some (.lst (vs.set j (.ref bl))):=by rw[<-hH,upd_ne hab,upd_same]
 have hb5:H5 bl=some (.lst (us.set i va')):=by rw[<-hH,upd_same]
 have fw5:Fw φ1 φ1 H1 H5:=Fw.same sm5
 have ru5:Rls X.K H5 φ1 ts us:=Rls.flat hz.2.2 ru
 refine⟨φ1,(hE1.fw S1 fw5).set il (w:=.d (.lst (ds.set j (.lst (ts.set i a))))) ?_,S1.same sm5,?_⟩
 ·exact⟨al,_,rfl,nal,.inl ha5,Rls.set j (rl.fw S1 fw5) ⟨bl,_,rfl,nbl,.inl hb5,Rls.set i ru5 (Rl.fw S1 fw5 ra)⟩⟩
 ·exact q.fw (f1.trans fw5)
end
end L2
namespace L2
open PySem PySem.Spec PyProof.Rows
section
variable {K:qac}{X:Cx}
def y0 (_ j:Int):Prop:=0<j/\j.natAbs.log2<9000
theorem ue:OpR X (qbu .FloorDiv) (rI y0 λi j=>.int (i / j)):=opI λi j _ _ _ _ _ hc q=>by
 obtain⟨h0,h1⟩:=hc
 exact floordiv_int (by lia) (by rw[qeM i (by lia)];exact q) (.inl (PyProof.noPylong_of_log2 h1))
def kW (_:Sto):W->W->Option D
 |.d (.int i),.d (.int j)=>if 0<j/\j.natAbs.log2<9000 then some (.int (i / j)) else none
 |_,_=>none
theorem kX:OpD K X (qbu .FloorDiv) kW:=gA λst x y d h=>by
 match x,y,h with
 |.d (.int i),.d (.int j),h=>
  simp only[kW]at h
  split at h
  ·rename_i hc
   cases h;exact⟨i,j,rfl,rfl,ue.imp λvx vy H Q ⟨a,b,q⟩=>⟨i,j,a,b,hc,q⟩,rfl⟩
  ·cases h
theorem uE:di X (.type "range") (λxs H Q=>∃ i j:Int,xs=[.int i,.int j]/\∀ p,H p=none->Q (.ref p) (upd H p (.rng i j))):=by
 intro pins s σ H xs us Q I rv h
 obtain⟨i,j,rfl,q⟩:=h
 cases rv with
 |cons r rr=>
  cases rr with
  |cons r' rr=>
   cases rr
   obtain⟨t,rfl⟩:=r
   obtain⟨t',rfl⟩:=r'
   exact call_range_2 ⟨.ref _,_,I.laid (o:=.rng i j) (λ_ _ q=>qai _ q) (qal _) ⟨_,_,_,qaA _ rfl⟩,rfl,q _ I.fresh⟩
theorem uH {acc:Array Value}{lo:Int}{n:Nat} (h:ItemsOf (λi v=>∃ t,v=Value.int (lo+(i:Int)*1) t) acc n):aJ ((qag n).map λk:Nat=>V.int (lo+k)) acc.toList:=by
 obtain⟨hz,hi⟩:=h
 have key:∀ (l:List Value) (k:Nat),(∀ j v,l[j]?=some v->∃ t,v=Value.int (lo+((k+j:Nat):Int)) t)->aJ ((qdI k l.length).map λk:Nat=>V.int (lo+k)) l:=by
  intro l
  induction l with
  |nil=>intro k _;exact .nil
  |cons x l ih=>
   intro k h
   obtain⟨t,e⟩:=h 0 x rfl
   rw[qaq,qfX,qay]
   refine .cons ⟨t,e⟩ (ih (k+1) λj v hv=>?_)
   obtain⟨t,e⟩:=h (j+1) v (by simpa using hv)
   exact⟨t,by rw[e,show k+(j+1)=k+1+j by lia]⟩
 have:=key acc.toList 0 λj v hv=>by
  obtain⟨t,e⟩:=hi j v (by simpa using hv)
  exact⟨t,by rw[e,qb4,qbI]⟩
 rw[qfe]
 rw[qcW,hz]at this
 exact this
theorem qM (hc:X.calm=true:=by rfl):di X (.type "list") (λxs H Q=>∃ (p:Addr) (lo:Int) (n:Nat),xs=[.ref p]/\H p=some (.rng lo (lo+(n:Int)))/\n<=1000/\-1000000<=lo/\lo<=1000000/\∀ l,H l=none->Q (.ref l) (upd H l (.lst ((qag n).map λk:Nat=>V.int (lo+k))))):=by
 intro pins s σ H xs us Q I rv h
 obtain⟨p,lo,n,rfl,hp,hn,l1,l2,q⟩:=h
 cases rv with
 |cons r rr=>
  cases rr
  cases r
  obtain⟨t,u,v,e⟩:=I.hok p _ hp
  refine call_list_range (I.ok.hd hc) e ?_ (n:=n) ?_ (by lia) λh' tk acc c kp e' hacc=>?_
  ·have fl:∀ z:Int,-2000000<=z->z<=2000000->qdH z=true:=λz h1 h2=>by
    unfold qdH
    simp only[qaV,decide_eq_true_eq]
    omega
   have hsz:qd6 lo (lo+(n:Int)) 1=(n:Int):=by rw[qfr];split<;>lia
   unfold qgO
   rw[hsz]
   simp[fl lo (by lia) (by lia),fl (lo+(n:Int)) (by lia) (by lia),fl 1 (by lia) (by lia),fl (n:Int) (by lia) (by lia)]
  ·rw[qfr];split<;>lia
  ·exact⟨.ref s.heap.objs.size,_,I.laid (t':=tk) kp (qal _) (show dN X.prog X.w _ h' _ (.lst ((qag n).map λk:Nat=>V.int (lo+k))) from ⟨by rw[qam,qao];exact nF hn,acc.toList,c,uH hacc,by simpa using e'⟩),rfl,q _ (I.hok.fresh (qal _))⟩
def se (a:Af):Lf
 |env,st=>(a env st).bind λr=>match r.1 with
 |[.d (.int j)]=>if 0<=j/\j<=1000 then some (dL 0 j.toNat,r.2) else none
 |_=>none
def my (a:Af):Lf
 |env,st=>(a env st).bind λr=>match r.1 with
 |[.d (.int i),.d (.int j)]=>if 0<=j - i/\j - i<=1000/\-1000000<=i/\i<=1000000 then some (dL i (j - i).toNat,r.2) else none
 |_=>none
theorem Rls.rng {H:Hp}{φ:List Addr} (lo:Int) (n:Nat):Rls K H φ (dL lo n) ((qag n).map λk:Nat=>V.int (lo+k)):=by
 have:dL lo n=((qag n).map λk:Nat=>lo+(k:Int)).map D.int:=by unfold dL;rw[qbs];rfl
 rw[this,show ((qag n).map λk:Nat=>V.int (lo+k))=((qag n).map λk:Nat=>lo+(k:Int)).map V.int by rw[qbs];rfl]
 exact Rls.of_ints _
variable {a b:Expr}{af:Af}{p1 p2 p3 p4:Pos}
theorem xu (hgL:Gl X "list") (hmL:X.mg "list" = none) (hgR:Gl X "range") (hmR:X.mg "range" = none) (ha:IA K X [a] af) (hc:X.calm=true:=by rfl) (hs:aB a=true:=by rfl) :
  IL K X (.Call (.Name "list" p1) [.Call (.Name "range" p2) [a] [] p3] [] p4) (se af):=by
 refine⟨λenv st r hr=>?_⟩
 simp only[se,qab]at hr
 obtain⟨⟨ws,s1⟩,hw,hr⟩:=hr
 dsimp only at hr
 split at hr
 case h_2=>cases hr
 rename_i j
 split at hr
 case isFalse=>cases hr
 rename_i hj
 cases hr
 refine (dR (qM hc) hgL hmL qcm (kz (dR vE hgR hmR qea (ha.run _ _ _ hw) (by decide) (by decide) (aZ hs) (bQ rfl)) mT (aZ rfl)) (by decide) (by decide) (aZ rfl) (bQ rfl)).imp ?_
 rintro σ H Q ⟨φ,hE,hS,q⟩
 refine⟨φ,hE,hS,λvs H1 φ1 f1 s1' w1=>?_⟩
 obtain⟨v,r,rfl,r1,rfl⟩:=w1
 have r1:v=.int j:=r1
 subst r1
 refine⟨j,rfl,λp hp=>⟨p,0,j.toNat,rfl,?_,by lia,by lia,by lia,λl hl=>?_⟩⟩
 ·rw[upd_same,qdy,qfD hj.1]
 ·exact q l _ _ φ1 (f1.trans (Fw.new hp)) (s1'.new hp) hl (Rls.rng 0 j.toNat)
theorem tB (hgL:Gl X "list") (hmL:X.mg "list" = none) (hgR:Gl X "range") (hmR:X.mg "range" = none) (ha:IA K X [a,b] af) (hc:X.calm=true:=by rfl) (hs:aB a=true:=by rfl) (hs2:aB b=true:=by rfl) :
  IL K X (.Call (.Name "list" p1) [.Call (.Name "range" p2) [a,b] [] p3] [] p4) (my af):=by
 refine⟨λenv st r hr=>?_⟩
 simp only[my,qab]at hr
 obtain⟨⟨ws,s1⟩,hw,hr⟩:=hr
 dsimp only at hr
 split at hr
 case h_2=>cases hr
 rename_i i j
 split at hr
 case isFalse=>cases hr
 rename_i hj
 cases hr
 refine (dR (qM hc) hgL hmL qcm (kz (dR uE hgR hmR qea (ha.run _ _ _ hw) (by decide) (by decide) (aZ hs) (bQ (by rw[qbx,hs2];rfl))) mT (aZ rfl)) (by decide) (by decide) (aZ rfl) (bQ rfl)).imp ?_
 rintro σ H Q ⟨φ,hE,hS,q⟩
 refine⟨φ,hE,hS,λvs H1 φ1 f1 s1' w1=>?_⟩
 obtain⟨v,r,rfl,r1,u,r',rfl,r2,rfl⟩:=w1
 have r1:v=.int i:=r1
 have r2:u=.int j:=r2
 subst r1 r2
 refine⟨i,j,rfl,λp hp=>⟨p,i,(j - i).toNat,rfl,?_,by lia,by lia,by lia,λl hl=>?_⟩⟩
 ·rw[upd_same,qfD hj.1,show i+(j - i)=j by lia]
 ·exact q l _ _ φ1 (f1.trans (Fw.new hp)) (s1'.new hp) hl (Rls.rng i (j - i).toNat)
end
end L2
namespace Own
open PySem L2
def fv:Tf:=(bm dNe (iV 3) (iC (.int 0)))
def fF:Sf:=(aq (aD (.nm 4) (iOp hU (iV 1) (iV 3))) (aq (aD (.nm 1) (iV 3)) (aD (.nm 3) (iV 4))))
def fM:Sf:=(aq (aD (.nm 3) (iCB pA (aa (iV 2) ak))) (pX (2^8000) fv fF))
def cU:Sf:=(aq (aD (.nm 1) (iC (.int 0))) (aq (gI (aL (iV 0)) (.nm 2) fM) (bY (iV 1))))
def cx:Fn:=eH 5 1 cU
def jP:Ef:=(iOp kW (iV 0) (iV 1))
def iy:Sf:=(aq (aD (.nm 1) (aS cx (aa (iV 0) ak))) (aq (cy (bm dEq (iV 1) (iC (.int 0))) (bY (iCB kO (aa (iV 0) ak))) bz) (bY (iCB kO (aa (aM (iLc 1 [1] (aL (iV 0)) (.nm 0) bG jP)) ak)))))
def ge:Fn:=eH 2 1 iy
def gR:Ef:=(iOp bW (aM (iCL rC (aa (iV 0) ak))) (aM (cQ (aa (iV 1) ak))))
def gM:Ef:=(iUn j5 (iV 0))
def cM:List (Str×Ef):=[("amounts",(iCB cv (aa (iV 3) ak))),("lines",(aM (iLc 2 [] (gN (aa (iV 1) (aa (iV 2) ak))) (.tp [0,1]) bG gR))),("goal",(iOp bW (aM (iLc 1 [] (aL (iV 3)) (.nm 0) bG gM)) (aM (cQ (aa (iC (.int 0)) ak))))),("part",(iC (.int 1))),("free",(dZ (se (aa (iCB cv (aa (iV 3) ak)) ak)))),("kept",(dZ (my (aa (iCB cv (aa (iV 3) ak)) (aa (iOp bW (iCB cv (aa (iV 3) ak)) (iCB cv (aa (iV 1) ak))) ak)))))]
def aQ:Sf:=(aq (cy (fE gh (iV 3)) (aq (aD (.nm 5) (iOp aO (iOp dIx (iV 1) (iV 4)) (iOp dIx (iV 2) (iOp dIx (iV 3) (iC (.int 0)))))) (aq (aD (.nm 6) (iOp aO (iOp dIx (iV 1) (iOp dIx (iV 3) (iC (.int 0)))) (iOp dIx (iV 2) (iV 4)))) (aq (cy (bm dGt (iV 5) (iV 6)) mv bz) (cy (bm dLt (iV 5) (iV 6)) (aD (.nm 3) (dZ (cQ ak))) bz)))) bz) (gD (iJ eA (iV 3) (aa (iV 4) ak))))
def eh:Sf:=(aq (aD (.nm 3) (dZ (cQ ak))) (aq (gI (aL (iV 0)) (.nm 4) aQ) (bY (iV 3))))
def fU:Fn:=hJ 7 3 eh
def io:Sf:=(bY (iOp bW (aM (cQ (aa (iC .non) ak))) (aM (my (aa (au "amounts" (iV 0)) (aa (iOp bW (au "amounts" (iV 0)) (iCB cv (aa (au "lines" (iV 0)) ak))) ak))))))
def fj:Fn:=eH 1 1 io
def kQ:Ef:=(j0 (bm dEq (iV 0) (iV 1)) (au "part" (iV 2)) (iC (.int 0)))
def kJ:Ef:=(iOp dIx (iV 0) (iV 1))
def lv:Ef:=(iOp dIx (iV 0) (iUn j5 (iC (.int 1))))
def dq:Sf:=(aq (cy (bm iZ (iV 1) (iC .non)) (bY (aM (iLc 1 [] (aL (au "lines" (iV 0))) (.nm 0) bG lv))) bz) (aq (cy (bm dIn (iV 1) (au "free" (iV 0))) (aq (aD (.nm 2) (tW (au "free" (iV 0)) (aa (iV 1) ak))) (bY (aM (iLc 1 [2] (aL (au "lines" (iV 0))) (.nm 0) bG kJ)))) bz) (bY (aM (iLc 1 [1,0] (aL (au "kept" (iV 0))) (.nm 0) bG kQ)))))
def dE:Fn:=eH 3 2 dq
def fG:Sf:=(aq (cy (bm dLt (iCB cv (aa (iV 3) ak)) (iC (.int 2))) pZ bz) (aD (.nm 3) (aS fU (aa (iV 3) (aa (aS dE (aa (iV 0) (aa (iV 4) ak))) (aa (iV 2) ak))))))
def jT:Ef:=(iV 0)
def jY:Tf:=(bm dGt (iV 1) (iC (.int 0)))
def jU:Ef:=(iOp dIx (iV 0) (iV 1))
def iq:Sf:=(aq (aD (.nm 2) (aM (iLc 1 [1] (aL (au "lines" (iV 0))) (.nm 0) bG jU))) (aq (aD (.nm 3) (aM (iLc 2 [] (eL (aa (iV 2) ak)) (.tp [0,1]) jY jT))) (aq (gI (aL (aS fj (aa (iV 0) ak))) (.nm 4) fG) (bY (j0 (fE gh (iV 3)) (iOp dIx (iV 3) (iC (.int 0))) (iC .non))))))
def ix:Fn:=eH 5 2 iq
def cG:Sf:=(aq (aD (.nm 6) (aS dE (aa (iV 0) (aa (iV 5) ak)))) (aq (aD (.nm 7) (iOp fW (iOp aO (iV 4) (iOp dIx (iV 6) (iOp dIx (iV 2) (iC (.int 1))))) (iOp aO (iV 3) (iOp dIx (iV 6) (iOp dIx (iV 1) (iC (.int 1))))))) (cy (bm dNe (iV 7) (iC (.int 0))) (bY (iOp dGt (iV 7) (iC (.int 0)))) bz)))
def dF:Sf:=(aq (aD (.nm 3) (iOp aO (iOp dIx (au "goal" (iV 0)) (iOp dIx (iV 1) (iC (.int 0)))) (iOp dIx (iOp dIx (au "lines" (iV 0)) (iOp dIx (iV 2) (iC (.int 1)))) (iOp dIx (iV 2) (iC (.int 0)))))) (aq (aD (.nm 4) (iOp aO (iOp dIx (au "goal" (iV 0)) (iOp dIx (iV 2) (iC (.int 0)))) (iOp dIx (iOp dIx (au "lines" (iV 0)) (iOp dIx (iV 1) (iC (.int 1)))) (iOp dIx (iV 1) (iC (.int 0)))))) (aq (gI (aL (aS fj (aa (iV 0) ak))) (.nm 5) cG) (bY (iC (.bl false))))))
def cK:Fn:=eH 8 3 dF
def cz:Sf:=(aq (cy (bm dGe (iOp dIx (au "goal" (iV 0)) (iV 2)) (iC (.int 0))) mv bz) (aq (aD (.nm 3) (dj (aa (iV 2) (aa (aS ix (aa (iV 0) (aa (iV 2) ak))) ak)))) (aq (cy (bm iZ (iOp dIx (iV 3) (iC (.int 1))) (iC .non)) (bY (iV 3)) bz) (cy (pH (bm iZ (iV 1) (iC .non)) (fE gh (aS cK (aa (iV 0) (aa (iV 3) (aa (iV 1) ak)))))) (aD (.nm 1) (iV 3)) bz))))
def eI:Sf:=(aq (aD (.nm 1) (iC .non)) (aq (gI (eJ (aa (iCB cv (aa (au "free" (iV 0)) ak)) ak)) (.nm 2) cz) (bY (iV 1))))
def ck:Fn:=eH 4 1 eI
def jL:Ef:=(iOp kW (iOp fW (iOp aO (iV 2) (iV 0)) (iOp aO (iV 3) (iV 1))) (iV 4))
def ku:Sf:=(aq (aD (.nm 4) (iOp dIx (iV 1) (iV 2))) (aq (aD (.nm 5) (iOp dIx (iV 0) (iV 2))) (aq (aD (.nm 6) (dZ (iLc 2 [4,5,3] (gN (aa (iV 0) (aa (iV 1) ak))) (.tp [0,1]) bG jL))) (aq (bE (iV 6) (iV 2) (iUn j5 (iV 5))) (bY (iV 6))))))
def im:Fn:=hJ 7 4 ku
def eV:Ef:=(aS im (aa (iV 0) (aa (iV 1) (aa (iV 2) (aa (iV 3) ak)))))
def fu:Sf:=(aq (aD (.nm 3) (iOp dIx (au "lines" (iV 0)) (iV 1))) (aq (aD (.nm 4) (au "part" (iV 0))) (aq (i3 5 1 2 3 4 (iLc 1 [3,2,4] (aL (au "lines" (iV 0))) (.nm 0) bG eV)) (aq (iK "goal" (iV 0) (aS im (aa (au "goal" (iV 0)) (aa (iV 3) (aa (iV 2) (aa (iV 4) ak)))))) (aq (iK "lines" (iV 0) (iV 5)) (aq (iK "part" (iV 0) (iOp dIx (iV 3) (iV 2))) (aq (aD (.nm 6) (iOp dIx (au "free" (iV 0)) (iV 2))) (aq (bE (au "free" (iV 0)) (iV 2) (iOp dIx (au "kept" (iV 0)) (iV 1))) (bE (au "kept" (iV 0)) (iV 1) (iV 6))))))))))
def dW:Fn:=hJ 7 3 fu
def lC:Sf:=(cy (bm dLt (iV 4) (au "amounts" (iV 0))) (bE (iV 2) (iV 4) (iUn j5 (iOp dIx (iOp dIx (au "lines" (iV 0)) (iV 3)) (iV 1)))) bz)
def jg:Sf:=(aq (aD (.nm 2) (dZ (pQ lW (aM (cQ (aa (iC (.int 0)) ak))) (au "amounts" (iV 0))))) (aq (gI (eL (aa (au "kept" (iV 0)) ak)) (.tp [3,4]) lC) (aq (cy (bm dLt (iOp dIx (au "free" (iV 0)) (iV 1)) (au "amounts" (iV 0))) (bE (iV 2) (iOp dIx (au "free" (iV 0)) (iV 1)) (au "part" (iV 0))) bz) (bY (eN ge (aa (iV 2) ak))))))
def jk:Fn:=hJ 5 2 jg
def gQ:Sf:=(cy (bm dLt (iV 3) (au "amounts" (iV 0))) (bE (iV 1) (iV 3) (iOp dIx (iOp dIx (au "lines" (iV 0)) (iV 2)) (iUn j5 (iC (.int 1))))) bz)
def eS:Sf:=(aq (aD (.nm 1) (dZ (pQ lW (aM (cQ (aa (iC (.int 0)) ak))) (au "amounts" (iV 0))))) (aq (gI (eL (aa (au "kept" (iV 0)) ak)) (.tp [2,3]) gQ) (bY (iV 1))))
def gz:Fn:=hJ 4 1 eS
def iM:Sf:=(cy (bm dGe (iV 3) (au "amounts" (iV 0))) (bE (iV 1) (iOp fW (iV 3) (au "amounts" (iV 0))) (iOp dIx (au "goal" (iV 0)) (iV 2))) bz)
def fQ:Sf:=(aq (aD (.nm 1) (dZ (pQ lW (aM (cQ (aa (iC (.int 0)) ak))) (iCB cv (aa (au "lines" (iV 0)) ak))))) (aq (gI (eL (aa (au "free" (iV 0)) ak)) (.tp [2,3]) iM) (bY (iV 1))))
def gP:Fn:=hJ 4 1 fQ
def dy:Ef:=(iOp kW (iV 0) (iV 1))
def dl:Ef:=(iOp kW (iV 0) (iV 1))
def e8:Sf:=(aq (aD (.nm 1) (aS gz (aa (iV 0) ak))) (aq (aD (.nm 2) (aS gP (aa (iV 0) ak))) (aq (aD (.nm 3) (aS cx (aa (iOp bW (iOp bW (aM (cQ (aa (au "part" (iV 0)) ak))) (iV 1)) (iV 2)) ak))) (bY (dj (aa (iC (.str "most")) (aa (iOp kW (au "part" (iV 0)) (iV 3)) (aa (iCB kO (aa (aM (iLc 1 [3] (aL (iV 1)) (.nm 0) bG dl)) ak)) (aa (iCB kO (aa (aM (iLc 1 [3] (aL (iV 2)) (.nm 0) bG dy)) ak)) ak)))))))))
def gC:Fn:=eH 4 1 e8
def gq:Tf:=(bm wu (iV 4) (iC .non))
def fH:Sf:=(aq (cy (bm iZ (iOp dIx (iV 4) (iC (.int 1))) (iC .non)) (bY (dj (aa (iC (.str "beyond")) (aa (eN jk (aa (iV 3) (aa (iOp dIx (iV 4) (iC (.int 0))) ak))) ak)))) bz) (aq (gD (aS dW (aa (iV 3) (aa (iOp dIx (iV 4) (iC (.int 1))) (aa (iOp dIx (iV 4) (iC (.int 0))) ak))))) (aD (.nm 4) (eN ck (aa (iV 3) ak)))))
def fY:Sf:=(aq (aD (.nm 3) (mo 4 4 cM (aa (iV 0) (aa (iV 1) (aa (iV 2) ak))))) (aq (aD (.nm 4) (eN ck (aa (iV 3) ak))) (aq (pX (2^8000) gq fH) (bY (eN gC (aa (iV 3) ak))))))
def ii:Fn:=eH 5 3 fY
def fz:Sf:=(aq (aD (.nm 2) (j0 (bm dLt (iV 1) (iCB cv (aa (iV 0) ak))) (iOp dIx (iV 0) (iV 1)) (iC (.int 0)))) (aq (aD (.nm 3) (iOp aO (iCB pA (aa (iV 2) ak)) (iCB v7 (aa (iOp dGe (iCB pA (aa (iV 2) ak)) (iOp oW (iC (.int 10)) (iC (.int 18)))) ak)))) (bY (dZ (cQ (aa (iV 3) (aa (iOp hU (iOp aO (iOp bW (iOp bW (iOp hU (iV 2) (iC (.int 2147483629))) (iOp aO (iOp aO (iC (.int 5303)) (iV 1)) (iV 1))) (iC (.int 17))) (iC (.int 48271))) (iC (.int 2147483647))) (aa (iC (.int 0)) ak))))))))
def dP:Fn:=eH 4 2 fz
def dg:Sf:=(aq (bE (iV 0) (iC (.int 2)) (iOp bW (iOp dIx (iV 0) (iC (.int 2))) (iC (.int 1)))) (aq (cy (iL (bm dGt (iOp dIx (iV 0) (iC (.int 0))) (iC (.int 0))) (bm dLe (iOp dIx (iV 0) (iC (.int 2))) (iC (.int 400)))) (aq (aD (.nm 2) (iOp hU (iOp dIx (iV 0) (iC (.int 0))) (iV 1))) (aq (bE (iV 0) (iC (.int 0)) (iOp le (iOp dIx (iV 0) (iC (.int 0))) (iV 1))) (bY (iV 2)))) bz) (aq (bE (iV 0) (iC (.int 1)) (iOp hU (iOp bW (iOp bW (iOp aO (iOp dIx (iV 0) (iC (.int 1))) (iC (.int 48271))) (iC (.int 12345))) (iOp dIx (iV 0) (iC (.int 2)))) (iC (.int 2147483647)))) (bY (iOp hU (iOp le (iOp hU (iOp aO (iOp dIx (iV 0) (iC (.int 1))) (iOp bW (iOp hU (iOp dIx (iV 0) (iC (.int 1))) (iC (.int 39373))) (iC (.int 7)))) (iC (.int 2147483629))) (iC (.int 64))) (iV 1))))))
def bj:Fn:=eH 3 2 dg
def gB:Sf:=(bY (dj (aa (iOp aO (iOp fW (aS bj (aa (iV 0) (aa (iC (.int 7)) ak))) (iC (.int 3))) (iV 1)) (aa (iOp aO (iOp fW (aS bj (aa (iV 0) (aa (iC (.int 7)) ak))) (iC (.int 3))) (iV 1)) ak))))
def gn:Fn:=eH 2 2 gB
def ie:Ef:=(dj (aa (iOp dIx (iV 0) (iC (.int 0))) (aa (iOp dIx (iV 0) (iC (.int 1))) (aa (iV 1) ak))))
def eY:Sf:=(bY (iOp bW (aM (iLc 2 [] (gN (aa (iV 0) (aa (iV 1) ak))) (.tp [0,1]) bG ie)) (aM (cQ (aa (dj (aa (iUn j5 (iC (.int 1))) (aa (iC (.int 0)) (aa (iC (.int 0)) ak)))) (aa (dj (aa (iC (.int 0)) (aa (iUn j5 (iC (.int 1))) (aa (iC (.int 0)) ak)))) ak))))))
def gu:Fn:=eH 2 2 eY
def dY:Sf:=(aq (aD (.nm 9) (iOp fW (iOp aO (iV 3) (iV 7)) (iOp aO (iV 4) (iV 6)))) (aq (cy (bm dGt (iV 9) (iC (.int 0))) (gD (iJ eA (iV 1) (aa (dj (aa (iOp fW (iOp aO (iV 5) (iV 7)) (iOp aO (iV 4) (iV 8))) (aa (iOp fW (iOp aO (iV 3) (iV 8)) (iOp aO (iV 5) (iV 6))) (aa (iV 9) ak)))) ak))) bz) (cy (bm dLt (iV 9) (iC (.int 0))) (gD (iJ eA (iV 1) (aa (dj (aa (iOp fW (iOp aO (iV 4) (iV 8)) (iOp aO (iV 5) (iV 7))) (aa (iOp fW (iOp aO (iV 5) (iV 6)) (iOp aO (iV 3) (iV 8))) (aa (iOp fW (iC (.int 0)) (iV 9)) ak)))) ak))) bz)))
def fZ:Sf:=(gI (aL (iSl (iV 0) iPn (iPs (iV 2)))) (.tp [6,7,8]) dY)
def ca:Sf:=(aq (aD (.nm 1) (dZ (cQ ak))) (aq (gI (eL (aa (iV 0) ak)) (.tq 2 [3,4,5]) fZ) (bY (iV 1))))
def dI:Fn:=hJ 10 1 ca
def du:Ef:=(iOp dLe (iOp bW (iOp aO (iV 0) (iV 3)) (iOp aO (iV 1) (iV 4))) (iOp aO (iV 2) (iV 5)))
def bT:Sf:=(cy (fE gh (iCB so (aa (aM (iLc 3 [3,4,5] (aL (iV 0)) (.tp [0,1,2]) bG du)) ak))) (aq (aD (.nm 6) (iOp bW (iOp aO (iOp dIx (iV 1) (iC (.int 0))) (iV 3)) (iOp aO (iOp dIx (iV 1) (iC (.int 1))) (iV 4)))) (cy (bm dGt (iOp aO (iV 6) (iOp dIx (iV 2) (iC (.int 1)))) (iOp aO (iOp dIx (iV 2) (iC (.int 0))) (iV 5))) (aD (.nm 2) (dj (aa (iV 6) (aa (iV 5) ak)))) bz)) bz)
def cV:Sf:=(aq (aD (.nm 2) (dj (aa (iC (.int 0)) (aa (iC (.int 1)) ak)))) (aq (gI (aL (aS dI (aa (iV 0) ak))) (.tp [3,4,5]) bT) (bY (iV 2))))
def cW:Fn:=eH 7 2 cV
def df:Ef:=(iOp dLe (iOp bW (iOp aO (iV 0) (iV 3)) (iOp aO (iV 1) (iV 4))) (iC (.int 0)))
def cr:Sf:=(cy (iL (fE gh (iCB so (aa (aM (iLc 3 [6,7] (aL (iV 0)) (.tp [0,1,2]) bG df)) ak))) (bm dGt (iOp bW (iOp aO (iOp dIx (iV 1) (iC (.int 0))) (iV 6)) (iOp aO (iOp dIx (iV 1) (iC (.int 1))) (iV 7))) (iC (.int 0)))) (bY (iC (.bl true))) bz)
def fC:Sf:=(aD (.nm 2) (iOp bW (iV 2) (aM (cQ (aa (dj (aa (iV 4) (aa (iOp fW (iC (.int 0)) (iV 3)) ak))) (aa (dj (aa (iOp fW (iC (.int 0)) (iV 4)) (aa (iV 3) ak))) ak))))))
def cg:Sf:=(aq (aD (.nm 2) (aM (cQ ak))) (aq (gI (aL (iV 0)) (.tp [3,4,5]) fC) (aq (gI (aL (iV 2)) (.tp [6,7]) cr) (bY (iC (.bl false))))))
def d5:Fn:=eH 8 2 cg
def ly:Sf:=(aq (aD (.tp [5,6]) (aS cW (aa (iV 3) (aa (iV 2) ak)))) (aq (aD (.nm 7) (iOp bW (iOp aO (iOp dIx (iV 2) (iC (.int 0))) (iOp dIx (iOp dIx (iV 4) (iC (.int 2))) (iC (.int 0)))) (iOp aO (iOp dIx (iV 2) (iC (.int 1))) (iOp dIx (iOp dIx (iV 4) (iC (.int 2))) (iC (.int 1)))))) (bY (iOp dEq (iOp aO (iV 7) (iV 6)) (iOp aO (iV 5) (iOp dIx (iV 4) (iC (.int 1))))))))
def dw:Sf:=(aq (aD (.nm 3) (aS gu (aa (iV 0) (aa (iV 1) ak)))) (aq (aD (.nm 4) (aS ii (aa (iV 0) (aa (iV 1) (aa (iV 2) ak))))) (aq (cy (fE gh (aS d5 (aa (iV 3) (aa (iV 2) ak)))) (bY (iOp dEq (iOp dIx (iV 4) (iC (.int 0))) (iC (.str "beyond")))) bz) (aq (cy (bm dNe (iOp dIx (iV 4) (iC (.int 0))) (iC (.str "most"))) (bY (iC (.bl false))) bz) ly))))
def gm:Fn:=eH 8 3 dw
def mP:Ef:=(iOp aO (aS bj (aa (iV 1) (aa (iC (.int 10)) ak))) (iOp dIx (iV 2) (iC (.int 1))))
def mD:Ef:=(aS gn (aa (iV 1) (aa (iOp dIx (iV 2) (iC (.int 0))) ak)))
def kG:Ef:=(iOp dIx (aM (cQ (aa (iC (.int 1)) (aa (iC (.int 1)) (aa (iC (.int 1)) (aa (iOp oW (iC (.int 10)) (iC (.int 15))) ak)))))) (aS bj (aa (iV 1) (aa (iC (.int 4)) ak))))
def mS:Sf:=(aq (aD (.nm 2) (aS dP (aa (iV 0) (aa (iV 1) ak)))) (aq (aD (.nm 3) (aM (iLc 1 [2] (eJ (aa (iC (.int 3)) ak)) (.nm 0) bG kG))) (aq (aD (.nm 4) (iCB kO (aa (aM (iLc 1 [2,3] (eJ (aa (aS bj (aa (iV 2) (aa (iC (.int 5)) ak))) ak)) (.nm 0) bG mD)) ak))) (aq (aD (.nm 5) (iCB kO (aa (aM (iLc 1 [2,3] (aL (iV 4)) (.nm 0) bG mP)) ak))) (cy (n6 (fE gh (aS gm (aa (iV 4) (aa (iV 5) (aa (aS gn (aa (iV 2) (aa (iOp dIx (iV 3) (iC (.int 2))) ak))) ak)))))) (bY (iC (.bl false))) bz)))))
def qY:Sf:=(aq (gI (eJ (aa (iOp bW (iC (.int 1)) (iCB vZ (aa (iC (.int 8)) (aa (iCB cv (aa (iV 0) ak)) ak)))) ak)) (.nm 1) mS) (bY (iC (.bl true))))
def oY:Fn:=hJ 6 1 qY
end Own
section
set_option maxHeartbeats 2000000
namespace Own
open PySem L2
def top (i:Nat):Stmt:=PySem.Challenge.pw_signpoly_k24_two_amounts.main.body.getD i (.Pass ⟨0,0,0,0⟩)
def we (s:Stmt):List Stmt:=match s with
 |.ClassDef _ _ _ b _ _ _ _ _ _ _=>b
 |_=>[]
abbrev bC:Stmt:=top 1
abbrev dk:Stmt:=top 2
abbrev bN:Stmt:=(we (top 4)).getD 0 (.Pass ⟨0,0,0,0⟩)
abbrev bX:Stmt:=top 5
abbrev dU:Stmt:=top 6
abbrev bA:Stmt:=top 7
abbrev cL:Stmt:=top 8
abbrev cn:Stmt:=top 9
abbrev cH:Stmt:=top 10
abbrev fN:Stmt:=top 11
abbrev cF:Stmt:=top 12
abbrev fA:Stmt:=top 13
abbrev cu:Stmt:=top 14
abbrev cE:Stmt:=top 15
abbrev bF:Stmt:=top 16
abbrev dS:Stmt:=top 17
abbrev cY:Stmt:=top 19
abbrev cI:Stmt:=top 20
abbrev db:Stmt:=top 21
abbrev bR:Stmt:=top 22
abbrev bH:Stmt:=top 23
abbrev br:Stmt:=top 24
abbrev bi:Stmt:=top 25
abbrev cp:Stmt:=top 26
abbrev iG:Stmt:=top 27
theorem bx:aK ["numbers","found","number","rest","over"] ["numbers"] (ac bC):=⟨rfl,rfl,rfl,by decide +kernel,rfl,by decide +kernel,by decide +kernel⟩
theorem lp:aK ["numbers","shared"] ["numbers"] (ac dk):=⟨rfl,rfl,rfl,by decide +kernel,rfl,by decide +kernel,by decide +kernel⟩
theorem lQ:aK ["self","rows","bounds","gains"] ["self","rows","bounds","gains"] (ac bN):=⟨rfl,rfl,rfl,by decide +kernel,rfl,by decide +kernel,by decide +kernel⟩
theorem cc:aK ["places","tops","bottoms","least","place","mine","best"] ["places","tops","bottoms"] (ac bX):=⟨rfl,rfl,rfl,by decide +kernel,rfl,by decide +kernel,by decide +kernel⟩
theorem qh:aK ["table"] ["table"] (ac dU):=⟨rfl,rfl,rfl,by decide +kernel,rfl,by decide +kernel,by decide +kernel⟩
theorem iF:aK ["table","name","column"] ["table","name"] (ac bA):=⟨rfl,rfl,rfl,by decide +kernel,rfl,by decide +kernel,by decide +kernel⟩
theorem ft:aK ["table","column","entries","places","name"] ["table","column"] (ac cL):=⟨rfl,rfl,rfl,by decide +kernel,rfl,by decide +kernel,by decide +kernel⟩
theorem cA:aK ["table","one","other","mine","best","name","numbers","more"] ["table","one","other"] (ac cn):=⟨rfl,rfl,rfl,by decide +kernel,rfl,by decide +kernel,by decide +kernel⟩
theorem dA:aK ["table","best","column","step"] ["table"] (ac cH):=⟨rfl,rfl,rfl,by decide +kernel,rfl,by decide +kernel,by decide +kernel⟩
theorem i5:aK ["line","turning","column","part","pivot","entry","told"] ["line","turning","column","part"] (ac fN):=⟨rfl,rfl,rfl,by decide +kernel,rfl,by decide +kernel,by decide +kernel⟩
theorem dh:aK ["table","place","column","turning","part","lines","name"] ["table","place","column"] (ac cF):=⟨rfl,rfl,rfl,by decide +kernel,rfl,by decide +kernel,by decide +kernel⟩
theorem iw:aK ["table","column","way","place","name"] ["table","column"] (ac fA):=⟨rfl,rfl,rfl,by decide +kernel,rfl,by decide +kernel,by decide +kernel⟩
theorem d9:aK ["table","amounts","place","name"] ["table"] (ac cu):=⟨rfl,rfl,rfl,by decide +kernel,rfl,by decide +kernel,by decide +kernel⟩
theorem eW:aK ["table","prices","column","name"] ["table"] (ac cE):=⟨rfl,rfl,rfl,by decide +kernel,rfl,by decide +kernel,by decide +kernel⟩
theorem d7:aK ["table","amounts","prices","shared"] ["table"] (ac bF):=⟨rfl,rfl,rfl,by decide +kernel,rfl,by decide +kernel,by decide +kernel⟩
theorem gw:aK ["rows","bounds","gains","table","step"] ["rows","bounds","gains"] (ac dS):=⟨rfl,rfl,rfl,by decide +kernel,rfl,by decide +kernel,by decide +kernel⟩
theorem gK:aK ["_law_script","_law_k","_law_cell","_law_great"] ["_law_script","_law_k"] (ac cY):=⟨rfl,rfl,rfl,by decide +kernel,rfl,by decide +kernel,by decide +kernel⟩
theorem i4:aK ["_law_pot_here","_law_many","_law_digit"] ["_law_pot_here","_law_many"] (ac cI):=⟨rfl,rfl,rfl,by decide +kernel,rfl,by decide +kernel,by decide +kernel⟩
theorem oO:aK ["_law_pot_here","_law_far"] ["_law_pot_here","_law_far"] (ac db):=⟨rfl,rfl,rfl,by decide +kernel,rfl,by decide +kernel,by decide +kernel⟩
theorem lM:aK ["_law_rows","_law_bounds"] ["_law_rows","_law_bounds"] (ac bR):=⟨rfl,rfl,rfl,by decide +kernel,rfl,by decide +kernel,by decide +kernel⟩
theorem aR:aK ["_law_lines_here","_law_found","_law_k","_law_a","_law_b","_law_c","_law_d","_law_e","_law_g","_law_part"] ["_law_lines_here"] (ac bH):=⟨rfl,rfl,rfl,by decide +kernel,rfl,by decide +kernel,by decide +kernel⟩
theorem bv:aK ["_law_lines_here","_law_gains","_law_best","_law_x","_law_y","_law_part","_law_here"] ["_law_lines_here","_law_gains"] (ac br):=⟨rfl,rfl,rfl,by decide +kernel,rfl,by decide +kernel,by decide +kernel⟩
theorem aX:aK ["_law_lines_here","_law_gains","_law_ways","_law_a","_law_b","_law_c","_law_x","_law_y"] ["_law_lines_here","_law_gains"] (ac bi):=⟨rfl,rfl,rfl,by decide +kernel,rfl,by decide +kernel,by decide +kernel⟩
theorem cB:aK ["_law_rows","_law_bounds","_law_gains","_law_lines_here","_law_found","_law_top","_law_bottom","_law_here"] ["_law_rows","_law_bounds","_law_gains"] (ac cp):=⟨rfl,rfl,rfl,by decide +kernel,rfl,by decide +kernel,by decide +kernel⟩
theorem jq:aK ["_law_script","_law_k","_law_pot_here","_law_far","_law_rows","_law_bounds"] ["_law_script"] (ac iG):=⟨rfl,rfl,rfl,by decide +kernel,rfl,by decide +kernel,by decide +kernel⟩
set_option genSizeOf false in
set_option genInjectivity false in
structure Adr where
 f0:Addr
 g0:qa2
 f1:Addr
 g1:qa2
 f2:Addr
 g2:qa2
 f3:Addr
 g3:qa2
 f4:Addr
 g4:qa2
 f5:Addr
 g5:qa2
 f6:Addr
 g6:qa2
 f7:Addr
 g7:qa2
 f8:Addr
 g8:qa2
 f9:Addr
 g9:qa2
 f10:Addr
 g10:qa2
 f11:Addr
 g11:qa2
 f12:Addr
 g12:qa2
 f13:Addr
 g13:qa2
 f14:Addr
 g14:qa2
 f15:Addr
 g15:qa2
 f16:Addr
 g16:qa2
 f17:Addr
 g17:qa2
 f18:Addr
 g18:qa2
 f19:Addr
 g19:qa2
 f20:Addr
 g20:qa2
 f21:Addr
 g21:qa2
 f22:Addr
 g22:qa2
 f23:Addr
 g23:qa2
 f24:Addr
 g24:qa2
 ca_Table:Addr
structure Txt (K:qac) (mg:Str->Option Value) (t:Adr):Prop where
 cm_Table:mg "Table" = some (.ref t.ca_Table)
 F0:Fun K "greatest_part" "greatest_part" bC t.f0 t.g0
 m0:mg "greatest_part" = some (.ref t.f0)
 b0:bB K t.g0 ["numbers"] []
 F1:Fun K "lowered" "lowered" dk t.f1 t.g1
 m1:mg "lowered" = some (.ref t.f1)
 b1:bB K t.g1 ["numbers"] []
 F2:Fun K "__init__" "Table.__init__" bN t.f2 t.g2
 b2:bB K t.g2 ["self","rows","bounds","gains"] []
 mk_Table:Mk K t.ca_Table t.f2
 cl_Table:Cls K t.ca_Table
 na_Table:∀ p∈cM,cR K t.ca_Table p.1
 F3:Fun K "least_ratio" "least_ratio" bX t.f3 t.g3
 m3:mg "least_ratio" = some (.ref t.f3)
 b3:bB K t.g3 ["places","tops","bottoms"] []
 F4:Fun K "weighed" "weighed" dU t.f4 t.g4
 m4:mg "weighed" = some (.ref t.f4)
 b4:bB K t.g4 ["table"] []
 F5:Fun K "numbers_by" "numbers_by" bA t.f5 t.g5
 m5:mg "numbers_by" = some (.ref t.f5)
 b5:bB K t.g5 ["table","name"] []
 F6:Fun K "leaving" "leaving" cL t.f6 t.g6
 m6:mg "leaving" = some (.ref t.f6)
 b6:bB K t.g6 ["table","column"] []
 F7:Fun K "gains_more" "gains_more" cn t.f7 t.g7
 m7:mg "gains_more" = some (.ref t.f7)
 b7:bB K t.g7 ["table","one","other"] []
 F8:Fun K "best_step" "best_step" cH t.f8 t.g8
 m8:mg "best_step" = some (.ref t.f8)
 b8:bB K t.g8 ["table"] []
 F9:Fun K "swept" "swept" fN t.f9 t.g9
 m9:mg "swept" = some (.ref t.f9)
 b9:bB K t.g9 ["line","turning","column","part"] []
 F10:Fun K "exchange" "exchange" cF t.f10 t.g10
 m10:mg "exchange" = some (.ref t.f10)
 b10:bB K t.g10 ["table","place","column"] []
 F11:Fun K "way_of" "way_of" fA t.f11 t.g11
 m11:mg "way_of" = some (.ref t.f11)
 b11:bB K t.g11 ["table","column"] []
 F12:Fun K "amounts_of" "amounts_of" cu t.f12 t.g12
 m12:mg "amounts_of" = some (.ref t.f12)
 b12:bB K t.g12 ["table"] []
 F13:Fun K "prices_of" "prices_of" cE t.f13 t.g13
 m13:mg "prices_of" = some (.ref t.f13)
 b13:bB K t.g13 ["table"] []
 F14:Fun K "found_most" "found_most" bF t.f14 t.g14
 m14:mg "found_most" = some (.ref t.f14)
 b14:bB K t.g14 ["table"] []
 F15:Fun K "most_of" "most_of" dS t.f15 t.g15
 m15:mg "most_of" = some (.ref t.f15)
 b15:bB K t.g15 ["rows","bounds","gains"] []
 F16:Fun K "_law_pot" "_law_pot" cY t.f16 t.g16
 m16:mg "_law_pot" = some (.ref t.f16)
 b16:bB K t.g16 ["_law_script","_law_k"] []
 F17:Fun K "_law_pick" "_law_pick" cI t.f17 t.g17
 m17:mg "_law_pick" = some (.ref t.f17)
 b17:bB K t.g17 ["_law_pot_here","_law_many"] []
 F18:Fun K "_law_two" "_law_two" db t.f18 t.g18
 m18:mg "_law_two" = some (.ref t.f18)
 b18:bB K t.g18 ["_law_pot_here","_law_far"] []
 F19:Fun K "_law_lines" "_law_lines" bR t.f19 t.g19
 m19:mg "_law_lines" = some (.ref t.f19)
 b19:bB K t.g19 ["_law_rows","_law_bounds"] []
 F20:Fun K "_law_corners" "_law_corners" bH t.f20 t.g20
 m20:mg "_law_corners" = some (.ref t.f20)
 b20:bB K t.g20 ["_law_lines_here"] []
 F21:Fun K "_law_greatest" "_law_greatest" br t.f21 t.g21
 m21:mg "_law_greatest" = some (.ref t.f21)
 b21:bB K t.g21 ["_law_lines_here","_law_gains"] []
 F22:Fun K "_law_is_beyond" "_law_is_beyond" bi t.f22 t.g22
 m22:mg "_law_is_beyond" = some (.ref t.f22)
 b22:bB K t.g22 ["_law_lines_here","_law_gains"] []
 F23:Fun K "_law_right" "_law_right" cp t.f23 t.g23
 m23:mg "_law_right" = some (.ref t.f23)
 b23:bB K t.g23 ["_law_rows","_law_bounds","_law_gains"] []
 F24:Fun K "law" "law" iG t.f24 t.g24
 m24:mg "law" = some (.ref t.f24)
 b24:bB K t.g24 ["_law_script"] []
 z_abs:mg "abs" = none
 z_all:mg "all" = none
 z_enumerate:mg "enumerate" = none
 z_int:mg "int" = none
 z_len:mg "len" = none
 z_list:mg "list" = none
 z_min:mg "min" = none
 z_range:mg "range" = none
 z_tuple:mg "tuple" = none
 z_zip:mg "zip" = none
abbrev Bdy (P:qa0) (w:World) (K:qac) (mg:Str->Option Value) (base:Heap) (k:Nat) (N:List Str) (x:Str) (sd:Stmt) (f:Addr) (b:Sf):Prop:=∀ (cdv:Value) (A:qbb) (outer:List Env) (s:qak) (H:Hp) (E:XK),cN k (A.deeper (qht x (ac sd) s.heap.objs.size f cdv))->ISs K (ma CX0 P w K mg base N x (ac sd) f cdv A outer s H E).nox (aF sd) b
section
variable {P:qa0}{w:World}{K:qac}{mg:Str->Option Value}{base:Heap}{t:Adr}
theorem iT (T:Txt K mg t):Bdy P w K mg base 0 ["numbers","found","number","rest","over"] "greatest_part" bC t.f0 cU:=
 λ_ _ _ _ _ _ hr=>(ae (aC (i:=1) bx.nd rfl (.inl rfl) ag rfl (.inl rfl)) (ae (dH (cb (iv 0) rfl) (bJ (aw (i:=2) bx.nd rfl (.inl rfl))) (ae (aC (i:=3) bx.nd rfl (.inl rfl) (eE qg rfl T.z_abs qc8 (ab (iv 2) aj rfl) (by decide) (by decide) rfl rfl) rfl (.inl rfl)) (ao (oF (2^8000) (bu (uj hr rfl) (iv 3) ag (bb _)) (ae (aC (i:=4) bx.nd rfl (.inl rfl) (av gU (iv 1) (iv 3)) rfl (.inl rfl)) (ae (aC (i:=1) bx.nd rfl (.inl rfl) (iv 3) rfl (.inl rfl)) (ao (aC (i:=3) bx.nd rfl (.inl rfl) (iv 4) rfl (.inl rfl))))) qa6))) qa6 rfl (λ_=>rfl)) (ao (aU (iv 1)))))
theorem fX (T:Txt K mg t):bO P w K mg base CX0 1 t.f0 t.g0 ["numbers"] (spI K cx):=
 iz (N:=["numbers","found","number","rest","over"]) (b:=cU) T.F0 bx (iT T)
theorem mz (T:Txt K mg t):Bdy P w K mg base 1 ["numbers","shared"] "lowered" dk t.f1 iy:=
 λ_ _ _ _ _ _ hr=>(ae (aC (i:=1) lp.nd rfl (.inr rfl) (aP (fX T) (by decide) hr rfl T.m0 T.F0.kp T.b0 (ab (iv 0) aj rfl) (by decide) rfl rfl) rfl (.inl rfl)) (ae (cw (bu (qW hr rfl) (iv 1) ag (bb _)) (ao (aU (lB (jw rfl) rfl T.z_tuple qbF (ab (iv 0) aj rfl) (by decide) (by decide) rfl rfl))) bg) (ao (aU (lB (jw rfl) rfl T.z_tuple qbF (ab (aT (fK (dO (ac dk).names ["numbers","shared"] ["number","shared"] 1 [1] rfl rfl rfl (by decide +kernel)) rfl (by decide) (cb (iv 0) rfl) (λ_ _ _ _ _=>(bJ (aw (i:=0) (show qba (α:=Str) ["number","shared"] by decide +kernel) rfl (.inl rfl)))) (λ_ _ _ _ _=>bP) (λ_ _ _ _ _=>(av kX (iv 0) (iv 1))) (λ_=>rfl))) aj rfl) (by decide) (by decide) rfl rfl)))))
theorem pJ (T:Txt K mg t):bO P w K mg base CX0 2 t.f1 t.g1 ["numbers"] (spI K ge):=
 iz (N:=["numbers","shared"]) (b:=iy) T.F1 lp (mz T)
theorem lU (T:Txt K mg t):bO P w K mg base CX0 1 t.f2 t.g2 ["self","rows","bounds","gains"] (wd K 4 4 cM):=
 yS (N:=["self","rows","bounds","gains"]) (ps:=["self","rows","bounds","gains"]) (k:=0) (g:=cM) T.F2 lQ (by decide) (λ_ _ _ _ _ _ hr=>(gT rfl (by first|exact Or.inl rfl|exact Or.inr (Or.inl rfl)|exact Or.inr (Or.inr rfl)) (eE (fB rfl) rfl T.z_len qbB (ab (iv 3) aj rfl) (by decide) (by decide) rfl rfl) (gT rfl (by first|exact Or.inl rfl|exact Or.inr (Or.inl rfl)|exact Or.inr (Or.inr rfl)) (aT (fK (dO (ac bN).names ["self","rows","bounds","gains"] ["row","bound"] 2 [] rfl rfl rfl (by decide +kernel)) rfl (by decide) (ql rfl T.z_zip (ab (iv 1) (ab (iv 2) aj rfl) rfl) rfl rfl rfl) (λ_ _ _ _ _=>(dc (az (aw (i:=0) (show qba (α:=Str) ["row","bound"] by decide +kernel) rfl (.inl rfl)) (az (aw (i:=1) (show qba (α:=Str) ["row","bound"] by decide +kernel) rfl (.inl rfl)) cm)) rfl rfl rfl rfl rfl)) (λ_ _ _ _ _=>bP) (λ_ _ _ _ _=>(av (bV rfl) (aT (yu (qO rfl) rfl T.z_list qcm (ab (iv 0) aj rfl) (by decide) (by decide) rfl rfl)) (aT (de (ab (iv 1) aj rfl))))) (λ_=>rfl))) (gT rfl (by first|exact Or.inl rfl|exact Or.inr (Or.inl rfl)|exact Or.inr (Or.inr rfl)) (av (bV rfl) (aT (fK (dO (ac bN).names ["self","rows","bounds","gains"] ["gain"] 1 [] rfl rfl rfl (by decide +kernel)) rfl (by decide) (cb (iv 3) rfl) (λ_ _ _ _ _=>(bJ (aw (i:=0) (show qba (α:=Str) ["gain"] by decide +kernel) rfl (.inl rfl)))) (λ_ _ _ _ _=>bP) (λ_ _ _ _ _=>(iP (iv 0))) (λ_=>rfl))) (aT (de (ab ag aj rfl)))) (gT rfl (by first|exact Or.inl rfl|exact Or.inr (Or.inl rfl)|exact Or.inr (Or.inr rfl)) ag (gT rfl (by first|exact Or.inl rfl|exact Or.inr (Or.inl rfl)|exact Or.inr (Or.inr rfl)) (gx (xu rfl T.z_list rfl T.z_range (ab (eE (fB rfl) rfl T.z_len qbB (ab (iv 3) aj rfl) (by decide) (by decide) rfl rfl) aj rfl) rfl rfl)) (u4 rfl (by first|exact Or.inl rfl|exact Or.inr (Or.inl rfl)|exact Or.inr (Or.inr rfl)) (gx (tB rfl T.z_list rfl T.z_range (ab (eE (fB rfl) rfl T.z_len qbB (ab (iv 3) aj rfl) (by decide) (by decide) rfl rfl) (ab (av (bV rfl) (eE (fB rfl) rfl T.z_len qbB (ab (iv 3) aj rfl) (by decide) (by decide) rfl rfl) (eE (fB rfl) rfl T.z_len qbB (ab (iv 1) aj rfl) (by decide) (by decide) rfl rfl)) aj rfl) rfl) rfl rfl rfl)) rfl rfl) (by intro z;cases z) rfl rfl) (by intro z;cases z) rfl rfl) (by intro z;cases z) rfl rfl) (by intro z;cases z) rfl rfl) (by intro z;cases z) rfl rfl))
theorem jx (T:Txt K mg t):Bdy P w K mg base 0 ["places","tops","bottoms","least","place","mine","best"] "least_ratio" bX t.f3 eh:=
 λ_ _ _ _ _ _ hr=>(ae (aC (i:=3) cc.nd rfl (.inl rfl) (gx (de aj)) rfl (.inl rfl)) (ae (dH (cb (iv 0) rfl) (bJ (aw (i:=4) cc.nd rfl (.inl rfl))) (ae (cw (iW (iv 3) rfl rfl) (ae (aC (i:=5) cc.nd rfl (.inl rfl) (av (aG rfl) (ay (iv 1) (iv 4) rfl rfl) (ay (iv 2) (ay (iv 3) ag rfl rfl) rfl rfl)) rfl (.inl rfl)) (ae (aC (i:=6) cc.nd rfl (.inl rfl) (av (aG rfl) (ay (iv 1) (ay (iv 3) ag rfl rfl) rfl rfl) (ay (iv 2) (iv 4) rfl rfl)) rfl (.inl rfl)) (ae (cw (bu lq (iv 5) (iv 6) (bb _)) (ao rA) bg) (ao (cw (bu kU (iv 5) (iv 6) (bb _)) (ao (aC (i:=3) cc.nd rfl (.inl rfl) (gx (de aj)) rfl (.inl rfl))) bg))))) bg) (ao (km (jy (iv 3) (ab (iv 4) aj rfl) rfl rfl (by decide) rfl rfl) rfl))) qa6 rfl (λ_=>rfl)) (ao (aU (iv 3)))))
theorem lI (T:Txt K mg t):bO P w K mg base CX0 1 t.f3 t.g3 ["places","tops","bottoms"] (spI K fU):=
 oN (N:=["places","tops","bottoms","least","place","mine","best"]) (b:=eh) T.F3 cc (jx T)
theorem mY (T:Txt K mg t):Bdy P w K mg base 0 ["table"] "weighed" dU t.f4 io:=
 λ_ _ _ _ _ _ hr=>(ao (aU (av (bV rfl) (aT (de (ab gJ aj rfl))) (aT (tB rfl T.z_list rfl T.z_range (ab (aA (iv 0) rfl rfl) (ab (av (bV rfl) (aA (iv 0) rfl rfl) (eE (fB rfl) rfl T.z_len qbB (ab (aA (iv 0) rfl rfl) aj rfl) (by decide) (by decide) rfl rfl)) aj rfl) rfl) rfl rfl rfl)))))
theorem kN (T:Txt K mg t):bO P w K mg base CX0 1 t.f4 t.g4 ["table"] (spI K fj):=
 iz (N:=["table"]) (b:=io) T.F4 qh (mY T)
theorem j8 (T:Txt K mg t):Bdy P w K mg base 0 ["table","name","column"] "numbers_by" bA t.f5 dq:=
 λ_ _ _ _ _ _ hr=>(ae (cw (bu nC (iv 1) gJ (bb _)) (ao (aU (aT (fK (dO (ac bA).names ["table","name","column"] ["line"] 1 [] rfl rfl rfl (by decide +kernel)) rfl (by decide) (cb (aA (iv 0) rfl rfl) rfl) (λ_ _ _ _ _=>(bJ (aw (i:=0) (show qba (α:=Str) ["line"] by decide +kernel) rfl (.inl rfl)))) (λ_ _ _ _ _=>bP) (λ_ _ _ _ _=>(ay (iv 0) (iP ag) rfl rfl)) (λ_=>rfl))))) bg) (ae (cw (bu (yt rfl) (iv 1) (aA (iv 0) rfl rfl) rfl) (ae (aC (i:=2) iF.nd rfl (.inr rfl) (wV (aA (iv 0) rfl rfl) (ab (iv 1) aj rfl) rfl rfl rfl rfl) rfl (.inl rfl)) (ao (aU (aT (fK (dO (ac bA).names ["table","name","column"] ["line","column"] 1 [2] rfl rfl rfl (by decide +kernel)) rfl (by decide) (cb (aA (iv 0) rfl rfl) rfl) (λ_ _ _ _ _=>(bJ (aw (i:=0) (show qba (α:=Str) ["line","column"] by decide +kernel) rfl (.inl rfl)))) (λ_ _ _ _ _=>bP) (λ_ _ _ _ _=>(ay (iv 0) (iv 1) rfl rfl)) (λ_=>rfl)))))) bg) (ao (aU (aT (fK (dO (ac bA).names ["table","name","column"] ["kept","name","table"] 1 [1,0] rfl rfl rfl (by decide +kernel)) rfl (by decide) (cb (aA (iv 0) rfl rfl) rfl) (λ_ _ _ _ _=>(bJ (aw (i:=0) (show qba (α:=Str) ["kept","name","table"] by decide +kernel) rfl (.inl rfl)))) (λ_ _ _ _ _=>bP) (λ_ _ _ _ _=>(uz (bu (qW hr rfl) (iv 0) (iv 1) (bb _)) (aA (iv 2) rfl rfl) ag)) (λ_=>rfl)))))))
theorem iI (T:Txt K mg t):bO P w K mg base CX0 1 t.f5 t.g5 ["table","name"] (spI K dE):=
 iz (N:=["table","name","column"]) (b:=dq) T.F5 iF (j8 T)
theorem mI (T:Txt K mg t):Bdy P w K mg base 1 ["table","column","entries","places","name"] "leaving" cL t.f6 iq:=
 λ_ _ _ _ _ _ hr=>(ae (And.left (sZ (i0:=2) ft.nd rfl (.inl rfl) (dO (ac cL).names ["table","column","entries","places","name"] ["line","column"] 1 [1] rfl rfl rfl (by decide +kernel)) rfl (by decide) (cb (aA (iv 0) rfl rfl) rfl) (λ_ _ _ _ _=>(bJ (aw (i:=0) (show qba (α:=Str) ["line","column"] by decide +kernel) rfl (.inl rfl)))) (λ_ _ _ _ _=>bP) (λ_ _ _ _ _=>(ay (iv 0) (iv 1) rfl rfl)) rfl (.inl rfl) (λ_=>rfl))) (ae (And.left (sZ (i0:=3) ft.nd rfl (.inl rfl) (dO (ac cL).names ["table","column","entries","places","name"] ["place","entry"] 2 [] rfl rfl rfl (by decide +kernel)) rfl (by decide) (jd rfl T.z_enumerate (ab (iv 2) aj rfl) rfl rfl) (λ_ _ _ _ _=>(dc (az (aw (i:=0) (show qba (α:=Str) ["place","entry"] by decide +kernel) rfl (.inl rfl)) (az (aw (i:=1) (show qba (α:=Str) ["place","entry"] by decide +kernel) rfl (.inl rfl)) cm)) rfl rfl rfl rfl rfl)) (λ_ _ _ _ _=>(vY (bu lq (iv 1) ag (bb _)))) (λ_ _ _ _ _=>(iv 0)) rfl (.inl rfl) (λ_=>rfl))) (ae (dH (cb (aP (kN T) (by decide) hr rfl T.m4 T.F4.kp T.b4 (ab (iv 0) aj rfl) (by decide) rfl rfl) rfl) (bJ (aw (i:=4) ft.nd rfl (.inl rfl))) (ae (cw (bu kU (eE (fB rfl) rfl T.z_len qbB (ab (iv 3) aj rfl) (by decide) (by decide) rfl rfl) ag (bb _)) (ao ua) bg) (ao (aC (i:=3) ft.nd rfl (.inl rfl) (aP (lI T) (by decide) hr rfl T.m3 T.F3.kp T.b3 (ab (iv 3) (ab (aP (iI T) (by decide) hr rfl T.m5 T.F5.kp T.b5 (ab (iv 0) (ab (iv 4) aj rfl) rfl) (by decide) rfl rfl) (ab (iv 2) aj rfl) rfl) rfl) (by decide) rfl rfl) rfl (.inl rfl)))) qa6 rfl (λ_=>rfl)) (ao (aU (uz (iW (iv 3) rfl rfl) (ay (iv 3) ag rfl rfl) gJ))))))
theorem pV (T:Txt K mg t):bO P w K mg base CX0 2 t.f6 t.g6 ["table","column"] (spI K ix):=
 iz (N:=["table","column","entries","places","name"]) (b:=iq) T.F6 ft (mI T)
theorem j7 (T:Txt K mg t):Bdy P w K mg base 1 ["table","one","other","mine","best","name","numbers","more"] "gains_more" cn t.f7 dF:=
 λ_ _ _ _ _ _ hr=>(ae (aC (i:=3) cA.nd rfl (.inl rfl) (av (aG rfl) (ay (aA (iv 0) rfl rfl) (ay (iv 1) ag rfl rfl) rfl rfl) (ay (ay (aA (iv 0) rfl rfl) (ay (iv 2) ag rfl rfl) rfl rfl) (ay (iv 2) ag rfl rfl) rfl rfl)) rfl (.inl rfl)) (ae (aC (i:=4) cA.nd rfl (.inl rfl) (av (aG rfl) (ay (aA (iv 0) rfl rfl) (ay (iv 2) ag rfl rfl) rfl rfl) (ay (ay (aA (iv 0) rfl rfl) (ay (iv 1) ag rfl rfl) rfl rfl) (ay (iv 1) ag rfl rfl) rfl rfl)) rfl (.inl rfl)) (ae (dH (cb (aP (kN T) (by decide) hr rfl T.m4 T.F4.kp T.b4 (ab (iv 0) aj rfl) (by decide) rfl rfl) rfl) (bJ (aw (i:=5) cA.nd rfl (.inl rfl))) (ae (aC (i:=6) cA.nd rfl (.inl rfl) (aP (iI T) (by decide) hr rfl T.m5 T.F5.kp T.b5 (ab (iv 0) (ab (iv 5) aj rfl) rfl) (by decide) rfl rfl) rfl (.inl rfl)) (ae (aC (i:=7) cA.nd rfl (.inl rfl) (av dX (av (aG rfl) (iv 4) (ay (iv 6) (ay (iv 2) ag rfl rfl) rfl rfl)) (av (aG rfl) (iv 3) (ay (iv 6) (ay (iv 1) ag rfl rfl) rfl rfl))) rfl (.inl rfl)) (ao (cw (bu (uj hr rfl) (iv 7) ag (bb _)) (ao (aU (ju lq (iv 7) ag (bb _)))) bg)))) qa6 rfl (λ_=>rfl)) (ao (aU mf)))))
theorem me (T:Txt K mg t):bO P w K mg base CX0 2 t.f7 t.g7 ["table","one","other"] (spI K cK):=
 iz (N:=["table","one","other","mine","best","name","numbers","more"]) (b:=dF) T.F7 cA (j7 T)
theorem lx (T:Txt K mg t):Bdy P w K mg base 2 ["table","best","column","step"] "best_step" cH t.f8 eI:=
 λ_ _ _ _ _ _ hr=>(ae (aC (i:=1) dA.nd rfl (.inl rfl) gJ rfl (.inl rfl)) (ae (dH (kq rfl T.z_range (ab (eE (fB rfl) rfl T.z_len qbB (ab (aA (iv 0) rfl rfl) aj rfl) (by decide) (by decide) rfl rfl) aj rfl) rfl) (bJ (aw (i:=2) dA.nd rfl (.inl rfl))) (ae (cw (bu uS (ay (aA (iv 0) rfl rfl) (iv 2) rfl rfl) ag (bb _)) (ao rA) bg) (ae (aC (i:=3) dA.nd rfl (.inl rfl) (dQ (ab (iv 2) (ab (aP (pV T) (by decide) hr rfl T.m6 T.F6.kp T.b6 (ab (iv 0) (ab (iv 2) aj rfl) rfl) (by decide) rfl rfl) aj rfl) rfl)) rfl (.inl rfl)) (ae (cw (bu nC (ay (iv 3) ag rfl rfl) gJ (bb _)) (ao (aU (iv 3))) bg) (ao (cw (qy (x3 (bu nC (iv 1) gJ (bb _)) (vS (iW (aP (me T) (by decide) hr rfl T.m7 T.F7.kp T.b7 (ab (iv 0) (ab (iv 3) (ab (iv 1) aj rfl) rfl) rfl) (by decide) rfl rfl) rfl rfl)))) (ao (aC (i:=1) dA.nd rfl (.inl rfl) (iv 3) rfl (.inl rfl))) bg))))) qa6 rfl (λ_=>rfl)) (ao (aU (iv 1)))))
theorem i7 (T:Txt K mg t):bO P w K mg base CX0 3 t.f8 t.g8 ["table"] (spI K ck):=
 iz (N:=["table","best","column","step"]) (b:=eI) T.F8 dA (lx T)
theorem pL (T:Txt K mg t):Bdy P w K mg base 0 ["line","turning","column","part","pivot","entry","told"] "swept" fN t.f9 ku:=
 λ_ _ _ _ _ _ hr=>(ae (aC (i:=4) i5.nd rfl (.inr rfl) (ay (iv 1) (iv 2) rfl rfl) rfl (.inl rfl)) (ae (aC (i:=5) i5.nd rfl (.inr rfl) (ay (iv 0) (iv 2) rfl rfl) rfl (.inl rfl)) (ae (And.right (sZ (i0:=6) i5.nd rfl (.inl rfl) (dO (ac fN).names ["line","turning","column","part","pivot","entry","told"] ["number","other","pivot","entry","part"] 2 [4,5,3] rfl rfl rfl (by decide +kernel)) rfl (by decide) (ql rfl T.z_zip (ab (iv 0) (ab (iv 1) aj rfl) rfl) rfl rfl rfl) (λ_ _ _ _ _=>(dc (az (aw (i:=0) (show qba (α:=Str) ["number","other","pivot","entry","part"] by decide +kernel) rfl (.inl rfl)) (az (aw (i:=1) (show qba (α:=Str) ["number","other","pivot","entry","part"] by decide +kernel) rfl (.inl rfl)) cm)) rfl rfl rfl rfl rfl)) (λ_ _ _ _ _=>bP) (λ_ _ _ _ _=>(av kX (av dX (av (aG rfl) (iv 2) (iv 0)) (av (aG rfl) (iv 3) (iv 1))) (iv 4))) rfl (.inl rfl) (λ_=>rfl))) (ae (cT (iv 6) (iv 2) (iP (iv 5)) rfl rfl rfl) (ao (aU (iv 6)))))))
theorem oP (T:Txt K mg t):bO P w K mg base CX0 1 t.f9 t.g9 ["line","turning","column","part"] (spI K im):=
 oN (N:=["line","turning","column","part","pivot","entry","told"]) (b:=ku) T.F9 i5 (pL T)
theorem lZ (T:Txt K mg t):Bdy P w K mg base 1 ["table","place","column","turning","part","lines","name"] "exchange" cF t.f10 fu:=
 λ_ _ _ _ _ _ hr=>(ae (aC (i:=3) dh.nd rfl (.inr rfl) (ay (aA (iv 0) rfl rfl) (iv 1) rfl rfl) rfl (.inl rfl)) (ae (aC (i:=4) dh.nd rfl (.inr rfl) (aA (iv 0) rfl rfl) rfl (.inl rfl)) (sw (il:=5) (ip:=1) (ic:=2) (it:=3) (ia:=4) dh.nd rfl rfl rfl rfl rfl (.inl rfl) (by first|exact Or.inl rfl|exact Or.inr (Or.inl rfl)|exact Or.inr (Or.inr rfl)) (by first|exact Or.inl rfl|exact Or.inr (Or.inl rfl)|exact Or.inr (Or.inr rfl)) (by first|exact Or.inl rfl|exact Or.inr (Or.inl rfl)|exact Or.inr (Or.inr rfl)) (by first|exact Or.inl rfl|exact Or.inr (Or.inl rfl)|exact Or.inr (Or.inr rfl)) (by first|exact Or.inl rfl|exact Or.inr (Or.inl rfl)|exact Or.inr (Or.inr rfl)) (by decide) (by decide) (by decide) (by decide) (by decide) (by decide) (by decide) (by decide) (by decide) (by decide) (by decide) (by decide) (by decide) (by decide) (xQ (i0:=5) dh.nd rfl (.inl rfl) (dO (ac cF).names ["table","place","column","turning","part","lines","name"] ["line","turning","column","part"] 1 [3,2,4] rfl rfl rfl (by decide +kernel)) rfl (by decide) (cb (aA (iv 0) rfl rfl) rfl) (λ_ _ _ _ _=>(bJ (aw (i:=0) (show qba (α:=Str) ["line","turning","column","part"] by decide +kernel) rfl (.inl rfl)))) (λ_ _ _ _ _=>bP) (λ_ _ _ _ _=>(aP (oP T) (by decide) hr rfl T.m9 T.F9.kp T.b9 (ab (iv 0) (ab (iv 1) (ab (iv 2) (ab (iv 3) aj rfl) rfl) rfl) rfl) (by decide) rfl rfl)) rfl (.inl rfl) (λ_=>rfl)) (by exact rfl) T.z_list (ae (mF (iv 0) (aP (oP T) (by decide) hr rfl T.m9 T.F9.kp T.b9 (ab (aA (iv 0) rfl rfl) (ab (iv 3) (ab (iv 2) (ab (iv 4) aj rfl) rfl) rfl) rfl) (by decide) rfl rfl) rfl rfl) (ae (mF (iv 0) (iv 5) rfl rfl) (ae (mF (iv 0) (ay (iv 3) (iv 2) rfl rfl) rfl rfl) (ae (aC (i:=6) dh.nd rfl (.inl rfl) (ay (aA (iv 0) rfl rfl) (iv 2) rfl rfl) rfl (.inl rfl)) (ae (cT (aA (iv 0) rfl rfl) (iv 2) (ay (aA (iv 0) rfl rfl) (iv 1) rfl rfl) rfl rfl rfl) (ao (cT (aA (iv 0) rfl rfl) (iv 1) (iv 6) rfl rfl rfl))))))) (by exact rfl) (by exact rfl) (by exact rfl) (by exact rfl) rfl)))
theorem oh (T:Txt K mg t):bO P w K mg base CX0 2 t.f10 t.g10 ["table","place","column"] (spI K dW):=
 oN (N:=["table","place","column","turning","part","lines","name"]) (b:=fu) T.F10 dh (lZ T)
theorem n8 (T:Txt K mg t):Bdy P w K mg base 2 ["table","column","way","place","name"] "way_of" fA t.f11 jg:=
 λ_ _ _ _ _ _ hr=>(ae (aC (i:=2) iw.nd rfl (.inl rfl) (gx (uF ph (aT (de (ab ag aj rfl))) (aA (iv 0) rfl rfl))) rfl (.inl rfl)) (ae (dH (jd rfl T.z_enumerate (ab (aA (iv 0) rfl rfl) aj rfl) rfl rfl) (dc (az (aw (i:=3) iw.nd rfl (.inl rfl)) (az (aw (i:=4) iw.nd rfl (.inl rfl)) cm)) rfl rfl rfl rfl rfl) (ao (cw (bu kU (iv 4) (aA (iv 0) rfl rfl) (bb _)) (ao (cT (iv 2) (iv 4) (iP (ay (ay (aA (iv 0) rfl rfl) (iv 3) rfl rfl) (iv 1) rfl rfl)) rfl rfl rfl)) bg)) qa6 rfl (λ_=>rfl)) (ae (cw (bu kU (ay (aA (iv 0) rfl rfl) (iv 1) rfl rfl) (aA (iv 0) rfl rfl) (bb _)) (ao (cT (iv 2) (ay (aA (iv 0) rfl rfl) (iv 1) rfl rfl) (aA (iv 0) rfl rfl) rfl rfl rfl)) bg) (ao (aU (gL (pJ T) (by decide) hr rfl T.m1 T.F1.kp T.b1 (ab (iv 2) aj rfl) (by decide) rfl rfl))))))
theorem rZ (T:Txt K mg t):bO P w K mg base CX0 3 t.f11 t.g11 ["table","column"] (spI K jk):=
 oN (N:=["table","column","way","place","name"]) (b:=jg) T.F11 iw (n8 T)
theorem ke (T:Txt K mg t):Bdy P w K mg base 0 ["table","amounts","place","name"] "amounts_of" cu t.f12 eS:=
 λ_ _ _ _ _ _ hr=>(ae (aC (i:=1) d9.nd rfl (.inl rfl) (gx (uF ph (aT (de (ab ag aj rfl))) (aA (iv 0) rfl rfl))) rfl (.inl rfl)) (ae (dH (jd rfl T.z_enumerate (ab (aA (iv 0) rfl rfl) aj rfl) rfl rfl) (dc (az (aw (i:=2) d9.nd rfl (.inl rfl)) (az (aw (i:=3) d9.nd rfl (.inl rfl)) cm)) rfl rfl rfl rfl rfl) (ao (cw (bu kU (iv 3) (aA (iv 0) rfl rfl) (bb _)) (ao (cT (iv 1) (iv 3) (ay (ay (aA (iv 0) rfl rfl) (iv 2) rfl rfl) (iP ag) rfl rfl) rfl rfl rfl)) bg)) qa6 rfl (λ_=>rfl)) (ao (aU (iv 1)))))
theorem lN (T:Txt K mg t):bO P w K mg base CX0 1 t.f12 t.g12 ["table"] (spI K gz):=
 oN (N:=["table","amounts","place","name"]) (b:=eS) T.F12 d9 (ke T)
theorem lm (T:Txt K mg t):Bdy P w K mg base 0 ["table","prices","column","name"] "prices_of" cE t.f13 fQ:=
 λ_ _ _ _ _ _ hr=>(ae (aC (i:=1) eW.nd rfl (.inl rfl) (gx (uF ph (aT (de (ab ag aj rfl))) (eE (fB rfl) rfl T.z_len qbB (ab (aA (iv 0) rfl rfl) aj rfl) (by decide) (by decide) rfl rfl))) rfl (.inl rfl)) (ae (dH (jd rfl T.z_enumerate (ab (aA (iv 0) rfl rfl) aj rfl) rfl rfl) (dc (az (aw (i:=2) eW.nd rfl (.inl rfl)) (az (aw (i:=3) eW.nd rfl (.inl rfl)) cm)) rfl rfl rfl rfl rfl) (ao (cw (bu uS (iv 3) (aA (iv 0) rfl rfl) (bb _)) (ao (cT (iv 1) (av dX (iv 3) (aA (iv 0) rfl rfl)) (ay (aA (iv 0) rfl rfl) (iv 2) rfl rfl) rfl rfl rfl)) bg)) qa6 rfl (λ_=>rfl)) (ao (aU (iv 1)))))
theorem mE (T:Txt K mg t):bO P w K mg base CX0 1 t.f13 t.g13 ["table"] (spI K gP):=
 oN (N:=["table","prices","column","name"]) (b:=fQ) T.F13 eW (lm T)
theorem kd (T:Txt K mg t):Bdy P w K mg base 1 ["table","amounts","prices","shared"] "found_most" bF t.f14 e8:=
 λ_ _ _ _ _ _ hr=>(ae (aC (i:=1) d7.nd rfl (.inl rfl) (aP (lN T) (by decide) hr rfl T.m12 T.F12.kp T.b12 (ab (iv 0) aj rfl) (by decide) rfl rfl) rfl (.inl rfl)) (ae (aC (i:=2) d7.nd rfl (.inl rfl) (aP (mE T) (by decide) hr rfl T.m13 T.F13.kp T.b13 (ab (iv 0) aj rfl) (by decide) rfl rfl) rfl (.inl rfl)) (ae (aC (i:=3) d7.nd rfl (.inr rfl) (aP (fX T) (by decide) hr rfl T.m0 T.F0.kp T.b0 (ab (av (bV rfl) (av (bV rfl) (aT (de (ab (aA (iv 0) rfl rfl) aj rfl))) (iv 1)) (iv 2)) aj rfl) (by decide) rfl rfl) rfl (.inl rfl)) (ao (aU (dQ (ab nE (ab (av kX (aA (iv 0) rfl rfl) (iv 3)) (ab (lB (jw rfl) rfl T.z_tuple qbF (ab (aT (fK (dO (ac bF).names ["table","amounts","prices","shared"] ["number","shared"] 1 [3] rfl rfl rfl (by decide +kernel)) rfl (by decide) (cb (iv 1) rfl) (λ_ _ _ _ _=>(bJ (aw (i:=0) (show qba (α:=Str) ["number","shared"] by decide +kernel) rfl (.inl rfl)))) (λ_ _ _ _ _=>bP) (λ_ _ _ _ _=>(av kX (iv 0) (iv 1))) (λ_=>rfl))) aj rfl) (by decide) (by decide) rfl rfl) (ab (lB (jw rfl) rfl T.z_tuple qbF (ab (aT (fK (dO (ac bF).names ["table","amounts","prices","shared"] ["number","shared"] 1 [3] rfl rfl rfl (by decide +kernel)) rfl (by decide) (cb (iv 2) rfl) (λ_ _ _ _ _=>(bJ (aw (i:=0) (show qba (α:=Str) ["number","shared"] by decide +kernel) rfl (.inl rfl)))) (λ_ _ _ _ _=>bP) (λ_ _ _ _ _=>(av kX (iv 0) (iv 1))) (λ_=>rfl))) aj rfl) (by decide) (by decide) rfl rfl) aj rfl) rfl) rfl) rfl)))))))
theorem lT (T:Txt K mg t):bO P w K mg base CX0 2 t.f14 t.g14 ["table"] (spI K gC):=
 iz (N:=["table","amounts","prices","shared"]) (b:=e8) T.F14 d7 (kd T)
theorem mZ (T:Txt K mg t):Bdy P w K mg base 3 ["rows","bounds","gains","table","step"] "most_of" dS t.f15 fY:=
 λ_ _ _ _ _ _ hr=>(ae (aC (i:=3) gw.nd rfl (.inl rfl) (v8 (N:=["self","rows","bounds","gains"]) (ps:=["self","rows","bounds","gains"]) (k:=2) T.mk_Table (lU T) (by decide) hr rfl T.cm_Table T.b2 T.cl_Table T.na_Table rfl (by decide) (ab (iv 0) (ab (iv 1) (ab (iv 2) aj rfl) rfl) rfl) (by decide) rfl rfl) rfl (.inl rfl)) (ae (aC (i:=4) gw.nd rfl (.inl rfl) (gL (i7 T) (by decide) hr rfl T.m8 T.F8.kp T.b8 (ab (iv 3) aj rfl) (by decide) rfl rfl) rfl (.inl rfl)) (ae (oF (2^8000) (bu wa (iv 4) gJ (bb _)) (ae (cw (bu nC (ay (iv 4) ag rfl rfl) gJ (bb _)) (ao (aU (dQ (ab nE (ab (gL (rZ T) (by decide) hr rfl T.m11 T.F11.kp T.b11 (ab (iv 3) (ab (ay (iv 4) ag rfl rfl) aj rfl) rfl) (by decide) rfl rfl) aj rfl) rfl)))) bg) (ae (km (aP (oh T) (by decide) hr rfl T.m10 T.F10.kp T.b10 (ab (iv 3) (ab (ay (iv 4) ag rfl rfl) (ab (ay (iv 4) ag rfl rfl) aj rfl) rfl) rfl) (by decide) rfl rfl) rfl) (ao (aC (i:=4) gw.nd rfl (.inl rfl) (gL (i7 T) (by decide) hr rfl T.m8 T.F8.kp T.b8 (ab (iv 3) aj rfl) (by decide) rfl rfl) rfl (.inl rfl))))) qa6) (ao (aU (gL (lT T) (by decide) hr rfl T.m14 T.F14.kp T.b14 (ab (iv 3) aj rfl) (by decide) rfl rfl))))))
theorem pi (T:Txt K mg t):bO P w K mg base CX0 4 t.f15 t.g15 ["rows","bounds","gains"] (spI K ii):=
 iz (N:=["rows","bounds","gains","table","step"]) (b:=fY) T.F15 gw (mZ T)
theorem lP (T:Txt K mg t):Bdy P w K mg base 0 ["_law_script","_law_k","_law_cell","_law_great"] "_law_pot" cY t.f16 fz:=
 λ_ _ _ _ _ _ hr=>(ae (aC (i:=2) gK.nd rfl (.inl rfl) (uz (bu kU (iv 1) (eE (fB rfl) rfl T.z_len qbB (ab (iv 0) aj rfl) (by decide) (by decide) rfl rfl) (bb _)) (ay (iv 0) (iv 1) rfl rfl) ag) rfl (.inl rfl)) (ae (aC (i:=3) gK.nd rfl (.inl rfl) (av (aG rfl) (eE qg rfl T.z_abs qc8 (ab (iv 2) aj rfl) (by decide) (by decide) rfl rfl) (lB xo rfl T.z_int qhw (ab (ju uS (eE qg rfl T.z_abs qc8 (ab (iv 2) aj rfl) (by decide) (by decide) rfl rfl) (av uk ag ag) (bb _)) aj rfl) (by decide) (by decide) rfl rfl)) rfl (.inl rfl)) (ao (aU (gx (de (ab (iv 3) (ab (av gU (av (aG rfl) (av (bV rfl) (av (bV rfl) (av gU (iv 2) ag) (av (aG rfl) (av (aG rfl) ag (iv 1)) (iv 1))) ag) ag) ag) (ab ag aj rfl) rfl) rfl)))))))
theorem og (T:Txt K mg t):bO P w K mg base CX0 1 t.f16 t.g16 ["_law_script","_law_k"] (spI K dP):=
 iz (N:=["_law_script","_law_k","_law_cell","_law_great"]) (b:=fz) T.F16 gK (lP T)
theorem lb (T:Txt K mg t):Bdy P w K mg base 0 ["_law_pot_here","_law_many","_law_digit"] "_law_pick" cI t.f17 dg:=
 λ_ _ _ _ _ _ hr=>(ae (cT (iv 0) ag (av (bV rfl) (ay (iv 0) ag rfl rfl) ag) rfl rfl rfl) (ae (cw (qy (qH (bu lq (ay (iv 0) ag rfl rfl) ag (bb _)) (oI (bu ui (ay (iv 0) ag rfl rfl) ag (bb _))))) (ae (aC (i:=2) i4.nd rfl (.inl rfl) (av gU (ay (iv 0) ag rfl rfl) (iv 1)) rfl (.inl rfl)) (ae (cT (iv 0) ag (av qI (ay (iv 0) ag rfl rfl) (iv 1)) rfl rfl rfl) (ao (aU (iv 2))))) bg) (ae (cT (iv 0) ag (av gU (av (bV rfl) (av (bV rfl) (av (aG rfl) (ay (iv 0) ag rfl rfl) ag) ag) (ay (iv 0) ag rfl rfl)) ag) rfl rfl rfl) (ao (aU (av gU (av qI (av gU (av (aG rfl) (ay (iv 0) ag rfl rfl) (av (bV rfl) (av gU (ay (iv 0) ag rfl rfl) ag) ag)) ag) ag) (iv 1)))))))
theorem dm (T:Txt K mg t):bO P w K mg base CX0 1 t.f17 t.g17 ["_law_pot_here","_law_many"] (spI K bj):=
 iz (N:=["_law_pot_here","_law_many","_law_digit"]) (b:=dg) T.F17 i4 (lb T)
theorem lV (T:Txt K mg t):Bdy P w K mg base 1 ["_law_pot_here","_law_far"] "_law_two" db t.f18 gB:=
 λ_ _ _ _ _ _ hr=>(ao (aU (dQ (ab (av (aG rfl) (av dX (aP (dm T) (by decide) hr rfl T.m17 T.F17.kp T.b17 (ab (iv 0) (ab ag aj rfl) rfl) (by decide) rfl rfl) ag) (iv 1)) (ab (av (aG rfl) (av dX (aP (dm T) (by decide) hr rfl T.m17 T.F17.kp T.b17 (ab (iv 0) (ab ag aj rfl) rfl) (by decide) rfl rfl) ag) (iv 1)) aj rfl) rfl))))
theorem jO (T:Txt K mg t):bO P w K mg base CX0 2 t.f18 t.g18 ["_law_pot_here","_law_far"] (spI K gn):=
 iz (N:=["_law_pot_here","_law_far"]) (b:=gB) T.F18 oO (lV T)
theorem j6 (T:Txt K mg t):Bdy P w K mg base 0 ["_law_rows","_law_bounds"] "_law_lines" bR t.f19 eY:=
 λ_ _ _ _ _ _ hr=>(ao (aU (av (bV rfl) (aT (fK (dO (ac bR).names ["_law_rows","_law_bounds"] ["_law_row","_law_bound"] 2 [] rfl rfl rfl (by decide +kernel)) rfl (by decide) (ql rfl T.z_zip (ab (iv 0) (ab (iv 1) aj rfl) rfl) rfl rfl rfl) (λ_ _ _ _ _=>(dc (az (aw (i:=0) (show qba (α:=Str) ["_law_row","_law_bound"] by decide +kernel) rfl (.inl rfl)) (az (aw (i:=1) (show qba (α:=Str) ["_law_row","_law_bound"] by decide +kernel) rfl (.inl rfl)) cm)) rfl rfl rfl rfl rfl)) (λ_ _ _ _ _=>bP) (λ_ _ _ _ _=>(dQ (ab (ay (iv 0) ag rfl rfl) (ab (ay (iv 0) ag rfl rfl) (ab (iv 1) aj rfl) rfl) rfl))) (λ_=>rfl))) (aT (de (ab (dQ (ab (iP ag) (ab ag (ab ag aj rfl) rfl) rfl)) (ab (dQ (ab ag (ab (iP ag) (ab ag aj rfl) rfl) rfl)) aj rfl) rfl))))))
theorem lS (T:Txt K mg t):bO P w K mg base CX0 1 t.f19 t.g19 ["_law_rows","_law_bounds"] (spI K gu):=
 iz (N:=["_law_rows","_law_bounds"]) (b:=eY) T.F19 lM (j6 T)
theorem jf (T:Txt K mg t):Bdy P w K mg base 0 ["_law_lines_here","_law_found","_law_k","_law_a","_law_b","_law_c","_law_d","_law_e","_law_g","_law_part"] "_law_corners" bH t.f20 ca:=
 λ_ _ _ _ _ _ hr=>(ae (aC (i:=1) aR.nd rfl (.inl rfl) (gx (de aj)) rfl (.inl rfl)) (ae (dH (jd rfl T.z_enumerate (ab (iv 0) aj rfl) rfl rfl) (wk (aw (i:=2) aR.nd rfl (.inl rfl)) (az (aw (i:=3) aR.nd rfl (.inl rfl)) (az (aw (i:=4) aR.nd rfl (.inl rfl)) (az (aw (i:=5) aR.nd rfl (.inl rfl)) cm))) rfl rfl rfl rfl rfl) (ao (dH (cb (yV (iv 0) u9 (wo (iv 2)) rfl) rfl) (dc (az (aw (i:=6) aR.nd rfl (.inl rfl)) (az (aw (i:=7) aR.nd rfl (.inl rfl)) (az (aw (i:=8) aR.nd rfl (.inl rfl)) cm))) rfl rfl rfl rfl rfl) (ae (aC (i:=9) aR.nd rfl (.inl rfl) (av dX (av (aG rfl) (iv 3) (iv 7)) (av (aG rfl) (iv 4) (iv 6))) rfl (.inl rfl)) (ae (cw (bu lq (iv 9) ag (bb _)) (ao (km (jy (iv 1) (ab (dQ (ab (av dX (av (aG rfl) (iv 5) (iv 7)) (av (aG rfl) (iv 4) (iv 8))) (ab (av dX (av (aG rfl) (iv 3) (iv 8)) (av (aG rfl) (iv 5) (iv 6))) (ab (iv 9) aj rfl) rfl) rfl)) aj rfl) rfl rfl (by decide) rfl rfl) rfl)) bg) (ao (cw (bu kU (iv 9) ag (bb _)) (ao (km (jy (iv 1) (ab (dQ (ab (av dX (av (aG rfl) (iv 4) (iv 8)) (av (aG rfl) (iv 5) (iv 7))) (ab (av dX (av (aG rfl) (iv 5) (iv 6)) (av (aG rfl) (iv 3) (iv 8))) (ab (av dX ag (iv 9)) aj rfl) rfl) rfl)) aj rfl) rfl rfl (by decide) rfl rfl) rfl)) bg)))) qa6 rfl (λ_=>rfl))) qa6 rfl (λ_=>rfl)) (ao (aU (iv 1)))))
theorem kc (T:Txt K mg t):bO P w K mg base CX0 1 t.f20 t.g20 ["_law_lines_here"] (spI K dI):=
 oN (N:=["_law_lines_here","_law_found","_law_k","_law_a","_law_b","_law_c","_law_d","_law_e","_law_g","_law_part"]) (b:=ca) T.F20 aR (jf T)
theorem iX (T:Txt K mg t):Bdy P w K mg base 1 ["_law_lines_here","_law_gains","_law_best","_law_x","_law_y","_law_part","_law_here"] "_law_greatest" br t.f21 cV:=
 λ_ _ _ _ _ _ hr=>(ae (aC (i:=2) bv.nd rfl (.inl rfl) (dQ (ab ag (ab ag aj rfl) rfl)) rfl (.inl rfl)) (ae (dH (cb (aP (kc T) (by decide) hr rfl T.m20 T.F20.kp T.b20 (ab (iv 0) aj rfl) (by decide) rfl rfl) rfl) (dc (az (aw (i:=3) bv.nd rfl (.inr rfl)) (az (aw (i:=4) bv.nd rfl (.inr rfl)) (az (aw (i:=5) bv.nd rfl (.inr rfl)) cm))) rfl rfl rfl rfl rfl) (ao (cw (iW (eE (sU rfl rfl) rfl T.z_all qek (ab (aT (fK (dO (ac br).names ["_law_lines_here","_law_gains","_law_best","_law_x","_law_y","_law_part","_law_here"] ["_law_a","_law_b","_law_c","_law_x","_law_y","_law_part"] 3 [3,4,5] rfl rfl rfl (by decide +kernel)) rfl (by decide) (cb (iv 0) rfl) (λ_ _ _ _ _=>(dc (az (aw (i:=0) (show qba (α:=Str) ["_law_a","_law_b","_law_c","_law_x","_law_y","_law_part"] by decide +kernel) rfl (.inl rfl)) (az (aw (i:=1) (show qba (α:=Str) ["_law_a","_law_b","_law_c","_law_x","_law_y","_law_part"] by decide +kernel) rfl (.inl rfl)) (az (aw (i:=2) (show qba (α:=Str) ["_law_a","_law_b","_law_c","_law_x","_law_y","_law_part"] by decide +kernel) rfl (.inl rfl)) cm))) rfl rfl rfl rfl rfl)) (λ_ _ _ _ _=>bP) (λ_ _ _ _ _=>(ju ui (av (bV rfl) (av (aG rfl) (iv 0) (iv 3)) (av (aG rfl) (iv 1) (iv 4))) (av (aG rfl) (iv 2) (iv 5)) (bb _))) (λ_=>rfl))) aj rfl) (by decide) (by decide) rfl rfl) rfl rfl) (ae (aC (i:=6) bv.nd rfl (.inl rfl) (av (bV rfl) (av (aG rfl) (ay (iv 1) ag rfl rfl) (iv 3)) (av (aG rfl) (ay (iv 1) ag rfl rfl) (iv 4))) rfl (.inl rfl)) (ao (cw (bu lq (av (aG rfl) (iv 6) (ay (iv 2) ag rfl rfl)) (av (aG rfl) (ay (iv 2) ag rfl rfl) (iv 5)) (bb _)) (ao (aC (i:=2) bv.nd rfl (.inl rfl) (dQ (ab (iv 6) (ab (iv 5) aj rfl) rfl)) rfl (.inl rfl))) bg))) bg)) qa6 rfl (λ_=>rfl)) (ao (aU (iv 2)))))
theorem jK (T:Txt K mg t):bO P w K mg base CX0 2 t.f21 t.g21 ["_law_lines_here","_law_gains"] (spI K cW):=
 iz (N:=["_law_lines_here","_law_gains","_law_best","_law_x","_law_y","_law_part","_law_here"]) (b:=cV) T.F21 bv (iX T)
theorem iA (T:Txt K mg t):Bdy P w K mg base 0 ["_law_lines_here","_law_gains","_law_ways","_law_a","_law_b","_law_c","_law_x","_law_y"] "_law_is_beyond" bi t.f22 cg:=
 λ_ _ _ _ _ _ hr=>(ae (aC (i:=2) aX.nd rfl (.inl rfl) (aT (de aj)) rfl (.inl rfl)) (ae (dH (cb (iv 0) rfl) (dc (az (aw (i:=3) aX.nd rfl (.inl rfl)) (az (aw (i:=4) aX.nd rfl (.inl rfl)) (az (aw (i:=5) aX.nd rfl (.inl rfl)) cm))) rfl rfl rfl rfl rfl) (ao (aC (i:=2) aX.nd rfl (.inl rfl) (av (bV rfl) (iv 2) (aT (de (ab (dQ (ab (iv 4) (ab (av dX ag (iv 3)) aj rfl) rfl)) (ab (dQ (ab (av dX ag (iv 4)) (ab (iv 3) aj rfl) rfl)) aj rfl) rfl)))) rfl (.inl rfl))) qa6 rfl (λ_=>rfl)) (ae (dH (cb (iv 2) rfl) (dc (az (aw (i:=6) aX.nd rfl (.inr rfl)) (az (aw (i:=7) aX.nd rfl (.inr rfl)) cm)) rfl rfl rfl rfl rfl) (ao (cw (qy (qH (iW (eE (sU rfl rfl) rfl T.z_all qek (ab (aT (fK (dO (ac bi).names ["_law_lines_here","_law_gains","_law_ways","_law_a","_law_b","_law_c","_law_x","_law_y"] ["_law_a","_law_b","_law_c","_law_x","_law_y"] 3 [6,7] rfl rfl rfl (by decide +kernel)) rfl (by decide) (cb (iv 0) rfl) (λ_ _ _ _ _=>(dc (az (aw (i:=0) (show qba (α:=Str) ["_law_a","_law_b","_law_c","_law_x","_law_y"] by decide +kernel) rfl (.inl rfl)) (az (aw (i:=1) (show qba (α:=Str) ["_law_a","_law_b","_law_c","_law_x","_law_y"] by decide +kernel) rfl (.inl rfl)) (az (aw (i:=2) (show qba (α:=Str) ["_law_a","_law_b","_law_c","_law_x","_law_y"] by decide +kernel) rfl (.inl rfl)) cm))) rfl rfl rfl rfl rfl)) (λ_ _ _ _ _=>bP) (λ_ _ _ _ _=>(ju ui (av (bV rfl) (av (aG rfl) (iv 0) (iv 3)) (av (aG rfl) (iv 1) (iv 4))) ag (bb _))) (λ_=>rfl))) aj rfl) (by decide) (by decide) rfl rfl) rfl rfl) (oI (bu lq (av (bV rfl) (av (aG rfl) (ay (iv 1) ag rfl rfl) (iv 6)) (av (aG rfl) (ay (iv 1) ag rfl rfl) (iv 7))) ag (bb _))))) (ao (aU mf)) bg)) qa6 rfl (λ_=>rfl)) (ao (aU mf)))))
theorem jh (T:Txt K mg t):bO P w K mg base CX0 1 t.f22 t.g22 ["_law_lines_here","_law_gains"] (spI K d5):=
 iz (N:=["_law_lines_here","_law_gains","_law_ways","_law_a","_law_b","_law_c","_law_x","_law_y"]) (b:=cg) T.F22 aX (iA T)
theorem ki (T:Txt K mg t):Bdy P w K mg base 4 ["_law_rows","_law_bounds","_law_gains","_law_lines_here","_law_found","_law_top","_law_bottom","_law_here"] "_law_right" cp t.f23 dw:=
 λ_ _ _ _ _ _ hr=>(ae (aC (i:=3) cB.nd rfl (.inl rfl) (aP (lS T) (by decide) hr rfl T.m19 T.F19.kp T.b19 (ab (iv 0) (ab (iv 1) aj rfl) rfl) (by decide) rfl rfl) rfl (.inl rfl)) (ae (aC (i:=4) cB.nd rfl (.inl rfl) (aP (pi T) (by decide) hr rfl T.m15 T.F15.kp T.b15 (ab (iv 0) (ab (iv 1) (ab (iv 2) aj rfl) rfl) rfl) (by decide) rfl rfl) rfl (.inl rfl)) (ae (cw (iW (aP (jh T) (by decide) hr rfl T.m22 T.F22.kp T.b22 (ab (iv 3) (ab (iv 2) aj rfl) rfl) (by decide) rfl rfl) rfl rfl) (ao (aU (ju (qW hr rfl) (ay (iv 4) ag rfl rfl) nE (bb _)))) bg) (ae (cw (bu (uj hr rfl) (ay (iv 4) ag rfl rfl) nE (bb _)) (ao (aU mf)) bg) (ae (xL (aP (jK T) (by decide) hr rfl T.m21 T.F21.kp T.b21 (ab (iv 3) (ab (iv 2) aj rfl) rfl) (by decide) rfl rfl) (dc (az (aw (i:=5) cB.nd rfl (.inl rfl)) (az (aw (i:=6) cB.nd rfl (.inl rfl)) cm)) rfl rfl rfl rfl rfl) rfl rfl rfl) (ae (aC (i:=7) cB.nd rfl (.inl rfl) (av (bV rfl) (av (aG rfl) (ay (iv 2) ag rfl rfl) (ay (ay (iv 4) ag rfl rfl) ag rfl rfl)) (av (aG rfl) (ay (iv 2) ag rfl rfl) (ay (ay (iv 4) ag rfl rfl) ag rfl rfl))) rfl (.inl rfl)) (ao (aU (ju (qW hr rfl) (av (aG rfl) (iv 7) (iv 6)) (av (aG rfl) (iv 5) (ay (iv 4) ag rfl rfl)) (bb _))))))))))
theorem lR (T:Txt K mg t):bO P w K mg base CX0 5 t.f23 t.g23 ["_law_rows","_law_bounds","_law_gains"] (spI K gm):=
 iz (N:=["_law_rows","_law_bounds","_law_gains","_law_lines_here","_law_found","_law_top","_law_bottom","_law_here"]) (b:=dw) T.F23 cB (ki T)
theorem uR (T:Txt K mg t):Bdy P w K mg base 5 ["_law_script","_law_k","_law_pot_here","_law_far","_law_rows","_law_bounds"] "law" iG t.f24 qY:=
 λ_ _ _ _ _ _ hr=>(ae (dH (kq rfl T.z_range (ab (av (bV rfl) ag (eE (xP rfl) rfl T.z_min qhv (ab ag (ab (eE (fB rfl) rfl T.z_len qbB (ab (iv 0) aj rfl) (by decide) (by decide) rfl rfl) aj rfl) rfl) (by decide) (by decide) rfl rfl)) aj rfl) rfl) (bJ (aw (i:=1) jq.nd rfl (.inl rfl))) (ae (aC (i:=2) jq.nd rfl (.inr rfl) (aP (og T) (by decide) hr rfl T.m16 T.F16.kp T.b16 (ab (iv 0) (ab (iv 1) aj rfl) rfl) (by decide) rfl rfl) rfl (.inl rfl)) (ae (aC (i:=3) jq.nd rfl (.inr rfl) (aT (fK (dO (ac iG).names ["_law_script","_law_k","_law_pot_here","_law_far","_law_rows","_law_bounds"] ["_law_part","_law_pot_here"] 1 [2] rfl rfl rfl (by decide +kernel)) rfl (by decide) (kq rfl T.z_range (ab ag aj rfl) rfl) (λ_ _ _ _ _=>(bJ (aw (i:=0) (show qba (α:=Str) ["_law_part","_law_pot_here"] by decide +kernel) rfl (.inl rfl)))) (λ_ _ _ _ _=>bP) (λ_ _ _ _ _=>(ay (aT (de (ab ag (ab ag (ab ag (ab (av uk ag ag) aj rfl) rfl) rfl) rfl))) (aP (dm T) (by decide) hr rfl T.m17 T.F17.kp T.b17 (ab (iv 1) (ab ag aj rfl) rfl) (by decide) rfl rfl) rfl rfl)) (λ_=>rfl))) rfl (.inl rfl)) (ae (aC (i:=4) jq.nd rfl (.inl rfl) (lB (jw rfl) rfl T.z_tuple qbF (ab (aT (fK (dO (ac iG).names ["_law_script","_law_k","_law_pot_here","_law_far","_law_rows","_law_bounds"] ["_law_row","_law_pot_here","_law_far"] 1 [2,3] rfl rfl rfl (by decide +kernel)) rfl (by decide) (kq rfl T.z_range (ab (aP (dm T) (by decide) hr rfl T.m17 T.F17.kp T.b17 (ab (iv 2) (ab ag aj rfl) rfl) (by decide) rfl rfl) aj rfl) rfl) (λ_ _ _ _ _=>(bJ (aw (i:=0) (show qba (α:=Str) ["_law_row","_law_pot_here","_law_far"] by decide +kernel) rfl (.inl rfl)))) (λ_ _ _ _ _=>bP) (λ_ _ _ _ _=>(aP (jO T) (by decide) hr rfl T.m18 T.F18.kp T.b18 (ab (iv 1) (ab (ay (iv 2) ag rfl rfl) aj rfl) rfl) (by decide) rfl rfl)) (λ_=>rfl))) aj rfl) (by decide) (by decide) rfl rfl) rfl (.inl rfl)) (ae (aC (i:=5) jq.nd rfl (.inl rfl) (lB (jw rfl) rfl T.z_tuple qbF (ab (aT (fK (dO (ac iG).names ["_law_script","_law_k","_law_pot_here","_law_far","_law_rows","_law_bounds"] ["_law_row","_law_pot_here","_law_far"] 1 [2,3] rfl rfl rfl (by decide +kernel)) rfl (by decide) (cb (iv 4) rfl) (λ_ _ _ _ _=>(bJ (aw (i:=0) (show qba (α:=Str) ["_law_row","_law_pot_here","_law_far"] by decide +kernel) rfl (.inl rfl)))) (λ_ _ _ _ _=>bP) (λ_ _ _ _ _=>(av (aG rfl) (aP (dm T) (by decide) hr rfl T.m17 T.F17.kp T.b17 (ab (iv 1) (ab ag aj rfl) rfl) (by decide) rfl rfl) (ay (iv 2) ag rfl rfl))) (λ_=>rfl))) aj rfl) (by decide) (by decide) rfl rfl) rfl (.inl rfl)) (ao (cw (xU (iW (aP (lR T) (by decide) hr rfl T.m23 T.F23.kp T.b23 (ab (iv 4) (ab (iv 5) (ab (aP (jO T) (by decide) hr rfl T.m18 T.F18.kp T.b18 (ab (iv 2) (ab (ay (iv 3) ag rfl rfl) aj rfl) rfl) (by decide) rfl rfl) aj rfl) rfl) rfl) (by decide) rfl rfl) rfl rfl)) (ao (aU mf)) bg)))))) qa6 rfl (λ_=>rfl)) (ao (aU mf)))
theorem wU (T:Txt K mg t):bO P w K mg base CX0 6 t.f24 t.g24 ["_law_script"] (spI K oY):=
 oN (N:=["_law_script","_law_k","_law_pot_here","_law_far","_law_rows","_law_bounds"]) (b:=qY) T.F24 jq (uR T)
end
end Own
end
namespace L2
open PySem
end L2
namespace L2
end L2
namespace L2
open PySem
def fD:Nat->List Int->Nat
 |g,[]=>g
 |g,n::ns=>fD (qeH g n.natAbs) ns
theorem nR (n:Int):∀ (g:Nat) (ns:List Int),fD g (ns++[n])=qeH (fD g ns) n.natAbs
 |g,[]=>rfl
 |g,m::ns=>nR n _ ns
theorem ji:∀ (g:Nat) (ns:List Int),fD g ns∣g/\∀ n∈ns,fD g ns∣n.natAbs
 |g,[]=>⟨Nat.dvd_refl _,λ_ h=>by cases h⟩
 |g,m::ns=>by
  have ih:=ji (qeH g m.natAbs) ns
  refine⟨qgG ih.1 (Nat.gcd_dvd_left _ _),λn hn=>?_⟩
  rcases qaH.mp hn with rfl|hn
  ·exact qgG ih.1 (Nat.gcd_dvd_right _ _)
  ·exact ih.2 n hn
theorem tU {ns:List Int}{n:Int} (hn:n∈ns) (h0:n≠0):0<fD 0 ns/\fD 0 ns<=n.natAbs:=by
 have h:=(ji 0 ns).2 n hn
 have hp:0<n.natAbs:=by lia
 exact⟨Nat.pos_of_dvd_of_pos h hp,Nat.le_of_dvd hp h⟩
theorem ai {g:Sto->W->W->Option D}{a b:Ef}{env:Ev}{st s1 s2:Sto}{x y:W}{d:D} (ha:a env st=some (x,s1)) (hb:b env s1=some (y,s2)) (hg:g s2 x y=some d):iOp g a b env st=some (.d d,s2):=by
 simp only[iOp,ha,hb,hg,qaa,qar]
theorem bf {g:Sto->W->W->Option D}{a b:Ef}{env:Ev}{st s1 s2:Sto}{x y:W}{k:Bool} (ha:a env st=some (x,s1)) (hb:b env s1=some (y,s2)) (hg:g s2 x y=some (.bl k)):bm g a b env st=some (k,s2):=by
 simp only[bm,ha,hb,hg,qaa,nV,qar]
theorem ax {i:Nat}{f:Ef}{env:Ev}{st s:Sto}{w:W} (h:f env st=some (w,s)):aD (.nm i) f env st=some (.nx (env.set i (some w)) s):=by
 simp only[aD,h,qaa,eG,qar]
theorem aI {m:Fn}{a:Af}{env:Ev}{st s:Sto}{ws:List W}{r:W×Sto} (ha:a env st=some (ws,s)) (hm:m ws s=some r):aS m a env st=some r:=by
 simp only[aS,ha,hm,qaa]
theorem cO {g:Sto->List W->Option D}{a:Af}{env:Ev}{st s:Sto}{ws:List W}{d:D} (ha:a env st=some (ws,s)) (hm:g s ws=some d):iCB g a env st=some (.d d,s):=by
 simp only[iCB,ha,hm,qaa,qar]
theorem ah {a:Ef}{b:Af}{env:Ev}{st s1 s2:Sto}{x:W}{y:List W} (ha:a env st=some (x,s1)) (hb:b env s1=some (y,s2)):aa a b env st=some (x::y,s2):=by
 simp only[aa,ha,hb,qaa,qar]
theorem bI {fi:Lf}{g:Tg}{b:Sf}{env:Ev}{st s:Sto}{ds:List D}{r:Fl} (h:fi env st=some (ds,s)) (hf:cC g b ds env s=some r):gI fi g b env st=some r:=by
 simp only[gI,h,hf,qaa]
theorem cq {f:Ef}{env:Ev}{st s:Sto}{w:W} (h:f env st=some (w,s)):bY f env st=some (.rt w s):=by
 simp only[bY,h,qar]
theorem cD {k:Nat}{js:List Nat}{fi:Lf}{g:Tg}{tt:Tf}{te:Ef}{env:Ev}{st s s2:Sto}{ds ys:List D} (h:fi env st=some (ds,s)) (hl:ds.length<=1000000) (hc:lcI g tt te (jl k js env) ds s=some (ys,s2)):iLc k js fi g tt te env st=some (ys,s2):=by
 simp only[iLc,h,hc,hl,qaa,if_true]
theorem aW {a:Lf}{env:Ev}{st s:Sto}{ds:List D} (h:a env st=some (ds,s)):aM a env st=some (.d (.lst ds),s):=by
 simp only[aM,h,qar]
theorem bh {n k:Nat}{b:Sf}{ws:List W}{st s:Sto}{w:W} (hl:ws.length=k) (h:b (ws.map some++qav (n - k) none) st=some (.rt w s)):eH n k b ws st=some (w,s):=by
 simp only[eH,hl,if_true,h,qaa]
theorem oX {n k:Nat}{b:Sf}{ws:List W}{st s:Sto}{x:D} (hl:ws.length=k) (h:b (ws.map some++qav (n - k) none) st=some (.rt (.d x) s)):hJ n k b ws st=some (.d x,s.take st.length):=by
 simp only[hJ,hl,if_true,h,qaa,qu]
end L2
namespace Sx
abbrev Vec:=Nat->Int
def sumN:Nat->(Nat->Int)->Int
 |0,_=>0
 |n+1,f=>sumN n f+f n
theorem sumN_congr {n:Nat}{f g:Nat->Int} (h:∀ k,k<n->f k=g k):sumN n f=sumN n g:=by
 induction n with
 |zero=>rfl
 |succ n ih=>rw[sumN,sumN,ih λk hk=>h k (by omega),h n (by omega)]
theorem sumN_add (n:Nat) (f g:Nat->Int):sumN n (λk=>f k+g k)=sumN n f+sumN n g:=by
 induction n with
 |zero=>rfl
 |succ n ih=>rw[sumN,sumN,sumN,ih];omega
theorem sumN_mul (n:Nat) (c:Int) (f:Nat->Int):sumN n (λk=>c*f k)=c*sumN n f:=by
 induction n with
 |zero=>simp[sumN]
 |succ n ih=>rw[sumN,sumN,ih,qbM]
theorem sumN_zero (n:Nat):sumN n (λ_=>0)=0:=by
 induction n with
 |zero=>rfl
 |succ n ih=>rw[sumN,ih];rfl
theorem sumN_single {n i:Nat} (hi:i<n) {f:Nat->Int} (h:∀ k,k<n->k≠i->f k=0):sumN n f=f i:=by
 induction n with
 |zero=>omega
 |succ n ih=>
  rw[sumN]
  by_cases e:i=n
  ·subst e
   rw[sumN_congr (g:=λ_=>0) λk hk=>h k (by omega) (by omega),sumN_zero];omega
  ·rw[ih (by omega) λk hk hne=>h k (by omega) hne,h n (by omega) (by omega)];omega
theorem sumN_pair {n i j:Nat} (hi:i<n) (hj:j<n) (hij:i≠j) {f:Nat->Int} (h:∀ k,k<n->k≠i->k≠j->f k=0):sumN n f=f i+f j:=by
 have e:sumN n f=sumN n (λk=>(if k=i then f i else 0)+(if k=j then f j else 0)):=by
  refine sumN_congr λk hk=>?_
  by_cases h1:k=i
  ·subst h1;rw[if_pos rfl,if_neg hij];omega
  ·by_cases h2:k=j
   ·subst h2;rw[if_neg h1,if_pos rfl];omega
   ·rw[if_neg h1,if_neg h2,h k hk h1 h2];rfl
 rw[e,sumN_add,sumN_single hi λk _ hne=>if_neg hne,sumN_single hj λk _ hne=>if_neg hne,if_pos rfl,if_pos rfl]
def skip (k j:Nat):Nat:=if j<k then j else j+1
def sg (k:Nat):Int:=if k%2=0 then 1 else -1
theorem sg_succ (k:Nat):sg (k+1)=- sg k:=by
 unfold sg
 by_cases h:k%2=0
 ·rw[if_pos h,if_neg (by omega)]
 ·rw[if_neg h,if_pos (by omega)];rfl
def det:Nat->(Nat->Vec)->Int
 |0,_=>1
 |m+1,C=>sumN (m+1) λk=>sg k*C k 0*det m (λj t=>C (skip k j) (t+1))
theorem det_congr:∀ (m:Nat) {C E:Nat->Vec},(∀ k t,k<m->t<m->C k t=E k t)->det m C=det m E:=by
 intro m
 induction m with
 |zero=>intros;rfl
 |succ m ih=>
  intro C E h
  rw[det,det]
  refine sumN_congr λk hk=>?_
  rw[h k 0 hk (by omega),ih (C:=λj t=>C (skip k j) (t+1)) (E:=λj t=>E (skip k j) (t+1)) λj t hj ht=>h (skip k j) (t+1) (by unfold skip;split<;>omega) (by omega)]
def upd (C:Nat->Vec) (i:Nat) (v:Vec):Nat->Vec:=λj=>if j=i then v else C j
theorem upd_same (C:Nat->Vec) (i:Nat) (v:Vec):upd C i v i=v:=if_pos rfl
theorem upd_ne {C:Nat->Vec}{i j:Nat}{v:Vec} (h:j≠i):upd C i v j=C j:=if_neg h
theorem upd_self (C:Nat->Vec) (i:Nat):upd C i (C i)=C:=by
 funext j
 by_cases h:j=i
 ·rw[h,upd_same]
 ·rw[upd_ne h]
theorem upd_upd (C:Nat->Vec) (i:Nat) (u v:Vec):upd (upd C i u) i v=upd C i v:=by
 funext j
 by_cases h:j=i
 ·rw[h,upd_same,upd_same]
 ·rw[upd_ne h,upd_ne h,upd_ne h]
theorem upd_comm {C:Nat->Vec}{i j:Nat}{u v:Vec} (h:i≠j):upd (upd C i u) j v=upd (upd C j v) i u:=by
 funext k
 by_cases h1:k=i
 ·subst h1;rw[upd_ne h,upd_same,upd_same]
 ·by_cases h2:k=j
  ·subst h2;rw[upd_same,upd_ne h1,upd_same]
  ·rw[upd_ne h2,upd_ne h1,upd_ne h1,upd_ne h2]
def unskip (k i:Nat):Nat:=if i<k then i else i - 1
theorem skip_upd {C:Nat->Vec}{k i:Nat}{v:Vec} (h:k≠i):(λj t=>upd C i v (skip k j) (t+1))=upd (λj t=>C (skip k j) (t+1)) (unskip k i) (λt=>v (t+1)):=by
 funext j t
 unfold upd skip unskip
 by_cases h1:j<k<;>by_cases h2:i<k<;>simp only[h1,h2,if_true,if_false]
 ·by_cases e:j=i
  ·rw[if_pos e,if_pos e]
  ·rw[if_neg e,if_neg e]
 ·rw[if_neg (by omega),if_neg (by omega)]
 ·rw[if_neg (by omega),if_neg (by omega)]
 ·by_cases e:j+1=i
  ·rw[if_pos e,if_pos (by omega)]
  ·rw[if_neg e,if_neg (by omega)]
theorem skip_self {C:Nat->Vec}{i:Nat}{v:Vec}:(λj t=>upd C i v (skip i j) (t+1))=λj t=>C (skip i j) (t+1):=by
 funext j t
 rw[upd_ne]
 unfold skip
 split<;>omega
theorem det_add:∀ (m:Nat) (C:Nat->Vec) (i:Nat) (u v:Vec),i<m->det m (upd C i λt=>u t+v t)=det m (upd C i u)+det m (upd C i v):=by
 intro m
 induction m with
 |zero=>intros;omega
 |succ m ih=>
  intro C i u v hi
  rw[det,det,det,<-sumN_add]
  refine sumN_congr λk hk=>?_
  by_cases e:k=i
  ·subst e
   rw[skip_self,skip_self,skip_self,upd_same,upd_same,upd_same,qbM,qdp]
  ·rw[skip_upd e,skip_upd e,skip_upd e,upd_ne e,upd_ne e,upd_ne e,ih _ _ (λt=>u (t+1)) (λt=>v (t+1)) (by unfold unskip;split<;>omega),qbM]
theorem det_mul:∀ (m:Nat) (C:Nat->Vec) (i:Nat) (c:Int) (u:Vec),i<m->det m (upd C i λt=>c*u t)=c*det m (upd C i u):=by
 intro m
 induction m with
 |zero=>intros;omega
 |succ m ih=>
  intro C i c u hi
  rw[det,det,<-sumN_mul]
  refine sumN_congr λk hk=>?_
  by_cases e:k=i
  ·subst e
   rw[skip_self,skip_self,upd_same,upd_same]
   rw[show sg k*(c*u 0)=c*(sg k*u 0) by rw[qaD],qaZ]
  ·rw[skip_upd e,skip_upd e,upd_ne e,upd_ne e,ih _ _ c (λt=>u (t+1)) (by unfold unskip;split<;>omega),qaD]
theorem det_adj:∀ (m:Nat) (C:Nat->Vec) (i:Nat),i+1<m->C i=C (i+1)->det m C=0:=by
 intro m
 induction m with
 |zero=>intros;omega
 |succ m ih=>
  intro C i hi h
  rw[det,sumN_pair (i:=i) (j:=i+1) (by omega) (by omega) (by omega) λk hk h1 h2=>?_]
  ·have e:(λj t=>C (skip i j) (t+1))=λj t=>C (skip (i+1) j) (t+1):=by
    funext j t
    by_cases e:j=i
    ·subst e
     have a1:skip j j=j+1:=by unfold skip;rw[if_neg (by omega)]
     have a2:skip (j+1) j=j:=by unfold skip;rw[if_pos (by omega)]
     rw[a1,a2,h]
    ·have:skip i j=skip (i+1) j:=by
      unfold skip
      by_cases h1:j<i
      ·rw[if_pos h1,if_pos (by omega)]
      ·rw[if_neg h1,if_neg (by omega)]
     rw[this]
   rw[e,h,sg_succ]
   rw[<-qdp,<-qdp]
   rw[show sg i+-sg i=0 by omega]
   simp
  ·have hz:det m (λj t=>C (skip k j) (t+1))=0:=by
    by_cases hk':k<i
    ·refine ih _ (i - 1) (by omega) ?_
     funext t
     have a1:skip k (i - 1)=i:=by unfold skip;rw[if_neg (by omega)];omega
     have a2:skip k (i - 1+1)=i+1:=by unfold skip;rw[if_neg (by omega)];omega
     rw[a1,a2,h]
    ·refine ih _ i (by omega) ?_
     funext t
     have a1:skip k i=i:=by unfold skip;rw[if_pos (by omega)]
     have a2:skip k (i+1)=i+1:=by unfold skip;rw[if_pos (by omega)]
     rw[a1,a2,h]
   rw[hz,qas]
theorem det_swap {m:Nat} (C:Nat->Vec) {i:Nat} (hi:i+1<m):det m (upd (upd C i (C (i+1))) (i+1) (C i))=- det m C:=by
 have key:∀ u v:Vec,det m (upd (upd C i u) (i+1) v)+det m (upd (upd C i v) (i+1) u)=0:=λu v=>by
  have h0:det m (upd (upd C i λt=>u t+v t) (i+1) λt=>u t+v t)=0:=det_adj m _ i hi (by rw[upd_ne (by omega),upd_same,upd_same])
  have hu:det m (upd (upd C i u) (i+1) u)=0:=det_adj m _ i hi (by rw[upd_ne (by omega),upd_same,upd_same])
  have hv:det m (upd (upd C i v) (i+1) v)=0:=det_adj m _ i hi (by rw[upd_ne (by omega),upd_same,upd_same])
  rw[det_add m _ (i+1) u v hi,upd_comm (by omega),upd_comm (v:=v) (by omega),det_add m _ i u v (by omega),det_add m _ i u v (by omega)]at h0
  rw[<-upd_comm (C:=C) (i:=i) (j:=i+1) (u:=u) (v:=u) (by omega),<-upd_comm (C:=C) (i:=i) (j:=i+1) (u:=v) (v:=u) (by omega),<-upd_comm (C:=C) (i:=i) (j:=i+1) (u:=u) (v:=v) (by omega),<-upd_comm (C:=C) (i:=i) (j:=i+1) (u:=v) (v:=v) (by omega),hu,hv]at h0
  omega
 have:=key (C i) (C (i+1))
 have e:upd (upd C i (C i)) (i+1) (C (i+1))=C:=by rw[upd_self,upd_self]
 rw[e]at this
 omega
theorem det_same {m:Nat}:∀ (d:Nat) (C:Nat->Vec) (i j:Nat),j=i+d+1->j<m->C i=C j->det m C=0:=by
 intro d
 induction d with
 |zero=>intro C i j hj hm h;subst hj;exact det_adj m C i hm h
 |succ d ih=>
  intro C i j hj hm h
  have hs:=det_swap (m:=m) C (i:=j - 1) (by omega)
  have e1:j - 1+1=j:=by omega
  rw[e1]at hs
  have:=ih (upd (upd C (j - 1) (C j)) j (C (j - 1))) i (j - 1) (by omega) (by omega) (by rw[upd_ne (by omega),upd_ne (by omega),upd_ne (by omega),upd_same,h])
  rw[this]at hs
  omega
theorem det_eq0 {m:Nat} (C:Nat->Vec) {i j:Nat} (hi:i<m) (hj:j<m) (hij:i≠j) (h:C i=C j):det m C=0:=by
 rcases Nat.lt_or_gt_of_ne hij with h1|h1
 ·exact det_same (j - i - 1) C i j (by omega) hj h
 ·exact det_same (i - j - 1) C j i (by omega) hi h.symm
theorem det_zero {m:Nat} (C:Nat->Vec) {i:Nat} (hi:i<m):det m (upd C i λ_=>0)=0:=by
 have:=det_mul m C i 0 (λ_=>0) hi
 simpa using this
theorem det_sum {m:Nat} (C:Nat->Vec) {i:Nat} (hi:i<m) (x:Nat->Int) (V:Nat->Vec):∀ n,det m (upd C i λt=>sumN n λk=>x k*V k t)=sumN n λk=>x k*det m (upd C i (V k)):=by
 intro n
 induction n with
 |zero=>exact det_zero C hi
 |succ n ih=>
  have e:(λt=>sumN (n+1) λk=>x k*V k t)=λt=>(sumN n λk=>x k*V k t)+x n*V n t:=rfl
  rw[e,det_add m C i _ _ hi,ih,det_mul m C i (x n) (V n) hi]
  rfl
theorem cramer {m:Nat} (B:Nat->Vec) (a:Vec) (p:Int) (x:Nat->Int) (h:∀ t,p*a t=sumN m λk=>x k*B k t) {i:Nat} (hi:i<m):p*det m (upd B i a)=x i*det m B:=by
 rw[<-det_mul m B i p a hi]
 have e:(λt=>p*a t)=λt=>sumN m λk=>x k*B k t:=funext h
 rw[e,det_sum B hi x B m,sumN_single hi λk hk hne=>?_,upd_self]
 rw[det_eq0 (upd B i (B k)) hi hk (qbo hne) (by rw[upd_same,upd_ne hne]),qas]
theorem cramer2 {m:Nat} (B:Nat->Vec) (a b:Vec) (p:Int) (hp:p=det m B) (hp0:p≠0) (x y:Nat->Int) (hx:∀ t,p*a t=sumN m λk=>x k*B k t) (hy:∀ t,p*b t=sumN m λk=>y k*B k t) {i r:Nat} (hi:i<m) (hr:r<m) (hir:i≠r) :
  p*det m (upd (upd B r a) i b)=x r*y i - x i*y r:=by
 have h1:p*det m (upd (upd B r a) i b)=sumN m λk=>y k*det m (upd (upd B r a) i (B k)):=by
  rw[<-det_mul m _ i p b hi]
  have e:(λt=>p*b t)=λt=>sumN m λk=>y k*B k t:=funext hy
  rw[e,det_sum _ hi y B m]
 rw[h1,sumN_pair hi hr hir λk hk h2 h3=>?_]
 ·have e1:upd (upd B r a) i (B i)=upd B r a:=by
   have:(upd B r a) i=B i:=upd_ne hir
   rw[<-this,upd_self]
  have e2:p*det m (upd B r a)=x r*p:=by rw[cramer B a p x hx hr,<-hp]
  have e3:p*det m (upd (upd B r a) i (B r))=- (x i*p):=by
   have hc:upd (upd B r a) i (B r)=upd (upd B i (B r)) r a:=upd_comm (qbo hir)
   rw[hc,<-det_mul m _ r p a hr]
   have e:(λt=>p*a t)=λt=>sumN m λk=>x k*B k t:=funext hx
   rw[e,det_sum _ hr x B m,sumN_single hi λk hk hne=>?_]
   ·-- columns i and r exchanged
    have hsw:det m (upd (upd B i (B r)) r (B i))=- det m B:=by
     have key:∀ u v:Vec,det m (upd (upd B i u) r v)+det m (upd (upd B i v) r u)=0:=λu v=>by
      have z:∀ w:Vec,det m (upd (upd B i w) r w)=0:=λw=>det_eq0 _ hi hr hir (by rw[upd_ne hir,upd_same,upd_same])
      have h0:=z λt=>u t+v t
      rw[det_add m _ r u v hr,upd_comm hir,upd_comm (v:=v) hir,det_add m _ i u v hi,det_add m _ i u v hi]at h0
      rw[<-upd_comm (C:=B) (i:=i) (j:=r) (u:=u) (v:=u) hir,<-upd_comm (C:=B) (i:=i) (j:=r) (u:=v) (v:=u) hir,<-upd_comm (C:=B) (i:=i) (j:=r) (u:=u) (v:=v) hir,<-upd_comm (C:=B) (i:=i) (j:=r) (u:=v) (v:=v) hir,z u,z v]at h0
      omega
     have:=key (B i) (B r)
     rw[show upd (upd B i (B i)) r (B r)=B by rw[upd_self,upd_self]]at this
     omega
    rw[hsw,<-hp,qdY]
   ·by_cases hkr:k=r
    ·subst hkr
     rw[det_eq0 _ hi hr hir (by rw[upd_ne hir,upd_same,upd_same]),qas]
    ·rw[det_eq0 (upd (upd B i (B r)) r (B k)) hr hk (qbo hkr) (by rw[upd_same,upd_ne hkr,upd_ne hne]),qas]
  rw[e1]
  have:p*(y i*det m (upd B r a)+y r*det m (upd (upd B r a) i (B r)))=p*(x r*y i - x i*y r):=by
   rw[qbM,qaD,e2,qaD p (y r),e3,qcM,qdY]
   rw[show y i*(x r*p)=p*(x r*y i) by rw[qaz (y i),qaX,qaz]]
   rw[show y r*(x i*p)=p*(x i*y r) by rw[qaz (y r),qaZ,qaz p (y r),<-qaZ,qaz (x i*y r) p]]
   omega
  exact qcq hp0 this
 ·rw[det_eq0 (upd (upd B r a) i (B k)) hi hk (qbo h2) (by rw[upd_same,upd_ne h2,upd_ne h3]),qas]
def unit (k:Nat):Vec:=λt=>if t=k then 1 else 0
theorem det_unit:∀ m,det m unit=1:=by
 intro m
 induction m with
 |zero=>rfl
 |succ m ih=>
  rw[det,sumN_single (i:=0) (by omega) λk hk hne=>by rw[show unit k 0=0 by unfold unit;rw[if_neg (by omega)]];simp]
  have e:(λj t=>unit (skip 0 j) (t+1))=unit:=by
   funext j t
   unfold unit skip
   rw[if_neg (by omega:¬ j<0)]
   by_cases h:t=j
   ·rw[if_pos (by omega),if_pos h]
   ·rw[if_neg (by omega),if_neg h]
  rw[e,ih]
  rfl
structure Pb where
 m:Nat
 n:Nat
 A:Nat->Vec
 b:Vec
 g:Nat->Int
structure Tb where
 p:Int
 kept:Nat->Nat
 free:Nat->Nat
 T:Nat->Nat->Int
 G:Nat->Int
variable (P:Pb)
def colV (S:Tb) (c:Nat):Vec:=if c<P.n then P.A (S.free c) else P.b
def gainC (S:Tb) (c:Nat):Int:=if c<P.n then P.g (S.free c) else 0
def basis (S:Tb):Nat->Vec:=λi=>P.A (S.kept i)
structure Good (S:Tb):Prop where
 pos:0<S.p
 dt:S.p=det P.m (basis P S)
 eq:∀ c,c<=P.n->∀ t,S.p*colV P S c t=sumN P.m λi=>S.T i c*P.A (S.kept i) t
 goal:∀ c,c<=P.n->S.G c=(sumN P.m λi=>P.g (S.kept i)*S.T i c) - S.p*gainC P S c
def piv (S:Tb) (r e:Nat):Tb where
 p:=S.T r e
 kept:=λi=>if i=r then S.free e else S.kept i
 free:=λc=>if c=e then S.kept r else S.free c
 T:=λi c=>if i=r then (if c=e then S.p else S.T r c) else (if c=e then - S.T i e else (S.T r e*S.T i c - S.T i e*S.T r c) / S.p)
 G:=λc=>if c=e then - S.G e else (S.T r e*S.G c - S.G e*S.T r c) / S.p
variable {P}
theorem Good.entry {S:Tb} (h:Good P S) {c i:Nat} (hc:c<=P.n) (hi:i<P.m):S.T i c=det P.m (upd (basis P S) i (colV P S c)):=by
 have:=cramer (basis P S) (colV P S c) S.p (λk=>S.T k c) (λt=>h.eq c hc t) hi
 rw[<-h.dt,qaz]at this
 exact (qeN (by have:=h.pos;omega) this).symm
theorem Good.whole {S:Tb} (h:Good P S) {r e c i:Nat} (he:e<=P.n) (hc:c<=P.n) (hi:i<P.m) (hr:r<P.m) (hir:i≠r):∃ d,S.T r e*S.T i c - S.T i e*S.T r c=S.p*d:=
 ⟨_,(cramer2 (basis P S) (colV P S e) (colV P S c) S.p h.dt (by have:=h.pos;omega) (λk=>S.T k e) (λk=>S.T k c) (λt=>h.eq e he t) (λt=>h.eq c hc t) hi hr hir).symm⟩
theorem ediv_of {p a d:Int} (hp:0<p) (h:a=p*d):p*(a / p)=a:=by
 rw[h,qeY _ (by omega)]
theorem piv_T {S:Tb} (h:Good P S) {r e c i:Nat} (he:e<=P.n) (hc:c<=P.n) (hi:i<P.m) (hr:r<P.m) (hir:i≠r) (hce:c≠e):S.p*(piv S r e).T i c=S.T r e*S.T i c - S.T i e*S.T r c:=by
 obtain⟨d,hd⟩:=h.whole (c:=c) he hc hi hr hir
 show S.p*(if i=r then _ else (if c=e then _ else _))=_
 rw[if_neg hir,if_neg hce]
 exact ediv_of h.pos hd
theorem sumN_split {n r:Nat} (hr:r<n) (f:Nat->Int):sumN n f=f r+sumN n (λk=>if k=r then 0 else f k):=by
 have e:sumN n f=sumN n (λk=>(if k=r then f r else 0)+(if k=r then 0 else f k)):=by
  refine sumN_congr λk hk=>?_
  by_cases h:k=r
  ·rw[if_pos h,if_pos h,h];omega
  ·rw[if_neg h,if_neg h];omega
 rw[e,sumN_add,sumN_single hr λk _ hne=>if_neg hne,if_pos rfl]
theorem sumN_sub (n:Nat) (f g:Nat->Int):sumN n (λk=>f k - g k)=sumN n f - sumN n g:=by
 induction n with
 |zero=>rfl
 |succ n ih=>rw[sumN,sumN,sumN,ih];omega
theorem piv_eq {S:Tb} (h:Good P S) {r e:Nat} (he:e<P.n) (hr:r<P.m):∀ c,c<=P.n->∀ t,(piv S r e).p*colV P (piv S r e) c t=sumN P.m λi=>(piv S r e).T i c*P.A ((piv S r e).kept i) t:=by
 intro c hc t
 have hp:=h.pos
 have hE:=h.eq e (by omega) t
 have hcE:colV P S e=P.A (S.free e):=if_pos he
 rw[hcE,sumN_split hr]at hE
 have kr:(piv S r e).kept r=S.free e:=if_pos rfl
 have kn:∀ i,i≠r->(piv S r e).kept i=S.kept i:=λi hi=>if_neg hi
 rw[sumN_split hr,kr]
 by_cases hce:c=e
 ·subst hce
  have c1:colV P (piv S r c) c=P.A (S.kept r):=by
   unfold colV;rw[if_pos he];show P.A (if c=c then _ else _)=_;rw[if_pos rfl]
  have t1:(piv S r c).T r c=S.p:=by show (if r=r then (if c=c then _ else _) else _)=_;rw[if_pos rfl,if_pos rfl]
  have t2:(sumN P.m λk=>if k=r then 0 else (piv S r c).T k c*P.A ((piv S r c).kept k) t)=- sumN P.m λk=>if k=r then 0 else S.T k c*P.A (S.kept k) t:=by
   have:(sumN P.m λk=>if k=r then 0 else (piv S r c).T k c*P.A ((piv S r c).kept k) t)=sumN P.m λk=>(-1)*(if k=r then 0 else S.T k c*P.A (S.kept k) t):=by
    refine sumN_congr λk hk=>?_
    by_cases hk':k=r
    ·rw[if_pos hk',if_pos hk'];rfl
    ·rw[if_neg hk',if_neg hk',kn k hk']
     show (if k=r then _ else (if c=c then - S.T k c else _))*_=_
     rw[if_neg hk',if_pos rfl,qbR,qbR,qbQ]
   rw[this,sumN_mul];omega
  rw[c1,t1,t2]
  show S.T r c*P.A (S.kept r) t=_
  omega
 ·have c1:colV P (piv S r e) c=colV P S c:=by
   unfold colV
   by_cases hcn:c<P.n
   ·rw[if_pos hcn,if_pos hcn];show P.A (if c=e then _ else _)=_;rw[if_neg hce]
   ·rw[if_neg hcn,if_neg hcn]
  have t1:(piv S r e).T r c=S.T r c:=by show (if r=r then (if c=e then _ else _) else _)=_;rw[if_pos rfl,if_neg hce]
  have hC:=h.eq c hc t
  rw[sumN_split hr]at hC
  rw[c1,t1]
  refine qcq (a:=S.p) (by omega) ?_
  have t2:S.p*(sumN P.m λk=>if k=r then 0 else (piv S r e).T k c*P.A ((piv S r e).kept k) t)=(sumN P.m λk=>S.T r e*(if k=r then 0 else S.T k c*P.A (S.kept k) t)) - sumN P.m λk=>S.T r c*(if k=r then 0 else S.T k e*P.A (S.kept k) t):=by
   rw[<-sumN_mul,<-sumN_sub]
   refine sumN_congr λk hk=>?_
   by_cases hk':k=r
   ·rw[if_pos hk',if_pos hk',if_pos hk'];simp
   ·rw[if_neg hk',if_neg hk',if_neg hk',kn k hk',<-qaZ,piv_T h (by omega) hc hk hr hk' hce,qdX]
    rw[qaZ,qaz (S.T k e),qaZ]
  rw[qbM,t2,sumN_mul,sumN_mul]
  show S.p*(S.T r e*colV P S c t)=_
  rw[qaD,hC,<-qaZ S.p,qaz S.p (S.T r c),qaZ,hE,qbM,qbM]
  generalize (sumN P.m λk=>if k=r then 0 else S.T k c*P.A (S.kept k) t)=X
  generalize (sumN P.m λk=>if k=r then 0 else S.T k e*P.A (S.kept k) t)=Y
  rw[show S.T r e*(S.T r c*P.A (S.kept r) t)=S.T r c*(S.T r e*P.A (S.kept r) t) by rw[qaD]]
  omega
theorem piv_goal {S:Tb} (h:Good P S) {r e:Nat} (he:e<P.n) (hr:r<P.m):∀ c,c<=P.n->(piv S r e).G c=(sumN P.m λi=>P.g ((piv S r e).kept i)*(piv S r e).T i c) - (piv S r e).p*gainC P (piv S r e) c:=by
 intro c hc
 have hp:=h.pos
 have hE:=h.goal e (by omega)
 have gE:gainC P S e=P.g (S.free e):=if_pos he
 rw[gE,sumN_split hr]at hE
 have kr:(piv S r e).kept r=S.free e:=if_pos rfl
 have kn:∀ i,i≠r->(piv S r e).kept i=S.kept i:=λi hi=>if_neg hi
 rw[sumN_split hr,kr]
 by_cases hce:c=e
 ·subst hce
  have c1:gainC P (piv S r c) c=P.g (S.kept r):=by
   unfold gainC;rw[if_pos he];show P.g (if c=c then _ else _)=_;rw[if_pos rfl]
  have t1:(piv S r c).T r c=S.p:=by show (if r=r then (if c=c then _ else _) else _)=_;rw[if_pos rfl,if_pos rfl]
  have t2:(sumN P.m λk=>if k=r then 0 else P.g ((piv S r c).kept k)*(piv S r c).T k c)=- sumN P.m λk=>if k=r then 0 else P.g (S.kept k)*S.T k c:=by
   have:(sumN P.m λk=>if k=r then 0 else P.g ((piv S r c).kept k)*(piv S r c).T k c)=sumN P.m λk=>(-1)*(if k=r then 0 else P.g (S.kept k)*S.T k c):=by
    refine sumN_congr λk hk=>?_
    by_cases hk':k=r
    ·rw[if_pos hk',if_pos hk'];rfl
    ·rw[if_neg hk',if_neg hk',kn k hk']
     show _*(if k=r then _ else (if c=c then - S.T k c else _))=_
     rw[if_neg hk',if_pos rfl,qdY,qbR,qbQ]
   rw[this,sumN_mul];omega
  rw[c1,t1,t2]
  show (if c=c then - S.G c else _)=_ - S.T r c*_
  rw[if_pos rfl,hE,qaz (S.T r c),qaz S.p]
  omega
 ·have c1:gainC P (piv S r e) c=gainC P S c:=by
   unfold gainC
   by_cases hcn:c<P.n
   ·rw[if_pos hcn,if_pos hcn];show P.g (if c=e then _ else _)=_;rw[if_neg hce]
   ·rw[if_neg hcn,if_neg hcn]
  have t1:(piv S r e).T r c=S.T r c:=by show (if r=r then (if c=e then _ else _) else _)=_;rw[if_pos rfl,if_neg hce]
  have hC:=h.goal c hc
  rw[sumN_split hr]at hC
  rw[c1,t1]
  have t2:S.p*(sumN P.m λk=>if k=r then 0 else P.g ((piv S r e).kept k)*(piv S r e).T k c)=(sumN P.m λk=>S.T r e*(if k=r then 0 else P.g (S.kept k)*S.T k c)) - sumN P.m λk=>S.T r c*(if k=r then 0 else P.g (S.kept k)*S.T k e):=by
   rw[<-sumN_mul,<-sumN_sub]
   refine sumN_congr λk hk=>?_
   by_cases hk':k=r
   ·rw[if_pos hk',if_pos hk',if_pos hk'];simp
   ·rw[if_neg hk',if_neg hk',if_neg hk',kn k hk',qaD,piv_T h (by omega) hc hk hr hk' hce,qcM]
    rw[qaD,qaz (S.T k e),qaD (S.T r c)]
  rw[sumN_mul,sumN_mul]at t2
  have key:S.T r e*S.G c - S.G e*S.T r c=S.p*(P.g (S.free e)*S.T r c+(sumN P.m λk=>if k=r then 0 else P.g ((piv S r e).kept k)*(piv S r e).T k c) - S.T r e*gainC P S c):=by
   rw[qcM,qbM,t2,hC,hE]
   generalize (sumN P.m λk=>if k=r then 0 else P.g (S.kept k)*S.T k c)=X
   generalize (sumN P.m λk=>if k=r then 0 else P.g (S.kept k)*S.T k e)=Y
   rw[qcM,qbM,qdX,qdp]
   rw[show S.T r e*(P.g (S.kept r)*S.T r c)=P.g (S.kept r)*S.T r e*S.T r c by rw[qaD,qaZ]]
   rw[show S.T r e*(S.p*gainC P S c)=S.p*(S.T r e*gainC P S c) by rw[qaD]]
   rw[show S.p*(P.g (S.free e)*S.T r c)=S.p*P.g (S.free e)*S.T r c by rw[qaZ]]
   rw[qaz Y]
   omega
  show (if c=e then _ else (S.T r e*S.G c - S.G e*S.T r c) / S.p)=_
  rw[if_neg hce,key,qeY _ (by omega)]
  rfl
theorem Good.piv {S:Tb} (h:Good P S) {r e:Nat} (he:e<P.n) (hr:r<P.m) (hq:0<S.T r e):Good P (piv S r e):=by
 refine⟨hq,?_,piv_eq h he hr,piv_goal h he hr⟩
 show S.T r e=_
 rw[h.entry (by omega) hr]
 refine congrArg _ ?_
 funext i
 unfold basis
 by_cases hi:i=r
 ·rw[hi,upd_same]
  show colV P S e=P.A (if r=r then _ else _)
  rw[if_pos rfl];exact if_pos he
 ·rw[upd_ne hi]
  show _=P.A (if i=r then _ else _)
  rw[if_neg hi]
end Sx
namespace Sx
def lexP (M:Nat) (v:Nat->Int):Prop:=∃ j,j<M/\0<v j/\∀ l,l<j->v l=0
theorem lexP_congr {M:Nat}{v w:Nat->Int} (h:∀ s,s<M->v s=w s) (hv:lexP M v):lexP M w:=by
 obtain⟨j,h1,h2,h3⟩:=hv
 exact⟨j,h1,by rw[<-h j h1];exact h2,λl hl=>by rw[<-h l (by omega)];exact h3 l hl⟩
theorem lexP_mul {M:Nat}{v:Nat->Int}{c:Int} (hc:0<c) (hv:lexP M v):lexP M λs=>c*v s:=by
 obtain⟨j,h1,h2,h3⟩:=hv
 exact⟨j,h1,qdo hc h2,λl hl=>by show c*v l=0;rw[h3 l hl,qas]⟩
theorem lexP_unmul {M:Nat}{v:Nat->Int}{c:Int} (hc:0<c) (hv:lexP M λs=>c*v s):lexP M v:=by
 obtain⟨j,h1,h2,h3⟩:=hv
 have h2':0<v j*c:=by rw[qaz];exact h2
 refine⟨j,h1,Int.pos_of_mul_pos_left h2' hc,λl hl=>?_⟩
 have:=h3 l hl
 rcases qcd.mp this with h|h
 ·omega
 ·exact h
theorem lexP_add {M:Nat}{v w:Nat->Int} (hv:lexP M v) (hw:lexP M w):lexP M λs=>v s+w s:=by
 obtain⟨j,h1,h2,h3⟩:=hv
 obtain⟨k,k1,k2,k3⟩:=hw
 rcases qfV j k with h|h|h
 ·exact⟨j,h1,by show 0<v j+w j;rw[k3 j h];omega,λl hl=>by show v l+w l=0;rw[h3 l hl,k3 l (by omega)];rfl⟩
 ·subst h
  exact⟨j,h1,by show 0<v j+w j;omega,λl hl=>by show v l+w l=0;rw[h3 l hl,k3 l hl];rfl⟩
 ·exact⟨k,k1,by show 0<v k+w k;rw[h3 k h];omega,λl hl=>by show v l+w l=0;rw[h3 l (by omega),k3 l hl];rfl⟩
theorem lexP_addn {M:Nat}{v w:Nat->Int}{c:Int} (hc:0<=c) (hv:lexP M v) (hw:lexP M w):lexP M λs=>v s+c*w s:=by
 rcases qfM hc with h|h
 ·exact lexP_add hv (lexP_mul h hw)
 ·subst h
  exact lexP_congr (λs _=>by rw[qbJ,qcQ]) hv
theorem lexP_not0 {M:Nat}{v:Nat->Int} (h:∀ s,s<M->v s=0):¬ lexP M v:=λ⟨j,h1,h2,_⟩=>by rw[h j h1]at h2;omega
theorem lexP_first {M:Nat}{v:Nat->Int} (hM:0<M) (h:lexP M v):0<=v 0:=by
 obtain⟨j,h1,h2,h3⟩:=h
 rcases Nat.eq_zero_or_pos j with e|e
 ·subst e;omega
 ·rw[h3 0 e];exact qcv _
variable (P:Pb)
def XV (s:Nat):Vec:=if s=0 then P.b else unit (s - 1)
def LV (S:Tb) (i s:Nat):Int:=det P.m (upd (basis P S) i (XV P s))
def ZV (S:Tb) (s:Nat):Int:=sumN P.m λi=>P.g (S.kept i)*LV P S i s
structure Named (S:Tb):Prop where
 one:∀ r,r<P.m->P.A (P.n+r)=unit r
 all:∀ k,k<P.n+P.m->(∃ c,c<P.n/\S.free c=k)\/∃ i,i<P.m/\S.kept i=k
 bound:(∀ c,c<P.n->S.free c<P.n+P.m)/\∀ i,i<P.m->S.kept i<P.n+P.m
def Fe (S:Tb):Prop:=∀ i,i<P.m->lexP (P.m+1) (LV P S i)
variable {P}
theorem Good.rep_free {S:Tb} (h:Good P S) {c:Nat} (hc:c<=P.n) (t:Nat):S.p*colV P S c t=sumN P.m λi=>det P.m (upd (basis P S) i (colV P S c))*P.A (S.kept i) t:=by
 rw[h.eq c hc t]
 exact sumN_congr λi hi=>by rw[h.entry hc hi]
theorem det_kept {S:Tb} (h:Good P S) {i j:Nat} (hi:i<P.m) (hj:j<P.m):det P.m (upd (basis P S) i (basis P S j))=if i=j then S.p else 0:=by
 by_cases e:i=j
 ·subst e;rw[upd_self,if_pos rfl,h.dt]
 ·rw[if_neg e]
  exact det_eq0 _ hi hj e (by rw[upd_same,upd_ne (qbo e)])
theorem Good.rep_kept {S:Tb} (h:Good P S) {j:Nat} (hj:j<P.m) (t:Nat):S.p*P.A (S.kept j) t=sumN P.m λi=>det P.m (upd (basis P S) i (P.A (S.kept j)))*P.A (S.kept i) t:=by
 rw[sumN_single hj λi hi hne=>?_]
 ·have:=det_kept h hj hj
  rw[if_pos rfl]at this
  have e:det P.m (upd (basis P S) j (P.A (S.kept j)))=S.p:=this
  rw[e]
 ·have:=det_kept h hi hj
  rw[if_neg hne]at this
  have e:det P.m (upd (basis P S) i (P.A (S.kept j)))=0:=this
  rw[e,qbJ]
theorem Good.rep {S:Tb} (h:Good P S) (hn:Named P S) {s:Nat} (hs:s<P.m+1) (t:Nat):S.p*XV P s t=sumN P.m λi=>LV P S i s*P.A (S.kept i) t:=by
 unfold LV
 by_cases h0:s=0
 ·subst h0
  have e:XV P 0=colV P S P.n:=by unfold XV colV;rw[if_pos rfl,if_neg (qaR _)]
  rw[e]
  exact h.rep_free (qal _) t
 ·have e:XV P s=P.A (P.n+(s - 1)):=by unfold XV;rw[if_neg h0,hn.one (s - 1) (by omega)]
  rw[e]
  rcases hn.all (P.n+(s - 1)) (by omega) with⟨c,hc,hk⟩|⟨j,hj,hk⟩
  ·have e2:P.A (P.n+(s - 1))=colV P S c:=by unfold colV;rw[if_pos hc,hk]
   rw[e2]
   exact h.rep_free (by omega) t
  ·rw[<-hk]
   exact h.rep_kept hj t
theorem piv_basis {S:Tb}{r e:Nat} (he:e<P.n):basis P (piv S r e)=upd (basis P S) r (colV P S e):=by
 funext i
 unfold basis
 by_cases hi:i=r
 ·rw[hi,upd_same]
  show P.A (if r=r then _ else _)=colV P S e
  rw[if_pos rfl];exact (if_pos he).symm
 ·rw[upd_ne hi]
  show P.A (if i=r then _ else _)=_
  rw[if_neg hi]
theorem LV_r {S:Tb}{r e s:Nat} (he:e<P.n):LV P (piv S r e) r s=LV P S r s:=by
 unfold LV
 rw[piv_basis he,upd_upd]
theorem LV_i {S:Tb} (h:Good P S) (hn:Named P S) {r e s i:Nat} (he:e<P.n) (hs:s<P.m+1) (hi:i<P.m) (hr:r<P.m) (hir:i≠r):S.p*LV P (piv S r e) i s=S.T r e*LV P S i s - S.T i e*LV P S r s:=by
 unfold LV
 rw[piv_basis he]
 exact cramer2 (basis P S) (colV P S e) (XV P s) S.p h.dt (by have:=h.pos;omega) (λk=>S.T k e) (λk=>LV P S k s) (λt=>h.eq e (by omega) t) (λt=>h.rep hn hs t) hi hr hir
theorem ZV_piv {S:Tb} (h:Good P S) (hn:Named P S) {r e s:Nat} (he:e<P.n) (hs:s<P.m+1) (hr:r<P.m):S.p*ZV P (piv S r e) s=S.T r e*ZV P S s - S.G e*LV P S r s:=by
 have hE:=h.goal e (by omega)
 have gE:gainC P S e=P.g (S.free e):=if_pos he
 rw[gE,sumN_split hr]at hE
 unfold ZV
 have kr:(piv S r e).kept r=S.free e:=if_pos rfl
 have kn:∀ i,i≠r->(piv S r e).kept i=S.kept i:=λi hi=>if_neg hi
 rw[sumN_split hr,kr,LV_r he,qbM]
 have t2:S.p*(sumN P.m λk=>if k=r then 0 else P.g ((piv S r e).kept k)*LV P (piv S r e) k s)=(sumN P.m λk=>S.T r e*(if k=r then 0 else P.g (S.kept k)*LV P S k s)) - sumN P.m λk=>LV P S r s*(if k=r then 0 else P.g (S.kept k)*S.T k e):=by
  rw[<-sumN_mul,<-sumN_sub]
  refine sumN_congr λk hk=>?_
  by_cases hk':k=r
  ·rw[if_pos hk',if_pos hk',if_pos hk'];simp
  ·rw[if_neg hk',if_neg hk',if_neg hk',kn k hk',qaD,LV_i h hn he hs hk hr hk',qcM]
   rw[qaD,qaz (S.T k e),qaD (LV P S r s)]
 rw[t2,sumN_mul,sumN_mul,sumN_split hr (λi=>P.g (S.kept i)*LV P S i s),hE]
 generalize (sumN P.m λk=>if k=r then 0 else P.g (S.kept k)*LV P S k s)=X
 generalize (sumN P.m λk=>if k=r then 0 else P.g (S.kept k)*S.T k e)=Y
 generalize LV P S r s=L
 rw[qdX,qdp,qbM]
 rw[show S.T r e*(P.g (S.kept r)*L)=P.g (S.kept r)*S.T r e*L by rw[qaD,qaZ]]
 rw[show S.p*(P.g (S.free e)*L)=S.p*P.g (S.free e)*L by rw[qaZ]]
 rw[qaz Y]
 omega
def less (P:Pb) (S S':Tb):Prop:=lexP (P.m+1) λs=>S.p*ZV P S' s - S'.p*ZV P S s
theorem less_trans {S1 S2 S3:Tb} (h1:0<S1.p) (h2:0<S2.p) (h3:0<S3.p) (a:less P S1 S2) (b:less P S2 S3):less P S1 S3:=by
 refine lexP_unmul h2 (lexP_congr (λs _=>?_) (lexP_add (lexP_mul h1 b) (lexP_mul h3 a)))
 generalize ZV P S1 s=x
 generalize ZV P S2 s=y
 generalize ZV P S3 s=z
 rw[qcM,qcM,qcM]
 rw[show S1.p*(S3.p*y)=S3.p*(S1.p*y) by rw[qaD],show S1.p*(S2.p*z)=S2.p*(S1.p*z) by rw[qaD],show S3.p*(S2.p*x)=S2.p*(S3.p*x) by rw[qaD]]
 omega
theorem same_kept {S S':Tb} (h:Good P S) (h':Good P S') (e:∀ i,i<P.m->S.kept i=S'.kept i):S.p=S'.p/\∀ s,ZV P S s=ZV P S' s:=by
 have hb:∀ i,i<P.m->basis P S i=basis P S' i:=λi hi=>by unfold basis;rw[e i hi]
 have hL:∀ i s,i<P.m->LV P S i s=LV P S' i s:=λi s hi=>by
  unfold LV
  refine det_congr P.m λk t hk _=>?_
  by_cases hki:k=i
  ·rw[hki,upd_same,upd_same]
  ·rw[upd_ne hki,upd_ne hki,hb k hk]
 refine⟨?_,λs=>?_⟩
 ·rw[h.dt,h'.dt]
  exact det_congr P.m λk t hk _=>by rw[hb k hk]
 ·unfold ZV
  exact sumN_congr λi hi=>by rw[e i hi,hL i s hi]
theorem less_kept {S S':Tb} (h:Good P S) (h':Good P S') (l:less P S S'):¬ ∀ i,i<P.m->S.kept i=S'.kept i:=λe=>by
 obtain⟨e1,e2⟩:=same_kept h h' e
 refine lexP_not0 (λs _=>?_) l
 rw[e1,e2 s];omega
theorem lines_unlike {S:Tb} (h:Good P S) (hA:∀ i,i<P.m->∀ t,P.m<=t->P.A (S.kept i) t=0) {i r:Nat} (hi:i<P.m) (hr:r<P.m) (hir:i≠r) {a b:Int} (ha:0<a) (hs:∀ s,s<P.m+1->a*LV P S i s=b*LV P S r s):False:=by
 have key:∀ k,k<P.m->det P.m (upd (basis P S) k (basis P S i))=sumN P.m λs=>basis P S i s*LV P S k (s+1):=λk hk=>by
  have e:basis P S i=λt=>sumN P.m λs=>basis P S i s*unit s t:=by
   funext t
   by_cases ht:t<P.m
   ·rw[sumN_single ht λs _ hne=>by unfold unit;rw[if_neg (qbo hne),qas]]
    unfold unit
    rw[if_pos rfl,qb4]
   ·rw[sumN_congr (g:=λ_=>0) λs hs'=>by unfold unit;rw[if_neg (by omega),qas],sumN_zero]
    exact hA i hi t (by omega)
  have e2:=det_sum (m:=P.m) (basis P S) hk (λs=>basis P S i s) unit P.m
  rw[<-e]at e2
  rw[e2]
  refine sumN_congr λs hs'=>?_
  unfold LV XV
  rw[if_neg (by omega),qb7]
 have k1:=key i hi
 have k2:=key r hr
 rw[det_kept h hi hi,if_pos rfl]at k1
 rw[det_kept h hr hi,if_neg (qbo hir)]at k2
 have:a*S.p=b*0:=by
  rw[k1,k2,<-sumN_mul,<-sumN_mul]
  refine sumN_congr λs hs'=>?_
  rw[qaD,hs (s+1) (by omega),qaD]
 have:=qdo ha h.pos
 omega
theorem Named.piv {S:Tb} (hn:Named P S) {r e:Nat} (he:e<P.n) (hr:r<P.m):Named P (piv S r e):=by
 refine⟨hn.one,λk hk=>?_,λc hc=>?_,λi hi=>?_⟩
 ·rcases hn.all k hk with⟨c,hc,e1⟩|⟨i,hi,e1⟩
  ·by_cases hce:c=e
   ·subst hce;exact .inr ⟨r,hr,by show (if r=r then _ else _)=_;rw[if_pos rfl];exact e1⟩
   ·exact .inl ⟨c,hc,by show (if c=e then _ else _)=_;rw[if_neg hce];exact e1⟩
  ·by_cases hir:i=r
   ·subst hir;exact .inl ⟨e,he,by show (if e=e then _ else _)=_;rw[if_pos rfl];exact e1⟩
   ·exact .inr ⟨i,hi,by show (if i=r then _ else _)=_;rw[if_neg hir];exact e1⟩
 ·show (if c=e then _ else _)<_
  split
  ·exact hn.bound.2 r hr
  ·exact hn.bound.1 c hc
 ·show (if i=r then _ else _)<_
  split
  ·exact hn.bound.1 e he
  ·exact hn.bound.2 i hi
theorem step {S:Tb} (h:Good P S) (hn:Named P S) (hf:Fe P S) {r e:Nat} (he:e<P.n) (hr:r<P.m) (hq:0<S.T r e) (hg:S.G e<0)
  (hmin:∀ i,i<P.m->i≠r->0<S.T i e->lexP (P.m+1) λs=>S.T r e*LV P S i s - S.T i e*LV P S r s) :
  Good P (piv S r e)/\Named P (piv S r e)/\Fe P (piv S r e)/\less P S (piv S r e):=by
 refine⟨h.piv he hr hq,hn.piv he hr,λi hi=>?_,?_⟩
 ·by_cases hir:i=r
  ·subst hir
   exact lexP_congr (λs _=>(LV_r he).symm) (hf i hi)
  ·refine lexP_unmul h.pos (lexP_congr (λs hs=>(LV_i h hn he hs hi hr hir).symm) ?_)
   by_cases ht:0<S.T i e
   ·exact hmin i hi hir ht
   ·refine lexP_congr (λs _=>?_) (lexP_addn (c:=- S.T i e) (by omega) (lexP_mul hq (hf i hi)) (hf r hr))
    show S.T r e*LV P S i s+- S.T i e*LV P S r s=_
    rw[qbR];omega
 ·refine lexP_congr (λs hs=>?_) (lexP_mul (c:=- S.G e) (by omega) (hf r hr))
  show - S.G e*LV P S r s=S.p*ZV P (piv S r e) s - S.T r e*ZV P S s
  rw[ZV_piv h hn he hs hr,qbR];omega
theorem filt_len (N:Nat):∀ l:List Nat,(l.filter λx=>decide (x=N)).length+(l.filter λx=>decide (x≠N)).length=l.length
 |[]=>rfl
 |x::l=>by
  have ih:=filt_len N l
  by_cases h:x=N
  ·rw[qdh (by simpa using h),qdi (by simpa using h),qaq,qaq];omega
  ·rw[qdi (by simpa using h),qdh (by simpa using h),qaq,qaq];omega
theorem nodup_le:∀ (N:Nat) (l:List Nat),l.Nodup->(∀ x∈l,x<N)->l.length<=N:=by
 intro N
 induction N with
 |zero=>
  intro l _ h
  cases l with
  |nil=>exact qal _
  |cons x l=>exact absurd (h x qae) (by omega)
 |succ N ih=>
  intro l hl h
  have h1:=ih (l.filter λx=>decide (x≠N)) (hl.filter _) λx hx=>by
   have:=qcC.mp hx
   have h2:=h x this.1
   have h3:x≠N:=by simpa using this.2
   omega
  have h2:(l.filter λx=>decide (x=N)).length<=1:=by
   have hn:=hl.filter λx=>decide (x=N)
   have hall:∀ x∈l.filter (λx=>decide (x=N)),x=N:=λx hx=>by simpa using (qcC.mp hx).2
   match l.filter (λx=>decide (x=N)),hn,hall with
   |[],_,_=>exact qcL _
   |[x],_,_=>exact qal _
   |x::y::r,hn,hall=>
    have e1:=hall x qae
    have e2:=hall y (qah _ qae)
    exact absurd (e1.trans e2.symm) ((qfy.mp hn).1 y qae)
  have h3:=filt_len N l
  omega
def code (b:Nat) (f:Nat->Nat):Nat->Nat
 |0=>0
 |m+1=>code b f m*b+f m
theorem code_lt {b:Nat}{f:Nat->Nat}:∀ {m:Nat},(∀ i,i<m->f i<b)->code b f m<b^m
 |0,_=>Nat.one_pos
 |m+1,h=>by
  have ih:=code_lt (m:=m) λi hi=>h i (by omega)
  have h1:=h m (by omega)
  rw[code,qel]
  calc code b f m*b+f m<code b f m*b+b:=by omega
   _=(code b f m+1)*b:=by rw[qhI,qfw]
   _<=b^m*b:=qbX b ih
theorem code_inj {b:Nat}{f g:Nat->Nat}:∀ {m:Nat},(∀ i,i<m->f i<b)->(∀ i,i<m->g i<b)->code b f m=code b g m->∀ i,i<m->f i=g i
 |0,_,_,_,i,hi=>absurd hi (by omega)
 |m+1,hf,hg,e,i,hi=>by
  rw[code,code]at e
  have h1:=hf m (by omega)
  have h2:=hg m (by omega)
  have e1:f m=g m:=by
   have:=congrArg (·%b) e
   simp only[Nat.mul_add_mod_self_right]at this
   rw[qf9 h1,qf9 h2]at this
   exact this
  have e2:code b f m=code b g m:=by
   rw[e1]at e
   exact Nat.eq_of_mul_eq_mul_right (by omega:0<b) (by omega)
  by_cases him:i=m
  ·rw[him];exact e1
  ·exact code_inj (m:=m) (λi hi=>hf i (by omega)) (λi hi=>hg i (by omega)) e2 i (by omega)
end Sx
namespace Sx
def leastR (tops bots:Nat->Int):List Nat->List Nat->List Nat
 |[],least=>least
 |p::ps,[]=>leastR tops bots ps [p]
 |p::ps,l0::r=>if tops p*bots l0 > tops l0*bots p then leastR tops bots ps (l0::r) else if tops p*bots l0<tops l0*bots p then leastR tops bots ps [p] else leastR tops bots ps ((l0::r)++[p])
structure Least (tops bots:Nat->Int) (ps out:List Nat):Prop where
 ne:ps≠[]->out≠[]
 sub:∀ x∈out,x∈ps
 nd:ps.Nodup->out.Nodup
 eq:∀ x∈out,∀ y∈out,tops x*bots y=tops y*bots x
 lt:∀ x∈out,∀ y∈ps,y∉out->tops x*bots y<tops y*bots x
theorem ratio_trans {a b c p q r:Int} (hp:0<p) (hq:0<q) (hr:0<r) (h1:a*q<=b*p) (h2:b*r<=c*q):a*r<=c*p:=by
 have e1:a*q*r<=b*p*r:=qbp h1 (by omega)
 have e2:b*r*p<=c*q*p:=qbp h2 (by omega)
 rw[qaX b p r]at e1
 have e3:a*r*q<=c*p*q:=by rw[qaX a r q,qaX c p q];omega
 exact Int.le_of_mul_le_mul_right e3 hq
theorem ratio_lt {a b c p q r:Int} (hp:0<p) (hq:0<q) (hr:0<r) (h1:a*q<b*p) (h2:b*r<=c*q):a*r<c*p:=by
 have e1:a*q*r<b*p*r:=qcZ h1 hr
 have e2:b*r*p<=c*q*p:=qbp h2 (by omega)
 rw[qaX b p r]at e1
 have e3:a*r*q<c*p*q:=by rw[qaX a r q,qaX c p q];omega
 exact qc5 e3 (by omega)
theorem leastR_ok {tops bots:Nat->Int}:∀ (ps done least:List Nat),(∀ x∈done++ps,0<bots x)->(done++ps).Nodup->Least tops bots done least->Least tops bots (done++ps) (leastR tops bots ps least):=by
 intro ps
 induction ps with
 |nil=>intro done least _ _ h;rw[qbw];cases least<;>exact h
 |cons p ps ih=>
  intro done least hb hnd h
  have hp:0<bots p:=hb p (qap _ qae)
  have hpd:p∉done:=λhm=>by
   rw[qcf]at hnd
   exact hnd.2.2 p hm p qae rfl
  have e:done++p::ps=(done++[p])++ps:=by simp
  have hdn:done.Nodup:=(qcf.mp hnd).1
  rw[e]at hb hnd ⊢
  cases least with
  |nil=>
   have hd:done=[]:=by
    cases done with
    |nil=>rfl
    |cons x d=>exact absurd rfl (h.ne (by simp))
   subst hd
   rw[leastR]
   refine ih _ _ hb hnd ⟨λ_=>by simp,λx hx=>by simpa using hx,λ_=>by simp,λx hx y hy=>?_,λx hx y hy hn=>absurd (by simpa using hy) (by simpa using hn)⟩
   rw[qaj.mp hx,qaj.mp hy]
  |cons l0 r=>
   have hl0:l0∈l0::r:=qae
   have hl0d:=h.sub l0 hl0
   have hb0:0<bots l0:=hb l0 (qaU _ (qaU _ hl0d))
   have hbd:∀ y∈done,0<bots y:=λy hy=>hb y (qaU _ (qaU _ hy))
   rw[leastR]
   by_cases c1:tops p*bots l0 > tops l0*bots p
   ·rw[if_pos c1]
    refine ih _ _ hb hnd ⟨λ_=>by simp,λx hx=>qaU _ (h.sub x hx),λ_=>h.nd hdn,h.eq,λx hx y hy hn=>?_⟩
    rcases qaQ.mp hy with hy|hy
    ·exact h.lt x hx y hy hn
    ·rw[qaj.mp hy]
     have hx0:=h.eq l0 hl0 x hx
     have hxb:0<bots x:=hbd x (h.sub x hx)
     -- x is as l0,l0 is below p
     exact Int.lt_of_lt_of_le (by
      have e1:tops x*bots l0*bots p=tops l0*bots p*bots x:=by rw[<-hx0,qaX]
      have e2:tops l0*bots p*bots x<tops p*bots l0*bots x:=qcZ c1 hxb
      have e3:tops x*bots p*bots l0<tops p*bots x*bots l0:=by rw[qaX,e1,qaX (tops p)];exact e2
      exact qc5 e3 (by omega)) (qcv _)
   ·rw[if_neg c1]
    by_cases c2:tops p*bots l0<tops l0*bots p
    ·rw[if_pos c2]
     refine ih _ _ hb hnd ⟨λ_=>by simp,λx hx=>by rw[qaj.mp hx];simp,λ_=>by simp,λx hx y hy=>by rw[qaj.mp hx,qaj.mp hy],λx hx y hy hn=>?_⟩
     rw[qaj.mp hx]
     rcases qaQ.mp hy with hy|hy
     ·have hyb:=hbd y hy
      have hle:tops l0*bots y<=tops y*bots l0:=by
       by_cases hm:y∈l0::r
       ·exact Int.le_of_eq (h.eq l0 hl0 y hm)
       ·exact Int.le_of_lt (h.lt l0 hl0 y hy hm)
      exact ratio_lt hp hb0 hyb c2 hle
     ·exact absurd (by simpa using hy) (by simpa using hn)
    ·rw[if_neg c2]
     have ceq:tops p*bots l0=tops l0*bots p:=by omega
     have hpx:∀ x∈l0::r,tops p*bots x=tops x*bots p:=λx hx=>by
      have hx0:=h.eq l0 hl0 x hx
      have hxb:0<bots x:=hbd x (h.sub x hx)
      have e1:tops p*bots x*bots l0=tops x*bots p*bots l0:=by
       rw[qaX,ceq,qaX,hx0,qaX]
      exact qeN (by omega) e1
     refine ih _ _ hb hnd ⟨λ_=>by simp,λx hx=>?_,λ_=>?_,λx hx y hy=>?_,λx hx y hy hn=>?_⟩
     ·rcases qaQ.mp hx with hx|hx
      ·exact qaU _ (h.sub x hx)
      ·exact qap _ hx
     ·rw[qcf]
      refine⟨h.nd hdn,by simp,λx hx y hy e=>?_⟩
      rw[qaj.mp hy]at e
      rw[e]at hx
      exact hpd (h.sub p hx)
     ·rcases qaQ.mp hx with hx|hx<;>rcases qaQ.mp hy with hy|hy
      ·exact h.eq x hx y hy
      ·rw[qaj.mp hy];exact (hpx x hx).symm
      ·rw[qaj.mp hx];exact hpx y hy
      ·rw[qaj.mp hx,qaj.mp hy]
     ·have hyd:y∈done:=by
       rcases qaQ.mp hy with hy|hy
       ·exact hy
       ·exact absurd (qap _ hy) hn
      have hyn:y∉l0::r:=λhm=>hn (qaU _ hm)
      rcases qaQ.mp hx with hx|hx
      ·exact h.lt x hx y hyd hyn
      ·rw[qaj.mp hx]
       have hl:=h.lt l0 hl0 y hyd hyn
       have hyb:=hbd y hyd
       have e1:tops p*bots y*bots l0<tops y*bots p*bots l0:=by
        rw[qaX,ceq,qaX (tops l0),qaX (tops y)]
        exact qcZ hl hp
       exact qc5 e1 (by omega)
theorem least_of {tops bots:Nat->Int}{ps:List Nat} (hb:∀ x∈ps,0<bots x) (hnd:ps.Nodup):Least tops bots ps (leastR tops bots ps []):=by
 have:=leastR_ok (tops:=tops) (bots:=bots) ps [] [] (by simpa using hb) (by simpa using hnd) ⟨λh=>absurd rfl h,λx hx=>(nomatch hx),λ_=>qc9,λx hx=>(nomatch hx),λx hx=>(nomatch hx)⟩
 simpa using this
def leaveL (W:Nat->Nat->Int) (bots:Nat->Int):List Nat->List Nat->List Nat
 |[],ps=>ps
 |s::ss,ps=>if ps.length<2 then ps else leaveL W bots ss (leastR (W s) bots ps [])
structure Lv (W:Nat->Nat->Int) (bots:Nat->Int) (C:List Nat) (s:Nat) (ps:List Nat):Prop where
 ne:ps≠[]
 nd:ps.Nodup
 sub:∀ x∈ps,x∈C
 eq:∀ x∈ps,∀ y∈ps,∀ l,l<s->bots x*W l y - bots y*W l x=0
 lt:∀ x∈ps,∀ y∈C,y∉ps->lexP s λl=>bots x*W l y - bots y*W l x
theorem lexP_mono {M N:Nat}{v:Nat->Int} (h:M<=N) (hv:lexP M v):lexP N v:=let ⟨j,h1,h2,h3⟩:=hv;⟨j,by omega,h2,h3⟩
theorem Lv.step {W:Nat->Nat->Int}{bots:Nat->Int}{C ps:List Nat}{s:Nat} (hb:∀ x∈C,0<bots x) (h:Lv W bots C s ps):Lv W bots C (s+1) (leastR (W s) bots ps []):=by
 have L:=least_of (tops:=W s) (bots:=bots) (ps:=ps) (λx hx=>hb x (h.sub x hx)) h.nd
 refine⟨L.ne h.ne,L.nd h.nd,λx hx=>h.sub x (L.sub x hx),λx hx y hy l hl=>?_,λx hx y hy hn=>?_⟩
 ·rcases qfd l s with h1|h1
  ·exact h.eq x (L.sub x hx) y (L.sub y hy) l h1
  ·have:l=s:=by omega
   subst this
   have:=L.eq y hy x hx
   rw[qaz (bots x),qaz (bots y),this];omega
 ·by_cases hm:y∈ps
  ·have hl:=L.lt x hx y hm hn
   refine⟨s,by omega,?_,λl hl'=>h.eq x (L.sub x hx) y hm l hl'⟩
   show 0<bots x*W s y - bots y*W s x
   rw[qaz (bots x),qaz (bots y)];omega
  ·exact lexP_mono (by omega) (h.lt x (L.sub x hx) y hy hm)
theorem leaveL_ok {W:Nat->Nat->Int}{bots:Nat->Int}{C:List Nat} (hb:∀ x∈C,0<bots x):∀ (k s:Nat) (ps:List Nat),Lv W bots C s ps->∃ s',s<=s'/\s'<=s+k/\Lv W bots C s' (leaveL W bots ((qag k).map λj=>s+j) ps)/\(s'<s+k->(leaveL W bots ((qag k).map λj=>s+j) ps).length<2):=by
 intro k
 induction k with
 |zero=>intro s ps h;exact⟨s,qal _,qal _,h,λh=>absurd h (by omega)⟩
 |succ k ih=>
  intro s ps h
  have e:(qag (k+1)).map (λj=>s+j)=s::(qag k).map λj=>(s+1)+j:=by
   rw[qb5,qay,qbs]
   congr 1
   refine qct λj _=>?_
   show s+(j+1)=_
   omega
  rw[e,leaveL]
  by_cases hl:ps.length<2
  ·rw[if_pos hl]
   exact⟨s,qal _,by omega,h,λ_=>hl⟩
  ·rw[if_neg hl]
   obtain⟨s',h1,h2,h3,h4⟩:=ih (s+1) _ (h.step hb)
   exact⟨s',by omega,by omega,h3,λh=>h4 (by omega)⟩
variable {P:Pb}
theorem leaving_ok {S:Tb} (h:Good P S) (hA:∀ i,i<P.m->∀ t,P.m<=t->P.A (S.kept i) t=0) {e:Nat}{C:List Nat} (hC:∀ i,i∈C↔i<P.m/\0<S.T i e) (hn:C.Nodup) (hne:C≠[]) :
  ∃ r,leaveL (λs i=>LV P S i s) (λi=>S.T i e) ((qag (P.m+1)).map λj=>0+j) C=[r]/\r<P.m/\0<S.T r e/\∀ i,i<P.m->i≠r->0<S.T i e->lexP (P.m+1) λs=>S.T r e*LV P S i s - S.T i e*LV P S r s:=by
 have hb:∀ x∈C,0<S.T x e:=λx hx=>((hC x).mp hx).2
 have h0:Lv (λs i=>LV P S i s) (λi=>S.T i e) C 0 C:=⟨hne,hn,λx hx=>hx,λx _ y _ l hl=>absurd hl (by omega),λx _ y hy hm=>absurd hy hm⟩
 obtain⟨s',h1,h2,h3,h4⟩:=leaveL_ok hb (P.m+1) 0 C h0
 generalize leaveL (λs i=>LV P S i s) (λi=>S.T i e) ((qag (P.m+1)).map λj=>0+j) C=out at h3 h4
 have hone:out.length<2:=by
  rcases qfd out.length 2 with hl|hl
  ·exact hl
  ·exfalso
   have hs:s'=P.m+1:=by
    rcases qfd s' (0+(P.m+1)) with hlt|hge
    ·exact absurd (h4 hlt) (by omega)
    ·omega
   match out,hl,h3 with
   |x::y::r,_,h3=>
    have hx:=(hC x).mp (h3.sub x qae)
    have hy:=(hC y).mp (h3.sub y (qah _ qae))
    have hxy:x≠y:=λe=>by
     have:=(qfy.mp h3.nd).1 y qae
     exact this e
    refine lines_unlike h hA hy.1 hx.1 (qbo hxy) (a:=S.T x e) (b:=S.T y e) hx.2 λs hs'=>?_
    have:=h3.eq x qae y (qah _ qae) s (by omega)
    omega
 match out,hone,h3 with
 |[],_,h3=>exact absurd rfl h3.ne
 |[r],_,h3=>
  have hr:=(hC r).mp (h3.sub r qae)
  refine⟨r,rfl,hr.1,hr.2,λi hi hir hT=>?_⟩
  exact lexP_mono (by omega) (h3.lt r qae i ((hC i).mpr ⟨hi,hT⟩) (by simpa using hir))
end Sx
namespace Sx
variable {P:Pb}
theorem sumN_swap (n m:Nat) (f:Nat->Nat->Int):(sumN n λi=>sumN m λk=>f i k)=sumN m λk=>sumN n λi=>f i k:=by
 induction n with
 |zero=>rw[sumN];exact (sumN_zero m).symm
 |succ n ih=>
  rw[sumN,ih]
  rw[<-sumN_add]
  rfl
theorem sumN_nonneg {n:Nat}{f:Nat->Int} (h:∀ k,k<n->0<=f k):0<=sumN n f:=by
 induction n with
 |zero=>exact qcv _
 |succ n ih=>rw[sumN];have:=ih λk hk=>h k (by omega);have:=h n (by omega);omega
theorem sumN_append (a b:Nat) (f:Nat->Int):sumN (a+b) f=sumN a f+sumN b λk=>f (a+k):=by
 induction b with
 |zero=>rw[sumN];simp
 |succ b ih=>rw[<-Nat.add_assoc,sumN,ih,sumN];omega
theorem sumN_right (n:Nat) (c:Int) (f:Nat->Int):sumN n (λk=>f k*c)=sumN n f*c:=by
 rw[qaz,<-sumN_mul]
 exact sumN_congr λk _=>qaz _ _
def byName (P:Pb) (S:Tb) (y:Nat->Int) (k:Nat):Int:=sumN P.m λi=>if S.kept i=k then y i else 0
theorem byName_sum (S:Tb) (y:Nat->Int) {N:Nat} (hN:∀ i,i<P.m->S.kept i<N) (f:Nat->Int):(sumN N λk=>byName P S y k*f k)=sumN P.m λi=>y i*f (S.kept i):=by
 have e:(sumN N λk=>byName P S y k*f k)=sumN N λk=>sumN P.m λi=>(if S.kept i=k then y i else 0)*f k:=sumN_congr λk _=>(sumN_right _ _ _).symm
 rw[e,sumN_swap]
 refine sumN_congr λi hi=>?_
 rw[sumN_single (hN i hi) λk _ hne=>by rw[if_neg (qbo hne),qbJ],if_pos rfl]
theorem byName_nonneg {S:Tb}{y:Nat->Int} (h:∀ i,i<P.m->0<=y i) (k:Nat):0<=byName P S y k:=sumN_nonneg λi hi=>by split;exact h i hi;exact qcv _
theorem byName_at {S:Tb}{y:Nat->Int} (hinj:∀ i j,i<P.m->j<P.m->S.kept i=S.kept j->i=j) {i:Nat} (hi:i<P.m):byName P S y (S.kept i)=y i:=by
 unfold byName
 rw[sumN_single hi λj hj hne=>if_neg λe=>hne (hinj j i hj hi e),if_pos rfl]
theorem byName_not {S:Tb}{y:Nat->Int}{k:Nat} (h:∀ i,i<P.m->S.kept i≠k):byName P S y k=0:=by
 unfold byName
 rw[sumN_congr (g:=λ_=>0) λi hi=>if_neg (h i hi),sumN_zero]
theorem unit_sum {m:Nat}{v:Vec}{r:Nat} (hr:r<m):(sumN m λk=>v k*unit k r)=v r:=by
 rw[sumN_single hr λk _ hne=>by unfold unit;rw[if_neg (qbo hne),qas]]
 unfold unit
 rw[if_pos rfl,qb4]
theorem amounts_ok {S:Tb} (h:Good P S) (hn:Named P S) (hT:∀ i,i<P.m->0<=S.T i P.n) {r:Nat} (hr:r<P.m):(sumN P.n λj=>byName P S (λi=>S.T i P.n) j*P.A j r)<=S.p*P.b r:=by
 have e1:=h.eq P.n (qal _) r
 have c1:colV P S P.n=P.b:=by unfold colV;rw[if_neg (qaR _)]
 rw[c1]at e1
 have e2:=byName_sum (P:=P) S (λi=>S.T i P.n) (N:=P.n+P.m) hn.bound.2 λk=>P.A k r
 rw[<-e1,sumN_append]at e2
 have e3:(sumN P.m λk=>byName P S (λi=>S.T i P.n) (P.n+k)*P.A (P.n+k) r)=byName P S (λi=>S.T i P.n) (P.n+r):=by
  rw[sumN_congr (g:=λk=>byName P S (λi=>S.T i P.n) (P.n+k)*unit k r) λk hk=>by rw[hn.one k hk]]
  exact unit_sum (v:=λk=>byName P S (λi=>S.T i P.n) (P.n+k)) hr
 have e4:=byName_nonneg (P:=P) (S:=S) (y:=λi=>S.T i P.n) hT (P.n+r)
 omega
theorem gains_amounts {S:Tb} (h:Good P S) (hn:Named P S) (hg:∀ r,r<P.m->P.g (P.n+r)=0):(sumN P.n λj=>byName P S (λi=>S.T i P.n) j*P.g j)=S.G P.n:=by
 have e2:=byName_sum (P:=P) S (λi=>S.T i P.n) (N:=P.n+P.m) hn.bound.2 P.g
 rw[sumN_append,sumN_congr (n:=P.m) (g:=λ_=>0) λk hk=>by rw[hg k hk,qas],sumN_zero,qcQ]at e2
 rw[e2,h.goal P.n (qal _)]
 have:gainC P S P.n=0:=by unfold gainC;rw[if_neg (qaR _)]
 rw[this,qas,qff]
 exact sumN_congr λi _=>qaz _ _
theorem det_by_units {S:Tb}{v:Vec} (hv:∀ t,P.m<=t->v t=0) {i:Nat} (hi:i<P.m):det P.m (upd (basis P S) i v)=sumN P.m λs=>v s*LV P S i (s+1):=by
 have e:v=λt=>sumN P.m λs=>v s*unit s t:=by
  funext t
  by_cases ht:t<P.m
  ·exact (unit_sum (v:=v) ht).symm
  ·rw[sumN_congr (g:=λ_=>0) λs hs'=>by unfold unit;rw[if_neg (by omega),qas],sumN_zero]
   exact hv t (by omega)
 have e2:=det_sum (m:=P.m) (basis P S) hi (λs=>v s) unit P.m
 rw[<-e]at e2
 rw[e2]
 refine sumN_congr λs hs'=>?_
 unfold LV XV
 rw[if_neg (by omega),qb7]
theorem prices_col {S:Tb}{v:Vec} (hv:∀ t,P.m<=t->v t=0):(sumN P.m λr=>v r*ZV P S (r+1))=sumN P.m λi=>P.g (S.kept i)*det P.m (upd (basis P S) i v):=by
 have e:(sumN P.m λr=>v r*ZV P S (r+1))=sumN P.m λr=>sumN P.m λi=>P.g (S.kept i)*(v r*LV P S i (r+1)):=sumN_congr λr _=>by
  unfold ZV
  rw[<-sumN_mul]
  exact sumN_congr λi _=>by rw[qaD]
 rw[e,sumN_swap]
 refine sumN_congr λi hi=>?_
 rw[sumN_mul,det_by_units hv hi]
theorem prices_ok {S:Tb} (h:Good P S) (hn:Named P S) (hA:∀ k,k<P.n+P.m->∀ t,P.m<=t->P.A k t=0) (hG:∀ c,c<P.n->0<=S.G c) {j:Nat} (hj:j<P.n):S.p*P.g j<=sumN P.m λr=>P.A j r*ZV P S (r+1):=by
 rw[prices_col (hA j (by omega))]
 rcases hn.all j (by omega) with⟨c,hc,e⟩|⟨i,hi,e⟩
 ·have e1:=h.goal c (by omega)
  have g1:gainC P S c=P.g j:=by unfold gainC;rw[if_pos hc,e]
  have c1:colV P S c=P.A j:=by unfold colV;rw[if_pos hc,e]
  have e2:(sumN P.m λi=>P.g (S.kept i)*det P.m (upd (basis P S) i (P.A j)))=sumN P.m λi=>P.g (S.kept i)*S.T i c:=sumN_congr λi hi=>by rw[<-c1,<-h.entry (by omega) hi]
  rw[g1]at e1
  rw[e2]
  have:=hG c hc
  omega
 ·rw[sumN_single hi λk hk hne=>?_]
  ·have:=det_kept h hi hi
   rw[if_pos rfl]at this
   have e2:det P.m (upd (basis P S) i (P.A j))=S.p:=by rw[<-e];exact this
   rw[e2,e,qaz]
   exact qcv _
  ·have:=det_kept h hk hi
   rw[if_neg hne]at this
   have e2:det P.m (upd (basis P S) k (P.A j))=0:=by rw[<-e];exact this
   rw[e2,qas]
theorem bounds_prices {S:Tb} (h:Good P S) (hb:∀ t,P.m<=t->P.b t=0):(sumN P.m λr=>P.b r*ZV P S (r+1))=S.G P.n:=by
 have c1:colV P S P.n=P.b:=by unfold colV;rw[if_neg (qaR _)]
 have:gainC P S P.n=0:=by unfold gainC;rw[if_neg (qaR _)]
 rw[prices_col hb,h.goal P.n (qal _),this,qas,qff]
 exact sumN_congr λi hi=>by rw[h.entry (qal _) hi,c1]
theorem price_free {S:Tb} (h:Good P S) (hn:Named P S) (hg:∀ r,r<P.m->P.g (P.n+r)=0) {r c:Nat} (hr:r<P.m) (hc:c<P.n) (e:S.free c=P.n+r):ZV P S (r+1)=S.G c:=by
 have g1:gainC P S c=0:=by unfold gainC;rw[if_pos hc,e,hg r hr]
 have c1:colV P S c=unit r:=by unfold colV;rw[if_pos hc,e,hn.one r hr]
 rw[h.goal c (by omega),g1,qas,qff]
 unfold ZV
 refine sumN_congr λi hi=>?_
 rw[h.entry (by omega) hi,c1]
 unfold LV XV
 rw[if_neg (by omega),qb7]
theorem price_kept {S:Tb} (h:Good P S) (hn:Named P S) (hg:∀ r,r<P.m->P.g (P.n+r)=0) {r j:Nat} (hr:r<P.m) (hj:j<P.m) (e:S.kept j=P.n+r):ZV P S (r+1)=0:=by
 unfold ZV
 rw[sumN_single hj λk hk hne=>?_]
 ·rw[e,hg r hr,qbJ]
 ·have:=det_kept h hk hj
  rw[if_neg hne]at this
  have e2:LV P S k (r+1)=0:=by
   unfold LV XV
   rw[if_neg (by omega),qb7,<-hn.one r hr,<-e]
   exact this
  rw[e2,qas]
def wayN (P:Pb) (S:Tb) (e k:Nat):Int:=byName P S (λi=>- S.T i e) k+if S.free e=k then S.p else 0
theorem way_sum {S:Tb} (hn:Named P S) {e:Nat} (he:e<P.n) (f:Nat->Int):(sumN (P.n+P.m) λk=>wayN P S e k*f k)=S.p*f (S.free e) - sumN P.m λi=>S.T i e*f (S.kept i):=by
 have e1:=byName_sum (P:=P) S (λi=>- S.T i e) (N:=P.n+P.m) hn.bound.2 f
 have e2:(sumN (P.n+P.m) λk=>(if S.free e=k then S.p else 0)*f k)=S.p*f (S.free e):=by
  rw[sumN_single (hn.bound.1 e he) λk _ hne=>by rw[if_neg (qbo hne),qbJ],if_pos rfl]
 have e3:(sumN (P.n+P.m) λk=>wayN P S e k*f k)=sumN (P.n+P.m) λk=>byName P S (λi=>- S.T i e) k*f k+(if S.free e=k then S.p else 0)*f k:=sumN_congr λk _=>by unfold wayN;rw[qdp]
 rw[e3,sumN_add,e1,e2]
 have e4:(sumN P.m λi=>- S.T i e*f (S.kept i))=- sumN P.m λi=>S.T i e*f (S.kept i):=by
  have:(sumN P.m λi=>- S.T i e*f (S.kept i))=sumN P.m λi=>(-1)*(S.T i e*f (S.kept i)):=sumN_congr λi _=>by rw[qbR,qbR,qbQ]
  rw[this,sumN_mul];omega
 rw[e4];omega
theorem way_nonneg {S:Tb} (h:Good P S) {e:Nat} (ht:∀ i,i<P.m->S.T i e<=0) (k:Nat):0<=wayN P S e k:=by
 unfold wayN
 have:=byName_nonneg (P:=P) (S:=S) (y:=λi=>- S.T i e) (λi hi=>by have:=ht i hi;show 0<=- S.T i e;omega) k
 have:=h.pos
 split<;>omega
theorem way_rows {S:Tb} (h:Good P S) (hn:Named P S) {e:Nat} (he:e<P.n) (ht:∀ i,i<P.m->S.T i e<=0) {r:Nat} (hr:r<P.m):(sumN P.n λk=>wayN P S e k*P.A k r)<=0:=by
 have e1:=way_sum (S:=S) hn he λk=>P.A k r
 have e2:=h.eq e (by omega) r
 have c1:colV P S e=P.A (S.free e):=by unfold colV;rw[if_pos he]
 rw[c1]at e2
 rw[e2,qfg,sumN_append]at e1
 have e3:(sumN P.m λk=>wayN P S e (P.n+k)*P.A (P.n+k) r)=wayN P S e (P.n+r):=by
  rw[sumN_congr (g:=λk=>wayN P S e (P.n+k)*unit k r) λk hk=>by rw[hn.one k hk]]
  exact unit_sum (v:=λk=>wayN P S e (P.n+k)) hr
 have:=way_nonneg h ht (P.n+r)
 omega
theorem way_gains {S:Tb} (h:Good P S) (hn:Named P S) (hg:∀ r,r<P.m->P.g (P.n+r)=0) {e:Nat} (he:e<P.n) (hG:S.G e<0):0<sumN P.n λk=>wayN P S e k*P.g k:=by
 have e1:=way_sum (S:=S) hn he P.g
 rw[sumN_append,sumN_congr (n:=P.m) (g:=λ_=>0) λk hk=>by rw[hg k hk,qas],sumN_zero,qcQ]at e1
 have e2:=h.goal e (by omega)
 have g1:gainC P S e=P.g (S.free e):=by unfold gainC;rw[if_pos he]
 rw[g1]at e2
 have e3:(sumN P.m λi=>S.T i e*P.g (S.kept i))=sumN P.m λi=>P.g (S.kept i)*S.T i e:=sumN_congr λi _=>qaz _ _
 rw[e1,e3]
 omega
def tb0 (P:Pb) (T:Nat->Nat->Int) (G:Nat->Int):Tb:=⟨1,λi=>P.n+i,λc=>c,T,G⟩
theorem good0 {T:Nat->Nat->Int}{G:Nat->Int} (h1:∀ r,r<P.m->P.A (P.n+r)=unit r) (hA:∀ k,k<P.n->∀ t,P.m<=t->P.A k t=0) (hb:∀ t,P.m<=t->P.b t=0) (hg:∀ r,r<P.m->P.g (P.n+r)=0)
  (hT:∀ i c,i<P.m->c<P.n->T i c=P.A c i) (hL:∀ i,i<P.m->T i P.n=P.b i) (hG:∀ c,c<P.n->G c=- P.g c) (hGn:G P.n=0):Good P (tb0 P T G)/\Named P (tb0 P T G)/\((∀ t,t<P.m->0<=P.b t)->Fe P (tb0 P T G)):=by
 have hbas:∀ i,i<P.m->basis P (tb0 P T G) i=unit i:=λi hi=>h1 i hi
 have hdet:det P.m (basis P (tb0 P T G))=1:=by
  rw[det_congr P.m (E:=unit) λk t hk _=>by rw[hbas k hk],det_unit]
 have heq:∀ c,c<=P.n->∀ t,(1:Int)*colV P (tb0 P T G) c t=sumN P.m λi=>T i c*P.A (P.n+i) t:=λc hc t=>by
  rw[qbQ,sumN_congr (g:=λi=>T i c*unit i t) λi hi=>by rw[h1 i hi]]
  have hcol:∀ t',P.m<=t'->colV P (tb0 P T G) c t'=0:=λt' ht'=>by
   unfold colV
   by_cases hcn:c<P.n
   ·rw[if_pos hcn];exact hA c hcn t' ht'
   ·rw[if_neg hcn];exact hb t' ht'
  by_cases ht:t<P.m
  ·rw[unit_sum (v:=λi=>T i c) ht]
   unfold colV
   by_cases hcn:c<P.n
   ·rw[if_pos hcn,hT t c ht hcn];rfl
   ·have:c=P.n:=by omega
    subst this
    rw[if_neg hcn,hL t ht]
  ·rw[hcol t (by omega),sumN_congr (g:=λ_=>0) λi hi=>by unfold unit;rw[if_neg (by omega),qas],sumN_zero]
 have hgood:Good P (tb0 P T G):=by
  refine⟨by show (0:Int)<1;decide,hdet.symm,heq,λc hc=>?_⟩
  show G c=(sumN P.m λi=>P.g (P.n+i)*T i c) - 1*gainC P (tb0 P T G) c
  rw[sumN_congr (g:=λ_=>0) λi hi=>by rw[hg i hi,qbJ],sumN_zero]
  unfold gainC
  by_cases hcn:c<P.n
  ·rw[if_pos hcn,hG c hcn]
   show - P.g c=0 - 1*P.g c
   omega
  ·have:c=P.n:=by omega
   subst this
   rw[if_neg hcn,hGn];rfl
 refine⟨hgood,⟨h1,λk hk=>?_,λc hc=>by show c<_;omega,λi hi=>by show P.n+i<_;omega⟩,λhbn i hi=>?_⟩
 ·by_cases hkn:k<P.n
  ·exact .inl ⟨k,hkn,rfl⟩
  ·exact .inr ⟨k - P.n,by omega,by show P.n+(k - P.n)=k;omega⟩
 ·have l0:LV P (tb0 P T G) i 0=P.b i:=by
   have e:=hgood.entry (c:=P.n) (qal _) hi
   have c1:colV P (tb0 P T G) P.n=P.b:=by unfold colV;rw[if_neg (qaR _)]
   rw[c1]at e
   unfold LV XV
   rw[if_pos rfl,<-e]
   exact hL i hi
  have ls:∀ s,s<P.m->LV P (tb0 P T G) i (s+1)=if i=s then 1 else 0:=λs hs=>by
   have:=det_kept hgood hi hs
   unfold LV XV
   rw[if_neg (by omega),qb7,<-hbas s hs]
   exact this
  have hb0:=hbn i hi
  rcases qfM hb0 with hp|hp
  ·exact⟨0,by omega,by rw[l0];exact hp,λl hl=>absurd hl (by omega)⟩
  ·refine⟨i+1,by omega,by rw[ls i hi,if_pos rfl];decide,λl hl=>?_⟩
   cases l with
   |zero=>rw[l0,<-hp]
   |succ l=>rw[ls l (by omega),if_neg (by omega)]
end Sx
set_option maxHeartbeats 1000000
namespace Own
open PySem L2
open Sx (Pb Tb Good Named Fe LV ZV piv lexP leastR leaveL sumN unit colV basis)
theorem nk {e:Ef}{z:Int}{m:Nat}{env:Ev}{st s:Sto} (he:e env st=some (.d (.int z),s)) (h0:0<=z) (h1:z<=1000) (hm:z.toNat=m):eJ (aa e ak) env st=some (dL 0 m,s):=by
 have hb:-(2^62)<=z/\z<2^62:=⟨Int.le_trans (by decide) h0,Int.lt_of_le_of_lt h1 (by decide)⟩
 have h2:=ah (b:=ak) he rfl
 simp only[eJ,h2,qaa,hb,and_self,if_true,hm]
theorem aV {f:Ef}{env:Ev}{st s:Sto}{ds:List D} (h:f env st=some (.d (.lst ds),s)):aL f env st=some (ds,s):=by
 simp only[aL,h,qaa]
theorem mq {f:Ef}{env:Ev}{st s:Sto}{ds:List D} (h:f env st=some (.d (.tup ds),s)):aL f env st=some (ds,s):=by
 simp only[aL,h,qaa]
theorem sK {c:Tf}{a b:Ef}{env:Ev}{st s:Sto}{r:Option (W×Sto)} (h:c env st=some (true,s)) (ha:a env s=r):j0 c a b env st=r:=by
 simp only[j0,h,qaa,if_true,ha]
theorem xy {c:Tf}{a b:Ef}{env:Ev}{st s:Sto}{r:Option (W×Sto)} (h:c env st=some (false,s)) (hb:b env s=r):j0 c a b env st=r:=by
 simp only[j0,h,qaa,qbK,if_false,hb]
theorem sR (s:Sto) (a b:Int):dEq s (.d (.int a)) (.d (.int b))=some (.bl (a==b)):=by
 show ((eqK (.fl (.int a)) (.fl (.int b))).map λk=>D.bl k)=_
 rfl
theorem yO (s:Sto) (a b:Str):dEq s (.d (.str a)) (.d (.str b))=some (.bl (a==b)):=by
 show ((eqK (.fl (.str a)) (.fl (.str b))).map λk=>D.bl k)=_
 rfl
theorem iO (s:Sto) {a b:List D} (h:a.length+b.length<=1000000):bW s (.d (.lst a)) (.d (.lst b))=some (.lst (a++b)):=if_pos h
def mpI (n:Nat) (f:Nat->Int):List D:=(qag n).map λk=>D.int (f k)
def lnD (n:Nat) (T:Nat->Nat->Int) (i:Nat):D:=.lst (mpI (n+1) (T i))
def aH (m n:Nat) (T:Nat->Nat->Int):List D:=(qag m).map (lnD n T)
def nI (f:Nat->Nat):Nat->Int:=λk=>((f k:Nat):Int)
abbrev obN:List Str:=["amounts","lines","goal","part","free","kept"]
def obD (P:Pb) (S:Tb):D:=.ob obN [.int (P.n:Int),.lst (aH P.m P.n S.T),.lst (mpI (P.n+1) S.G),.int S.p,.lst (mpI P.n (nI S.free)),.lst (mpI P.m (nI S.kept))]
theorem bn (n:Nat) (f:Nat->Int):(mpI n f).length=n:=by unfold mpI;rw[qam,qao]
theorem cX (m n:Nat) (T:Nat->Nat->Int):(aH m n T).length=m:=by unfold aH;rw[qam,qao]
theorem d8 {n:Nat}{f:Nat->Int}{k:Nat} (h:k<n):(mpI n f)[k]?=some (.int (f k)):=by
 unfold mpI;rw[qaI,qa9 h];rfl
theorem lH {m n:Nat}{T:Nat->Nat->Int}{k:Nat} (h:k<m):(aH m n T)[k]?=some (lnD n T k):=by
 unfold aH;rw[qaI,qa9 h];rfl
theorem bM {n:Nat}{f g:Nat->Int} (h:∀ k,k<n->f k=g k):mpI n f=mpI n g:=by
 unfold mpI
 refine qct λk hk=>?_
 rw[h k (qaB.mp hk)]
theorem oo (n:Nat) (f:Nat->Int):mpI (n+1) f=mpI n f++[.int (f n)]:=by
 unfold mpI;rw[qcB,qbG];rfl
theorem dz (n:Nat) (f:Nat->Int):mpI n f=((qag n).map f).map D.int:=by unfold mpI;rw[qbs];rfl
theorem nP (n:Nat) (f:Nat->Int):(mpI n f).all dM=true:=by
 rw[qaY]
 intro d hd
 obtain⟨k,_,rfl⟩:=qa7.mp hd
 rfl
theorem gy {n:Nat}{f:Nat->Int}{k:Nat}{x:Int}:(mpI n f).set k (.int x)=mpI n λj=>if j=k then x else f j:=by
 apply qbZ
 intro j
 by_cases hj:j<n
 ·rw[d8 hj]
  by_cases e:j=k
  ·subst e;rw[if_pos rfl,qa5 (by rw[bn];exact hj)]
  ·rw[if_neg e,qbc (qbo e),d8 hj]
 ·rw[qa4 (by rw[qbv,bn];lia),qa4 (by rw[bn];lia)]
theorem fo (st:Sto) {n:Nat}{f:Nat->Int}{k:Nat} (h:k<n):dIx st (.d (.lst (mpI n f))) (.d (.int (k:Int)))=some (.int (f k)):=fJ (d8 h)
theorem pe (st:Sto) {m n:Nat}{T:Nat->Nat->Int}{k:Nat} (h:k<m):dIx st (.d (.lst (aH m n T))) (.d (.int (k:Int)))=some (lnD n T k):=fJ (lH h)
theorem oU (st:Sto) {n:Nat}{T:Nat->Nat->Int}{i c:Nat} (h:c<=n):dIx st (.d (lnD n T i)) (.d (.int (c:Int)))=some (.int (T i c)):=fo st (by lia)
theorem rm (st:Sto) {n:Nat}{T:Nat->Nat->Int}{i:Nat}:dIx st (.d (lnD n T i)) (.d (.int (-1)))=some (.int (T i n)):=by
 show atI (mpI (n+1) (T i)) (-1)=_
 rw[oo];exact ul _ _
section
variable {P:Pb}{S:Tb}{a:Ef}{env:Ev}{st s:Sto}
theorem cJ (h:a env st=some (.d (obD P S),s)):au "amounts" a env st=some (.d (.int (P.n:Int)),s):=by simp only[au,h,qaa,obD];rfl
theorem dG (h:a env st=some (.d (obD P S),s)):au "lines" a env st=some (.d (.lst (aH P.m P.n S.T)),s):=by simp only[au,h,qaa,obD];rfl
theorem ky (h:a env st=some (.d (obD P S),s)):au "goal" a env st=some (.d (.lst (mpI (P.n+1) S.G)),s):=by simp only[au,h,qaa,obD];rfl
theorem kE (h:a env st=some (.d (obD P S),s)):au "part" a env st=some (.d (.int S.p),s):=by simp only[au,h,qaa,obD];rfl
theorem kC (h:a env st=some (.d (obD P S),s)):au "free" a env st=some (.d (.lst (mpI P.n (nI S.free))),s):=by simp only[au,h,qaa,obD];rfl
theorem nB (h:a env st=some (.d (obD P S),s)):au "kept" a env st=some (.d (.lst (mpI P.m (nI S.kept))),s):=by simp only[au,h,qaa,obD];rfl
end
theorem lD {te:Ef}{l:Ev}{st:Sto}{g:Nat->D} (F:Nat->D):∀ {ks:List Nat},(∀ k∈ks,te (some (.d (g k))::l) st=some (.d (F k),st))->lcI (.nm 0) bG te (none::l) (ks.map g) st=some (ks.map F,st)
 |[],_=>rfl
 |k::ks,h=>by
  have ih:=lD (te:=te) (l:=l) (st:=st) (g:=g) F (ks:=ks) λx hx=>h x (qah _ hx)
  have h1:=h k qae
  rw[qay,qay]
  unfold lcI
  rw[show eG (.nm 0) (.d (g k)) (none::l)=some (some (.d (g k))::l) from rfl,qaa,show bG (some (.d (g k))::l) st=some (true,st) from rfl,qaa,if_pos rfl,h1,qaa,ih];rfl
def Sm (z:Int):Prop:=z.natAbs<2^4000
theorem mulOk {a b:Int} (x y:Nat) (ha:a.natAbs<2^x) (hb:b.natAbs<2^y) (h:x+y<=134217728):qbm a b:=
 qgs (qe7.mpr ha) (qe7.mpr hb) h
theorem sY {a b:Int}{x y:Nat} (ha:a.natAbs<2^x) (hb:b.natAbs<2^y):(a*b).natAbs<2^(x+y):=by
 rw[qdd,qfv]
 exact Nat.mul_lt_mul'' ha hb
theorem Sm.mulOk {a b:Int} (ha:Sm a) (hb:Sm b):qbm a b:=Own.mulOk 4000 4000 ha hb (by decide)
theorem ce (st:Sto) {a b:Int} (h:qbm a b):aO st (.d (.int a)) (.d (.int b))=some (.int (a*b)):=if_pos h
theorem Sm.log {a:Int} (h:Sm a):a.natAbs.log2<9000:=by
 by_cases h0:a.natAbs=0
 ·rw[h0];decide
 ·have:=(Nat.log2_lt h0).mpr h
  lia
theorem qr (st:Sto) {a b:Int} (h0:0<b) (h:Sm b):kW st (.d (.int a)) (.d (.int b))=some (.int (a / b)):=if_pos ⟨h0,h.log⟩
end Own
set_option maxHeartbeats 1000000
namespace Own
open PySem L2
open Sx (Pb Tb Good Named Fe LV ZV piv lexP leastR leaveL sumN unit colV basis)
theorem jj {a b:Sf}{env:Ev}{st s:Sto}{w:W} (h:a env st=some (.rt w s)):aq a b env st=some (.rt w s):=by simp only[aq,h,qaa]
theorem ar {a b:Sf}{env e:Ev}{st s:Sto}{r:Option Fl} (h:a env st=some (.nx e s)) (hb:b e s=r):aq a b env st=r:=by simp only[aq,h,qaa,hb]
theorem eK {c:Tf}{a b:Sf}{env:Ev}{st s:Sto}{r:Option Fl} (h:c env st=some (true,s)) (ha:a env s=r):cy c a b env st=r:=by simp only[cy,h,qaa,if_true,ha]
theorem cS {c:Tf}{a b:Sf}{env:Ev}{st s:Sto}{r:Option Fl} (h:c env st=some (false,s)) (hb:b env s=r):cy c a b env st=r:=by simp only[cy,h,qaa,qbK,if_false,hb]
theorem yp {o a:Ef}{env:Ev}{st s1 s2:Sto}{n:Nat}{d:D}{ds0 ds:List D} (ho:o env st=some (.h n,s1)) (ha:a env s1=some (.d d,s2)) (h0:lg s1 n=some ds0) (hg:lg s2 n=some ds) (hz:ds.length<1000000):gD (iJ eA o (aa a ak)) env st=some (.nx env (s2.set n (.l (ds++[d])))):=by
 have hc:=ah (b:=ak) ha rfl
 simp only[gD,iJ,ho,hc,h0,hg,eA,hz,if_true,qaa,qar]
theorem kZ (st:Sto) (a b:C):(st++[a]).set st.length b=st++[b]:=by
 rw[List.set_append];simp
structure Okt (P:Pb) (S:Tb):Prop where
 good:Good P S
 named:Named P S
 m64:P.m<=100
 n64:P.n<=100
 sT:∀ i c,i<P.m->c<=P.n->Sm (S.T i c)
 sL:∀ i s,i<P.m->s<=P.m->Sm (LV P S i s)
 sG:∀ c,c<=P.n->Sm (S.G c)
 sp:Sm S.p
def psD (ps:List Nat):List D:=ps.map λk=>D.int ((k:Nat):Int)
theorem rj (ps:List Nat):(psD ps).length=ps.length:=by unfold psD;rw[qam]
theorem kB {n k:Nat}{b:Sf}{ws:List W}{st s:Sto}{h:Nat}{ds:List D} (hl:ws.length=k) (hb:b (ws.map some++qav (n - k) none) st=some (.rt (.h h) s)) (hh:st.length<=h) (hd:lg s h=some ds):hJ n k b ws st=some (.d (.lst ds),s.take st.length):=by
 simp only[hJ,hl,if_true,hb,qaa,qu,if_neg (qfU.mpr hh),hd,qar]
theorem rn {st u:Sto}{h:Nat}{c:C} (hh:st.length<=h):(st++u).set h c=st++u.set (h - st.length) c:=by
 rw[qcO _ _ hh]
theorem yc {s:Sto}{h:Nat}{ds es:List D} (hg:lg s h=some ds):lg (s.set h (.l es)) h=some es:=by
 have:=(qan.mp (rz hg)).1
 unfold lg
 rw[qa5 this]
theorem iR (s:Sto) (ds:List D):lg (s++[.l ds]) s.length=some ds:=by unfold lg;simp
theorem wv (s:Sto) {h:Nat}{ds:List D} (hg:lg s h=some ds):gh s (.h h)=some (!ds.isEmpty):=by
 show (gH s (.h h)).map _=_
 show (lg s h).map _=_
 rw[hg];rfl
theorem yw (s:Sto) {h:Nat}{d:D}{ds:List D} (hg:lg s h=some (d::ds)):dIx s (.h h) (.d (.int 0))=some d:=by
 show (lg s h).bind (λds=>atI ds 0)=_
 rw[hg,qaa,ud]
theorem sC (s:Sto) (a b:Int):dLt s (.d (.int a)) (.d (.int b))=some (.bl (decide (a<b))):=rfl
theorem rJ (s:Sto) (a b:Int):dGt s (.d (.int a)) (.d (.int b))=some (.bl (decide (a > b))):=rfl
theorem yQ (s:Sto) (a b:Int):dGe s (.d (.int a)) (.d (.int b))=some (.bl (decide (a>=b))):=rfl
section
variable {tops bots:Nat->Int}{m:Nat}{st:Sto}{x0:Option W}
theorem ja (ht:∀ i,i<m->Sm (tops i)) (hb:∀ i,i<m->Sm (bots i)):∀ (ps least:List Nat) (u:Sto) (h:Nat) (o4 o5 o6:Option W),(∀ x∈ps,x<m)->(∀ x∈least,x<m)->lg (st++u) h=some (psD least)->st.length<=h->least.length+ps.length<=1000->
  ∃ u' h' o4' o5' o6',cC (.nm 4) aQ (psD ps) [x0,some (.d (.lst (mpI m tops))),some (.d (.lst (mpI m bots))),some (.h h),o4,o5,o6] (st++u)=some (.nx [x0,some (.d (.lst (mpI m tops))),some (.d (.lst (mpI m bots))),some (.h h'),o4',o5',o6'] (st++u'))/\
   lg (st++u') h'=some (psD (leastR tops bots ps least))/\st.length<=h'
 |[],least,u,h,o4,o5,o6,_,_,hg,hh,_=>⟨u,h,o4,o5,o6,rfl,by rw[leastR];exact hg,hh⟩
 |p::ps,least,u,h,o4,o5,o6,hp,hl,hg,hh,hz=>by
  have hp0:p<m:=hp p qae
  have hps:∀ x∈ps,x<m:=λx hx=>hp x (qah _ hx)
  rw[qaq]at hz
  have hs:∀ o5 o6 hh',eG (.nm 4) (.d (.int ((p:Nat):Int))) [x0,some (.d (.lst (mpI m tops))),some (.d (.lst (mpI m bots))),some (.h hh'),o4,o5,o6]=some [x0,some (.d (.lst (mpI m tops))),some (.d (.lst (mpI m bots))),some (.h hh'),some (.d (.int ((p:Nat):Int))),o5,o6]:=λ_ _ _=>rfl
  have app:∀ (u:Sto) (h:Nat) (ls:List Nat) (o5 o6:Option W),lg (st++u) h=some (psD ls)->st.length<=h->ls.length<1000->gD (iJ eA (iV 3) (aa (iV 4) ak)) [x0,some (.d (.lst (mpI m tops))),some (.d (.lst (mpI m bots))),some (.h h),some (.d (.int ((p:Nat):Int))),o5,o6] (st++u)=some (.nx [x0,some (.d (.lst (mpI m tops))),some (.d (.lst (mpI m bots))),some (.h h),some (.d (.int ((p:Nat):Int))),o5,o6] (st++u.set (h - st.length) (.l (psD (ls++[p])))))/\lg (st++u.set (h - st.length) (.l (psD (ls++[p])))) h=some (psD (ls++[p])):=λu h ls o5 o6 hg hh hl=>by
   have e:=yp (o:=iV 3) (a:=iV 4) (env:=[x0,some (.d (.lst (mpI m tops))),some (.d (.lst (mpI m bots))),some (.h h),some (.d (.int ((p:Nat):Int))),o5,o6]) (st:=st++u) (n:=h) (d:=.int ((p:Nat):Int)) rfl rfl hg hg (by rw[rj];lia)
   have e2:psD ls++[.int ((p:Nat):Int)]=psD (ls++[p]):=by unfold psD;rw[qbG];rfl
   rw[e2,rn hh]at e
   refine⟨e,?_⟩
   rw[<-rn hh]
   exact yc hg
  cases least with
  |nil=>
   have t0:fE gh (iV 3) [x0,some (.d (.lst (mpI m tops))),some (.d (.lst (mpI m bots))),some (.h h),some (.d (.int ((p:Nat):Int))),o5,o6] (st++u)=some (false,st++u):=by
    have:=wv (st++u) hg
    simp only[fE,show iV 3 [x0,some (.d (.lst (mpI m tops))),some (.d (.lst (mpI m bots))),some (.h h),some (.d (.int ((p:Nat):Int))),o5,o6] (st++u)=some (.h h,st++u) from rfl,qaa,this];rfl
   obtain⟨a1,a2⟩:=app u h [] o5 o6 hg hh (by decide)
   obtain⟨u',h',o4',o5',o6',i1,i2,i3⟩:=ja ht hb ps [p] _ h (some (.d (.int ((p:Nat):Int)))) o5 o6 hps (λx hx=>by rw[qaj.mp hx];exact hp0) a2 hh (by simp at hz ⊢;lia)
   refine⟨u',h',o4',o5',o6',?_,by rw[leastR];exact i2,i3⟩
   have hb':aQ [x0,some (.d (.lst (mpI m tops))),some (.d (.lst (mpI m bots))),some (.h h),some (.d (.int ((p:Nat):Int))),o5,o6] (st++u)=_:=ar (cS t0 rfl) a1
   show cC (.nm 4) aQ (.int ((p:Nat):Int)::psD ps) _ _=_
   simp only[cC,hs,qaa,hb']
   exact i1
  |cons l0 r=>
   have hl0:l0<m:=hl l0 qae
   have t0:fE gh (iV 3) [x0,some (.d (.lst (mpI m tops))),some (.d (.lst (mpI m bots))),some (.h h),some (.d (.int ((p:Nat):Int))),o5,o6] (st++u)=some (true,st++u):=by
    have:=wv (st++u) hg
    simp only[fE,show iV 3 [x0,some (.d (.lst (mpI m tops))),some (.d (.lst (mpI m bots))),some (.h h),some (.d (.int ((p:Nat):Int))),o5,o6] (st++u)=some (.h h,st++u) from rfl,qaa,this];rfl
   have i0:∀ o5 o6,iOp dIx (iV 3) (iC (.int 0)) [x0,some (.d (.lst (mpI m tops))),some (.d (.lst (mpI m bots))),some (.h h),some (.d (.int ((p:Nat):Int))),o5,o6] (st++u)=some (.d (.int ((l0:Nat):Int)),st++u):=λ_ _=>ai rfl rfl (yw (st++u) hg)
   have s5:aD (.nm 5) (iOp aO (iOp dIx (iV 1) (iV 4)) (iOp dIx (iV 2) (iOp dIx (iV 3) (iC (.int 0))))) [x0,some (.d (.lst (mpI m tops))),some (.d (.lst (mpI m bots))),some (.h h),some (.d (.int ((p:Nat):Int))),o5,o6] (st++u)=some (.nx [x0,some (.d (.lst (mpI m tops))),some (.d (.lst (mpI m bots))),some (.h h),some (.d (.int ((p:Nat):Int))),some (.d (.int (tops p*bots l0))),o6] (st++u)):=
    ax (ai (ai rfl rfl (fo _ hp0)) (ai rfl (i0 _ _) (fo _ hl0)) (ce _ (Sm.mulOk (ht p hp0) (hb l0 hl0))))
   have s6:aD (.nm 6) (iOp aO (iOp dIx (iV 1) (iOp dIx (iV 3) (iC (.int 0)))) (iOp dIx (iV 2) (iV 4))) [x0,some (.d (.lst (mpI m tops))),some (.d (.lst (mpI m bots))),some (.h h),some (.d (.int ((p:Nat):Int))),some (.d (.int (tops p*bots l0))),o6] (st++u)=some (.nx [x0,some (.d (.lst (mpI m tops))),some (.d (.lst (mpI m bots))),some (.h h),some (.d (.int ((p:Nat):Int))),some (.d (.int (tops p*bots l0))),some (.d (.int (tops l0*bots p)))] (st++u)):=
    ax (ai (ai rfl (i0 _ _) (fo _ hl0)) (ai rfl rfl (fo _ hp0)) (ce _ (Sm.mulOk (ht l0 hl0) (hb p hp0))))
   generalize hM:tops p*bots l0=M at *
   generalize hB:tops l0*bots p=B at *
   have tg:bm dGt (iV 5) (iV 6) [x0,some (.d (.lst (mpI m tops))),some (.d (.lst (mpI m bots))),some (.h h),some (.d (.int ((p:Nat):Int))),some (.d (.int M)),some (.d (.int B))] (st++u)=some (decide (M > B),st++u):=bf rfl rfl (rJ _ _ _)
   have tl:bm dLt (iV 5) (iV 6) [x0,some (.d (.lst (mpI m tops))),some (.d (.lst (mpI m bots))),some (.h h),some (.d (.int ((p:Nat):Int))),some (.d (.int M)),some (.d (.int B))] (st++u)=some (decide (M<B),st++u):=bf rfl rfl (sC _ _ _)
   by_cases c1:M > B
   ·rw[decide_eq_true c1]at tg
    obtain⟨u',h',o4',o5',o6',i1,i2,i3⟩:=ja ht hb ps (l0::r) u h (some (.d (.int ((p:Nat):Int)))) (some (.d (.int M))) (some (.d (.int B))) hps hl hg hh (by lia)
    refine⟨u',h',o4',o5',o6',?_,by rw[leastR,hM,hB,if_pos c1];exact i2,i3⟩
    have hb':aQ [x0,some (.d (.lst (mpI m tops))),some (.d (.lst (mpI m bots))),some (.h h),some (.d (.int ((p:Nat):Int))),o5,o6] (st++u)=some (.ct [x0,some (.d (.lst (mpI m tops))),some (.d (.lst (mpI m bots))),some (.h h),some (.d (.int ((p:Nat):Int))),some (.d (.int M)),some (.d (.int B))] (st++u)):=by
     have inner:cy (fE gh (iV 3)) (aq (aD (.nm 5) (iOp aO (iOp dIx (iV 1) (iV 4)) (iOp dIx (iV 2) (iOp dIx (iV 3) (iC (.int 0)))))) (aq (aD (.nm 6) (iOp aO (iOp dIx (iV 1) (iOp dIx (iV 3) (iC (.int 0)))) (iOp dIx (iV 2) (iV 4)))) (aq (cy (bm dGt (iV 5) (iV 6)) mv bz) (cy (bm dLt (iV 5) (iV 6)) (aD (.nm 3) (dZ (cQ ak))) bz)))) bz [x0,some (.d (.lst (mpI m tops))),some (.d (.lst (mpI m bots))),some (.h h),some (.d (.int ((p:Nat):Int))),o5,o6] (st++u)=some (.ct [x0,some (.d (.lst (mpI m tops))),some (.d (.lst (mpI m bots))),some (.h h),some (.d (.int ((p:Nat):Int))),some (.d (.int M)),some (.d (.int B))] (st++u)):=by
      refine eK t0 (ar s5 (ar s6 ?_))
      have:=eK (a:=mv) (b:=bz) tg rfl
      simp only[aq,this];rfl
     show aq _ _ _ _=_
     simp only[aq,inner];rfl
    show cC (.nm 4) aQ (.int ((p:Nat):Int)::psD ps) _ _=_
    simp only[cC,hs,qaa,hb']
    exact i1
   ·rw[decide_eq_false c1]at tg
    by_cases c2:M<B
    ·rw[decide_eq_true c2]at tl
     have hn:lg (st++(u++[.l []])) (st++u).length=some (psD []):=by rw[<-qbA];exact iR _ _
     have hlen:st.length<=(st++u).length:=by rw[qau];lia
     obtain⟨a1,a2⟩:=app (u++[.l []]) (st++u).length [] (some (.d (.int M))) (some (.d (.int B))) hn hlen (by decide)
     obtain⟨u',h',o4',o5',o6',i1,i2,i3⟩:=ja ht hb ps [p] _ (st++u).length (some (.d (.int ((p:Nat):Int)))) (some (.d (.int M))) (some (.d (.int B))) hps (λx hx=>by rw[qaj.mp hx];exact hp0) a2 hlen (by simp at hz ⊢;lia)
     refine⟨u',h',o4',o5',o6',?_,by rw[leastR,hM,hB,if_neg c1,if_pos c2];exact i2,i3⟩
     have sn:aD (.nm 3) (dZ (cQ ak)) [x0,some (.d (.lst (mpI m tops))),some (.d (.lst (mpI m bots))),some (.h h),some (.d (.int ((p:Nat):Int))),some (.d (.int M)),some (.d (.int B))] (st++u)=some (.nx [x0,some (.d (.lst (mpI m tops))),some (.d (.lst (mpI m bots))),some (.h (st++u).length),some (.d (.int ((p:Nat):Int))),some (.d (.int M)),some (.d (.int B))] (st++(u++[.l []]))):=by rw[<-qbA];rfl
     have hb':aQ [x0,some (.d (.lst (mpI m tops))),some (.d (.lst (mpI m bots))),some (.h h),some (.d (.int ((p:Nat):Int))),o5,o6] (st++u)=_:=ar (eK t0 (ar s5 (ar s6 (ar (cS tg rfl) (eK tl sn))))) a1
     show cC (.nm 4) aQ (.int ((p:Nat):Int)::psD ps) _ _=_
     simp only[cC,hs,qaa,hb']
     exact i1
    ·rw[decide_eq_false c2]at tl
     obtain⟨a1,a2⟩:=app u h (l0::r) (some (.d (.int M))) (some (.d (.int B))) hg hh (by rw[qaq]at hz ⊢;lia)
     obtain⟨u',h',o4',o5',o6',i1,i2,i3⟩:=ja ht hb ps ((l0::r)++[p]) _ h (some (.d (.int ((p:Nat):Int)))) (some (.d (.int M))) (some (.d (.int B))) hps (λx hx=>by
      rcases qaQ.mp hx with z|z
      ·exact hl x z
      ·rw[qaj.mp z];exact hp0) a2 hh (by rw[qau,qbT];lia)
     refine⟨u',h',o4',o5',o6',?_,by rw[leastR,hM,hB,if_neg c1,if_neg c2];exact i2,i3⟩
     have hb':aQ [x0,some (.d (.lst (mpI m tops))),some (.d (.lst (mpI m bots))),some (.h h),some (.d (.int ((p:Nat):Int))),o5,o6] (st++u)=_:=ar (eK t0 (ar s5 (ar s6 (ar (cS tg rfl) (cS tl rfl))))) a1
     show cC (.nm 4) aQ (.int ((p:Nat):Int)::psD ps) _ _=_
     simp only[cC,hs,qaa,hb']
     exact i1
theorem yD (ht:∀ i,i<m->Sm (tops i)) (hb:∀ i,i<m->Sm (bots i)) {ps:List Nat} (hp:∀ x∈ps,x<m) (hz:ps.length<=1000):fU [.d (.lst (psD ps)),.d (.lst (mpI m tops)),.d (.lst (mpI m bots))] st=some (.d (.lst (psD (leastR tops bots ps []))),st):=by
 obtain⟨u',h',o4',o5',o6',i1,i2,i3⟩:=ja (st:=st) (x0:=some (.d (.lst (psD ps)))) ht hb ps [] [.l []] st.length none none none hp (λx hx=>nomatch hx) (iR st []) (qal _) (by simpa using hz)
 have hit:aL (iV 0) [some (.d (.lst (psD ps))),some (.d (.lst (mpI m tops))),some (.d (.lst (mpI m bots))),some (.h st.length),none,none,none] (st++[.l []])=some (psD ps,st++[.l []]):=rfl
 have:=kB (n:=7) (k:=3) (b:=eh) (ws:=[.d (.lst (psD ps)),.d (.lst (mpI m tops)),.d (.lst (mpI m bots))]) (st:=st) (h:=h') rfl (ar (s:=st++[.l []]) (e:=[some (.d (.lst (psD ps))),some (.d (.lst (mpI m tops))),some (.d (.lst (mpI m bots))),some (.h st.length),none,none,none]) rfl (ar (bI hit i1) rfl)) i3 i2
 rw[qdD]at this
 exact this
end
end Own
set_option maxHeartbeats 1000000
namespace Own
open PySem L2
open Sx (Pb Tb Good Named Fe LV ZV piv lexP leastR leaveL sumN unit colV basis)
theorem qQ (s:Sto) (i:Int):iZ s (.d (.int i)) (.d .non)=some (.bl false):=rfl
theorem mN (s:Sto):iZ s (.d .non) (.d .non)=some (.bl true):=rfl
theorem vT (s:Sto) (l:List D):iZ s (.d (.tup l)) (.d .non)=some (.bl false):=rfl
def bK (n:Nat):Nat->D
 |0=>.non
 |r+1=>.int (((n+r:Nat)):Int)
theorem sh (n m:Nat):D.non::dL (n:Int) m=(qag (m+1)).map (bK n):=by
 rw[qb5,qay,qbs]
 show _=D.non::_
 unfold dL
 congr 1
theorem jb (st:Sto) (ds:List D):cv st [.d (.lst ds)]=some (.int (ds.length:Nat)):=rfl
theorem kH {P:Pb}{S:Tb}{st:Sto} (h:Okt P S):fj [.d (obD P S)] st=some (.d (.lst ((qag (P.m+1)).map (bK P.n))),st):=by
 have hm:=h.m64
 have hn:=h.n64
 have v0:iV 0 [some (.d (obD P S))] st=some (.d (obD P S),st):=rfl
 have a1:=cJ (P:=P) (S:=S) v0
 have a2:=dG (P:=P) (S:=S) v0
 refine bh (n:=1) (k:=1) (b:=io) rfl (cq (ai (x:=.d (.lst [.non])) (y:=.d (.lst (dL (P.n:Int) P.m))) (s1:=st) rfl (aW ?_) ?_))
 ·show my _ [some (.d (obD P S))] st=_
  have e:aa (au "amounts" (iV 0)) (aa (iOp bW (au "amounts" (iV 0)) (iCB cv (aa (au "lines" (iV 0)) ak))) ak) [some (.d (obD P S))] st=some ([.d (.int (P.n:Int)),.d (.int ((P.n:Int)+(P.m:Int)))],st):=by
   refine ah a1 (ah (ai a1 (cO (ah a2 rfl) (jb _ _)) ?_) rfl)
   rw[cX];rfl
  simp only[my,e,qaa]
  rw[if_pos (by lia),show ((P.n:Int)+(P.m:Int) - (P.n:Int)).toNat=P.m by lia]
 ·rw[<-sh]
  exact iO st (by rw[ou];simp;lia)
theorem xN {n k:Nat}{f:Nat->Nat}:inD (.int (k:Int)) (mpI n (nI f))=decide (∃ c,c<n/\f c=k):=by
 rw[qcY]
 unfold inD mpI
 rw[List.any_map,qeq,decide_eq_true_eq]
 constructor
 ·rintro⟨c,hc,e⟩
  refine⟨c,qaB.mp hc,?_⟩
  have e:(((f c:Nat):Int)==(k:Int))=true:=e
  have:=beq_iff_eq.mp e
  lia
 ·rintro⟨c,hc,e⟩
  refine⟨c,qaB.mpr hc,?_⟩
  show (((f c:Nat):Int)==(k:Int))=true
  rw[e];exact beq_self_eq_true _
theorem xF {n k:Nat}{f:Nat->Nat} (h:∃ c,c<n/\f c=k):∃ c,c<n/\f c=k/\((qag n).map (nI f)).idxOf? (k:Int)=some c:=by
 obtain⟨c,hc,e⟩:=h
 cases q:((qag n).map (nI f)).idxOf? (k:Int) with
 |none=>
  have:=List.idxOf?_eq_none_iff.mp q
  exact absurd (qa7.mpr ⟨c,qaB.mpr hc,by unfold nI;rw[e]⟩) this
 |some j=>
  obtain⟨h1,h2,_⟩:=qeX.mp q
  rw[qam,qao]at h1
  refine⟨j,h1,?_,rfl⟩
  rw[qf1,qfA]at h2
  have h2:((f j:Nat):Int)=(k:Int):=h2
  lia
theorem kept_inj {P:Pb}{S:Tb} (h:Good P S) {i j:Nat} (hi:i<P.m) (hj:j<P.m) (e:S.kept i=S.kept j):i=j:=by
 rcases Nat.decEq i j with hne|he
 ·exfalso
  have h0:=Sx.det_eq0 (basis P S) hi hj hne (by unfold basis;rw[e])
  have:=h.pos
  rw[h.dt,h0]at this
  exact absurd this (by decide)
 ·exact he
theorem wA {P:Pb}{S:Tb}{st:Sto} (h:Okt P S) {s:Nat} (hs:s<=P.m):dE [.d (obD P S),.d (bK P.n s)] st=some (.d (.lst (mpI P.m λi=>LV P S i s)),st):=by
 have hg:=h.good
 have hm:=h.m64
 have hn:=h.n64
 cases s with
 |zero=>
  have e:mpI P.m (λi=>LV P S i 0)=mpI P.m λi=>S.T i P.n:=bM λi hi=>by
   have e:=hg.entry (c:=P.n) (qal _) hi
   have c1:colV P S P.n=P.b:=by unfold Sx.colV;rw[if_neg (qaR _)]
   rw[c1]at e
   unfold LV Sx.XV
   rw[if_pos rfl,<-e]
  rw[e]
  have a2:=dG (P:=P) (S:=S) (env:=[some (.d (obD P S)),some (.d .non),none]) (st:=st) (a:=iV 0) rfl
  refine bh (n:=3) (k:=2) (b:=dq) rfl (jj (eK (s:=st) (bf (x:=.d .non) rfl rfl (mN st)) (cq (aW (cD (aV a2) (by rw[cX];lia) ?_)))))
  exact lD (g:=lnD P.n S.T) (λi=>D.int (S.T i P.n)) λi _=>ai rfl rfl (rm st)
 |succ r=>
  have hr:r<P.m:=by lia
  have v0:∀ o,iV 0 [some (.d (obD P S)),some (.d (.int ((P.n+r:Nat):Int))),o] st=some (.d (obD P S),st):=λ_=>rfl
  have af:=kC (P:=P) (S:=S) (v0 none)
  have hXV:Sx.XV P (r+1)=unit r:=by unfold Sx.XV;rw[if_neg (by lia),qb7]
  have tI:bm dIn (iV 1) (au "free" (iV 0)) [some (.d (obD P S)),some (.d (.int ((P.n+r:Nat):Int))),none] st=some (decide (∃ c,c<P.n/\S.free c=P.n+r),st):=by
   refine bf rfl af ?_
   simp only[dIn,gH,dM,nP,qaa,and_self,if_true,xN]
  have t0:bm iZ (iV 1) (iC .non) [some (.d (obD P S)),some (.d (.int ((P.n+r:Nat):Int))),none] st=some (false,st):=bf rfl rfl (qQ st _)
  refine bh (n:=3) (k:=2) (b:=dq) rfl (ar (cS t0 rfl) ?_)
  by_cases hf:∃ c,c<P.n/\S.free c=P.n+r
  ·rw[decide_eq_true hf]at tI
   obtain⟨c,hc,ec,hidx⟩:=xF hf
   have e:mpI P.m (λi=>LV P S i (r+1))=mpI P.m λi=>S.T i c:=bM λi hi=>by
    have e:=hg.entry (c:=c) (by lia) hi
    have c1:colV P S c=unit r:=by unfold Sx.colV;rw[if_pos hc,ec,h.named.one r hr]
    rw[c1]at e
    unfold LV
    rw[hXV,<-e]
   rw[e]
   have sx:aD (.nm 2) (tW (au "free" (iV 0)) (aa (iV 1) ak)) [some (.d (obD P S)),some (.d (.int ((P.n+r:Nat):Int))),none] st=some (.nx [some (.d (obD P S)),some (.d (.int ((P.n+r:Nat):Int))),some (.d (.int (c:Int)))] st):=by
    refine ax ?_
    have ei:jD (mpI P.n (nI S.free))=some ((qag P.n).map (nI S.free)):=by rw[dz];exact kL _
    simp only[tW,af,qaa,show aa (iV 1) ak [some (.d (obD P S)),some (.d (.int ((P.n+r:Nat):Int))),none] st=some ([.d (.int ((P.n+r:Nat):Int))],st) from rfl,ei]
    rw[if_pos (by rw[qam,qao];lia),hidx];rfl
   have a2:=dG (P:=P) (S:=S) (v0 (some (.d (.int (c:Int)))))
   refine jj (eK tI (ar sx (cq (aW (cD (aV a2) (by rw[cX];lia) ?_)))))
   exact lD (g:=lnD P.n S.T) (λi=>D.int (S.T i c)) λi _=>ai rfl rfl (oU st (by lia))
  ·rw[decide_eq_false hf]at tI
   obtain⟨j,hj,ej⟩:∃ j,j<P.m/\S.kept j=P.n+r:=(h.named.all (P.n+r) (by lia)).elim (λz=>absurd z hf) id
   have e:mpI P.m (λi=>LV P S i (r+1))=mpI P.m λi=>if S.kept i=P.n+r then S.p else 0:=bM λi hi=>by
    have e:=Sx.det_kept hg hi hj
    have c1:basis P S j=unit r:=by unfold Sx.basis;rw[ej,h.named.one r hr]
    rw[c1]at e
    unfold LV
    rw[hXV,e]
    by_cases hij:i=j
    ·rw[if_pos hij,if_pos (by rw[hij];exact ej)]
    ·rw[if_neg hij,if_neg λz=>hij (kept_inj hg hi hj (z.trans ej.symm))]
   rw[e]
   have a2:=nB (P:=P) (S:=S) (v0 none)
   refine ar (cS tI rfl) (cq (aW (cD (aV a2) (by rw[bn];lia) ?_)))
   refine lD (g:=λi=>D.int (nI S.kept i)) (λi=>D.int (if S.kept i=P.n+r then S.p else 0)) λi _=>?_
   have ap:=kE (P:=P) (S:=S) (env:=[some (.d (.int (nI S.kept i))),some (.d (.int ((P.n+r:Nat):Int))),some (.d (obD P S))]) (st:=st) (a:=iV 2) rfl
   have te:bm dEq (iV 0) (iV 1) [some (.d (.int (nI S.kept i))),some (.d (.int ((P.n+r:Nat):Int))),some (.d (obD P S))] st=some (decide (S.kept i=P.n+r),st):=by
    refine bf rfl rfl ?_
    rw[sR]
    congr 2
    rw[qcY,beq_iff_eq,decide_eq_true_eq]
    unfold nI;lia
   by_cases hk:S.kept i=P.n+r
   ·rw[decide_eq_true hk]at te
    rw[if_pos hk]
    exact sK te ap
   ·rw[decide_eq_false hk]at te
    rw[if_neg hk]
    exact xy te rfl
theorem qG (m:Nat) (f:Nat->Int):gF 0 (mpI m f)=(qag m).map λi=>D.tup [.int ((i:Nat):Int),.int (f i)]:=by
 apply qbZ
 intro i
 rw[ik,qaI]
 by_cases hi:i<m
 ·rw[d8 hi,qa9 hi,qbI];rfl
 ·rw[qa4 (by rw[bn];lia),qa4 (by rw[qao];lia)];rfl
theorem qi {tt:Tf}{te:Ef}{l:Ev}{st:Sto}{g:Nat->D×D} (p:Nat->Bool) (F:Nat->D):∀ {ks:List Nat},(∀ k∈ks,tt (some (.d (g k).1)::some (.d (g k).2)::l) st=some (p k,st)/\(p k=true->te (some (.d (g k).1)::some (.d (g k).2)::l) st=some (.d (F k),st)))->
  lcI (.tp [0,1]) tt te (none::none::l) (ks.map λk=>D.tup [(g k).1,(g k).2]) st=some ((ks.filter p).map F,st)
 |[],_=>rfl
 |k::ks,h=>by
  have ih:=qi (tt:=tt) (te:=te) (l:=l) (st:=st) (g:=g) p F (ks:=ks) λx hx=>h x (qah _ hx)
  obtain⟨h1,h2⟩:=h k qae
  rw[qay]
  unfold lcI
  rw[show eG (.tp [0,1]) (.d (.tup [(g k).1,(g k).2])) (none::none::l)=some (some (.d (g k).1)::some (.d (g k).2)::l) from rfl,qaa,h1,qaa]
  cases hp:p k with
  |true=>rw[if_pos rfl,h2 hp,qaa,ih,qdh hp];rfl
  |false=>rw[if_neg (show ¬ (false=true) by decide),ih,qdi (by rw[hp];decide)]
def gG (P:Pb) (S:Tb) (c:Nat):List Nat:=(qag P.m).filter λi=>decide (S.T i c > 0)
def gr (P:Pb) (S:Tb) (c:Nat):List Nat:=leaveL (λs i=>LV P S i s) (λi=>S.T i c) (qag (P.m+1)) (gG P S c)
theorem fk {tops bots:Nat->Int}{m:Nat}:∀ {ps least:List Nat},(∀ x∈ps,x<m)->(∀ x∈least,x<m)->(∀ x∈leastR tops bots ps least,x<m)/\(leastR tops bots ps least).length<=ps.length+least.length
 |[],least,_,h=>by rw[leastR];exact⟨h,by simp⟩
 |p::ps,[],hp,_=>by
  rw[leastR]
  have:=fk (tops:=tops) (bots:=bots) (ps:=ps) (least:=[p]) (λx hx=>hp x (qah _ hx)) λx hx=>by rw[qaj.mp hx];exact hp p qae
  exact⟨this.1,by have:=this.2;simp at this ⊢;lia⟩
 |p::ps,l0::r,hp,hl=>by
  have hps:∀ x∈ps,x<m:=λx hx=>hp x (qah _ hx)
  have hp0:=hp p qae
  rw[leastR]
  split
  ·have:=fk (tops:=tops) (bots:=bots) hps hl
   exact⟨this.1,by have:=this.2;simp at this ⊢;lia⟩
  ·split
   ·have:=fk (tops:=tops) (bots:=bots) (ps:=ps) (least:=[p]) hps λx hx=>by rw[qaj.mp hx];exact hp0
    exact⟨this.1,by have:=this.2;simp at this ⊢;lia⟩
   ·have:=fk (tops:=tops) (bots:=bots) (ps:=ps) (least:=(l0::r)++[p]) hps λx hx=>by
     rcases qaQ.mp hx with z|z
     ·exact hl x z
     ·rw[qaj.mp z];exact hp0
    exact⟨this.1,by have:=this.2;simp at this ⊢;lia⟩
section
variable {P:Pb}{S:Tb}{st:Sto}{c:Nat}
theorem qU (h:Okt P S) (hc:c<=P.n):∀ (ss ps:List Nat) (o4:Option W),(∀ s∈ss,s<=P.m)->(∀ x∈ps,x<P.m)->ps.length<=1000->
  ∃ o4',cC (.nm 4) fG (ss.map (bK P.n)) [some (.d (obD P S)),some (.d (.int (c:Int))),some (.d (.lst (mpI P.m λi=>S.T i c))),some (.d (.lst (psD ps))),o4] st=some (.nx [some (.d (obD P S)),some (.d (.int (c:Int))),some (.d (.lst (mpI P.m λi=>S.T i c))),some (.d (.lst (psD (leaveL (λs i=>LV P S i s) (λi=>S.T i c) ss ps)))),o4'] st)
 |[],ps,o4,_,_,_=>⟨o4,rfl⟩
 |s::ss,ps,o4,hs,hp,hz=>by
  have hset:eG (.nm 4) (.d (bK P.n s)) [some (.d (obD P S)),some (.d (.int (c:Int))),some (.d (.lst (mpI P.m λi=>S.T i c))),some (.d (.lst (psD ps))),o4]=some [some (.d (obD P S)),some (.d (.int (c:Int))),some (.d (.lst (mpI P.m λi=>S.T i c))),some (.d (.lst (psD ps))),some (.d (bK P.n s))]:=rfl
  have t0:bm dLt (iCB cv (aa (iV 3) ak)) (iC (.int 2)) [some (.d (obD P S)),some (.d (.int (c:Int))),some (.d (.lst (mpI P.m λi=>S.T i c))),some (.d (.lst (psD ps))),some (.d (bK P.n s))] st=some (decide (ps.length<2),st):=by
   refine bf (cO (ws:=[.d (.lst (psD ps))]) rfl (jb _ _)) rfl ?_
   rw[rj,sC]
   congr 2
   rw[qcY,decide_eq_true_eq,decide_eq_true_eq]
   lia
  rw[qay,leaveL]
  by_cases h2:ps.length<2
  ·rw[decide_eq_true h2]at t0
   rw[if_pos h2]
   refine⟨some (.d (bK P.n s)),?_⟩
   have hb:fG [some (.d (obD P S)),some (.d (.int (c:Int))),some (.d (.lst (mpI P.m λi=>S.T i c))),some (.d (.lst (psD ps))),some (.d (bK P.n s))] st=some (.bk [some (.d (obD P S)),some (.d (.int (c:Int))),some (.d (.lst (mpI P.m λi=>S.T i c))),some (.d (.lst (psD ps))),some (.d (bK P.n s))] st):=by
    have:=eK (a:=pZ) (b:=bz) t0 rfl
    show aq _ _ _ _=_
    simp only[aq,this];rfl
   simp only[cC,hset,qaa,hb]
  ·rw[decide_eq_false h2]at t0
   rw[if_neg h2]
   have e1:=wA (st:=st) h (hs s qae)
   have e2:=yD (st:=st) (tops:=λi=>LV P S i s) (bots:=λi=>S.T i c) (m:=P.m) (λi hi=>h.sL i s hi (hs s qae)) (λi hi=>h.sT i c hi hc) hp hz
   have hmem:=fk (tops:=λi=>LV P S i s) (bots:=λi=>S.T i c) (m:=P.m) (ps:=ps) (least:=[]) hp (λx hx=>nomatch hx)
   obtain⟨o4',ih⟩:=qU h hc ss (leastR (λi=>LV P S i s) (λi=>S.T i c) ps []) (some (.d (bK P.n s))) (λx hx=>hs x (qah _ hx)) hmem.1 (by have:=hmem.2;simp at this;lia)
   refine⟨o4',?_⟩
   have hb:fG [some (.d (obD P S)),some (.d (.int (c:Int))),some (.d (.lst (mpI P.m λi=>S.T i c))),some (.d (.lst (psD ps))),some (.d (bK P.n s))] st=some (.nx [some (.d (obD P S)),some (.d (.int (c:Int))),some (.d (.lst (mpI P.m λi=>S.T i c))),some (.d (.lst (psD (leastR (λi=>LV P S i s) (λi=>S.T i c) ps [])))),some (.d (bK P.n s))] st):=
    ar (cS t0 rfl) (ax (aI (ah rfl (ah (aI (ws:=[.d (obD P S),.d (bK P.n s)]) rfl e1) (ah rfl rfl))) e2))
   simp only[cC,hset,qaa,hb]
   exact ih
def pW (l:List Nat):D:=match l with
 |[]=>.non
 |r::_=>.int ((r:Nat):Int)
theorem pR (h:Okt P S) (hc:c<=P.n):ix [.d (obD P S),.d (.int (c:Int))] st=some (.d (pW (gr P S c)),st):=by
 have hm:=h.m64
 have a1:=dG (P:=P) (S:=S) (env:=[some (.d (obD P S)),some (.d (.int (c:Int))),none,none,none]) (st:=st) (a:=iV 0) rfl
 have s2:aD (.nm 2) (aM (iLc 1 [1] (aL (au "lines" (iV 0))) (.nm 0) bG jU)) [some (.d (obD P S)),some (.d (.int (c:Int))),none,none,none] st=some (.nx [some (.d (obD P S)),some (.d (.int (c:Int))),some (.d (.lst (mpI P.m λi=>S.T i c))),none,none] st):=
  ax (aW (cD (aV a1) (by rw[cX];lia) (lD (g:=lnD P.n S.T) (λi=>D.int (S.T i c)) λi _=>ai rfl rfl (oU st hc))))
 have hen:eL (aa (iV 2) ak) [some (.d (obD P S)),some (.d (.int (c:Int))),some (.d (.lst (mpI P.m λi=>S.T i c))),none,none] st=some ((qag P.m).map λi=>D.tup [.int ((i:Nat):Int),.int (S.T i c)],st):=by
  rw[<-qG];rfl
 have s3:aD (.nm 3) (aM (iLc 2 [] (eL (aa (iV 2) ak)) (.tp [0,1]) jY jT)) [some (.d (obD P S)),some (.d (.int (c:Int))),some (.d (.lst (mpI P.m λi=>S.T i c))),none,none] st=some (.nx [some (.d (obD P S)),some (.d (.int (c:Int))),some (.d (.lst (mpI P.m λi=>S.T i c))),some (.d (.lst (psD (gG P S c)))),none] st):=
  ax (aW (cD hen (by rw[qam,qao];lia) (qi (g:=λi=>(D.int ((i:Nat):Int),.int (S.T i c))) (λi=>decide (S.T i c > 0)) (λi=>D.int ((i:Nat):Int)) λi _=>⟨bf rfl rfl (rJ _ _ _),λ_=>rfl⟩)))
 have hcm:∀ x∈gG P S c,x<P.m:=λx hx=>qaB.mp (qcC.mp hx).1
 have hcl:(gG P S c).length<=1000:=by
  have:(gG P S c).length<=(qag P.m).length:=List.length_filter_le ..
  rw[qao]at this
  lia
 obtain⟨o4,hl⟩:=qU (st:=st) h hc (qag (P.m+1)) (gG P S c) none (λs hs=>by have:=qaB.mp hs;lia) hcm hcl
 have hw:=kH (st:=st) h
 have hit:aL (aS fj (aa (iV 0) ak)) [some (.d (obD P S)),some (.d (.int (c:Int))),some (.d (.lst (mpI P.m λi=>S.T i c))),some (.d (.lst (psD (gG P S c)))),none] st=some ((qag (P.m+1)).map (bK P.n),st):=aV (aI (ws:=[.d (obD P S)]) rfl hw)
 refine bh (n:=5) (k:=2) (b:=iq) rfl (ar s2 (ar s3 (ar (bI hit hl) (cq ?_))))
 show j0 (fE gh (iV 3)) (iOp dIx (iV 3) (iC (.int 0))) (iC .non) [some (.d (obD P S)),some (.d (.int (c:Int))),some (.d (.lst (mpI P.m λi=>S.T i c))),some (.d (.lst (psD (gr P S c)))),o4] st=_
 cases gr P S c with
 |nil=>rfl
 |cons r l=>exact sK (s:=st) rfl (ai rfl rfl (show atI (.int ((r:Nat):Int)::psD l) 0=_ from ud _ _))
theorem pj (hz:∀ i,i<P.m->S.T i c<=0):gr P S c=[]:=by
 have:gG P S c=[]:=by
  unfold gG
  rw[List.filter_eq_nil_iff]
  intro i hi
  have:=hz i (qaB.mp hi)
  simp;lia
 unfold gr
 rw[this,qb5,leaveL,if_pos (by decide)]
theorem pq (h:Okt P S) (hA:∀ i,i<P.m->∀ t,P.m<=t->P.A (S.kept i) t=0) (hz:¬ ∀ i,i<P.m->S.T i c<=0) :
  ∃ r,gr P S c=[r]/\r<P.m/\0<S.T r c/\∀ i,i<P.m->i≠r->0<S.T i c->lexP (P.m+1) λs=>S.T r c*LV P S i s - S.T i c*LV P S r s:=by
 have hC:∀ i,i∈gG P S c↔i<P.m/\0<S.T i c:=λi=>by
  unfold gG
  rw[qcC,qaB,decide_eq_true_eq]
 have hne:gG P S c≠[]:=λe=>hz λi hi=>by
  have:¬ (i<P.m/\0<S.T i c):=λz=>by
   have:=(hC i).mpr z
   rw[e]at this
   exact absurd this qbq
  lia
 obtain⟨r,h1,h2⟩:=Sx.leaving_ok h.good hA hC (qgI List.filter_sublist List.nodup_range) hne
 refine⟨r,?_,h2⟩
 rw[<-h1]
 unfold gr
 congr 1
 rw[show (λj=>0+j)=id by funext j;simp,List.map_id]
end
end Own
set_option maxHeartbeats 1000000
namespace Own
open PySem L2
open Sx (Pb Tb Good Named Fe LV ZV piv lexP leastR leaveL sumN unit colV basis)
theorem oq (s:Sto) (a b:D):dIx s (.d (.tup [a,b])) (.d (.int 0))=some a:=rfl
theorem oM (s:Sto) (a b:D):dIx s (.d (.tup [a,b])) (.d (.int 1))=some b:=rfl
theorem pN {a:Af}{env:Ev}{st s:Sto}{ws:List W}{ds:List D} (ha:a env st=some (ws,s)) (h:oS ws=some ds) (hl:ds.length<=1000):dj a env st=some (.d (.tup ds),s):=by
 simp only[dj,ha,qaa,h,hl,if_true]
section
variable {P:Pb}{S:Tb}{st:Sto}
theorem wF (s:Sto) (a:Int):dNe s (.d (.int a)) (.d (.int 0))=some (.bl (!(a==0))):=rfl
theorem Sm.two {a b:Int} (ha:Sm a) (hb:Sm b):(a*b).natAbs<2^8000:=sY (x:=4000) (y:=4000) ha hb
theorem rd (h:Okt P S) {c1 r1 c2 r2:Nat}{M B:Int} (hr1:r1<P.m) (hr2:r2<P.m) (hM:M.natAbs<2^8000) (hB:B.natAbs<2^8000):∀ (ss:List Nat) (o5 o6 o7:Option W),(∀ s∈ss,s<=P.m)->
  (∃ b,cC (.nm 5) cG (ss.map (bK P.n)) [some (.d (obD P S)),some (.d (.tup [.int (c1:Int),.int (r1:Int)])),some (.d (.tup [.int (c2:Int),.int (r2:Int)])),some (.d (.int M)),some (.d (.int B)),o5,o6,o7] st=some (.rt (.d (.bl b)) st))\/
  ∃ e,cC (.nm 5) cG (ss.map (bK P.n)) [some (.d (obD P S)),some (.d (.tup [.int (c1:Int),.int (r1:Int)])),some (.d (.tup [.int (c2:Int),.int (r2:Int)])),some (.d (.int M)),some (.d (.int B)),o5,o6,o7] st=some (.nx e st)
 |[],o5,o6,o7,_=>.inr ⟨_,rfl⟩
 |s::ss,o5,o6,o7,hs=>by
  have hsm:=hs s qae
  have e1:=wA (st:=st) h hsm
  have hset:eG (.nm 5) (.d (bK P.n s)) [some (.d (obD P S)),some (.d (.tup [.int (c1:Int),.int (r1:Int)])),some (.d (.tup [.int (c2:Int),.int (r2:Int)])),some (.d (.int M)),some (.d (.int B)),o5,o6,o7]=some [some (.d (obD P S)),some (.d (.tup [.int (c1:Int),.int (r1:Int)])),some (.d (.tup [.int (c2:Int),.int (r2:Int)])),some (.d (.int M)),some (.d (.int B)),some (.d (bK P.n s)),o6,o7]:=rfl
  have s6:aD (.nm 6) (aS dE (aa (iV 0) (aa (iV 5) ak))) [some (.d (obD P S)),some (.d (.tup [.int (c1:Int),.int (r1:Int)])),some (.d (.tup [.int (c2:Int),.int (r2:Int)])),some (.d (.int M)),some (.d (.int B)),some (.d (bK P.n s)),o6,o7] st=some (.nx [some (.d (obD P S)),some (.d (.tup [.int (c1:Int),.int (r1:Int)])),some (.d (.tup [.int (c2:Int),.int (r2:Int)])),some (.d (.int M)),some (.d (.int B)),some (.d (bK P.n s)),some (.d (.lst (mpI P.m λi=>LV P S i s))),o7] st):=ax (aI (ws:=[.d (obD P S),.d (bK P.n s)]) rfl e1)
  have m1:qbm B (LV P S r2 s):=mulOk 8000 4000 hB (h.sL r2 s hr2 hsm) (by decide)
  have m2:qbm M (LV P S r1 s):=mulOk 8000 4000 hM (h.sL r1 s hr1 hsm) (by decide)
  have s7:aD (.nm 7) (iOp fW (iOp aO (iV 4) (iOp dIx (iV 6) (iOp dIx (iV 2) (iC (.int 1))))) (iOp aO (iV 3) (iOp dIx (iV 6) (iOp dIx (iV 1) (iC (.int 1)))))) [some (.d (obD P S)),some (.d (.tup [.int (c1:Int),.int (r1:Int)])),some (.d (.tup [.int (c2:Int),.int (r2:Int)])),some (.d (.int M)),some (.d (.int B)),some (.d (bK P.n s)),some (.d (.lst (mpI P.m λi=>LV P S i s))),o7] st=some (.nx [some (.d (obD P S)),some (.d (.tup [.int (c1:Int),.int (r1:Int)])),some (.d (.tup [.int (c2:Int),.int (r2:Int)])),some (.d (.int M)),some (.d (.int B)),some (.d (bK P.n s)),some (.d (.lst (mpI P.m λi=>LV P S i s))),some (.d (.int (B*LV P S r2 s - M*LV P S r1 s)))] st):=
   ax (ai (ai rfl (ai rfl (ai rfl rfl (oM st _ _)) (fo st hr2)) (ce st m1)) (ai rfl (ai rfl (ai rfl rfl (oM st _ _)) (fo st hr1)) (ce st m2)) rfl)
  generalize B*LV P S r2 s - M*LV P S r1 s=Z at s7
  have tz:bm dNe (iV 7) (iC (.int 0)) [some (.d (obD P S)),some (.d (.tup [.int (c1:Int),.int (r1:Int)])),some (.d (.tup [.int (c2:Int),.int (r2:Int)])),some (.d (.int M)),some (.d (.int B)),some (.d (bK P.n s)),some (.d (.lst (mpI P.m λi=>LV P S i s))),some (.d (.int Z))] st=some (!(Z==0),st):=bf rfl rfl (wF st Z)
  rw[qay]
  cases hz:(Z==0) with
  |false=>
   rw[hz]at tz
   left
   refine⟨decide (Z > 0),?_⟩
   have hb:cG [some (.d (obD P S)),some (.d (.tup [.int (c1:Int),.int (r1:Int)])),some (.d (.tup [.int (c2:Int),.int (r2:Int)])),some (.d (.int M)),some (.d (.int B)),some (.d (bK P.n s)),o6,o7] st=some (.rt (.d (.bl (decide (Z > 0)))) st):=ar s6 (ar s7 (eK tz (cq (ai rfl rfl (rJ st _ _)))))
   simp only[cC,hset,qaa,hb]
  |true=>
   rw[hz]at tz
   have hb:cG [some (.d (obD P S)),some (.d (.tup [.int (c1:Int),.int (r1:Int)])),some (.d (.tup [.int (c2:Int),.int (r2:Int)])),some (.d (.int M)),some (.d (.int B)),some (.d (bK P.n s)),o6,o7] st=some (.nx [some (.d (obD P S)),some (.d (.tup [.int (c1:Int),.int (r1:Int)])),some (.d (.tup [.int (c2:Int),.int (r2:Int)])),some (.d (.int M)),some (.d (.int B)),some (.d (bK P.n s)),some (.d (.lst (mpI P.m λi=>LV P S i s))),some (.d (.int Z))] st):=ar s6 (ar s7 (cS tz rfl))
   have ih:=rd h (c1:=c1) (c2:=c2) hr1 hr2 hM hB ss (some (.d (bK P.n s))) (some (.d (.lst (mpI P.m λi=>LV P S i s)))) (some (.d (.int Z))) λx hx=>hs x (qah _ hx)
   simp only[cC,hset,qaa,hb]
   exact ih
theorem yP (h:Okt P S) {c1 r1 c2 r2:Nat} (hc1:c1<P.n) (hr1:r1<P.m) (hc2:c2<P.n) (hr2:r2<P.m):∃ b,cK [.d (obD P S),.d (.tup [.int (c1:Int),.int (r1:Int)]),.d (.tup [.int (c2:Int),.int (r2:Int)])] st=some (.d (.bl b),st):=by
 have v0:∀ o3 o4 o5 o6 o7,iV 0 [some (.d (obD P S)),some (.d (.tup [.int (c1:Int),.int (r1:Int)])),some (.d (.tup [.int (c2:Int),.int (r2:Int)])),o3,o4,o5,o6,o7] st=some (.d (obD P S),st):=λ_ _ _ _ _=>rfl
 have s3:aD (.nm 3) (iOp aO (iOp dIx (au "goal" (iV 0)) (iOp dIx (iV 1) (iC (.int 0)))) (iOp dIx (iOp dIx (au "lines" (iV 0)) (iOp dIx (iV 2) (iC (.int 1)))) (iOp dIx (iV 2) (iC (.int 0))))) [some (.d (obD P S)),some (.d (.tup [.int (c1:Int),.int (r1:Int)])),some (.d (.tup [.int (c2:Int),.int (r2:Int)])),none,none,none,none,none] st=some (.nx [some (.d (obD P S)),some (.d (.tup [.int (c1:Int),.int (r1:Int)])),some (.d (.tup [.int (c2:Int),.int (r2:Int)])),some (.d (.int (S.G c1*S.T r2 c2))),none,none,none,none] st):=
  ax (ai (ai (ky (v0 _ _ _ _ _)) (ai rfl rfl (oq st _ _)) (fo st (by lia))) (ai (ai (dG (v0 _ _ _ _ _)) (ai rfl rfl (oM st _ _)) (pe st hr2)) (ai rfl rfl (oq st _ _)) (oU st (by lia))) (ce st (Sm.mulOk (h.sG c1 (by lia)) (h.sT r2 c2 hr2 (by lia)))))
 have s4:aD (.nm 4) (iOp aO (iOp dIx (au "goal" (iV 0)) (iOp dIx (iV 2) (iC (.int 0)))) (iOp dIx (iOp dIx (au "lines" (iV 0)) (iOp dIx (iV 1) (iC (.int 1)))) (iOp dIx (iV 1) (iC (.int 0))))) [some (.d (obD P S)),some (.d (.tup [.int (c1:Int),.int (r1:Int)])),some (.d (.tup [.int (c2:Int),.int (r2:Int)])),some (.d (.int (S.G c1*S.T r2 c2))),none,none,none,none] st=some (.nx [some (.d (obD P S)),some (.d (.tup [.int (c1:Int),.int (r1:Int)])),some (.d (.tup [.int (c2:Int),.int (r2:Int)])),some (.d (.int (S.G c1*S.T r2 c2))),some (.d (.int (S.G c2*S.T r1 c1))),none,none,none] st):=
  ax (ai (ai (ky (v0 _ _ _ _ _)) (ai rfl rfl (oq st _ _)) (fo st (by lia))) (ai (ai (dG (v0 _ _ _ _ _)) (ai rfl rfl (oM st _ _)) (pe st hr1)) (ai rfl rfl (oq st _ _)) (oU st (by lia))) (ce st (Sm.mulOk (h.sG c2 (by lia)) (h.sT r1 c1 hr1 (by lia)))))
 have hit:aL (aS fj (aa (iV 0) ak)) [some (.d (obD P S)),some (.d (.tup [.int (c1:Int),.int (r1:Int)])),some (.d (.tup [.int (c2:Int),.int (r2:Int)])),some (.d (.int (S.G c1*S.T r2 c2))),some (.d (.int (S.G c2*S.T r1 c1))),none,none,none] st=some ((qag (P.m+1)).map (bK P.n),st):=aV (aI (ws:=[.d (obD P S)]) rfl (kH h))
 rcases rd (st:=st) h (c1:=c1) (c2:=c2) hr1 hr2 (Sm.two (h.sG c1 (by lia)) (h.sT r2 c2 hr2 (by lia))) (Sm.two (h.sG c2 (by lia)) (h.sT r1 c1 hr1 (by lia))) (qag (P.m+1)) none none none (λs hs=>by have:=qaB.mp hs;lia) with⟨b,e⟩|⟨e,he⟩
 ·exact⟨b,bh (n:=8) (k:=3) (b:=dF) rfl (ar s3 (ar s4 (jj (bI hit e))))⟩
 ·exact⟨false,bh (n:=8) (k:=3) (b:=dF) rfl (ar s3 (ar s4 (ar (bI hit he) rfl)))⟩
def jr (P:Pb) (S:Tb) (x:D):Prop:=x=.non\/∃ c r,c<P.n/\S.G c<0/\gr P S c=[r]/\r<P.m/\0<S.T r c/\(∀ i,i<P.m->i≠r->0<S.T i c->lexP (P.m+1) λs=>S.T r c*LV P S i s - S.T i c*LV P S r s)/\x=.tup [.int (c:Int),.int (r:Int)]
theorem nJ (h:Okt P S) (hA:∀ i,i<P.m->∀ t,P.m<=t->P.A (S.kept i) t=0):∀ (j k:Nat) (x:D) (o2 o3:Option W),k+j=P.n->jr P S x->(x=.non->∀ c,c<k->0<=S.G c)->
  (∃ c,c<P.n/\S.G c<0/\(∀ i,i<P.m->S.T i c<=0)/\cC (.nm 2) cz ((qdI k j).map λc=>D.int ((c:Nat):Int)) [some (.d (obD P S)),some (.d x),o2,o3] st=some (.rt (.d (.tup [.int (c:Int),.non])) st))\/
  ∃ y o2' o3',jr P S y/\(y=.non->∀ c,c<P.n->0<=S.G c)/\cC (.nm 2) cz ((qdI k j).map λc=>D.int ((c:Nat):Int)) [some (.d (obD P S)),some (.d x),o2,o3] st=some (.nx [some (.d (obD P S)),some (.d y),o2',o3'] st)
 |0,k,x,o2,o3,hk,hx,hxn=>.inr ⟨x,o2,o3,hx,by rw[<-hk,qhz];exact hxn,rfl⟩
 |j+1,k,x,o2,o3,hk,hx,hxn=>by
  have hkn:k<P.n:=by lia
  have hset:eG (.nm 2) (.d (.int ((k:Nat):Int))) [some (.d (obD P S)),some (.d x),o2,o3]=some [some (.d (obD P S)),some (.d x),some (.d (.int ((k:Nat):Int))),o3]:=rfl
  have v0:∀ a b d,iV 0 [some (.d (obD P S)),a,b,d] st=some (.d (obD P S),st):=λ_ _ _=>rfl
  have tg:bm dGe (iOp dIx (au "goal" (iV 0)) (iV 2)) (iC (.int 0)) [some (.d (obD P S)),some (.d x),some (.d (.int ((k:Nat):Int))),o3] st=some (decide (S.G k>=0),st):=bf (ai (ky (v0 _ _ _)) rfl (fo st (by lia))) rfl (yQ st _ _)
  rw[qfX,qay]
  by_cases hg:S.G k>=0
  ·rw[decide_eq_true hg]at tg
   have hb:cz [some (.d (obD P S)),some (.d x),some (.d (.int ((k:Nat):Int))),o3] st=some (.ct [some (.d (obD P S)),some (.d x),some (.d (.int ((k:Nat):Int))),o3] st):=by
    have:=eK (a:=mv) (b:=bz) tg rfl
    show aq _ _ _ _=_
    simp only[aq,this];rfl
   have ih:=nJ h hA j (k+1) x (some (.d (.int ((k:Nat):Int)))) o3 (by lia) hx λe c hc=>by
    by_cases z:c=k
    ·rw[z];exact hg
    ·exact hxn e c (by lia)
   simp only[cC,hset,qaa,hb]
   exact ih
  ·rw[decide_eq_false hg]at tg
   have hgl:S.G k<0:=by lia
   have el:=pR (st:=st) (c:=k) h (by lia)
   have s3:aD (.nm 3) (dj (aa (iV 2) (aa (aS ix (aa (iV 0) (aa (iV 2) ak))) ak))) [some (.d (obD P S)),some (.d x),some (.d (.int ((k:Nat):Int))),o3] st=some (.nx [some (.d (obD P S)),some (.d x),some (.d (.int ((k:Nat):Int))),some (.d (.tup [.int ((k:Nat):Int),pW (gr P S k)]))] st):=
    ax (pN (ah rfl (ah (aI (ws:=[.d (obD P S),.d (.int ((k:Nat):Int))]) rfl el) rfl)) rfl (by show 2<=1000;decide))
   by_cases hz:∀ i,i<P.m->S.T i k<=0
   ·rw[pj hz]at s3
    left
    refine⟨k,hkn,hgl,hz,?_⟩
    have tn:bm iZ (iOp dIx (iV 3) (iC (.int 1))) (iC .non) [some (.d (obD P S)),some (.d x),some (.d (.int ((k:Nat):Int))),some (.d (.tup [.int ((k:Nat):Int),pW []]))] st=some (true,st):=bf (ai rfl rfl (oM st _ _)) rfl (mN st)
    have hb:cz [some (.d (obD P S)),some (.d x),some (.d (.int ((k:Nat):Int))),o3] st=some (.rt (.d (.tup [.int ((k:Nat):Int),.non])) st):=ar (cS tg rfl) (ar s3 (jj (eK tn rfl)))
    simp only[cC,hset,qaa,hb]
   ·obtain⟨r,l1,l2,l3,l4⟩:=pq h hA hz
    rw[l1]at s3
    have tn:bm iZ (iOp dIx (iV 3) (iC (.int 1))) (iC .non) [some (.d (obD P S)),some (.d x),some (.d (.int ((k:Nat):Int))),some (.d (.tup [.int ((k:Nat):Int),.int ((r:Nat):Int)]))] st=some (false,st):=bf (ai rfl rfl (oM st _ _)) rfl (qQ st _)
    have hnew:jr P S (.tup [.int ((k:Nat):Int),.int ((r:Nat):Int)]):=.inr ⟨k,r,hkn,hgl,l1,l2,l3,l4,rfl⟩
    have key:∃ y,jr P S y/\y≠.non/\cz [some (.d (obD P S)),some (.d x),some (.d (.int ((k:Nat):Int))),o3] st=some (.nx [some (.d (obD P S)),some (.d y),some (.d (.int ((k:Nat):Int))),some (.d (.tup [.int ((k:Nat):Int),.int ((r:Nat):Int)]))] st):=by
     rcases hx with rfl|⟨c,r',c1,c2,c3,c4,c5,c6,rfl⟩
     ·have t1:bm iZ (iV 1) (iC .non) [some (.d (obD P S)),some (.d .non),some (.d (.int ((k:Nat):Int))),some (.d (.tup [.int ((k:Nat):Int),.int ((r:Nat):Int)]))] st=some (true,st):=bf rfl rfl (mN st)
      have t2:pH (bm iZ (iV 1) (iC .non)) (fE gh (aS cK (aa (iV 0) (aa (iV 3) (aa (iV 1) ak))))) [some (.d (obD P S)),some (.d .non),some (.d (.int ((k:Nat):Int))),some (.d (.tup [.int ((k:Nat):Int),.int ((r:Nat):Int)]))] st=some (true,st):=by simp only[pH,t1,qaa,if_true]
      exact⟨_,hnew,by simp,ar (cS tg rfl) (ar s3 (ar (cS tn rfl) (eK t2 rfl)))⟩
     ·obtain⟨b,eb⟩:=yP (st:=st) h hkn l2 c1 c4
      have t1:bm iZ (iV 1) (iC .non) [some (.d (obD P S)),some (.d (.tup [.int (c:Int),.int (r':Int)])),some (.d (.int ((k:Nat):Int))),some (.d (.tup [.int ((k:Nat):Int),.int ((r:Nat):Int)]))] st=some (false,st):=bf rfl rfl (vT st _)
      have t3:aS cK (aa (iV 0) (aa (iV 3) (aa (iV 1) ak))) [some (.d (obD P S)),some (.d (.tup [.int (c:Int),.int (r':Int)])),some (.d (.int ((k:Nat):Int))),some (.d (.tup [.int ((k:Nat):Int),.int ((r:Nat):Int)]))] st=some (.d (.bl b),st):=aI (ws:=[.d (obD P S),.d (.tup [.int ((k:Nat):Int),.int ((r:Nat):Int)]),.d (.tup [.int (c:Int),.int (r':Int)])]) rfl eb
      have t2:pH (bm iZ (iV 1) (iC .non)) (fE gh (aS cK (aa (iV 0) (aa (iV 3) (aa (iV 1) ak))))) [some (.d (obD P S)),some (.d (.tup [.int (c:Int),.int (r':Int)])),some (.d (.int ((k:Nat):Int))),some (.d (.tup [.int ((k:Nat):Int),.int ((r:Nat):Int)]))] st=some (b,st):=by simp only[pH,t1,fE,t3,qaa,qbK,if_false,gh,qar]
      cases b with
      |true=>exact⟨_,hnew,by simp,ar (cS tg rfl) (ar s3 (ar (cS tn rfl) (eK t2 rfl)))⟩
      |false=>exact⟨_,.inr ⟨c,r',c1,c2,c3,c4,c5,c6,rfl⟩,by simp,ar (cS tg rfl) (ar s3 (ar (cS tn rfl) (cS t2 rfl)))⟩
    obtain⟨y,hy,hyn,hb⟩:=key
    have ih:=nJ h hA j (k+1) y (some (.d (.int ((k:Nat):Int)))) (some (.d (.tup [.int ((k:Nat):Int),.int ((r:Nat):Int)]))) (by lia) hy λe=>absurd e hyn
    simp only[cC,hset,qaa,hb]
    exact ih
theorem yq (h:Okt P S) (hA:∀ i,i<P.m->∀ t,P.m<=t->P.A (S.kept i) t=0) :
  (∃ c,c<P.n/\S.G c<0/\(∀ i,i<P.m->S.T i c<=0)/\ck [.d (obD P S)] st=some (.d (.tup [.int (c:Int),.non]),st))\/
  ∃ y,jr P S y/\(y=.non->∀ c,c<P.n->0<=S.G c)/\ck [.d (obD P S)] st=some (.d y,st):=by
 have hn:=h.n64
 have af:=kC (P:=P) (S:=S) (env:=[some (.d (obD P S)),some (.d .non),none,none]) (st:=st) (a:=iV 0) rfl
 have hr:eJ (aa (iCB cv (aa (au "free" (iV 0)) ak)) ak) [some (.d (obD P S)),some (.d .non),none,none] st=some ((qdI 0 P.n).map λc=>D.int ((c:Nat):Int),st):=by
  have this:=nk (z:=(P.n:Int)) (m:=P.n) (cO (ah (b:=ak) af rfl) (show cv st [.d (.lst (mpI P.n (nI S.free)))]=some (.int (P.n:Int)) by rw[jb,bn])) (by lia) (by lia) (by lia)
  have e2:dL 0 P.n=(qdI 0 P.n).map λc=>D.int ((c:Nat):Int):=by
   unfold dL
   rw[qfe]
   exact qct λk _=>by rw[qdy]
  rw[<-e2]
  exact this
 rcases nJ (st:=st) h hA P.n 0 .non none none (by lia) (.inl rfl) (λ_ c hc=>absurd hc (by lia)) with⟨c,c1,c2,c3,e⟩|⟨y,o2,o3,y1,y2,e⟩
 ·exact .inl ⟨c,c1,c2,c3,bh (n:=4) (k:=1) (b:=eI) rfl (ar (s:=st) (e:=[some (.d (obD P S)),some (.d .non),none,none]) rfl (jj (bI hr e)))⟩
 ·exact .inr ⟨y,y1,y2,bh (n:=4) (k:=1) (b:=eI) rfl (ar (s:=st) (e:=[some (.d (obD P S)),some (.d .non),none,none]) rfl (ar (bI hr e) rfl))⟩
end
end Own
set_option maxHeartbeats 1000000
namespace Own
open PySem L2
open Sx (Pb Tb Good Named Fe LV ZV piv lexP leastR leaveL sumN unit colV basis)
theorem ef {n k:Nat} (h:k<n):ixN n (k:Int)=some k:=by
 unfold ixN
 rw[if_pos (by lia),if_pos (by lia)]
 rfl
theorem wX (n:Nat) (f g:Nat->Int):iS (mpI n f) (mpI n g)=(qag n).map λc=>D.tup [.int (f c),.int (g c)]:=by
 apply qbZ
 intro i
 rw[gY,qaI]
 by_cases hi:i<n
 ·rw[d8 hi,d8 hi,qa9 hi];rfl
 ·rw[qa4 (l:=mpI n f) (by rw[bn];lia),qa4 (l:=qag n) (by rw[qao];lia)];rfl
theorem sQ {te:Ef}{l:Ev}{st:Sto}{g:Nat->D×D} (F:Nat->D) {ks:List Nat} (h:∀ k∈ks,te (some (.d (g k).1)::some (.d (g k).2)::l) st=some (.d (F k),st)) :
  lcI (.tp [0,1]) bG te (none::none::l) (ks.map λk=>D.tup [(g k).1,(g k).2]) st=some (ks.map F,st):=by
 have:=qi (tt:=bG) (te:=te) (l:=l) (st:=st) (g:=g) (λ_=>true) F (ks:=ks) λk hk=>⟨rfl,λ_=>h k hk⟩
 rw[this,qfo.mpr λ_ _=>rfl]
theorem oa {st:Sto}{n e:Nat}{f g:Nat->Int}{p:Int} (he:e<=n) (p0:0<p) (sp:Sm p) (sf:∀ c,c<=n->Sm (f c)) (sg:∀ c,c<=n->Sm (g c)) (hn:n<=1000) :
  im [.d (.lst (mpI (n+1) f)),.d (.lst (mpI (n+1) g)),.d (.int (e:Int)),.d (.int p)] st=some (.d (.lst (mpI (n+1) λc=>if c=e then - f e else (g e*f c - f e*g c) / p)),st):=by
 have he1:e<n+1:=by lia
 have hz:gN (aa (iV 0) (aa (iV 1) ak)) [some (.d (.lst (mpI (n+1) f))),some (.d (.lst (mpI (n+1) g))),some (.d (.int (e:Int))),some (.d (.int p)),some (.d (.int (g e))),some (.d (.int (f e))),none] st=some ((qag (n+1)).map λc=>D.tup [.int (f c),.int (g c)],st):=by
  rw[<-wX];rfl
 have hl:lcI (.tp [0,1]) bG jL [none,none,some (.d (.int (g e))),some (.d (.int (f e))),some (.d (.int p))] ((qag (n+1)).map λc=>D.tup [.int (f c),.int (g c)]) st=some (mpI (n+1) λc=>(g e*f c - f e*g c) / p,st):=by
  refine sQ (g:=λc=>(D.int (f c),.int (g c))) (λc=>D.int ((g e*f c - f e*g c) / p)) λc hc=>?_
  have hc':c<=n:=by have:=qaB.mp hc;lia
  exact ai (ai (ai rfl rfl (ce st (Sm.mulOk (sg e he) (sf c hc')))) (ai rfl rfl (ce st (Sm.mulOk (sf e he) (sg c hc')))) rfl) rfl (qr st p0 sp)
 have s6:aD (.nm 6) (dZ (iLc 2 [4,5,3] (gN (aa (iV 0) (aa (iV 1) ak))) (.tp [0,1]) bG jL)) [some (.d (.lst (mpI (n+1) f))),some (.d (.lst (mpI (n+1) g))),some (.d (.int (e:Int))),some (.d (.int p)),some (.d (.int (g e))),some (.d (.int (f e))),none] st=some (.nx [some (.d (.lst (mpI (n+1) f))),some (.d (.lst (mpI (n+1) g))),some (.d (.int (e:Int))),some (.d (.int p)),some (.d (.int (g e))),some (.d (.int (f e))),some (.h st.length)] (st++[.l (mpI (n+1) λc=>(g e*f c - f e*g c) / p)])):=by
  refine ax ?_
  have:=cD (k:=2) (js:=[4,5,3]) hz (by rw[qam,qao];lia) hl
  simp only[dZ,this,qar]
 have s7:bE (iV 6) (iV 2) (iUn j5 (iV 5)) [some (.d (.lst (mpI (n+1) f))),some (.d (.lst (mpI (n+1) g))),some (.d (.int (e:Int))),some (.d (.int p)),some (.d (.int (g e))),some (.d (.int (f e))),some (.h st.length)] (st++[.l (mpI (n+1) λc=>(g e*f c - f e*g c) / p)])=some (.nx [some (.d (.lst (mpI (n+1) f))),some (.d (.lst (mpI (n+1) g))),some (.d (.int (e:Int))),some (.d (.int p)),some (.d (.int (g e))),some (.d (.int (f e))),some (.h st.length)] (st++[.l (mpI (n+1) λc=>if c=e then - f e else (g e*f c - f e*g c) / p)])):=by
  have hs:fR (st++[.l (mpI (n+1) λc=>(g e*f c - f e*g c) / p)]) (.h st.length) (.d (.int (e:Int))) (.d (.int (- f e)))=some (st++[.l (mpI (n+1) λc=>if c=e then - f e else (g e*f c - f e*g c) / p)]):=by
   simp only[fR,iR,qaa,bn,ef he1,qar,kZ,gy]
  have v:iUn j5 (iV 5) [some (.d (.lst (mpI (n+1) f))),some (.d (.lst (mpI (n+1) g))),some (.d (.int (e:Int))),some (.d (.int p)),some (.d (.int (g e))),some (.d (.int (f e))),some (.h st.length)] (st++[.l (mpI (n+1) λc=>(g e*f c - f e*g c) / p)])=some (.d (.int (- f e)),st++[.l (mpI (n+1) λc=>(g e*f c - f e*g c) / p)]):=rfl
  have v6:iV 6 [some (.d (.lst (mpI (n+1) f))),some (.d (.lst (mpI (n+1) g))),some (.d (.int (e:Int))),some (.d (.int p)),some (.d (.int (g e))),some (.d (.int (f e))),some (.h st.length)] (st++[.l (mpI (n+1) λc=>(g e*f c - f e*g c) / p)])=some (.h st.length,st++[.l (mpI (n+1) λc=>(g e*f c - f e*g c) / p)]):=rfl
  have v2:iV 2 [some (.d (.lst (mpI (n+1) f))),some (.d (.lst (mpI (n+1) g))),some (.d (.int (e:Int))),some (.d (.int p)),some (.d (.int (g e))),some (.d (.int (f e))),some (.h st.length)] (st++[.l (mpI (n+1) λc=>(g e*f c - f e*g c) / p)])=some (.d (.int (e:Int)),st++[.l (mpI (n+1) λc=>(g e*f c - f e*g c) / p)]):=rfl
  simp only[bE,v,v6,v2,qaa,hs,qar]
 have:=kB (n:=7) (k:=4) (b:=ku) (ws:=[.d (.lst (mpI (n+1) f)),.d (.lst (mpI (n+1) g)),.d (.int (e:Int)),.d (.int p)]) (st:=st) (h:=st.length) rfl (ar (ax (ai rfl rfl (fo st he1))) (ar (ax (ai rfl rfl (fo st he1))) (ar s6 (ar s7 rfl)))) (qal _) (iR _ _)
 rw[qdD]at this
 exact this
abbrev stG (st0:Sto) (fr kp:List D) (fs:List (Str×W)):Sto:=st0++[.l fr,.l kp,.o fs]
def fsO (n:Nat) (ln:List D) (gl:List D) (p:Int) (L:Nat):List (Str×W):=[("amounts",.d (.int (n:Int))),("lines",.d (.lst ln)),("goal",.d (.lst gl)),("part",.d (.int p)),("free",.h L),("kept",.h (L+1))]
section
variable {st0:Sto}{fr kp:List D}{fs:List (Str×W)}
theorem sg2:(stG st0 fr kp fs)[st0.length+2]?=some (.o fs):=by rw[qaJ (by lia)];simp
theorem sg0:lg (stG st0 fr kp fs) st0.length=some fr:=by unfold lg;rw[qaJ (by lia)];simp
theorem sg1:lg (stG st0 fr kp fs) (st0.length+1)=some kp:=by unfold lg;rw[qaJ (by lia)];simp
theorem ss2 {gs:List (Str×W)}:(stG st0 fr kp fs).set (st0.length+2) (.o gs)=stG st0 fr kp gs:=by rw[qcO _ _ (by lia)];simp
theorem ss0 {x:List D}:(stG st0 fr kp fs).set st0.length (.l x)=stG st0 x kp fs:=by rw[qcO _ _ (by lia)];simp
theorem ss1 {x:List D}:(stG st0 fr kp fs).set (st0.length+1) (.l x)=stG st0 fr x fs:=by rw[qcO _ _ (by lia)];simp
theorem jV {f:Str}{w:W}{a:Ef}{env:Ev} (h:a env (stG st0 fr kp fs)=some (.h (st0.length+2),stG st0 fr kp fs)) (hl:fs.lookup f=some w):au f a env (stG st0 fr kp fs)=some (w,stG st0 fr kp fs):=by
 simp only[au,h,qaa,sg2,hl,qar]
theorem mC {f:Str}{x:D}{o v:Ef}{env:Ev} (hv:v env (stG st0 fr kp fs)=some (.d x,stG st0 fr kp fs)) (ho:o env (stG st0 fr kp fs)=some (.h (st0.length+2),stG st0 fr kp fs)) (hz:fs.length<1000) (hl:(fs.lookup f).isSome=true):iK f o v env (stG st0 fr kp fs)=some (.nx env (stG st0 fr kp (jz f (.d x) fs))):=by
 simp only[iK,hv,ho,qaa,sg2,hz,hl,and_self,if_true,ss2]
end
section
variable {n L:Nat}{ln gl ln' gl':List D}{p p':Int}
theorem vK:jz ("goal" : Str) (.d (.lst gl')) (fsO n ln gl p L)=fsO n ln gl' p L:=rfl
theorem uo:jz ("lines" : Str) (.d (.lst ln')) (fsO n ln gl p L)=fsO n ln' gl p L:=rfl
theorem u7:jz ("part" : Str) (.d (.int p')) (fsO n ln gl p L)=fsO n ln gl p' L:=rfl
theorem on:(fsO n ln gl p L).lookup ("lines" : Str)=some (.d (.lst ln)):=rfl
theorem vP:(fsO n ln gl p L).lookup ("goal" : Str)=some (.d (.lst gl)):=rfl
theorem vX:(fsO n ln gl p L).lookup ("part" : Str)=some (.d (.int p)):=rfl
end
def stO (st0:Sto) (P:Pb) (S:Tb):Sto:=stG st0 (mpI P.n (nI S.free)) (mpI P.m (nI S.kept)) (fsO P.n (aH P.m P.n S.T) (mpI (P.n+1) S.G) S.p st0.length)
theorem tL {st0:Sto}{P:Pb}{S:Tb}{ws:List W}{ws':List W} (h:vwA (stO st0 P S) ws=some ws'):vwA (stO st0 P S) (.h (st0.length+2)::ws)=some (.d (obD P S)::ws'):=by
 have e:vwW (stO st0 P S) (.h (st0.length+2))=some (.d (obD P S)):=by
  unfold vwW stO
  dsimp only
  rw[sg2]
  dsimp only
  rw[if_pos (by show 5<6;decide)]
  have:vwF (stG st0 (mpI P.n (nI S.free)) (mpI P.m (nI S.kept)) (fsO P.n (aH P.m P.n S.T) (mpI (P.n+1) S.G) S.p st0.length)) (fsO P.n (aH P.m P.n S.T) (mpI (P.n+1) S.G) S.p st0.length)=some [.int (P.n:Int),.lst (aH P.m P.n S.T),.lst (mpI (P.n+1) S.G),.int S.p,.lst (mpI P.n (nI S.free)),.lst (mpI P.m (nI S.kept))]:=by
   simp only[fsO,vwF,qar]
   rw[show lg (stG st0 (mpI P.n (nI S.free)) (mpI P.m (nI S.kept)) [("amounts",W.d (.int (P.n:Int))),("lines",.d (.lst (aH P.m P.n S.T))),("goal",.d (.lst (mpI (P.n+1) S.G))),("part",.d (.int S.p)),("free",.h st0.length),("kept",.h (st0.length+1))]) st0.length=some (mpI P.n (nI S.free)) from sg0,show lg (stG st0 (mpI P.n (nI S.free)) (mpI P.m (nI S.kept)) [("amounts",W.d (.int (P.n:Int))),("lines",.d (.lst (aH P.m P.n S.T))),("goal",.d (.lst (mpI (P.n+1) S.G))),("part",.d (.int S.p)),("free",.h st0.length),("kept",.h (st0.length+1))]) (st0.length+1)=some (mpI P.m (nI S.kept)) from sg1]
   rfl
  rw[this];rfl
 simp only[vwA,e,h,qaa,qar]
theorem rV {m n r:Nat}{F:Nat->Nat->Int}{g:Nat->Int}:((qag m).map λi=>D.lst (mpI (n+1) (F i))).set r (.lst (mpI (n+1) g))=aH m n λi=>if i=r then g else F i:=by
 apply qbZ
 intro i
 by_cases hi:i<m
 ·rw[lH hi]
  by_cases e:i=r
  ·subst e
   rw[qa5 (by rw[qam,qao];exact hi)]
   unfold lnD;dsimp only;rw[if_pos rfl]
  ·rw[qbc (qbo e),qaI,qa9 hi]
   unfold lnD;dsimp only;rw[if_neg e];rfl
 ·rw[qa4 (by rw[qbv,qam,qao];lia),qa4 (by rw[cX];lia)]
theorem v4 {st0:Sto}{P:Pb}{S:Tb} (h:Okt P S) {r e:Nat} (hr:r<P.m) (he:e<P.n):dW [.h (st0.length+2),.d (.int (r:Int)),.d (.int (e:Int))] (stO st0 P S)=some (.d .non,stO st0 P (piv S r e)):=by
 have hm:=h.m64
 have hn:=h.n64
 have hp:=h.good.pos
 -- turning,part
 generalize hT:S.T=T at *
 have fin:∀ (env:Ev) (s:Sto),fu [some (.h (st0.length+2)),some (.d (.int (r:Int))),some (.d (.int (e:Int))),none,none,none,none] (stO st0 P S)=some (.nx env s)->s.take (stO st0 P S).length=s->dW [.h (st0.length+2),.d (.int (r:Int)),.d (.int (e:Int))] (stO st0 P S)=some (.d .non,s):=λenv s h1 h2=>by
  show (fu [some (.h (st0.length+2)),some (.d (.int (r:Int))),some (.d (.int (e:Int))),none,none,none,none] (stO st0 P S)).bind _=_
  rw[h1]
  show some (W.d .non,s.take (stO st0 P S).length)=_
  rw[h2]
 have v0:∀ (a b c d g i:Option W) (s:Sto),iV 0 [some (.h (st0.length+2)),a,b,c,d,g,i] s=some (.h (st0.length+2),s):=λ_ _ _ _ _ _ _=>rfl
 have s3:aD (.nm 3) (iOp dIx (au ("lines" : Str) (iV 0)) (iV 1)) [some (.h (st0.length+2)),some (.d (.int (r:Int))),some (.d (.int (e:Int))),none,none,none,none] (stO st0 P S)=some (.nx [some (.h (st0.length+2)),some (.d (.int (r:Int))),some (.d (.int (e:Int))),some (.d (.lst (mpI (P.n+1) (T r)))),none,none,none] (stO st0 P S)):=by
  refine ax (ai (jV (v0 _ _ _ _ _ _ _) on) rfl ?_)
  rw[hT];exact pe _ hr
 have s4:aD (.nm 4) (au ("part" : Str) (iV 0)) [some (.h (st0.length+2)),some (.d (.int (r:Int))),some (.d (.int (e:Int))),some (.d (.lst (mpI (P.n+1) (T r)))),none,none,none] (stO st0 P S)=some (.nx [some (.h (st0.length+2)),some (.d (.int (r:Int))),some (.d (.int (e:Int))),some (.d (.lst (mpI (P.n+1) (T r)))),some (.d (.int S.p)),none,none] (stO st0 P S)):=ax (jV (v0 _ _ _ _ _ _ _) vX)
 have sT:∀ i c,i<P.m->c<=P.n->Sm (T i c):=λi c hi hc=>by rw[<-hT];exact h.sT i c hi hc
 have hfl:iLc 1 [3,2,4] (aL (au ("lines" : Str) (iV 0))) (.nm 0) bG eV [some (.h (st0.length+2)),some (.d (.int (r:Int))),some (.d (.int (e:Int))),some (.d (.lst (mpI (P.n+1) (T r)))),some (.d (.int S.p)),none,none] (stO st0 P S)=some ((qag P.m).map λi=>D.lst (mpI (P.n+1) λc=>if c=e then - T i e else (T r e*T i c - T i e*T r c) / S.p),stO st0 P S):=by
  have a1:=jV (f:=("lines" : Str)) (a:=iV 0) (st0:=st0) (fr:=mpI P.n (nI S.free)) (kp:=mpI P.m (nI S.kept)) (fs:=fsO P.n (aH P.m P.n S.T) (mpI (P.n+1) S.G) S.p st0.length) (v0 (some (.d (.int (r:Int)))) (some (.d (.int (e:Int)))) (some (.d (.lst (mpI (P.n+1) (T r))))) (some (.d (.int S.p))) none none _) on
  refine cD (aV a1) (by rw[cX];lia) ?_
  show lcI (.nm 0) bG eV [none,some (.d (.lst (mpI (P.n+1) (T r)))),some (.d (.int (e:Int))),some (.d (.int S.p))] (aH P.m P.n S.T) (stO st0 P S)=_
  rw[show aH P.m P.n S.T=(qag P.m).map (lnD P.n T) by rw[hT];rfl]
  refine lD (g:=lnD P.n T) _ λi hi=>?_
  have hi':=qaB.mp hi
  exact aI (ws:=[.d (lnD P.n T i),.d (.lst (mpI (P.n+1) (T r))),.d (.int (e:Int)),.d (.int S.p)]) rfl (oa (f:=T i) (g:=T r) (by lia) hp h.sp (λc hc=>sT i c hi' hc) (λc hc=>sT r c hr hc) (by lia))
 have s5:i3 5 1 2 3 4 (iLc 1 [3,2,4] (aL (au ("lines" : Str) (iV 0))) (.nm 0) bG eV) [some (.h (st0.length+2)),some (.d (.int (r:Int))),some (.d (.int (e:Int))),some (.d (.lst (mpI (P.n+1) (T r)))),some (.d (.int S.p)),none,none] (stO st0 P S)=some (.nx [some (.h (st0.length+2)),some (.d (.int (r:Int))),some (.d (.int (e:Int))),some (.d (.lst (mpI (P.n+1) (T r)))),some (.d (.int S.p)),some (.d (.lst (aH P.m P.n (piv S r e).T))),none] (stO st0 P S)):=by
  simp only[i3,hfl,qaa,qb2,qb1]
  rw[qam,qao,ef hr,bn,ef (by lia:e<P.n+1),qaa,qaa,if_pos ⟨by lia,by show 5<7;decide,nP _ _⟩,gy,rV]
  show some (Fl.nx [_,_,_,_,_,some (W.d (.lst (aH P.m P.n _))),none] _)=_
  have:(λi=>if i=r then (λj=>if j=e then S.p else T r j) else λc=>if c=e then - T i e else (T r e*T i c - T i e*T r c) / S.p)=(piv S r e).T:=by
   funext i c
   show _=if i=r then (if c=e then S.p else S.T r c) else (if c=e then - S.T i e else (S.T r e*S.T i c - S.T i e*S.T r c) / S.p)
   rw[hT]
   by_cases hi:i=r
   ·rw[if_pos hi,if_pos hi]
   ·rw[if_neg hi,if_neg hi]
  rw[this]
 have s6:iK ("goal" : Str) (iV 0) (aS im (aa (au ("goal" : Str) (iV 0)) (aa (iV 3) (aa (iV 2) (aa (iV 4) ak))))) [some (.h (st0.length+2)),some (.d (.int (r:Int))),some (.d (.int (e:Int))),some (.d (.lst (mpI (P.n+1) (T r)))),some (.d (.int S.p)),some (.d (.lst (aH P.m P.n (piv S r e).T))),none] (stO st0 P S)=some (.nx [some (.h (st0.length+2)),some (.d (.int (r:Int))),some (.d (.int (e:Int))),some (.d (.lst (mpI (P.n+1) (T r)))),some (.d (.int S.p)),some (.d (.lst (aH P.m P.n (piv S r e).T))),none] (stG st0 (mpI P.n (nI S.free)) (mpI P.m (nI S.kept)) (fsO P.n (aH P.m P.n S.T) (mpI (P.n+1) (piv S r e).G) S.p st0.length))):=by
  have e0:(λc=>if c=e then - S.G e else (T r e*S.G c - S.G e*T r c) / S.p)=(piv S r e).G:=by
   funext c
   show _=if c=e then - S.G e else (S.T r e*S.G c - S.G e*S.T r c) / S.p
   rw[hT]
  have e1:=oa (st:=stO st0 P S) (f:=S.G) (g:=T r) (n:=P.n) (e:=e) (by lia) hp h.sp (λc hc=>h.sG c hc) (λc hc=>sT r c hr hc) (by lia)
  rw[e0]at e1
  have a1:=jV (f:=("goal" : Str)) (a:=iV 0) (st0:=st0) (fr:=mpI P.n (nI S.free)) (kp:=mpI P.m (nI S.kept)) (fs:=fsO P.n (aH P.m P.n S.T) (mpI (P.n+1) S.G) S.p st0.length) (v0 (some (.d (.int (r:Int)))) (some (.d (.int (e:Int)))) (some (.d (.lst (mpI (P.n+1) (T r))))) (some (.d (.int S.p))) (some (.d (.lst (aH P.m P.n (piv S r e).T)))) none _) vP
  have:=mC (f:=("goal" : Str)) (o:=iV 0) (v:=aS im (aa (au ("goal" : Str) (iV 0)) (aa (iV 3) (aa (iV 2) (aa (iV 4) ak))))) (st0:=st0) (fr:=mpI P.n (nI S.free)) (kp:=mpI P.m (nI S.kept)) (fs:=fsO P.n (aH P.m P.n S.T) (mpI (P.n+1) S.G) S.p st0.length) (aI (ah a1 (ah rfl (ah rfl (ah rfl rfl)))) e1) (v0 _ _ _ _ _ _ _) (by show 6<1000;decide) rfl
  rw[vK]at this
  exact this
 have s7:iK ("lines" : Str) (iV 0) (iV 5) [some (.h (st0.length+2)),some (.d (.int (r:Int))),some (.d (.int (e:Int))),some (.d (.lst (mpI (P.n+1) (T r)))),some (.d (.int S.p)),some (.d (.lst (aH P.m P.n (piv S r e).T))),none] (stG st0 (mpI P.n (nI S.free)) (mpI P.m (nI S.kept)) (fsO P.n (aH P.m P.n S.T) (mpI (P.n+1) (piv S r e).G) S.p st0.length))=some (.nx [some (.h (st0.length+2)),some (.d (.int (r:Int))),some (.d (.int (e:Int))),some (.d (.lst (mpI (P.n+1) (T r)))),some (.d (.int S.p)),some (.d (.lst (aH P.m P.n (piv S r e).T))),none] (stG st0 (mpI P.n (nI S.free)) (mpI P.m (nI S.kept)) (fsO P.n (aH P.m P.n (piv S r e).T) (mpI (P.n+1) (piv S r e).G) S.p st0.length))):=by
  have:=mC (f:=("lines" : Str)) (o:=iV 0) (v:=iV 5) (x:=.lst (aH P.m P.n (piv S r e).T)) (env:=[some (.h (st0.length+2)),some (.d (.int (r:Int))),some (.d (.int (e:Int))),some (.d (.lst (mpI (P.n+1) (T r)))),some (.d (.int S.p)),some (.d (.lst (aH P.m P.n (piv S r e).T))),none]) (st0:=st0) (fr:=mpI P.n (nI S.free)) (kp:=mpI P.m (nI S.kept)) (fs:=fsO P.n (aH P.m P.n S.T) (mpI (P.n+1) (piv S r e).G) S.p st0.length) rfl rfl (by show 6<1000;decide) rfl
  rw[uo]at this
  exact this
 have s8:iK ("part" : Str) (iV 0) (iOp dIx (iV 3) (iV 2)) [some (.h (st0.length+2)),some (.d (.int (r:Int))),some (.d (.int (e:Int))),some (.d (.lst (mpI (P.n+1) (T r)))),some (.d (.int S.p)),some (.d (.lst (aH P.m P.n (piv S r e).T))),none] (stG st0 (mpI P.n (nI S.free)) (mpI P.m (nI S.kept)) (fsO P.n (aH P.m P.n (piv S r e).T) (mpI (P.n+1) (piv S r e).G) S.p st0.length))=some (.nx [some (.h (st0.length+2)),some (.d (.int (r:Int))),some (.d (.int (e:Int))),some (.d (.lst (mpI (P.n+1) (T r)))),some (.d (.int S.p)),some (.d (.lst (aH P.m P.n (piv S r e).T))),none] (stG st0 (mpI P.n (nI S.free)) (mpI P.m (nI S.kept)) (fsO P.n (aH P.m P.n (piv S r e).T) (mpI (P.n+1) (piv S r e).G) (piv S r e).p st0.length))):=by
  have ep:(piv S r e).p=T r e:=by show S.T r e=_;rw[hT]
  have:=mC (f:=("part" : Str)) (o:=iV 0) (v:=iOp dIx (iV 3) (iV 2)) (x:=.int (T r e)) (env:=[some (.h (st0.length+2)),some (.d (.int (r:Int))),some (.d (.int (e:Int))),some (.d (.lst (mpI (P.n+1) (T r)))),some (.d (.int S.p)),some (.d (.lst (aH P.m P.n (piv S r e).T))),none]) (st0:=st0) (fr:=mpI P.n (nI S.free)) (kp:=mpI P.m (nI S.kept)) (fs:=fsO P.n (aH P.m P.n (piv S r e).T) (mpI (P.n+1) (piv S r e).G) S.p st0.length) (ai rfl rfl (fo _ (by lia))) rfl (by show 6<1000;decide) rfl
  rw[u7]at this
  rw[ep]
  exact this
 generalize hfs:fsO P.n (aH P.m P.n (piv S r e).T) (mpI (P.n+1) (piv S r e).G) (piv S r e).p st0.length=FS at s8
 generalize hLN:W.d (.lst (aH P.m P.n (piv S r e).T))=LN at *
 generalize hTR:W.d (.lst (mpI (P.n+1) (T r)))=TR at *
 have ixh0:∀ {fr kp:List D}{k:Nat}{d:D},fr[k]?=some d->dIx (stG st0 fr kp FS) (.h st0.length) (.d (.int (k:Int)))=some d:=λ{fr kp k d} hk=>by
  show (lg (stG st0 fr kp FS) st0.length).bind (λds=>atI ds (k:Int))=_
  rw[sg0,qaa,fJ hk]
 have ixh1:∀ {fr kp:List D}{k:Nat}{d:D},kp[k]?=some d->dIx (stG st0 fr kp FS) (.h (st0.length+1)) (.d (.int (k:Int)))=some d:=λ{fr kp k d} hk=>by
  show (lg (stG st0 fr kp FS) (st0.length+1)).bind (λds=>atI ds (k:Int))=_
  rw[sg1,qaa,fJ hk]
 have lf:FS.lookup ("free" : Str)=some (.h st0.length):=by rw[<-hfs];rfl
 have lk:FS.lookup ("kept" : Str)=some (.h (st0.length+1)):=by rw[<-hfs];rfl
 have s9:aD (.nm 6) (iOp dIx (au ("free" : Str) (iV 0)) (iV 2)) [some (.h (st0.length+2)),some (.d (.int (r:Int))),some (.d (.int (e:Int))),some TR,some (.d (.int S.p)),some LN,none] (stG st0 (mpI P.n (nI S.free)) (mpI P.m (nI S.kept)) FS)=some (.nx [some (.h (st0.length+2)),some (.d (.int (r:Int))),some (.d (.int (e:Int))),some TR,some (.d (.int S.p)),some LN,some (.d (.int (nI S.free e)))] (stG st0 (mpI P.n (nI S.free)) (mpI P.m (nI S.kept)) FS)):=ax (ai (jV (v0 _ _ _ _ _ _ _) lf) rfl (ixh0 (d8 he)))
 have s10:bE (au ("free" : Str) (iV 0)) (iV 2) (iOp dIx (au ("kept" : Str) (iV 0)) (iV 1)) [some (.h (st0.length+2)),some (.d (.int (r:Int))),some (.d (.int (e:Int))),some TR,some (.d (.int S.p)),some LN,some (.d (.int (nI S.free e)))] (stG st0 (mpI P.n (nI S.free)) (mpI P.m (nI S.kept)) FS)=some (.nx [some (.h (st0.length+2)),some (.d (.int (r:Int))),some (.d (.int (e:Int))),some TR,some (.d (.int S.p)),some LN,some (.d (.int (nI S.free e)))] (stG st0 (mpI P.n (nI (piv S r e).free)) (mpI P.m (nI S.kept)) FS)):=by
  have q1:iOp dIx (au ("kept" : Str) (iV 0)) (iV 1) [some (.h (st0.length+2)),some (.d (.int (r:Int))),some (.d (.int (e:Int))),some TR,some (.d (.int S.p)),some LN,some (.d (.int (nI S.free e)))] (stG st0 (mpI P.n (nI S.free)) (mpI P.m (nI S.kept)) FS)=some (.d (.int (nI S.kept r)),stG st0 (mpI P.n (nI S.free)) (mpI P.m (nI S.kept)) FS):=ai (jV (v0 _ _ _ _ _ _ _) lk) rfl (ixh1 (d8 hr))
  have q2:=jV (f:=("free" : Str)) (a:=iV 0) (st0:=st0) (fr:=mpI P.n (nI S.free)) (kp:=mpI P.m (nI S.kept)) (fs:=FS) (v0 (some (.d (.int (r:Int)))) (some (.d (.int (e:Int)))) (some TR) (some (.d (.int S.p))) (some LN) (some (.d (.int (nI S.free e)))) _) lf
  have q3:iV 2 [some (.h (st0.length+2)),some (.d (.int (r:Int))),some (.d (.int (e:Int))),some TR,some (.d (.int S.p)),some LN,some (.d (.int (nI S.free e)))] (stG st0 (mpI P.n (nI S.free)) (mpI P.m (nI S.kept)) FS)=some (.d (.int (e:Int)),stG st0 (mpI P.n (nI S.free)) (mpI P.m (nI S.kept)) FS):=rfl
  have hs:fR (stG st0 (mpI P.n (nI S.free)) (mpI P.m (nI S.kept)) FS) (.h st0.length) (.d (.int (e:Int))) (.d (.int (nI S.kept r)))=some (stG st0 (mpI P.n (nI (piv S r e).free)) (mpI P.m (nI S.kept)) FS):=by
   simp only[fR,sg0,qaa,bn,ef he,qar,ss0,gy]
   congr 3
   funext j
   show _=(((if j=e then S.kept r else S.free j:Nat)):Int)
   by_cases hj:j=e
   ·rw[if_pos hj,if_pos hj];rfl
   ·rw[if_neg hj,if_neg hj];rfl
  simp only[bE,q1,q2,q3,qaa,hs,qar]
 have s11:bE (au ("kept" : Str) (iV 0)) (iV 1) (iV 6) [some (.h (st0.length+2)),some (.d (.int (r:Int))),some (.d (.int (e:Int))),some TR,some (.d (.int S.p)),some LN,some (.d (.int (nI S.free e)))] (stG st0 (mpI P.n (nI (piv S r e).free)) (mpI P.m (nI S.kept)) FS)=some (.nx [some (.h (st0.length+2)),some (.d (.int (r:Int))),some (.d (.int (e:Int))),some TR,some (.d (.int S.p)),some LN,some (.d (.int (nI S.free e)))] (stG st0 (mpI P.n (nI (piv S r e).free)) (mpI P.m (nI (piv S r e).kept)) FS)):=by
  have q1:iV 6 [some (.h (st0.length+2)),some (.d (.int (r:Int))),some (.d (.int (e:Int))),some TR,some (.d (.int S.p)),some LN,some (.d (.int (nI S.free e)))] (stG st0 (mpI P.n (nI (piv S r e).free)) (mpI P.m (nI S.kept)) FS)=some (.d (.int (nI S.free e)),stG st0 (mpI P.n (nI (piv S r e).free)) (mpI P.m (nI S.kept)) FS):=rfl
  have q2:=jV (f:=("kept" : Str)) (a:=iV 0) (st0:=st0) (fr:=mpI P.n (nI (piv S r e).free)) (kp:=mpI P.m (nI S.kept)) (fs:=FS) (v0 (some (.d (.int (r:Int)))) (some (.d (.int (e:Int)))) (some TR) (some (.d (.int S.p))) (some LN) (some (.d (.int (nI S.free e)))) _) lk
  have q3:iV 1 [some (.h (st0.length+2)),some (.d (.int (r:Int))),some (.d (.int (e:Int))),some TR,some (.d (.int S.p)),some LN,some (.d (.int (nI S.free e)))] (stG st0 (mpI P.n (nI (piv S r e).free)) (mpI P.m (nI S.kept)) FS)=some (.d (.int (r:Int)),stG st0 (mpI P.n (nI (piv S r e).free)) (mpI P.m (nI S.kept)) FS):=rfl
  have hs:fR (stG st0 (mpI P.n (nI (piv S r e).free)) (mpI P.m (nI S.kept)) FS) (.h (st0.length+1)) (.d (.int (r:Int))) (.d (.int (nI S.free e)))=some (stG st0 (mpI P.n (nI (piv S r e).free)) (mpI P.m (nI (piv S r e).kept)) FS):=by
   simp only[fR,sg1,qaa,bn,ef hr,qar,ss1,gy]
   congr 3
   congr 1
   funext j
   show _=(((if j=r then S.free e else S.kept j:Nat)):Int)
   by_cases hj:j=r
   ·rw[if_pos hj,if_pos hj];rfl
   ·rw[if_neg hj,if_neg hj];rfl
  simp only[bE,q1,q2,q3,qaa,hs,qar]
 have:=fin _ _ (ar s3 (ar s4 (ar s5 (ar s6 (ar s7 (ar s8 (ar s9 (ar s10 s11)))))))) ?_
 ·rw[this,<-hfs];rfl
 ·refine List.take_of_length_le ?_
  unfold stO stG
  rw[qau,qau];exact qal _
end Own
namespace Sx
theorem sumN_abs {n:Nat}{f:Nat->Int}{B:Nat} (h:∀ k,k<n->(f k).natAbs<=B):(sumN n f).natAbs<=n*B:=by
 induction n with
 |zero=>rw[sumN];omega
 |succ n ih=>
  rw[sumN,qhI,qfw]
  have h1:=ih λk hk=>h k (by omega)
  have h2:=h n (by omega)
  have h3:=qf5 (sumN n f) (f n)
  omega
theorem sg_abs (k:Nat):(sg k).natAbs=1:=by unfold sg;split<;>rfl
theorem det_le {B X:Nat}:∀ (m:Nat) {C:Nat->Vec},m*B<=X->(∀ k t,k<m->t<m->(C k t).natAbs<=B)->(det m C).natAbs<=X^m
 |0,C,_,_=>by rw[det];exact qal _
 |m+1,C,hX,h=>by
  rw[det]
  have hm:m*B<=X:=qa3 (qbX B (by omega)) hX
  have:=sumN_abs (n:=m+1) (f:=λk=>sg k*C k 0*det m (λj t=>C (skip k j) (t+1))) (B:=B*X^m) λk hk=>by
   have ih:=det_le m (C:=λj t=>C (skip k j) (t+1)) hm λj t hj ht=>h _ _ (by unfold skip;split<;>omega) (by omega)
   rw[qdd,qdd,sg_abs,qfw]
   exact qcN (h k 0 hk (by omega)) ih
  refine qa3 this ?_
  rw[<-Nat.mul_assoc,qel,qfc (X^m)]
  exact qbX _ hX
structure Bd (P:Pb):Prop where
 m64:P.m<=64
 n64:P.n<=100
 A:∀ k,k<P.n+P.m->∀ t,t<P.m->(P.A k t).natAbs<=2^54
 b:∀ t,t<P.m->(P.b t).natAbs<=2^54
 g:∀ k,k<P.n+P.m->(P.g k).natAbs<=2^54
variable {P:Pb}
theorem Bd.det (h:Bd P) {C:Nat->Vec} (hC:∀ k t,k<P.m->t<P.m->(C k t).natAbs<=2^54):(det P.m C).natAbs<=2^3840:=by
 have hm:=h.m64
 have h1:=det_le (B:=2 ^ 54) (X:=2 ^ 60) P.m (C:=C) (by
  have:P.m*2^54<=64*2^54:=qbX _ hm
  exact qa3 this (by decide)) hC
 refine qa3 h1 ?_
 rw[<-qhH]
 exact qfm (by decide) (by omega)
theorem unit_le (r t:Nat):(unit r t).natAbs<=2^54:=by unfold unit;split<;>decide
theorem Bd.basis (h:Bd P) {S:Tb} (hn:Named P S) {v:Vec} (hv:∀ t,t<P.m->(v t).natAbs<=2^54) (i k t:Nat) (hk:k<P.m) (ht:t<P.m):(upd (basis P S) i v k t).natAbs<=2^54:=by
 unfold upd
 split
 ·exact hv t ht
 ·exact h.A _ (hn.bound.2 k hk) t ht
theorem Bd.T (h:Bd P) {S:Tb} (hg:Good P S) (hn:Named P S) {i c:Nat} (hi:i<P.m) (hc:c<=P.n):(S.T i c).natAbs<=2^3840:=by
 rw[hg.entry hc hi]
 refine h.det λk t hk ht=>h.basis hn (λt ht=>?_) i k t hk ht
 unfold colV
 by_cases hcn:c<P.n
 ·rw[if_pos hcn];exact h.A _ (hn.bound.1 c hcn) t ht
 ·rw[if_neg hcn];exact h.b t ht
theorem Bd.L (h:Bd P) {S:Tb} (hn:Named P S) (i s:Nat):(LV P S i s).natAbs<=2^3840:=by
 refine h.det λk t hk ht=>h.basis hn (λt ht=>?_) i k t hk ht
 unfold XV
 split
 ·exact h.b t ht
 ·exact unit_le _ _
theorem Bd.p (h:Bd P) {S:Tb} (hg:Good P S) (hn:Named P S):S.p.natAbs<=2^3840:=by
 rw[hg.dt]
 exact h.det λk t hk ht=>h.A _ (hn.bound.2 k hk) t ht
theorem Bd.G (h:Bd P) {S:Tb} (hg:Good P S) (hn:Named P S) {c:Nat} (hc:c<=P.n):(S.G c).natAbs<=65*(2^54*2^3840):=by
 rw[hg.goal c hc]
 have h1:=sumN_abs (n:=P.m) (f:=λi=>P.g (S.kept i)*S.T i c) (B:=2^54*2^3840) λi hi=>by
  rw[qdd]
  exact qcN (h.g _ (hn.bound.2 i hi)) (h.T hg hn hi hc)
 have h2:(S.p*gainC P S c).natAbs<=2^54*2^3840:=by
  rw[qdd,qfc]
  refine qcN ?_ (h.p hg hn)
  unfold gainC
  by_cases hcn:c<P.n
  ·rw[if_pos hcn];exact h.g _ (hn.bound.1 c hcn)
  ·rw[if_neg hcn];decide
 have h3:=qf4 (sumN P.m λi=>P.g (S.kept i)*S.T i c) (S.p*gainC P S c)
 have h4:P.m*(2^54*2^3840)<=64*(2^54*2^3840):=qbX _ h.m64
 generalize 2^54*2^3840=Z at *
 omega
end Sx
set_option maxHeartbeats 1000000
namespace Own
open PySem L2
open Sx (Pb Tb Good Named Fe LV ZV piv lexP leastR leaveL sumN unit colV basis)
theorem rG {a b:Nat} (h:a<b):2^a<2^b:=Nat.pow_lt_pow_right (by decide) h
theorem tx {z:Int} (h:z.natAbs<=2^3840):Sm z:=qbe h (rG (by decide))
theorem x6 {z:Int} (h:z.natAbs<=65*(2^54*2^3840)):Sm z:=by
 refine qbe h ?_
 refine qbe (qbX (2^54*2^3840) (by decide:65<=2^7)) ?_
 rw[<-qfv,<-qfv]
 exact rG (by decide)
theorem xY {P:Pb}{S:Tb} (b:Sx.Bd P) (g:Good P S) (n:Named P S):Okt P S:=by
 have h1:=b.m64
 exact⟨g,n,by lia,b.n64,λi c hi hc=>tx (b.T g n hi hc),λi s _ _=>tx (b.L n i s),λc hc=>x6 (b.G g n hc),tx (b.p g n)⟩
theorem wD {c:Tf}{b:Sf}{m:Nat}{env:Ev}{st s:Sto} (h:c env st=some (false,s)):cP c b (m+1) env st=some (.nx env s):=by
 rw[cP,h];rfl
theorem uT {c:Tf}{b:Sf}{m:Nat}{env e:Ev}{st s s2:Sto}{r:Option Fl} (h:c env st=some (true,s)) (hb:b env s=some (.nx e s2)) (hr:cP c b m e s2=r):cP c b (m+1) env st=r:=by
 rw[cP,h]
 show ((b env s).bind _)=_
 rw[hb];exact hr
theorem zu {c:Tf}{b:Sf}{m:Nat}{env:Ev}{st s s2:Sto}{w:W} (h:c env st=some (true,s)) (hb:b env s=some (.rt w s2)):cP c b (m+1) env st=some (.rt w s2):=by
 rw[cP,h]
 show ((b env s).bind _)=_
 rw[hb];rfl
theorem jZ {st:Sto}{a0 a2:Option W}:∀ (n a b:Nat) (o:Option W),b<n->∃ o',cP fv fF n [a0,some (.d (.int (a:Int))),a2,some (.d (.int (b:Int))),o] st=some (.nx [a0,some (.d (.int ((qeH a b:Nat):Int))),a2,some (.d (.int 0)),o'] st)
 |0,a,b,o,h=>by lia
 |n+1,a,b,o,h=>by
  by_cases hb:b=0
  ·subst hb
   refine⟨o,?_⟩
   rw[Nat.gcd_zero_right]
   exact wD rfl
  ·have hf:(!((b:Int)==(0:Int)))=true:=by simp;lia
   obtain⟨o',ih⟩:=jZ n b (a%b) (some (.d (.int ((a%b:Nat):Int)))) (by have:=Nat.mod_lt a (Nat.pos_of_ne_zero hb);lia)
   refine⟨o',?_⟩
   have eg:qeH a b=qeH b (a%b):=by rw[qhy a b,Nat.gcd_rec b a,qhy]
   have hp:(0:Int)<(b:Int):=by lia
   have em:hU st (.d (.int (a:Int))) (.d (.int (b:Int)))=some (.int ((a%b:Nat):Int)):=by
    simp only[hU,hp,if_true];rfl
   rw[eg,<-ih]
   exact uT (s:=st) (bf rfl rfl ((wF st _).trans (by rw[hf]))) (ar (ax (ai rfl rfl em)) rfl) rfl
theorem oj {st:Sto}{ns:List Int} (hn:∀ n∈ns,Sm n):cx [.d (.lst (ns.map D.int))] st=some (.d (.int ((fD 0 ns:Nat):Int)),st):=by
 obtain⟨env',s2,e2,⟨o2,o3,o4,rfl⟩,rfl⟩:=dB (g:=.nm 2) (body:=fM) (ds:=ns.map D.int) (λi env s=>(∃ o2 o3 o4,env=[some (.d (.lst (ns.map D.int))),some (.d (.int ((fD 0 (ns.take i):Nat):Int))),o2,o3,o4])/\s=st)
  (env:=[some (.d (.lst (ns.map D.int))),some (.d (.int 0)),none,none,none]) (st:=st) ⟨⟨_,_,_,rfl⟩,rfl⟩ (λi d env s hd ⟨⟨o2,o3,o4,e⟩,es⟩=>by
   subst e es
   rw[qaI,qad]at hd
   obtain⟨n,hk,rfl⟩:=hd
   obtain⟨hi,hk'⟩:=qan.mp hk
   have hb:=hn n (qbN hk)
   have ea:pA s [.d (.int n)]=some (.int ((n.natAbs:Nat):Int)):=by
    show some (D.int (if n<0 then -n else n))=_
    rw[show (if n<0 then -n else n)=((n.natAbs:Nat):Int) by split<;>lia]
   have eg:fD 0 (ns.take (i+1))=qeH (fD 0 (ns.take i)) n.natAbs:=by
    rw[List.take_succ_eq_append_getElem hi,hk',nR]
   obtain⟨o',ew⟩:=jZ (st:=s) (a0:=some (.d (.lst (ns.map D.int)))) (a2:=some (.d (.int n))) (2^8000) (fD 0 (ns.take i)) n.natAbs o4 (qem hb (rG (by decide)))
   refine⟨_,[some (.d (.lst (ns.map D.int))),some (.d (.int ((fD 0 (ns.take (i+1)):Nat):Int))),some (.d (.int n)),some (.d (.int 0)),o'],s,rfl,.inl ?_,⟨_,_,_,rfl⟩,rfl⟩
   rw[eg]
   generalize ns.map D.int=L at ew ⊢
   exact ar (ax (cO (ah rfl rfl) ea)) ew)
 rw[qam,qeo]at e2
 generalize ns.map D.int=L at e2 ⊢
 exact bh (n:=5) (k:=1) (b:=cU) rfl (ar rfl (ar (bI (aV rfl) e2) rfl))
theorem pw {te:Ef}{st:Sto}{ns:List Int}{g:Int} (h0:0<g) (hg:Sm g) (ht:te=iOp kW (iV 0) (iV 1)):lcI (.nm 0) bG te [none,some (.d (.int g))] (ns.map D.int) st=some ((ns.map λx=>x / g).map D.int,st):=by
 subst ht
 have h:=vb (g:=.nm 0) (te:=iOp kW (iV 0) (iV 1)) (env:=[none,some (.d (.int g))]) (st:=st) (λd=>match d with|.int x=>.int (x / g)|d=>d) (ds:=ns.map D.int) λd hd=>by
  obtain⟨y,hy,rfl⟩:=qa7.mp hd
  exact⟨_,rfl,ai rfl rfl (qr st h0 hg)⟩
 rw[h,qbs,qbs];rfl
theorem pz {ns:List Int}{x:Int} (hx:x∈ns) (x0:x≠0) (hs:Sm x):0<((fD 0 ns:Nat):Int)/\Sm ((fD 0 ns:Nat):Int):=by
 obtain⟨g0,g1⟩:=tU hx x0
 refine⟨by lia,?_⟩
 show ((fD 0 ns:Nat):Int).natAbs<_
 rw[Int.natAbs_natCast]
 exact qbe g1 hs
theorem qj {st:Sto}{ns:List Int} (hb:∀ x∈ns,Sm x) (hp:∃ x∈ns,x≠0) (hl:ns.length<=1000):ge [.d (.lst (ns.map D.int))] st=some (.d (.tup ((ns.map λx=>x / ((fD 0 ns:Nat):Int)).map D.int)),st):=by
 obtain⟨x,hx,x0⟩:=hp
 have e1:=oj (st:=st) hb
 obtain⟨g0,g1⟩:=pz hx x0 (hb x hx)
 generalize ((fD 0 ns:Nat):Int)=g at *
 have f0:(g==(0:Int))=false:=by simp;lia
 have key:=pw (te:=jP) (st:=st) (ns:=ns) g0 g1 rfl
 have hz:(ns.map D.int).length<=1000000:=by rw[qam];lia
 generalize (ns.map λx=>x / g).map D.int=G at *
 generalize ns.map D.int=N at *
 exact bh (n:=2) (k:=1) (b:=iy) rfl (ar (ax (i:=1) (aI rfl e1)) (ar (cS (bf rfl rfl (by rw[sR,f0])) rfl) (cq (cO (ah (aW (cD (aV rfl) hz key)) rfl) rfl))))
def acc (e:Nat->Nat) (y:Nat->Int) (i k:Nat):Int:=sumN i λj=>if e j=k then y j else 0
theorem ox (e:Nat->Nat) (y:Nat->Int) (i k:Nat):acc e y (i+1) k=acc e y i k+if e i=k then y i else 0:=rfl
theorem qo {e:Nat->Nat}{y:Nat->Int}{i k:Nat} (h:∀ j,j<i->e j≠k):acc e y i k=0:=by
 unfold acc
 rw[Sx.sumN_congr (g:=λ_=>0) λj hj=>if_neg (h j hj),Sx.sumN_zero]
theorem qX {e:Nat->Nat}{y:Nat->Int}{d N i:Nat} (hd:d<=e i) (hj:∀ j,j<i->e j≠e i):(mpI N λr=>acc e y i (d+r)).set (e i - d) (.int (y i))=mpI N λr=>acc e y (i+1) (d+r):=by
 rw[gy]
 refine bM λr _=>?_
 rw[ox]
 by_cases hr:r=e i - d
 ·rw[if_pos hr,if_pos (by lia),qo λj hj'=>by have:=hj j hj';lia];lia
 ·rw[if_neg hr,if_neg (by lia)];lia
theorem oB {e:Nat->Nat}{y:Nat->Int}{d N i:Nat} (h:∀ r,r<N->e i≠d+r):(mpI N λr=>acc e y i (d+r))=mpI N λr=>acc e y (i+1) (d+r):=by
 refine bM λr hr=>?_
 rw[ox,if_neg (h r hr)];lia
theorem tP (n:Nat) (e:Nat->Nat) (y:Nat->Int) (d:Nat):(qav n [D.int 0]).flatten=mpI n λr=>acc e y 0 (d+r):=by
 show _=(qag n).map λ_=>D.int 0
 induction n with
 |zero=>rfl
 |succ n ih=>rw[List.replicate_succ',qdJ,ih,qcB,qbG];rfl
theorem jv {f:Ef}{env:Ev}{st:Sto}{n:Nat} (hf:f env st=some (.d (.int (n:Int)),st)) (hn:n<=900) (e:Nat->Nat) (y:Nat->Int) (d:Nat):dZ (pQ lW (aM (cQ (aa (iC (.int 0)) ak))) f) env st=some (.h st.length,st++[.l (mpI n λr=>acc e y 0 (d+r))]):=by
 have h0:pQ lW (aM (cQ (aa (iC (.int 0)) ak))) f env st=some (mpI n λr=>acc e y 0 (d+r),st):=by
  show ((f env st).bind λq=>(lW q.2 (.d (.lst [.int 0])) q.1).map λl=>(l,q.2))=_
  rw[hf]
  show (lW st (.d (.lst [.int 0])) (.d (.int (n:Int)))).map (λl=>(l,st))=_
  unfold lW;dsimp only
  rw[if_pos ⟨by show 1<=1000;decide,by lia,by lia⟩,qch,tP n e y d];rfl
 simp only[dZ,h0,qar]
end Own
set_option maxHeartbeats 1000000
namespace Own
open PySem L2
open Sx (Pb Tb Good Named Fe LV ZV piv lexP leastR leaveL sumN unit colV basis)
theorem sIx {o i v:Ef}{env:Ev}{st:Sto}{xs:List D}{k:Nat}{d:D} (hv:v env (st++[.l xs])=some (.d d,st++[.l xs])) (ho:o env (st++[.l xs])=some (.h st.length,st++[.l xs])) (hi:i env (st++[.l xs])=some (.d (.int (k:Int)),st++[.l xs])) (hk:k<xs.length):bE o i v env (st++[.l xs])=some (.nx env (st++[.l (xs.set k d)])):=by
 have hs:fR (st++[.l xs]) (.h st.length) (.d (.int (k:Int))) (.d d)=some (st++[.l (xs.set k d)]):=by
  simp only[fR,iR,qaa,ef hk,qar,kZ]
 simp only[bE,hv,ho,hi,qaa,hs,qar]
theorem mR {a:Ef}{env:Ev}{st:Sto}{m:Nat}{f:Nat->Nat} (h:a env st=some (.d (.lst (mpI m (nI f))),st)):eL (aa a ak) env st=some ((qag m).map λi=>D.tup [.int ((i:Nat):Int),.int (nI f i)],st):=by
 have:=ah (b:=ak) h rfl
 rw[<-qG]
 simp only[eL,this,qaa]
theorem mU {m:Nat}{g:Nat->D}{i:Nat}{d:D} (h:((qag m).map g)[i]?=some d):i<m/\d=g i:=by
 rw[qaI,qad]at h
 obtain⟨k,hk,rfl⟩:=h
 obtain⟨hi,hk'⟩:=qan.mp hk
 rw[qfA]at hk'
 rw[qao]at hi
 exact⟨hi,by rw[hk']⟩
theorem iu:∀ ns:List Int,qc (ns.map D.int)=true
 |[]=>rfl
 |n::ns=>iu ns
theorem uO (n:Nat) (f:Nat->Int):okT (.tup (mpI n f))=true:=by
 rw[dz];exact iu _
section
variable {P:Pb}{S:Tb}{st:Sto}
theorem zp (h:Okt P S):gz [.d (obD P S)] st=some (.d (.lst (mpI P.n λk=>acc S.kept (λi=>S.T i P.n) P.m k)),st):=by
 have hm:=h.m64
 have hn:=h.n64
 generalize hy:(λi=>S.T i P.n)=y
 have v0:∀ (a b c:Option W) (s:Sto),iV 0 [some (.d (obD P S)),a,b,c] s=some (.d (obD P S),s):=λ_ _ _ _=>rfl
 have s1:=jv (st:=st) (cJ (v0 none none none st)) (by lia) S.kept y 0
 obtain⟨env',s2,e2,⟨o2,o3,rfl⟩,rfl⟩:=dB (g:=.tp [2,3]) (body:=gQ) (ds:=(qag P.m).map λi=>D.tup [.int ((i:Nat):Int),.int (nI S.kept i)])
  (λi env s=>(∃ o2 o3,env=[some (.d (obD P S)),some (.h st.length),o2,o3])/\s=st++[.l (mpI P.n λr=>acc S.kept y i (0+r))])
  (env:=[some (.d (obD P S)),some (.h st.length),none,none]) (st:=st++[.l (mpI P.n λr=>acc S.kept y 0 (0+r))]) ⟨⟨_,_,rfl⟩,rfl⟩ (λi d env s hd ⟨⟨o2,o3,e⟩,es⟩=>by
   subst e es
   obtain⟨hi,rfl⟩:=mU hd
   refine⟨_,_,_,rfl,.inl ?_,⟨some (.d (.int ((i:Nat):Int))),some (.d (.int (nI S.kept i))),rfl⟩,rfl⟩
   generalize hX:(mpI P.n λr=>acc S.kept y i (0+r))=xs
   have tl:bm dLt (iV 3) (au ("amounts" : Str) (iV 0)) [some (.d (obD P S)),some (.h st.length),some (.d (.int ((i:Nat):Int))),some (.d (.int (nI S.kept i)))] (st++[.l xs])=some (decide (nI S.kept i<(P.n:Int)),st++[.l xs]):=bf rfl (cJ (v0 _ _ _ _)) (sC _ _ _)
   by_cases hk:S.kept i<P.n
   ·rw[decide_eq_true (by show ((S.kept i:Nat):Int)<_;lia)]at tl
    have hv:iOp dIx (iOp dIx (au ("lines" : Str) (iV 0)) (iV 2)) (iUn j5 (iC (.int 1))) [some (.d (obD P S)),some (.h st.length),some (.d (.int ((i:Nat):Int))),some (.d (.int (nI S.kept i)))] (st++[.l xs])=some (.d (.int (y i)),st++[.l xs]):=by
     rw[<-hy]
     exact ai (ai (dG (v0 _ _ _ _)) rfl (pe _ hi)) rfl (rm _)
    have:=sIx (k:=S.kept i) hv (o:=iV 1) (i:=iV 3) rfl rfl (by rw[<-hX,bn];exact hk)
    rw[<-hX]at this ⊢ tl
    rw[<-qX (d:=0) (N:=P.n) (e:=S.kept) (y:=y) (i:=i) (by lia) λj hj e=>by have:=kept_inj h.good (by lia) hi e;lia]
    exact eK tl this
   ·rw[decide_eq_false (by show ¬ ((S.kept i:Nat):Int)<_;lia)]at tl
    rw[<-oB (d:=0) (N:=P.n) (e:=S.kept) (y:=y) (i:=i) λr hr=>by lia,hX]
    exact cS tl rfl)
 rw[qam,qao]at e2
 have:=kB (n:=4) (k:=1) (b:=eS) (ws:=[.d (obD P S)]) (st:=st) (h:=st.length) rfl (ar (ax s1) (ar (bI (mR (nB (v0 _ _ _ _))) e2) rfl)) (qal _) (iR _ _)
 rw[qdD]at this
 simp only[qbI]at this
 exact this
def pr (P:Pb) (S:Tb) (i r:Nat):Int:=if ∃ c,c<i/\S.free c=P.n+r then ZV P S (r+1) else 0
theorem yv (h:Okt P S) (hg:∀ r,r<P.m->P.g (P.n+r)=0):gP [.d (obD P S)] st=some (.d (.lst (mpI P.m λr=>ZV P S (r+1))),st):=by
 have hm:=h.m64
 have hn:=h.n64
 have v0:∀ (a b c:Option W) (s:Sto),iV 0 [some (.d (obD P S)),a,b,c] s=some (.d (obD P S),s):=λ_ _ _ _=>rfl
 have hz:(mpI P.m λr=>acc S.free S.G 0 (0+r))=mpI P.m λr=>pr P S 0 r:=bM λr _=>by
  unfold pr
  rw[if_neg λ⟨c,hc,_⟩=>by lia];rfl
 have hlen:iCB cv (aa (au ("lines" : Str) (iV 0)) ak) [some (.d (obD P S)),none,none,none] st=some (.d (.int ((P.m:Nat):Int)),st):=by
  have:=cO (g:=cv) (ah (b:=ak) (dG (v0 none none none st)) rfl) (jb _ _)
  rw[cX]at this
  exact this
 have s1:=jv (st:=st) hlen (by lia) S.free S.G 0
 rw[hz]at s1
 obtain⟨env',s2,e2,⟨o2,o3,rfl⟩,rfl⟩:=dB (g:=.tp [2,3]) (body:=iM) (ds:=(qag P.n).map λi=>D.tup [.int ((i:Nat):Int),.int (nI S.free i)])
  (λi env s=>(∃ o2 o3,env=[some (.d (obD P S)),some (.h st.length),o2,o3])/\s=st++[.l (mpI P.m λr=>pr P S i r)])
  (env:=[some (.d (obD P S)),some (.h st.length),none,none]) (st:=st++[.l (mpI P.m λr=>pr P S 0 r)]) ⟨⟨_,_,rfl⟩,rfl⟩ (λi d env s hd ⟨⟨o2,o3,e⟩,es⟩=>by
   subst e es
   obtain⟨hi,rfl⟩:=mU hd
   refine⟨_,_,_,rfl,.inl ?_,⟨some (.d (.int ((i:Nat):Int))),some (.d (.int (nI S.free i))),rfl⟩,rfl⟩
   have hb:=h.named.bound.1 i hi
   generalize hX:(mpI P.m λr=>pr P S i r)=xs
   have tl:bm dGe (iV 3) (au ("amounts" : Str) (iV 0)) [some (.d (obD P S)),some (.h st.length),some (.d (.int ((i:Nat):Int))),some (.d (.int (nI S.free i)))] (st++[.l xs])=some (decide (nI S.free i>=(P.n:Int)),st++[.l xs]):=bf rfl (cJ (v0 _ _ _ _)) (yQ _ _ _)
   by_cases hk:P.n<=S.free i
   ·rw[decide_eq_true (by show ((S.free i:Nat):Int)>=_;lia)]at tl
    have ho:iOp fW (iV 3) (au ("amounts" : Str) (iV 0)) [some (.d (obD P S)),some (.h st.length),some (.d (.int ((i:Nat):Int))),some (.d (.int (nI S.free i)))] (st++[.l xs])=some (.d (.int ((S.free i - P.n:Nat):Int)),st++[.l xs]):=by
     rw[show ((S.free i - P.n:Nat):Int)=nI S.free i - (P.n:Int) by show _=((S.free i:Nat):Int) - _;lia]
     exact ai rfl (cJ (v0 _ _ _ _)) rfl
    have hv:iOp dIx (au ("goal" : Str) (iV 0)) (iV 2) [some (.d (obD P S)),some (.h st.length),some (.d (.int ((i:Nat):Int))),some (.d (.int (nI S.free i)))] (st++[.l xs])=some (.d (.int (S.G i)),st++[.l xs]):=ai (ky (v0 _ _ _ _)) rfl (fo _ (by lia))
    have:=sIx (k:=S.free i - P.n) hv (o:=iV 1) (i:=iOp fW (iV 3) (au ("amounts" : Str) (iV 0))) rfl ho (by rw[<-hX,bn];lia)
    have eX:xs.set (S.free i - P.n) (.int (S.G i))=mpI P.m λr=>pr P S (i+1) r:=by
     rw[<-hX,gy]
     refine bM λr hr=>?_
     by_cases er:r=S.free i - P.n
     ·rw[if_pos er]
      unfold pr
      rw[if_pos ⟨i,by lia,by lia⟩]
      exact (Sx.price_free h.good h.named hg hr hi (by lia)).symm
     ·rw[if_neg er]
      unfold pr
      by_cases ex:∃ c,c<i/\S.free c=P.n+r
      ·rw[if_pos ex];obtain⟨c,h1,h2⟩:=ex;rw[if_pos ⟨c,by lia,h2⟩]
      ·rw[if_neg ex,if_neg λ⟨c,h1,h2⟩=>ex ⟨c,by
        by_cases z:c=i
        ·subst z;lia
        ·lia,h2⟩]
    rw[<-eX]
    exact eK tl this
   ·rw[decide_eq_false (by show ¬ ((S.free i:Nat):Int)>=_;lia)]at tl
    have eX:xs=mpI P.m λr=>pr P S (i+1) r:=by
     rw[<-hX]
     refine bM λr hr=>?_
     unfold pr
     by_cases ex:∃ c,c<i/\S.free c=P.n+r
     ·rw[if_pos ex];obtain⟨c,h1,h2⟩:=ex;rw[if_pos ⟨c,by lia,h2⟩]
     ·rw[if_neg ex,if_neg λ⟨c,h1,h2⟩=>ex ⟨c,by
        by_cases z:c=i
        ·subst z;lia
        ·lia,h2⟩]
    rw[<-eX]
    exact cS tl rfl)
 rw[qam,qao]at e2
 have:=kB (n:=4) (k:=1) (b:=fQ) (ws:=[.d (obD P S)]) (st:=st) (h:=st.length) rfl (ar (ax s1) (ar (bI (mR (kC (v0 _ _ _ _))) e2) rfl)) (qal _) (iR _ _)
 rw[qdD]at this
 rw[bM (f:=λr=>pr P S P.n r) (g:=λr=>ZV P S (r+1)) λr hr=>by
  unfold pr
  by_cases ex:∃ c,c<P.n/\S.free c=P.n+r
  ·rw[if_pos ex]
  ·rw[if_neg ex]
   rcases h.named.all (P.n+r) (by lia) with hc|⟨j,hj,e⟩
   ·exact absurd hc ex
   ·exact (Sx.price_kept h.good h.named hg hr hj e).symm]at this
 exact this
theorem zz (h:Okt P S) {e:Nat} (he:e<P.n) (ht:∀ i,i<P.m->S.T i e<=0) (hp:∃ k,k<P.n/\Sx.wayN P S e k≠0):∃ g:Int,0<g/\(∀ k,k<P.n->g∣Sx.wayN P S e k)/\jk [.d (obD P S),.d (.int (e:Int))] []=some (.d (.tup (mpI P.n λk=>Sx.wayN P S e k / g)),[]):=by
 have hm:=h.m64
 have hn:=h.n64
 have v0:∀ (a b c d:Option W) (s:Sto),iV 0 [some (.d (obD P S)),a,b,c,d] s=some (.d (obD P S),s):=λ_ _ _ _ _=>rfl
 have hnk:∀ i,i<P.m->S.kept i≠S.free e:=λi hi e1=>by
  have h1:=h.good.entry (c:=e) (by lia) hi
  have h2:colV P S e=basis P S i:=by unfold colV basis;rw[if_pos he,e1]
  rw[h2,Sx.upd_self,<-h.good.dt]at h1
  have:=ht i hi
  have:=h.good.pos
  lia
 generalize hy:(λi=>- S.T i e)=y
 have hw:∀ k,Sx.wayN P S e k=if k=S.free e then S.p else acc S.kept y P.m k:=λk=>by
  show Sx.byName P S (λi=>- S.T i e) k+(if S.free e=k then S.p else 0)=_
  rw[hy]
  by_cases hk:k=S.free e
  ·rw[if_pos hk,if_pos hk.symm,Sx.byName_not λi hi=>by rw[hk];exact hnk i hi];lia
  ·rw[if_neg hk,if_neg (qbo hk)]
   show acc S.kept y P.m k+0=_
   lia
 have s1:=jv (st:=[]) (cJ (v0 (some (.d (.int (e:Int)))) none none none [])) (by lia) S.kept y 0
 obtain⟨env',s2,e2,⟨o2,o3,rfl⟩,rfl⟩:=dB (g:=.tp [3,4]) (body:=lC) (ds:=(qag P.m).map λi=>D.tup [.int ((i:Nat):Int),.int (nI S.kept i)])
  (λi env s=>(∃ o2 o3,env=[some (.d (obD P S)),some (.d (.int (e:Int))),some (.h 0),o2,o3])/\s=[]++[.l (mpI P.n λr=>acc S.kept y i (0+r))])
  (env:=[some (.d (obD P S)),some (.d (.int (e:Int))),some (.h 0),none,none]) (st:=[]++[.l (mpI P.n λr=>acc S.kept y 0 (0+r))]) ⟨⟨_,_,rfl⟩,rfl⟩ (λi d env s hd ⟨⟨o2,o3,e0⟩,es⟩=>by
   subst e0 es
   obtain⟨hi,rfl⟩:=mU hd
   refine⟨_,_,_,rfl,.inl ?_,⟨some (.d (.int ((i:Nat):Int))),some (.d (.int (nI S.kept i))),rfl⟩,rfl⟩
   generalize hX:(mpI P.n λr=>acc S.kept y i (0+r))=xs
   have tl:bm dLt (iV 4) (au ("amounts" : Str) (iV 0)) [some (.d (obD P S)),some (.d (.int (e:Int))),some (.h 0),some (.d (.int ((i:Nat):Int))),some (.d (.int (nI S.kept i)))] ([]++[.l xs])=some (decide (nI S.kept i<(P.n:Int)),[]++[.l xs]):=bf rfl (cJ (v0 _ _ _ _ _)) (sC _ _ _)
   by_cases hk:S.kept i<P.n
   ·rw[decide_eq_true (by show ((S.kept i:Nat):Int)<_;lia)]at tl
    have hv:iUn j5 (iOp dIx (iOp dIx (au ("lines" : Str) (iV 0)) (iV 3)) (iV 1)) [some (.d (obD P S)),some (.d (.int (e:Int))),some (.h 0),some (.d (.int ((i:Nat):Int))),some (.d (.int (nI S.kept i)))] ([]++[.l xs])=some (.d (.int (y i)),[]++[.l xs]):=by
     rw[<-hy]
     have:=ai (g:=dIx) (ai (g:=dIx) (dG (v0 (some (.d (.int (e:Int)))) (some (.h 0)) (some (.d (.int ((i:Nat):Int)))) (some (.d (.int (nI S.kept i)))) ([]++[C.l xs]))) (b:=iV 3) rfl (pe _ hi)) (b:=iV 1) rfl (oU (c:=e) _ (by lia))
     simp only[iUn,this,qaa];rfl
    have:=sIx (st:=[]) (k:=S.kept i) hv (o:=iV 2) (i:=iV 4) rfl rfl (by rw[<-hX,bn];exact hk)
    rw[<-hX]at this ⊢ tl
    rw[<-qX (d:=0) (N:=P.n) (e:=S.kept) (y:=y) (i:=i) (by lia) λj hj e=>by have:=kept_inj h.good (by lia) hi e;lia]
    exact eK tl this
   ·rw[decide_eq_false (by show ¬ ((S.kept i:Nat):Int)<_;lia)]at tl
    rw[<-oB (d:=0) (N:=P.n) (e:=S.kept) (y:=y) (i:=i) λr hr=>by lia,hX]
    exact cS tl rfl)
 rw[qam,qao]at e2
 have s3:cy (bm dLt (iOp dIx (au ("free" : Str) (iV 0)) (iV 1)) (au ("amounts" : Str) (iV 0))) (bE (iV 2) (iOp dIx (au ("free" : Str) (iV 0)) (iV 1)) (au ("part" : Str) (iV 0))) bz [some (.d (obD P S)),some (.d (.int (e:Int))),some (.h 0),o2,o3] ([]++[.l (mpI P.n λr=>acc S.kept y P.m (0+r))])=some (.nx [some (.d (obD P S)),some (.d (.int (e:Int))),some (.h 0),o2,o3] ([]++[.l (mpI P.n λk=>Sx.wayN P S e k)])):=by
  have qf:∀ s,iOp dIx (au ("free" : Str) (iV 0)) (iV 1) [some (.d (obD P S)),some (.d (.int (e:Int))),some (.h 0),o2,o3] s=some (.d (.int (nI S.free e)),s):=λs=>ai (kC (v0 _ _ _ _ _)) rfl (fo _ he)
  generalize hX:(mpI P.n λr=>acc S.kept y P.m (0+r))=xs
  have tl:bm dLt (iOp dIx (au ("free" : Str) (iV 0)) (iV 1)) (au ("amounts" : Str) (iV 0)) [some (.d (obD P S)),some (.d (.int (e:Int))),some (.h 0),o2,o3] ([]++[.l xs])=some (decide (nI S.free e<(P.n:Int)),[]++[.l xs]):=bf (qf _) (cJ (v0 _ _ _ _ _)) (sC _ _ _)
  by_cases hk:S.free e<P.n
  ·rw[decide_eq_true (by show ((S.free e:Nat):Int)<_;lia)]at tl
   have:=sIx (st:=[]) (k:=S.free e) (kE (v0 (some (.d (.int (e:Int)))) (some (.h 0)) o2 o3 ([]++[C.l xs]))) (o:=iV 2) (i:=iOp dIx (au ("free" : Str) (iV 0)) (iV 1)) rfl (qf _) (by rw[<-hX,bn];exact hk)
   have eX:xs.set (S.free e) (.int S.p)=mpI P.n λk=>Sx.wayN P S e k:=by
    rw[<-hX,gy]
    refine bM λk _=>?_
    rw[hw k,qbI]
   rw[eX]at this
   exact eK tl this
  ·rw[decide_eq_false (by show ¬ ((S.free e:Nat):Int)<_;lia)]at tl
   have eX:xs=mpI P.n λk=>Sx.wayN P S e k:=by
    rw[<-hX]
    refine bM λk hk'=>?_
    rw[hw k,qbI,if_neg (by lia)]
   rw[<-eX]
   exact cS tl rfl
 obtain⟨k0,hk0,hk1⟩:=hp
 have hsm:∀ x∈(qag P.n).map (Sx.wayN P S e),Sm x:=λx hx=>by
  obtain⟨k,hk,rfl⟩:=qa7.mp hx
  rw[hw k]
  by_cases z:k=S.free e
  ·rw[if_pos z];exact h.sp
  ·rw[if_neg z]
   by_cases ex:∃ i,i<P.m/\S.kept i=k
   ·obtain⟨i,hi,rfl⟩:=ex
    have:acc S.kept y P.m (S.kept i)=y i:=Sx.byName_at (λi j hi hj=>kept_inj h.good hi hj) hi
    rw[this,<-hy]
    show (- S.T i e).natAbs<_
    rw[Int.natAbs_neg]
    exact h.sT i e hi (by lia)
   ·rw[qo λj hj e=>ex ⟨j,hj,e⟩]
    exact qdW (by decide)
 have hlo:=qj (st:=[]) hsm ⟨_,qa7.mpr ⟨k0,qaB.mpr hk0,rfl⟩,hk1⟩ (by rw[qam,qao];lia)
 obtain⟨g0,g1⟩:=pz (ns:=(qag P.n).map (Sx.wayN P S e)) (qa7.mpr ⟨k0,qaB.mpr hk0,rfl⟩) hk1 (hsm _ (qa7.mpr ⟨k0,qaB.mpr hk0,rfl⟩))
 have gd:∀ k,k<P.n->((fD 0 ((qag P.n).map (Sx.wayN P S e)):Nat):Int)∣Sx.wayN P S e k:=λk hk=>qfL.mpr ((ji 0 _).2 _ (qa7.mpr ⟨k,qaB.mpr hk,rfl⟩))
 generalize hG:((fD 0 ((qag P.n).map (Sx.wayN P S e)):Nat):Int)=g at *
 refine⟨g,g0,gd,?_⟩
 rw[<-dz,qbs,qbs]at hlo
 have hc:eN ge (aa (iV 2) ak) [some (.d (obD P S)),some (.d (.int (e:Int))),some (.h 0),o2,o3] ([]++[.l (mpI P.n λk=>Sx.wayN P S e k)])=some (.d (.tup (mpI P.n λk=>Sx.wayN P S e k / g)),[]++[.l (mpI P.n λk=>Sx.wayN P S e k)]):=by
  have ha:aa (iV 2) ak [some (.d (obD P S)),some (.d (.int (e:Int))),some (.h 0),o2,o3] ([]++[.l (mpI P.n λk=>Sx.wayN P S e k)])=some ([.h 0],[]++[.l (mpI P.n λk=>Sx.wayN P S e k)]):=rfl
  have hvw:vwA ([]++[.l (mpI P.n λk=>Sx.wayN P S e k)]) [.h 0]=some [.d (.lst (mpI P.n λk=>Sx.wayN P S e k))]:=rfl
  have hl2:ge [.d (.lst (mpI P.n λk=>Sx.wayN P S e k))] []=some (.d (.tup (mpI P.n λk=>Sx.wayN P S e k / g)),[]):=hlo
  simp only[eN,ha,qaa,hvw,hl2]
  rw[if_pos]
  exact uO _ _
 have:=oX (n:=5) (k:=2) (b:=jg) (ws:=[.d (obD P S),.d (.int (e:Int))]) (st:=[]) rfl (ar (ax s1) (ar (bI (mR (nB (v0 _ _ _ _ _))) e2) (ar s3 (cq hc))))
 exact this
end
end Own
set_option maxHeartbeats 1000000
namespace Own
open PySem L2
open Sx (Pb Tb Good Named Fe LV ZV piv lexP leastR leaveL sumN unit colV basis)
theorem kR {m:Fn}{a:Af}{env:Ev}{st:Sto}{ws vs:List W}{x:D} (ha:a env st=some (ws,st)) (hv:vwA st ws=some vs) (hm:m vs []=some (.d x,[])) (hx:okT x=true):eN m a env st=some (.d x,st):=by
 simp only[eN,ha,qaa,hv,hm]
 rw[if_pos hx]
structure Pd (P:Pb):Prop where
 bd:Sx.Bd P
 hA:∀ k,k<P.n+P.m->∀ t,P.m<=t->P.A k t=0
 hb:∀ t,P.m<=t->P.b t=0
 hg:∀ r,r<P.m->P.g (P.n+r)=0
section
variable {P:Pb}{S:Tb}
theorem Pd.okt (d:Pd P) (g:Good P S) (n:Named P S):Okt P S:=xY d.bd g n
theorem Pd.kept (d:Pd P) (n:Named P S):∀ i,i<P.m->∀ t,P.m<=t->P.A (S.kept i) t=0:=λi hi t ht=>d.hA _ (n.bound.2 i hi) t ht
theorem zJ (g:Good P S) (f:Fe P S):∀ i,i<P.m->0<=S.T i P.n:=λi hi=>by
 have h1:=Sx.lexP_first (by lia) (f i hi)
 rw[g.entry (qal _) hi]
 have:colV P S P.n=Sx.XV P 0:=by unfold colV Sx.XV;rw[if_neg (qaR _),if_pos rfl]
 rw[this]
 exact h1
structure jt (P:Pb) (p:Int) (am pr:Nat->Int):Prop where
 p1:1<=p
 am0:∀ k,k<P.n->0<=am k
 pr0:∀ r,r<P.m->0<=pr r
 rows:∀ r,r<P.m->(sumN P.n λj=>am j*P.A j r)<=p*P.b r
 cols:∀ j,j<P.n->p*P.g j<=sumN P.m λr=>P.A j r*pr r
 same:(sumN P.m λr=>P.b r*pr r)=sumN P.n λj=>am j*P.g j
 sp:Sm p
 sa:∀ k,k<P.n->Sm (am k)
 sr:∀ r,r<P.m->Sm (pr r)
 cor:∃ S q,Good P S/\Named P S/\0<q/\S.p=q*p/\∀ k,k<P.n->q*am k=Sx.byName P S (λi=>S.T i P.n) k
structure gX (P:Pb) (way:Nat->Int):Prop where
 w0:∀ k,k<P.n->0<=way k
 rows:∀ r,r<P.m->(sumN P.n λj=>way j*P.A j r)<=0
 gain:0<sumN P.n λj=>way j*P.g j
 cor:∃ S e q,Good P S/\Named P S/\e<P.n/\(∀ i,i<P.m->S.T i e<=0)/\0<q/\∀ k,k<P.n->q*way k=Sx.wayN P S e k
theorem gO {g a:Int} (h:g∣a):g*(a / g)=a:=Int.mul_ediv_cancel' h
theorem nM {n:Nat}{g:Int}{f h:Nat->Int} (hd:∀ k,k<n->g∣f k):g*(sumN n λk=>f k / g*h k)=sumN n λk=>f k*h k:=by
 rw[<-Sx.sumN_mul]
 refine Sx.sumN_congr λk hk=>?_
 rw[<-qaZ,gO (hd k hk)]
theorem qN {n:Nat}{g:Int}{f h:Nat->Int} (hd:∀ k,k<n->g∣f k):g*(sumN n λk=>h k*(f k / g))=sumN n λk=>h k*f k:=by
 rw[<-Sx.sumN_mul]
 refine Sx.sumN_congr λk hk=>?_
 rw[qaD,gO (hd k hk)]
theorem zc (h:Okt P S) (hg:∀ r,r<P.m->P.g (P.n+r)=0) (hG:∀ c,c<P.n->0<=S.G c) {r:Nat} (hr:r<P.m):Sm (ZV P S (r+1))/\0<=ZV P S (r+1):=by
 rcases h.named.all (P.n+r) (by lia) with⟨c,hc,e⟩|⟨j,hj,e⟩
 ·rw[Sx.price_free h.good h.named hg hr hc e];exact⟨h.sG c (by lia),hG c hc⟩
 ·rw[Sx.price_kept h.good h.named hg hr hj e];exact⟨qdW (by decide),qcv _⟩
theorem yz (h:Okt P S) (k:Nat):Sm (acc S.kept (λi=>S.T i P.n) P.m k):=by
 by_cases ex:∃ i,i<P.m/\S.kept i=k
 ·obtain⟨i,hi,rfl⟩:=ex
  have:acc S.kept (λi=>S.T i P.n) P.m (S.kept i)=S.T i P.n:=Sx.byName_at (λi j hi hj=>kept_inj h.good hi hj) hi
  rw[this]
  exact h.sT i P.n hi (qal _)
 ·rw[qo λj hj e=>ex ⟨j,hj,e⟩]
  exact qdW (by decide)
theorem qz {g a b:Int} (g0:0<g) (h:g*a<=g*b):a<=b:=qcp h g0
theorem Sm.dv {a:Int} (h:Sm a) (q:Int):Sm (a / q):=qbe (Int.natAbs_ediv_le_natAbs a q) h
theorem zj (d:Pd P) (g:Good P S) (n:Named P S) (f:Fe P S) (hG:∀ c,c<P.n->0<=S.G c):∃ p am pr,jt P p am pr/\gC [.d (obD P S)] []=some (.d (.tup [.str "most",.int p,.tup (mpI P.n am),.tup (mpI P.m pr)]),[]):=by
 have h:=d.okt g n
 have hm:=h.m64
 have hn:=h.n64
 have hT:=zJ g f
 have e1:=zp (st:=[]) h
 have e2:=yv (st:=[]) h d.hg
 have hg:=d.hg
 have M1:=λr hr=>Sx.amounts_ok g n hT (r:=r) hr
 have M2:=Sx.gains_amounts g n d.hg
 have M3:=λj hj=>Sx.prices_ok g n d.hA hG (j:=j) hj
 have M4:=Sx.bounds_prices g d.hb
 have M5:∀ k,0<=acc S.kept (λi=>S.T i P.n) P.m k:=λk=>Sx.byName_nonneg (P:=P) (S:=S) (y:=λi=>S.T i P.n) hT k
 have M6:=yz h
 have M7:=λr hr=>zc h d.hg hG (r:=r) hr
 have M8:(λj=>Sx.byName P S (λi=>S.T i P.n) j)=acc S.kept (λi=>S.T i P.n) P.m:=rfl
 have M9:∀ j,Sx.byName P S (λi=>S.T i P.n) j=acc S.kept (λi=>S.T i P.n) P.m j:=λ_=>rfl
 simp only[M9]at M1 M2
 generalize acc S.kept (λi=>S.T i P.n) P.m=am at *
 generalize hpr:(λr=>ZV P S (r+1))=pr at *
 have hpr':∀ r,ZV P S (r+1)=pr r:=λr=>by rw[<-hpr]
 simp only[hpr']at M3 M4 M7
 have hns:D.int S.p::(mpI P.n am++mpI P.m pr)=(S.p::((qag P.n).map am++(qag P.m).map pr)).map D.int:=by
  rw[qay,qbG,dz,dz]
 have hsm:∀ x∈S.p::((qag P.n).map am++(qag P.m).map pr),Sm x:=λx hx=>by
  rcases qaH.mp hx with rfl|hx
  ·exact h.sp
  ·rcases qaQ.mp hx with hx|hx
   ·obtain⟨k,_,rfl⟩:=qa7.mp hx;exact M6 k
   ·obtain⟨k,hk,rfl⟩:=qa7.mp hx;exact (M7 k (qaB.mp hk)).1
 have e3:=oj (st:=[]) hsm
 have hp:=g.pos
 obtain⟨q0,q1⟩:=pz (ns:=S.p::((qag P.n).map am++(qag P.m).map pr)) qae (by lia) h.sp
 have qd:∀ x∈S.p::((qag P.n).map am++(qag P.m).map pr),((fD 0 (S.p::((qag P.n).map am++(qag P.m).map pr)):Nat):Int)∣x:=λx hx=>qfL.mpr ((ji 0 _).2 _ hx)
 rw[<-hns]at e3
 generalize ((fD 0 (S.p::((qag P.n).map am++(qag P.m).map pr)):Nat):Int)=q at *
 have dp:q∣S.p:=qd _ qae
 have da:∀ k,k<P.n->q∣am k:=λk hk=>qd _ (qah _ (qaU _ (qa7.mpr ⟨k,qaB.mpr hk,rfl⟩)))
 have dr:∀ k,k<P.m->q∣pr k:=λk hk=>qd _ (qah _ (qap _ (qa7.mpr ⟨k,qaB.mpr hk,rfl⟩)))
 refine⟨S.p / q,λk=>am k / q,λr=>pr r / q,⟨?_,λk _=>qdz (M5 k) (by lia),λr hr=>qdz (M7 r hr).2 (by lia),λr hr=>?_,λj hj=>?_,?_,h.sp.dv _,λk _=>(M6 k).dv _,λr hr=>(M7 r hr).1.dv _,⟨S,q,g,n,q0,(gO dp).symm,λk hk=>by rw[M9 k];exact gO (da k hk)⟩⟩,?_⟩
 ·have:=gO dp
  rcases Int.lt_or_le (S.p / q) 1 with z|z
  ·have:q*(S.p / q)<=q*0:=qbj (by lia) (by lia)
   lia
  ·exact z
 ·refine qz q0 ?_
  rw[nM (h:=λj=>P.A j r) da,<-qaZ,gO dp]
  exact M1 r hr
 ·refine qz q0 ?_
  rw[qN (h:=λr=>P.A j r) dr,<-qaZ,gO dp]
  exact M3 j hj
 ·refine qcq (a:=q) (by lia) ?_
  rw[qN (h:=λr=>P.b r) dr,nM (h:=λj=>P.g j) da,M4,M2]
 ·have v0:∀ (a b c:Option W) (s:Sto),iV 0 [some (.d (obD P S)),a,b,c] s=some (.d (obD P S),s):=λ_ _ _ _=>rfl
  have ka:lcI (.nm 0) bG dl [none,some (.d (.int q))] (mpI P.n am) []=some (mpI P.n λk=>am k / q,[]):=by
   have:=pw (te:=dl) (st:=[]) (ns:=(qag P.n).map am) q0 q1 rfl
   rw[<-dz,qbs,qbs]at this
   exact this
  have kr:lcI (.nm 0) bG dy [none,some (.d (.int q))] (mpI P.m pr) []=some (mpI P.m λk=>pr k / q,[]):=by
   have:=pw (te:=dy) (st:=[]) (ns:=(qag P.m).map pr) q0 q1 rfl
   rw[<-dz,qbs,qbs]at this
   exact this
  have la:(mpI P.n am).length<=1000000:=by rw[bn];lia
  have lr:(mpI P.m pr).length<=1000000:=by rw[bn];lia
  have ls1:[D.int S.p].length+(mpI P.n am).length<=1000000:=by rw[bn];show 1+_<=_;lia
  have ls2:([D.int S.p]++mpI P.n am).length+(mpI P.m pr).length<=1000000:=by rw[qau,bn,bn];show 1+_+_<=_;lia
  generalize mpI P.n am=AM at *
  generalize mpI P.m pr=PR at *
  generalize (mpI P.n λk=>am k / q)=AQ at *
  generalize (mpI P.m λk=>pr k / q)=RQ at *
  have s3:aD (.nm 3) (aS cx (aa (iOp bW (iOp bW (aM (cQ (aa (au ("part" : Str) (iV 0)) ak))) (iV 1)) (iV 2)) ak)) [some (.d (obD P S)),some (.d (.lst AM)),some (.d (.lst PR)),none] []=some (.nx [some (.d (obD P S)),some (.d (.lst AM)),some (.d (.lst PR)),some (.d (.int q))] []):=by
   have hl:cQ (aa (au ("part" : Str) (iV 0)) ak) [some (.d (obD P S)),some (.d (.lst AM)),some (.d (.lst PR)),none] []=some ([.int S.p],[]):=by
    have:=ah (b:=ak) (kE (v0 (some (.d (.lst AM))) (some (.d (.lst PR))) none [])) rfl
    simp only[cQ,this,qaa];rfl
   exact ax (aI (ah (ai (ai (aW hl) rfl (iO _ ls1)) rfl (iO _ ls2)) rfl) e3)
  have s4:dj (aa (iC (.str "most")) (aa (iOp kW (au ("part" : Str) (iV 0)) (iV 3)) (aa (iCB kO (aa (aM (iLc 1 [3] (aL (iV 1)) (.nm 0) bG dl)) ak)) (aa (iCB kO (aa (aM (iLc 1 [3] (aL (iV 2)) (.nm 0) bG dy)) ak)) ak)))) [some (.d (obD P S)),some (.d (.lst AM)),some (.d (.lst PR)),some (.d (.int q))] []=some (.d (.tup [.str "most",.int (S.p / q),.tup AQ,.tup RQ]),[]):=
   pN (ah rfl (ah (ai (kE (v0 _ _ _ _)) rfl (qr _ q0 q1)) (ah (cO (ah (aW (cD (aV rfl) la ka)) rfl) rfl) (ah (cO (ah (aW (cD (aV rfl) lr kr)) rfl) rfl) rfl)))) rfl (by show 4<=1000;decide)
  exact bh (n:=4) (k:=1) (b:=e8) rfl (ar (ax (aI (ah (v0 _ _ _ _) rfl) e1)) (ar (ax (aI (ah (v0 _ _ _ _) rfl) e2)) (ar s3 (cq s4))))
theorem yJ (d:Pd P) (g:Good P S) (n:Named P S) {e:Nat} (he:e<P.n) (ht:∀ i,i<P.m->S.T i e<=0) (hG:S.G e<0):∃ way,gX P way/\jk [.d (obD P S),.d (.int (e:Int))] []=some (.d (.tup (mpI P.n way)),[]):=by
 have h:=d.okt g n
 have W1:=Sx.way_gains g n d.hg he hG
 have hp:∃ k,k<P.n/\Sx.wayN P S e k≠0:=by
  by_cases z:∃ k,k<P.n/\Sx.wayN P S e k≠0
  ·exact z
  ·exfalso
   rw[Sx.sumN_congr (g:=λ_=>0) λk hk=>by
    by_cases z':Sx.wayN P S e k=0
    ·rw[z',qbJ]
    ·exact absurd ⟨k,hk,z'⟩ z,Sx.sumN_zero]at W1
   lia
 obtain⟨q,q0,qd,ew⟩:=zz h he ht hp
 refine⟨λk=>Sx.wayN P S e k / q,⟨λk _=>qdz (Sx.way_nonneg g ht k) (by lia),λr hr=>?_,?_,⟨S,e,q,g,n,he,ht,q0,λk hk=>gO (qd k hk)⟩⟩,ew⟩
 ·refine qz q0 ?_
  rw[nM (h:=λj=>P.A j r) qd,qas]
  exact Sx.way_rows g n he ht hr
 ·refine qeU (a:=q) ?_ (by lia)
  rw[nM (h:=λj=>P.g j) qd,qas]
  exact W1
end
end Own
set_option maxHeartbeats 1000000
namespace Own
open PySem L2
open Sx (Pb Tb Good Named Fe LV ZV piv lexP leastR leaveL sumN unit colV basis)
theorem z7 (n:Nat) (f:Nat->Int):okT (.tup [.str "beyond",.tup (mpI n f)])=true:=by
 simp only[okT,qc,dz,iu,qgx]
theorem yy (n m:Nat) (p:Int) (f g:Nat->Int):okT (.tup [.str "most",.int p,.tup (mpI n f),.tup (mpI m g)])=true:=by
 simp only[okT,qc,dz,iu,qgx]
def zw (P:Pb) (S:Tb) (x:D):Prop:=(∃ c,c<P.n/\S.G c<0/\(∀ i,i<P.m->S.T i c<=0)/\x=.tup [.int (c:Int),.non])\/(jr P S x/\(x=.non->∀ c,c<P.n->0<=S.G c))
section
variable {P:Pb}{S:Tb}
theorem tF (d:Pd P) (g:Good P S) (n:Named P S):∃ x,zw P S x/\okT x=true/\ck [.d (obD P S)] []=some (.d x,[]):=by
 rcases yq (st:=[]) (d.okt g n) (d.kept n) with⟨c,hc,hg,ht,e⟩|⟨y,hy,hn,e⟩
 ·exact⟨_,.inl ⟨c,hc,hg,ht,rfl⟩,rfl,e⟩
 ·refine⟨y,.inr ⟨hy,hn⟩,?_,e⟩
  rcases hy with rfl|⟨c,r,_,_,_,_,_,_,rfl⟩<;>rfl
theorem jJ {st0:Sto}{a b c o:Option W}{x:D} (e:ck [.d (obD P S)] []=some (.d x,[])) (hx:okT x=true):eN ck (aa (iV 3) ak) [a,b,c,some (.h (st0.length+2)),o] (stO st0 P S)=some (.d x,stO st0 P S):=
 kR (ws:=[.h (st0.length+2)]) rfl (tL (ws:=[]) (ws':=[]) rfl) e hx
def lK (P:Pb) (f:Nat) (S:Tb) (x:D):Prop:=
 (∃ S' way,gX P way/\∀ (st0:Sto) (a b c:Option W),cP gq fH f [a,b,c,some (.h (st0.length+2)),some (.d x)] (stO st0 P S)=some (.rt (.d (.tup [.str "beyond",.tup (mpI P.n way)])) (stO st0 P S')))\/
 ∃ S',Good P S'/\Named P S'/\Fe P S'/\(∀ c,c<P.n->0<=S'.G c)/\∀ (st0:Sto) (a b c:Option W),cP gq fH f [a,b,c,some (.h (st0.length+2)),some (.d x)] (stO st0 P S)=some (.nx [a,b,c,some (.h (st0.length+2)),some (.d .non)] (stO st0 P S'))
theorem qJ (d:Pd P):∀ (f:Nat) (V:List Nat) (S:Tb) (x:D),Good P S->Named P S->Fe P S->zw P S x->V.Nodup->(∀ v∈V,v<(P.n+P.m)^P.m)->(∀ v∈V,∃ S',Good P S'/\Named P S'/\Sx.code (P.n+P.m) S'.kept P.m=v/\Sx.less P S' S)->(P.n+P.m)^P.m<f+V.length->lK P f S x
 |0,V,S,x,_,_,_,_,hV,hb,_,hf=>by
  have:=Sx.nodup_le _ V hV hb
  lia
 |f+1,V,S,x,hg,hn,hF,hx,hV,hb,hl,hf=>by
  have h:=d.okt hg hn
  rcases hx with⟨c,hc,hG,ht,rfl⟩|⟨hx,hxn⟩
  ·obtain⟨way,bw,ew⟩:=yJ d hg hn hc ht hG
   refine .inl ⟨S,way,bw,λst0 a b o=>?_⟩
   refine zu (s:=stO st0 P S) rfl (jj (eK (s:=stO st0 P S) rfl (cq (pN (ws:=[.d (.str "beyond"),.d (.tup (mpI P.n way))]) (ah rfl (ah ?_ rfl)) rfl (by show 2<=1000;decide)))))
   refine kR (ws:=[.h (st0.length+2),.d (.int (c:Int))]) (ah rfl (ah (ai rfl rfl (oq _ _ _)) rfl)) (tL (ws:=[.d (.int (c:Int))]) (ws':=[.d (.int (c:Int))]) rfl) ew ?_
   exact uO _ _
  ·rcases hx with rfl|⟨c,r,hc,hG,_,hr,hT,hmin,rfl⟩
   ·exact .inr ⟨S,hg,hn,hF,hxn rfl,λst0 a b o=>wD rfl⟩
   ·obtain⟨g2,n2,f2,l2⟩:=Sx.step hg hn hF hc hr hT hG hmin
    obtain⟨y,sy,oy,ey⟩:=tF d g2 n2
    have hcode:∀ {S':Tb},Named P S'->∀ i,i<P.m->S'.kept i<P.n+P.m:=λn' i hi=>n'.bound.2 i hi
    have ih:=qJ d f (Sx.code (P.n+P.m) S.kept P.m::V) (piv S r c) y g2 n2 f2 sy
     (qbY.mpr ⟨λhm=>by
       obtain⟨S',g',n',e',l'⟩:=hl _ hm
       exact Sx.less_kept g' hg l' (Sx.code_inj (hcode n') (hcode hn) e'),hV⟩)
     (λv hv=>by
       rcases qaH.mp hv with rfl|hv
       ·exact Sx.code_lt (hcode hn)
       ·exact hb v hv)
     (λv hv=>by
       rcases qaH.mp hv with rfl|hv
       ·exact⟨S,hg,hn,rfl,l2⟩
       ·obtain⟨S',g',n',e',l'⟩:=hl v hv
        exact⟨S',g',n',e',Sx.less_trans g'.pos hg.pos g2.pos l' l2⟩)
     (by rw[qaq];lia)
    have key:∀ (st0:Sto) (a b o:Option W),fH [a,b,o,some (.h (st0.length+2)),some (.d (.tup [.int (c:Int),.int (r:Int)]))] (stO st0 P S)=some (.nx [a,b,o,some (.h (st0.length+2)),some (.d y)] (stO st0 P (piv S r c))):=λst0 a b o=>by
     have ed:gD (aS dW (aa (iV 3) (aa (iOp dIx (iV 4) (iC (.int 1))) (aa (iOp dIx (iV 4) (iC (.int 0))) ak)))) [a,b,o,some (.h (st0.length+2)),some (.d (.tup [.int (c:Int),.int (r:Int)]))] (stO st0 P S)=some (.nx [a,b,o,some (.h (st0.length+2)),some (.d (.tup [.int (c:Int),.int (r:Int)]))] (stO st0 P (piv S r c))):=by
      have:=aI (m:=dW) (a:=aa (iV 3) (aa (iOp dIx (iV 4) (iC (.int 1))) (aa (iOp dIx (iV 4) (iC (.int 0))) ak))) (env:=[a,b,o,some (.h (st0.length+2)),some (.d (.tup [.int (c:Int),.int (r:Int)]))]) (st:=stO st0 P S) (ah rfl (ah (ai rfl rfl (oM _ _ _)) (ah (ai rfl rfl (oq _ _ _)) rfl))) (v4 h hr hc)
      simp only[gD,this,qar]
     exact ar (cS (s:=stO st0 P S) rfl rfl) (ar ed (ax (jJ ey oy)))
    rcases ih with⟨S',way,bw,hw⟩|⟨S',gS,nS,fS,hS,hw⟩
    ·exact .inl ⟨S',way,bw,λst0 a b o=>uT (s:=stO st0 P S) rfl (key st0 a b o) (hw st0 a b o)⟩
    ·exact .inr ⟨S',gS,nS,fS,hS,λst0 a b o=>uT (s:=stO st0 P S) rfl (key st0 a b o) (hw st0 a b o)⟩
end
def bZ (m n:Nat) (R:Nat->Nat->Int) (b g:Nat->Int):Pb where
 m:=m
 n:=n
 A:=λk t=>if k<n then (if t<m then R t k else 0) else unit (k - n) t
 b:=λt=>if t<m then b t else 0
 g:=λk=>if k<n then g k else 0
def sN (m n:Nat) (R:Nat->Nat->Int) (b g:Nat->Int):Tb:=Sx.tb0 (bZ m n R b g) (λi c=>if c<n then R i c else b i) (λc=>if c<n then - g c else 0)
def eQ (m n:Nat) (R:Nat->Nat->Int):D:=.tup ((qag m).map λi=>D.tup (mpI n (R i)))
structure Inp (m n:Nat) (R:Nat->Nat->Int) (b g:Nat->Int):Prop where
 m64:m<=64
 n64:n<=100
 R:∀ i c,i<m->c<n->(R i c).natAbs<=2^54
 b:∀ i,i<m->(b i).natAbs<=2^54/\0<=b i
 g:∀ c,c<n->(g c).natAbs<=2^54
section
variable {m n:Nat}{R:Nat->Nat->Int}{b g:Nat->Int}
theorem rF (h:Inp m n R b g):Pd (bZ m n R b g) where
 bd:={
  m64:=h.m64
  n64:=h.n64
  A:=λk _ t ht=>by
   show (if k<n then (if t<m then R t k else 0) else unit (k - n) t).natAbs<=_
   by_cases hk:k<n
   ·rw[if_pos hk,if_pos (show t<m from ht)];exact h.R t k ht hk
   ·rw[if_neg hk];exact Sx.unit_le _ _
  b:=λt ht=>by
   show (if t<m then b t else 0).natAbs<=_
   rw[if_pos (show t<m from ht)];exact (h.b t ht).1
  g:=λk _=>by
   show (if k<n then g k else 0).natAbs<=_
   by_cases hk:k<n
   ·rw[if_pos hk];exact h.g k hk
   ·rw[if_neg hk];exact qcL _ }
 hA:=λk hk t ht=>by
  have hk':k<n+m:=hk
  have ht':m<=t:=ht
  show (if k<n then (if t<m then R t k else 0) else unit (k - n) t)=0
  by_cases hkn:k<n
  ·rw[if_pos hkn,if_neg (by lia)]
  ·rw[if_neg hkn];unfold unit;rw[if_neg (by lia)]
 hb:=λt ht=>if_neg (qfU.mpr ht)
 hg:=λr _=>if_neg (by show ¬ n+r<n;lia)
theorem vV (h:Inp m n R b g):Good (bZ m n R b g) (sN m n R b g)/\Named (bZ m n R b g) (sN m n R b g)/\Fe (bZ m n R b g) (sN m n R b g):=by
 have d:=rF h
 have:=Sx.good0 (P:=bZ m n R b g) (T:=λi c=>if c<n then R i c else b i) (G:=λc=>if c<n then - g c else 0)
  (λr _=>by
    funext t
    show (if n+r<n then _ else unit (n+r - n) t)=_
    rw[if_neg (by lia),qcE])
  (λk hk=>d.hA k (by show k<n+m;have:k<n:=hk;lia)) d.hb d.hg
  (λi c hi hc=>by
    show (if c<n then R i c else b i)=if c<n then (if i<m then R i c else 0) else _
    rw[if_pos (show c<n from hc),if_pos (show c<n from hc),if_pos (show i<m from hi)])
  (λi hi=>by
    show (if n<n then _ else b i)=if i<m then b i else 0
    rw[if_neg (qaR _),if_pos (show i<m from hi)])
  (λc hc=>by
    show (if c<n then - g c else 0)=- (if c<n then g c else 0)
    rw[if_pos (show c<n from hc),if_pos (show c<n from hc)])
  (by show (if n<n then _ else (0:Int))=0;rw[if_neg (qaR _)])
 refine⟨this.1,this.2.1,this.2.2 λt ht=>?_⟩
 show 0<=if t<m then b t else 0
 rw[if_pos (show t<m from ht)]
 exact (h.b t ht).2
theorem qC (f:Nat->Int) (x:Int):mpI n f++[.int x]=mpI (n+1) λc=>if c<n then f c else x:=by
 rw[oo,if_neg (qaR _)]
 rw[bM (n:=n) (g:=λc=>if c<n then f c else x) λk hk=>by rw[if_pos hk]]
theorem tD (lo:Nat) (m:Nat):dL (lo:Int) m=mpI m (nI λi=>lo+i):=by
 unfold dL mpI
 refine qct λk _=>?_
 show D.int ((lo:Int)+(k:Int))=D.int (((lo+k:Nat)):Int)
 rw[Int.natCast_add]
theorem y7 {st0:Sto}{o3 o4:Option W} (h:Inp m n R b g):mo 4 4 cM (aa (iV 0) (aa (iV 1) (aa (iV 2) ak))) [some (.d (eQ m n R)),some (.d (.tup (mpI m b))),some (.d (.tup (mpI n g))),o3,o4] st0=some (.h (st0.length+2),stO st0 (bZ m n R b g) (sN m n R b g)):=by
 have hm:=h.m64
 have hn:=h.n64
 have ev:∀ {o:Option W},[o,some (.d (eQ m n R)),some (.d (.tup (mpI m b))),some (.d (.tup (mpI n g)))]=o::([W.d (eQ m n R),.d (.tup (mpI m b)),.d (.tup (mpI n g))].map some++qav (4 - 4) none):=rfl
 generalize hE:([none,some (.d (eQ m n R)),some (.d (.tup (mpI m b))),some (.d (.tup (mpI n g)))]:Ev)=E
 have v1:∀ s,iV 1 E s=some (.d (eQ m n R),s):=λs=>by rw[<-hE];rfl
 have v2:∀ s,iV 2 E s=some (.d (.tup (mpI m b)),s):=λs=>by rw[<-hE];rfl
 have v3:∀ s,iV 3 E s=some (.d (.tup (mpI n g)),s):=λs=>by rw[<-hE];rfl
 have lenG:∀ s,iCB cv (aa (iV 3) ak) E s=some (.d (.int (n:Int)),s):=λs=>by
  have:=cO (g:=cv) (d:=.int ((mpI n g).length:Nat)) (ah (b:=ak) (v3 s) rfl) rfl
  rw[bn]at this;exact this
 have lenR:∀ s,iCB cv (aa (iV 1) ak) E s=some (.d (.int (m:Int)),s):=λs=>by
  have:=cO (g:=cv) (d:=.int (((qag m).map λi=>D.tup (mpI n (R i))).length:Nat)) (ah (b:=ak) (v1 s) rfl) rfl
  rw[qam,qao]at this;exact this
 have f2:aM (iLc 2 [] (gN (aa (iV 1) (aa (iV 2) ak))) (.tp [0,1]) bG gR) E st0=some (.d (.lst (aH m n λi c=>if c<n then R i c else b i)),st0):=by
  have hz:gN (aa (iV 1) (aa (iV 2) ak)) E st0=some ((qag m).map λi=>D.tup [.tup (mpI n (R i)),.int (b i)],st0):=by
   have e1:iS ((qag m).map λi=>D.tup (mpI n (R i))) (mpI m b)=(qag m).map λi=>D.tup [.tup (mpI n (R i)),.int (b i)]:=by
    apply qbZ
    intro i
    rw[gY,qaI,qaI]
    by_cases hi:i<m
    ·rw[d8 hi,qa9 hi];rfl
    ·rw[qa4 (l:=qag m) (by rw[qao];lia)];rfl
   rw[<-e1]
   have:=ah (v1 st0) (ah (b:=ak) (v2 st0) rfl)
   simp only[gN,this,qaa];rfl
  refine aW (cD hz (by rw[qam,qao];lia) ?_)
  refine sQ (g:=λi=>(D.tup (mpI n (R i)),.int (b i))) (lnD n λi c=>if c<n then R i c else b i) λi hi=>?_
  unfold lnD
  rw[<-qC (R i) (b i)]
  exact ai (aW (show iCL rC (aa (iV 0) ak) _ _=some (mpI n (R i),_) from rfl)) (aW (show cQ (aa (iV 1) ak) _ _=some ([.int (b i)],_) from rfl)) (iO _ (by rw[bn];show _+1<=_;lia))
 have f3:iOp bW (aM (iLc 1 [] (aL (iV 3)) (.nm 0) bG gM)) (aM (cQ (aa (iC (.int 0)) ak))) E st0=some (.d (.lst (mpI (n+1) λc=>if c<n then - g c else 0)),st0):=by
  rw[<-qC (λc=>- g c) 0]
  refine ai (aW (cD (mq (v3 st0)) (by rw[bn];lia) (lD (g:=λk=>D.int (g k)) (λk=>D.int (- g k)) λk _=>rfl))) (aW (show cQ (aa (iC (.int 0)) ak) E st0=some ([.int 0],st0) from rfl)) (iO _ ?_)
  rw[qam,qao];show _+1<=_;lia
 have f5:dZ (se (aa (iCB cv (aa (iV 3) ak)) ak)) E st0=some (.h st0.length,st0++[.l (mpI n (nI λc=>c))]):=by
  have:=ah (b:=ak) (lenG st0) rfl
  have e1:se (aa (iCB cv (aa (iV 3) ak)) ak) E st0=some (mpI n (nI λc=>c),st0):=by
   simp only[se,this,qaa]
   rw[if_pos ⟨by lia,by lia⟩,qch,show dL 0 n=dL ((0:Nat):Int) n from rfl,tD]
   simp only[qbI]
  simp only[dZ,e1,qar]
 have f6:dZ (my (aa (iCB cv (aa (iV 3) ak)) (aa (iOp bW (iCB cv (aa (iV 3) ak)) (iCB cv (aa (iV 1) ak))) ak))) E (st0++[.l (mpI n (nI λc=>c))])=some (.h (st0.length+1),st0++[.l (mpI n (nI λc=>c)),.l (mpI m (nI λi=>n+i))]):=by
  generalize hs:(st0++[C.l (mpI n (nI λc=>c))])=s1
  have h2:iOp bW (iCB cv (aa (iV 3) ak)) (iCB cv (aa (iV 1) ak)) E s1=some (.d (.int ((n:Int)+(m:Int))),s1):=ai (lenG s1) (lenR s1) rfl
  have:=ah (lenG s1) (ah (b:=ak) h2 rfl)
  have e1:my (aa (iCB cv (aa (iV 3) ak)) (aa (iOp bW (iCB cv (aa (iV 3) ak)) (iCB cv (aa (iV 1) ak))) ak)) E s1=some (mpI m (nI λi=>n+i),s1):=by
   simp only[my,this,qaa]
   rw[if_pos ⟨by lia,by lia,by lia,by lia⟩,show (((n:Int)+(m:Int)) - (n:Int)).toNat=m by lia,tD]
  simp only[dZ,e1,qar]
  rw[<-hs,qau]
  simp
 have hini:ni cM E st0=some (fsO n (aH m n λi c=>if c<n then R i c else b i) (mpI (n+1) λc=>if c<n then - g c else 0) 1 st0.length,st0++[.l (mpI n (nI λc=>c)),.l (mpI m (nI λi=>n+i))]):=by
  unfold cM
  simp only[ni,lenG st0,f2,f3,f5,f6,qaa,qar,show iC (.int 1) E st0=some (.d (.int 1),st0) from rfl]
  rfl
 have ha:aa (iV 0) (aa (iV 1) (aa (iV 2) ak)) [some (.d (eQ m n R)),some (.d (.tup (mpI m b))),some (.d (.tup (mpI n g))),o3,o4] st0=some ([.d (eQ m n R),.d (.tup (mpI m b)),.d (.tup (mpI n g))],st0):=rfl
 simp only[mo,ha,qaa]
 rw[if_pos (show [W.d (eQ m n R),W.d (D.tup (mpI m b)),W.d (D.tup (mpI n g))].length+1=4 from rfl)]
 show (ni cM [none,some (.d (eQ m n R)),some (.d (.tup (mpI m b))),some (.d (.tup (mpI n g)))] st0).map _=_
 rw[hE,hini,qar]
 show some (W.h (st0++[C.l (mpI n (nI λc=>c)),.l (mpI m (nI λi=>n+i))]).length,(st0++[C.l (mpI n (nI λc=>c)),.l (mpI m (nI λi=>n+i))])++[_])=_
 rw[qau,qbA]
 rfl
inductive wK (P:Pb):D->Prop
 |most (p:Int) (am pr:Nat->Int):jt P p am pr->wK P (.tup [.str "most",.int p,.tup (mpI P.n am),.tup (mpI P.m pr)])
 |beyond (way:Nat->Int):gX P way->wK P (.tup [.str "beyond",.tup (mpI P.n way)])
theorem t8 {m n:Nat} (hm:m<=64) (hn:n<=100):(n+m)^m<2^8000:=by
 have h1:(n+m)^m<=(2^8)^m:=Nat.pow_le_pow_left (by show n+m<=256;lia) m
 rw[<-qhH]at h1
 exact qbe h1 (rG (by lia))
theorem vU (h:Inp m n R b g):∃ x,wK (bZ m n R b g) x/\okT x=true/\∀ st:Sto,∃ u,ii [.d (eQ m n R),.d (.tup (mpI m b)),.d (.tup (mpI n g))] st=some (.d x,st++u):=by
 have d:=rF h
 obtain⟨g1,n1,f1⟩:=vV h
 obtain⟨y,sy,oy,ey⟩:=tF d g1 n1
 have hl:=qJ d (2^8000) [] _ y g1 n1 f1 sy qc9 (λv hv=>nomatch hv) (λv hv=>nomatch hv) (by rw[qcb,qhz];exact t8 h.m64 h.n64)
 generalize hM:(eQ m n R)=A at *
 generalize hB:D.tup (mpI m b)=B at *
 generalize hC:D.tup (mpI n g)=C at *
 have s3:∀ st0,aD (.nm 3) (mo 4 4 cM (aa (iV 0) (aa (iV 1) (aa (iV 2) ak)))) [some (.d A),some (.d B),some (.d C),none,none] st0=some (.nx [some (.d A),some (.d B),some (.d C),some (.h (st0.length+2)),none] (stO st0 (bZ m n R b g) (sN m n R b g))):=λst0=>by
  rw[<-hM,<-hB,<-hC]
  exact ax (y7 h)
 rcases hl with⟨S',way,bw,hw⟩|⟨S',gS,nS,fS,hS,hw⟩
 ·refine⟨_,.beyond way bw,z7 _ _,λst0=>⟨_,bh (n:=5) (k:=3) (b:=fY) rfl (ar (s3 st0) (ar (ax (jJ ey oy)) (jj (hw st0 _ _ _))))⟩⟩
 ·obtain⟨p,am,pr,mi,em⟩:=zj d gS nS fS hS
  refine⟨_,.most p am pr mi,yy _ _ _ _ _,λst0=>⟨_,bh (n:=5) (k:=3) (b:=fY) rfl (ar (s3 st0) (ar (ax (jJ ey oy)) (ar (hw st0 _ _ _) (cq (kR (ws:=[.h (st0.length+2)]) rfl (tL (ws:=[]) (ws':=[]) rfl) em (yy _ _ _ _ _))))))⟩⟩
end
end Own
set_option maxHeartbeats 1000000
namespace Own
open PySem L2
open Sx (Pb Tb Good Named Fe LV ZV piv lexP leastR leaveL sumN unit colV basis)
theorem vo {st:Sto}{n:Nat}{m:Int} (h:eM st n) (m0:0<m) (m1:m<=1000):∃ r st',0<=r/\r<m/\Stp n st st'/\bj [.h n,.d (.int m)] st=some (.d (.int r),st'):=by
 have hn:=h.lt
 obtain⟨x,y,z,h0,h⟩:=h
 have m2:m<1073741824:=by lia
 have slow:(x > 0/\z+1<=400->False)->∃ r st',0<=r/\r<m/\Stp n st st'/\bj [.h n,.d (.int m)] st=some (.d (.int r),st'):=λhne=>by
  have hy0:0<=(y*48271+12345+(z+1))%2147483647:=qeI _ (by decide)
  have hy1:(y*48271+12345+(z+1))%2147483647<2147483647:=qd4 _ (by decide)
  have k1:qbm y 48271:=kj (by decide)
  have k3:∀ q,qbm ((y*48271+12345+(z+1))%2147483647) q:=λq=>i8 (by lia)
  have hw:∃ w:Int,(y*48271+12345+(z+1))%2147483647=w:=⟨_,rfl⟩
  obtain⟨w,hw⟩:=hw
  rw[hw]at hy0 hy1 k3
  refine⟨w*(w%39373+7)%2147483629 / 64%m,st.set n (.l [.int x,.int w,.int (z+1)]),qeI _ (by lia),qd4 _ m0,⟨⟨_,rfl⟩,_,_,_,h0,je hn⟩,?_⟩
  by_cases hx:x > 0
  ·have hz:¬ z+1<=400:=λq=>hne ⟨hx,q⟩
   simp only[bj,dg,iV,iC,iOp,bm,iL,bz,aq,aD,fR,bE,bY,cy,eH,eG,nV,gH,lsD,dIx,bW,aO,le,hU,dLe,dGt,qaa,qar,qb1,qb2,qcz,qcA,qay,qcu,qaq,qcb,qa8,qcs,qcS,qb9,qdk,qdj,if_true,if_false,qbK,ud,y8,xh,yK,xq,qbI,and_self,decide_true,decide_false,lg,qdn,h,hx,hz,m0,decide_false,and_self,je hn,qeh,k1,k3,hw,show (0:Int)<2147483647 by decide,show (0:Int)<39373 by decide,show (0:Int)<2147483629 by decide,show (0:Int)<64 by decide,show (64:Int)<1073741824 by decide]
  ·simp only[bj,dg,iV,iC,iOp,bm,iL,bz,aq,aD,fR,bE,bY,cy,eH,eG,nV,gH,lsD,dIx,bW,aO,le,hU,dLe,dGt,qaa,qar,qb1,qb2,qcz,qcA,qay,qcu,qaq,qcb,qa8,qcs,qcS,qb9,qdk,qdj,if_true,if_false,qbK,ud,y8,xh,yK,xq,qbI,and_self,decide_false,lg,qdn,h,hx,m0,decide_false,and_self,je hn,qeh,k1,k3,hw,show (0:Int)<2147483647 by decide,show (0:Int)<39373 by decide,show (0:Int)<2147483629 by decide,show (0:Int)<64 by decide,show (64:Int)<1073741824 by decide]
 by_cases hq:x > 0/\z+1<=400
 ·obtain⟨hx,hz⟩:=hq
  refine⟨x%m,st.set n (.l [.int (x / m),.int y,.int (z+1)]),qeI _ (by lia),qd4 _ m0,⟨⟨_,rfl⟩,_,_,_,qdz h0 (by lia),je hn⟩,?_⟩
  simp only[bj,dg,iV,iC,iOp,bm,iL,bz,aq,aD,fR,bE,bY,cy,eH,eG,nV,gH,lsD,dIx,bW,aO,le,hU,dLe,dGt,qaa,qar,qb1,qb2,qcz,qcA,qay,qcu,qaq,qcb,qa8,qcs,qcS,qb9,qdk,qdj,if_true,ud,xh,Ab,xq,qbI,and_self,decide_true,lg,qdn,h,hx,hz,m0,m2,decide_true,and_self,je hn,qeh]
 ·exact slow hq
theorem zt (b:Bool):(0:Int)<=if b=true then 1 else 0:=by cases b<;>decide
theorem zk (b:Bool):(if b=true then (1:Int) else 0)<2^64:=by cases b<;>decide
theorem zf (b:Bool):-(2^64)<(if b=true then (1:Int) else 0):=by cases b<;>decide
theorem wL {st:Sto}{ns:List Int}{k:Nat} (hk8:k<=1000):∃ x y:Int,0<=x/\dP [.d (.scr ns),.d (.int k)] st=some (.h st.length,st++[.l [.int x,.int y,.int 0]]):=by
 have p18':pU 10 18:=p18
 have k1:∀ q,qbm 5303 q:=λq=>i8 (by decide)
 have k2:∀ q,qbm q 48271:=λq=>kj (by decide)
 have k4:∀ q,qbm q (k:Int):=λq=>kj (by lia)
 have k3:∀ (q:Int) (b:Bool),qbm q (if b=true then 1 else 0):=λq b=>kj ⟨zf b,zk b⟩
 have key:∀ c:Int,(if (k:Int)<((ns.map D.int).length:Nat) then atI (ns.map D.int) (k:Int)=some (.int c) else c=0)->∃ x y:Int,0<=x/\dP [.d (.scr ns),.d (.int k)] st=some (.h st.length,st++[.l [.int x,.int y,.int 0]]):=λc hc=>by
  have ha:∃ a:Int,(if c<0 then -c else c)=a/\0<=a:=⟨_,rfl,by split<;>lia⟩
  obtain⟨a,ha,a0⟩:=ha
  obtain⟨g,hg⟩:∃ g,decide (a>=10^Int.toNat 18)=g:=⟨_,rfl⟩
  refine⟨a*(if g=true then 1 else 0),(c%2147483629+5303*(k:Int)*k+17)*48271%2147483647,qdL a0 (zt _),?_⟩
  by_cases hk:(k:Int)<((ns.map D.int).length:Nat)
  ·rw[if_pos hk]at hc
   simp only[dP,fz,iV,iC,iOp,bm,j0,ak,aa,iCB,cQ,dZ,aq,aD,bY,eH,eG,oS,nV,gH,lsD,dIx,bW,aO,hU,oW,dLt,dGe,cv,pA,v7,qaa,qar,qb1,qb2,qcz,qcA,qay,qcu,qaq,qcb,qa8,qcs,qcS,qb9,qdk,qdj,if_true,qbI,decide_true,lg,qdn,hk,hc,ha,hg,p18',k1,k2,k3,k4,show (0:Int)<2147483629 by decide,show (0:Int)<2147483647 by decide,show (3:Nat)<=1000 by decide]
  ·rw[if_neg hk]at hc
   subst hc
   have ha0:a=0:=by rw[<-ha];rfl
   subst ha0
   rw[<-hg]
   simp only[dP,fz,iV,iC,iOp,bm,j0,ak,aa,iCB,cQ,dZ,aq,aD,bY,eH,eG,oS,nV,gH,lsD,dIx,bW,aO,hU,oW,dLt,dGe,cv,pA,v7,qaa,qar,qb1,qb2,qcz,qcA,qay,qcu,qaq,qcb,qa8,qcs,qcS,qb9,qdk,qdj,if_true,if_false,qbK,qbI,decide_false,lg,Int.reduceLT,qdn,hk,p18',k1,k2,k3,k4,show (0:Int)<2147483629 by decide,show (0:Int)<2147483647 by decide,show (3:Nat)<=1000 by decide]
 by_cases hk:(k:Int)<((ns.map D.int).length:Nat)
 ·have hk':k<ns.length:=by rw[qam]at hk;lia
  exact key ns[k] (by rw[if_pos hk];exact fJ (by rw[qaI,qaW hk'];rfl))
 ·exact key 0 (by rw[if_neg hk])
theorem lJ {te:Ef}{st:Sto}{n:Nat}{a:Option W}{l:Ev} (Q:D->Prop) {ds:List D} (h:eM st n) (hte:∀ s d,d∈ds->eM s n->∃ x s',Q x/\Stp n s s'/\te (some (.d d)::l) s=some (.d x,s')) :
  ∃ us st',us.length=ds.length/\(∀ u∈us,Q u)/\Stp n st st'/\lcI (.nm 0) bG te (a::l) ds st=some (us,st'):=by
 obtain⟨us,s2,e2,t2,hl,hv⟩:=nK (g:=.nm 0) (tt:=bG) (te:=te) (env:=a::l) (ds:=ds)
  (λi ys s=>Stp n st s/\ys.length=i/\∀ u ∈ ys,Q u) (st:=st) (ys0:=[]) ⟨Stp.refl h,rfl,(λ_ h=>nomatch h)⟩ (λi d ys s hd ⟨p1,p3,p4⟩=>by
   obtain⟨x,s2,hx,t2,e2⟩:=hte s d (qbN hd) p1.hand
   exact⟨_,rfl,.inl ⟨s,x,s2,rfl,e2,p1.trans t2,by rw[qau,p3];rfl,λu hu=>by
    rcases qaQ.mp hu with z|z
    ·exact p4 u z
    ·rw[qaj.mp z];exact hx⟩⟩)
 exact⟨us,s2,by simpa using hl,by simpa using hv,t2,e2⟩
end Own
namespace Sx
theorem sumN_le {n:Nat}{f h:Nat->Int} (hl:∀ k,k<n->f k<=h k):sumN n f<=sumN n h:=by
 induction n with
 |zero=>exact qcv _
 |succ n ih=>
  rw[sumN,sumN]
  have:=ih λk hk=>hl k (by omega)
  have:=hl n (by omega)
  omega
theorem weak {m n:Nat}{A:Nat->Nat->Int}{b g am pr:Nat->Int}{p q:Int} (am0:∀ j,j<n->0<=am j) (pr0:∀ r,r<m->0<=pr r) (rows:∀ r,r<m->(sumN n λj=>am j*A j r)<=p*b r) (cols:∀ j,j<n->q*g j<=sumN m λr=>A j r*pr r) :
  q*(sumN n λj=>am j*g j)<=p*sumN m λr=>b r*pr r:=by
 have e1:q*(sumN n λj=>am j*g j)=sumN n λj=>am j*(q*g j):=by
  rw[<-sumN_mul]
  exact sumN_congr λj _=>qaD _ _ _
 have e2:(sumN n λj=>am j*(q*g j))<=sumN n λj=>am j*sumN m λr=>A j r*pr r:=sumN_le λj hj=>qbj (cols j hj) (am0 j hj)
 have e3:(sumN n λj=>am j*sumN m λr=>A j r*pr r)=sumN m λr=>pr r*sumN n λj=>am j*A j r:=by
  have:(sumN n λj=>am j*sumN m λr=>A j r*pr r)=sumN n λj=>sumN m λr=>pr r*(am j*A j r):=sumN_congr λj _=>by
   rw[<-sumN_mul]
   exact sumN_congr λr _=>by rw[<-qaZ,qaz]
  rw[this,sumN_swap]
  exact sumN_congr λr _=>sumN_mul _ _ _
 have e4:(sumN m λr=>pr r*sumN n λj=>am j*A j r)<=sumN m λr=>pr r*(p*b r):=sumN_le λr hr=>qbj (rows r hr) (pr0 r hr)
 have e5:(sumN m λr=>pr r*(p*b r))=p*sumN m λr=>b r*pr r:=by
  rw[<-sumN_mul]
  exact sumN_congr λr _=>by rw[qaD,qaz (pr r)]
 omega
variable {P:Pb}{S:Tb}
def lineV (P:Pb) (f:Nat) (d:Nat->Int):Int:=if f<P.n then d f else sumN P.n λj=>d j*P.A j (f - P.n)
def zV (P:Pb) (d:Nat->Int) (f:Nat):Int:=if f<P.n then d f else - lineV P f d
theorem zV_sum (hn:Named P S) (hA:∀ k,k<P.n+P.m->∀ t,P.m<=t->P.A k t=0) (d:Nat->Int) (t:Nat):(sumN (P.n+P.m) λk=>zV P d k*P.A k t)=0:=by
 by_cases ht:t<P.m
 ·rw[sumN_append,sumN_congr (n:=P.m) (g:=λk=>zV P d (P.n+k)*unit k t) λk hk=>by rw[hn.one k hk],unit_sum (v:=λk=>zV P d (P.n+k)) ht]
  have e:zV P d (P.n+t)=- sumN P.n λj=>d j*P.A j t:=by
   unfold zV lineV
   rw[if_neg (by omega),if_neg (by omega),qcE]
  rw[e,sumN_congr (g:=λk=>d k*P.A k t) λk hk=>by unfold zV;rw[if_pos hk]]
  omega
 ·rw[sumN_congr (g:=λ_=>0) λk hk=>by rw[hA k hk t (by omega),qas],sumN_zero]
theorem kept_inj (h:Good P S) {i j:Nat} (hi:i<P.m) (hj:j<P.m) (e:S.kept i=S.kept j):i=j:=by
 by_cases q:i=j
 ·exact q
 ·have h1:=det_kept h hi hj
  have h2:=det_kept h hj hj
  rw[if_neg q]at h1
  rw[if_pos rfl]at h2
  have h3:=det_kept h hi hi
  rw[if_pos rfl]at h3
  have eb:basis P S i=basis P S j:=by unfold basis;rw[e]
  rw[eb,h1]at h3
  have:=h.pos
  omega
theorem indep (h:Good P S) (hn:Named P S) (hA:∀ k,k<P.n+P.m->∀ t,P.m<=t->P.A k t=0) {d:Nat->Int} (hd:∀ f,f<P.n+P.m->(∀ i,i<P.m->S.kept i≠f)->lineV P f d=0):∀ k,k<P.n->d k=0:=by
 have hz:∀ f,f<P.n+P.m->(∀ i,i<P.m->S.kept i≠f)->zV P d f=0:=λf hf hk=>by
  have h1:=hd f hf hk
  unfold zV
  by_cases q:f<P.n
  ·rw[if_pos q];unfold lineV at h1;rw[if_pos q]at h1;exact h1
  ·rw[if_neg q,h1];rfl
 have hb:∀ k,k<P.n+P.m->byName P S (λi=>zV P d (S.kept i)) k=zV P d k:=λk hk=>by
  by_cases q:∃ i,i<P.m/\S.kept i=k
  ·obtain⟨i,hi,rfl⟩:=q
   exact byName_at (λa b ha hb e=>kept_inj h ha hb e) hi
  ·rw[hz k hk λi hi e=>q ⟨i,hi,e⟩]
   exact byName_not λi hi e=>q ⟨i,hi,e⟩
 have hs:∀ t,(1:Int)*(λ_=>0:Vec) t=sumN P.m λi=>zV P d (S.kept i)*basis P S i t:=λt=>by
  have e1:=byName_sum (P:=P) S (λi=>zV P d (S.kept i)) (N:=P.n+P.m) hn.bound.2 λk=>P.A k t
  rw[sumN_congr (g:=λk=>zV P d k*P.A k t) λk hk=>by rw[hb k hk],zV_sum hn hA]at e1
  rw[qbQ]
  exact e1
 have h0:∀ i,i<P.m->zV P d (S.kept i)=0:=λi hi=>by
  have e:=cramer (basis P S) (λ_=>0) 1 (λi=>zV P d (S.kept i)) hs hi
  rw[det_zero _ hi,qas,<-h.dt]at e
  rcases qcd.mp e.symm with q|q
  ·exact q
  ·have:=h.pos;omega
 intro k hk
 have e1:zV P d k=d k:=if_pos hk
 rw[<-e1,<-hb k (by omega)]
 unfold byName
 rw[sumN_congr (n:=P.m) (g:=λ_=>0) λi hi=>by
  show (if S.kept i=k then zV P d (S.kept i) else 0)=0
  rw[h0 i hi];split<;>rfl,sumN_zero]
theorem tight (h:Good P S) (hn:Named P S) {f:Nat} (hf:f<P.n+P.m) (hk:∀ i,i<P.m->S.kept i≠f):if f<P.n then byName P S (λi=>S.T i P.n) f=0 else (sumN P.n λj=>byName P S (λi=>S.T i P.n) j*P.A j (f - P.n))=S.p*P.b (f - P.n):=by
 have h0:byName P S (λi=>S.T i P.n) f=0:=byName_not hk
 by_cases q:f<P.n
 ·rw[if_pos q];exact h0
 ·rw[if_neg q]
  obtain⟨r,rfl⟩:∃ r,f=P.n+r:=⟨f - P.n,by omega⟩
  have hr:r<P.m:=by omega
  rw[qcE]
  have e1:=h.eq P.n (qal _) r
  have c1:colV P S P.n=P.b:=by unfold colV;rw[if_neg (qaR _)]
  rw[c1]at e1
  have e2:=byName_sum (P:=P) S (λi=>S.T i P.n) (N:=P.n+P.m) hn.bound.2 λk=>P.A k r
  rw[<-e1,sumN_append,sumN_congr (n:=P.m) (g:=λk=>byName P S (λi=>S.T i P.n) (P.n+k)*unit k r) λk hk=>by rw[hn.one k hk],unit_sum (v:=λk=>byName P S (λi=>S.T i P.n) (P.n+k)) hr,h0,qcQ]at e2
  exact e2
theorem tight_way (h:Good P S) (hn:Named P S) {e:Nat} (he:e<P.n) {f:Nat} (hf:f<P.n+P.m):lineV P f (wayN P S e)=if f<P.n then wayN P S e f else - wayN P S e f:=by
 unfold lineV
 by_cases q:f<P.n
 ·rw[if_pos q,if_pos q]
 ·rw[if_neg q,if_neg q]
  obtain⟨r,rfl⟩:∃ r,f=P.n+r:=⟨f - P.n,by omega⟩
  have hr:r<P.m:=by omega
  rw[qcE]
  have e1:=way_sum (S:=S) hn he λk=>P.A k r
  have e2:=h.eq e (by omega) r
  have c1:colV P S e=P.A (S.free e):=by unfold colV;rw[if_pos he]
  rw[c1]at e2
  rw[e2,qfg,sumN_append,sumN_congr (n:=P.m) (g:=λk=>wayN P S e (P.n+k)*unit k r) λk hk=>by rw[hn.one k hk],unit_sum (v:=λk=>wayN P S e (P.n+k)) hr]at e1
  omega
def e0:Nat->Int:=λj=>if j=0 then 1 else 0
def e1:Nat->Int:=λj=>if j=0 then 0 else 1
theorem line2 (h2:P.n=2) {f:Nat} (d:Nat->Int):lineV P f d=d 0*lineV P f e0+d 1*lineV P f e1:=by
 unfold lineV
 rw[h2]
 by_cases q:f<2
 ·rw[if_pos q,if_pos q,if_pos q]
  have:f=0\/f=1:=by omega
  rcases this with rfl|rfl
  ·show d 0=d 0*1+d 1*0;omega
  ·show d 1=d 0*0+d 1*1;omega
 ·rw[if_neg q,if_neg q,if_neg q]
  show 0+d 0*_+d 1*_=d 0*(0+1*_+0*_)+d 1*(0+0*_+1*_)
  simp only[qdy,qbQ,qbJ,qcQ]
theorem meet (h2:P.n=2) (h:Good P S) (hn:Named P S) (hA:∀ k,k<P.n+P.m->∀ t,P.m<=t->P.A k t=0):∃ f g,f<P.n+P.m/\g<P.n+P.m/\(∀ i,i<P.m->S.kept i≠f)/\(∀ i,i<P.m->S.kept i≠g)/\lineV P f e0*lineV P g e1 - lineV P f e1*lineV P g e0≠0:=by
 have key:∀ d:Nat->Int,(d 0≠0\/d 1≠0)->∃ f,f<P.n+P.m/\(∀ i,i<P.m->S.kept i≠f)/\lineV P f d≠0:=λd hd=>by
  by_cases q:∃ f,f<P.n+P.m/\(∀ i,i<P.m->S.kept i≠f)/\lineV P f d≠0
  ·exact q
  ·exfalso
   have:=indep h hn hA (d:=d) λf hf hk=>by
    by_cases z:lineV P f d=0
    ·exact z
    ·exact absurd ⟨f,hf,hk,z⟩ q
   have a:=this 0 (by omega)
   have b:=this 1 (by omega)
   omega
 obtain⟨f,hf,kf,vf⟩:=key e0 (.inl (by decide))
 obtain⟨g,hg,kg,vg⟩:=key (λj=>if j=0 then lineV P f e1 else - lineV P f e0) (.inr (by show - lineV P f e0≠0;omega))
 refine⟨f,g,hf,hg,kf,kg,λz=>vg ?_⟩
 rw[line2 h2]
 show lineV P f e1*lineV P g e0+- lineV P f e0*lineV P g e1=0
 rw[qbR]
 omega
theorem along (h2:P.n=2) (h:Good P S) (hn:Named P S) (hA:∀ k,k<P.n+P.m->∀ t,P.m<=t->P.A k t=0) {e:Nat} (he:e<P.n) (ht:∀ i,i<P.m->S.T i e<=0):∃ f,f<P.n+P.m/\(lineV P f e0≠0\/lineV P f e1≠0)/\lineV P f (wayN P S e)=0:=by
 have hp:=h.pos
 by_cases q:∃ f,f<P.n+P.m/\(lineV P f e0≠0\/lineV P f e1≠0)/\lineV P f (wayN P S e)=0
 ·exact q
 ·exfalso
  have hfe:=hn.bound.1 e he
  have hw0:∀ f,f<P.n+P.m->(∀ i,i<P.m->S.kept i≠f)->f≠S.free e->lineV P f (wayN P S e)=0:=λf hf hk hne=>by
   have:wayN P S e f=0:=by
    unfold wayN
    rw[byName_not hk,if_neg (qbo hne)];rfl
   rw[tight_way h hn he hf,this];split<;>rfl
  have hL:lineV P (S.free e) (wayN P S e)≠0:=by
   have:0<wayN P S e (S.free e):=by
    unfold wayN
    have:=byName_nonneg (P:=P) (S:=S) (y:=λi=>- S.T i e) (λi hi=>by have:=ht i hi;show 0<=- S.T i e;omega) (S.free e)
    rw[if_pos rfl];omega
   rw[tight_way h hn he hfe];split<;>omega
  have key:∀ d:Nat->Int,∀ k,k<P.n->lineV P (S.free e) (wayN P S e)*d k - lineV P (S.free e) d*wayN P S e k=0:=λd=>by
   refine indep h hn hA (d:=λk=>lineV P (S.free e) (wayN P S e)*d k - lineV P (S.free e) d*wayN P S e k) λf hf hk=>?_
   by_cases z:f=S.free e
   ·subst z
    rw[line2 h2]
    have a1:=line2 h2 (f:=S.free e) (wayN P S e)
    have a2:=line2 h2 (f:=S.free e) d
    generalize lineV P (S.free e) (wayN P S e)=X at *
    generalize lineV P (S.free e) d=Y at *
    generalize lineV P (S.free e) e0=U at *
    generalize lineV P (S.free e) e1=V at *
    rw[qdX,qdX,qaZ,qaZ,qaZ,qaZ]
    have e1:X*(d 0*U)+X*(d 1*V)=X*Y:=by rw[<-qbM,<-a2]
    have e2:Y*(wayN P S e 0*U)+Y*(wayN P S e 1*V)=Y*X:=by rw[<-qbM,<-a1]
    have e3:=qaz X Y
    omega
   ·have n0:lineV P f e0=0/\lineV P f e1=0:=by
     by_cases z0:lineV P f e0=0
     ·by_cases z1:lineV P f e1=0
      ·exact⟨z0,z1⟩
      ·exact absurd ⟨f,hf,.inr z1,hw0 f hf hk z⟩ q
     ·exact absurd ⟨f,hf,.inl z0,hw0 f hf hk z⟩ q
    rw[line2 h2,n0.1,n0.2,qas,qas];rfl
  have a:=key e0 0 (by omega)
  have b:=key e0 1 (by omega)
  have c:=key e1 0 (by omega)
  have d:=key e1 1 (by omega)
  have z0:e0 0=1:=rfl
  have z1:e0 1=0:=rfl
  have z2:e1 0=0:=rfl
  have z3:e1 1=1:=rfl
  rw[z0,qb4]at a
  rw[z1,qas]at b
  rw[z2,qas]at c
  rw[z3,qb4]at d
  have b':lineV P (S.free e) e0*wayN P S e 1=0:=by omega
  have c':lineV P (S.free e) e1*wayN P S e 0=0:=by omega
  rcases qcd.mp b' with y|y
  ·rw[y,qbJ]at a;omega
  ·rw[y,qas]at d;omega
end Sx
set_option maxHeartbeats 1000000
namespace Own
open PySem L2
open Sx (Pb Tb Good Named Fe LV ZV piv lexP leastR leaveL sumN unit colV basis)
def lnA (m:Nat) (R:Nat->Nat->Int) (i:Nat):Int:=if i<m then R i 0 else if i=m then -1 else 0
def lnB (m:Nat) (R:Nat->Nat->Int) (i:Nat):Int:=if i<m then R i 1 else if i=m then 0 else -1
def lnC (m:Nat) (b:Nat->Int) (i:Nat):Int:=if i<m then b i else 0
section
variable {m:Nat}{R:Nat->Nat->Int}{b g:Nat->Int}
theorem ko (f:Nat->Int):sumN 2 f=f 0+f 1:=by show 0+f 0+f 1=_;lia
theorem pbA (hr:r<m) (hj:j<2):(bZ m 2 R b g).A j r=R r j:=by
 show (if j<2 then (if r<m then R r j else 0) else _)=_
 rw[if_pos hj,if_pos hr]
theorem pbb (hr:r<m):(bZ m 2 R b g).b r=b r:=by show (if r<m then _ else _)=_;rw[if_pos hr]
theorem kl (x:Nat->Int) {r:Nat} (hr:r<m):(sumN 2 λj=>x j*(bZ m 2 R b g).A j r)=lnA m R r*x 0+lnB m R r*x 1:=by
 rw[ko,pbA hr (by decide),pbA hr (by decide)]
 unfold lnA lnB
 rw[if_pos hr,if_pos hr,qaz,qaz (x 1)]
theorem eF (x y:Int):lnA m R m*x+lnB m R m*y=- x/\lnA m R (m+1)*x+lnB m R (m+1)*y=- y:=by
 have e1:lnA m R m=-1:=by unfold lnA;rw[if_neg (by lia),if_pos rfl]
 have e2:lnB m R m=0:=by unfold lnB;rw[if_neg (by lia),if_pos rfl]
 have e3:lnA m R (m+1)=0:=by unfold lnA;rw[if_neg (by lia),if_neg (by lia)]
 have e4:lnB m R (m+1)=-1:=by unfold lnB;rw[if_neg (by lia),if_neg (by lia)]
 rw[e1,e2,e3,e4];lia
theorem hW:lnC m b m=0/\lnC m b (m+1)=0:=by unfold lnC;rw[if_neg (by lia),if_neg (by lia)];exact⟨rfl,rfl⟩
theorem jG {f:Nat} (hf:f<2+m):∃ i s,i<m+2/\(s=1\/s=-1)/\(∀ x:Nat->Int,lnA m R i*x 0+lnB m R i*x 1=s*Sx.lineV (bZ m 2 R b g) f x)/\lnC m b i=s*(if f<2 then 0 else b (f - 2)):=by
 by_cases q:f<2
 ·have hl:∀ x,Sx.lineV (bZ m 2 R b g) f x=x f:=λx=>if_pos q
  have:f=0\/f=1:=by lia
  rcases this with rfl|rfl
  ·exact⟨m,-1,by lia,.inr rfl,λx=>by rw[hl,(eF _ _).1];lia,by rw[if_pos q,qas];exact hW.1⟩
  ·exact⟨m+1,-1,by lia,.inr rfl,λx=>by rw[hl,(eF _ _).2];lia,by rw[if_pos q,qas];exact hW.2⟩
 ·refine⟨f - 2,1,by lia,.inl rfl,λx=>?_,?_⟩
  ·rw[<-kl (b:=b) (g:=g) x (by lia),qbQ]
   exact (if_neg q).symm
  ·unfold lnC;rw[if_pos (by lia),if_neg q,qbQ]
def Wth (m:Nat) (R:Nat->Nat->Int) (b:Nat->Int) (x y q:Int):Prop:=∀ i,i<m+2->lnA m R i*x+lnB m R i*y<=lnC m b i*q
theorem vq {p:Int}{am pr:Nat->Int} (M:jt (bZ m 2 R b g) p am pr):Wth m R b (am 0) (am 1) p:=λi hi=>by
 by_cases q:i<m
 ·have:(sumN 2 λj=>am j*(bZ m 2 R b g).A j i)<=p*(bZ m 2 R b g).b i:=M.rows i q
  rw[kl am q,pbb q]at this
  unfold lnC;rw[if_pos q,qaz (b i)];exact this
 ·have h0:=M.am0 0 (show 0<2 by decide)
  have h1:=M.am0 1 (show 1<2 by decide)
  have:i=m\/i=m+1:=by lia
  rcases this with rfl|rfl
  ·rw[(eF _ _).1,hW.1];lia
  ·rw[(eF _ _).2,hW.2];lia
theorem nU {p:Int}{am pr:Nat->Int} (M:jt (bZ m 2 R b g) p am pr) {x y q:Int} (h:Wth m R b x y q):p*(g 0*x+g 1*y)<=q*(g 0*am 0+g 1*am 1):=by
 have hx:0<=x:=by have:=h m (by lia);rw[(eF _ _).1,hW.1]at this;lia
 have hy:0<=y:=by have:=h (m+1) (by lia);rw[(eF _ _).2,hW.2]at this;lia
 have w:=Sx.weak (m:=m) (n:=2) (A:=(bZ m 2 R b g).A) (b:=(bZ m 2 R b g).b) (g:=(bZ m 2 R b g).g) (am:=λj=>if j=0 then x else y) (pr:=pr) (p:=q) (q:=p) (λj _=>by show 0<=if j=0 then x else y;split<;>assumption) M.pr0 (λr hr=>by
  rw[kl (λj=>if j=0 then x else y) hr,pbb hr]
  have:=h r (by lia)
  unfold lnC at this
  rw[if_pos hr,qaz (b r)]at this
  exact this) M.cols
 have e:(sumN m λr=>(bZ m 2 R b g).b r*pr r)=sumN 2 λj=>am j*(bZ m 2 R b g).g j:=M.same
 rw[e,ko,ko]at w
 have g0:(bZ m 2 R b g).g 0=g 0:=by show (if (0:Nat)<2 then g 0 else 0)=_;rw[if_pos (by decide)]
 have g1:(bZ m 2 R b g).g 1=g 1:=by show (if (1:Nat)<2 then g 1 else 0)=_;rw[if_pos (by decide)]
 rw[g0,g1]at w
 rw[qaz (g 0) x,qaz (g 1) y,qaz (g 0),qaz (g 1)]
 exact w
theorem wI {s t U V U' V':Int} (hs:s=1\/s=-1) (ht:t=1\/t=-1) (hd:U*V' - V*U'≠0):s*U*(t*V') - s*V*(t*U')≠0:=by
 intro e
 apply hd
 rcases hs with rfl|rfl<;>rcases ht with rfl|rfl<;>grind
theorem wl (h:Inp m 2 R b g) {p:Int}{am pr:Nat->Int} (M:jt (bZ m 2 R b g) p am pr):∃ i j,i<m+2/\j<i/\lnA m R i*lnB m R j - lnB m R i*lnA m R j≠0/\lnA m R i*am 0+lnB m R i*am 1=lnC m b i*p/\lnA m R j*am 0+lnB m R j*am 1=lnC m b j*p:=by
 obtain⟨S,q,gS,nS,q0,ep,ea⟩:=M.cor
 have d:=rF h
 obtain⟨f,f',hf,hf',kf,kf',dn⟩:=Sx.meet (P:=bZ m 2 R b g) rfl gS nS d.hA
 have tt:∀ f,f<2+m->(∀ i,i<m->S.kept i≠f)->Sx.lineV (bZ m 2 R b g) f am=if f<2 then 0 else b (f - 2)*p:=λf hf hk=>by
  have h1:=Sx.tight (P:=bZ m 2 R b g) gS nS hf hk
  have hn2:(bZ m 2 R b g).n=2:=rfl
  unfold Sx.lineV
  rw[hn2]at h1 ⊢
  by_cases z:f<2
  ·rw[if_pos z]at h1 ⊢
   rw[if_pos z]
   rw[hn2]at ea
   rw[<-ea f z]at h1
   rcases qcd.mp h1 with y|y
   ·lia
   ·exact y
  ·rw[if_neg z]at h1 ⊢
   rw[if_neg z]
   rw[hn2]at ea
   have hr:f - 2<m:=by lia
   rw[Sx.sumN_congr (g:=λj=>q*(am j*(bZ m 2 R b g).A j (f - 2))) λj hj=>by rw[<-ea j hj,qaZ],Sx.sumN_mul,ep,pbb hr,qaZ]at h1
   have:=qcq (by lia) h1
   rw[this,qaz]
 obtain⟨i,s,hi,hs,li,ci⟩:=jG (m:=m) (R:=R) (b:=b) (g:=g) (show f<2+m from hf)
 obtain⟨j,t,hj,ht,lj,cj⟩:=jG (m:=m) (R:=R) (b:=b) (g:=g) (show f'<2+m from hf')
 have tie:∀ {i:Nat}{s:Int}{f:Nat},(∀ x:Nat->Int,lnA m R i*x 0+lnB m R i*x 1=s*Sx.lineV (bZ m 2 R b g) f x)->lnC m b i=s*(if f<2 then 0 else b (f - 2))->f<2+m->(∀ i,i<m->S.kept i≠f)->lnA m R i*am 0+lnB m R i*am 1=lnC m b i*p:=λ{i s f} li ci hf kf=>by
  rw[li am,ci,tt f hf kf,qaZ]
  by_cases z:f<2
  ·rw[if_pos z,if_pos z,qbJ]
  ·rw[if_neg z,if_neg z]
 have ti:=tie li ci hf kf
 have tj:=tie lj cj hf' kf'
 have a1:=li Sx.e0
 have a2:=li Sx.e1
 have a3:=lj Sx.e0
 have a4:=lj Sx.e1
 rw[show Sx.e0 0=1 from rfl,show Sx.e0 1=0 from rfl,qb4,qas,qcQ]at a1 a3
 rw[show Sx.e1 0=0 from rfl,show Sx.e1 1=1 from rfl,qb4,qas,qdy]at a2 a4
 have dD:lnA m R i*lnB m R j - lnB m R i*lnA m R j≠0:=by
  rw[a1,a2,a3,a4]
  exact wI hs ht dn
 rcases qfV i j with z|z|z
 ·refine⟨j,i,hj,z,λe=>dD ?_,tj,ti⟩
  rw[qaz (lnA m R i),qaz (lnB m R i)]
  lia
 ·subst z
  exact absurd (by rw[qaz];exact qfg _) dD
 ·exact⟨i,j,hi,z,dD,ti,tj⟩
theorem xK {way:Nat->Int} (M:gX (bZ m 2 R b g) way):Wth m R b (way 0) (way 1) 0/\0<g 0*way 0+g 1*way 1:=by
 refine⟨λi hi=>?_,?_⟩
 ·rw[qas]
  by_cases q:i<m
  ·have:(sumN 2 λj=>way j*(bZ m 2 R b g).A j i)<=0:=M.rows i q
   rw[kl way q]at this
   exact this
  ·have h0:=M.w0 0 (show 0<2 by decide)
   have h1:=M.w0 1 (show 1<2 by decide)
   have:i=m\/i=m+1:=by lia
   rcases this with rfl|rfl
   ·rw[(eF _ _).1];lia
   ·rw[(eF _ _).2];lia
 ·have w:=M.gain
  have e:(sumN (bZ m 2 R b g).n λj=>way j*(bZ m 2 R b g).g j)=way 0*g 0+way 1*g 1:=by
   show sumN 2 (λj=>way j*(bZ m 2 R b g).g j)=_
   rw[ko];rfl
  rw[e]at w
  rw[qaz (g 0),qaz (g 1)]
  exact w
theorem yg (h:Inp m 2 R b g) {way:Nat->Int} (M:gX (bZ m 2 R b g) way):∃ i,i<m+2/\(lnA m R i≠0\/lnB m R i≠0)/\lnA m R i*way 0+lnB m R i*way 1=0:=by
 obtain⟨S,e,q,gS,nS,he,ht,q0,ea⟩:=M.cor
 have d:=rF h
 obtain⟨f,hf,hne,hl⟩:=Sx.along (P:=bZ m 2 R b g) rfl gS nS d.hA he ht
 obtain⟨i,s,hi,hs,li,ci⟩:=jG (m:=m) (R:=R) (b:=b) (g:=g) (show f<2+m from hf)
 have a1:=li Sx.e0
 have a2:=li Sx.e1
 rw[show Sx.e0 0=1 from rfl,show Sx.e0 1=0 from rfl,qb4,qas,qcQ]at a1
 rw[show Sx.e1 0=0 from rfl,show Sx.e1 1=1 from rfl,qb4,qas,qdy]at a2
 refine⟨i,hi,?_,?_⟩
 ·rw[a1,a2]
  rcases hs with rfl|rfl
  ·rw[qbQ,qbQ];exact hne
  ·rw[qbR,qbR,qbQ,qbQ];lia
 ·have hw:s*Sx.lineV (bZ m 2 R b g) f (Sx.wayN (bZ m 2 R b g) S e)=0:=by rw[hl,qas]
  rw[<-li,<-ea 0 (show 0<2 by decide),<-ea 1 (show 1<2 by decide),qaD,qaD (lnB m R i),<-qbM]at hw
  rcases qcd.mp hw with y|y
  ·lia
  ·exact y
theorem za {a b x y:Int} (h:a*x+b*y=0) (hx:0<=x) (hy:0<=y) (hn:a≠0\/b≠0) (hz:x≠0\/y≠0):∃ c d:Int,0<c/\0<d/\((c*b=d*x/\c*(0 - a)=d*y)\/(c*(0 - b)=d*x/\c*a=d*y)):=by
 have f1:(x*x+y*y)*b=(x*b - y*a)*x:=by grind
 have f2:(x*x+y*y)*a=- ((x*b - y*a)*y):=by grind
 have p1:0<=x*x:=qdL hx hx
 have p2:0<=y*y:=qdL hy hy
 have p3:0<x*x+y*y:=by
  rcases hz with w|w
  ·have:=qdo (show 0<x by lia) (show 0<x by lia);lia
  ·have:=qdo (show 0<y by lia) (show 0<y by lia);lia
 generalize x*x+y*y=N at *
 generalize x*b - y*a=s at *
 rcases Int.lt_trichotomy s 0 with z|z|z
 ·exact⟨N,- s,p3,by lia,.inr ⟨by rw[qhA,qdY,f1,qbR],by rw[f2,qbR]⟩⟩
 ·exfalso
  rw[z,qbJ]at f1
  rw[z,qbJ]at f2
  rcases qcd.mp f1 with y1|y1
  ·lia
  ·rcases qcd.mp (show N*a=0 by lia) with y2|y2
   ·lia
   ·lia
 ·exact⟨N,s,p3,z,.inl ⟨f1,by rw[qhA,qdY,f2,Int.neg_neg]⟩⟩
end
end Own
set_option maxHeartbeats 1000000
namespace Own
open PySem L2
open Sx (Pb Tb Good Named Fe LV ZV piv lexP leastR leaveL sumN unit colV basis)
def bU (t:Int×Int×Int):D:=.tup [.int t.1,.int t.2.1,.int t.2.2]
def jF (m:Nat) (R:Nat->Nat->Int) (b:Nat->Int) (i:Nat):Int×Int×Int:=(lnA m R i,lnB m R i,lnC m b i)
def cf (m:Nat) (R:Nat->Nat->Int) (b:Nat->Int):D:=.lst ((qag (m+2)).map λi=>bU (jF m R b i))
section
variable {m:Nat}{R:Nat->Nat->Int}{b g:Nat->Int}
theorem wS (m n:Nat) (R:Nat->Nat->Int) (b:Nat->Int):iS ((qag m).map λi=>D.tup (mpI n (R i))) (mpI m b)=(qag m).map λi=>D.tup [.tup (mpI n (R i)),.int (b i)]:=by
 apply qbZ
 intro i
 rw[gY,qaI,qaI]
 by_cases hi:i<m
 ·rw[d8 hi,qa9 hi];rfl
 ·rw[qa4 (l:=qag m) (by rw[qao];lia)];rfl
theorem rT:((qag (m+2)).map λi=>bU (jF m R b i))=((qag m).map λi=>D.tup [.int (R i 0),.int (R i 1),.int (b i)])++[.tup [.int (-1),.int 0,.int 0],.tup [.int 0,.int (-1),.int 0]]:=by
 rw[qcB,qcB,qbA,qbG]
 have e1:lnA m R m=-1:=by unfold lnA;rw[if_neg (by lia),if_pos rfl]
 have e2:lnB m R m=0:=by unfold lnB;rw[if_neg (by lia),if_pos rfl]
 have e3:lnA m R (m+1)=0:=by unfold lnA;rw[if_neg (by lia),if_neg (by lia)]
 have e4:lnB m R (m+1)=-1:=by unfold lnB;rw[if_neg (by lia),if_neg (by lia)]
 congr 1
 ·refine qct λi hi=>?_
  have hi':=qaB.mp hi
  show D.tup [.int (lnA m R i),.int (lnB m R i),.int (lnC m b i)]=_
  unfold lnA lnB lnC
  rw[if_pos hi',if_pos hi',if_pos hi']
 ·show [D.tup [.int (lnA m R m),.int (lnB m R m),.int (lnC m b m)],D.tup [.int (lnA m R (m+1)),.int (lnB m R (m+1)),.int (lnC m b (m+1))]]=_
  rw[e1,e2,e3,e4,hW.1,hW.2]
theorem t7 {st:Sto} (hm:m<=64):gu [.d (eQ m 2 R),.d (.tup (mpI m b))] st=some (.d (cf m R b),st):=by
 have hz:gN (aa (iV 0) (aa (iV 1) ak)) [some (.d (eQ m 2 R)),some (.d (.tup (mpI m b)))] st=some ((qag m).map λi=>D.tup [.tup (mpI 2 (R i)),.int (b i)],st):=by
  rw[<-wS];rfl
 have hl:lcI (.tp [0,1]) bG ie [none,none] ((qag m).map λi=>D.tup [.tup (mpI 2 (R i)),.int (b i)]) st=some ((qag m).map λi=>D.tup [.int (R i 0),.int (R i 1),.int (b i)],st):=
  sQ (g:=λi=>(D.tup (mpI 2 (R i)),.int (b i))) (λi=>D.tup [.int (R i 0),.int (R i 1),.int (b i)]) λi _=>rfl
 unfold cf
 rw[rT]
 exact bh (n:=2) (k:=2) (b:=eY) rfl (cq (ai (aW (cD hz (by rw[qam,qao];lia) hl)) rfl (iO _ (by rw[qam,qao];show _+2<=_;lia))))
end
def Nb (e:Nat) (z:Int):Prop:=z.natAbs<2^e
theorem Nb.mul {e f:Nat}{a b:Int} (ha:Nb e a) (hb:Nb f b):Nb (e+f) (a*b):=sY ha hb
theorem Nb.add {e:Nat}{a b:Int} (ha:Nb e a) (hb:Nb e b):Nb (e+1) (a+b):=by
 have:=qf5 a b
 unfold Nb at *
 rw[qel]
 generalize 2^e=X at *
 lia
theorem Nb.sub {e:Nat}{a b:Int} (ha:Nb e a) (hb:Nb e b):Nb (e+1) (a - b):=by
 have:=qf4 a b
 unfold Nb at *
 rw[qel]
 generalize 2^e=X at *
 lia
theorem Nb.ok {e f:Nat}{a b:Int} (ha:Nb e a) (hb:Nb f b) (h:e+f<=100000:=by decide):qbm a b:=mulOk e f ha hb (by lia)
theorem Nb.mono {e f:Nat}{a:Int} (ha:Nb e a) (h:e<=f:=by decide):Nb f a:=qaN ha (qfm (by decide) h)
def sj (m:Nat) (R:Nat->Nat->Int) (b:Nat->Int):Prop:=∀ i,i<m+2->Nb 55 (lnA m R i)/\Nb 55 (lnB m R i)/\Nb 55 (lnC m b i)
theorem wB {m:Nat}{R:Nat->Nat->Int}{b g:Nat->Int} (h:Inp m 2 R b g):sj m R b:=λi _=>by
 have p55:(2:Nat)^54<2^55:=by decide
 have s1:(-1:Int).natAbs<2^55:=by decide
 have s0:(0:Int).natAbs<2^55:=by decide
 unfold lnA lnB lnC Nb
 by_cases q:i<m
 ·rw[if_pos q,if_pos q,if_pos q]
  exact⟨qbe (h.R i 0 q (by decide)) p55,qbe (h.R i 1 q (by decide)) p55,qbe (h.b i q).1 p55⟩
 ·rw[if_neg q,if_neg q,if_neg q]
  refine⟨?_,?_,s0⟩<;>split<;>assumption
def lO (m:Nat) (R:Nat->Nat->Int) (b:Nat->Int) (x y q:Int):Bool:=(qag (m+2)).all λi=>decide (lnA m R i*x+lnB m R i*y<=lnC m b i*q)
theorem wr (s:Sto) {α:Type} (f:α->Bool) (ks:List α):so s [.d (.lst (ks.map λk=>D.bl (f k)))]=some (.bl (ks.all f)):=by
 show (jH _).map _=_
 rw[show (ks.map λk=>D.bl (f k))=(ks.map f).map D.bl by rw[qbs];rfl,kI]
 show some (D.bl ((ks.map f).all id))=_
 rw[qgH];rfl
theorem qe {te:Ef}{l:Ev}{st:Sto}{g:Nat->Int×Int×Int} (F:Nat->D):∀ {ks:List Nat},(∀ k∈ks,te (some (.d (.int (g k).1))::some (.d (.int (g k).2.1))::some (.d (.int (g k).2.2))::l) st=some (.d (F k),st))->
  lcI (.tp [0,1,2]) bG te (none::none::none::l) (ks.map λk=>bU (g k)) st=some (ks.map F,st)
 |[],_=>rfl
 |k::ks,h=>by
  have ih:=qe (te:=te) (l:=l) (st:=st) (g:=g) F (ks:=ks) λx hx=>h x (qah _ hx)
  have h1:=h k qae
  rw[qay,qay]
  unfold lcI
  rw[show eG (.tp [0,1,2]) (.d (bU (g k))) (none::none::none::l)=some (some (.d (.int (g k).1))::some (.d (.int (g k).2.1))::some (.d (.int (g k).2.2))::l) from rfl,qaa,show ∀ e:Ev,bG e st=some (true,st) from λ_=>rfl,qaa,if_pos rfl,h1,qaa,ih];rfl
theorem ur {f:Ef}{env:Ev}{st s:Sto}{k:Bool} (h:f env st=some (.d (.bl k),s)):fE gh f env st=some (k,s):=by
 simp only[fE,h,qaa];rfl
theorem zn (s:Sto) (a b:Int):dLe s (.d (.int a)) (.d (.int b))=some (.bl (decide (a<=b))):=rfl
theorem y9 (s:Sto) (a b:Int):bW s (.d (.int a)) (.d (.int b))=some (.int (a+b)):=rfl
theorem qS (s:Sto) (a b:Int):fW s (.d (.int a)) (.d (.int b))=some (.int (a - b)):=rfl
theorem wY {a b:Tf}{env:Ev}{st:Sto}{k j:Bool} (ha:a env st=some (k,st)) (hb:b env st=some (j,st)):iL a b env st=some (k&&j,st):=by
 cases k with
 |true=>simp only[iL,ha,qaa,if_true,hb];rfl
 |false=>simp only[iL,ha,qaa,qbK,if_false];rfl
section
variable {m:Nat}{R:Nat->Nat->Int}{b g:Nat->Int}
theorem i6 {st:Sto}{e f:Nat}{a b x y:Int}{fa fb fx fy:Ef}{env:Ev} (h1:fa env st=some (.d (.int a),st)) (h2:fx env st=some (.d (.int x),st)) (h3:fb env st=some (.d (.int b),st)) (h4:fy env st=some (.d (.int y),st)) (na:Nb e a) (nx:Nb f x) (nb:Nb e b) (ny:Nb f y) (h:e+f<=100000):iOp bW (iOp aO fa fx) (iOp aO fb fy) env st=some (.d (.int (a*x+b*y)),st):=
 ai (ai h1 h2 (ce st (na.ok nx h))) (ai h3 h4 (ce st (nb.ok ny h))) (y9 _ _ _)
theorem mul_sub {st:Sto}{a b x y:Int}{fa fb fx fy:Ef}{env:Ev} (h1:fa env st=some (.d (.int a),st)) (h2:fx env st=some (.d (.int x),st)) (h3:fb env st=some (.d (.int b),st)) (h4:fy env st=some (.d (.int y),st)) (na:Nb 55 a) (nx:Nb 55 x) (nb:Nb 55 b) (ny:Nb 55 y):iOp fW (iOp aO fa fx) (iOp aO fb fy) env st=some (.d (.int (a*x - b*y)),st):=
 ai (ai h1 h2 (ce st (na.ok nx))) (ai h3 h4 (ce st (nb.ok ny))) (qS _ _ _)
theorem vO {st:Sto}{env:Ev}{js:List Nat}{fi:Ef}{x y q:Int} (hL:sj m R b) (hm:m<=64) (hx:Nb 200 x) (hy:Nb 200 y) (hq:Nb 200 q) (hf:fi env st=some (.d (cf m R b),st)) (he:jl 3 js env=[none,none,none,some (.d (.int x)),some (.d (.int y)),some (.d (.int q))]):fE gh (iCB so (aa (aM (iLc 3 js (aL fi) (.tp [0,1,2]) bG du)) ak)) env st=some (lO m R b x y q,st):=by
 have hl:lcI (.tp [0,1,2]) bG du [none,none,none,some (.d (.int x)),some (.d (.int y)),some (.d (.int q))] ((qag (m+2)).map λi=>bU (jF m R b i)) st=some ((qag (m+2)).map λi=>D.bl (decide (lnA m R i*x+lnB m R i*y<=lnC m b i*q)),st):=
  qe (g:=jF m R b) (λi=>D.bl (decide (lnA m R i*x+lnB m R i*y<=lnC m b i*q))) λi hi=>by
   obtain⟨n1,n2,n3⟩:=hL i (qaB.mp hi)
   exact ai (i6 rfl rfl rfl rfl n1 hx n2 hy (by decide)) (ai rfl rfl (ce st (n3.ok hq))) (zn _ _ _)
 rw[<-he]at hl
 exact ur (cO (ah (aW (cD (aV hf) (by rw[qam,qao];lia) hl)) rfl) (wr st _ _))
theorem uJ {st:Sto}{env:Ev}{js:List Nat}{fi:Ef}{x y:Int} (hL:sj m R b) (hm:m<=64) (hx:Nb 200 x) (hy:Nb 200 y) (hf:fi env st=some (.d (cf m R b),st)) (he:jl 3 js env=[none,none,none,some (.d (.int x)),some (.d (.int y))]):fE gh (iCB so (aa (aM (iLc 3 js (aL fi) (.tp [0,1,2]) bG df)) ak)) env st=some (lO m R (λ_=>0) x y 0,st):=by
 have z:∀ i,lnC m (λ_=>0) i*0=0:=λi=>qas _
 have hl:lcI (.tp [0,1,2]) bG df [none,none,none,some (.d (.int x)),some (.d (.int y))] ((qag (m+2)).map λi=>bU (jF m R b i)) st=some ((qag (m+2)).map λi=>D.bl (decide (lnA m R i*x+lnB m R i*y<=lnC m (λ_=>0) i*0)),st):=
  qe (g:=jF m R b) (λi=>D.bl (decide (lnA m R i*x+lnB m R i*y<=lnC m (λ_=>0) i*0))) λi hi=>by
   obtain⟨n1,n2,n3⟩:=hL i (qaB.mp hi)
   rw[z]
   exact ai (i6 rfl rfl rfl rfl n1 hx n2 hy (by decide)) rfl (zn _ _ _)
 rw[<-he]at hl
 exact ur (cO (ah (aW (cD (aV hf) (by rw[qam,qao];lia) hl)) rfl) (wr st _ _))
def sk (m:Nat) (R:Nat->Nat->Int) (i:Nat):List (Int×Int):=[(lnB m R i,0 - lnA m R i),(0 - lnB m R i,lnA m R i)]
def eP (m:Nat) (R:Nat->Nat->Int) (k:Nat):List (Int×Int):=((qag k).map (sk m R)).flatten
def prD (t:Int×Int):D:=.tup [.int t.1,.int t.2]
def lc (m:Nat) (R:Nat->Nat->Int) (g:Nat->Int) (t:Int×Int):Bool:=lO m R (λ_=>0) t.1 t.2 0&&decide (g 0*t.1+g 1*t.2 > 0)
theorem mr (k:Nat):eP m R (k+1)=eP m R k++sk m R k:=by
 unfold eP
 rw[qcB,qbG,qdJ];simp
theorem uv (k:Nat):(eP m R k).length=2*k:=by
 induction k with
 |zero=>rfl
 |succ k ih=>rw[mr,qau,ih];show _+2=_;lia
theorem sS {k:Nat}{t:Int×Int} (h:t∈eP m R k):∃ i,i<k/\t∈sk m R i:=by
 unfold eP at h
 obtain⟨l,hl,ht⟩:=qco.mp h
 obtain⟨i,hi,rfl⟩:=qa7.mp hl
 exact⟨i,qaB.mp hi,ht⟩
theorem oT {k i:Nat}{t:Int×Int} (hi:i<k) (ht:t∈sk m R i):t∈eP m R k:=qco.mpr ⟨_,qa7.mpr ⟨i,qaB.mpr hi,rfl⟩,ht⟩
theorem qK {st:Sto}{gs o2:D} (hL:sj m R b) (hm:m<=64) (g0:∀ s,dIx s (.d gs) (.d (.int 0))=some (.int (g 0))) (g1:∀ s,dIx s (.d gs) (.d (.int 1))=some (.int (g 1))) (n0:Nb 55 (g 0)) (n1:Nb 55 (g 1)) (o3 o4 o5:Option W):∀ (ts:List (Int×Int)) (o6 o7:Option W),(∀ t∈ts,Nb 200 t.1/\Nb 200 t.2)->∃ q6 q7,cC (.tp [6,7]) cr (ts.map prD) [some (.d (cf m R b)),some (.d gs),some (.d o2),o3,o4,o5,o6,o7] st=if ts.any (lc m R g)=true then some (.rt (.d (.bl true)) st) else some (.nx [some (.d (cf m R b)),some (.d gs),some (.d o2),o3,o4,o5,q6,q7] st)
 |[],o6,o7,_=>⟨o6,o7,rfl⟩
 |(x,y)::ts,o6,o7,h=>by
  obtain⟨hx,hy⟩:=h (x,y) qae
  obtain⟨q6,q7,ih⟩:=qK (st:=st) (o2:=o2) hL hm g0 g1 n0 n1 o3 o4 o5 ts (some (.d (.int x))) (some (.d (.int y))) λt ht=>h t (qah _ ht)
  have c1:=uJ (st:=st) (env:=[some (.d (cf m R b)),some (.d gs),some (.d o2),o3,o4,o5,some (.d (.int x)),some (.d (.int y))]) (js:=[6,7]) (fi:=iV 0) hL hm hx hy rfl rfl
  have c2:bm dGt (iOp bW (iOp aO (iOp dIx (iV 1) (iC (.int 0))) (iV 6)) (iOp aO (iOp dIx (iV 1) (iC (.int 1))) (iV 7))) (iC (.int 0)) [some (.d (cf m R b)),some (.d gs),some (.d o2),o3,o4,o5,some (.d (.int x)),some (.d (.int y))] st=some (decide (g 0*x+g 1*y > 0),st):=bf (i6 (ai rfl rfl (g0 _)) rfl (ai rfl rfl (g1 _)) rfl n0 hx n1 hy (by decide)) rfl (rJ _ _ _)
  have c3:=wY c1 c2
  refine⟨q6,q7,?_⟩
  rw[qay,qcU]
  have hs:eG (.tp [6,7]) (.d (prD (x,y))) [some (.d (cf m R b)),some (.d gs),some (.d o2),o3,o4,o5,o6,o7]=some [some (.d (cf m R b)),some (.d gs),some (.d o2),o3,o4,o5,some (.d (.int x)),some (.d (.int y))]:=rfl
  have hw:(lO m R (λ_=>0) x y 0&&decide (g 0*x+g 1*y > 0))=lc m R g (x,y):=rfl
  rw[hw]at c3
  cases hc:lc m R g (x,y) with
  |true=>
   rw[hc]at c3
   have hb:cr [some (.d (cf m R b)),some (.d gs),some (.d o2),o3,o4,o5,some (.d (.int x)),some (.d (.int y))] st=some (.rt (.d (.bl true)) st):=eK c3 rfl
   rw[Bool.true_or,if_pos rfl]
   simp only[cC,hs,qaa,hb]
  |false=>
   rw[hc]at c3
   have hb:cr [some (.d (cf m R b)),some (.d gs),some (.d o2),o3,o4,o5,some (.d (.int x)),some (.d (.int y))] st=some (.nx [some (.d (cf m R b)),some (.d gs),some (.d o2),o3,o4,o5,some (.d (.int x)),some (.d (.int y))] st):=cS c3 rfl
   rw[Bool.false_or,<-ih]
   simp only[cC,hs,qaa,hb]
theorem rX {st:Sto}{gs:D} (hL:sj m R b) (hm:m<=64) (g0:∀ s,dIx s (.d gs) (.d (.int 0))=some (.int (g 0))) (g1:∀ s,dIx s (.d gs) (.d (.int 1))=some (.int (g 1))) (n0:Nb 55 (g 0)) (n1:Nb 55 (g 1)):d5 [.d (cf m R b),.d gs] st=some (.d (.bl ((eP m R (m+2)).any (lc m R g))),st):=by
 obtain⟨env',s1,e1,⟨o3,o4,o5,rfl⟩,rfl⟩:=dB (g:=.tp [3,4,5]) (body:=fC) (ds:=(qag (m+2)).map λi=>bU (jF m R b i))
  (λi env s=>(∃ o3 o4 o5,env=[some (.d (cf m R b)),some (.d gs),some (.d (.lst ((eP m R i).map prD))),o3,o4,o5,none,none])/\s=st)
  (env:=[some (.d (cf m R b)),some (.d gs),some (.d (.lst [])),none,none,none,none,none]) (st:=st) ⟨⟨_,_,_,rfl⟩,rfl⟩ (λi d env s hd ⟨⟨o3,o4,o5,e0⟩,es⟩=>by
   subst e0 es
   have hi:i<m+2:=by have:=(qan.mp hd).1;rwa [qam,qao]at this
   rw[qaI,qa9 hi]at hd
   cases hd
   refine⟨_,[some (.d (cf m R b)),some (.d gs),some (.d (.lst ((eP m R (i+1)).map prD))),some (.d (.int (lnA m R i))),some (.d (.int (lnB m R i))),some (.d (.int (lnC m b i))),none,none],s,rfl,.inl ?_,⟨_,_,_,rfl⟩,rfl⟩
   rw[mr,qbG]
   exact ax (ai rfl (y:=.d (.lst ((sk m R i).map prD))) rfl (iO _ (by rw[qam,qam,uv];show _+2<=_;lia))))
 rw[qam,qao]at e1
 obtain⟨q6,q7,e2⟩:=qK (st:=s1) (o2:=.lst ((eP m R (m+2)).map prD)) hL hm g0 g1 n0 n1 o3 o4 o5 (eP m R (m+2)) none none (λt ht=>by
  obtain⟨i,hi,ht⟩:=sS ht
  obtain⟨a1,a2,_⟩:=hL i hi
  have z:Nb 55 0:=by show (0:Int).natAbs<2^55;decide
  unfold sk at ht
  rcases qaH.mp ht with rfl|ht
  ·exact⟨a2.mono,(z.sub a1).mono⟩
  ·rw[qaj.mp ht];exact⟨(z.sub a2).mono,a1.mono⟩)
 have s0:aD (.nm 2) (aM (cQ ak)) [some (.d (cf m R b)),some (.d gs),none,none,none,none,none,none] s1=some (.nx [some (.d (cf m R b)),some (.d gs),some (.d (.lst [])),none,none,none,none,none] s1):=rfl
 cases hc:(eP m R (m+2)).any (lc m R g) with
 |true=>
  rw[hc,if_pos rfl]at e2
  exact bh (n:=8) (k:=2) (b:=cg) rfl (ar s0 (ar (bI (aV rfl) e1) (jj (bI (aV rfl) e2))))
 |false=>
  rw[hc,if_neg (by decide)]at e2
  exact bh (n:=8) (k:=2) (b:=cg) rfl (ar s0 (ar (bI (aV rfl) e1) (ar (bI (aV rfl) e2) rfl)))
end
end Own
set_option maxHeartbeats 1000000
namespace Own
open PySem L2
open Sx (Pb Tb Good Named Fe LV ZV piv lexP leastR leaveL sumN unit colV basis)
def jA (u v:Int×Int×Int):List (Int×Int×Int):=
 if u.1*v.2.1 - u.2.1*v.1 > 0 then [(u.2.2*v.2.1 - u.2.1*v.2.2,u.1*v.2.2 - u.2.2*v.1,u.1*v.2.1 - u.2.1*v.1)]
 else if u.1*v.2.1 - u.2.1*v.1<0 then [(u.2.1*v.2.2 - u.2.2*v.2.1,u.2.2*v.1 - u.1*v.2.2,0 - (u.1*v.2.1 - u.2.1*v.1))] else []
def nH (F:Nat->Int×Int×Int) (i j:Nat):List (Int×Int×Int):=((qag j).map λk=>jA (F i) (F k)).flatten
def iN (F:Nat->Int×Int×Int) (k:Nat):List (Int×Int×Int):=((qag k).map λi=>nH F i i).flatten
section
variable {F:Nat->Int×Int×Int}
theorem ij {α:Type} (f:Nat->List α) (k:Nat):((qag (k+1)).map f).flatten=((qag k).map f).flatten++f k:=by
 rw[qcB,qbG,qdJ];simp
theorem sV (i j:Nat):nH F i (j+1)=nH F i j++jA (F i) (F j):=ij _ _
theorem um (i:Nat):iN F (i+1)=iN F i++nH F i i:=ij _ _
theorem vk (u v:Int×Int×Int):(jA u v).length<=1:=by
 unfold jA
 split
 ·exact qal _
 ·split
  ·exact qal _
  ·exact qcL _
theorem qF (i j:Nat):(nH F i j).length<=j:=by
 unfold nH
 induction j with
 |zero=>exact qal _
 |succ j ih=>rw[ij,qau];have:=vk (F i) (F j);lia
theorem vC (k:Nat) (hk:k<=100):(iN F k).length<=100*k:=by
 unfold iN
 induction k with
 |zero=>exact qal _
 |succ k ih=>rw[ij,qau];have:=qF (F:=F) k k;have:=ih (by lia);lia
theorem vh {k:Nat}{t:Int×Int×Int} (h:t∈iN F k):∃ i j,i<k/\j<i/\t∈jA (F i) (F j):=by
 obtain⟨l,hl,ht⟩:=qco.mp h
 obtain⟨i,hi,rfl⟩:=qa7.mp hl
 obtain⟨l,hl,ht⟩:=qco.mp ht
 obtain⟨j,hj,rfl⟩:=qa7.mp hl
 exact⟨i,j,qaB.mp hi,qaB.mp hj,ht⟩
theorem vn {k i j:Nat}{t:Int×Int×Int} (hi:i<k) (hj:j<i) (ht:t∈jA (F i) (F j)):t∈iN F k:=
 qco.mpr ⟨_,qa7.mpr ⟨i,qaB.mpr hi,rfl⟩,qco.mpr ⟨_,qa7.mpr ⟨j,qaB.mpr hj,rfl⟩,ht⟩⟩
end
theorem pE (st:Sto) (xs:List D):lg (st++[.l xs]) st.length=some xs:=by
 unfold lg;rw[qaJ (qal _),qdw];rfl
theorem v5 (F:Nat->D) (n:Nat):gF 0 ((qag n).map F)=(qag n).map λi:Nat=>D.tup [.int ((i:Nat):Int),F i]:=by
 apply qbZ
 intro i
 rw[ik,qaI,qaI]
 by_cases hi:i<n
 ·rw[qa9 hi,qar,qar,qar,qbI]
 ·rw[qa4 (l:=qag n) (by rw[qao];lia)];rfl
def T3 (F:Nat->Int×Int×Int) (n:Nat):Prop:=∀ i,i<n->Nb 55 (F i).1/\Nb 55 (F i).2.1/\Nb 55 (F i).2.2
section
variable {F:Nat->Int×Int×Int}{n:Nat}{lin:D}{st:Sto}
theorem uQ {u v:Int×Int×Int}{k:Int}{cs:List (Int×Int×Int)}{o9:Option W} (hu:Nb 55 u.1/\Nb 55 u.2.1/\Nb 55 u.2.2) (hv:Nb 55 v.1/\Nb 55 v.2.1/\Nb 55 v.2.2) (hl:cs.length<=100000):∃ q9,dY [some (.d lin),some (.h st.length),some (.d (.int k)),some (.d (.int u.1)),some (.d (.int u.2.1)),some (.d (.int u.2.2)),some (.d (.int v.1)),some (.d (.int v.2.1)),some (.d (.int v.2.2)),o9] (st++[.l (cs.map bU)])=some (.nx [some (.d lin),some (.h st.length),some (.d (.int k)),some (.d (.int u.1)),some (.d (.int u.2.1)),some (.d (.int u.2.2)),some (.d (.int v.1)),some (.d (.int v.2.1)),some (.d (.int v.2.2)),q9] (st++[.l ((cs++jA u v).map bU)])):=by
 obtain⟨a,b,c⟩:=u
 obtain⟨d,e,g⟩:=v
 obtain⟨na,nb,nc⟩:=hu
 obtain⟨nd,ne,ng⟩:=hv
 dsimp only at na nb nc nd ne ng ⊢
 have e9:iOp fW (iOp aO (iV 3) (iV 7)) (iOp aO (iV 4) (iV 6)) [some (.d lin),some (.h st.length),some (.d (.int k)),some (.d (.int a)),some (.d (.int b)),some (.d (.int c)),some (.d (.int d)),some (.d (.int e)),some (.d (.int g)),o9] (st++[.l (cs.map bU)])=some (.d (.int (a*e - b*d)),st++[.l (cs.map bU)]):=mul_sub rfl rfl rfl rfl na ne nb nd
 have hD:∃ D:Int,a*e - b*d=D:=⟨_,rfl⟩
 obtain⟨D,hD⟩:=hD
 rw[hD]at e9
 have c1:∀ s,bm dGt (iV 9) (iC (.int 0)) [some (.d lin),some (.h st.length),some (.d (.int k)),some (.d (.int a)),some (.d (.int b)),some (.d (.int c)),some (.d (.int d)),some (.d (.int e)),some (.d (.int g)),some (.d (.int D))] s=some (decide (D > 0),s):=λs=>bf rfl rfl (rJ _ _ _)
 have c2:∀ s,bm dLt (iV 9) (iC (.int 0)) [some (.d lin),some (.h st.length),some (.d (.int k)),some (.d (.int a)),some (.d (.int b)),some (.d (.int c)),some (.d (.int d)),some (.d (.int e)),some (.d (.int g)),some (.d (.int D))] s=some (decide (D<0),s):=λs=>bf rfl rfl (sC _ _ _)
 have ap:∀ {x:Ef}{t:Int×Int×Int},x [some (.d lin),some (.h st.length),some (.d (.int k)),some (.d (.int a)),some (.d (.int b)),some (.d (.int c)),some (.d (.int d)),some (.d (.int e)),some (.d (.int g)),some (.d (.int D))] (st++[.l (cs.map bU)])=some (.d (bU t),st++[.l (cs.map bU)])->gD (iJ eA (iV 1) (aa x ak)) [some (.d lin),some (.h st.length),some (.d (.int k)),some (.d (.int a)),some (.d (.int b)),some (.d (.int c)),some (.d (.int d)),some (.d (.int e)),some (.d (.int g)),some (.d (.int D))] (st++[.l (cs.map bU)])=some (.nx [some (.d lin),some (.h st.length),some (.d (.int k)),some (.d (.int a)),some (.d (.int b)),some (.d (.int c)),some (.d (.int d)),some (.d (.int e)),some (.d (.int g)),some (.d (.int D))] (st++[.l ((cs++[t]).map bU)])):=λ{x t} hx=>by
  have:=yp (o:=iV 1) (n:=st.length) rfl hx (pE st _) (pE st _) (by rw[qam];lia)
  rw[kZ]at this
  rw[qbG]
  exact this
 refine⟨some (.d (.int D)),?_⟩
 have hcor:jA (a,b,c) (d,e,g)=if D > 0 then [(c*e - b*g,a*g - c*d,D)] else if D<0 then [(b*g - c*e,c*d - a*g,0 - D)] else []:=by
  unfold jA;dsimp only;rw[hD]
 rw[hcor]
 by_cases p1:D > 0
 ·have c1':=c1 (st++[.l (cs.map bU)])
  have c2':=c2 (st++[.l ((cs++[(c*e - b*g,a*g - c*d,D)]).map bU)])
  rw[decide_eq_true p1]at c1'
  rw[decide_eq_false (by lia)]at c2'
  rw[if_pos p1]
  exact ar (ax e9) (ar (eK c1' (ap (pN (ah (mul_sub rfl rfl rfl rfl nc ne nb ng) (ah (mul_sub rfl rfl rfl rfl na ng nc nd) (ah rfl rfl))) rfl (by show 3<=1000;decide)))) (cS c2' rfl))
 ·have c1':=c1 (st++[.l (cs.map bU)])
  rw[decide_eq_false p1]at c1'
  rw[if_neg p1]
  have c2':=c2 (st++[.l (cs.map bU)])
  by_cases p2:D<0
  ·rw[decide_eq_true p2]at c2'
   rw[if_pos p2]
   exact ar (ax e9) (ar (cS c1' rfl) (eK c2' (ap (pN (ah (mul_sub rfl rfl rfl rfl nb ng nc ne) (ah (mul_sub rfl rfl rfl rfl nc nd na ng) (ah (ai rfl rfl (qS _ _ _)) rfl))) rfl (by show 3<=1000;decide)))))
  ·rw[decide_eq_false p2]at c2'
   rw[if_neg p2,qbw]
   exact ar (ax e9) (ar (cS c1' rfl) (cS c2' rfl))
theorem qv (hF:T3 F n) (hn:n<=100):dI [.d (.lst ((qag n).map λi=>bU (F i)))] st=some (.d (.lst ((iN F n).map bU)),st):=by
 obtain⟨lin,hlin⟩:∃ lin,D.lst ((qag n).map λi=>bU (F i))=lin:=⟨_,rfl⟩
 rw[hlin]
 have sl:∀ (k:Nat) (o1 o3 o4 o5 o6 o7 o8 o9:Option W) s,k<=n->aL (iSl (iV 0) iPn (iPs (iV 2))) [some (.d lin),o1,some (.d (.int (k:Int))),o3,o4,o5,o6,o7,o8,o9] s=some ((qag k).map λi=>bU (F i),s):=λk o1 o3 o4 o5 o6 o7 o8 o9 s hk=>by
  subst hlin
  have h1:iPn [some (.d (D.lst ((qag n).map λi=>bU (F i)))),o1,some (.d (.int (k:Int))),o3,o4,o5,o6,o7,o8,o9] s=some (none,s):=rfl
  have h2:iPs (iV 2) [some (.d (D.lst ((qag n).map λi=>bU (F i)))),o1,some (.d (.int (k:Int))),o3,o4,o5,o6,o7,o8,o9] s=some (some (k:Int),s):=rfl
  have h3:iV 0 [some (.d (D.lst ((qag n).map λi=>bU (F i)))),o1,some (.d (.int (k:Int))),o3,o4,o5,o6,o7,o8,o9] s=some (.d (D.lst ((qag n).map λi=>bU (F i))),s):=rfl
  have hc:j9 ((qag n).map λi=>bU (F i)) none (some (k:Int))=(qag k).map λi=>bU (F i):=by
   unfold j9
   rw[HT.sIx_nat,HT.sIx_none,qgi,qhx,qam,qao,qgg hk,<-List.map_take,List.take_range,qgg hk]
  refine aV ?_
  simp only[iSl,h3,h1,h2,qaa]
  show (some (D.lst (j9 ((qag n).map λi=>bU (F i)) none (some (k:Int))))).map _=_
  rw[hc];rfl
 have en:∀ s,eL (aa (iV 0) ak) [some (.d lin),some (.h st.length),none,none,none,none,none,none,none,none] s=some ((qag n).map λi:Nat=>D.tup [.int ((i:Nat):Int),bU (F i)],s):=λs=>by
  subst hlin
  rw[<-v5];rfl
 obtain⟨env',s1,e1,⟨o2,o3,o4,o5,o6,o7,o8,o9,rfl⟩,rfl⟩:=dB (g:=.tq 2 [3,4,5]) (body:=fZ) (ds:=(qag n).map λi:Nat=>D.tup [.int ((i:Nat):Int),bU (F i)])
  (λi env s=>(∃ o2 o3 o4 o5 o6 o7 o8 o9,env=[some (.d lin),some (.h st.length),o2,o3,o4,o5,o6,o7,o8,o9])/\s=st++[.l ((iN F i).map bU)])
  (env:=[some (.d lin),some (.h st.length),none,none,none,none,none,none,none,none]) (st:=st++[.l []]) ⟨⟨_,_,_,_,_,_,_,_,rfl⟩,rfl⟩ (λi d env s hd ⟨⟨o2,o3,o4,o5,o6,o7,o8,o9,e0⟩,es⟩=>by
   subst e0 es
   have hi:i<n:=by have:=(qan.mp hd).1;rwa [qam,qao]at this
   rw[qaI,qa9 hi]at hd
   cases hd
   obtain⟨env2,s2,e2,⟨q6,q7,q8,q9,rfl⟩,rfl⟩:=dB (g:=.tp [6,7,8]) (body:=dY) (ds:=(qag i).map λj=>bU (F j))
    (λj env s=>(∃ q6 q7 q8 q9,env=[some (.d lin),some (.h st.length),some (.d (.int (i:Int))),some (.d (.int (F i).1)),some (.d (.int (F i).2.1)),some (.d (.int (F i).2.2)),q6,q7,q8,q9])/\s=st++[.l ((iN F i++nH F i j).map bU)])
    (env:=[some (.d lin),some (.h st.length),some (.d (.int (i:Int))),some (.d (.int (F i).1)),some (.d (.int (F i).2.1)),some (.d (.int (F i).2.2)),o6,o7,o8,o9]) (st:=st++[.l ((iN F i).map bU)]) ⟨⟨_,_,_,_,rfl⟩,by rw [show nH F i 0=[] from rfl,qbw]⟩ (λj d env s hd ⟨⟨q6,q7,q8,q9,e0⟩,es⟩=>by
     subst e0 es
     have hj:j<i:=by have:=(qan.mp hd).1;rwa [qam,qao]at this
     rw[qaI,qa9 hj]at hd
     cases hd
     have l1:=vC (F:=F) i (by lia)
     have l2:=qF (F:=F) i j
     obtain⟨z9,ez⟩:=uQ (lin:=lin) (st:=st) (u:=F i) (v:=F j) (k:=(i:Int)) (cs:=iN F i++nH F i j) (o9:=q9) (hF i hi) (hF j (by lia)) (by rw[qau];lia)
     rw[qbA,<-sV]at ez
     exact⟨_,_,_,rfl,.inl ez,⟨_,_,_,_,rfl⟩,rfl⟩)
   rw[qam,qao,<-um]at e2
   exact⟨_,_,_,rfl,.inl (bI (sl i _ _ _ _ _ _ _ _ _ (by lia)) e2),⟨_,_,_,_,_,_,_,_,rfl⟩,rfl⟩)
 rw[qam,qao]at e1
 have hb:ca [some (.d lin),none,none,none,none,none,none,none,none,none] st=some (.rt (.h st.length) (st++[.l ((iN F n).map bU)])):=ar (show aD (.nm 1) (dZ (cQ ak)) [some (.d lin),none,none,none,none,none,none,none,none,none] st=some (.nx [some (.d lin),some (.h st.length),none,none,none,none,none,none,none,none] (st++[.l []])) from rfl) (ar (bI (en _) e1) rfl)
 show hJ 10 1 ca [.d lin] st=_
 simp only[hJ,qaq,qcb,if_true]
 show (ca [some (.d lin),none,none,none,none,none,none,none,none,none] st).bind _=_
 rw[hb,qaa]
 show qu st.length (.h st.length) (st++[.l ((iN F n).map bU)])=_
 unfold qu
 dsimp only
 rw[if_neg (qaR _),pE,qar,List.take_append_of_le_length (qal _),qeo]
end
end Own
set_option maxHeartbeats 1000000
namespace Own
open PySem L2
open Sx (Pb Tb Good Named Fe LV ZV piv lexP leastR leaveL sumN unit colV basis)
section
variable {m:Nat}{R:Nat->Nat->Int}{b g:Nat->Int}
def Tri (m:Nat) (R:Nat->Nat->Int) (b g:Nat->Int) (p G:Int) (t:Int×Int×Int):Prop:=0<t.2.2/\Nb 112 t.1/\Nb 112 t.2.1/\Nb 112 t.2.2/\(lO m R b t.1 t.2.1 t.2.2=true->p*(g 0*t.1+g 1*t.2.1)<=t.2.2*G)
theorem jm {st:Sto}{gs:D}{p G:Int} (hL:sj m R b) (hm:m<=64) (g0:∀ s,dIx s (.d gs) (.d (.int 0))=some (.int (g 0))) (g1:∀ s,dIx s (.d gs) (.d (.int 1))=some (.int (g 1))) (n0:Nb 55 (g 0)) (n1:Nb 55 (g 1)):∀ (ts:List (Int×Int×Int)) (t u:Int) (o3 o4 o5 o6:Option W),(∀ x∈ts,Tri m R b g p G x)->0<u->Nb 200 t->Nb 200 u->p*t<=u*G->
  ∃ t' u' q3 q4 q5 q6,(0<u'/\Nb 200 t'/\Nb 200 u'/\p*t'<=u'*G/\t*u'<=t'*u/\∀ x∈ts,lO m R b x.1 x.2.1 x.2.2=true->(g 0*x.1+g 1*x.2.1)*u'<=t'*x.2.2)/\cC (.tp [3,4,5]) bT (ts.map bU) [some (.d (cf m R b)),some (.d gs),some (.d (prD (t,u))),o3,o4,o5,o6] st=some (.nx [some (.d (cf m R b)),some (.d gs),some (.d (prD (t',u'))),q3,q4,q5,q6] st)
 |[],t,u,o3,o4,o5,o6,_,u0,nt,nu,hp=>⟨t,u,o3,o4,o5,o6,⟨u0,nt,nu,hp,qcv _,λ_ h=>nomatch h⟩,rfl⟩
 |(x,y,q)::ts,t,u,o3,o4,o5,o6,h,u0,nt,nu,hp=>by
  obtain⟨q0,nx,ny,nq,ho⟩:=h (x,y,q) qae
  dsimp only at q0 nx ny nq ho
  have hs:eG (.tp [3,4,5]) (.d (bU (x,y,q))) [some (.d (cf m R b)),some (.d gs),some (.d (prD (t,u))),o3,o4,o5,o6]=some [some (.d (cf m R b)),some (.d gs),some (.d (prD (t,u))),some (.d (.int x)),some (.d (.int y)),some (.d (.int q)),o6]:=rfl
  have c1:=vO (st:=st) (env:=[some (.d (cf m R b)),some (.d gs),some (.d (prD (t,u))),some (.d (.int x)),some (.d (.int y)),some (.d (.int q)),o6]) (js:=[3,4,5]) (fi:=iV 0) (x:=x) (y:=y) (q:=q) hL hm nx.mono ny.mono nq.mono rfl rfl
  cases hw:lO m R b x y q with
  |false=>
   rw[hw]at c1
   obtain⟨t',u',q3,q4,q5,q6,⟨a1,a2,a3,a4,a5,a6⟩,ih⟩:=jm (st:=st) (p:=p) (G:=G) hL hm g0 g1 n0 n1 ts t u (some (.d (.int x))) (some (.d (.int y))) (some (.d (.int q))) o6 (λz hz=>h z (qah _ hz)) u0 nt nu hp
   have hb:bT [some (.d (cf m R b)),some (.d gs),some (.d (prD (t,u))),some (.d (.int x)),some (.d (.int y)),some (.d (.int q)),o6] st=some (.nx [some (.d (cf m R b)),some (.d gs),some (.d (prD (t,u))),some (.d (.int x)),some (.d (.int y)),some (.d (.int q)),o6] st):=cS c1 rfl
   refine⟨t',u',q3,q4,q5,q6,⟨a1,a2,a3,a4,a5,λz hz hwz=>?_⟩,?_⟩
   ·rcases qaH.mp hz with rfl|hz
    ·rw[hw]at hwz;cases hwz
    ·exact a6 z hz hwz
   ·rw[qay]
    simp only[cC,hs,qaa,hb]
    exact ih
  |true=>
   rw[hw]at c1
   have hoo:=ho hw
   have nh:Nb 168 (g 0*x+g 1*y):=(n0.mul nx).add (n1.mul ny)
   have e6:iOp bW (iOp aO (iOp dIx (iV 1) (iC (.int 0))) (iV 3)) (iOp aO (iOp dIx (iV 1) (iC (.int 1))) (iV 4)) [some (.d (cf m R b)),some (.d gs),some (.d (prD (t,u))),some (.d (.int x)),some (.d (.int y)),some (.d (.int q)),o6] st=some (.d (.int (g 0*x+g 1*y)),st):=i6 (ai rfl rfl (g0 _)) rfl (ai rfl rfl (g1 _)) rfl n0 nx n1 ny (by decide)
   obtain⟨hh,ehh⟩:∃ hh,g 0*x+g 1*y=hh:=⟨_,rfl⟩
   rw[ehh]at nh e6 hoo
   have c2:bm dGt (iOp aO (iV 6) (iOp dIx (iV 2) (iC (.int 1)))) (iOp aO (iOp dIx (iV 2) (iC (.int 0))) (iV 5)) [some (.d (cf m R b)),some (.d gs),some (.d (prD (t,u))),some (.d (.int x)),some (.d (.int y)),some (.d (.int q)),some (.d (.int hh))] st=some (decide (hh*u > t*q),st):=bf (ai rfl (ai rfl rfl (oM _ _ _)) (ce st (nh.ok nu))) (ai (ai rfl rfl (oq _ _ _)) rfl (ce st (nt.ok nq))) (rJ _ _ _)
   by_cases hc:hh*u > t*q
   ·rw[decide_eq_true hc]at c2
    obtain⟨t',u',q3,q4,q5,q6,⟨a1,a2,a3,a4,a5,a6⟩,ih⟩:=jm (st:=st) (p:=p) (G:=G) hL hm g0 g1 n0 n1 ts hh q (some (.d (.int x))) (some (.d (.int y))) (some (.d (.int q))) (some (.d (.int hh))) (λz hz=>h z (qah _ hz)) q0 nh.mono nq.mono hoo
    have hb:bT [some (.d (cf m R b)),some (.d gs),some (.d (prD (t,u))),some (.d (.int x)),some (.d (.int y)),some (.d (.int q)),o6] st=some (.nx [some (.d (cf m R b)),some (.d gs),some (.d (prD (hh,q))),some (.d (.int x)),some (.d (.int y)),some (.d (.int q)),some (.d (.int hh))] st):=eK c1 (ar (ax e6) (eK c2 (ax (pN (ah rfl (ah rfl rfl)) rfl (by show 2<=1000;decide)))))
    refine⟨t',u',q3,q4,q5,q6,⟨a1,a2,a3,a4,?_,λz hz hwz=>?_⟩,?_⟩
    ·exact Sx.ratio_trans u0 q0 a1 (show t*q<=hh*u by lia) a5
    ·rcases qaH.mp hz with rfl|hz
     ·show (g 0*x+g 1*y)*u'<=t'*q
      rw[ehh];exact a5
     ·exact a6 z hz hwz
    ·rw[qay]
     simp only[cC,hs,qaa,hb]
     exact ih
   ·rw[decide_eq_false hc]at c2
    obtain⟨t',u',q3,q4,q5,q6,⟨a1,a2,a3,a4,a5,a6⟩,ih⟩:=jm (st:=st) (p:=p) (G:=G) hL hm g0 g1 n0 n1 ts t u (some (.d (.int x))) (some (.d (.int y))) (some (.d (.int q))) (some (.d (.int hh))) (λz hz=>h z (qah _ hz)) u0 nt nu hp
    have hb:bT [some (.d (cf m R b)),some (.d gs),some (.d (prD (t,u))),some (.d (.int x)),some (.d (.int y)),some (.d (.int q)),o6] st=some (.nx [some (.d (cf m R b)),some (.d gs),some (.d (prD (t,u))),some (.d (.int x)),some (.d (.int y)),some (.d (.int q)),some (.d (.int hh))] st):=eK c1 (ar (ax e6) (cS c2 rfl))
    refine⟨t',u',q3,q4,q5,q6,⟨a1,a2,a3,a4,a5,λz hz hwz=>?_⟩,?_⟩
    ·rcases qaH.mp hz with rfl|hz
     ·show (g 0*x+g 1*y)*u'<=t'*q
      rw[ehh];exact Sx.ratio_trans q0 u0 a1 (show hh*u<=t*q by lia) a5
     ·exact a6 z hz hwz
    ·rw[qay]
     simp only[cC,hs,qaa,hb]
     exact ih
theorem uf {x y q:Int} (h:lO m R b x y q=true):Wth m R b x y q:=λi hi=>of_decide_eq_true (qaY.mp h i (qaB.mpr hi))
theorem tJ {x y q:Int} (h:Wth m R b x y q):lO m R b x y q=true:=qaY.mpr λi hi=>decide_eq_true (h i (qaB.mp hi))
theorem re {u v t:Int×Int×Int} (hu:Nb 55 u.1/\Nb 55 u.2.1/\Nb 55 u.2.2) (hv:Nb 55 v.1/\Nb 55 v.2.1/\Nb 55 v.2.2) (h:t∈jA u v):0<t.2.2/\Nb 112 t.1/\Nb 112 t.2.1/\Nb 112 t.2.2:=by
 obtain⟨na,nb,nc⟩:=hu
 obtain⟨nd,ne,ng⟩:=hv
 have z:Nb 111 0:=qdW (by decide)
 unfold jA at h
 split at h
 ·next q=>
  rw[qaj.mp h]
  exact⟨q,((nc.mul ne).sub (nb.mul ng)).mono,((na.mul ng).sub (nc.mul nd)).mono,((na.mul ne).sub (nb.mul nd)).mono⟩
 ·split at h
  ·next q=>
   rw[qaj.mp h]
   exact⟨by show 0<0 - _;lia,((nb.mul ng).sub (nc.mul ne)).mono,((nc.mul nd).sub (na.mul ng)).mono,z.sub ((na.mul ne).sub (nb.mul nd))⟩
  ·cases h
theorem yf {u v:Int×Int×Int}{x y p:Int} (hD:u.1*v.2.1 - u.2.1*v.1≠0) (hu:u.1*x+u.2.1*y=u.2.2*p) (hv:v.1*x+v.2.1*y=v.2.2*p):∃ t∈jA u v,t.1*p=x*t.2.2/\t.2.1*p=y*t.2.2:=by
 obtain⟨a,b,c⟩:=u
 obtain⟨d,e,g⟩:=v
 dsimp only at hD hu hv
 unfold jA
 dsimp only
 by_cases q:a*e - b*d > 0
 ·rw[if_pos q]
  exact⟨_,qaj.mpr rfl,by dsimp only;grind,by dsimp only;grind⟩
 ·rw[if_neg q,if_pos (by lia)]
  exact⟨_,qaj.mpr rfl,by dsimp only;grind,by dsimp only;grind⟩
theorem tE {x y p X Y q:Int} (p0:0<p) (q0:0<q) (h:Wth m R b x y p) (hX:X*p=x*q) (hY:Y*p=y*q):Wth m R b X Y q:=λi hi=>by
 have h1:=qbj (h i hi) (show 0<=q by lia)
 refine qcp (a:=p) ?_ p0
 have e1:p*(lnA m R i*X+lnB m R i*Y)=q*(lnA m R i*x+lnB m R i*y):=by grind
 have e2:p*(lnC m b i*q)=q*(lnC m b i*p):=by grind
 rw[e1,e2];exact h1
theorem oQ {st:Sto}{gs:D}{p:Int}{am pr:Nat->Int} (h:Inp m 2 R b g) (M:jt (bZ m 2 R b g) p am pr) (g0:∀ s,dIx s (.d gs) (.d (.int 0))=some (.int (g 0))) (g1:∀ s,dIx s (.d gs) (.d (.int 1))=some (.int (g 1))) (n0:Nb 55 (g 0)) (n1:Nb 55 (g 1)):∃ t u,Nb 200 t/\Nb 200 u/\(g 0*am 0+g 1*am 1)*u=t*p/\cW [.d (cf m R b),.d gs] st=some (.d (prD (t,u)),st):=by
 have hL:=wB h
 have hm:=h.m64
 have p1:=M.p1
 have hT:T3 (jF m R b) (m+2):=λi hi=>hL i hi
 have ec:=qv (st:=st) hT (by lia)
 have htop:∀ {x y q:Int},Wth m R b x y q->p*(g 0*x+g 1*y)<=q*(g 0*am 0+g 1*am 1):=λhw=>nU M hw
 have hin:=vq M
 obtain⟨i,j,hi,hj,hD,ti,tj⟩:=wl h M
 generalize hG:g 0*am 0+g 1*am 1=G at *
 have z1:Nb 200 0:=qdW (by decide)
 have z2:Nb 200 1:=by show (1:Int).natAbs<2^200;decide
 have hb0:0<=G:=by
  have:=htop (x:=0) (y:=0) (q:=1) (λi hi=>by
   rw[qas,qas,qb4]
   unfold lnC
   split
   ·next q=>exact (h.b i q).2
   ·exact qcv _)
  rw[qas,qas,qbQ]at this
  lia
 obtain⟨t,u,q3,q4,q5,q6,⟨a1,a2,a3,a4,_,a6⟩,e⟩:=jm (st:=st) (p:=p) (G:=G) hL hm g0 g1 n0 n1 (iN (jF m R b) (m+2)) 0 1 none none none none (λx hx=>by
  obtain⟨i,j,hi,hj,hx⟩:=vh hx
  obtain⟨b1,b2,b3,b4⟩:=re (hT i hi) (hT j (by lia)) hx
  exact⟨b1,b2,b3,b4,λhw=>htop (uf hw)⟩) (by decide) z1 z2 (by lia)
 refine⟨t,u,a2,a3,?_,?_⟩
 ·obtain⟨x,hx,x1,x2⟩:=yf (u:=jF m R b i) (v:=jF m R b j) (x:=am 0) (y:=am 1) (p:=p) hD ti tj
  obtain⟨b1,_⟩:=re (hT i hi) (hT j (by lia)) hx
  have hw:=tJ (tE (by lia) b1 hin x1 x2)
  have k1:=a6 x (vn hi hj hx) hw
  have k2:(g 0*x.1+g 1*x.2.1)*p=G*x.2.2:=by rw[<-hG];grind
  have k3:G*u<=t*p:=by
   refine qcp (a:=x.2.2) ?_ b1
   have:=qbj k1 (show 0<=p by lia)
   have e1:p*((g 0*x.1+g 1*x.2.1)*u)=x.2.2*(G*u):=by grind
   have e2:p*(t*x.2.2)=x.2.2*(t*p):=by grind
   rw[e1,e2]at this;exact this
  have k4:p*t=t*p:=qaz _ _
  have k5:u*G=G*u:=qaz _ _
  rw[k4,k5]at a4
  exact Int.le_antisymm k3 a4
 ·have hl:cf m R b=.lst ((qag (m+2)).map λi=>bU (jF m R b i)):=rfl
  have ec':dI [.d (cf m R b)] st=some (.d (.lst ((iN (jF m R b) (m+2)).map bU)),st):=ec
  exact bh (n:=7) (k:=2) (b:=cV) rfl (ar (show aD (.nm 2) (dj (aa (iC (.int 0)) (aa (iC (.int 1)) ak))) [some (.d (cf m R b)),some (.d gs),none,none,none,none,none] st=some (.nx [some (.d (cf m R b)),some (.d gs),some (.d (prD (0,1))),none,none,none,none] st) from rfl) (ar (bI (aV (aI rfl ec')) e) rfl))
theorem tT {st:Sto} (h:Inp m 2 R b g):∃ u,gm [.d (eQ m 2 R),.d (.tup (mpI m b)),.d (.tup (mpI 2 g))] st=some (.d (.bl true),st++u):=by
 have hL:=wB h
 have hm:=h.m64
 obtain⟨x,M,_,hx⟩:=vU h
 obtain⟨u,e4⟩:=hx st
 have e3:=t7 (st:=st) (R:=R) (b:=b) hm
 have g0:∀ s,dIx s (.d (.tup (mpI 2 g))) (.d (.int 0))=some (.int (g 0)):=λs=>rfl
 have g1:∀ s,dIx s (.d (.tup (mpI 2 g))) (.d (.int 1))=some (.int (g 1)):=λs=>rfl
 have p55:(2:Nat)^54<2^55:=by decide
 have n0:Nb 55 (g 0):=qbe (h.g 0 (by decide)) p55
 have n1:Nb 55 (g 1):=qbe (h.g 1 (by decide)) p55
 have eb:=rX (st:=st++u) (g:=g) hL hm g0 g1 n0 n1
 have wz:∀ {x y:Int},lO m R (λ_=>0) x y 0=true->Wth m R b x y 0:=λhw i hi=>by
  have:=uf hw i hi
  rw[qas]at this ⊢;exact this
 generalize eQ m 2 R=rs at *
 generalize D.tup (mpI m b)=bs at *
 cases M with
 |beyond way M=>
  obtain⟨w1,w2⟩:=xK M
  obtain⟨i,hi,hne,hz⟩:=yg h M
  have hx0:0<=way 0:=M.w0 0 (show 0<2 by decide)
  have hy0:0<=way 1:=M.w0 1 (show 1<2 by decide)
  obtain⟨c,d,c0,d0,hcd⟩:=za hz hx0 hy0 hne (by
   by_cases q0:way 0=0
   ·by_cases q1:way 1=0
    ·rw[q0,q1,qas,qas]at w2;lia
    ·exact .inr q1
   ·exact .inl q0)
  have got:∀ {X Y:Int},c*X=d*way 0->c*Y=d*way 1->lc m R g (X,Y)=true:=λ{X Y} h1 h2=>by
   unfold lc
   rw[qaV]
   refine⟨tJ λi hi=>?_,decide_eq_true ?_⟩
   ·have:=qbj (w1 i hi) (show 0<=d by lia)
    rw[qas,qas]at this
    refine qcp (a:=c) ?_ c0
    dsimp only
    have e1:c*(lnA m R i*X+lnB m R i*Y)=d*(lnA m R i*way 0+lnB m R i*way 1):=by grind
    rw[e1,qas,qas];exact this
   ·have:=qdo d0 w2
    dsimp only
    refine qeU (a:=c) ?_ (by lia)
    have e1:c*(g 0*X+g 1*Y)=d*(g 0*way 0+g 1*way 1):=by grind
    rw[e1,qas];exact this
  have hany:(eP m R (m+2)).any (lc m R g)=true:=by
   rw[qeq]
   rcases hcd with⟨h1,h2⟩|⟨h1,h2⟩
   ·exact⟨_,oT hi (qae),got h1 h2⟩
   ·exact⟨_,oT hi (qah _ qae),got h1 h2⟩
  rw[hany]at eb
  refine⟨u,bh (n:=8) (k:=3) (b:=dw) rfl (ar (ax (aI rfl e3)) (ar (ax (aI rfl e4)) (jj (eK (s:=st++u) (ur (aI rfl eb)) (cq (ai (ai rfl rfl (oq _ _ _)) rfl ?_))))))⟩
  exact (yO _ _ _).trans (by rw[show (("beyond" : Str)=="beyond")=true by decide])
 |most p am pr M=>
  have hany:(eP m R (m+2)).any (lc m R g)=false:=by
   cases hc:(eP m R (m+2)).any (lc m R g) with
   |false=>rfl
   |true=>
    exfalso
    obtain⟨⟨X,Y⟩,_,ht⟩:=qeq.mp hc
    unfold lc at ht
    rw[qaV]at ht
    have h1:=nU M (wz ht.1)
    have h2:=of_decide_eq_true ht.2
    have p1:=M.p1
    have:=qdo (show 0<p by lia) h2
    rw[qbJ]at h1
    dsimp only at h1 this
    lia
  rw[hany]at eb
  obtain⟨t,w,nt,nw,heq,eg⟩:=oQ (st:=st++u) (gs:=.tup (mpI 2 g)) h M g0 g1 n0 n1
  have a0:Nb 4000 (am 0):=M.sa 0 (show 0<2 by decide)
  have a1:Nb 4000 (am 1):=M.sa 1 (show 1<2 by decide)
  have ap:Nb 4000 p:=M.sp
  have nG:Nb 4056 (g 0*am 0+g 1*am 1):=(n0.mul a0).add (n1.mul a1)
  have i0:∀ s,dIx s (.d (.tup [.str "most",.int p,.tup (mpI 2 am),.tup (mpI m pr)])) (.d (.int 0))=some (.str "most"):=λs=>rfl
  have i1:∀ s,dIx s (.d (.tup [.str "most",.int p,.tup (mpI 2 am),.tup (mpI m pr)])) (.d (.int 1))=some (.int p):=λs=>rfl
  have i2:∀ s,dIx s (.d (.tup [.str "most",.int p,.tup (mpI 2 am),.tup (mpI m pr)])) (.d (.int 2))=some (.tup (mpI 2 am)):=λs=>rfl
  have k0:∀ s,dIx s (.d (.tup (mpI 2 am))) (.d (.int 0))=some (.int (am 0)):=λs=>rfl
  have k1:∀ s,dIx s (.d (.tup (mpI 2 am))) (.d (.int 1))=some (.int (am 1)):=λs=>rfl
  change ii [.d rs,.d bs,.d (.tup (mpI 2 g))] st=some (.d (.tup [.str "most",.int p,.tup (mpI 2 am),.tup (mpI m pr)]),st++u) at e4
  generalize D.tup [.str "most",.int p,.tup (mpI 2 am),.tup (mpI m pr)]=it at *
  generalize D.tup (mpI 2 am)=ta at *
  generalize D.tup (mpI 2 g)=gs at *
  have hq:dEq (st++u) (.d (.int ((g 0*am 0+g 1*am 1)*w))) (.d (.int (t*p)))=some (.bl true):=by rw[sR,heq];simp
  have u5:aD (.tp [5,6]) (aS cW (aa (iV 3) (aa (iV 2) ak))) [some (.d rs),some (.d bs),some (.d gs),some (.d (cf m R b)),some (.d it),none,none,none] (st++u)=some (.nx [some (.d rs),some (.d bs),some (.d gs),some (.d (cf m R b)),some (.d it),some (.d (.int t)),some (.d (.int w)),none] (st++u)):=by
   have:=aI (a:=aa (iV 3) (aa (iV 2) ak)) (env:=[some (.d rs),some (.d bs),some (.d gs),some (.d (cf m R b)),some (.d it),none,none,none]) (st:=st++u) rfl eg
   simp only[aD,this,qaa];rfl
  have e7:iOp bW (iOp aO (iOp dIx (iV 2) (iC (.int 0))) (iOp dIx (iOp dIx (iV 4) (iC (.int 2))) (iC (.int 0)))) (iOp aO (iOp dIx (iV 2) (iC (.int 1))) (iOp dIx (iOp dIx (iV 4) (iC (.int 2))) (iC (.int 1)))) [some (.d rs),some (.d bs),some (.d gs),some (.d (cf m R b)),some (.d it),some (.d (.int t)),some (.d (.int w)),none] (st++u)=some (.d (.int (g 0*am 0+g 1*am 1)),st++u):=i6 (ai rfl rfl (g0 _)) (ai (ai rfl rfl (i2 _)) rfl (k0 _)) (ai rfl rfl (g1 _)) (ai (ai rfl rfl (i2 _)) rfl (k1 _)) n0 a0 n1 a1 (by decide)
  generalize g 0*am 0+g 1*am 1=G at *
  refine⟨u,bh (n:=8) (k:=3) (b:=dw) rfl (ar (ax (aI rfl e3)) (ar (ax (aI rfl e4)) (ar (cS (s:=st++u) (ur (aI rfl eb)) rfl) (ar (cS (s:=st++u) (bf (ai rfl rfl (i0 _)) rfl rfl) rfl) (ar u5 (ar (ax e7) (cq (ai (ai rfl rfl (ce _ (nG.ok nw))) (ai rfl (ai rfl rfl (i1 _)) (ce _ (nt.ok ap))) hq))))))))⟩
end
end Own
section
set_option maxHeartbeats 1000000
namespace Own
open PySem L2
open Sx (Pb Tb Good Named Fe LV ZV piv lexP leastR leaveL sumN unit colV basis)
theorem zg {f:Tf}{env:Ev}{st s:Sto}{k:Bool} (h:f env st=some (k,s)):n6 f env st=some (!k,s):=by
 simp only[n6,h,qar]
def far (k:Int):Prop:=0<=k/\k<=1000000000000000
theorem gk {a b:Ef}{env:Ev}{st:Sto}{p:Nat}{m:Int} (ha:a env st=some (.h p,st)) (hb:b env st=some (.d (.int m),st)) (h:eM st p) (m0:0<m) (m1:m<=1000):∃ r st',0<=r/\r<m/\Stp p st st'/\aS bj (aa a (aa b ak)) env st=some (.d (.int r),st'):=by
 obtain⟨r,st',r0,r1,t,e⟩:=vo h m0 m1
 exact⟨r,st',r0,r1,t,aI (ah ha (ah hb rfl)) e⟩
theorem jo {a k:Int}{B:Int} (ha:-B<=a/\a<=B) (hB:0<=B) (hk:far k):-(B*1000000000000000)<=a*k/\a*k<=B*1000000000000000:=by
 obtain⟨k0,k1⟩:=hk
 have h1:a*k<=B*k:=qbp ha.2 k0
 have h2:-B*k<=a*k:=qbp ha.1 k0
 have h3:B*k<=B*1000000000000000:=qbj k1 hB
 rw[qbR]at h2
 lia
def Two (u:D):Prop:=∃ f:Nat->Int,(∀ c,c<2->(f c).natAbs<=2^54)/\u=.tup (mpI 2 f)
theorem uK {st:Sto}{p:Nat}{k:Int} (h:eM st p) (hk:far k):∃ u st',Two u/\Stp p st st'/\gn [.h p,.d (.int k)] st=some (.d u,st'):=by
 obtain⟨r1,s1,a0,a1,t1,e1⟩:=gk (a:=iV 0) (b:=iC (.int 7)) (env:=[some (.h p),some (.d (.int k))]) rfl rfl h (by decide) (by decide)
 obtain⟨r2,s2,b0,b1,t2,e2⟩:=gk (a:=iV 0) (b:=iC (.int 7)) (env:=[some (.h p),some (.d (.int k))]) (st:=s1) rfl rfl t1.hand (by decide) (by decide)
 have f1:=jo (a:=r1 - 3) (B:=3) (by lia) (by decide) hk
 have f2:=jo (a:=r2 - 3) (B:=3) (by lia) (by decide) hk
 refine⟨_,s2,⟨λc=>if c=0 then (r1 - 3)*k else (r2 - 3)*k,λc _=>?_,rfl⟩,t1.trans t2,?_⟩
 ·show (if c=0 then (r1 - 3)*k else (r2 - 3)*k).natAbs<=_
  split<;>lia
 ·exact bh (n:=2) (k:=2) (b:=gB) rfl (cq (pN (ds:=[.int ((r1 - 3)*k),.int ((r2 - 3)*k)]) (ah (ai (ai e1 rfl (qS _ _ _)) rfl (ce _ (i8 (by lia)))) (ah (ai (ai e2 rfl (qS _ _ _)) rfl (ce _ (i8 (by lia)))) rfl)) rfl (by show 2<=1000;decide)))
theorem qp {α:Type} [Inhabited α] {Q:α->Prop}{G:α->D}:∀ {us:List D},(∀ u∈us,∃ x,Q x/\u=G x)->∃ F:Nat->α,us=(qag us.length).map (λi=>G (F i))/\∀ i,i<us.length->Q (F i)
 |[],_=>⟨λ_=>default,rfl,λi hi=>absurd hi (qdx _)⟩
 |u::us,h=>by
  obtain⟨x,hx,e⟩:=h u qae
  obtain⟨F,e2,h2⟩:=qp (us:=us) λv hv=>h v (qah _ hv)
  refine⟨λi=>match i with|0=>x|i+1=>F i,?_,λi hi=>?_⟩
  ·rw[qaq,qb5,qay,qbs,e]
   congr 1
  ·match i,hi with
   |0,_=>exact hx
   |i+1,hi=>exact h2 i (by rw[qaq]at hi;lia)
theorem xX {st:Sto}{p:Nat}{d:D} (h:eM st p):∃ x s',(∃ k,far k/\x=.int k)/\Stp p st s'/\kG [some (.d d),some (.h p)] st=some (.d x,s'):=by
 obtain⟨r,s1,a0,a1,t1,e1⟩:=gk (a:=iV 1) (b:=iC (.int 4)) (env:=[some (.d d),some (.h p)]) rfl rfl h (by decide) (by decide)
 have hpow:∀ s,oW s (.d (.int 10)) (.d (.int 15))=some (.int 1000000000000000):=λs=>by
  show (if pU 10 15 then some (D.int (10^Int.toNat 15)) else none)=_
  rw[if_pos ⟨by decide,by decide,by decide⟩];rfl
 have hl:cQ (aa (iC (.int 1)) (aa (iC (.int 1)) (aa (iC (.int 1)) (aa (iOp oW (iC (.int 10)) (iC (.int 15))) ak)))) [some (.d d),some (.h p)] st=some ([.int 1,.int 1,.int 1,.int 1000000000000000],st):=by
  have:=ah (a:=iC (.int 1)) (env:=[some (.d d),some (.h p)]) (st:=st) rfl (ah (a:=iC (.int 1)) rfl (ah (a:=iC (.int 1)) rfl (ah (b:=ak) (ai (a:=iC (.int 10)) (b:=iC (.int 15)) rfl rfl (hpow _)) rfl)))
  simp only[cQ,this,qaa];rfl
 have hx:∃ k:Int,far k/\∀ s,dIx s (.d (.lst [.int 1,.int 1,.int 1,.int 1000000000000000])) (.d (.int r))=some (.int k):=by
  have:r=0\/r=1\/r=2\/r=3:=by lia
  rcases this with rfl|rfl|rfl|rfl
  ·exact⟨1,⟨by decide,by decide⟩,λ_=>rfl⟩
  ·exact⟨1,⟨by decide,by decide⟩,λ_=>rfl⟩
  ·exact⟨1,⟨by decide,by decide⟩,λ_=>rfl⟩
  ·exact⟨1000000000000000,⟨by decide,by decide⟩,λ_=>rfl⟩
 obtain⟨k,hk,ek⟩:=hx
 exact⟨_,s1,⟨k,hk,rfl⟩,t1,ai (aW hl) e1 (ek _)⟩
theorem vQ {ns:List Int}{i:Nat}{s:Sto}{o2 o3 o4 o5:Option W} (hi:i<=1000):∃ q2 q3 q4 q5 s',mS [some (.d (.scr ns)),some (.d (.int (i:Int))),o2,o3,o4,o5] s=some (.nx [some (.d (.scr ns)),some (.d (.int (i:Int))),q2,q3,q4,q5] s'):=by
 obtain⟨x,y,x0,e1⟩:=wL (st:=s) (ns:=ns) (k:=i) hi
 have h1:eM (s++[.l [.int x,.int y,.int 0]]) s.length:=⟨x,y,0,x0,by rw[qaJ (qal _),qdw];rfl⟩
 generalize s++[C.l [.int x,.int y,.int 0]]=s1 at *
 generalize s.length=p at *
 obtain⟨fs,s2,fl,fq,t2,e2⟩:=lJ (te:=kG) (a:=none) (l:=[some (.h p)]) (ds:=dL 0 3) (λu=>∃ k,far k/\u=.int k) h1 (λs d _ hs=>xX hs)
 match fs,fl,fq,e2 with
 |[u0,u1,u2],_,fq,e2=>
  obtain⟨k0,hk0,rfl⟩:=fq u0 (by simp)
  obtain⟨k1,hk1,rfl⟩:=fq u1 (by simp)
  obtain⟨k2,hk2,rfl⟩:=fq u2 (by simp)
  have n3:aM (iLc 1 [2] (eJ (aa (iC (.int 3)) ak)) (.nm 0) bG kG) [some (.d (.scr ns)),some (.d (.int (i:Int))),some (.h p),o3,o4,o5] s1=some (.d (.lst [.int k0,.int k1,.int k2]),s2):=aW (cD (nk (e:=iC (.int 3)) (z:=3) (m:=3) rfl (by decide) (by decide) rfl) (by show 3<=1000000;decide) e2)
  have i0:∀ s,dIx s (.d (.lst [.int k0,.int k1,.int k2])) (.d (.int 0))=some (.int k0):=λs=>rfl
  have i1:∀ s,dIx s (.d (.lst [.int k0,.int k1,.int k2])) (.d (.int 1))=some (.int k1):=λs=>rfl
  have i2:∀ s,dIx s (.d (.lst [.int k0,.int k1,.int k2])) (.d (.int 2))=some (.int k2):=λs=>rfl
  generalize D.lst [.int k0,.int k1,.int k2]=fa at *
  obtain⟨r,s3,r0,r1,t3,e3⟩:=gk (a:=iV 2) (b:=iC (.int 5)) (env:=[some (.d (.scr ns)),some (.d (.int (i:Int))),some (.h p),some (.d fa),o4,o5]) (st:=s2) rfl rfl t2.hand (by decide) (by decide)
  obtain⟨m,hm⟩:∃ m:Nat,r.toNat=m:=⟨_,rfl⟩
  obtain⟨rs,s4,rl,rq,t4,e4⟩:=lJ (te:=mD) (a:=none) (l:=[some (.h p),some (.d fa)]) (ds:=dL 0 m) Two t3.hand (λs d _ hs=>by
   obtain⟨u,s',hu,t,e⟩:=uK (k:=k0) hs hk0
   exact⟨u,s',hu,t,aI (ah rfl (ah (ai rfl rfl (i0 _)) rfl)) e⟩)
  have rl':rs.length=m:=by rw[rl];unfold dL;rw[qam,qao]
  have n4:iCB kO (aa (aM (iLc 1 [2,3] (eJ (aa (aS bj (aa (iV 2) (aa (iC (.int 5)) ak))) ak)) (.nm 0) bG mD)) ak) [some (.d (.scr ns)),some (.d (.int (i:Int))),some (.h p),some (.d fa),o4,o5] s2=some (.d (.tup rs),s4):=cO (ah (aW (cD (nk e3 r0 (by lia) hm) (by unfold dL;rw[qam,qao];lia) e4)) rfl) rfl
  obtain⟨bs,s5,bl,bq,t5,e5⟩:=lJ (te:=mP) (a:=none) (l:=[some (.h p),some (.d fa)]) (ds:=rs) (λu=>∃ z:Int,(z.natAbs<=2 ^ 54/\0<=z)/\u=.int z) t4.hand (λs d _ hs=>by
   obtain⟨z,s',z0,z1,t,e⟩:=gk (a:=iV 1) (b:=iC (.int 10)) (env:=[some (.d d),some (.h p),some (.d fa)]) (st:=s) rfl rfl hs (by decide) (by decide)
   have f1:=jo (a:=z) (B:=9) (by lia) (by decide) hk1
   have f2:0<=z*k1:=qdL z0 hk1.1
   exact⟨_,s',⟨z*k1,⟨by lia,f2⟩,rfl⟩,t,ai e (ai rfl rfl (i1 _)) (ce _ (i8 (by lia)))⟩)
  have n5:iCB kO (aa (aM (iLc 1 [2,3] (aL (iV 4)) (.nm 0) bG mP)) ak) [some (.d (.scr ns)),some (.d (.int (i:Int))),some (.h p),some (.d fa),some (.d (.tup rs)),o5] s4=some (.d (.tup bs),s5):=cO (ah (aW (cD (mq rfl) (by lia) e5)) rfl) rfl
  obtain⟨u,s6,⟨g,hg,rfl⟩,t6,e6⟩:=uK (k:=k2) t5.hand hk2
  obtain⟨R,eR,hR⟩:=qp (α:=Nat->Int) (G:=λf=>D.tup (mpI 2 f)) rq
  obtain⟨b,eb,hb⟩:=qp (α:=Int) (G:=D.int) bq
  rw[rl']at eR hR
  rw[bl,rl']at eb hb
  have hinp:Inp m 2 R b g:=⟨by lia,by decide,λi c hi hc=>hR i hi c hc,λi hi=>hb i hi,hg⟩
  obtain⟨v,ev⟩:=tT (st:=s6) hinp
  have er:eQ m 2 R=.tup rs:=by rw[eR];rfl
  have ebs:D.tup (mpI m b)=.tup bs:=by rw[eb];rfl
  rw[er,ebs]at ev
  exact⟨_,_,_,_,_,ar (ax (aI rfl e1)) (ar (ax n3) (ar (ax n4) (ar (ax n5) (cS (s:=s6++v) (zg (k:=true) (ur (aI (ah rfl (ah rfl (ah (aI (ah rfl (ah (ai rfl rfl (i2 _)) rfl)) e6) rfl))) ev))) rfl))))⟩
theorem uN (ns:List Int) (hl:ns.length<=63):∃ st,oY [.d (.scr ns)] []=some (.d (.bl true),st):=by
 obtain⟨m,hm,em⟩:∃ m:Nat,m<=9/\∀ s,eJ (aa (iOp bW (iC (.int 1)) (iCB vZ (aa (iC (.int 8)) (aa (iCB cv (aa (iV 0) ak)) ak)))) ak) [some (.d (.scr ns)),none,none,none,none,none] s=some (dL 0 m,s):=by
  have hlen:∀ s,cv s [.d (.scr ns)]=some (.int (((ns.map D.int).length:Nat):Int)):=λs=>rfl
  have hmin:∃ z:Int,(0<=z/\z<=8)/\∀ s,vZ s [.d (.int 8),.d (.int (((ns.map D.int).length:Nat):Int))]=some (.int z):=by
   rw[qam]
   refine⟨if ((ns.length:Nat):Int)<8 then ((ns.length:Nat):Int) else 8,by split<;>lia,λs=>?_⟩
   rfl
  obtain⟨z,hz,ez⟩:=hmin
  exact⟨(1+z).toNat,by lia,λs=>nk (ai rfl (cO (ah rfl (ah (cO (ah rfl rfl) (hlen s)) rfl)) (ez s)) rfl) (by lia) (by lia) rfl⟩
 obtain⟨env',s2,e2,o1,o2,o3,o4,o5,rfl⟩:=dB (g:=.nm 1) (body:=mS) (ds:=dL 0 m)
  (λi env s=>∃ o1 o2 o3 o4 o5,env=[some (.d (.scr ns)),o1,o2,o3,o4,o5])
  (env:=[some (.d (.scr ns)),none,none,none,none,none]) (st:=[]) ⟨_,_,_,_,_,rfl⟩ (λi d env s hd ⟨o1,o2,o3,o4,o5,e0⟩=>by
   subst e0
   obtain⟨hi,rfl⟩:=mU hd
   have ei:(0:Int)+((i:Nat):Int)=((i:Nat):Int):=by lia
   obtain⟨q2,q3,q4,q5,s',e⟩:=vQ (ns:=ns) (i:=i) (s:=s) (o2:=o2) (o3:=o3) (o4:=o4) (o5:=o5) (by lia)
   refine⟨[some (.d (.scr ns)),some (.d (.int (0+((i:Nat):Int)))),o2,o3,o4,o5],[some (.d (.scr ns)),some (.d (.int (i:Int))),q2,q3,q4,q5],s',rfl,.inl ?_,⟨_,_,_,_,_,rfl⟩⟩
   rw[ei];exact e)
 exact⟨_,oX (n:=6) (k:=1) (b:=qY) rfl (ar (bI (em []) e2) rfl)⟩
end Own
end
namespace Own
open PySem L2
theorem mH {us:List Value} (h:us.length=1):∃ a0,us=[a0]:=match us,h with|[a0],_=>⟨a0,rfl⟩
theorem mQ {us:List Value} (h:us.length=2):∃ a0 a1,us=[a0,a1]:=match us,h with|[a0,a1],_=>⟨a0,a1,rfl⟩
theorem ub {us:List Value} (h:us.length=3):∃ a0 a1 a2,us=[a0,a1,a2]:=match us,h with|[a0,a1,a2],_=>⟨a0,a1,a2,rfl⟩
theorem yo {us:List Value} (h:us.length=4):∃ a0 a1 a2 a3,us=[a0,a1,a2,a3]:=match us,h with|[a0,a1,a2,a3],_=>⟨a0,a1,a2,a3,rfl⟩
theorem txt_mk {K:qac}{h:Heap}{mg:Str->Option Value} (X:K.In h) (G:h.Ns qaE mg)
  {f0:Addr}{od0 an0:Option Addr}{sl0:Array (Option Value)}{oc0 kV0 dc0 pm0 cd0 ct0:Value}
  (a0:qaK K qaE "greatest_part" = some (some (.ref f0))) (l0:K.lookup f0=some ⟨oc0,od0,.func (qaO "greatest_part" "greatest_part" (aN bC) (aF bC) (ac bC) .none kV0 dc0 pm0 an0 cd0 ct0),sl0⟩) (c0:qaL K cd0 "greatest_part" = true) (k0:qaG K (.ref f0)=true)
  {f1:Addr}{od1 an1:Option Addr}{sl1:Array (Option Value)}{oc1 kV1 dc1 pm1 cd1 ct1:Value}
  (a1:qaK K qaE "lowered" = some (some (.ref f1))) (l1:K.lookup f1=some ⟨oc1,od1,.func (qaO "lowered" "lowered" (aN dk) (aF dk) (ac dk) .none kV1 dc1 pm1 an1 cd1 ct1),sl1⟩) (c1:qaL K cd1 "lowered" = true) (k1:qaG K (.ref f1)=true)
  {f2:Addr}{od2 an2:Option Addr}{sl2:Array (Option Value)}{oc2 kV2 dc2 pm2 cd2 ct2:Value}
  {ca_Table:Addr} (cm_Table:qaK K qaE "Table" = some (some (.ref ca_Table)))
  (a2:qbh K (.ref ca_Table) "__init__" = some (some (.ref f2))) (l2:K.lookup f2=some ⟨oc2,od2,.func (qaO "__init__" "Table.__init__" (aN bN) (aF bN) (ac bN) .none kV2 dc2 pm2 an2 cd2 ct2),sl2⟩) (c2:qaL K cd2 "Table.__init__" = true) (k2:qaG K (.ref f2)=true)
  {f3:Addr}{od3 an3:Option Addr}{sl3:Array (Option Value)}{oc3 kV3 dc3 pm3 cd3 ct3:Value}
  (a3:qaK K qaE "least_ratio" = some (some (.ref f3))) (l3:K.lookup f3=some ⟨oc3,od3,.func (qaO "least_ratio" "least_ratio" (aN bX) (aF bX) (ac bX) .none kV3 dc3 pm3 an3 cd3 ct3),sl3⟩) (c3:qaL K cd3 "least_ratio" = true) (k3:qaG K (.ref f3)=true)
  {f4:Addr}{od4 an4:Option Addr}{sl4:Array (Option Value)}{oc4 kV4 dc4 pm4 cd4 ct4:Value}
  (a4:qaK K qaE "weighed" = some (some (.ref f4))) (l4:K.lookup f4=some ⟨oc4,od4,.func (qaO "weighed" "weighed" (aN dU) (aF dU) (ac dU) .none kV4 dc4 pm4 an4 cd4 ct4),sl4⟩) (c4:qaL K cd4 "weighed" = true) (k4:qaG K (.ref f4)=true)
  {f5:Addr}{od5 an5:Option Addr}{sl5:Array (Option Value)}{oc5 kV5 dc5 pm5 cd5 ct5:Value}
  (a5:qaK K qaE "numbers_by" = some (some (.ref f5))) (l5:K.lookup f5=some ⟨oc5,od5,.func (qaO "numbers_by" "numbers_by" (aN bA) (aF bA) (ac bA) .none kV5 dc5 pm5 an5 cd5 ct5),sl5⟩) (c5:qaL K cd5 "numbers_by" = true) (k5:qaG K (.ref f5)=true)
  {f6:Addr}{od6 an6:Option Addr}{sl6:Array (Option Value)}{oc6 kV6 dc6 pm6 cd6 ct6:Value}
  (a6:qaK K qaE "leaving" = some (some (.ref f6))) (l6:K.lookup f6=some ⟨oc6,od6,.func (qaO "leaving" "leaving" (aN cL) (aF cL) (ac cL) .none kV6 dc6 pm6 an6 cd6 ct6),sl6⟩) (c6:qaL K cd6 "leaving" = true) (k6:qaG K (.ref f6)=true)
  {f7:Addr}{od7 an7:Option Addr}{sl7:Array (Option Value)}{oc7 kV7 dc7 pm7 cd7 ct7:Value}
  (a7:qaK K qaE "gains_more" = some (some (.ref f7))) (l7:K.lookup f7=some ⟨oc7,od7,.func (qaO "gains_more" "gains_more" (aN cn) (aF cn) (ac cn) .none kV7 dc7 pm7 an7 cd7 ct7),sl7⟩) (c7:qaL K cd7 "gains_more" = true) (k7:qaG K (.ref f7)=true)
  {f8:Addr}{od8 an8:Option Addr}{sl8:Array (Option Value)}{oc8 kV8 dc8 pm8 cd8 ct8:Value}
  (a8:qaK K qaE "best_step" = some (some (.ref f8))) (l8:K.lookup f8=some ⟨oc8,od8,.func (qaO "best_step" "best_step" (aN cH) (aF cH) (ac cH) .none kV8 dc8 pm8 an8 cd8 ct8),sl8⟩) (c8:qaL K cd8 "best_step" = true) (k8:qaG K (.ref f8)=true)
  {f9:Addr}{od9 an9:Option Addr}{sl9:Array (Option Value)}{oc9 kV9 dc9 pm9 cd9 ct9:Value}
  (a9:qaK K qaE "swept" = some (some (.ref f9))) (l9:K.lookup f9=some ⟨oc9,od9,.func (qaO "swept" "swept" (aN fN) (aF fN) (ac fN) .none kV9 dc9 pm9 an9 cd9 ct9),sl9⟩) (c9:qaL K cd9 "swept" = true) (k9:qaG K (.ref f9)=true)
  {f10:Addr}{od10 an10:Option Addr}{sl10:Array (Option Value)}{oc10 kV10 dc10 pm10 cd10 ct10:Value}
  (a10:qaK K qaE "exchange" = some (some (.ref f10))) (l10:K.lookup f10=some ⟨oc10,od10,.func (qaO "exchange" "exchange" (aN cF) (aF cF) (ac cF) .none kV10 dc10 pm10 an10 cd10 ct10),sl10⟩) (c10:qaL K cd10 "exchange" = true) (k10:qaG K (.ref f10)=true)
  {f11:Addr}{od11 an11:Option Addr}{sl11:Array (Option Value)}{oc11 kV11 dc11 pm11 cd11 ct11:Value}
  (a11:qaK K qaE "way_of" = some (some (.ref f11))) (l11:K.lookup f11=some ⟨oc11,od11,.func (qaO "way_of" "way_of" (aN fA) (aF fA) (ac fA) .none kV11 dc11 pm11 an11 cd11 ct11),sl11⟩) (c11:qaL K cd11 "way_of" = true) (k11:qaG K (.ref f11)=true)
  {f12:Addr}{od12 an12:Option Addr}{sl12:Array (Option Value)}{oc12 kV12 dc12 pm12 cd12 ct12:Value}
  (a12:qaK K qaE "amounts_of" = some (some (.ref f12))) (l12:K.lookup f12=some ⟨oc12,od12,.func (qaO "amounts_of" "amounts_of" (aN cu) (aF cu) (ac cu) .none kV12 dc12 pm12 an12 cd12 ct12),sl12⟩) (c12:qaL K cd12 "amounts_of" = true) (k12:qaG K (.ref f12)=true)
  {f13:Addr}{od13 an13:Option Addr}{sl13:Array (Option Value)}{oc13 kV13 dc13 pm13 cd13 ct13:Value}
  (a13:qaK K qaE "prices_of" = some (some (.ref f13))) (l13:K.lookup f13=some ⟨oc13,od13,.func (qaO "prices_of" "prices_of" (aN cE) (aF cE) (ac cE) .none kV13 dc13 pm13 an13 cd13 ct13),sl13⟩) (c13:qaL K cd13 "prices_of" = true) (k13:qaG K (.ref f13)=true)
  {f14:Addr}{od14 an14:Option Addr}{sl14:Array (Option Value)}{oc14 kV14 dc14 pm14 cd14 ct14:Value}
  (a14:qaK K qaE "found_most" = some (some (.ref f14))) (l14:K.lookup f14=some ⟨oc14,od14,.func (qaO "found_most" "found_most" (aN bF) (aF bF) (ac bF) .none kV14 dc14 pm14 an14 cd14 ct14),sl14⟩) (c14:qaL K cd14 "found_most" = true) (k14:qaG K (.ref f14)=true)
  {f15:Addr}{od15 an15:Option Addr}{sl15:Array (Option Value)}{oc15 kV15 dc15 pm15 cd15 ct15:Value}
  (a15:qaK K qaE "most_of" = some (some (.ref f15))) (l15:K.lookup f15=some ⟨oc15,od15,.func (qaO "most_of" "most_of" (aN dS) (aF dS) (ac dS) .none kV15 dc15 pm15 an15 cd15 ct15),sl15⟩) (c15:qaL K cd15 "most_of" = true) (k15:qaG K (.ref f15)=true)
  {f16:Addr}{od16 an16:Option Addr}{sl16:Array (Option Value)}{oc16 kV16 dc16 pm16 cd16 ct16:Value}
  (a16:qaK K qaE "_law_pot" = some (some (.ref f16))) (l16:K.lookup f16=some ⟨oc16,od16,.func (qaO "_law_pot" "_law_pot" (aN cY) (aF cY) (ac cY) .none kV16 dc16 pm16 an16 cd16 ct16),sl16⟩) (c16:qaL K cd16 "_law_pot" = true) (k16:qaG K (.ref f16)=true)
  {f17:Addr}{od17 an17:Option Addr}{sl17:Array (Option Value)}{oc17 kV17 dc17 pm17 cd17 ct17:Value}
  (a17:qaK K qaE "_law_pick" = some (some (.ref f17))) (l17:K.lookup f17=some ⟨oc17,od17,.func (qaO "_law_pick" "_law_pick" (aN cI) (aF cI) (ac cI) .none kV17 dc17 pm17 an17 cd17 ct17),sl17⟩) (c17:qaL K cd17 "_law_pick" = true) (k17:qaG K (.ref f17)=true)
  {f18:Addr}{od18 an18:Option Addr}{sl18:Array (Option Value)}{oc18 kV18 dc18 pm18 cd18 ct18:Value}
  (a18:qaK K qaE "_law_two" = some (some (.ref f18))) (l18:K.lookup f18=some ⟨oc18,od18,.func (qaO "_law_two" "_law_two" (aN db) (aF db) (ac db) .none kV18 dc18 pm18 an18 cd18 ct18),sl18⟩) (c18:qaL K cd18 "_law_two" = true) (k18:qaG K (.ref f18)=true)
  {f19:Addr}{od19 an19:Option Addr}{sl19:Array (Option Value)}{oc19 kV19 dc19 pm19 cd19 ct19:Value}
  (a19:qaK K qaE "_law_lines" = some (some (.ref f19))) (l19:K.lookup f19=some ⟨oc19,od19,.func (qaO "_law_lines" "_law_lines" (aN bR) (aF bR) (ac bR) .none kV19 dc19 pm19 an19 cd19 ct19),sl19⟩) (c19:qaL K cd19 "_law_lines" = true) (k19:qaG K (.ref f19)=true)
  {f20:Addr}{od20 an20:Option Addr}{sl20:Array (Option Value)}{oc20 kV20 dc20 pm20 cd20 ct20:Value}
  (a20:qaK K qaE "_law_corners" = some (some (.ref f20))) (l20:K.lookup f20=some ⟨oc20,od20,.func (qaO "_law_corners" "_law_corners" (aN bH) (aF bH) (ac bH) .none kV20 dc20 pm20 an20 cd20 ct20),sl20⟩) (c20:qaL K cd20 "_law_corners" = true) (k20:qaG K (.ref f20)=true)
  {f21:Addr}{od21 an21:Option Addr}{sl21:Array (Option Value)}{oc21 kV21 dc21 pm21 cd21 ct21:Value}
  (a21:qaK K qaE "_law_greatest" = some (some (.ref f21))) (l21:K.lookup f21=some ⟨oc21,od21,.func (qaO "_law_greatest" "_law_greatest" (aN br) (aF br) (ac br) .none kV21 dc21 pm21 an21 cd21 ct21),sl21⟩) (c21:qaL K cd21 "_law_greatest" = true) (k21:qaG K (.ref f21)=true)
  {f22:Addr}{od22 an22:Option Addr}{sl22:Array (Option Value)}{oc22 kV22 dc22 pm22 cd22 ct22:Value}
  (a22:qaK K qaE "_law_is_beyond" = some (some (.ref f22))) (l22:K.lookup f22=some ⟨oc22,od22,.func (qaO "_law_is_beyond" "_law_is_beyond" (aN bi) (aF bi) (ac bi) .none kV22 dc22 pm22 an22 cd22 ct22),sl22⟩) (c22:qaL K cd22 "_law_is_beyond" = true) (k22:qaG K (.ref f22)=true)
  {f23:Addr}{od23 an23:Option Addr}{sl23:Array (Option Value)}{oc23 kV23 dc23 pm23 cd23 ct23:Value}
  (a23:qaK K qaE "_law_right" = some (some (.ref f23))) (l23:K.lookup f23=some ⟨oc23,od23,.func (qaO "_law_right" "_law_right" (aN cp) (aF cp) (ac cp) .none kV23 dc23 pm23 an23 cd23 ct23),sl23⟩) (c23:qaL K cd23 "_law_right" = true) (k23:qaG K (.ref f23)=true)
  {f24:Addr}{od24 an24:Option Addr}{sl24:Array (Option Value)}{oc24 kV24 dc24 pm24 cd24 ct24:Value}
  (a24:qaK K qaE "law" = some (some (.ref f24))) (l24:K.lookup f24=some ⟨oc24,od24,.func (qaO "law" "law" (aN iG) (aF iG) (ac iG) .none kV24 dc24 pm24 an24 cd24 ct24),sl24⟩) (c24:qaL K cd24 "law" = true) (k24:qaG K (.ref f24)=true)
  (z_abs:qaK K qaE "abs" = some none)
  (z_all:qaK K qaE "all" = some none)
  (z_enumerate:qaK K qaE "enumerate" = some none)
  (z_int:qaK K qaE "int" = some none)
  (z_len:qaK K qaE "len" = some none)
  (z_list:qaK K qaE "list" = some none)
  (z_min:qaK K qaE "min" = some none)
  (z_range:qaK K qaE "range" = some none)
  (z_tuple:qaK K qaE "tuple" = some none)
  (z_zip:qaK K qaE "zip" = some none)
  (mk0_Table:qef K ca_Table=true)
  (mk2_Table:qf6 K (.ref f2)=true)
  (mk3_Table:qaG K (.ref ca_Table)=true)
  (cl0_Table:qde K ca_Table Str.empty=true)
  (cl1_Table:qc3 K ca_Table=true)
  (cl2_Table:qdT K ca_Table=true)
  (cl3_Table:qbh K (.ref ca_Table) "__setattr__" = some (some (.builtin "object.__setattr__")))
  (na0_Table:qbh K (.ref ca_Table) "amounts" = some none)
  (na1_Table:qbh K (.ref ca_Table) "lines" = some none)
  (na2_Table:qbh K (.ref ca_Table) "goal" = some none)
  (na3_Table:qbh K (.ref ca_Table) "part" = some none)
  (na4_Table:qbh K (.ref ca_Table) "free" = some none)
  (na5_Table:qbh K (.ref ca_Table) "kept" = some none)
  : ∃ t,Txt K mg t/\t.f24=f24:=by
 have F0:=bD (st:=bC) l0 c0 k0
 have F1:=bD (st:=dk) l1 c1 k1
 have F2:=bD (st:=bN) l2 c2 k2
 have F3:=bD (st:=bX) l3 c3 k3
 have F4:=bD (st:=dU) l4 c4 k4
 have F5:=bD (st:=bA) l5 c5 k5
 have F6:=bD (st:=cL) l6 c6 k6
 have F7:=bD (st:=cn) l7 c7 k7
 have F8:=bD (st:=cH) l8 c8 k8
 have F9:=bD (st:=fN) l9 c9 k9
 have F10:=bD (st:=cF) l10 c10 k10
 have F11:=bD (st:=fA) l11 c11 k11
 have F12:=bD (st:=cu) l12 c12 k12
 have F13:=bD (st:=cE) l13 c13 k13
 have F14:=bD (st:=bF) l14 c14 k14
 have F15:=bD (st:=dS) l15 c15 k15
 have F16:=bD (st:=cY) l16 c16 k16
 have F17:=bD (st:=cI) l17 c17 k17
 have F18:=bD (st:=db) l18 c18 k18
 have F19:=bD (st:=bR) l19 c19 k19
 have F20:=bD (st:=bH) l20 c20 k20
 have F21:=bD (st:=br) l21 c21 k21
 have F22:=bD (st:=bi) l22 c22 k22
 have F23:=bD (st:=cp) l23 c23 k23
 have F24:=bD (st:=iG) l24 c24 k24
 refine⟨⟨f0,_,f1,_,f2,_,f3,_,f4,_,f5,_,f6,_,f7,_,f8,_,f9,_,f10,_,f11,_,f12,_,f13,_,f14,_,f15,_,f16,_,f17,_,f18,_,f19,_,f20,_,f21,_,f22,_,f23,_,f24,_,ca_Table⟩,⟨qaT X G cm_Table,F0,qaT X G a0,F0.binds λ_ _ _ _ _ _ us hl=>(by obtain⟨_,rfl⟩:=mH hl;rfl),F1,qaT X G a1,F1.binds λ_ _ _ _ _ _ us hl=>(by obtain⟨_,rfl⟩:=mH hl;rfl),F2,F2.binds λ_ _ _ _ _ _ us hl=>(by obtain⟨_,_,_,_,rfl⟩:=yo hl;rfl),⟨mk0_Table,a2,mk2_Table,mk3_Table⟩,⟨cl0_Table,cl1_Table,cl2_Table,cl3_Table⟩,qbV.mpr ⟨na0_Table,qbV.mpr ⟨na1_Table,qbV.mpr ⟨na2_Table,qbV.mpr ⟨na3_Table,qbV.mpr ⟨na4_Table,qbV.mpr ⟨na5_Table,λ_ h=>nomatch h⟩⟩⟩⟩⟩⟩,F3,qaT X G a3,F3.binds λ_ _ _ _ _ _ us hl=>(by obtain⟨_,_,_,rfl⟩:=ub hl;rfl),F4,qaT X G a4,F4.binds λ_ _ _ _ _ _ us hl=>(by obtain⟨_,rfl⟩:=mH hl;rfl),F5,qaT X G a5,F5.binds λ_ _ _ _ _ _ us hl=>(by obtain⟨_,_,rfl⟩:=mQ hl;rfl),F6,qaT X G a6,F6.binds λ_ _ _ _ _ _ us hl=>(by obtain⟨_,_,rfl⟩:=mQ hl;rfl),F7,qaT X G a7,F7.binds λ_ _ _ _ _ _ us hl=>(by obtain⟨_,_,_,rfl⟩:=ub hl;rfl),F8,qaT X G a8,F8.binds λ_ _ _ _ _ _ us hl=>(by obtain⟨_,rfl⟩:=mH hl;rfl),F9,qaT X G a9,F9.binds λ_ _ _ _ _ _ us hl=>(by obtain⟨_,_,_,_,rfl⟩:=yo hl;rfl),F10,qaT X G a10,F10.binds λ_ _ _ _ _ _ us hl=>(by obtain⟨_,_,_,rfl⟩:=ub hl;rfl),F11,qaT X G a11,F11.binds λ_ _ _ _ _ _ us hl=>(by obtain⟨_,_,rfl⟩:=mQ hl;rfl),F12,qaT X G a12,F12.binds λ_ _ _ _ _ _ us hl=>(by obtain⟨_,rfl⟩:=mH hl;rfl),F13,qaT X G a13,F13.binds λ_ _ _ _ _ _ us hl=>(by obtain⟨_,rfl⟩:=mH hl;rfl),F14,qaT X G a14,F14.binds λ_ _ _ _ _ _ us hl=>(by obtain⟨_,rfl⟩:=mH hl;rfl),F15,qaT X G a15,F15.binds λ_ _ _ _ _ _ us hl=>(by obtain⟨_,_,_,rfl⟩:=ub hl;rfl),F16,qaT X G a16,F16.binds λ_ _ _ _ _ _ us hl=>(by obtain⟨_,_,rfl⟩:=mQ hl;rfl),F17,qaT X G a17,F17.binds λ_ _ _ _ _ _ us hl=>(by obtain⟨_,_,rfl⟩:=mQ hl;rfl),F18,qaT X G a18,F18.binds λ_ _ _ _ _ _ us hl=>(by obtain⟨_,_,rfl⟩:=mQ hl;rfl),F19,qaT X G a19,F19.binds λ_ _ _ _ _ _ us hl=>(by obtain⟨_,_,rfl⟩:=mQ hl;rfl),F20,qaT X G a20,F20.binds λ_ _ _ _ _ _ us hl=>(by obtain⟨_,rfl⟩:=mH hl;rfl),F21,qaT X G a21,F21.binds λ_ _ _ _ _ _ us hl=>(by obtain⟨_,_,rfl⟩:=mQ hl;rfl),F22,qaT X G a22,F22.binds λ_ _ _ _ _ _ us hl=>(by obtain⟨_,_,rfl⟩:=mQ hl;rfl),F23,qaT X G a23,F23.binds λ_ _ _ _ _ _ us hl=>(by obtain⟨_,_,_,rfl⟩:=ub hl;rfl),F24,qaT X G a24,F24.binds λ_ _ _ _ _ _ us hl=>(by obtain⟨_,rfl⟩:=mH hl;rfl),qbn X G z_abs,qbn X G z_all,qbn X G z_enumerate,qbn X G z_int,qbn X G z_len,qbn X G z_list,qbn X G z_min,qbn X G z_range,qbn X G z_tuple,qbn X G z_zip⟩,rfl⟩
theorem txt_ex {K:qac}{mg:Str->Option Value}{f:Addr} (h:∃ t,Txt K mg t/\t.f24=f):∃ t,Txt K mg t:=let ⟨t,a,_⟩:=h;⟨t,a⟩
theorem walk {l:qeg}{q:qa0}{loose:List Str}{XP:(Str->Option Value)->Heap->Prop}{YP:World->Heap->Prop}{d:DefRec}{K:Params->qac} (hn:l.most=some 63) (hdf:d.params.defaults=[])
  (hY:∀ (w:World) (h:Heap),YP w h->(K w.params).In h)
  (F:∀ (w:World) (mg:Str->Option Value) (fa:Addr) (h:Heap),(K w.params).In h->h.Ns qaE mg->mg d.name=some (.ref fa)->
    ∃ fd:qa2,(∀ (s:qak) (u:Value),qfE s fd ⟨[u],[]⟩ [("_law_script",u)])/\∀ base:Heap,(K w.params).In base->base.Ns qaE mg->bO l.prog w (K w.params) mg base CX0 6 fa fd ["_law_script"] (spI (K w.params) oY)) :
  qfS q loose XP YP l.row.toRowW d [] (λf vs=>qft f vs):=
 L2.walk_of (n:=63) (k:=6) (x:="_law_script") (CX:=λ_=>CX0) (sp:=λw=>spI (K w.params) oY) hn (by decide) hdf ⟨rfl,by decide,by decide,rfl⟩ hY F (λ_ _ a ns hl hO hS=>vz hO hS (uN ns hl)) λ_ _ _ _ _ z=>z
theorem law_mk {l:qeg}{w:World}{K:qac}{h:Heap}{mg:Str->Option Value}{fa:Addr} (hfa:mg "law" = some (.ref fa)) (T0:∃ t,Txt K mg t) :
  ∃ fd:qa2,(∀ (s:qak) (v:Value),qfE s fd ⟨[v],[]⟩ [("_law_script",v)])/\∀ base:Heap,K.In base->base.Ns qaE mg->bO l.prog w K mg base CX0 6 fa fd ["_law_script"] (spI K oY):=by
 obtain⟨t,T⟩:=T0
 have e:=hfa.symm.trans T.m24
 cases e
 refine⟨t.g24,λs v=>?_,λbase _ _=>wU T⟩
 obtain⟨oc,od,kV,doc,pm,an,cdv,ct,osl,e,_⟩:=T.F24.ex
 rw[e]
 exact .of_eq rfl
end Own
theorem PySem.W.Fast.tw16710955601645916492:True:=trivial
theorem PySem.W.Fast.tw8017512905529310986:True:=trivial
theorem PySem.W.Fast.tw15102418062428389163:True:=trivial
theorem PySem.W.Fast.tw11520034738229112123:True:=trivial
theorem PySem.W.Fast.tw11788396615491704602:True:=trivial
theorem PySem.W.Fast.tw7147947470609881035:True:=trivial
theorem PySem.W.Fast.tw5796870188498908348:True:=trivial
theorem PySem.W.Fast.tw4302042513593477398:True:=trivial
theorem PySem.W.Fast.tw17453369024839211770:True:=trivial
theorem PySem.W.Fast.tw2318671169169184071:True:=trivial
theorem PySem.W.Fast.tw12745520529624799353:True:=trivial
theorem PySem.W.Fast.tw7504685954031934797:True:=trivial
theorem PySem.W.Fast.tw15245265791937920723:True:=trivial
theorem PySem.W.Fast.tw6555080354211030784:True:=trivial
theorem PySem.W.Fast.tw1984674011540907785:True:=trivial
theorem PySem.W.Fast.tw7726491869374551431:True:=trivial
theorem PySem.W.Fast.tw9859164706500400531:True:=trivial
theorem PySem.W.Fast.tw16162886845646794373:True:=trivial
theorem PySem.W.Fast.tw4093819720378703125:True:=trivial
theorem PySem.W.Fast.tw6407511378720991770:True:=trivial
theorem PySem.W.Fast.tw3921647001218106497:True:=trivial
theorem PySem.W.Fast.tw4689973872420134650:True:=trivial
theorem PySem.W.Fast.tw7286029240115744255:True:=trivial
theorem PySem.W.Fast.tw1810113337600687365:True:=trivial
theorem PySem.W.Fast.tw14215760255403246477:True:=trivial
theorem PySem.W.Fast.tw8663883097048167237:True:=trivial
theorem PySem.W.Fast.tw18239445137667365429:True:=trivial
theorem PySem.W.Fast.tw1299837483137044644:True:=trivial
theorem PySem.W.Fast.tw7256937616437119551:True:=trivial
theorem PySem.W.Fast.tw11524892411296752981:True:=trivial
theorem PySem.W.Fast.tw5867571840385326325:True:=trivial
theorem PySem.W.Fast.tw8797359267381441457:True:=trivial
theorem PySem.W.Fast.tw13324963924317737524:True:=trivial
theorem PySem.W.Fast.tw4205213338503526355:True:=trivial
theorem PySem.W.Fast.tw7785504160208007458:True:=trivial
theorem PySem.W.Fast.tw15703068581058253280:True:=trivial
theorem PySem.W.Fast.tw1009451952518772707:True:=trivial
theorem PySem.W.Fast.tw10673126629632198283:True:=trivial
theorem PySem.W.Fast.tw5077121668268360447:True:=trivial
theorem PySem.W.Fast.tw7538290643659596192:True:=trivial
theorem PySem.W.Fast.tw3945339158822829024:True:=trivial
theorem PySem.W.Fast.tw882418863434394991:True:=trivial
theorem PySem.W.Fast.tw10907687929270085838:True:=trivial
theorem PySem.W.Fast.tw14549889015026205469:True:=trivial
theorem PySem.W.Fast.tw8531679559937647594:True:=trivial
theorem PySem.W.Fast.tw4582129480007462998:True:=trivial
theorem PySem.W.Fast.tw2633509710656251656:True:=trivial
theorem PySem.W.Fast.tw13874561143093495894:True:=trivial
theorem PySem.W.Fast.tw15925966295861546207:True:=trivial
theorem PySem.W.Fast.tw8795195389176271475:True:=trivial
theorem PySem.W.Fast.tw17149580766359015733:True:=trivial
theorem PySem.W.Fast.tw5991336982775255377:True:=trivial
theorem PySem.W.Fast.tw13752352294712695531:True:=trivial
theorem PySem.W.Fast.tw7420459405067087313:True:=trivial
theorem PySem.W.Fast.tw10218635619590834334:True:=trivial
theorem PySem.W.Fast.tw15753958380991020774:True:=trivial
theorem PySem.W.Fast.tw11654540082644893430:True:=trivial
theorem PySem.W.Fast.tw2740248983473733124:True:=trivial
open PySem PySem.W PyProof.Rows
set_option maxRecDepth 100000 in
set_option maxHeartbeats 0 in
theorem PySem.Challenge.cw_signpoly_k24_two_amounts_holds : PySem.Challenge.rw_signpoly_k24_two_amounts.Holds := by
 w_on;o_law;k_head;(case hw=>w_witness2)
 k_fill
 refine Own.walk (l:=PySem.Challenge.rw_signpoly_k24_two_amounts) rfl rfl (λw h Y=>PySem.W.kIn_of Y) ?F
 case F=>
  intro w mg fa h KX G hmg
  refine Own.law_mk (h:=h) hmg ?T
  case T=>
   refine' Own.txt_ex (Own.txt_mk KX G ?a0 ?l0 ?c0 ?k0 ?a1 ?l1 ?c1 ?k1 ?cm_Table ?a2 ?l2 ?c2 ?k2 ?a3 ?l3 ?c3 ?k3 ?a4 ?l4 ?c4 ?k4 ?a5 ?l5 ?c5 ?k5 ?a6 ?l6 ?c6 ?k6 ?a7 ?l7 ?c7 ?k7 ?a8 ?l8 ?c8 ?k8 ?a9 ?l9 ?c9 ?k9 ?a10 ?l10 ?c10 ?k10 ?a11 ?l11 ?c11 ?k11 ?a12 ?l12 ?c12 ?k12 ?a13 ?l13 ?c13 ?k13 ?a14 ?l14 ?c14 ?k14 ?a15 ?l15 ?c15 ?k15 ?a16 ?l16 ?c16 ?k16 ?a17 ?l17 ?c17 ?k17 ?a18 ?l18 ?c18 ?k18 ?a19 ?l19 ?c19 ?k19 ?a20 ?l20 ?c20 ?k20 ?a21 ?l21 ?c21 ?k21 ?a22 ?l22 ?c22 ?k22 ?a23 ?l23 ?c23 ?k23 ?a24 ?l24 ?c24 ?k24 ?z_abs ?z_all ?z_enumerate ?z_int ?z_len ?z_list ?z_min ?z_range ?z_tuple ?z_zip ?mk0_Table ?mk2_Table ?mk3_Table ?cl0_Table ?cl1_Table ?cl2_Table ?cl3_Table ?na0_Table ?na1_Table ?na2_Table ?na3_Table ?na4_Table ?na5_Table)
   case a0=>k_is
   case l0=>k_is
   case c0=>k_is
   case k0=>k_is
   case a1=>k_is
   case l1=>k_is
   case c1=>k_is
   case k1=>k_is
   case cm_Table=>k_is
   case a2=>k_is
   case l2=>k_is
   case c2=>k_is
   case k2=>k_is
   case a3=>k_is
   case l3=>k_is
   case c3=>k_is
   case k3=>k_is
   case a4=>k_is
   case l4=>k_is
   case c4=>k_is
   case k4=>k_is
   case a5=>k_is
   case l5=>k_is
   case c5=>k_is
   case k5=>k_is
   case a6=>k_is
   case l6=>k_is
   case c6=>k_is
   case k6=>k_is
   case a7=>k_is
   case l7=>k_is
   case c7=>k_is
   case k7=>k_is
   case a8=>k_is
   case l8=>k_is
   case c8=>k_is
   case k8=>k_is
   case a9=>k_is
   case l9=>k_is
   case c9=>k_is
   case k9=>k_is
   case a10=>k_is
   case l10=>k_is
   case c10=>k_is
   case k10=>k_is
   case a11=>k_is
   case l11=>k_is
   case c11=>k_is
   case k11=>k_is
   case a12=>k_is
   case l12=>k_is
   case c12=>k_is
   case k12=>k_is
   case a13=>k_is
   case l13=>k_is
   case c13=>k_is
   case k13=>k_is
   case a14=>k_is
   case l14=>k_is
   case c14=>k_is
   case k14=>k_is
   case a15=>k_is
   case l15=>k_is
   case c15=>k_is
   case k15=>k_is
   case a16=>k_is
   case l16=>k_is
   case c16=>k_is
   case k16=>k_is
   case a17=>k_is
   case l17=>k_is
   case c17=>k_is
   case k17=>k_is
   case a18=>k_is
   case l18=>k_is
   case c18=>k_is
   case k18=>k_is
   case a19=>k_is
   case l19=>k_is
   case c19=>k_is
   case k19=>k_is
   case a20=>k_is
   case l20=>k_is
   case c20=>k_is
   case k20=>k_is
   case a21=>k_is
   case l21=>k_is
   case c21=>k_is
   case k21=>k_is
   case a22=>k_is
   case l22=>k_is
   case c22=>k_is
   case k22=>k_is
   case a23=>k_is
   case l23=>k_is
   case c23=>k_is
   case k23=>k_is
   case a24=>k_is
   case l24=>k_is
   case c24=>k_is
   case k24=>k_is
   case z_abs=>k_is
   case z_all=>k_is
   case z_enumerate=>k_is
   case z_int=>k_is
   case z_len=>k_is
   case z_list=>k_is
   case z_min=>k_is
   case z_range=>k_is
   case z_tuple=>k_is
   case z_zip=>k_is
   case mk0_Table=>kernel_rfl
   case mk2_Table=>kernel_rfl
   case mk3_Table=>kernel_rfl
   case cl0_Table=>kernel_rfl
   case cl1_Table=>kernel_rfl
   case cl2_Table=>kernel_rfl
   case cl3_Table=>kernel_rfl
   case na0_Table=>kernel_rfl
   case na1_Table=>kernel_rfl
   case na2_Table=>kernel_rfl
   case na3_Table=>kernel_rfl
   case na4_Table=>kernel_rfl
   case na5_Table=>kernel_rfl
